import PyProof.Rows.All
import Wide.All
import OpenK.AllK
import Wide.FinOn
import HandS.ForMost
import HandS.More
import HandS.Style
import HandS.TupAny
import HandS.IsInst
import HandS.Codes
import HandS.Exc
import HandS.Ends
import PyProof.P3Eq
import PyProof.ReprReads
import PyProof.TupleIter
import HandS.GenList
import HandS.AnyAll
import PyProof.GenComp
import PyProof.TupleOfGen
import HandS.Conv
import HandS.WordsDict
import HandS.Zip
import HandS.Zip0
import PyProof.Draws
import PyProof.EnumMake
import PyProof.EnumFor
import HandS.DictComp
import HandS.Walk
import PyProof.CollectWalk
import PyProof.ListNew
import HandS.SetFor
import HandS.EndTab
import HandS.Head0
import HandS.Head1
import HandS.Head2
import HandS.HeadEnd
import HandS.HeadHook1
import HandS.HeadHook2
import HandS.HeadHook3
import HandS.HeadHook4
import PySem.Challenge.RW_downtoground_k11_whole_the_order_of_term
set_option Elab.async false
set_option linter.all false
set_option maxRecDepth 100000
set_option maxHeartbeats 0
namespace Ad
open PySem PySem.Spec PySem.Calls PyProof.Rows L2
def topS (i : Nat) : Stmt := PySem.Challenge.pw_downtoground_k11_whole_the_order_of_term.main.body.getD i (.Pass ⟨0, 0, 0, 0⟩)
end Ad

/-! A tuple's tail from behind: t[:0:-1]. -/
namespace Ad
open PySem PySem.Spec PySem.Calls PyProof.Rows L2
section
variable {prog : Program} {w : World} {A : Around} {E : Value → Shared → Prop} {s : Shared}
theorem adj_back {n : Nat} (h : 1 ≤ n) : Builtin.Slice.sliceAdjust none (some 0) (-1) (n : Int) = ((n : Int) - 1, 0) := by
  unfold Builtin.Slice.sliceAdjust
  have h1 : ((-1 : Int) < 0) := by decide
  have h0 : ¬ ((0 : Int) < 0) := by decide
  simp only [h1, h0, if_true, if_false]
  congr 1
  omega
theorem places_back (n : Nat) : Builtin.Slice.slicePlaces ((n : Int) - 1) 0 (-1) = n - 1 := by
  unfold Builtin.Slice.slicePlaces
  have h1 : ¬ ((-1 : Int) > 0) := by decide
  have h2 : (- (-1 : Int)) = 1 := by decide
  simp only [h1, if_false, h2, Int.ediv_one]
  split <;> omega
theorem pick_back (xs : Array Value) : ((List.range (xs.size - 1)).filterMap fun (k : Nat) => xs[(((xs.size : Int) - 1) + (k : Int) * (-1)).toNat]?).toArray = (xs.toList.drop 1).reverse.toArray := by
  congr 1
  obtain ⟨l⟩ := xs
  simp only [List.size_toArray]
  have key : ∀ m, m ≤ l.length - 1 → (List.range m).filterMap (fun (k : Nat) => (l.toArray)[(((l.length : Int) - 1) + (k : Int) * (-1)).toNat]?) = (l.drop (l.length - m)).reverse := by
    intro m
    induction m with
    | zero =>
      intro _
      rw [List.range_zero, List.filterMap_nil, Nat.sub_zero, List.drop_length, List.reverse_nil]
    | succ m ih =>
      intro hm
      rw [List.range_succ, List.filterMap_append, ih (by omega), List.filterMap_cons, List.filterMap_nil]
      have e : (((l.length : Int) - 1) + (m : Int) * (-1)).toNat = l.length - (m + 1) := by omega
      rw [e]
      have hlt : l.length - (m + 1) < l.length := by omega
      rw [List.getElem?_toArray, List.getElem?_eq_getElem hlt]
      have d : l.drop (l.length - (m + 1)) = l[l.length - (m + 1)] :: l.drop (l.length - m) := by
        rw [List.drop_eq_getElem_cons hlt]
        congr 2
        omega
      rw [d, List.reverse_cons]
  have k1 := key (l.length - 1) (Nat.le_refl _)
  rw [k1]
  by_cases h : l.length = 0
  · have : l = [] := List.length_eq_zero_iff.mp h
    subst this
    rfl
  · congr 2
    omega
theorem applied_back {sl : Addr} {vu vs : Value} {n : Nat} {Q : Int × Int × Nat → Shared → Prop} (here : s.heap.IsSliceOf sl .none vu vs) (pu : IsPart vu (some 0)) (ps : IsPart vs (some (-1))) (hn : 1 ≤ n)
    (h : Q ((n : Int) - 1, -1, n - 1) s) : wpAny (model prog w) A (Builtin.Slice.sliceApplied (.ref sl) (pure (n : Int))) Q E s := by
  obtain ⟨ob, at', _, dat⟩ := id here
  unfold Builtin.Slice.sliceApplied Builtin.Slice.sliceFields
  refine wpAny_bind (wpAny_bind ?_)
  refine wpAny_field at' dat (x := .none) rfl (wpAny_bind ?_)
  refine wpAny_field at' dat (x := vu) rfl (wpAny_bind ?_)
  refine wpAny_field at' dat (x := vs) rfl (wpAny_pure ?_)
  refine wpAny_bind (HT.slicePart_ ps ?_)
  show wpAny _ _ (if ((-1 : Int) == 0) = true then _ else _) _ _ s
  rw [if_neg (by decide)]
  refine wpAny_bind (slicePart_none (wpAny_bind ?_))
  refine HT.slicePart_ pu (wpAny_bind (wpAny_pure ?_))
  show wpAny _ _ (match Builtin.Slice.sliceAdjust none (some 0) (-1) (n : Int) with | (lo, hi) => pure (lo, (-1 : Int), Builtin.Slice.slicePlaces lo hi (-1))) _ _ s
  rw [adj_back hn]
  show wpAny _ _ (pure ((n : Int) - 1, (-1 : Int), Builtin.Slice.slicePlaces ((n : Int) - 1) 0 (-1))) _ _ s
  rw [places_back]
  exact wpAny_pure h
theorem item_back {t sl : Addr} {items : Array Value} {vu vs : Value} {Q : Value → Shared → Prop} (ht : IsTup s.heap t items) (here : s.heap.IsSliceOf sl .none vu vs) (pu : IsPart vu (some 0)) (ps : IsPart vs (some (-1))) (hn : 1 ≤ items.size)
    (h : Q (.ref s.heap.objs.size) { s with heap := s.heap.push { cls := .type "tuple", data := .seq (items.toList.drop 1).reverse.toArray } }) (hsz : items.size ≤ sizeLine) :
    wpAny (model prog w) A (getItem (.ref t) (.ref sl)) Q E s := by
  have fits : sizeOk (.seq (items.toList.drop 1).reverse.toArray) := by
    show (items.toList.drop 1).reverse.toArray.size ≤ sizeLine
    rw [List.size_toArray, List.length_reverse, List.length_drop, Array.length_toList]
    omega
  obtain ⟨ob, at', cl, _⟩ := id here
  have isSl : s.TypeIs (.ref sl) "slice" := ⟨ob, at', cl⟩
  unfold getItem
  try (with_reducible refine wpAny_holding ?_)
  first
    | refine wpAny_bind (wpAny_pure ?_)
    | skip
  refine wpAny_bind (wpAny_sequenceKey ht.typeIs (by decide) ?_)
  refine wpAny_bind (wpAny_callSpecial?_slot (name := Str.ofString "__getitem__") ht.typeIs slot_tuple_getitem ?_)
  refine wpAny_call_entry slot_tuple_getitem ht.typeIs entry_tuple_getitem ?_ (args_tuple_getitem _ _)
  show wpAny _ _ (Builtin.Tuple.tupleItemsOf (.ref t) >>= _) _ _ s
  refine wpAny_bind (tupleItemsOf_ ht (wpAny_bind (wpAny_typeOf isSl ?_)))
  rw [if_pos (by decide)]
  refine wpAny_bind (applied_back here pu ps hn ?_)
  have not1 : ¬ ((((items.size : Int) - 1) == 0 && (-1 : Int) == 1 && (items.size - 1) == items.size) = true) := by
    intro q
    rw [Bool.and_eq_true, Bool.and_eq_true] at q
    exact absurd q.1.2 (by decide)
  show wpAny _ _ (if (((items.size : Int) - 1) == 0 && (-1 : Int) == 1 && (items.size - 1) == items.size) = true then _ else _) _ _ s
  rw [if_neg not1]
  rw [pick_back]
  first
    | exact wpAny_bind (wpAny_bind (m := Builtin.Tuple.tupleExact _) (wpAny_newObj_type (wpAny_pure ⟨_, rfl, wpAny_pure h⟩) fits))
    | exact wpAny_bind (wpAny_bind (m := Builtin.Tuple.tupleExact _) (wpAny_newObj_type (wpAny_pure (wpAny_pure ⟨_, rfl, wpAny_pure h⟩)) fits))
    | exact wpAny_bind (m := Builtin.Tuple.tupleExact _) (wpAny_newObj_type (wpAny_bind (wpAny_pure (wpAny_pure ⟨_, rfl, wpAny_pure h⟩))) fits)
    | exact wpAny_bind (m := Builtin.Tuple.tupleExact _) (wpAny_newObj_type (wpAny_pure ⟨_, rfl, wpAny_pure h⟩) fits)
end
section
variable {X : Cx}
/-- t[:0:-1], t a tuple that is not empty -/
def tBack (K : PySem.W.Frag) (te : TE) : TE := fun σ H Q => te σ H fun x G => ∃ a xs, x = .ref a ∧ SqT K G a xs ∧ 1 ≤ xs.length ∧ ∀ p, G p = none → Q (.ref p) (upd G p (.tup (xs.drop 1).reverse))
theorem pe_back {e : Expr} {te : TE} {k k0 : Nat} {p0 p1 p2 p3 pos : Pos} (he : PE X e te) :
    PE X (.Subscript e (.Slice none (some (.Constant (.int 0) k0 p0)) (some (.UnaryOp .USub (.Constant (.int 1) k p1) p2)) p3) pos) (tBack X.K te) := by
  constructor
  intro pins s0 σ H Q J ask
  refine Subscript_ (thn (he.run pins s0 σ H _ J ask) fun v s1 back => ?_)
  obtain ⟨x, G, J1, rx, a, xs, rfl, hx, hne, q⟩ := back
  cases rx
  have up : PO X (some (.Constant (.int 0) k0 p0)) (tPart (tC (.int 0))) := po_some pe_int
  have st : PO X (some (.UnaryOp .USub (.Constant (.int 1) k p1) p2)) (tPart (tUn (rU fun i => .int (-i)) (tC (.int 1)))) := po_some (pe_un un_neg pe_int)
  refine wpAny_Slice (thn (po_none.run pins s1 σ G (fun o G2 => o = none ∧ G2 = G) J1 ⟨rfl, rfl⟩) fun vl s2 r2 => ?_)
  obtain ⟨l, G2, J2, pl, rfl, rfl⟩ := r2
  refine thn (up.run pins s2 σ G2 (fun o G3 => o = some 0 ∧ G3 = G2) J2 ⟨0, rfl, rfl, rfl⟩) fun vu s3 r3 => ?_
  obtain ⟨u, G3, J3, pu, rfl, rfl⟩ := r3
  refine thn (st.run pins s3 σ G3 (fun o G4 => o = some (-1) ∧ G4 = G3) J3 ⟨1, rfl, -1, rfl, rfl, rfl⟩) fun vs s4 r4 => ?_
  obtain ⟨o, G4, J4, ps, rfl, rfl⟩ := r4
  cases pl
  have J5 : Inv X pins σ G4 { s4 with heap := s4.heap.push { cls := .type "slice", data := .fields #[.none, vu, vs] } } := J4.kept (t' := s4.toks) fun b ob z => Heap.get?_push_of_some _ z
  obtain ⟨its, r, ht, hz⟩ := J5.tuple hx
  have len := r.length
  show wpAny (model X.prog X.w) X.A (subscriptTail e (.Slice none (some (.Constant (.int 0) k0 p0)) (some (.UnaryOp .USub (.Constant (.int 1) k p1) p2)) p3) (.ref a) (.ref s4.heap.objs.size)) (EP X pins σ Q) X.xe _
  refine tail_any (ops := [.ref a, .ref s4.heap.objs.size]) ht.typeIs slot_tuple_getitem.lookup ?_ (by with_unfolding_all rfl)
  refine item_back ht (Heap.IsSliceOf.new _ .none vu vs) pu ps (by rw [List.size_toArray]; omega) ?_ (by rw [List.size_toArray]; omega)
  refine ⟨.ref _, _, J5.laid (t' := s4.toks) (o := .tup (xs.drop 1).reverse) (fun b ob z => Heap.get?_push_of_some _ z) (Nat.le_refl _) ?_, rfl, q _ (J5.hok.fresh (Nat.le_refl _))⟩
  refine ⟨by rw [List.length_reverse, List.length_drop]; omega, _, (r.drop 1).reverse, IsTup.new _ _⟩
end
end Ad

/-! Defs that are called where no repr is under way; repr of data; the end of a law of such a def. -/
namespace Ad
open PySem PySem.Spec PySem.Calls PyProof.Rows L2
theorem deeper_guards {A : Around} {env : Env} (h : A.guards = some []) : (A.deeper env).guards = some [] := by
  first
    | exact h
    | (show (A.deeper env).guards = _; simp [Around.deeper, h])
    | (obtain ⟨a, b, c, d, e⟩ := A; cases h; rfl)
/-- a def's promise, kept wherever no repr is under way -/
structure FnG (P : Program) (w : World) (K : PySem.W.Frag) (mg : Str → Option Value) (base : Heap) (CX : CXT) (k : Nat) (f : Addr) (fd : FuncData) (ps : List Str) (sp : Sp) : Prop where
  len : ∀ vs H Q E, sp vs H Q E → vs.length = ps.length
  run : ∀ (A : Around) (outer : List Env) (s : Shared) (H : Hp) (args : Args) (us : List Value) (vs : List V) (Q : VK) (E : XK), A.guards = some [] → Room k A → Env0 P w K mg base A outer s H → BindsTo s fd args (ps.zip us) → Vals vs us → sp vs H Q E →
    codeAny (model P w) A (.call (.ref f) args) (CR CX outer P w H s Q E) s
/-- a def of the text, its code object told -/
structure FunC (K : PySem.W.Frag) (x qual : Str) (st : Stmt) (f : Addr) (cdv : Value) (fd : FuncData) : Prop where
  ex : ∃ (oc : Value) (od : Option Addr) (kV doc pm : Value) (an : Option Addr) (ct : Value) (osl : Array (Option Value)),
    fd = PySem.W.fnOf x qual (defArgs st) (defBody st) (defScope st) .none kV doc pm an cdv ct ∧ K.lookup f = some ⟨oc, od, .func fd, osl⟩ ∧ PySem.W.codeIn K cdv qual = true
  kp : PySem.W.keepIn K (.ref f) = true
theorem FunC.fun {K : PySem.W.Frag} {x qual : Str} {st : Stmt} {f : Addr} {cdv : Value} {fd : FuncData} (F : FunC K x qual st f cdv fd) : Fun K x qual st f fd := by
  obtain ⟨⟨oc, od, kV, doc, pm, an, ct, osl, h⟩, k⟩ := F
  exact ⟨⟨oc, od, kV, doc, pm, an, cdv, ct, osl, h⟩, k⟩
theorem fng_ofC {CX : CXT} {P : Program} {w : World} {K : PySem.W.Frag} {mg : Str → Option Value} {base : Heap} {k : Nat} {x qual : Str} {st : Stmt} {f : Addr} {cdv : Value} {fd : FuncData} {N ps : List Str} {sp : Sp} (F : FunC K x qual st f cdv fd) (S : FnScope N ps (defScope st))
    (len : ∀ vs H Q E, sp vs H Q E → vs.length = ps.length)
    (body : ∀ (A : Around) (outer : List Env) (s : Shared) (H : Hp) (vs : List V) (Q : VK) (E : XK), A.guards = some [] → Room k (A.deeper (envOfC qual (defScope st) s.heap.objs.size f cdv)) → sp vs H Q E →
      ∃ t, PSs (cxOf CX P w K mg base N qual (defScope st) f cdv A outer s H E) (defBody st) t ∧ t { nx := fun _ H' => Q .non H', rt := Q } (start N vs) H) : FnG P w K mg base CX (k + 1) f fd ps sp := by
  obtain ⟨oc, od, kV, doc, pm, an, ct, osl, rfl, look, code⟩ := F.ex
  constructor
  · exact len
  · intro A outer s H args us vs Q E gd room e0 binds rel asked
    have many := len _ _ _ _ asked
    have kin : K.In s.heap := e0.mod.kin.keeps fun b o e => (e0.bs b o e).1
    have lim : s.heap.NoLimit := e0.mod.nolimit.keeps fun b o e => (e0.bs b o e).1
    have kinds : ∀ y ∈ ps.zip us, (defScope st).names.lookup y.1 = some .local ∨ ((defScope st).names.lookup y.1 = some .cell ∧ ((cellsFrom (s.heap.objs.size + 1) (defScope st).names []).lookup y.1).isSome = true) := by
      rintro ⟨n, v⟩ hy
      rcases S.par n (List.of_mem_zip hy).1 with q | q
      · exact .inl q
      · exact .inr ⟨q, PySem.W.cellsFrom_some _ _ _ (.inl q)⟩
    refine codeAny_call_function room.depth (kin _ _ look) rfl S.co S.gen rfl (PySem.W.codeRec_of kin code) (binds _ _ _ _ ?_)
    refine wpAny_newFunctionEnv_cells S.kind kinds fun env he s1 ready => ?_
    subst he
    refine ⟨lim.keeps ready.toInCall.keep, codeAny_func ?_⟩
    obtain ⟨t, ht, hq⟩ := body A outer s H vs Q E gd (room.deeper _) asked
    have J : Inv (cxOf CX P w K mg base N qual (defScope st) f cdv A outer s H E) [] (start N vs) H s1 := inv_start S room.hd e0 many rel ready
    refine wpAny_mono (ht.run [] s1 (start N vs) H _ J hq) (fun fl s' hs => ?_) fun e s' hs => hs
    have fin : ∀ {σ' : L2.St} {H' : Hp} {v : V} {u : Value}, Inv (cxOf CX P w K mg base N qual (defScope st) f cdv A outer s H E) [] σ' H' s' → RelV v u → Q v H' → CE outer P w H s Q u s' := by
      intro σ' H' v u J' rv q
      exact ⟨v, H', J'.os, J'.bare, J'.base, J'.hok, rv, q⟩
    match fl, hs with
    | .ret u, ⟨v, σ', H', J', rv, q⟩ => exact fin J' rv q
    | .next, ⟨σ', H', J', q⟩ => exact fin (v := V.non) (u := Value.none) J' rfl q
    | .brk, ⟨_, _, _, q⟩ => exact False.elim q
    | .cont, ⟨_, _, _, q⟩ => exact False.elim q
theorem fng_of {CX : CXT} {P : Program} {w : World} {K : PySem.W.Frag} {mg : Str → Option Value} {base : Heap} {k : Nat} {x qual : Str} {st : Stmt} {f : Addr} {fd : FuncData} {N ps : List Str} {sp : Sp} (F : Fun K x qual st f fd) (S : FnScope N ps (defScope st))
    (len : ∀ vs H Q E, sp vs H Q E → vs.length = ps.length)
    (body : ∀ (cdv : Value) (A : Around) (outer : List Env) (s : Shared) (H : Hp) (vs : List V) (Q : VK) (E : XK), A.guards = some [] → Room k (A.deeper (envOfC qual (defScope st) s.heap.objs.size f cdv)) → sp vs H Q E →
      ∃ t, PSs (cxOf CX P w K mg base N qual (defScope st) f cdv A outer s H E) (defBody st) t ∧ t { nx := fun _ H' => Q .non H', rt := Q } (start N vs) H) : FnG P w K mg base CX (k + 1) f fd ps sp := by
  obtain ⟨⟨oc, od, kV, doc, pm, an, cdv, ct, osl, h⟩, kp⟩ := F
  exact fng_ofC (F := ⟨⟨oc, od, kV, doc, pm, an, ct, osl, h⟩, kp⟩) S len (body cdv)
/-- a def that keeps its promise everywhere -/
theorem FnG.of {CX : CXT} {P : Program} {w : World} {K : PySem.W.Frag} {mg : Str → Option Value} {base : Heap} {k : Nat} {f : Addr} {fd : FuncData} {ps : List Str} {sp : Sp} (F : FnOk P w K mg base CX k f fd ps sp) : FnG P w K mg base CX k f fd ps sp :=
  ⟨F.len, fun A outer s H args us vs Q E _ => F.run A outer s H args us vs Q E⟩
section
variable {X : Cx} {CX : CXT} {k : Nat} {f : Addr} {fd : FuncData} {ps : List Str} {sp : Sp} {E : XK} {x : Str} {p pos : Pos} {e : Expr} {es : List Expr} {t : TA}
/-- f(e, ..) of such a def, where no repr is under way -/
theorem pe_callG (F : FnG X.prog X.w X.K X.mg X.base CX k f fd ps sp) (gd : X.A.guards = some []) (hr : Room k X.A) (hg : Gl X x) (hm : X.mg x = some (.ref f)) (hk : PySem.W.keepIn X.K (.ref f) = true) (hb : Binds X.K fd ps []) (hx : Passes CX X E)
    (pa : PA X (e :: es) t) (hdb : (x == ("__debug__" : Str)) = false := by decide) (hst : starEach (e :: es) X.env = (false, eval e X.env) :: starEach es X.env := by rfl) (hpl : (backTo pos (starEach es X.env)).any (·.1) = false := by rfl) :
    PE X (.Call (.Name x p) (e :: es) [] pos) (tCall sp [] E t) := by
  constructor
  intro pins s σ H Q J ask
  refine wpAny_Call_Name_kw (ld_glob J hg hm ?_ hdb)
  refine PySem.W.callWith_K (h₀ := X.base) J.ok.mod.kin hk (thn (pa.run pos pins s σ H _ (J.tok _) ask) fun us s1 back => ?_) hst hpl
  obtain ⟨vs, G, J1, rel, q⟩ := back
  refine ⟨J1.kIn, ?_⟩
  have q' : sp vs G Q E := by
    have z : sp (vs ++ []) G Q E := q
    rw [List.append_nil] at z
    exact z
  have many : us.length = ps.length := by
    rw [← rel.length]
    exact F.len _ _ _ _ q'
  have b := hb s1 us J1.kIn (by rw [List.append_nil]; exact many)
  rw [List.append_nil] at b
  refine wpAny_call (codeAny_mono (F.run X.A X.stack s1 G ⟨us, []⟩ us vs Q E gd hr J1.env0 b rel q') fun r s' back => ?_)
  match r, back with
  | .error er, back => exact hx pins σ G s1 er s' J1 back
  | .ok (.ret u), back => exact J1.after back
  | .ok .next, back => exact False.elim back
  | .ok .brk, back => exact False.elim back
  | .ok .cont, back => exact False.elim back
/-- repr(x) of data, where no repr is under way -/
theorem call_reprD (gd : X.A.guards = some []) (hu : X.A.units + 64 < cLine) : CallR X (.builtin "repr") (fun xs H Q => ∃ (v : V) (d : PyData), xs = [v] ∧ Dp X.K H v d ∧ d.showable = true ∧ d.hasDict = false ∧ d.depth ≤ 60 ∧ d.shown.length ≤ sizeLine ∧ Q (.str d.shown) H) := by
  intro pins s σ H xs us Q J rel ask
  obtain ⟨v, d, rfl, hd, show', plain, deep, fits, q⟩ := ask
  match us, rel with
  | [u], .cons r .nil =>
    obtain ⟨as, reads⟩ := Dp.reads J d v u hd r
    cases reads with
    | none => exact P.repr_of_none ⟨.str _, H, J.tok _, ⟨_, rfl⟩, q⟩
    | bool b =>
      refine P.repr_of_bool ⟨.str _, H, J.tok _, ⟨_, rfl⟩, ?_⟩
      cases b <;> exact q
    | int i tk => exact P.repr_of_int (of_decide_eq_true show') ⟨.str _, H, J.tok _, ⟨_, rfl⟩, q⟩
    | str z tk => exact P.repr_of_str ⟨.str _, H, J.tok _, ⟨_, rfl⟩, q⟩ fits
    | list h1 h2 h3 h4 => exact repr_of_reads' (Reads.list h1 h2 h3 h4) show' (PyData.noDict_hsm plain) gd (by omega) (fun _ _ z => z) (fun h' u tk kp => ⟨.str _, H, J.kept (t' := tk) kp, ⟨_, rfl⟩, q⟩) fits
    | tuple h1 h2 h3 h4 => exact repr_of_reads' (Reads.tuple h1 h2 h3 h4) show' (PyData.noDict_hsm plain) gd (by omega) (fun _ _ z => z) (fun h' u tk kp => ⟨.str _, H, J.kept (t' := tk) kp, ⟨_, rfl⟩, q⟩) fits
    | dict h1 h2 h3 h4 h5 => cases plain
end
/-- the call of a law by such a def, from the state behind the top -/
theorem lawG {P : Program} {w : World} {K : PySem.W.Frag} {mg mb : Str → Option Value} {CX : CXT} {k : Nat} {fa a : Addr} {fd : FuncData} {x : Str} {sp : Sp} {s : Shared} {vs : List Value} {ns : List Int}
    (kin : K.In s.heap) (gl : s.heap.Ns mainGlobals mg) (bl : s.heap.Ns builtinsNs mb) (same : ∀ x : Str, x ≠ "__name__" → mb x = bootBuiltins x) (lim : s.heap.NoLimit) (gens : s.gens = #[])
    (at' : s.heap.get? a = some { cls := .type "list", data := .seq vs.toArray }) (nums : IntsAre vs ns) (few : ns.length ≤ sizeLine) (room : Room k callerA)
    (F : ∀ base : Heap, K.In base → base.Ns mainGlobals mg → FnG P w K mg base CX k fa fd [x] sp) (bind : ∀ (s : Shared) (u : Value), BindsTo s fd ⟨[u], []⟩ [(x, u)])
    (asked : ∀ H : Hp, Only H → SqL K H a (ns.map V.int) → sp [.ref a] H (fun v _ => v = .bl true) fun _ _ _ => False) (noExc : ∀ H e s', CX [] H s (fun _ _ _ => False) e s' → False) :
    codeAny (model P w) callerA (.call (.ref fa) ⟨[.ref a], []⟩) (fun r s' => r = .ok (.ret (.bool true)) ∧ OldK s.heap s'.heap ∧ s'.os = s.os ∧ AllBare s'.gens) s := by
  have rel := vals_ints nums
  have many := nums.length
  have from' : ∀ H : Hp, Only H → SqL K H a (ns.map V.int) → HOk P w H s.heap → (∀ b, H b ≠ none → b = a) → (H a ≠ none → K.lookup a = none) →
      codeAny (model P w) callerA (.call (.ref fa) ⟨[.ref a], []⟩) (fun r s' => r = .ok (.ret (.bool true)) ∧ OldK s.heap s'.heap ∧ s'.os = s.os ∧ AllBare s'.gens) s := by
    intro H only seq ok onlyA notK
    have hid : ∀ {b : Addr} {o : Obj}, s.heap.get? b = some o → H b = none → (hidT s.heap H).get? b = some o := by
      intro b o e n
      exact hidT_get e n
    have dict0 : ∀ {b : Addr} {o : Obj} {es : Array DictEntry} {ep : Nat}, s.heap.get? b = some o → o.data = .dict es ep → H b = none := by
      intro b o es ep e d
      cases q : H b with
      | none => rfl
      | some u =>
        obtain rfl : b = a := onlyA b (by rw [q]; exact Option.some_ne_none u)
        rw [at'] at e
        cases e
        exact nomatch (show Data.seq vs.toArray _ = Data.dict es ep from d)
    have ns' : ∀ {b : Addr} {m : Str → Option Value}, s.heap.Ns b m → (hidT s.heap H).Ns b m := by
      rintro b m ⟨o, es, ep, e, d, r⟩
      exact ⟨o, es, ep, hid e (dict0 e d), d, r⟩
    have kin' : K.In (hidT s.heap H) := by
      intro b o e
      refine hid (kin b o e) ?_
      cases q : H b with
      | none => rfl
      | some u =>
        obtain rfl : b = a := onlyA b (by rw [q]; exact Option.some_ne_none u)
        rw [notK (by rw [q]; exact Option.some_ne_none u)] at e
        cases e
    have mod : Mod K mg (hidT s.heap H) := by
      refine ⟨kin', ns' gl, ⟨mb, ns' bl, same⟩, ?_⟩
      obtain ⟨mc, h1, h2⟩ := lim
      exact ⟨mc, ns' h1, h2⟩
    have none' : ∀ {q : Prop} (b : Addr), b ∈ ([] : List Addr) → q := fun {q} b hb => absurd hb (by simp)
    have env : Env0 P w K mg (hidT s.heap H) callerA [] s H := ⟨rfl, mod, fun b o e => of_hidT e, Nat.le_of_eq (hidT_size _ _), trivial, fun b hb => none' b hb, ok, .of_eq gens⟩
    have run := (F _ kin' (ns' gl)).run callerA [] s H ⟨[.ref a], []⟩ [.ref a] [.ref a] _ _ rfl room env (bind s (.ref a)) (.cons rfl .nil) (asked H only seq)
    refine codeAny_mono run fun r s' back => ?_
    match r, back with
    | .error e, back => exact (noExc H e s' back).elim
    | .ok .next, back => exact False.elim back
    | .ok .brk, back => exact False.elim back
    | .ok .cont, back => exact False.elim back
    | .ok (.ret u), ⟨v, H', os, bare, un, ok', rv, (q : v = .bl true)⟩ =>
      subst q
      obtain rfl : u = Value.bool true := rv
      refine ⟨rfl, OldK.of_keep fun b o e => ?_, os, bare⟩
      cases q : H b with
      | none => exact un.keep b o e q (fun z => none' b z) (by simp)
      | some u =>
        rcases only b with z | ⟨ob, xs, z⟩
        · rw [q] at z
          cases z
        · obtain ⟨e1, _⟩ := ok b _ z
          obtain ⟨e2, _⟩ := ok' b _ (un.frzs b ob _ z)
          rw [e] at e1
          cases e1
          exact e2
  cases look : K.lookup a with
  | some o =>
    have e := kin a o look
    rw [at'] at e
    cases e
    refine from' (fun _ => none) (fun _ => .inl rfl) (.inr ⟨_, vs.toArray, _, look, rfl, rfl, rfl, ?_, by simpa using rel⟩) ?_ (fun b z => absurd rfl z) fun z => absurd rfl z
    · rw [List.size_toArray, many]
      exact few
    · intro b u z
      exact nomatch (show (none : Option HO) = some u from z)
  | none =>
    refine from' (fun b => if b = a then some (.frz { cls := .type "list", data := .seq vs.toArray } (.lst (ns.map V.int))) else none) (fun b => ?_) (.inl (.inr ⟨{ cls := .type "list", data := .seq vs.toArray }, if_pos rfl⟩)) (fun b u z => ?_) (fun b z => ?_) fun _ => look
    all_goals by_cases hb : b = a
    · exact .inr ⟨_, _, if_pos hb⟩
    · exact .inl (if_neg hb)
    · cases (if_pos hb).symm.trans z
      subst hb
      refine ⟨at', ?_, vs, _, rel, at'⟩
      rw [List.length_map]
      exact few
    · cases (if_neg hb).symm.trans z
    · exact hb
    · exact absurd (if_neg hb) z
/-- the head's goal from such a law's promise -/
theorem walkG {l : PySem.W.OpenLaw} {n k : Nat} {q : Program} {loose : List Str} {XP : (Str → Option Value) → Heap → Prop} {YP : World → Heap → Prop} {d : DefRec} {K : Params → PySem.W.Frag} {CX : World → CXT} {sp : World → Sp} {x : Str}
    (hn : l.most = some n) (hn2 : n ≤ sizeLine) (hdf : d.params.defaults = []) (room : Room k callerA) (hY : ∀ (w : World) (h : Heap), YP w h → (K w.params).In h)
    (F : ∀ (w : World) (mg : Str → Option Value) (fa : Addr) (h : Heap), (K w.params).In h → h.Ns mainGlobals mg → mg d.name = some (.ref fa) →
      ∃ fd : FuncData, (∀ (s : Shared) (u : Value), BindsTo s fd ⟨[u], []⟩ [(x, u)]) ∧ ∀ base : Heap, (K w.params).In base → base.Ns mainGlobals mg → FnG l.prog w (K w.params) mg base (CX w) k fa fd [x] (sp w))
    (asked : ∀ (w : World) (H : Hp) (a : Addr) (ns : List Int), ns.length ≤ n → Only H → SqL (K w.params) H a (ns.map V.int) → sp w [.ref a] H (fun v _ => v = .bl true) fun _ _ _ => False)
    (noExc : ∀ (w : World) (H : Hp) (s : Shared) (e : Value) (s' : Shared), CX w [] H s (fun _ _ _ => False) e s' → False) :
    PySem.W.WalkO q loose XP YP l.row.toRowW d [] (fun f vs => PySem.call f vs) := by
  refine Att.attach_call hn hdf ?_
  intro w s0 s1 mg mb fa o pm cd doc a vs ns G Y ho hd hcd hmg hobj nums short gens
  have kin := hY w _ Y
  obtain ⟨fd, binds, prom⟩ := F w mg fa _ kin G.T.g hmg
  exact lawG kin G.T.g G.T.b G.T.builtins G.T.nolimit gens hobj nums (Nat.le_trans short hn2) room prom binds (fun H only seq => asked w H a ns short only seq) fun H e s' => noExc w H s1 e s'
end Ad

/-! xs.extend(t) of a tuple. -/
namespace Ad
open PySem PySem.Spec PySem.Calls PyProof.Rows L2
section
variable {X : Cx}
/-- xs.extend(t), t a tuple that may carry more than its items -/
theorem ext_tuple (l : Addr) (items : Array Value) (n : Nat) (b : Addr) (zs : Array Value) (m : Nat) (dd : Option Addr) (sl : Array (Option Value)) (notLong : ¬(!items.isEmpty && Builtin.List.listTooLong (items.size + zs.size)) = true) (short : items.size ≤ sizeLine) (both : items.size + zs.size ≤ sizeLine + 1) :
    Meets (Builtin.«list.extend» ⟨[.ref l, .ref b], []⟩) (fun _ R s => s.heap.get? l = some { cls := .type "list", dict := none, data := .seq items n, slots := #[] } ∧ s.heap.get? b = some { cls := .type "tuple", dict := dd, data := .seq zs m, slots := sl } ∧
      R (.ok (.ret Value.none)) { s with heap := s.heap.update l (Obj.mapSeq fun x => x ++ zs), toks := s.toks }) :=
  .of_wp fun prog w A R s h => by
    obtain ⟨hp, g, d, tk, os⟩ := s
    obtain ⟨hl, hb, h⟩ := h
    have f1 := AutoSeq1.idx_int
    have f2 := AutoSeq1.sub_tuple_tuple
    have f3 := AutoSeq1.sub_list_list
    have f4 := AutoSeq1.sub_tuple_list
    have f5 := AutoSeq1.sub_list_tuple
    have size2 : (items ++ zs).size ≤ sizeLine + 1 := by rw [Array.size_append]; exact both
    wp_walk using (wpAny_updateSeq hl rfl (hz := short) (_hz' := size2)), AutoSeq1.wpAny_loadPart' hl, AutoSeq1.wpAny_loadPart' hb
    exact ⟨_, rfl, h⟩
/-- xs.extend(t), t a tuple -/
def rExtT (K : PySem.W.Frag) : V → List V → Hp → VK → Prop := fun x vs H Q => ∃ l b xs zs, x = .ref l ∧ vs = [.ref b] ∧ H l = some (.lst xs) ∧ SqT K H b zs ∧ xs.length + zs.length ≤ sizeLine ∧ Q .non (upd H l (.lst (xs ++ zs)))
theorem mt_extT : MtM X "list.extend" (rExtT X.K) := by
  intro pins s σ H x vs v us Q I rx rv h
  obtain ⟨l, b, xs, zs, rfl, rfl, hH, hB, hz, q⟩ := h
  cases rx
  obtain ⟨u, rfl, ru⟩ := rv.one
  cases ru
  obtain ⟨z, its, n, r, hl, e⟩ := I.lstM hH
  obtain ⟨its2, r2, ⟨⟨cls, dd, data, sl⟩, ho, hcl, n2, hd⟩, _⟩ := I.tuple hB
  simp only at hcl hd
  subst hcl hd
  have hl2 := r2.length
  have short : its.toArray.size + its2.toArray.size ≤ sizeLine := by rw [List.size_toArray, List.size_toArray]; omega
  have notLong : ¬ (!its.toArray.isEmpty && Builtin.List.listTooLong (its.toArray.size + its2.toArray.size)) = true := by
    rw [notLongL short, Bool.and_false]
    exact Bool.false_ne_true
  refine call_meets F.slot_list_extend ⟨_, e, rfl⟩ F.entry_list_extend (F.args_list_extend_2 _ _) (ext_tuple l its.toArray n b its2.toArray n2 dd sl notLong (by rw [List.size_toArray]; omega) (by omega)) ⟨e, ho, ?_⟩
  refine ⟨.non, _, I.lset (its' := its ++ its2) hH e (by simp) (r.append r2) ?_, rfl, q⟩
  rw [List.length_append]
  omega
end
end Ad

/-! Terms: a variable's number, or a name with arguments; where they stand. -/
namespace Ad
open PySem PySem.Spec PySem.Calls PyProof.Rows L2
/-- a name whose text is short -/
def nameOk (x : Str) : Bool := PyData.strOk x && decide ((PyData.shown (.str x)).length ≤ 10)
theorem nameOk_lay {x : Str} (h : nameOk x = true) : PyData.strOk x = true := (Bool.and_eq_true_iff.mp h).1
theorem nameOk_short {x : Str} (h : nameOk x = true) : (PyData.shown (.str x)).length ≤ 10 := of_decide_eq_true (Bool.and_eq_true_iff.mp h).2
inductive T where
  | v (i : Int)
  | f (x : Str) (ts : List T)
namespace T
mutual
def d : T → PyData
  | .v i => .int i
  | .f x ts => .tuple (.str x :: ds ts)
def ds : List T → List PyData
  | [] => []
  | t :: ts => d t :: ds ts
end
mutual
/-- all that stands in a term -/
def parts : T → List T
  | .v i => [.v i]
  | .f x ts => .f x ts :: partsL ts
def partsL : List T → List T
  | [] => []
  | t :: ts => parts t ++ partsL ts
end
mutual
def size : T → Nat
  | .v _ => 1
  | .f _ ts => 1 + sizeL ts
def sizeL : List T → Nat
  | [] => 0
  | t :: ts => size t + sizeL ts
end
mutual
def dep : T → Nat
  | .v _ => 0
  | .f _ ts => 1 + depL ts
def depL : List T → Nat
  | [] => 0
  | t :: ts => max (dep t) (depL ts)
end
mutual
/-- the variables, as often as they stand there -/
def vars : T → List Int
  | .v i => [i]
  | .f _ ts => varsL ts
def varsL : List T → List Int
  | [] => []
  | t :: ts => vars t ++ varsL ts
end
mutual
/-- all names can be laid -/
def named : T → Bool
  | .v _ => true
  | .f x ts => nameOk x && namedL ts
def namedL : List T → Bool
  | [] => true
  | t :: ts => named t && namedL ts
end
mutual
theorem parts_len : ∀ t : T, t.parts.length = t.size
  | .v _ => rfl
  | .f x ts => by
    show (partsL ts).length + 1 = 1 + sizeL ts
    rw [partsL_len ts]
    omega
theorem partsL_len : ∀ ts : List T, (partsL ts).length = sizeL ts
  | [] => rfl
  | t :: ts => by
    show (parts t ++ partsL ts).length = size t + sizeL ts
    rw [List.length_append, parts_len t, partsL_len ts]
end
theorem size_pos : ∀ t : T, 1 ≤ t.size
  | .v _ => Nat.le_refl _
  | .f _ _ => Nat.le_add_right _ _
mutual
theorem dep_size : ∀ t : T, t.dep ≤ t.size
  | .v _ => Nat.zero_le _
  | .f x ts => by
    show 1 + depL ts ≤ 1 + sizeL ts
    have h := depL_size ts
    omega
theorem depL_size : ∀ ts : List T, depL ts ≤ sizeL ts
  | [] => Nat.le_refl _
  | t :: ts => by
    show max (dep t) (depL ts) ≤ size t + sizeL ts
    have h1 := dep_size t
    have h2 := depL_size ts
    omega
end
mutual
theorem d_depth : ∀ t : T, t.d.depth = t.dep
  | .v _ => rfl
  | .f x ts => by
    show max 0 (PyData.depthAll (ds ts)) + 1 = 1 + depL ts
    rw [ds_depth ts]
    omega
theorem ds_depth : ∀ ts : List T, PyData.depthAll (ds ts) = depL ts
  | [] => rfl
  | t :: ts => by
    show max (PyData.depth (d t)) (PyData.depthAll (ds ts)) = max (dep t) (depL ts)
    rw [d_depth t, ds_depth ts]
end
mutual
theorem d_lay : ∀ t : T, t.named = true → t.d.canLay0 = true
  | .v _, _ => rfl
  | .f x ts, h => by
    have h' : (nameOk x && namedL ts) = true := h
    rw [Bool.and_eq_true] at h'
    show (PyData.strOk x && PyData.canLayAll0 (ds ts)) = true
    rw [nameOk_lay h'.1, ds_lay ts h'.2]
    rfl
theorem ds_lay : ∀ ts : List T, namedL ts = true → PyData.canLayAll0 (ds ts) = true
  | [], _ => rfl
  | t :: ts, h => by
    have h' : (named t && namedL ts) = true := h
    rw [Bool.and_eq_true] at h'
    show (PyData.canLay0 (d t) && PyData.canLayAll0 (ds ts)) = true
    rw [d_lay t h'.1, ds_lay ts h'.2]
    rfl
end
theorem shaped {t : T} (h : t.named = true) (small : t.dep ≤ 64) : SeqAt.shaped t.d = true := by
  unfold SeqAt.shaped
  rw [d_lay t h, d_depth t]
  exact decide_eq_true small
theorem ds_map : ∀ ts : List T, ds ts = ts.map d
  | [] => rfl
  | t :: ts => by
    show d t :: ds ts = _
    rw [ds_map ts]
    rfl
theorem partsL_append : ∀ (as bs : List T), partsL (as ++ bs) = partsL as ++ partsL bs
  | [], _ => rfl
  | t :: ts, bs => by
    show parts t ++ partsL (ts ++ bs) = parts t ++ partsL ts ++ partsL bs
    rw [partsL_append ts bs, List.append_assoc]
theorem sizeL_append : ∀ (as bs : List T), sizeL (as ++ bs) = sizeL as + sizeL bs
  | [], _ => (Nat.zero_add _).symm
  | t :: ts, bs => by
    show size t + sizeL (ts ++ bs) = size t + sizeL ts + sizeL bs
    rw [sizeL_append ts bs, Nat.add_assoc]
theorem sizeL_reverse : ∀ ts : List T, sizeL ts.reverse = sizeL ts
  | [] => rfl
  | t :: ts => by
    rw [List.reverse_cons, sizeL_append, sizeL_reverse ts]
    show sizeL ts + (size t + 0) = size t + sizeL ts
    omega
theorem size_mem {t : T} {ts : List T} (h : t ∈ ts) : t.size ≤ sizeL ts := by
  induction ts with
  | nil => cases h
  | cons u us ih =>
    show t.size ≤ size u + sizeL us
    rcases List.mem_cons.mp h with e | e
    · rw [e]; omega
    · have := ih e; omega
theorem len_sizeL : ∀ ts : List T, ts.length ≤ sizeL ts
  | [] => Nat.le_refl _
  | t :: ts => by
    show ts.length + 1 ≤ size t + sizeL ts
    have h1 := size_pos t
    have h2 := len_sizeL ts
    omega
theorem dep_mem {t : T} {ts : List T} (h : t ∈ ts) : t.dep ≤ depL ts := by
  induction ts with
  | nil => cases h
  | cons u us ih =>
    show t.dep ≤ max (dep u) (depL us)
    rcases List.mem_cons.mp h with e | e
    · rw [e]; omega
    · have := ih e; omega
theorem named_mem {t : T} {ts : List T} (h : t ∈ ts) (n : namedL ts = true) : t.named = true := by
  induction ts with
  | nil => cases h
  | cons u us ih =>
    have n' : (named u && namedL us) = true := n
    rw [Bool.and_eq_true] at n'
    rcases List.mem_cons.mp h with e | e
    · rw [e]; exact n'.1
    · exact ih e n'.2
end T
/-- tuples stay -/
def TK (H H' : Hp) : Prop := ∀ b xs, (H b = some (.tup xs) → H' b = some (.tup xs)) ∧ (∀ o, H b = some (.frz o (.tup xs)) → H' b = some (.frz o (.tup xs)))
theorem TK.refl (H : Hp) : TK H H := fun _ _ => ⟨id, fun _ => id⟩
theorem TK.trans {H H1 H2 : Hp} (a : TK H H1) (b : TK H1 H2) : TK H H2 := fun c xs => ⟨fun e => (b c xs).1 ((a c xs).1 e), fun o e => (b c xs).2 o ((a c xs).2 o e)⟩
theorem TK.same {H H' : Hp} (s : Same H H') : TK H H' := fun b _ => ⟨s b _, fun _ => s b _⟩
theorem TK.lst {H : Hp} {p : Addr} {ys : List V} (h : H p = some (.lst ys)) (o : HO) : TK H (upd H p o) := fun b xs => by
  refine ⟨fun e => ?_, fun u e => ?_⟩
  · have n : b ≠ p := fun z => by rw [z, h] at e; cases e
    rw [upd_ne n]; exact e
  · have n : b ≠ p := fun z => by rw [z, h] at e; cases e
    rw [upd_ne n]; exact e
theorem TK.new {H : Hp} {p : Addr} (h : H p = none) (o : HO) : TK H (upd H p o) := fun b xs => by
  refine ⟨fun e => ?_, fun u e => ?_⟩
  · have n : b ≠ p := fun z => by rw [z, h] at e; cases e
    rw [upd_ne n]; exact e
  · have n : b ≠ p := fun z => by rw [z, h] at e; cases e
    rw [upd_ne n]; exact e
section
variable {K : PySem.W.Frag} {H H' : Hp}
theorem TK.sq (k : TK H H') {a : Addr} {xs : List V} (h : SqT K H a xs) : SqT K H' a xs := by
  rcases h with (h | ⟨o, h⟩) | h
  · exact .inl (.inl ((k a xs).1 h))
  · exact .inl (.inr ⟨o, (k a xs).2 o h⟩)
  · exact .inr h
mutual
/-- a value is a term -/
def Tm (K : PySem.W.Frag) (H : Hp) : T → V → Prop
  | .v i, x => x = .int i
  | .f n ts, x => ∃ a xs, x = .ref a ∧ SqT K H a (.str n :: xs) ∧ Tms K H ts xs
def Tms (K : PySem.W.Frag) (H : Hp) : List T → List V → Prop
  | [], xs => xs = []
  | t :: ts, xs => ∃ y ys, xs = y :: ys ∧ Tm K H t y ∧ Tms K H ts ys
end
mutual
theorem Tm.mono (k : TK H H') : ∀ (t : T) (x : V), Tm K H t x → Tm K H' t x
  | .v _, _, h => h
  | .f n ts, x, h => by
    obtain ⟨a, xs, e, sq, all⟩ := h
    exact ⟨a, xs, e, k.sq sq, Tms.mono k ts xs all⟩
theorem Tms.mono (k : TK H H') : ∀ (ts : List T) (xs : List V), Tms K H ts xs → Tms K H' ts xs
  | [], _, h => h
  | t :: ts, xs, h => by
    obtain ⟨y, ys, e, one, all⟩ := h
    exact ⟨y, ys, e, Tm.mono k t y one, Tms.mono k ts ys all⟩
end
mutual
theorem Tm.dp : ∀ (t : T) (x : V), Tm K H t x → Dp K H x t.d
  | .v i, x, h => by
    cases (show x = .int i from h)
    exact .int i
  | .f n ts, x, h => by
    obtain ⟨a, xs, rfl, sq, all⟩ := h
    exact .tup sq (.cons (.str n) (Tms.dp ts xs all))
theorem Tms.dp : ∀ (ts : List T) (xs : List V), Tms K H ts xs → DpAll K H xs (T.ds ts)
  | [], xs, h => by
    cases (show xs = [] from h)
    exact .nil
  | t :: ts, xs, h => by
    obtain ⟨y, ys, rfl, one, all⟩ := h
    exact .cons (Tm.dp t y one) (Tms.dp ts ys all)
end
theorem Tms.len : ∀ {ts : List T} {xs : List V}, Tms K H ts xs → xs.length = ts.length
  | [], xs, h => by
    cases (show xs = [] from h)
    rfl
  | t :: ts, xs, h => by
    obtain ⟨y, ys, rfl, _, all⟩ := h
    rw [List.length_cons, List.length_cons, Tms.len all]
theorem Tms.app : ∀ {as : List T} {xs : List V} {bs : List T} {ys : List V}, Tms K H as xs → Tms K H bs ys → Tms K H (as ++ bs) (xs ++ ys)
  | [], xs, _, _, h, k => by
    cases (show xs = [] from h)
    exact k
  | t :: ts, xs, _, _, h, k => by
    obtain ⟨y, zs, rfl, one, all⟩ := h
    exact ⟨y, _, rfl, one, Tms.app all k⟩
theorem Tms.one {t : T} {x : V} (h : Tm K H t x) : Tms K H [t] [x] := ⟨x, [], rfl, h, rfl⟩
theorem Tms.rev : ∀ {ts : List T} {xs : List V}, Tms K H ts xs → Tms K H ts.reverse xs.reverse
  | [], xs, h => by
    cases (show xs = [] from h)
    exact rfl
  | t :: ts, xs, h => by
    obtain ⟨y, ys, rfl, one, all⟩ := h
    rw [List.reverse_cons, List.reverse_cons]
    exact Tms.app (Tms.rev all) (Tms.one one)
theorem Tms.get : ∀ {ts : List T} {xs : List V} {i : Nat} {x : V}, Tms K H ts xs → xs[i]? = some x → ∃ t, ts[i]? = some t ∧ Tm K H t x
  | [], xs, i, x, h, e => by
    cases (show xs = [] from h)
    cases e
  | t :: ts, xs, i, x, h, e => by
    obtain ⟨y, ys, rfl, one, all⟩ := h
    cases i with
    | zero =>
      cases e
      exact ⟨t, rfl, one⟩
    | succ i => exact Tms.get (ts := ts) (xs := ys) (i := i) all e
theorem Tms.get' : ∀ {ts : List T} {xs : List V} {i : Nat} {t : T}, Tms K H ts xs → ts[i]? = some t → ∃ x, xs[i]? = some x ∧ Tm K H t x
  | [], xs, i, x, h, e => by cases e
  | t :: ts, xs, i, x, h, e => by
    obtain ⟨y, ys, rfl, one, all⟩ := h
    cases i with
    | zero =>
      cases e
      exact ⟨y, rfl, one⟩
    | succ i => exact Tms.get' (ts := ts) (xs := ys) (i := i) all e
/-- the last of them -/
theorem Tms.last : ∀ {ts : List T} {xs : List V}, Tms K H ts xs → ts ≠ [] → ∃ us u ys y, ts = us ++ [u] ∧ xs = ys ++ [y] ∧ Tms K H us ys ∧ Tm K H u y
  | [], _, _, n => absurd rfl n
  | [t], xs, h, _ => by
    obtain ⟨y, ys, rfl, one, all⟩ := h
    cases (show ys = [] from all)
    exact ⟨[], t, [], y, rfl, rfl, rfl, one⟩
  | t :: u :: ts, xs, h, _ => by
    obtain ⟨y, ys, rfl, one, all⟩ := h
    obtain ⟨us, w, zs, z, e1, e2, a, b⟩ := Tms.last (ts := u :: ts) all (by simp)
    exact ⟨t :: us, w, y :: zs, z, by rw [e1]; rfl, by rw [e2]; rfl, ⟨y, zs, rfl, one, a⟩, b⟩
end
end Ad

/-! What stands in a term. -/
namespace Ad
open PySem PySem.Spec PySem.Calls PyProof.Rows L2
theorem sq_ty {K : PySem.W.Frag} {H : Hp} {a : Addr} {xs : List V} (h : SqT K H a xs) : TyX K H (.ref a) (.type "tuple") := by
  rcases h with (h | ⟨o, h⟩) | h
  · exact .base (.tup h)
  · exact .fTuple h
  · obtain ⟨o, _, _, e, c, _⟩ := h
    exact .kTuple e c
theorem tm_tuple {K : PySem.W.Frag} {H : Hp} {n : Str} {ts : List T} {x : V} (h : Tm K H (.f n ts) x) : TyX K H x (.type "tuple") := by
  obtain ⟨a, xs, rfl, sq, _⟩ := h
  exact sq_ty sq
theorem kitTT {K : PySem.W.Frag} : PySem.W.kitOne K (.type "tuple") (.type "tuple") = some true := kit_ty (by decide +kernel)
theorem kitIT {K : PySem.W.Frag} : PySem.W.kitOne K (.type "int") (.type "tuple") = some false := kit_ty (by decide +kernel)
theorem kitTI {K : PySem.W.Frag} : PySem.W.kitOne K (.type "tuple") (.type "int") = some false := kit_ty (by decide +kernel)
theorem kitII {K : PySem.W.Frag} : PySem.W.kitOne K (.type "int") (.type "int") = some true := kit_ty (by decide +kernel)
def lenAt (H : Hp) (p : Addr) : Nat := match H p with
  | some (.lst xs) => xs.length
  | _ => 0
theorem lenAt_of {H : Hp} {p : Addr} {xs : List V} (h : H p = some (.lst xs)) : lenAt H p = xs.length := by
  unfold lenAt
  rw [h]
theorem same_on {H H' : Hp} {p : Addr} (s : Same H H') (n : H p = none) (o : HO) : Same H (upd H' p o) := fun b u e => by
  rw [upd_ne (ne_of_none e n)]
  exact s b u e
/-- the truth of a value, as a test -/
def tTrue (K : PySem.W.Frag) (te : TE) : TT := fun σ H Q => te σ H fun x G => ∃ b, TruV K x G b ∧ Q b G
theorem pt_true {X : Cx} {e : Expr} {te : TE} (he : PE X e te) (plain : ∀ whole, isTrue e X.env whole = (do let v ← whole; standAt e.pos; holding [v] (truthy v)) := by intro _; rfl) : PT X e (tTrue X.K te) := pt_truth he plain
/-- a while by a word and a measure -/
theorem while_m {c : TT} {tb : TS} {D : Ends} {σ : L2.St} {H : Hp} (Pv : L2.St → Hp → Prop) (μ : L2.St → Hp → Nat) (start : Pv σ H)
    (turn : ∀ σ H, Pv σ H → c σ H fun b G => if b = true then tb { D with nx := fun σ' H' => Pv σ' H' ∧ μ σ' H' < μ σ H, ct := fun σ' H' => Pv σ' H' ∧ μ σ' H' < μ σ H, bk := D.nx } σ G else D.nx σ G) (mono : ∀ σ H Q Q', (∀ b G, Q b G → Q' b G) → c σ H Q → c σ H Q') :
    ∃ W : Nat → L2.St → Hp → Prop, (∃ m, W m σ H) ∧ ∀ m σ H, W m σ H → c σ H fun b G => if b = true then ∃ N : L2.St → Hp → Prop, (∀ σ' H', N σ' H' → ∃ m', m' < m ∧ W m' σ' H') ∧ tb { D with nx := N, ct := N, bk := D.nx } σ G else D.nx σ G :=
  while_by Pv μ start turn mono
theorem mono_true {K : PySem.W.Frag} {te : TE} (m : ∀ σ H (Q Q' : VK), (∀ v G, Q v G → Q' v G) → te σ H Q → te σ H Q') : ∀ σ H (Q Q' : Bool → Hp → Prop), (∀ b G, Q b G → Q' b G) → tTrue K te σ H Q → tTrue K te σ H Q' := fun σ H Q Q' imp h => m σ H _ _ (fun v G ⟨b, t, q⟩ => ⟨b, t, imp _ _ q⟩) h
theorem mono_var {i : Nat} : ∀ σ H (Q Q' : VK), (∀ v G, Q v G → Q' v G) → tVar i σ H Q → tVar i σ H Q' := fun _ _ _ _ imp ⟨v, e, q⟩ => ⟨v, e, imp _ _ q⟩
end Ad

/-! Paths; places_of. -/
namespace Ad
open PySem PySem.Spec PySem.Calls PyProof.Rows L2
/-- two lists, item by item -/
def F2 {α β : Type} (R : α → β → Prop) : List α → List β → Prop
  | [], ys => ys = []
  | x :: xs, ys => ∃ y zs, ys = y :: zs ∧ R x y ∧ F2 R xs zs
section
variable {α β : Type} {R S : α → β → Prop}
theorem F2.mono (imp : ∀ a b, R a b → S a b) : ∀ {xs : List α} {ys : List β}, F2 R xs ys → F2 S xs ys
  | [], _, h => h
  | x :: xs, _, h => by
    obtain ⟨y, zs, rfl, r, t⟩ := h
    exact ⟨y, zs, rfl, imp _ _ r, F2.mono imp t⟩
theorem F2.len : ∀ {xs : List α} {ys : List β}, F2 R xs ys → ys.length = xs.length
  | [], ys, h => by
    cases (show ys = [] from h)
    rfl
  | x :: xs, _, h => by
    obtain ⟨y, zs, rfl, r, t⟩ := h
    rw [List.length_cons, List.length_cons, F2.len t]
theorem F2.app : ∀ {xs xs' : List α} {ys ys' : List β}, F2 R xs ys → F2 R xs' ys' → F2 R (xs ++ xs') (ys ++ ys')
  | [], _, ys, _, h, k => by
    cases (show ys = [] from h)
    exact k
  | x :: xs, _, _, _, h, k => by
    obtain ⟨y, zs, rfl, r, t⟩ := h
    exact ⟨y, _, rfl, r, F2.app t k⟩
theorem F2.one {a : α} {b : β} (h : R a b) : F2 R [a] [b] := ⟨b, [], rfl, h, rfl⟩
theorem F2.last : ∀ {xs : List α} {ys : List β}, F2 R xs ys → xs ≠ [] → ∃ us u zs z, xs = us ++ [u] ∧ ys = zs ++ [z] ∧ F2 R us zs ∧ R u z
  | [], _, _, n => absurd rfl n
  | [x], ys, h, _ => by
    obtain ⟨y, zs, rfl, r, t⟩ := h
    cases (show zs = [] from t)
    exact ⟨[], x, [], y, rfl, rfl, rfl, r⟩
  | x :: x2 :: xs, ys, h, _ => by
    obtain ⟨y, zs, rfl, r, t⟩ := h
    obtain ⟨us, u, qs, q, e1, e2, a, b⟩ := F2.last (xs := x2 :: xs) t (by simp)
    exact ⟨x :: us, u, y :: qs, q, by rw [e1]; rfl, by rw [e2]; rfl, ⟨y, qs, rfl, r, a⟩, b⟩
theorem F2.get : ∀ {xs : List α} {ys : List β} {i : Nat} {y : β}, F2 R xs ys → ys[i]? = some y → ∃ x, xs[i]? = some x ∧ R x y
  | [], ys, i, y, h, e => by
    cases (show ys = [] from h)
    cases e
  | x :: xs, ys, i, y, h, e => by
    obtain ⟨z, zs, rfl, r, t⟩ := h
    cases i with
    | zero =>
      cases e
      exact ⟨x, rfl, r⟩
    | succ i => exact F2.get (xs := xs) (ys := zs) (i := i) t e
theorem F2.get' : ∀ {xs : List α} {ys : List β} {i : Nat} {x : α}, F2 R xs ys → xs[i]? = some x → ∃ y, ys[i]? = some y ∧ R x y
  | [], ys, i, x, h, e => by cases e
  | x :: xs, ys, i, y, h, e => by
    obtain ⟨z, zs, rfl, r, t⟩ := h
    cases i with
    | zero =>
      cases e
      exact ⟨z, rfl, r⟩
    | succ i => exact F2.get' (xs := xs) (ys := zs) (i := i) t e
theorem F2.mem : ∀ {xs : List α} {ys : List β} {y : β}, F2 R xs ys → y ∈ ys → ∃ x, x ∈ xs ∧ R x y := fun h m => by
  obtain ⟨i, hi, rfl⟩ := List.mem_iff_getElem.mp m
  obtain ⟨x, e, r⟩ := h.get (List.getElem?_eq_getElem hi)
  exact ⟨x, List.mem_of_getElem? e, r⟩
end
end Ad

/-! at, put_at. -/
namespace Ad
open PySem PySem.Spec PySem.Calls PyProof.Rows L2
def iD (ns : List Int) : PyData := .tuple (ns.map .int)
theorem int_lay : ∀ ns : List Int, PyData.canLayAll0 (ns.map .int) = true
  | [] => rfl
  | n :: ns => by
    show (true && PyData.canLayAll0 (ns.map .int)) = true
    rw [int_lay ns]
    rfl
theorem int_depth : ∀ ns : List Int, PyData.depthAll (ns.map .int) = 0
  | [] => rfl
  | n :: ns => by
    show max 0 (PyData.depthAll (ns.map .int)) = 0
    rw [int_depth ns]
    rfl
theorem iD_shaped (ns : List Int) : SeqAt.shaped (iD ns) = true := by
  unfold SeqAt.shaped
  have h1 : (iD ns).canLay0 = true := int_lay ns
  have h2 : (iD ns).depth = 1 := by
    show PyData.depthAll (ns.map .int) + 1 = 1
    rw [int_depth]
  rw [h1, h2]
  rfl
theorem ints_dp {K : PySem.W.Frag} {H : Hp} : ∀ ns : List Int, DpAll K H (ns.map V.int) (ns.map .int)
  | [] => .nil
  | n :: ns => .cons (.int n) (ints_dp ns)
theorem iD_dp {K : PySem.W.Frag} {H : Hp} {a : Addr} {ns : List Int} (h : SqT K H a (ns.map V.int)) : Dp K H (.ref a) (iD ns) := .tup h (ints_dp ns)
theorem iD_nil (ns : List Int) : PyData.eqv (iD ns) (iD []) = ns.isEmpty := by
  cases ns <;> first | rfl | (simp [iD, PyData.eqv, PyData.eqvAll])
theorem hu1 {k : Nat} {A : Around} (hr : Room k A) : A.units + 1 < cLine := by
  have := hr.un
  omega
theorem hu64 {k : Nat} {A : Around} (hr : Room k A) : A.units + 64 < cLine := by
  have := hr.un
  omega
section
variable {P : Program} {w : World} {K : PySem.W.Frag} {mg : Str → Option Value} {base : Heap}
theorem same_new {H H' : Hp} {p : Addr} (s : Same H H') (n : H' p = none) (o : HO) : Same H (upd H' p o) := fun b u e => by
  rw [upd_ne (ne_of_none (s b u e) n)]
  exact s b u e
theorem vac {k : Nat} {f : Addr} {fd : FuncData} {ps : List Str} {sp : Sp} (no : ∀ vs H Q E, ¬ sp vs H Q E) : FnOk P w K mg base CX0 k f fd ps sp :=
  ⟨fun vs H Q E h => absurd h (no vs H Q E), fun A outer s H args us vs Q E _ _ _ _ h => absurd h (no vs H Q E)⟩
end
end Ad

/-! The law's own going: is it a variable, size, variables. -/
namespace Ad
open PySem PySem.Spec PySem.Calls PyProof.Rows L2
namespace T
mutual
theorem v_parts (j : Int) : ∀ t : T, .v j ∈ parts t ↔ j ∈ vars t
  | .v i => by
    show T.v j ∈ [T.v i] ↔ j ∈ [i]
    rw [List.mem_singleton, List.mem_singleton]
    exact ⟨fun e => T.v.inj e, fun e => congrArg T.v e⟩
  | .f x ts => by
    show T.v j ∈ T.f x ts :: partsL ts ↔ j ∈ varsL ts
    rw [List.mem_cons, ← v_partsL j ts]
    exact ⟨fun h => h.elim (fun e => nomatch e) id, .inr⟩
theorem v_partsL (j : Int) : ∀ ts : List T, .v j ∈ partsL ts ↔ j ∈ varsL ts
  | [] => ⟨(fun h => nomatch h), (fun h => nomatch h)⟩
  | t :: ts => by
    show T.v j ∈ parts t ++ partsL ts ↔ j ∈ vars t ++ varsL ts
    rw [List.mem_append, List.mem_append, v_parts j t, v_partsL j ts]
end
mutual
theorem vars_len : ∀ t : T, t.vars.length ≤ t.size
  | .v _ => Nat.le_refl _
  | .f x ts => by
    show (varsL ts).length ≤ 1 + sizeL ts
    have := varsL_len ts
    omega
theorem varsL_len : ∀ ts : List T, (varsL ts).length ≤ sizeL ts
  | [] => Nat.le_refl _
  | t :: ts => by
    show (vars t ++ varsL ts).length ≤ size t + sizeL ts
    have h1 := vars_len t
    have h2 := varsL_len ts
    rw [List.length_append]
    omega
end
end T
def T.isV : T → Bool
  | .v _ => true
  | .f _ _ => false
def spIsVar (K : PySem.W.Frag) : Sp := fun vs H Q _ => ∃ (t : T) (x : V), vs = [x] ∧ Tm K H t x ∧ Q (.bl t.isV) H
theorem cut_args {x : V} {xs : List V} : ¬ (HT.sIx (x :: xs).length 0 (some 1) = 0 ∧ HT.sIx (x :: xs).length (x :: xs).length none = (x :: xs).length) ∧ cutV (x :: xs) (some 1) none = xs := by
  have e2 : HT.sIx (x :: xs).length 0 (some ((1 : Nat) : Int)) = 1 := by
    rw [HT.sIx_nat, List.length_cons]
    omega
  have e3 : HT.sIx (x :: xs).length 0 (some 1) = 1 := e2
  constructor
  · rw [e3]
    omega
  · unfold cutV
    rw [e3, HT.sIx_none]
    show xs.take _ = _
    rw [List.take_of_length_le]
    rw [List.length_cons]
    omega
theorem sum_sizes : ∀ ts : List T, (ts.map fun t => (t.size : Int)).sum = (T.sizeL ts : Int)
  | [] => rfl
  | t :: ts => by
    rw [List.map_cons, List.sum_cons, sum_sizes ts]
    show (t.size : Int) + (T.sizeL ts : Int) = ((t.size + T.sizeL ts : Nat) : Int)
    omega
section
variable {P : Program} {w : World} {K : PySem.W.Frag} {mg : Str → Option Value} {base : Heap}
theorem T.varsL_append : ∀ (as bs : List T), T.varsL (as ++ bs) = T.varsL as ++ T.varsL bs
  | [], _ => rfl
  | t :: ts, bs => by
    show T.vars t ++ T.varsL (ts ++ bs) = T.vars t ++ T.varsL ts ++ T.varsL bs
    rw [T.varsL_append ts bs, List.append_assoc]
theorem T.varsL_take (ts : List T) (i : Nat) : (T.varsL (ts.take i)).length ≤ T.sizeL ts := by
  have h1 := T.varsL_len (ts.take i)
  have h2 := T.sizeL_append (ts.take i) (ts.drop i)
  rw [List.take_append_drop] at h2
  omega
end
end Ad

/-! The pen of a law: its cells, its draws, its picks. -/
namespace Pn
open PySem PySem.Spec PyProof.Rows L2
abbrev sPen : Stmt := Ad.topS 17
abbrev sDraw : Stmt := Ad.topS 18
abbrev sPick : Stmt := Ad.topS 19
theorem scPen : FnScope ["_law_script", "_law_fold", "_law_cell"] ["_law_script"] (defScope sPen) := ⟨rfl, rfl, rfl, by decide +kernel, rfl, by decide +kernel, by decide +kernel⟩
theorem scDraw : FnScope ["_law_pen_here", "_law_many", "_law_cell", "_law_digit", "_law_blend"] ["_law_pen_here", "_law_many"] (defScope sDraw) := ⟨rfl, rfl, rfl, by decide +kernel, rfl, by decide +kernel, by decide +kernel⟩
theorem scPick : FnScope ["_law_pen_here", "_law_some"] ["_law_pen_here", "_law_some"] (defScope sPick) := ⟨rfl, rfl, rfl, by decide +kernel, rfl, by decide +kernel, by decide +kernel⟩
/-! ### the pen's dict -/
abbrev kC : Key := .inr "cells"
abbrev kA : Key := .inr "at"
abbrev kD : Key := .inr "digits"
abbrev kN : Key := .inr "count"
abbrev kF : Key := .inr "fold"
theorem nCA : ¬ (kC = kA) := by decide +kernel
theorem nCD : ¬ (kC = kD) := by decide +kernel
theorem nCN : ¬ (kC = kN) := by decide +kernel
theorem nCF : ¬ (kC = kF) := by decide +kernel
theorem nAD : ¬ (kA = kD) := by decide +kernel
theorem nAN : ¬ (kA = kN) := by decide +kernel
theorem nAF : ¬ (kA = kF) := by decide +kernel
theorem nDN : ¬ (kD = kN) := by decide +kernel
theorem nDF : ¬ (kD = kF) := by decide +kernel
theorem nNF : ¬ (kN = kF) := by decide +kernel
def penK (l : Addr) (a d n f : Int) : List (Key × V) := [(kC, .ref l), (kA, .int a), (kD, .int d), (kN, .int n), (kF, .int f)]
section
variable (l : Addr) (a d n f x : Int)
theorem getC : valV (penK l a d n f) kC = some (.ref l) := valV_pos rfl
theorem getA : valV (penK l a d n f) kA = some (.int a) := by
  unfold penK; rw [valV_neg nCA, valV_pos rfl]
theorem getD : valV (penK l a d n f) kD = some (.int d) := by
  unfold penK; rw [valV_neg nCD, valV_neg nAD, valV_pos rfl]
theorem getN : valV (penK l a d n f) kN = some (.int n) := by
  unfold penK; rw [valV_neg nCN, valV_neg nAN, valV_neg nDN, valV_pos rfl]
theorem getF : valV (penK l a d n f) kF = some (.int f) := by
  unfold penK; rw [valV_neg nCF, valV_neg nAF, valV_neg nDF, valV_neg nNF, valV_pos rfl]
theorem put_is {kvs : List (Key × V)} {k : Key} {v : V} (h : valV kvs k = some v) (y : V) : putK kvs k y = kvs.map fun kv => if kv.1 = k then (kv.1, y) else kv := by
  unfold putK
  rw [valV_any, h]
  rfl
theorem putA : putK (penK l a d n f) kA (.int x) = penK l x d n f := by
  rw [put_is (getA l a d n f)]
  show [_, _, _, _, _] = _
  dsimp only
  rw [if_neg nCA, if_pos rfl, if_neg (Ne.symm nAD), if_neg (Ne.symm nAN), if_neg (Ne.symm nAF)]
  rfl
theorem putD : putK (penK l a d n f) kD (.int x) = penK l a x n f := by
  rw [put_is (getD l a d n f)]
  show [_, _, _, _, _] = _
  dsimp only
  rw [if_neg nCD, if_neg nAD, if_pos rfl, if_neg (Ne.symm nDN), if_neg (Ne.symm nDF)]
  rfl
theorem putN : putK (penK l a d n f) kN (.int x) = penK l a d x f := by
  rw [put_is (getN l a d n f)]
  show [_, _, _, _, _] = _
  dsimp only
  rw [if_neg nCN, if_neg nAN, if_neg nDN, if_pos rfl, if_neg (Ne.symm nNF)]
  rfl
theorem putF' : putK (penK l a d n f) kF (.int x) = penK l a d n x := by
  rw [put_is (getF l a d n f)]
  show [_, _, _, _, _] = _
  dsimp only
  rw [if_neg nCF, if_neg nAF, if_neg nDF, if_neg nNF, if_pos rfl]
  rfl
theorem merge_pen : mergeK [] [(kC, .ref l), (kA, .int a), (kD, .int d), (kN, .int n), (kF, .int f)] = penK l a d n f := by
  unfold mergeK penK
  simp only [List.foldl_cons, List.foldl_nil]
  rw [putK_new (kvs := []) (k := kC) _ rfl]
  rw [putK_new (k := kA) _ (by rw [List.nil_append, valV_neg nCA]; rfl)]
  rw [putK_new (k := kD) _ (by rw [List.nil_append, List.cons_append, valV_neg nCD, List.nil_append, valV_neg nAD]; rfl)]
  rw [putK_new (k := kN) _ (by simp only [List.nil_append, List.cons_append]; rw [valV_neg nCN, valV_neg nAN, valV_neg nDN]; rfl)]
  rw [putK_new (k := kF) _ (by simp only [List.nil_append, List.cons_append]; rw [valV_neg nCF, valV_neg nAF, valV_neg nDF, valV_neg nNF]; rfl)]
  rfl
end
/-- a pen stands at p, its cells at l, so many draws done -/
structure Pen (H : Hp) (p l : Addr) (ns : List Int) (c : Nat) : Prop where
  ex : ∃ (a : Nat) (d f : Int), H p = some (.dK (penK l (a : Int) d (c : Int) f)) ∧ a ≤ ns.length ∧ 0 ≤ d ∧ 0 ≤ f ∧ f < 2147483648
  ls : H l = some (.lst (ns.map V.int))
theorem pen_ne {H : Hp} {p l : Addr} {ns : List Int} {c : Nat} (h : Pen H p l ns c) : p ≠ l := by
  obtain ⟨⟨a, d, f, e, _⟩, q⟩ := h
  exact ne_of e q (by intro z; cases z)
/-- all but the pen's dict stays -/
def But (p : Addr) (H H' : Hp) : Prop := ∀ b o, b ≠ p → H b = some o → H' b = some o
theorem But.refl (p : Addr) (H : Hp) : But p H H := fun _ _ _ h => h
theorem But.trans {p : Addr} {H H1 H2 : Hp} (a : But p H H1) (b : But p H1 H2) : But p H H2 := fun c o n h => b c o n (a c o n h)
theorem But.upd {p : Addr} (H : Hp) (o : HO) : But p H (L2.upd H p o) := fun b u n h => by rw [upd_ne n]; exact h
theorem But.of {p : Addr} {H H' : Hp} (s : Same H H') : But p H H' := fun b o _ h => s b o h
theorem same_upd {H : Hp} {p : Addr} {o : HO} (h : H p = none) : Same H (L2.upd H p o) := fun b x e => by
  rw [upd_ne (ne_of_none e h)]
  exact e
section
variable {P : Program} {w : World} {K : PySem.W.Frag} {mg : Str → Option Value} {base : Heap}
def spPen (K : PySem.W.Frag) : Sp := fun vs H Q _ => ∃ (a : Addr) (ns : List Int), vs = [.ref a] ∧ SqL K H a (ns.map V.int) ∧ ns.length ≤ 63 ∧
  ∀ H' p l, Same H H' → H p = none → H l = none → Pen H' p l ns 0 → Q (.ref p) H'
theorem ok_pen {f : Addr} {fd : FuncData} {k : Nat} (F : Fun K "_law_pen" "_law_pen" sPen f fd) (mi : mg "int" = none) (ml : mg "list" = none) : FnOk P w K mg base CX0 (k + 1) f fd ["_law_script"] (spPen K) := by
  refine F.ok scPen (fun vs H Q E h => ?_) (fun cdv A outer s H vs Q E hr h => ?_)
  · obtain ⟨a, ns, rfl, _⟩ := h
    rfl
  · obtain ⟨a, ns, rfl, hS, hlen, q⟩ := h
    refine ⟨_, pss_cons (ps_set (i := 1) scPen.nd rfl (.inl rfl) pe_int)
      (pss_cons (ps_for PassesOwn.never rfl (pi_list (pv 0)) (pg_name (i := 2) scPen.nd rfl (.inl rfl))
        (pss_one (ps_set (i := 1) scPen.nd rfl (.inl rfl) (pe_op op_mod (pe_callTy call_int1 (by rfl) mi (by decide +kernel) (pa_cons (pe_op op_add (pe_op op_mul (pv 1) pe_int) (pv 2)) pa_nil)) pe_int))))
      (pss_one (ps_ret (pe_disp (pps_cons pe_str (pe_callTy call_list_of (by rfl) ml (by decide +kernel) (pa_cons (pv 0) pa_nil))
        (pps_cons pe_str pe_int (pps_cons pe_str pe_int (pps_cons pe_str pe_int (pps_cons pe_str (pv 1) pps_nil))))) (by rfl) (by rfl) (fun z => by cases z) (by decide))))), ?_⟩
    refine ⟨.ref a, rfl, a, rfl, ⟨_, hS⟩, for_list (K := K) (a := a) (xs := ns.map V.int) (fun i σ H2 => ∃ (g : Int) (v : Option V), σ = [some (.ref a), some (.int g), v] ∧ H2 = H ∧ 0 ≤ g ∧ g < 1000000007)
      ⟨0, none, rfl, rfl, by decide, by decide⟩ (fun i σ H2 _ ⟨_, _, _, e, _⟩ => by rw [e]; exact hS) ?_ ?_⟩
    · rintro i y σ H2 hi ⟨g, v, rfl, rfl, g0, g1⟩
      obtain ⟨z, rfl⟩ : ∃ z, y = V.int z := by
        rw [List.getElem?_map] at hi
        cases e : ns[i]? with
        | none =>
          rw [e] at hi
          cases hi
        | some z =>
          rw [e] at hi
          exact ⟨z, (Option.some.inj hi).symm⟩
      refine ⟨.int g, rfl, _, _, rfl, rfl, .inr ⟨by decide, by decide⟩, .int z, rfl, _, _, rfl, rfl, .inl ⟨_, rfl, _, _, rfl, rfl, (by show (0 : Int) < 1000000007; decide), ?_⟩⟩
      exact ⟨(g * 47 + z) % 1000000007, some (.int z), rfl, rfl, Int.emod_nonneg _ (by decide), Int.emod_lt_of_pos _ (by decide)⟩
    · rintro σ H2 ⟨g, v, rfl, rfl, g0, g1⟩
      intro p hp
      refine ⟨.ref a, rfl, a, _, rfl, .inl ((same_upd hp).seq hS), fun l hl => ?_⟩
      have nlp : l ≠ p := fun e => by
        rw [e, upd_same] at hl
        cases hl
      have hl0 : H2 l = none := by rw [upd_ne nlp] at hl; exact hl
      refine ⟨.int g, rfl, by rw [upd_ne nlp.symm, upd_same], [(kC, .ref l), (kA, .int 0), (kD, .int 0), (kN, .int 0), (kF, .int g)], rfl, (by show 5 ≤ 15; decide), ?_⟩
      rw [merge_pen]
      refine q _ p l ?_ hp hl0 ⟨⟨0, 0, g, upd_same, Nat.zero_le _, by decide, g0, by omega⟩, ?_⟩
      · intro b o e
        have b1 : b ≠ p := ne_of_none e hp
        have b2 : b ≠ l := ne_of_none e hl0
        rw [upd_ne b1, upd_ne b2, upd_ne b1]
        exact e
      · rw [upd_ne nlp, upd_same]
end
end Pn

namespace Pn
open PySem PySem.Spec PyProof.Rows L2
theorem pget {H : Hp} {p : Addr} {kvs : List (Key × V)} {k : Key} {v : V} (e : H p = some (.dK kvs)) (h : valV kvs k = some v) : DGet H p (kV k) (some v) := by
  have q : DGet H p (kV k) (valV kvs k) := DGet.k e
  rw [h] at q
  exact q
theorem pput {H : Hp} {p : Addr} {kvs kvs' : List (Key × V)} {k : Key} {v : V} (e : H p = some (.dK kvs)) (hl : kvs.length < sizeLine) (h : putK kvs k v = kvs') : DPut H p (kV k) v (L2.upd H p (.dK kvs')) := by
  have q : DPut H p (kV k) v (L2.upd H p (.dK (putK kvs k v))) := DPut.k e hl
  rw [h] at q
  exact q
theorem penl (l : Addr) (a d n f : Int) : (penK l a d n f).length < sizeLine := by
  show 5 < sizeLine
  decide
theorem pow17 {b : Int} (h0 : 0 ≤ b) : 0 ≤ b ^ (17 : Int).toNat := Int.pow_nonneg h0
section
variable {P : Program} {w : World} {K : PySem.W.Frag} {mg : Str → Option Value} {base : Heap}
def spDraw : Sp := fun vs H Q _ => ∃ (p l : Addr) (ns : List Int) (c : Nat) (m : Int), vs = [.ref p, .int m] ∧ Pen H p l ns c ∧ ns.length ≤ 1000 ∧ c ≤ 1000000000 ∧ 1 ≤ m ∧ m ≤ 1000000 ∧
  ∀ r H', 0 ≤ r → r < m → Pen H' p l ns (c + 1) → But p H H' → Q (.int r) H'
theorem ok_draw {f : Addr} {fd : FuncData} {k : Nat} (F : Fun K "_law_draw" "_law_draw" sDraw f fd) (mi : mg "int" = none) (ml : mg "len" = none) : FnOk P w K mg base CX0 (k + 1) f fd ["_law_pen_here", "_law_many"] spDraw := by
  refine F.ok scDraw (fun vs H Q E h => ?_) (fun cdv A outer s H vs Q E hr h => ?_)
  · obtain ⟨p, l, ns, c, m, rfl, _⟩ := h
    rfl
  · obtain ⟨p, l, ns, c, m, rfl, hP, hlen, hc, m1, m2, q⟩ := h
    have hu := hu_of hr
    have npl : p ≠ l := pen_ne hP
    obtain ⟨⟨a, d, f0, e, ha, hd, hf, hf2⟩, hl⟩ := hP
    refine ⟨_, pss_cons (ps_dput hu (pv 0) pe_str (pe_op op_add (pe_dget hu (pv 0) pe_str (fun _ _ => rfl)) pe_int) rfl)
      (C8.pss_cut (ps_if (pw_and (pt_cmpR op_eq (pe_dget hu (pv 0) pe_str (fun _ _ => rfl)) pe_int (nomark _)) (pw_and1 (pt_cmpR op_lt (pe_dget hu (pv 0) pe_str (fun _ _ => rfl)) (pe_callB call_len_seq (by rfl) ml PySem.boot_len (pa_cons (pe_dget hu (pv 0) pe_str (fun _ _ => rfl)) pa_nil)) (nomark _)))).pt
        (pss_cons (ps_set (i := 2) scDraw.nd rfl (.inl rfl) (pe_ix ix_list (pe_dget hu (pv 0) pe_str (fun _ _ => rfl)) (pe_dget hu (pv 0) pe_str (fun _ _ => rfl)) (fun _ _ => rfl)))
        (pss_cons (ps_dput hu (pv 0) pe_str (pe_op op_add (pe_dget hu (pv 0) pe_str (fun _ _ => rfl)) pe_int) rfl)
        (pss_one (ps_if (pt_cmpR op_ge (pv 2) (pe_op op_pow pe_int pe_int) (nomark _))
          (pss_one (ps_dput hu (pv 0) pe_str (pe_op op_sub (pv 2) (pe_op op_pow pe_int pe_int)) rfl))
          (pss_one (ps_dput hu (pv 0) pe_str (pe_op op_mod (pe_callTy call_int1 (by rfl) mi (by decide +kernel) (pa_cons (pe_op op_add (pe_op op_mul (pe_dget hu (pv 0) pe_str (fun _ _ => rfl)) pe_int) (pv 2)) pa_nil)) pe_int) rfl))))))
        pss_nil)
      (pss_cons (ps_if (pt_cmpR op_gt (pe_dget hu (pv 0) pe_str (fun _ _ => rfl)) pe_int (nomark _))
        (pss_cons (ps_set (i := 3) scDraw.nd rfl (.inl rfl) (pe_op op_mod (pe_callTy call_int1 (by rfl) mi (by decide +kernel) (pa_cons (pe_dget hu (pv 0) pe_str (fun _ _ => rfl)) pa_nil)) (pv 1)))
        (pss_cons (ps_dput hu (pv 0) pe_str (pe_op op_fdiv (pe_dget hu (pv 0) pe_str (fun _ _ => rfl)) (pv 1)) rfl)
        (pss_one (ps_ret (pv 3)))))
        pss_nil)
      (pss_cons (ps_set (i := 4) scDraw.nd rfl (.inl rfl) (pe_op op_add (pe_op op_add (pe_dget hu (pv 0) pe_str (fun _ _ => rfl)) (pe_op op_mul (pe_dget hu (pv 0) pe_str (fun _ _ => rfl)) pe_int)) pe_int))
      (pss_one (ps_ret (pe_op op_mod (pe_op op_fdiv (pe_callTy call_int1 (by rfl) mi (by decide +kernel) (pa_cons (pe_op op_mod (pe_op op_pow (pv 4) pe_int) pe_int) pa_nil)) pe_int) (pv 1))))))), ?_⟩
    -- count
    refine ⟨.ref p, rfl, p, _, rfl, pget e (getN ..), _, _, rfl, rfl, .ref p, rfl, p, _, rfl, pput e (penl ..) (putN ..), ?_⟩
    have e1 : (L2.upd H p (.dK (penK l (a : Int) d ((c : Int) + 1) f0))) p = some (.dK (penK l (a : Int) d ((c : Int) + 1) f0)) := upd_same
    have l1 : (L2.upd H p (.dK (penK l (a : Int) d ((c : Int) + 1) f0))) l = some (.lst (ns.map V.int)) := by rw [upd_ne npl.symm]; exact hl
    have b1 : But p H (L2.upd H p (.dK (penK l (a : Int) d ((c : Int) + 1) f0))) := But.upd _ _
    generalize L2.upd H p (.dK (penK l (a : Int) d ((c : Int) + 1) f0)) = H1 at e1 l1 b1
    -- the cell
    refine ⟨fun σ H' => ∃ (v2 : Option V) (a : Nat) (d f : Int), σ = [some (.ref p), some (.int m), v2, none, none] ∧ H' p = some (.dK (penK l (a : Int) d ((c : Int) + 1) f)) ∧ a ≤ ns.length ∧ 0 ≤ d ∧ 0 ≤ f ∧ f < 2147483648 ∧ H' l = some (.lst (ns.map V.int)) ∧ But p H H', ?_, ?_⟩
    · refine ⟨.ref p, rfl, p, _, rfl, pget e1 (getD ..), rfl, _, rfl, ?_⟩
      refine ite2 (fun hd0 => ?_) (fun _ => ?_)
      · refine ⟨.ref p, rfl, p, _, rfl, pget e1 (getA ..), .ref p, rfl, p, _, rfl, pget e1 (getC ..), l, _, rfl, .inl (.inl (.inl l1)), _, _, rfl, rfl, _, rfl, ?_⟩
        refine ite2 (fun hlt => ?_) (fun _ => ?_)
        · have hlt' : (a : Int) < ((ns.map V.int).length : Int) := of_decide_eq_true hlt
          have hlt2 : a < ns.length := by
            rw [List.length_map] at hlt'
            omega
          have hz : (ns.map V.int)[a]? = some (.int ns[a]) := by
            rw [List.getElem?_map, List.getElem?_eq_getElem hlt2]
            rfl
          refine ⟨.ref p, rfl, p, _, rfl, pget e1 (getC ..), .ref p, rfl, p, _, rfl, pget e1 (getA ..), l, _, _, _, rfl, rfl, .inl (.inl l1), atI_nat hz, ?_⟩
          refine ⟨.ref p, rfl, p, _, rfl, pget e1 (getA ..), _, _, rfl, rfl, .ref p, rfl, p, _, rfl, pput e1 (penl ..) (putA ..), ?_⟩
          have e2 : (L2.upd H1 p (.dK (penK l ((a : Int) + 1) d ((c : Int) + 1) f0))) p = some (.dK (penK l ((a + 1 : Nat) : Int) d ((c : Int) + 1) f0)) := upd_same
          have l2 : (L2.upd H1 p (.dK (penK l ((a : Int) + 1) d ((c : Int) + 1) f0))) l = some (.lst (ns.map V.int)) := by rw [upd_ne npl.symm]; exact l1
          have b2 : But p H (L2.upd H1 p (.dK (penK l ((a : Int) + 1) d ((c : Int) + 1) f0))) := b1.trans (But.upd _ _)
          generalize L2.upd H1 p (.dK (penK l ((a : Int) + 1) d ((c : Int) + 1) f0)) = H2 at e2 l2 b2
          refine ⟨.int ns[a], rfl, _, _, rfl, rfl, ⟨by decide, by decide, by decide⟩, _, _, rfl, rfl, _, rfl, ?_⟩
          refine ite2 (fun hbig => ?_) (fun _ => ?_)
          · have hb : (10 : Int) ^ (18 : Int).toNat ≤ ns[a] := of_decide_eq_true hbig
            refine ⟨.int ns[a], rfl, _, _, rfl, rfl, ⟨by decide, by decide, by decide⟩, _, _, rfl, rfl, .ref p, rfl, p, _, rfl, pput e2 (penl ..) (putD ..), ?_⟩
            exact ⟨_, a + 1, _, f0, rfl, upd_same, hlt2, by omega, hf, hf2, by rw [upd_ne npl.symm]; exact l2, b2.trans (But.upd _ _)⟩
          · refine ⟨.ref p, rfl, p, _, rfl, pget e2 (getF ..), _, _, rfl, rfl, .inr ⟨by decide, by decide⟩, .int ns[a], rfl, _, _, rfl, rfl, .inl ⟨_, rfl, _, _, rfl, rfl, (by show (0 : Int) < 2147483587; decide), .ref p, rfl, p, _, rfl, pput e2 (penl ..) (putF' ..), ?_⟩⟩
            refine ⟨_, a + 1, d, _, rfl, upd_same, hlt2, hd, Int.emod_nonneg _ (by decide), Int.lt_trans (Int.emod_lt_of_pos _ (by decide)) (by decide), by rw [upd_ne npl.symm]; exact l2, b2.trans (But.upd _ _)⟩
        · exact ⟨none, a, d, f0, rfl, e1, ha, hd, hf, hf2, l1, b1⟩
      · refine iteF ?_
        exact ⟨none, a, d, f0, rfl, e1, ha, hd, hf, hf2, l1, b1⟩
    · rintro σ' H2 ⟨v2, a, d, f0, rfl, e2, ha, hd, hf, hf2, l2, b2⟩
      refine ⟨.ref p, rfl, p, _, rfl, pget e2 (getD ..), _, _, rfl, rfl, _, rfl, ?_⟩
      refine ite2 (fun _ => ?_) (fun _ => ?_)
      · refine ⟨.ref p, rfl, p, _, rfl, pget e2 (getD ..), .inl ⟨_, rfl, .int m, rfl, _, _, rfl, rfl, (by show 0 < m; omega), ?_⟩⟩
        refine ⟨.ref p, rfl, p, _, rfl, pget e2 (getD ..), .int m, rfl, _, _, rfl, rfl, ⟨(by omega), (by omega)⟩, .ref p, rfl, p, _, rfl, pput e2 (penl ..) (putD ..), ?_⟩
        refine ⟨.int (d % m), rfl, ?_⟩
        refine q _ _ (Int.emod_nonneg _ (by omega)) (Int.emod_lt_of_pos _ (by omega)) ⟨⟨a, d / m, f0, upd_same, ha, Int.ediv_nonneg hd (by omega), hf, hf2⟩, by rw [upd_ne npl.symm]; exact l2⟩ (b2.trans (But.upd _ _))
      · refine ⟨.ref p, rfl, p, _, rfl, pget e2 (getF ..), .ref p, rfl, p, _, rfl, pget e2 (getN ..), _, _, rfl, rfl, .inr ⟨by decide, by decide⟩, _, _, rfl, rfl, _, _, rfl, rfl, ?_⟩
        refine ⟨.int (f0 + ((c : Int) + 1) * 7907 + 43), rfl, _, _, rfl, rfl, ⟨by decide, by decide, by omega⟩, _, _, rfl, rfl, (by show (0 : Int) < 2305843009213693951; decide), .inl ⟨_, rfl, _, _, rfl, rfl, ⟨by decide, by decide⟩, .int m, rfl, _, _, rfl, rfl, (by show 0 < m; omega), ?_⟩⟩
        exact q _ _ (Int.emod_nonneg _ (by omega)) (Int.emod_lt_of_pos _ (by omega)) ⟨⟨a, d, f0, e2, ha, hd, hf, hf2⟩, l2⟩ b2
def spPick (K : PySem.W.Frag) : Sp := fun vs H Q _ => ∃ (p l s : Addr) (ns : List Int) (c : Nat) (xs : List V), vs = [.ref p, .ref s] ∧ Pen H p l ns c ∧ ns.length ≤ 1000 ∧ c ≤ 1000000000 ∧ (SqL K H s xs ∨ SqT K H s xs) ∧ xs ≠ [] ∧ xs.length ≤ 1000000 ∧ s ≠ p ∧
  ∀ x H', x ∈ xs → Pen H' p l ns (c + 1) → But p H H' → Q x H'
theorem But.sq {H H' : Hp} {p s : Addr} {xs : List V} (b : But p H H') (n : s ≠ p) (h : SqL K H s xs) : SqL K H' s xs := by
  rcases h with (h | ⟨o, h⟩) | h
  · exact .inl (.inl (b _ _ n h))
  · exact .inl (.inr ⟨o, b _ _ n h⟩)
  · exact .inr h
end
end Pn

namespace Pn
open PySem PySem.Spec PyProof.Rows L2
theorem ix_or {X : Cx} : IxR X (fun x y H Q => rIxL X.K x y H Q ∨ rIxT X.K x y H Q) := ix_list.or ix_tup
section
variable {P : Program} {w : World} {K : PySem.W.Frag} {mg : Str → Option Value} {base : Heap}
theorem ok_pick {f fD : Addr} {fd fdD : FuncData} {k : Nat} (F : Fun K "_law_pick" "_law_pick" sPick f fd) (G : FnOk P w K mg base CX0 (k + 1) fD fdD ["_law_pen_here", "_law_many"] spDraw) (gD : mg "_law_draw" = some (.ref fD)) (kD : PySem.W.keepIn K (.ref fD) = true) (bD : Binds K fdD ["_law_pen_here", "_law_many"] [])
    (ml : mg "len" = none) : FnOk P w K mg base CX0 (k + 2) f fd ["_law_pen_here", "_law_some"] (spPick K) := by
  refine F.ok scPick (fun vs H Q E h => ?_) (fun cdv A outer s H vs Q E hr h => ?_)
  · obtain ⟨p, l, s, ns, c, xs, rfl, _⟩ := h
    rfl
  · obtain ⟨p, l, s, ns, c, xs, rfl, hP, hlen, hc, hS, hne, hx, hsp, q⟩ := h
    refine ⟨_, pss_one (ps_ret (pe_ix ix_or (pv 1) (pe_call G hr (by rfl) gD kD bD .nil pass0 (pa_cons (pv 0) (pa_cons (pe_callB call_len_seq (by rfl) ml PySem.boot_len (pa_cons (pv 1) pa_nil)) pa_nil))) (fun _ _ => rfl))), ?_⟩
    have hpos : 1 ≤ xs.length := by
      cases xs with
      | nil => exact absurd rfl hne
      | cons x r => rw [List.length_cons]; omega
    refine ⟨.ref s, rfl, .ref p, rfl, .ref s, rfl, s, xs, rfl, hS, p, l, ns, c, _, rfl, hP, hlen, hc, by omega, by omega, fun r H' r0 r1 hP' b' => ?_⟩
    obtain ⟨j, rfl⟩ : ∃ j : Nat, r = (j : Int) := ⟨r.toNat, by omega⟩
    have hj : j < xs.length := by omega
    have hg : xs[j]? = some xs[j] := List.getElem?_eq_getElem hj
    rcases hS with hS | hS
    · exact .inl ⟨s, xs, _, _, rfl, rfl, b'.sq hsp hS, atI_nat hg, q _ _ (List.getElem_mem hj) hP' b'⟩
    · refine .inr ⟨s, xs, _, _, rfl, rfl, ?_, atI_nat hg, q _ _ (List.getElem_mem hj) hP' b'⟩
      rcases hS with (h | ⟨o, h⟩) | h
      · exact .inl (.inl (b' _ _ hsp h))
      · exact .inl (.inr ⟨o, b' _ _ hsp h⟩)
      · exact .inr h
end
end Pn

/-! Drawn terms. -/
namespace Ad
open PySem PySem.Spec PySem.Calls PyProof.Rows L2
/-- a row: name, number of arguments, weight -/
abbrev Row := Str × Nat × Int
def RowV (K : PySem.W.Frag) (H : Hp) (r : Row) (v : V) : Prop := ∃ b, v = .ref b ∧ SqT K H b [.str r.1, .int (r.2.1 : Int), .int r.2.2]
def RowsAt (K : PySem.W.Frag) (H : Hp) (a : Addr) (R : List Row) : Prop := ∃ b y vs, SqT K H a [.ref b, y] ∧ SqT K H b vs ∧ F2 (RowV K H) R vs
theorem RowV.mono {K : PySem.W.Frag} {H H' : Hp} (k : TK H H') (r : Row) (v : V) (h : RowV K H r v) : RowV K H' r v := by
  obtain ⟨b, e, s⟩ := h
  exact ⟨b, e, k.sq s⟩
theorem RowsAt.mono {K : PySem.W.Frag} {H H' : Hp} (k : TK H H') {a : Addr} {R : List Row} (h : RowsAt K H a R) : RowsAt K H' a R := by
  obtain ⟨b, y, vs, s1, s2, f⟩ := h
  exact ⟨b, y, vs, k.sq s1, k.sq s2, f.mono (RowV.mono k)⟩
/-- rows to draw from: names that can be laid, at most three arguments, one without any -/
structure ROk (R : List Row) : Prop where
  names : ∀ r ∈ R, nameOk r.1 = true ∧ r.2.1 ≤ 3
  const : ∃ (j : Nat) (r : Row), R[j]? = some r ∧ r.2.1 = 0
  few : R.length ≤ 1000
def sz : Nat → Nat
  | 0 => 1
  | d + 1 => 1 + 3 * sz d
def dn : Nat → Nat
  | 0 => 2
  | d + 1 => 2 + 3 * dn d
theorem two_dn : ∀ d, 2 ≤ dn d
  | 0 => Nat.le_refl _
  | _ + 1 => Nat.le_add_right _ _
theorem one_sz : ∀ d, 1 ≤ sz d
  | 0 => Nat.le_refl _
  | _ + 1 => Nat.le_add_right _ _
namespace Kb
mutual
/-- all names with their arities stand in the rows -/
def Wf (rk : List Row) : T → Prop
  | .v _ => True
  | .f x ts => (∃ r ∈ rk, r.1 = x ∧ r.2.1 = ts.length) ∧ WfL rk ts
def WfL (rk : List Row) : List T → Prop
  | [] => True
  | t :: ts => Wf rk t ∧ WfL rk ts
end
theorem wfL_of {rk : List Row} : ∀ {ts : List T}, (∀ t ∈ ts, Wf rk t) → WfL rk ts
  | [], _ => True.intro
  | t :: ts, h => ⟨h t (List.mem_cons_self ..), wfL_of fun u hu => h u (List.mem_cons_of_mem _ hu)⟩
mutual
theorem Wf.mono {rk rl : List Row} (h : ∀ r ∈ rk, r ∈ rl) : ∀ {t : T}, Wf rk t → Wf rl t
  | .v _, _ => True.intro
  | .f x ts, ⟨⟨r, hr, e⟩, k⟩ => ⟨⟨r, h r hr, e⟩, WfL.mono h k⟩
theorem WfL.mono {rk rl : List Row} (h : ∀ r ∈ rk, r ∈ rl) : ∀ {ts : List T}, WfL rk ts → WfL rl ts
  | [], _ => True.intro
  | t :: ts, ⟨a, b⟩ => ⟨Wf.mono h a, WfL.mono h b⟩
end
end Kb
/-- a drawn term of a depth, its variables below a number -/
structure DT (R : List Row) (deep : Nat) (nv : Int) (t : T) : Prop where
  named : t.named = true
  dep : t.dep ≤ deep + 1
  size : t.size ≤ sz deep
  vars : ∀ j ∈ t.vars, 0 ≤ j ∧ j < nv
  wf : Kb.Wf R t
theorem pen_tk {H H' : Hp} {p l : Addr} {ns : List Int} {c : Nat} (P : Pn.Pen H p l ns c) (b : Pn.But p H H') : TK H H' := by
  obtain ⟨⟨a, d, f, e, _⟩, _⟩ := P
  intro q xs
  refine ⟨fun h => b _ _ (fun z => ?_) h, fun o h => b _ _ (fun z => ?_) h⟩
  · rw [z, e] at h
    cases h
  · rw [z, e] at h
    cases h
theorem pen_same {H H' : Hp} {p l : Addr} {ns : List Int} {c : Nat} (P : Pn.Pen H p l ns c) (s : Same H H') : Pn.Pen H' p l ns c := by
  obtain ⟨⟨a, d, f, e, r⟩, h⟩ := P
  exact ⟨⟨a, d, f, s _ _ e, r⟩, s _ _ h⟩
def spDrawn (K : PySem.W.Frag) (n : Nat) : Sp := fun vs H Q _ => ∃ (p l ra : Addr) (ns : List Int) (c deep : Nat) (nv : Int) (R : List Row), vs = [.ref p, .ref ra, .int (deep : Int), .int nv] ∧ Pn.Pen H p l ns c ∧ ns.length ≤ 1000 ∧ c + dn deep ≤ 1000000000 ∧ RowsAt K H ra R ∧ ROk R ∧
  deep < n ∧ 0 ≤ nv ∧ nv ≤ 1000 ∧ ∀ t v H' c', Tm K H' t v → DT R deep nv t → c' ≤ c + dn deep → Pn.Pen H' p l ns c' → Pn.But p H H' → Q v H'
end Ad

/-! dict(t) of a tuple of pairs. -/
namespace Dt
open PySem PySem.Spec PySem.Calls PyProof.Rows L2
theorem tuple_keys_none : typeLookup (.type "tuple") "keys" = pure none := am_miss_of_fast (by first | decide +kernel | rfl)
section
variable {prog : Program} {w : World} {A : Around} {E : Value → Shared → Prop}
/-- a tuple has no attribute 'keys' -/
theorem no_keys {s : Shared} {a : Addr} {o : Obj} {xs : Array Value} {k : Nat} {Q : Option Value → Shared → Prop} (hx : s.heap.get? a = some o) (hc : o.cls = .type "tuple") (hdat : o.data = .seq xs k) (hd : o.dict = none) (hA : A.handled = none)
    (h : ∀ h' tk, (∀ b ob, s.heap.get? b = some ob → h'.get? b = some ob) → Q none { s with heap := h', toks := tk }) : wpAny (model prog w) A (getAttr? (.ref a) "keys") Q E s := by
  obtain ⟨c, dct, dat, sl⟩ := o
  simp only at hc hdat hd
  subst hc hdat hd
  obtain ⟨hp, g, d, tk, os⟩ := s
  have isT : ∀ tk', (⟨hp, g, d, tk', os⟩ : Shared).TypeIs (.ref a) "tuple" := fun _ => ⟨_, hx, rfl⟩
  have g1 := tuple_keys_none
  have g2 : (["__module__", "__name__", "__qualname__", "__doc__", "__annotations__"] : List Str).contains "keys" = false := by decide +kernel
  have g3 : ("keys" : Str).length + 100 ≤ sizeLine := by first | size_fits | decide +kernel
  have g4 := sub_AttributeError
  have g5 := PySem.F.slot_tuple_getattribute.lookup
  have g6 := PySem.F.slot_tuple_getattribute.bind (.ref a)
  have g7 := am_tuple_getattr_none
  unfold getAttr? getAttrBy? getAttrBy
  repeat (any_goals (first | assumption | exact isT _ | ((with_reducible show wpAny _ _ (call (Value.builtin "tuple.__getattribute__") _ _) _ _ _); refine call_meets PySem.F.slot_tuple_getattribute (isT _) am_entry_tuple_getattribute (PySem.F.args_tuple_getattribute_2 _ _) (meets_getattribute_miss_tuple a xs k sl "keys" _ g1 g2 g3) ⟨hx, hA, fun h' tk' e hx' => ?_⟩) | wp_step))
  obtain ⟨t', u', he⟩ := hx'.there
  show wpAny _ _ (getattributeRaised _ _ _ _ _ _ _) _ _ _
  unfold getattributeRaised
  repeat (any_goals (first | assumption | wp_step))
  all_goals first | exact h _ _ hx'.keeps | (dsimp only; repeat (any_goals (first | assumption | exact h _ _ hx'.keeps | wp_step)))
theorem walk {R : Result → Shared → Prop} {S I l : Addr} {items : Array Value} {res : Value} (hh : A.handled = none) (lI : l ≠ I) (sI : S ≠ I) (sl : S ≠ l) :
    ∀ (rest : List (L2.Key × Value)) (i : Nat) (acc : List (L2.Key × Value)) (ix : Int) (t : Tok) (s : Shared), items.size = i + rest.length → acc.length + rest.length ≤ sizeLine →
      (∀ (j : Nat) (q : L2.Key × Value), rest[j]? = some q → ∃ (b : Addr) (u : Value), items[i + j]? = some (.ref b) ∧ b ≠ S ∧ b ≠ I ∧ IsTup s.heap b #[u, q.2] ∧ keyIs q.1 u = true) →
      s.heap.IsTupleIter I l i → s.heap.IsTuple l items → s.heap.DictOf (mixKind prog w) S acc →
      (∀ h' tk, h'.DictOf (mixKind prog w) S (merged acc rest) → (∀ b o, b ≠ S → b ≠ I → s.heap.get? b = some o → h'.get? b = some o) → R (.ok (.ret res)) { s with heap := h', toks := tk }) →
      codeAny (model prog w) A (.builtin "dict.update.loop" ⟨[.ref S, .ref I, .int ix t, res], []⟩) R s
  | [], i, acc, ix, t, s, hsz, hln, ht, hit, hl, hm, hR => by
    refine codeAny_builtin ud_entry ?_
    rw [Around.under_plainId ud_plain _]
    show wpAny _ A.in1 (pyNext (.ref I) >>= _) _ _ s
    refine wpAny_bind (wpAny_pyNext_tuple_end (A := A.in1) hh hit hl (by first | exact Array.getElem?_eq_none (Nat.le_of_eq hsz) | (simp at hsz; simp; omega)) fun h' he => ?_)
    show wpAny _ A.in1 (Builtin.Dict.addKeywords S [] >>= _) _ _ _
    refine wpAny_bind (wpAny_pure (wpAny_pure ?_))
    exact hR h' s.toks (hm.extBut he sI) fun b o _ hb e => he b o hb e
  | q :: rest, i, acc, ix, t, s, hsz, hln, ht, hit, hl, hm, hR => by
    obtain ⟨b, u, hb, hbS, hbI, htup, hk⟩ := ht 0 q rfl
    rw [List.length_cons] at hsz hln
    refine codeAny_builtin ud_entry ?_
    rw [Around.under_plainId ud_plain _]
    show wpAny _ A.in1 (pyNext (.ref I) >>= _) _ _ s
    refine wpAny_bind (wpAny_pyNext_tuple_item (x := .ref b) hit hl (by simpa using hb) fun h1 hit1 hs1 => ?_)
    have tup1 : IsTup h1 b #[u, q.2] := htup.extBut hs1.extBut hbI
    have hl1 : h1.IsTuple l items := by
      obtain ⟨o, e, r⟩ := id hl
      exact ⟨o, hs1.extBut l o lI e, r⟩
    have hm1 : h1.DictOf (mixKind prog w) S acc := hm.extBut hs1.extBut sI
    obtain ⟨o, ho, hc, n, hd⟩ := id tup1
    show wpAny _ A.in1 (holding [Value.ref b] _ >>= _) _ _ _
    refine wpAny_bind (wpAny_holding (wpAny_bind (wpAny_tryCatch ?_)))
    unfold Builtin.Dict.pairItems
    refine wpAny_bind (wpAny_typeOf (T := "tuple") ⟨o, ho, hc⟩ ?_)
    rw [if_pos (by first | decide | rfl | simp)]
    refine wpAny_bind (wpAny_seqItems ho hd (wpAny_pure ?_))
    show wpAny _ A.in1 (holding [u, q.2] (dictSet S u q.2)) _ _ _
    refine wpAny_holding (wpAny_dictSet_pairs (knd := mixKind prog w) (k := q.1) hk hm1 (fun h2 hm2 hs2 => ?_) (by omega))
    refine wpAny_pure ⟨plainId_quiet ud_plain _, walk (items := items) hh lI sI sl rest (i + 1) (stored acc q.1 q.2) (ix + 1) 0 _ (show items.size = i + 1 + rest.length by omega) ?_ (fun j q' e => ?_) ?_ ?_ hm2 fun h' tk hd' k => ?_⟩
    · have z := stored_length_le acc q.1 q.2
      omega
    · obtain ⟨b', u', hb', hbS', hbI', htup', hk'⟩ := ht (j + 1) q' (by simpa using e)
      refine ⟨b', u', ?_, hbS', hbI', (htup'.extBut hs1.extBut hbI').extBut hs2.extBut hbS', hk'⟩
      rw [show i + 1 + j = i + (j + 1) by omega]
      exact hb'
    · exact hit1.at fun o' e => hs2.extBut I o' (Ne.symm sI) e
    · obtain ⟨o', e, r⟩ := id hl1
      exact ⟨o', hs2.extBut l o' (Ne.symm sl) e, r⟩
    · exact hR h' tk hd' fun c oc h3 h4 e => k c oc h3 h4 (hs2.extBut c oc h3 (hs1.extBut c oc h4 e))
theorem new_dict {s : Shared} {l : Addr} {ol : Obj} {items : Array Value} {n : Nat} {prs : List (L2.Key × Value)} {Q : Value → Shared → Prop} (hh : A.handled = none) (hl : s.heap.get? l = some ol) (hc : ol.cls = .type "tuple") (hd : ol.dict = none)
    (hdat : ol.data = .seq items n) (hsz : items.size = prs.length) (hln : prs.length ≤ sizeLine)
    (ht : ∀ (j : Nat) (q : L2.Key × Value), prs[j]? = some q → ∃ (b : Addr) (u : Value), items[j]? = some (.ref b) ∧ IsTup s.heap b #[u, q.2] ∧ keyIs q.1 u = true)
    (h : ∀ h' tk, h'.DictOf (mixKind prog w) s.heap.objs.size (merged [] prs) → (∀ b o, s.heap.get? b = some o → h'.get? b = some o) → Q (.ref s.heap.objs.size) { s with heap := h', toks := tk }) :
    wpAny (model prog w) A (call (.type "dict") [.ref l]) Q E s := by
  refine callType_codes (Q₁ := fun v sA => v = .ref s.heap.objs.size ∧ sA = { s with heap := s.heap.push { cls := .type "dict", data := .dict #[] } }) PySem.F.kt_called_dict (PySem.F.kt_typeCall_dict_1 _) PySem.F.entry_dict_init (kt_code_dict_new _ ⟨rfl, rfl⟩) ?_
  rintro v sA ⟨rfl, rfl⟩
  have made : (s.heap.push { cls := .type "dict", data := .dict #[] }).DictOf (mixKind prog w) s.heap.objs.size [] := Heap.DictOf.new s.heap
  have k0 : ∀ b o, s.heap.get? b = some o → (s.heap.push { cls := .type "dict", data := .dict #[] }).get? b = some o := fun b o e => Heap.get?_push_of_some _ e
  refine ⟨made.typeIs, PySem.F.args_dict_init_2 _ _, ?_⟩
  unfold Builtin.«dict.__init__»
  refine wpAny_bind ?_
  unfold Builtin.Dict.selfAndRest
  refine wpAny_bind (wpAny_notOrdered_dict made.typeIs ?_)
  show wpAny _ _ (pure (s.heap.objs.size, [Value.ref l])) _ _ _
  refine wpAny_pure ?_
  show wpAny _ _ (Builtin.Dict.updateFrom "dict.__init__" s.heap.objs.size (.ref l) [] .none) _ _ _
  unfold Builtin.Dict.updateFrom
  refine wpAny_bind (wpAny_typeOf (T := "tuple") ⟨ol, k0 _ _ hl, hc⟩ ?_)
  rw [if_pos (by first | decide | rfl | simp)]
  refine wpAny_bind (no_keys (k0 _ _ hl) hc hdat hd hh fun h1 tk1 hk1 => ?_)
  rw [if_pos (show (none : Option Value).isNone = true from rfl)]
  refine wpAny_bind (wpAny_rule ?_)
  have hl1 : h1.IsTuple l items := ⟨ol, hk1 _ _ (k0 _ _ hl), hc, n, hdat⟩
  have hS1 : s.heap.objs.size < h1.objs.size := by
    have e : (s.heap.push { cls := .type "dict", data := .dict #[] }).get? s.heap.objs.size = some { cls := .type "dict", data := .dict #[] } := Heap.get?_push_size _ rfl
    exact Heap.lt_size (hk1 _ _ e)
  refine wpAny_bind (wpAny_pyIter_tuple hl1 ?_)
  have k2 : ∀ b o, h1.get? b = some o → (h1.push { cls := .type "tuple_iterator", data := .fields #[.ref l, .int 0 0] }).get? b = some o := fun b o e => Heap.get?_push_of_some _ e
  have low : l < s.heap.objs.size := Heap.lt_size hl
  have key := walk (prog := prog) (w := w) (A := A.in1) (R := wants (fun r sB => r = .none ∧ Q (.ref s.heap.objs.size) sB) E) (S := s.heap.objs.size) (I := h1.objs.size) (l := l) (items := items) (res := Value.none) hh
    (Nat.ne_of_lt (Nat.lt_trans low hS1)) (Nat.ne_of_lt hS1) (Nat.ne_of_gt low) prs 0 [] 0 0
    { s with heap := h1.push { cls := .type "tuple_iterator", data := .fields #[.ref l, .int 0 0] }, toks := tk1 } (by rw [hsz, Nat.zero_add]) (by rw [List.length_nil, Nat.zero_add]; exact hln)
    (fun j q e => by
      obtain ⟨b, u, e1, e2, e3⟩ := ht j q e
      have hb : b < s.heap.objs.size := e2.lt
      exact ⟨b, u, by rw [Nat.zero_add]; exact e1, Nat.ne_of_lt hb, Nat.ne_of_lt (Nat.lt_trans hb hS1), e2.keeps fun c o z => k2 _ _ (hk1 _ _ (k0 _ _ z)), e3⟩)
    ⟨_, Heap.get?_push_size _ rfl, rfl, rfl⟩ (by
      obtain ⟨o', e, r⟩ := id hl1
      exact ⟨o', k2 _ _ e, r⟩) ((made.at fun o e => hk1 _ _ e).at fun o e => k2 _ _ e)
    (fun h' tk hd' k => ⟨rfl, h h' tk hd' fun b o e => k b o (Nat.ne_of_lt (Heap.lt_size e)) (Nat.ne_of_lt (Nat.lt_trans (Heap.lt_size e) hS1)) (k2 _ _ (hk1 _ _ (k0 _ _ e)))⟩)
  first
    | exact wpAny_pure ⟨plainId_quiet ud_plain _, key⟩
    | exact wpAny_bind (wpAny_pure (wpAny_pure ⟨plainId_quiet ud_plain _, key⟩))
end
/-- a tuple whose object is known: it bears no dict of its own -/
def Tup0 (H : Hp) (a : Addr) (xs : List V) : Prop := ∃ o : Obj, H a = some (.frz o (.tup xs)) ∧ o.dict = none
theorem Tup0.sq {K : PySem.W.Frag} {H : Hp} {a : Addr} {xs : List V} (h : Tup0 H a xs) : SqT K H a xs := by
  obtain ⟨o, e, _⟩ := h
  exact .inl (.inr ⟨o, e⟩)
section
variable {X : Cx}
/-- dict(t), t a tuple of pairs -/
theorem call_dictT (calm : X.calm = true) : CallR X (.type "dict") (fun xs H Q => ∃ (a : Addr) (ps : List Addr) (kvs : List (L2.Key × V)), xs = [.ref a] ∧ Tup0 H a (ps.map V.ref) ∧ Paired (fun p kv => SqT X.K H p [kV kv.1, kv.2]) ps kvs ∧
    ∀ p, H p = none → Q (.ref p) (upd H p (.dK (mergeK [] kvs)))) := by
  intro pins s σ H xs us Q I r q
  obtain ⟨a, ps, kvs, rfl, ⟨o, e, hd⟩, hp, q⟩ := q
  rw [Vals.ref1 r]
  obtain ⟨ho, hz, its, rv, ⟨o', ho', hc, n, hdat⟩⟩ := (show ObjOk X.prog X.w H s.heap a (.frz o (.tup (ps.map V.ref))) from I.hok a _ e)
  rw [ho] at ho'
  cases ho'
  have ei := refs_at rv
  subst ei
  rw [List.length_map] at hz
  obtain ⟨prs, rel, hl, hpr⟩ := pairs_of I hp
  refine new_dict (prs := prs) (I.ok.hd calm) ho hc hd hdat (by simp [hl]) (by rw [hl]; exact hz) (fun j q' e => ?_) fun h' tk hd' k => ?_
  · obtain ⟨b, u, e1, e2, e3⟩ := hpr j q' e
    exact ⟨b, u, by simp [e1], e2, e3⟩
  · have hm : (s.heap.objs.size == sysModules) = false := beq_eq_false_iff_ne.mpr (Nat.ne_of_gt I.big)
    have short : (mergeK [] kvs).length ≤ sizeLine := by
      refine Nat.le_trans (length_mergeK kvs []) ?_
      rw [List.length_nil, Nat.zero_add, rel.length, hl]
      exact hz
    exact ⟨.ref s.heap.objs.size, upd H s.heap.objs.size (.dK (mergeK [] kvs)), I.laid (t' := tk) k (Nat.le_refl _) (show ObjOk X.prog X.w _ _ _ (.dK (mergeK [] kvs)) from ⟨short, hm, merged [] prs, KV.merge rel .nil, hd'⟩), rfl, q _ (I.hok.fresh (Nat.le_refl _))⟩
/-- (a, b, ..), its object known -/
def tTup0 (t : TA) : TE := fun σ H Q => t σ H fun xs G => xs.length ≤ sizeLine ∧ ∀ p o, G p = none → o.dict = none → Q (.ref p) (upd G p (.frz o (.tup xs)))
theorem pe_tup0 {es : List Expr} {t : TA} {x1 : Nat} {pos : Pos} (h : PA X es t) : PE X (.Tuple es x1 pos) (tTup0 t) := by
  refine ⟨fun pins s σ H Q I hq => ?_⟩
  refine wpAny_Tuple_spliced (thn (h.run pos pins s σ H _ I hq) fun us s1 ⟨xs, H1, I1, r, z, q⟩ => ⟨by rw [← r.length]; exact z, ?_⟩)
  refine ⟨.ref s1.heap.objs.size, _, I1.laid (t' := s1.toks) (o := .frz { cls := .type "tuple", data := .seq us.toArray } (.tup xs)) (fun b u e => Heap.get?_push_of_some _ e) (Nat.le_refl _) ?_, rfl, q _ _ (I1.hok.fresh (Nat.le_refl _)) rfl⟩
  exact ⟨Heap.get?_push_size _ rfl, z, us, r, ⟨_, Heap.get?_push_size _ rfl, rfl, _, rfl⟩⟩
/-- tuple(xs) of a list, its object known -/
theorem call_tuple0 : CallR X (.type "tuple") (fun xs H Q => ∃ p ys, xs = [.ref p] ∧ SqL X.K H p ys ∧ ∀ q o, H q = none → o.dict = none → Q (.ref q) (upd H q (.frz o (.tup ys)))) := by
  intro pins s σ H xs us Q I r h
  obtain ⟨p, ys, rfl, hq, q⟩ := h
  rw [Vals.ref1 r]
  obtain ⟨its, r', pl, hz⟩ := I.list hq
  have len := r'.length
  refine call_tuple_list pl.isList (fun h' kp => ?_) (by simp only [List.size_toArray] <;> omega)
  have I1 : Inv X pins σ H { s with heap := h' } := I.kept (t' := s.toks) kp
  refine ⟨.ref h'.objs.size, _, I1.laid (t' := s.toks) (o := .frz { cls := .type "tuple", data := .seq its.toArray } (.tup ys)) (fun b o e => Heap.get?_push_of_some _ e) (Nat.le_refl _) ?_, rfl, q _ _ (I1.hok.fresh (Nat.le_refl _)) rfl⟩
  exact ⟨Heap.get?_push_size _ rfl, hz, its, r', IsTup.new _ _⟩
end
end Dt

/-! Substitutions. -/
namespace Ad
open PySem PySem.Spec PySem.Calls PyProof.Rows L2
abbrev Sb := List (Int × T)
namespace Sb
def look : Sb → Int → Option T
  | [], _ => none
  | (j, t) :: r, i => if j = i then some t else look r i
def put (tb : Sb) (i : Int) (t : T) : Sb := if (look tb i).isSome = true then tb.map (fun e => if e.1 = i then (e.1, t) else e) else tb ++ [(i, t)]
/-- what a variable becomes -/
def asg (tb : Sb) (i : Int) : T := (look tb i).getD (.v i)
theorem look_app (tb : Sb) (i : Int) (t : T) (j : Int) : look (tb ++ [(i, t)]) j = match look tb j with
    | some u => some u
    | none => if i = j then some t else none := by
  induction tb with
  | nil => rfl
  | cons e r ih =>
    obtain ⟨k, u⟩ := e
    show (if k = j then some u else look (r ++ [(i, t)]) j) = match (if k = j then some u else look r j) with | some u => some u | none => _
    by_cases h : k = j
    · rw [if_pos h, if_pos h]
    · rw [if_neg h, if_neg h, ih]
theorem look_map (tb : Sb) (i : Int) (t : T) (j : Int) : look (tb.map (fun e => if e.1 = i then (e.1, t) else e)) j = if i = j ∧ (look tb j).isSome = true then some t else look tb j := by
  induction tb with
  | nil =>
    rw [if_neg (by intro h; cases h.2)]
    rfl
  | cons e r ih =>
    obtain ⟨k, u⟩ := e
    show look ((if k = i then (k, t) else (k, u)) :: _) j = _
    by_cases h : k = i
    · rw [if_pos h]
      show (if k = j then some t else look (r.map _) j) = if i = j ∧ (if k = j then some u else look r j).isSome = true then some t else (if k = j then some u else look r j)
      by_cases hj : k = j
      · rw [if_pos hj, if_pos hj, if_pos ⟨h.symm.trans hj, rfl⟩]
      · have ne : ¬ i = j := fun z => hj (h.trans z)
        rw [if_neg hj, if_neg hj, ih]
    · rw [if_neg h]
      show (if k = j then some u else look (r.map _) j) = if i = j ∧ (if k = j then some u else look r j).isSome = true then some t else (if k = j then some u else look r j)
      by_cases hj : k = j
      · rw [if_pos hj, if_pos hj, if_neg (fun z => h (hj.trans z.1.symm))]
      · rw [if_neg hj, if_neg hj, ih]
theorem look_put (tb : Sb) (i : Int) (t : T) (j : Int) : look (put tb i t) j = if i = j then some t else look tb j := by
  unfold put
  by_cases h : (look tb i).isSome = true
  · rw [if_pos h, look_map]
    by_cases e : i = j
    · subst e
      rw [if_pos ⟨rfl, h⟩, if_pos rfl]
    · rw [if_neg (fun z => e z.1), if_neg e]
  · rw [if_neg h, look_app]
    by_cases e : i = j
    · subst e
      rw [if_pos rfl]
      cases z : look tb i with
      | none =>
        show some t = if i = i then some t else none
        exact (if_pos rfl).symm
      | some u =>
        rw [z] at h
        exact absurd rfl h
    · rw [if_neg e, if_neg e]
      cases look tb j <;> rfl
theorem look_key (tb : Sb) (i : Int) : (look tb i).isSome = true ↔ i ∈ tb.map (·.1) := by
  induction tb with
  | nil => exact ⟨(fun h => nomatch h), (fun h => nomatch h)⟩
  | cons e r ih =>
    obtain ⟨k, u⟩ := e
    show (if k = i then some u else look r i).isSome = true ↔ i ∈ k :: r.map (·.1)
    by_cases h : k = i
    · rw [if_pos h]
      exact ⟨fun _ => h ▸ List.mem_cons_self, fun _ => rfl⟩
    · rw [if_neg h, ih, List.mem_cons]
      exact ⟨.inr, fun z => z.elim (fun y => absurd y.symm h) id⟩
theorem keys_put (tb : Sb) (i : Int) (t : T) : (put tb i t).map (·.1) = if i ∈ tb.map (·.1) then tb.map (·.1) else tb.map (·.1) ++ [i] := by
  unfold put
  by_cases h : (look tb i).isSome = true
  · rw [if_pos h, if_pos ((look_key tb i).1 h), List.map_map]
    refine List.map_congr_left fun e _ => ?_
    show (if e.1 = i then (e.1, t) else e).1 = e.1
    split <;> rfl
  · rw [if_neg h, if_neg (fun z => h ((look_key tb i).2 z)), List.map_append]
    rfl
theorem nodup_put {tb : Sb} (h : (tb.map (·.1)).Nodup) (i : Int) (t : T) : ((put tb i t).map (·.1)).Nodup := by
  rw [keys_put]
  split
  · exact h
  · rename_i z
    rw [List.nodup_append]
    exact ⟨h, List.nodup_cons.mpr ⟨(fun y => nomatch y), List.nodup_nil⟩, fun a ha b hb e => z (by rw [List.mem_singleton.mp hb] at e; exact e ▸ ha)⟩
theorem len_put (tb : Sb) (i : Int) (t : T) : (put tb i t).length ≤ tb.length + 1 := by
  unfold put
  split
  · rw [List.length_map]
    exact Nat.le_succ _
  · rw [List.length_append]
    exact Nat.le_refl _
theorem mem_look {tb : Sb} (h : (tb.map (·.1)).Nodup) {i : Int} {t : T} : (i, t) ∈ tb ↔ look tb i = some t := by
  induction tb with
  | nil => exact ⟨(fun h => nomatch h), (fun h => nomatch h)⟩
  | cons e r ih =>
    obtain ⟨k, u⟩ := e
    obtain ⟨h1, h2⟩ := List.nodup_cons.mp h
    show _ ↔ (if k = i then some u else look r i) = some t
    by_cases z : k = i
    · rw [if_pos z, List.mem_cons]
      subst z
      constructor
      · rintro (y | y)
        · cases y
          rfl
        · exact absurd (List.mem_map.mpr ⟨_, y, rfl⟩) h1
      · intro y
        cases y
        exact .inl rfl
    · rw [if_neg z, List.mem_cons, ← ih h2]
      exact ⟨fun y => y.elim (fun x => absurd (congrArg Prod.fst x).symm z) id, .inr⟩
theorem look_mem {tb : Sb} {i : Int} {t : T} (h : look tb i = some t) : (i, t) ∈ tb := by
  induction tb with
  | nil => cases h
  | cons e r ih =>
    obtain ⟨k, u⟩ := e
    have h' : (if k = i then some u else look r i) = some t := h
    by_cases z : k = i
    · rw [if_pos z] at h'
      cases h'
      subst z
      exact List.mem_cons_self
    · rw [if_neg z] at h'
      exact List.mem_cons_of_mem _ (ih h')
end Sb
namespace T
mutual
def fill (s : Int → T) : T → T
  | .v i => s i
  | .f x ts => .f x (fillL s ts)
def fillL (s : Int → T) : List T → List T
  | [] => []
  | t :: ts => fill s t :: fillL s ts
end
theorem fillL_map (s : Int → T) : ∀ ts : List T, fillL s ts = ts.map (fill s)
  | [] => rfl
  | t :: ts => congrArg (fill s t :: ·) (fillL_map s ts)
mutual
theorem fill_fill (s r : Int → T) : ∀ t : T, fill r (fill s t) = fill (fun i => fill r (s i)) t
  | .v i => rfl
  | .f x ts => congrArg (T.f x) (fillL_fill s r ts)
theorem fillL_fill (s r : Int → T) : ∀ ts : List T, fillL r (fillL s ts) = fillL (fun i => fill r (s i)) ts
  | [] => rfl
  | t :: ts => by
    show fill r (fill s t) :: fillL r (fillL s ts) = _
    rw [fill_fill s r t, fillL_fill s r ts]
    rfl
end
mutual
theorem fill_congr {s r : Int → T} : ∀ t : T, (∀ j ∈ t.vars, s j = r j) → fill s t = fill r t
  | .v i, h => h i List.mem_cons_self
  | .f x ts, h => congrArg (T.f x) (fillL_congr ts h)
theorem fillL_congr {s r : Int → T} : ∀ ts : List T, (∀ j ∈ varsL ts, s j = r j) → fillL s ts = fillL r ts
  | [], _ => rfl
  | t :: ts, h => by
    show fill s t :: fillL s ts = _
    rw [fill_congr t fun j hj => h j (List.mem_append_left _ hj), fillL_congr ts fun j hj => h j (List.mem_append_right _ hj)]
    rfl
end
mutual
theorem fill_size {s : Int → T} {M : Nat} (one : 1 ≤ M) : ∀ t : T, (∀ j ∈ t.vars, (s j).size ≤ M) → (fill s t).size ≤ t.size * M
  | .v i, h => by
    have := h i List.mem_cons_self
    show (s i).size ≤ 1 * M
    omega
  | .f x ts, h => by
    have := fillL_size one ts h
    show 1 + sizeL (fillL s ts) ≤ (1 + sizeL ts) * M
    rw [Nat.add_mul]
    omega
theorem fillL_size {s : Int → T} {M : Nat} (one : 1 ≤ M) : ∀ ts : List T, (∀ j ∈ varsL ts, (s j).size ≤ M) → sizeL (fillL s ts) ≤ sizeL ts * M
  | [], _ => Nat.zero_le _
  | t :: ts, h => by
    have h1 := fill_size one t fun j hj => h j (List.mem_append_left _ hj)
    have h2 := fillL_size one ts fun j hj => h j (List.mem_append_right _ hj)
    show size (fill s t) + sizeL (fillL s ts) ≤ (size t + sizeL ts) * M
    rw [Nat.add_mul]
    omega
end
mutual
theorem fill_dep {s : Int → T} {D : Nat} : ∀ t : T, (∀ j ∈ t.vars, (s j).dep ≤ D) → (fill s t).dep ≤ t.dep + D
  | .v i, h => by
    have := h i List.mem_cons_self
    show (s i).dep ≤ 0 + D
    omega
  | .f x ts, h => by
    have := fillL_dep ts h
    show 1 + depL (fillL s ts) ≤ 1 + depL ts + D
    omega
theorem fillL_dep {s : Int → T} {D : Nat} : ∀ ts : List T, (∀ j ∈ varsL ts, (s j).dep ≤ D) → depL (fillL s ts) ≤ depL ts + D
  | [], _ => Nat.zero_le _
  | t :: ts, h => by
    have h1 := fill_dep t fun j hj => h j (List.mem_append_left _ hj)
    have h2 := fillL_dep ts fun j hj => h j (List.mem_append_right _ hj)
    show max (dep (fill s t)) (depL (fillL s ts)) ≤ max (dep t) (depL ts) + D
    omega
end
mutual
theorem fill_named {s : Int → T} : ∀ t : T, t.named = true → (∀ j ∈ t.vars, (s j).named = true) → (fill s t).named = true
  | .v i, _, h => h i List.mem_cons_self
  | .f x ts, n, h => by
    have n' : (nameOk x && namedL ts) = true := n
    rw [Bool.and_eq_true] at n'
    show (nameOk x && namedL (fillL s ts)) = true
    rw [n'.1, fillL_named ts n'.2 h]
    rfl
theorem fillL_named {s : Int → T} : ∀ ts : List T, namedL ts = true → (∀ j ∈ varsL ts, (s j).named = true) → namedL (fillL s ts) = true
  | [], _, _ => rfl
  | t :: ts, n, h => by
    have n' : (named t && namedL ts) = true := n
    rw [Bool.and_eq_true] at n'
    show (named (fill s t) && namedL (fillL s ts)) = true
    rw [fill_named t n'.1 fun j hj => h j (List.mem_append_left _ hj), fillL_named ts n'.2 fun j hj => h j (List.mem_append_right _ hj)]
    rfl
end
def isVar (i : Int) : T → Bool
  | .v j => decide (j = i)
  | .f _ _ => false
theorem isVar_iff {i : Int} {t : T} : isVar i t = true ↔ t = .v i := by
  cases t with
  | v j =>
    show decide (j = i) = true ↔ _
    rw [decide_eq_true_eq]
    exact ⟨fun e => congrArg T.v e, fun e => T.v.inj e⟩
  | f x ts => exact ⟨(fun h => nomatch h), (fun h => nomatch h)⟩
theorem eqv_var (t : T) (i : Int) : PyData.eqv t.d (.int i) = isVar i t := by
  cases t with
  | v j =>
    show PyData.eqv (.int j) (.int i) = decide (j = i)
    rw [PyData.eqv]
    first
      | rfl
      | (cases z : decide (j = i) <;> simp_all)
  | f x ts =>
    show PyData.eqv (.tuple _) (.int i) = false
    rw [PyData.eqv]
    all_goals (intros; first | contradiction | (intro z; cases z))
end T
namespace Sb
/-- the form of a substitution: rising, nothing that stays -/
structure Norm (tb su : Sb) : Prop where
  rising : (su.map (·.1)).Pairwise (· < ·)
  has : ∀ i t, (i, t) ∈ su ↔ look tb i = some t ∧ t.isVar i = false
theorem rising_nodup {l : List Int} (h : l.Pairwise (· < ·)) : l.Nodup := h.imp fun z e => by
  rw [e] at z
  exact Int.lt_irrefl _ z
theorem Norm.one {tb tb' su su' : Sb} (a : Norm tb su) (b : Norm tb' su') (same : ∀ i, look tb i = look tb' i) : su = su' := by
  have keys : su.map (·.1) = su'.map (·.1) := by
    refine rising_one' a.rising b.rising fun j => ?_
    constructor
    · intro h
      obtain ⟨⟨i, t⟩, h1, rfl⟩ := List.mem_map.mp h
      have h2 := (a.has i t).1 h1
      rw [same] at h2
      exact List.mem_map.mpr ⟨_, (b.has i t).2 h2, rfl⟩
    · intro h
      obtain ⟨⟨i, t⟩, h1, rfl⟩ := List.mem_map.mp h
      have h2 := (b.has i t).1 h1
      rw [← same] at h2
      exact List.mem_map.mpr ⟨_, (a.has i t).2 h2, rfl⟩
  have at' : ∀ {tb su : Sb}, Norm tb su → su.map some = su.map fun e => (look tb e.1).map fun t => (e.1, t) := by
    intro tb su n
    refine List.map_congr_left fun e he => ?_
    obtain ⟨i, t⟩ := e
    rw [((n.has i t).1 he).1]
    rfl
  have e1 : su.map some = (su.map (·.1)).map fun i => (look tb i).map fun t => (i, t) := by
    rw [at' a, List.map_map]
    rfl
  have e2 : su'.map some = (su'.map (·.1)).map fun i => (look tb' i).map fun t => (i, t) := by
    rw [at' b, List.map_map]
    rfl
  have e3 : su.map some = su'.map some := by
    rw [e1, e2, keys]
    exact List.map_congr_left fun i _ => by rw [same]
  exact List.map_inj_right (fun x y h => Option.some.inj h) |>.1 e3
where
  rising_one' : ∀ {as bs : List Int}, as.Pairwise (· < ·) → bs.Pairwise (· < ·) → (∀ j, j ∈ as ↔ j ∈ bs) → as = bs
    | [], [], _, _, _ => rfl
    | [], b :: bs, _, _, h => nomatch (h b).2 List.mem_cons_self
    | a :: as, [], _, _, h => nomatch (h a).1 List.mem_cons_self
    | a :: as, b :: bs, pa, pb, h => by
      obtain ⟨a1, a2⟩ := List.pairwise_cons.mp pa
      obtain ⟨b1, b2⟩ := List.pairwise_cons.mp pb
      have e : a = b := by
        rcases List.mem_cons.mp ((h a).1 List.mem_cons_self) with z | z
        · exact z
        · rcases List.mem_cons.mp ((h b).2 List.mem_cons_self) with y | y
          · exact y.symm
          · have h1 := b1 a z
            have h2 := a1 b y
            omega
      subst e
      congr 1
      refine rising_one' a2 b2 fun j => ⟨fun m => ?_, fun m => ?_⟩
      · rcases List.mem_cons.mp ((h j).1 (List.mem_cons_of_mem _ m)) with z | z
        · have := a1 j m
          omega
        · exact z
      · rcases List.mem_cons.mp ((h j).2 (List.mem_cons_of_mem _ m)) with z | z
        · have := b1 j m
          omega
        · exact z
/-- a substitution in its form does what the table does -/
theorem Norm.asg {tb su : Sb} (n : Norm tb su) (i : Int) : asg su i = asg tb i := by
  have nd := rising_nodup n.rising
  unfold Sb.asg
  cases h : look su i with
  | some t =>
    have m := (mem_look nd).2 h
    rw [((n.has i t).1 m).1]
  | none =>
    cases h2 : look tb i with
    | none => rfl
    | some t =>
      cases h3 : t.isVar i with
      | true => exact (T.isVar_iff.1 h3).symm
      | false =>
        have m := (mem_look nd).1 ((n.has i t).2 ⟨h2, h3⟩)
        rw [h] at m
        cases m
end Sb
/-! ### in the heap -/
/-- a table's entries -/
def TV (K : PySem.W.Frag) (H : Hp) (tb : Sb) (kvs : List (L2.Key × V)) : Prop := F2 (fun e kv => kv.1 = .inl e.1 ∧ Tm K H e.2 kv.2) tb kvs
section
variable {K : PySem.W.Frag} {H H' : Hp}
theorem TV.mono (k : TK H H') {tb : Sb} {kvs : List (L2.Key × V)} (h : TV K H tb kvs) : TV K H' tb kvs := F2.mono (fun _ _ z => ⟨z.1, Tm.mono k _ _ z.2⟩) h
theorem TV.val : ∀ {tb : Sb} {kvs : List (L2.Key × V)}, TV K H tb kvs → ∀ i, (tb.look i = none ∧ valV kvs (.inl i) = none) ∨ ∃ t v, tb.look i = some t ∧ valV kvs (.inl i) = some v ∧ Tm K H t v
  | [], kvs, h, i => by
    cases (show kvs = [] from h)
    exact .inl ⟨rfl, rfl⟩
  | (j, t) :: tb, kvs, h, i => by
    obtain ⟨kv, r, rfl, ⟨e, tm⟩, rest⟩ := h
    by_cases z : j = i
    · subst z
      exact .inr ⟨t, kv.2, if_pos rfl, valV_pos e, tm⟩
    · have ne : ¬ kv.1 = .inl i := fun y => z (by rw [e] at y; exact Sum.inl.inj y)
      rw [valV_neg ne]
      have e2 : Sb.look ((j, t) :: tb) i = Sb.look tb i := if_neg z
      rw [e2]
      exact TV.val (tb := tb) rest i
theorem TV.put {tb : Sb} {kvs : List (L2.Key × V)} (h : TV K H tb kvs) (i : Int) {t : T} {v : V} (tv : Tm K H t v) : TV K H (tb.put i t) (putK kvs (.inl i) v) := by
  unfold Sb.put putK
  have e : ((kvs.any fun kv => decide (kv.1 = .inl i)) = true) = ((tb.look i).isSome = true) := by
    rw [valV_any]
    rcases h.val i with ⟨a, b⟩ | ⟨t', v', a, b, _⟩
    · rw [a, b]
      rfl
    · rw [a, b]
      rfl
  simp only [e]
  split
  · clear e
    rename_i z
    clear z
    induction tb generalizing kvs with
    | nil =>
      cases (show kvs = [] from h)
      exact rfl
    | cons x tb ih =>
      obtain ⟨kv, r, rfl, ⟨e, tm⟩, rest⟩ := h
      refine ⟨_, _, rfl, ?_, ih rest⟩
      show (if kv.1 = .inl i then (kv.1, v) else kv).1 = .inl (if x.1 = i then (x.1, t) else x).1 ∧ Tm K H (if x.1 = i then (x.1, t) else x).2 (if kv.1 = .inl i then (kv.1, v) else kv).2
      by_cases y : x.1 = i
      · rw [if_pos y, if_pos (by rw [e, y])]
        exact ⟨e, tv⟩
      · rw [if_neg y, if_neg (fun z => y (by rw [e] at z; exact Sum.inl.inj z))]
        exact ⟨e, tm⟩
  · exact F2.app h (F2.one ⟨rfl, tv⟩)
theorem TV.keys : ∀ {tb : Sb} {kvs : List (L2.Key × V)}, TV K H tb kvs → kvs.map (·.1) = (tb.map (·.1)).map Sum.inl
  | [], kvs, h => by
    cases (show kvs = [] from h)
    rfl
  | e :: tb, kvs, h => by
    obtain ⟨kv, r, rfl, ⟨z, _⟩, rest⟩ := h
    show kv.1 :: r.map (·.1) = .inl e.1 :: _
    rw [z, TV.keys (tb := tb) rest]
theorem valV_out {kvs : List (L2.Key × V)} {k : L2.Key} (h : k ∉ kvs.map (·.1)) : valV kvs k = none := by
  induction kvs with
  | nil => rfl
  | cons p r ih =>
    rw [valV_neg (fun z => h (by rw [← z]; exact List.mem_cons_self))]
    exact ih fun z => h (List.mem_cons_of_mem _ z)
/-- pairs of unlike keys: all of them -/
theorem merge_all : ∀ (more kvs : List (L2.Key × V)), ((kvs ++ more).map (·.1)).Nodup → mergeK kvs more = kvs ++ more
  | [], kvs, _ => (List.append_nil _).symm
  | p :: more, kvs, h => by
    show mergeK (putK kvs p.1 p.2) more = _
    have out : p.1 ∉ kvs.map (·.1) := by
      intro z
      rw [List.map_append, List.nodup_append] at h
      exact h.2.2 p.1 z p.1 (by rw [List.map_cons]; exact List.mem_cons_self) rfl
    rw [putK_new _ (valV_out out)]
    have e : kvs ++ [(p.1, p.2)] ++ more = kvs ++ p :: more := by rw [List.append_assoc]; rfl
    rw [merge_all more _ (by rw [e]; exact h), e]
/-- a pair of a substitution -/
def SP (K : PySem.W.Frag) (H : Hp) (e : Int × T) (b : Addr) : Prop := ∃ v, SqT K H b [.int e.1, v] ∧ Tm K H e.2 v
/-- a substitution's value -/
def Su (K : PySem.W.Frag) (H : Hp) (su : Sb) (x : V) : Prop := ∃ (a : Addr) (bs : List Addr), x = .ref a ∧ Dt.Tup0 H a (bs.map V.ref) ∧ F2 (SP K H) su bs
theorem SP.mono (k : TK H H') (e : Int × T) (b : Addr) (h : SP K H e b) : SP K H' e b := by
  obtain ⟨v, s, t⟩ := h
  exact ⟨v, k.sq s, Tm.mono k _ _ t⟩
theorem tup0_mono (k : TK H H') {a : Addr} {xs : List V} (h : Dt.Tup0 H a xs) : Dt.Tup0 H' a xs := by
  obtain ⟨o, e, d⟩ := h
  exact ⟨o, (k a xs).2 o e, d⟩
theorem Su.mono (k : TK H H') {su : Sb} {x : V} (h : Su K H su x) : Su K H' su x := by
  obtain ⟨a, bs, e, t, f⟩ := h
  exact ⟨a, bs, e, tup0_mono k t, F2.mono (SP.mono k) f⟩
/-- its pairs as entries -/
theorem sp_pairs : ∀ {su : Sb} {bs : List Addr}, F2 (SP K H) su bs → ∃ kvs, Paired (fun p kv => SqT K H p [kV kv.1, kv.2]) bs kvs ∧ TV K H su kvs
  | [], bs, h => by
    cases (show bs = [] from h)
    exact ⟨[], .nil, rfl⟩
  | e :: su, bs, h => by
    obtain ⟨b, r, rfl, ⟨v, s, t⟩, rest⟩ := h
    obtain ⟨kvs, p, q⟩ := sp_pairs (su := su) rest
    exact ⟨(.inl e.1, v) :: kvs, .cons s p, _, _, rfl, ⟨rfl, t⟩, q⟩
end
end Ad

namespace Ad
open PySem PySem.Spec PySem.Calls PyProof.Rows L2
def spFilled (K : PySem.W.Frag) (n : Nat) : Sp := fun vs H Q _ => ∃ (t : T) (x : V) (d : Addr) (tb : Sb) (kvs : List (L2.Key × V)), vs = [x, .ref d] ∧ Tm K H t x ∧ H d = some (.dK kvs) ∧ TV K H tb kvs ∧ t.dep < n ∧ t.size ≤ 10000 ∧
  ∀ v H', Same H H' → Tm K H' (T.fill tb.asg t) v → Q v H'
def spPutIn (K : PySem.W.Frag) (n : Nat) : Sp := fun vs H Q _ => ∃ (t : T) (su : Sb) (x y : V), vs = [x, y] ∧ Tm K H t x ∧ Su K H su y ∧ (su.map (·.1)).Nodup ∧ t.dep < n ∧ t.size ≤ 10000 ∧ ∀ v H', Same H H' → Tm K H' (T.fill su.asg t) v → Q v H'
end Ad

/-! The run of a generator expression: its context, its start. -/
namespace Gx
open PySem PySem.Spec PySem.Calls PyProof.Rows L2
/-- the context of the run: its frame behind those that stood at s, its iterator's objects at fp -/
abbrev ctx (X : Cx) (s : Shared) (H : Hp) (e : Env) (fp : List Addr) (A : Around) (pn : List (Addr × Obj)) : Cx :=
  { X with A := A.deeper e, s_0 := s, H_0 := H, env := e, outer := X.stack, stack := e :: X.stack, ex := fp, fn := fun _ => false, calm := true, pn := pn, xe := fun _ _ => False }
theorem over_gen {A : Around} {e : Env} {elt tg iter : Expr} {ifs : List Expr} {scope : Scope} {pos : Pos} {it acc : Value} : A.over (.compLoop (.GeneratorExp elt [⟨tg, iter, ifs, 0⟩] scope pos) 0 it acc e) [] = A.deeper e := by
  first
    | rfl
    | (obtain ⟨hd, d, fr, gs, u⟩ := A; simp [Around.over, Around.deeper, marksOver, frameCount, unitsOf, envsOf, guardsOf, pushEnvs, pushGuards, Code.envs, Code.env?, Code.isFrame, Code.guards, Code.isGuard, Code.weight, Code.frames, Code.isCreation, Code.isCaller, Code.cUnits])
theorem over_start {A : Around} {e : Env} {elt tg iter : Expr} {ifs : List Expr} {scope : Scope} {pos : Pos} {it acc : Value} : A.over (.compStart (.GeneratorExp elt [⟨tg, iter, ifs, 0⟩] scope pos) 0 it acc e) [] = A.deeper e := by
  first
    | rfl
    | (obtain ⟨hd, d, fr, gs, u⟩ := A; simp [Around.over, Around.deeper, marksOver, frameCount, unitsOf, envsOf, guardsOf, pushEnvs, pushGuards, Code.envs, Code.env?, Code.isFrame, Code.guards, Code.isGuard, Code.weight, Code.frames, Code.isCreation, Code.isCaller, Code.cUnits])
section
variable {X : Cx} {pins : List (Addr × Obj)} {σ : L2.St} {H : Hp} {s : Shared}
theorem start {scope : Scope} {own : List (PySem.Str × Nat)} {fp : List Addr} {e : Env} {A : Around} {pn pins' : List (Addr × Obj)} {s' : Shared} {m : Str → Option Value} (I : Inv X pins σ H s) (ok : BlkOk X.N X.env.scope scope own) (nodup : X.N.Nodup) (noCell : ∀ y ∈ scope.names, y.2 ≠ .cell)
    (sc : e.scope = scope) (loc : e.locals = s.heap.objs.size) (glob : e.globals = mainGlobals) (blt : e.builtins = builtinsNs) (cells : e.cells = cloFrom X.env.cells scope.names []) (fr : e.frame = some e.locals)
    (ff : ∀ b ∈ fp, FpOk X pins H b ∧ b < s.heap.objs.size) (calm : A.handled = none) (frames : A.frames = some X.stack)
    (kp : ∀ b o, s.heap.get? b = some o → s'.heap.get? b = some o) (os : s'.os = s.os) (bare : AllBare s'.gens) (ns : s'.heap.Ns e.locals m)
    (pinned : ∀ p ∈ pn ++ pins', s'.heap.get? p.1 = some p.2 ∧ s.heap.objs.size < p.1 ∧ ∀ v, p.2.data ≠ .cell v) :
    Inv (ctx X s H e fp A pn) pins' (wipe σ (own.map (·.2))) H s' := by
  have from' : ∀ {y c}, e.cells.lookup y = some c → X.env.cells.lookup y = some c ∧ c < s.heap.objs.size := by
    intro y c h
    rw [cells] at h
    rcases cloFrom_mem (PySem.mem_of_lookup h) with z | ⟨h1, rfl⟩
    · cases z
    · obtain ⟨c, hc⟩ : ∃ c, X.env.cells.lookup y = some c := by
        rcases ok.free _ h1 rfl with k | k
        · exact I.ok.has _ (.inl k)
        · exact I.ok.has _ (.inr k)
      rw [hc]
      obtain ⟨w, z⟩ := I.cell _ _ hc
      exact ⟨rfl, z.lt⟩
  have to' : ∀ {y}, scope.names.lookup y = some .free → ∃ c, e.cells.lookup y = some c ∧ X.env.cells.lookup y = some c := by
    intro y h
    obtain ⟨c, hc⟩ := mem_lookup (cloFrom_has (cells := X.env.cells) (acc := []) (PySem.mem_of_lookup h))
    rw [← cells] at hc
    exact ⟨c, hc, (from' hc).1⟩
  refine ⟨?_, os, bare, Un.kept kp, ⟨m, ns, ?_⟩, ?_, ?_, ?_, ?_, I.hok.kept kp, ?_⟩
  · refine ⟨I.ok.mod, ?_, glob, blt, ?_, ?_, ?_, (fun x c z => nomatch z), fun _ => calm, Around.frames_deeper frames, .inr ⟨rfl, fr⟩, ?_, I.bs, Nat.le_trans I.ok.bsz I.sz, ?_, ?_, I.stack, I.stkFree⟩
    · show e.scope.kind = _
      rw [sc]
      exact ok.kind
    · show s.heap.objs.size ≤ e.locals
      rw [loc]
      exact Nat.le_refl _
    · intro x y c h1 h2
      exact I.ok.inj x y c (from' h1).1 (from' h2).1
    · intro x hx
      show ∃ c, e.cells.lookup x = some c
      have key : ∀ k, e.kindOf x = some k → (k = .cell ∨ k = .free) → ∃ c, e.cells.lookup x = some c := by
        intro k hk hk'
        unfold Env.kindOf at hk
        rw [sc] at hk
        rcases hk' with rfl | rfl
        · exact absurd rfl (noCell _ (PySem.mem_of_lookup hk))
        · obtain ⟨c, h, _⟩ := to' hk
          exact ⟨c, h⟩
      rcases hx with hx | hx
      · exact key _ hx (.inl rfl)
      · exact key _ hx (.inr rfl)
    · intro b hb
      refine ⟨?_, fun y c h z => ?_⟩
      · show b ≠ e.locals
        rw [loc]
        exact Nat.ne_of_lt (ff b hb).2
      · exact (ff b hb).1.2.2.2.2.1 y c (from' h).1 z
    · intro b o h hb
      rcases (ff b hb).1.2.2.2.1 with z | z
      · exact I.ok.noex b o h z
      · exact absurd (Nat.lt_of_lt_of_le (Heap.lt_size h) (Nat.le_trans I.ok.bsz z)) (Nat.lt_irrefl _)
    · intro b hb z
      rcases List.mem_cons.mp (I.stkSub b z) with z | z
      · exact (ff b hb).1.2.1 z
      · exact (ff b hb).1.2.2.1 z
  · intro i x v h1 h2 h3
    obtain ⟨h2, off⟩ := wipe_some h2
    have isFree : scope.names.lookup x = some .free := by
      have h3 : Vis e.scope x := h3
      rw [sc] at h3
      have no : ∀ k, scope.names.lookup x = some k → k = .local → False := by
        intro k hk hl
        rcases ok.own _ (PySem.mem_of_lookup hk) (.inl hl) with z | z
        · obtain ⟨p, hp, hpx⟩ := List.mem_map.mp z
          have h4 := ok.ix p hp
          have h5 : p.1 = x := hpx
          rw [h5] at h4
          exact off (List.mem_map.mpr ⟨p, hp, nodup_ix nodup h4 h1⟩)
        · exact z (List.mem_of_getElem? h1)
      rcases h3 with k | k | k
      · exact (no _ k rfl).elim
      · exact absurd rfl (noCell _ (PySem.mem_of_lookup k))
      · exact k
    obtain ⟨m0, _, look⟩ := I.loc
    have vis : Vis X.env.scope x := (ok.free _ (PySem.mem_of_lookup isFree) rfl).elim (fun k => .inr (.inl k)) fun k => .inr (.inr k)
    obtain ⟨u, r, q⟩ := look i x v h1 h2 vis
    obtain ⟨c, c1, c2⟩ := to' isFree
    refine ⟨u, r, .inr ⟨.inr ?_, c, c1, ?_⟩⟩
    · show e.scope.names.lookup x = some .free
      rw [sc]
      exact isFree
    · rcases q with ⟨k, _⟩ | ⟨_, c', e', z⟩
      · have k : X.env.scope.names.lookup x = some .local := k
        rcases ok.free _ (PySem.mem_of_lookup isFree) rfl with k' | k' <;> rw [show X.env.scope.names.lookup x = _ from k'] at k <;> cases k
      · rw [c2] at e'
        cases e'
        exact z.keeps kp
  · intro x c h
    obtain ⟨v, z⟩ := I.cell x c (from' h).1
    exact ⟨v, z.keeps kp⟩
  · show H e.locals = none
    rw [loc]
    exact I.hok.fresh (Nat.le_refl _)
  · intro x c h
    exact I.freeC x c (from' h).1
  · intro p hp
    obtain ⟨h1, h2, h3⟩ := pinned p hp
    refine ⟨h1, I.hok.fresh (Nat.le_of_lt h2), ?_, ?_, h3⟩
    · show p.1 ≠ e.locals
      rw [loc]
      exact Nat.ne_of_gt h2
    · intro z
      rcases List.mem_cons.mp (I.stkSub _ z) with z | z
      · have := I.lt
        rw [z] at h2
        exact absurd (Nat.lt_trans h2 this) (Nat.lt_irrefl _)
      · exact I.nofs (Nat.le_of_lt h2) z
  · rw [wipe_length]
    exact I.len
end
end Gx

/-! The run of a generator expression: its loop. -/
namespace Gx
open PySem PySem.Spec PySem.Calls PyProof.Rows L2
/-- what the run will hand out: J the walk; W turn, measure, what is out, heap -/
def Turns (J : It) (g : TG) (tt : TT) (te : TE) (vs : List Nat) (σ : L2.St) (cont : List V → Hp → Prop) (W : Nat → Nat → List V → Hp → Prop) : Prop := ∀ i m ys H, W i m ys H →
  (J.stop i H ∧ cont ys H) ∨ (J.go i H ∧ ∃ Nx : List V → Hp → Prop, (∀ ys' H', Nx ys' H' → ∃ m', m' < m ∧ W (i + 1) m' ys' H') ∧ ∀ x H', J.yld i H x H' → g x (wipe σ vs) H' fun σ2 H2 => wipe σ2 vs = wipe σ vs ∧ tt σ2 H2 fun b H3 =>
    if b = true then te σ2 H3 fun y H4 => ys.length < sizeLine ∧ Nx (ys ++ [y]) H4 else Nx ys H3)
/-- the end of such a run -/
def End (Y : Cx) (S : Addr) (cont : List V → Hp → Prop) : GenEnd := fun n _ r s => r = .ok .next ∧ ∃ ys ip σ H, n + ys.length = sizeLine ∧ GI Y S ip ys σ H s ∧ cont ys H
section
variable {Y : Cx} {A : Around} {S it : Addr} {fp : List Addr} {tn : Nat → Heap → Prop} {J : It} {elt tg iter : Expr} {ifs : List Expr} {scope : Scope} {pos : Pos} {g : TG} {tt : TT} {te : TE} {vs : List Nat} {σ : L2.St} {cont : List V → Hp → Prop} {W : Nat → Nat → List V → Hp → Prop}
theorem run (hov : A.over (.compLoop (.GeneratorExp elt [⟨tg, iter, ifs, 0⟩] scope pos) 0 (.ref it) .none Y.env) [] = Y.A) (calm : Y.calm = true) (co : Y.env.scope.isCoroutine = false) (noX : ∀ e s, Y.xe e s → False) (T : Turn Y.prog Y.w Y.K tg J fp it tn) (ex : Y.ex = fp)
    (pnS : ∀ p ∈ Y.pn, p.1 ≠ S) (pnF : ∀ p ∈ Y.pn, p.1 ∉ fp) (young : Apart Y S) (offS : S ∉ fp) (pg : PG Y tg g) (pt : PTs Y ifs tt) (pe : PE Y elt te) (turns : Turns J g tt te vs σ cont W) :
    ∀ (m n i : Nat) (ys : List V) (s₀ s : Shared) (H : Hp), n + ys.length = sizeLine → W i m ys H → GI Y S [] ys (wipe σ vs) H s → tn i s.heap → (∀ b ∈ fp, H b = none) →
      Seg (model Y.prog Y.w) A (End Y S cont) (GY Y S) n s₀ (.compLoop (.GeneratorExp elt [⟨tg, iter, ifs, 0⟩] scope pos) 0 (.ref it) .none Y.env)
        ((model Y.prog Y.w).den (.compLoop (.GeneratorExp elt [⟨tg, iter, ifs, 0⟩] scope pos) 0 (.ref it) .none Y.env)) [] s := by
  intro m
  induction m using Nat.strongRecOn with
  | ind m ih =>
    intro n i ys s₀ s H len w gi st none0
    obtain ⟨acc, cc, rv, I⟩ := gi
    have apart : ∀ {σ' : L2.St} {H' : Hp} {s' : Shared}, Inv Y [(S, lstObj acc cc)] σ' H' s' → (∀ b ∈ fp, H' b = none) → ∀ b ∈ fp, FpOk Y [(S, lstObj acc cc)] H' b := by
      intro σ' H' s' I' hn b hb
      have hb' : b ∈ Y.ex := by rw [ex]; exact hb
      refine ⟨hn b hb, (I'.ok.exf b hb').1, I'.ok.exfs b hb', .inl hb', fun x c e => (I'.ok.exf b hb').2 x c e, fun p hp z => ?_⟩
      rcases List.mem_append.mp hp with q | q
      · exact pnF p q (z ▸ hb)
      · rw [List.mem_singleton.mp q] at z
        have z' : S = b := z
        rw [← z'] at hb
        exact offS hb
    show Seg _ A _ _ _ s₀ _ ((compTurn (.GeneratorExp elt [⟨tg, iter, ifs, 0⟩] scope pos) 0 (.ref it) .none Y.env).onRaise (leaving Y.env)) [] s
    rw [compTurn_gen, Sem.onRaise_eq_wrap]
    refine seg_bind_wrap (wpAny_standAt ?_)
    refine seg_bind_wrap ?_
    rw [hov]
    rcases turns i m ys H w with ⟨stop, here⟩ | ⟨more, Nx, down, step⟩
    · refine wpAny_mono (T.done Y rfl rfl rfl calm i [(S, lstObj acc cc)] s _ H (fun _ _ => False) I (apart I none0) st stop) (fun r s6 r6 => ?_) fun x s' q => q.elim
      obtain ⟨rfl, I6⟩ := r6
      exact seg_end (.ok .next) ⟨rfl, ys, [], _, H, len, ⟨acc, cc, rv, I6⟩, here⟩
    · refine wpAny_mono (T.item Y rfl rfl rfl calm i [(S, lstObj acc cc)] s _ H (fun _ _ => False) I (apart I none0) st more) (fun r s6 r6 => ?_) fun x s' q => q.elim
      obtain ⟨u, rfl, h6⟩ := r6
      refine seg_bind_wrap ?_
      rw [hov]
      refine wpAny_mono h6 (fun _ s7 r7 => ?_) fun x s' q => q.elim
      obtain ⟨x, H7, I7, rx, y7, st7, n7⟩ := r7
      refine seg_bind_wrap ?_
      rw [hov]
      refine wpAny_mono (pg.run _ s7 _ H7 x u _ (I7.pinned (apart I7 n7) (T.obj _ _ st7)) rx (step x H7 y7)) (fun _ s8 r8 => ?_) fun x s' q => (noX _ _ q).elim
      obtain ⟨σ8, H8, I8, same, q8⟩ := r8
      refine seg_bind_wrap ?_
      rw [hov]
      refine wpAny_mono (pt.run _ s8 σ8 H8 _ I8 q8) (fun b s9 r9 => ?_) fun x s' q => (noX _ _ q).elim
      obtain ⟨H9, I9, q9⟩ := r9
      have lenσ : (wipe σ vs).length = σ8.length := by
        rw [← same]
        exact wipe_length ..
      have onward : ∀ {s' : Shared} {H' : Hp} {acc' : Array Value} {c' : Nat} {ys' : List V}, Vals ys' acc'.toList → Inv Y ([(S, lstObj acc' c')] ++ pinsAt fp s7.heap) σ8 H' s' → Nx ys' H' → ∀ n', n' + ys'.length = sizeLine → ∀ s₀',
          Seg (model Y.prog Y.w) A (End Y S cont) (GY Y S) n' s₀' (.compLoop (.GeneratorExp elt [⟨tg, iter, ifs, 0⟩] scope pos) 0 (.ref it) .none Y.env)
            ((model Y.prog Y.w).den (.compLoop (.GeneratorExp elt [⟨tg, iter, ifs, 0⟩] scope pos) 0 (.ref it) .none Y.env)) [] s' := by
        intro s' H' acc' c' ys' rv' I' nx n' len' s₀'
        obtain ⟨m', less, w'⟩ := down ys' H' nx
        have pinned : ∀ b ∈ fp, ∀ o, s7.heap.get? b = some o → s'.heap.get? b = some o ∧ H' b = none := by
          intro b hb o e
          have z := I'.pin (b, o) (List.mem_append_right _ (List.mem_append_right _ (mem_pinsAt hb e)))
          exact ⟨z.1, z.2.1⟩
        refine ih m' less n' (i + 1) ys' s₀' s' H' len' w' ⟨acc', c', rv', (I'.unpinned).weak lenσ ?_⟩ (T.keep _ _ _ st7 fun b hb o e => (pinned b hb o e).1) ?_
        · intro j v e
          rw [← same] at e
          exact (wipe_some e).1
        · intro b hb
          obtain ⟨o, e, _⟩ := T.obj _ _ st7 b hb
          exact (pinned b hb o e).2
      cases b with
      | false =>
        rw [if_neg Bool.false_ne_true] at q9
        simp only [Bool.false_eq_true, if_false]
        exact seg_again rfl (onward rv I9 q9 n len s₀)
      | true =>
        rw [if_pos rfl] at q9
        simp only [if_true]
        have hy : ∀ v, yieldOut Y.env v = yieldValue v := fun v => by simp only [yieldOut, co, Bool.false_eq_true, if_false]
        simp only [hy]
        rw [Sem.bind_eq_wrap', Sem.bind_eq_wrap', Sem.wrap_wrap, Sem.wrap_wrap]
        refine seg_wrap ?_
        rw [hov]
        refine wpAny_mono (pe.run _ s9 σ8 H9 _ I9 q9) (fun z s10 r10 => ?_) fun x s' q => (noX _ _ q).elim
        obtain ⟨yv, H10, I10, ry, room, nx⟩ := r10
        obtain ⟨n', rfl⟩ : ∃ n', n = n' + 1 := ⟨n - 1, by omega⟩
        have hip : ∀ p ∈ pinsAt fp s7.heap, p.1 ≠ S := fun p hp z => offS (z ▸ (of_pinsAt hp).1)
        have gi10 : GI Y S (pinsAt fp s7.heap) ys σ8 H10 s10 := ⟨acc, cc, rv, I10⟩
        refine seg_at (seg_yield rfl rfl rfl ⟨ys, yv, pinsAt fp s7.heap, σ8, H10, len, ry, gi10, fun s'' slept => ?_⟩)
        obtain ⟨acc', c', rv', I'⟩ := gi10.woken pnS hip young ry slept
        refine seg_again rfl (onward rv' I' nx n' ?_ s'')
        rw [List.length_append, List.length_singleton]
        omega
end
end Gx

/-! A generator expression as a value. -/
namespace Gx
open PySem PySem.Spec PySem.Calls PyProof.Rows L2 GxR
/-- (elt for tg in iter if ..); P: the def's table of code objects -/
def tGen (P : Addr) (wi : TI) (g : TG) (tt : TT) (te : TE) (vs : List Nat) : TGen := fun σ H cont => wi σ H fun J G => TabG G P ∧ ∀ G2, Tabbed P G G2 → ∃ W : Nat → Nat → List V → Hp → Prop, (∃ m, W 0 m [] G2) ∧ Turns J g tt te vs σ cont W
abbrev gEnv (X : Cx) (scope : Scope) (C : Addr) (cv : Value) : Env := genEnv scope (cloFrom X.env.cells scope.names []) C cv builtinsNs X.env
section
variable {X : Cx} {c P : Addr} {elt tg iter : Expr} {ifs : List Expr} {scope : Scope} {own : List (PySem.Str × Nat)} {pos : Pos} {wi : TI} {g : TG} {tt : TT} {te : TE} {k : Nat}
theorem pgen (room : Room (k + 1) X.A) (TB : TabB X.base X.mg c P) (code : X.env.code = .ref c) (nodup : X.N.Nodup) (walked : PI X tg iter wi) (blk : BlkOk X.N X.env.scope scope own) (noCell : ∀ y ∈ scope.names, y.2 ≠ .cell) (dot : scope.names.lookup (".0" : PySem.Str) = some NameKind.local) (co : scope.isCoroutine = false)
    (gg : ∀ (s : Shared) (H : Hp) (C : Addr) (cv : Value) (fp : List Addr) (A : Around) (pn : List (Addr × Obj)), PG (ctx X s H (gEnv X scope C cv) fp A pn) tg g)
    (gt : ∀ (s : Shared) (H : Hp) (C : Addr) (cv : Value) (fp : List Addr) (A : Around) (pn : List (Addr × Obj)), Room k (A.deeper (gEnv X scope C cv)) → PTs (ctx X s H (gEnv X scope C cv) fp A pn) ifs tt)
    (ge : ∀ (s : Shared) (H : Hp) (C : Addr) (cv : Value) (fp : List Addr) (A : Around) (pn : List (Addr × Obj)), Room k (A.deeper (gEnv X scope C cv)) → PE (ctx X s H (gEnv X scope C cv) fp A pn) elt te)
    (fold : ∀ v, genFold iter X.env v = pure v := by intro _; rfl) : PGen X (k + 1) (.GeneratorExp elt [⟨tg, iter, ifs, 0⟩] scope pos) (tGen P wi g tt te (own.map (·.2))) fun _ _ _ => False := by
  constructor
  intro pins s σ H cont I0 want
  have free : ∀ y ∈ scope.names, y.2 = .free → ∃ c, X.env.cells.lookup y.1 = some c := by
    intro y hy e
    rcases blk.free y hy e with z | z
    · exact I0.ok.has _ (.inl z)
    · exact I0.ok.has _ (.inr z)
  refine wpAny_GeneratorExp_make co (closure_ok free) noCell dot blk.kind (by have := room.dp; omega) ?_ fold
  refine thn (walked.run pins s σ H _ I0 want) fun xv s1 r1 => thn r1 fun itv s2 r2 => ?_
  obtain ⟨it, fp, tn, J, H2, rfl, I2, T, st2, f2, ⟨tab, hP, ht⟩, q⟩ := r2
  refine ⟨I2.nolimit, ?_⟩
  have tabS : s2.heap.get? P = some { cls := .none, data := .fields tab } := I2.hok P _ hP
  have cd : PySem.W.CodeHd s2.heap c P := TB.code.keeps fun b u e => I2.bk b u e
  have fpP : ∀ b ∈ fp, b ≠ P := by
    intro b hb z
    have e := (f2 b hb).1
    rw [z, hP] at e
    cases e
  have goOn : ∀ (cv : Value) (h3 : Heap) (tk : Nat) (tab' : Array Value), Heap.ExtBut P s2.heap h3 → s2.heap.objs.size ≤ h3.objs.size → h3.get? P = some { cls := .none, data := .fields tab' } → (∃ more, tab' = tab ++ more) → TriplesOk tab'.toList →
      wpAny (model X.prog X.w) X.A (builtinsFor X.env.globals X.env.builtins) (fun bi s₄ =>
        ∀ h', h'.Ns s₄.heap.objs.size (fun y => if y = ".0" then some (.ref it) else none) → Heap.SameBut s₄.heap.objs.size (s₄.heap.push { cls := .type "frame", data := .dict #[] }) h' →
          (fun u s' => ∃ H1 sc ex, Inv X pins σ H1 sc ∧ ExOk X pins ex ∧ GMade X.prog X.w (k + 1) X.stack H1 sc ex cont (fun _ _ _ => False) u s') (.ref h'.objs.size) { s₄ with
            gens := s₄.gens.push (.fresh (.compStart (.GeneratorExp elt [⟨tg, iter, ifs, 0⟩] scope pos) 0 (.ref it) .none (genEnv scope (cloFrom X.env.cells scope.names []) s₄.heap.objs.size cv bi X.env))),
            toks := s₄.toks + 1 + 1 + 1,
            heap := h'.push { cls := .type "generator", data := .fields #[.int s₄.gens.size 0, .str "<genexpr>" (s₄.toks + 1), .str (X.env.qual ++ "<genexpr>") (s₄.toks + 1 + 1)] } }) X.xe { s2 with heap := h3, toks := tk } := by
    intro cv h3 tk tab' ext grown tab3 more ok3
    obtain ⟨bm, ob, e1, e2, e3, e4, e5, e6, e7, e8⟩ := TB.bm
    refine wpAny_builtinsFor (m := X.mg) (by rw [I2.ok.glob]; exact (I2.mod.glob.keeps I2.bk).extBut ext TB.gP) e1 e2 (ext _ _ e4 (I2.bk _ _ e5)) e6 e7 e8 ?_
    intro h' hn' hs'
    obtain ⟨mo, em⟩ := more
    have I3 : Inv X pins σ (upd H2 P (.tbl (tab ++ mo))) { s2 with heap := h3, toks := tk } :=
      inv_tab (more := mo) (h' := h3) (g' := s2.gens) (d' := s2.drawn) (t' := tk) I2 hP (fun b u hb e => ext b u hb e) (by rw [← em]; exact tab3) I2.bare
    have tb3 : Tabbed P H2 (upd H2 P (.tbl (tab ++ mo))) := ⟨⟨tab ++ mo, upd_same, by rw [← em]; exact ok3⟩, fun b hb => upd_ne hb⟩
    obtain ⟨W, ⟨m0, w0⟩, turns⟩ := q _ tb3
    have f3 : ∀ b ∈ fp, FpOk X pins (upd H2 P (.tbl (tab ++ mo))) b := fun b hb => ⟨by rw [upd_ne (fpP b hb)]; exact (f2 b hb).1, (f2 b hb).2⟩
    have lt3 : ∀ b ∈ fp, b < h3.objs.size := by
      intro b hb
      obtain ⟨_, e, _⟩ := T.obj _ _ st2 b hb
      exact Nat.lt_of_lt_of_le (Heap.lt_size e) grown
    have st3 : tn 0 h3 := T.keep _ _ _ st2 fun b hb o e => ext b o (fpP b hb) e
    generalize upd H2 P (.tbl (tab ++ mo)) = H3 at I3 w0 f3
    generalize e3s : ({ s2 with heap := h3, toks := tk } : Shared) = s3 at I3
    have hh3 : s3.heap = h3 := congrArg Shared.heap e3s.symm
    clear e3s
    subst hh3
    have sz' : h'.objs.size = s3.heap.objs.size + 1 := by
      rw [hs'.1]
      exact Heap.size_push ..
    have kp' : ∀ b o, s3.heap.get? b = some o → h'.get? b = some o := fun b o e => hs'.extBut b o (Nat.ne_of_lt (Heap.lt_size e)) (Heap.get?_push_of_some _ e)
    refine ⟨H3, s3, fp, I3, fun b hb => ⟨(f3 b hb).2.2.2.1, (f3 b hb).2.1, (f3 b hb).2.2.2.2.1, (f3 b hb).2.2.2.2.2⟩, ?_⟩
    generalize ego : ({ cls := .type "generator", data := .fields #[.int s3.gens.size 0, .str "<genexpr>" (s3.toks + 1), .str (X.env.qual ++ "<genexpr>") (s3.toks + 1 + 1)] } : Obj) = go
    have isGen : ∀ h : Heap, h.get? h'.objs.size = some go → h.IsGen h'.objs.size s3.gens.size := by
      intro h e
      subst ego
      exact ⟨_, _, _, e, rfl, rfl, rfl⟩
    have pushed : (h'.push go).get? h'.objs.size = some go := by
      subst ego
      exact Heap.get?_push_size _ rfl
    have goData : ∀ v, go.data ≠ .cell v := by
      subst ego
      intro v z
      cases z
    have kpush : ∀ b o, s3.heap.get? b = some o → (h'.push go).get? b = some o := fun b o e => Heap.get?_push_of_some _ (kp' b o e)
    refine ⟨h'.objs.size, s3.gens.size, _, rfl, by rw [sz']; exact Nat.le_succ _, by show _ < (h'.push go).objs.size; rw [Heap.size_push]; exact Nat.lt_succ_self _, isGen _ pushed, Array.getElem?_push_size .., rfl, AllBare.push I3.bare rfl, ?_, fun b o e => kpush b o (e), ?_⟩
    · exact I3.nolimit.keeps fun b o e => kpush b o (e)
    intro A S s9 room9 frames9 young9 keep9 atS os9 bare9
    obtain ⟨cS, atS⟩ := atS
    have young9 : (h'.push go).objs.size ≤ S := young9
    rw [Heap.size_push] at young9
    have goAt : s9.heap.get? h'.objs.size = some go := keep9 _ _ pushed
    have kp9 : ∀ b o, s3.heap.get? b = some o → s9.heap.get? b = some o := fun b o e => keep9 b o (kpush b o (e))
    have ns9 : s9.heap.Ns (gEnv X scope s3.heap.objs.size cv).locals (fun y => if y = ".0" then some (.ref it) else none) := (hn'.push go).keeps fun b o e => keep9 b o e
    have I9 : Inv (ctx X s3 H3 (gEnv X scope s3.heap.objs.size cv) fp A [(h'.objs.size, go)]) [(S, lstObj #[] cS)] (wipe σ (own.map (·.2))) H3 s9 := by
      refine start I3 blk nodup noCell rfl rfl I0.ok.glob rfl rfl rfl (fun b hb => ⟨f3 b hb, lt3 b hb⟩) room9.hd frames9 kp9 os9 bare9 ns9 ?_
      intro p hp
      rcases List.mem_append.mp hp with z | z
      · rw [List.mem_singleton.mp z]
        refine ⟨goAt, ?_, goData⟩
        show s3.heap.objs.size < h'.objs.size
        rw [sz']
        exact Nat.lt_succ_self _
      · rw [List.mem_singleton.mp z]
        refine ⟨atS, ?_, fun v y => by cases y⟩
        show s3.heap.objs.size < S
        exact Nat.lt_of_lt_of_le (by rw [sz']; exact Nat.lt_succ_of_lt (Nat.lt_succ_self _)) young9
    have ltS : s3.heap.objs.size < S := Nat.lt_of_lt_of_le (by rw [sz']; exact Nat.lt_succ_of_lt (Nat.lt_succ_self _)) young9
    have apS : Apart (ctx X s3 H3 (gEnv X scope s3.heap.objs.size cv) fp A [(h'.objs.size, go)]) S := by
      refine ⟨by show s3.heap.objs.size ≤ S; exact Nat.le_of_lt ltS, Nat.ne_of_gt ltS, fun x c' e z => ?_⟩
      have e : (cloFrom X.env.cells scope.names []).lookup x = some c' := e
      rcases cloFrom_mem (PySem.mem_of_lookup e) with y | ⟨h1, rfl⟩
      · cases y
      · obtain ⟨c0, hc⟩ := free _ h1 rfl
        rw [hc] at z
        have z : c0 = S := z
        obtain ⟨v, y⟩ := I3.cell _ _ hc
        have lt := y.lt
        rw [z] at lt
        exact Nat.lt_irrefl _ (Nat.lt_trans lt ltS)
    have offS : S ∉ fp := fun z => Nat.lt_irrefl _ (Nat.lt_trans (lt3 S z) ltS)
    have st9 : tn 0 s9.heap := T.keep _ _ _ st3 fun b hb o e => kp9 b o e
    have deep := room9.deeper (gEnv X scope s3.heap.objs.size cv)
    have loop := run (Y := ctx X s3 H3 (gEnv X scope s3.heap.objs.size cv) fp A [(h'.objs.size, go)]) (A := A) (S := S) (it := it) (elt := elt) (tg := tg) (ifs := ifs) (scope := scope) (iter := iter) (pos := pos) (cont := cont) over_gen rfl co (fun _ _ z => z) T rfl
      (fun p hp => by rw [List.mem_singleton.mp hp]; exact Nat.ne_of_lt (Nat.lt_of_lt_of_le (Nat.lt_succ_self _) young9)) (fun p hp z => by
        rw [List.mem_singleton.mp hp] at z
        have := lt3 _ z
        rw [sz'] at this
        exact Nat.lt_irrefl _ (Nat.lt_trans (Nat.lt_succ_self _) this)) apS offS
      (gg s3 H3 s3.heap.objs.size cv fp A [(h'.objs.size, go)]) (gt s3 H3 s3.heap.objs.size cv fp A [(h'.objs.size, go)] deep) (ge s3 H3 s3.heap.objs.size cv fp A [(h'.objs.size, go)] deep) turns
      m0 sizeLine 0 [] s9 s9 H3 (Nat.add_zero _) w0 ⟨#[], cS, .nil, I9⟩ st9 (fun b hb => (f3 b hb).1)
    refine seg_imp (R := End (ctx X s3 H3 (gEnv X scope s3.heap.objs.size cv) fp A [(h'.objs.size, go)]) S cont) (Y := GY (ctx X s3 H3 (gEnv X scope s3.heap.objs.size cv) fp A [(h'.objs.size, go)]) S) (fun n s₀ r s1' hR => ?_) (fun n s₀ v s1' kap kap' hkk hY => ?_) sizeLine ?_
    · obtain ⟨rfl, ys, ip, σ', H', len, gi, fin⟩ := hR
      obtain ⟨a1, _, _, acc, cc, ra, ea⟩ := gi.at
      obtain ⟨_, _, _, K9⟩ := gi
      exact .inl ⟨.inr rfl, H', ys, acc, cc, K9.os, K9.bare, K9.base, K9.hok, a1, ea, ra, by omega, fin⟩
    · obtain ⟨ys, xx, ip, σ', H', len, h2, gi, h4⟩ := hY
      obtain ⟨_, _, _, acc, cc, ra, ea⟩ := gi.at
      obtain ⟨_, _, _, K9⟩ := gi
      have hg := isGen _ (K9.pin (h'.objs.size, go) (List.mem_append_left _ (List.mem_singleton.mpr rfl))).1
      have size : acc.size = ys.length := by
        have l1 := ra.length
        have l2 : acc.toList.length = acc.size := by simp
        omega
      exact ⟨K9.os, K9.bare, K9.nolimit, hg, ⟨acc, cc, ea, by rw [size]; exact len⟩, fun s' z => hkk _ _ (h4 s' z)⟩
    · show Seg _ A _ _ _ s9 _ ((compStart (.GeneratorExp elt [⟨tg, iter, ifs, 0⟩] scope pos) 0 (.ref it) .none (gEnv X scope s3.heap.objs.size cv)).onRaise (leaving (gEnv X scope s3.heap.objs.size cv))) [] s9
      unfold compStart
      rw [Sem.onRaise_eq_wrap]
      show Seg _ A _ _ _ s9 _ ((ask >>= _).wrap _ _ _ _) [] s9
      refine seg_bind_wrap (wpAny_askSetting ?_)
      split
      · exact seg_again rfl loop
      · first
          | exact seg_bind_wrap (wpAny_rule (seg_bind_wrap (wpAny_standAt (seg_bind_wrap (T.self _ 0 s9 _ _ st9 (seg_again rfl loop))))))
          | (refine seg_bind_wrap (wpAny_rule ?_); show Seg _ A _ _ _ s9 _ ((standAt iter.pos >>= _).wrap _ _ _ _) [] s9; exact seg_bind_wrap (wpAny_standAt (seg_bind_wrap (T.self _ 0 s9 _ _ st9 (seg_again rfl loop)))))
  cases hf : codeAmong pos tab.toList with
  | none =>
    refine wpAny_genexprCodeX code (cd.code tabS ht) (cd.tab tabS) hf fun c' h' tk hx hge hlt hco' _ htab' _ => ?_
    obtain ⟨o1, vs, f1, tf, fl, tg', inF, tx, tt', op, _, _, _, _, _, _, _, _, _, htr, _⟩ := hco'
    exact goOn _ h' tk _ hx (Nat.le_trans hge (Nat.le_of_lt hlt)) htab'.2 ⟨_, rfl⟩ htr
  | some cv =>
    refine wpAny_genexprCode_hit code (cd.code tabS ht) hf ?_
    exact goOn cv s2.heap s2.toks tab (Heap.ExtBut.refl _ _) (Nat.le_refl _) tabS ⟨#[], by simp⟩ ht
end
end Gx

/-! tuple(g) of a generator that has not begun. -/
namespace Gx
open PySem PySem.Spec PySem.Calls PyProof.Rows L2 GxR
section
variable {P : Program} {w : World} {outer : List Env} {H : Hp} {sc s : Shared} {ex : List Addr} {Q : List V → Hp → Prop} {A : Around} {k : Nat} {u : Value} {E : Value → Shared → Prop}
abbrev noEx : XK := fun _ _ _ => False
theorem never {e : Value} {s' : Shared} (h : CX P w outer H sc noEx e s') : False := by
  obtain ⟨a, B, H', cls, d, _, _, _, _, _, _, _, z⟩ := h
  exact z
/-- all that comes out of it -/
theorem gathered {Q' : List Value → Shared → Prop} (hr : Room (k + 1) A) (fr : A.frames = some outer) (made : GMade P w k outer H sc ex Q noEx u s)
    (hQ : ∀ S s' acc c H' ys, s.heap.objs.size ≤ S → s'.heap.get? S = some (lstObj acc c) → Vals ys acc.toList → ys.length ≤ sizeLine → s'.os = sc.os → AllBare s'.gens → Un (frs outer) ex H H' sc.heap s'.heap → HOk P w H' s'.heap → H' S = none → Q ys H' → Q' acc.toList s') :
    wpAny (model P w) A (collect u) Q' E s := by
  obtain ⟨a, g, c, rfl, above, below, isGen, fresh, os, bare, lim, old, wake⟩ := made
  have unlike : s.heap.objs.size ≠ a := Nat.ne_of_gt below
  have noStat : s.heap.objs.size ≠ cStatics := by
    obtain ⟨_, hn, _⟩ := lim
    exact Nat.ne_of_gt hn.lt
  unfold collect
  refine wpAny_bind (wpAny_runValue (codeAny_builtin F.entry_proto_collect ?_))
  rw [Around.under_plainId F.plain_proto_collect _]
  show wpAny _ A.in1 (newList [] >>= fun l => again (.builtin "list.__iadd__" ⟨[l, .ref a], []⟩)) _ _ s
  refine wpAny_bind (wpAny_newObj_type ?_)
  refine wpAny_pure ⟨plainId_quiet F.plain_list_iadd _, codeAny_builtin F.entry_list_iadd ?_⟩
  rw [Around.under_plainId F.plain_list_iadd _]
  have at1 : (s.heap.push { cls := .type "list", data := .seq ([] : List Value).toArray }).get? s.heap.objs.size = some { cls := .type "list", data := .seq ([] : List Value).toArray } := Heap.get?_push_size _ rfl
  have keep1 : ∀ b o, s.heap.get? b = some o → (s.heap.push { cls := .type "list", data := .seq ([] : List Value).toArray }).get? b = some o := fun b o e => Heap.get?_push_of_some _ e
  have up : ∀ (h : Heap) (f : Obj → Obj), (∀ b o, s.heap.get? b = some o → h.get? b = some o) → ∀ b o, s.heap.get? b = some o → (h.update s.heap.objs.size f).get? b = some o := fun h f q b o e =>
    (Heap.get?_update_other _ _ (Ne.symm (Nat.ne_of_lt (Heap.lt_size e)))).trans (q b o e)
  have genAt : ∀ {h : Heap}, (∀ b o, s.heap.get? b = some o → h.get? b = some o) → h.IsGen a g := fun {h} q => isGen.keeps q
  show wpAny _ A.in1 (Builtin.List.listExtendWith (.ref s.heap.objs.size) (.ref a) (.ref s.heap.objs.size)) _ _ _
  unfold Builtin.List.listExtendWith
  refine wpAny_bind (wpAny_typeOf (Heap.IsGen.typeIs (s := { s with heap := _ }) (genAt keep1)) ?_)
  have q1 : Builtin.List.listSameRef (.ref s.heap.objs.size) (.ref a) = false := by simp [Builtin.List.listSameRef, unlike]
  have q2 : (Value.type "generator" == Value.type "list") = false := by decide
  have q3 : (Value.type "generator" == Value.type "tuple") = false := by decide
  simp only [q1, q2, q3, Bool.or_false, Bool.false_eq_true, if_false]
  refine wpAny_bind (wpAny_pyIter_gen (s := { s with heap := _ }) (genAt keep1) ?_)
  refine wpAny_bind (wpAny_holding ?_)
  unfold Builtin.List.listLengthHint
  refine wpAny_bind (wpAny_specialOf (Heap.IsGen.typeIs (s := { s with heap := _ }) (genAt keep1)) F.gen_no_len ?_)
  show wpAny _ A.in1 (specialOf (Value.ref a) (Str.ofString "__length_hint__") >>= _) _ _ _
  refine wpAny_bind (wpAny_specialOf (Heap.IsGen.typeIs (s := { s with heap := _ }) (genAt keep1)) F.gen_no_hint ?_)
  refine wpAny_pure ?_
  show wpAny _ A.in1 (rule "list.extend.makes-room" >>= fun _ => Builtin.List.listTouch (.ref s.heap.objs.size) >>= fun _ =>
    again (.builtin "list.extend.loop" ⟨[.ref s.heap.objs.size, .ref a, .ref s.heap.objs.size], []⟩)) _ _ _
  refine wpAny_bind (wpAny_rule ?_)
  refine wpAny_bind ?_
  show wpAny _ A.in1 (updateSeq s.heap.objs.size (·.push .none) >>= fun _ => updateSeq s.heap.objs.size (·.pop)) _ _ _
  refine wpAny_bind (wpAny_updateSeq at1 rfl ?_)
  have at2 := Heap.get?_update_self (Obj.mapSeq (·.push Value.none)) at1 rfl
  refine wpAny_updateSeq (hz := by seq_fits) at2 rfl ?_
  have at3 := Heap.get?_update_self (Obj.mapSeq (·.pop)) at2 rfl
  have keep3 := up _ (Obj.mapSeq (·.pop)) (up _ (Obj.mapSeq (·.push Value.none)) keep1)
  refine wpAny_pure ⟨plainId_quiet F.plain_extend_loop _, ?_⟩
  refine drain (P := P) (w := w) (outer := outer) (H := H) (sc := sc) (ex := ex) (Q := Q) (EX := noEx) (A := A) (g := g) hr.hd (by have := hr.dp; show A.depth < _; omega) unlike noStat
    (fun s' acc c H' ys r1 r2 r3 r4 r5 r6 r7 r8 r9 => ?_) (fun e s' z => (never z).elim) sizeLine _ ?_ ?_ ⟨_, fresh, rfl, ?_⟩
  · show wpAny _ A (load s.heap.objs.size >>= _) _ _ s'
    refine wpAny_bind (wpAny_load r1 ?_)
    exact wpAny_pure (hQ s.heap.objs.size s' acc c H' ys (Nat.le_refl _) r1 r2 r3 r4 r5 r6 r7 r8 r9)
  · exact genAt keep3
  · exact lim.keeps keep3
  · refine wake _ _ _ ⟨hr.hd, ?_, ?_⟩ fr (Nat.le_refl _) keep3 ⟨_, at3⟩ os (allBare_setGen (s := { s with heap := _ }) bare rfl)
    · have := hr.dp
      show A.depth + 3 * k + 5 < _
      omega
    · have := hr.un
      show A.units + 1 + 1 + 16 * k + 200 < _
      omega
end
end Gx

/-! tuple(g), list(g) as expressions. -/
namespace Gx
open PySem PySem.Spec PySem.Calls PyProof.Rows L2 GxR
section
variable {P : Program} {w : World} {outer : List Env} {H : Hp} {sc s : Shared} {ex : List Addr} {Q : List V → Hp → Prop} {A : Around} {k : Nat} {u : Value} {E : Value → Shared → Prop}
theorem new_tuple {Q' : Value → Shared → Prop} (hr : Room (k + 2) A) (fr : A.frames = some outer) (made : GMade P w k outer H sc ex Q noEx u s)
    (hQ : ∀ (s' : Shared) (acc : Array Value) (H' : Hp) (ys : List V), s.heap.objs.size ≤ s'.heap.objs.size → Vals ys acc.toList → ys.length ≤ sizeLine → s'.os = sc.os → AllBare s'.gens → Un (frs outer) ex H H' sc.heap s'.heap → HOk P w H' s'.heap → Q ys H' → Q' (.ref s'.heap.objs.size) { s' with heap := s'.heap.push { cls := .type "tuple", data := .seq acc } }) :
    codeAny (model P w) A (.call (.builtin "tuple.__new__") ⟨[.type "tuple", u], []⟩) (wants Q' E) s := by
  have made' := made
  obtain ⟨a, g, c, rfl, _, _, isGen, _⟩ := made'
  refine codeAny_of_tree ?_
  show wpAny _ A.in1 (do checkBuiltinCall "tuple.__new__" ⟨[.type "tuple", .ref a], []⟩; again (.builtin "tuple.__new__" ⟨[.type "tuple", .ref a], []⟩)) _ _ s
  refine wpAny_bind (wpAny_of_eq (F.newCall_tuple_1 _) (wpAny_pure ⟨plainId_quiet F.plain_tuple_new _, codeAny_builtin F.entry_tuple_new ?_⟩))
  rw [Around.under_plainId F.plain_tuple_new _]
  have q1 := sub_tuple_self
  have q2 := init_tuple_lookup
  have q3 := madeHere_tuple
  have q4 := isGen.typeIs (s := s)
  have fr1 : A.in1.frames = some outer := fr
  wp_walk using wpAny_typeOf q4, gathered (k := k) hr.in1 fr1 made
  intro S s' acc c' H' ys r1 r2 r3 r4 r5 r6 r7 r8 r9 r10
  show wpAny _ _ (Builtin.Tuple.tupleExact acc.toList.toArray >>= fun v => ret v) _ _ _
  have e : acc.toList.toArray = acc := by simp
  have l := r3.length
  have l2 : acc.toList.length = acc.size := by simp
  unfold Builtin.Tuple.tupleExact
  refine wpAny_bind (wpAny_newObj_type ?_ (by show acc.toList.toArray.size ≤ sizeLine; rw [e]; omega))
  refine wpAny_pure ?_
  rw [e]
  exact hQ s' acc H' ys (Nat.le_trans r1 (Nat.le_of_lt (Heap.lt_size r2))) r3 r4 r5 r6 r7 r8 r10
theorem call_tuple_made {Q' : Value → Shared → Prop} (hr : Room (k + 4) A) (fr : A.frames = some outer) (made : GMade P w k outer H sc ex Q noEx u s)
    (hQ : ∀ (s' : Shared) (acc : Array Value) (H' : Hp) (ys : List V), s.heap.objs.size ≤ s'.heap.objs.size → Vals ys acc.toList → ys.length ≤ sizeLine → s'.os = sc.os → AllBare s'.gens → Un (frs outer) ex H H' sc.heap s'.heap → HOk P w H' s'.heap → Q ys H' → Q' (.ref s'.heap.objs.size) { s' with heap := s'.heap.push { cls := .type "tuple", data := .seq acc } }) :
    wpAny (model P w) A (call (.type "tuple") [u]) Q' E s := by
  have fr1 : A.in1.frames = some outer := fr
  refine callType_codes (Q₁ := fun obj s₁ => s₁.TypeIs obj "tuple" ∧ Q' obj s₁) F.called_tuple (F.typeCall_tuple_1 _) F.entry_object_init
    (new_tuple (k := k) (hr.mono (by omega : k + 3 ≤ k + 4)).in1 fr1 made fun s' acc H' ys r1 r2 r3 r4 r5 r6 r7 r8 => ⟨⟨_, Heap.get?_push_size _ rfl, rfl⟩, hQ s' acc H' ys r1 r2 r3 r4 r5 r6 r7 r8⟩) fun obj s₁ h₁ => ?_
  exact ⟨h₁.1, F.args_object_init_2 obj _, object_init_meets F.called_tuple.init.lookup F.called_tuple.made (by decide) P w A.in1 _ s₁ ⟨h₁.1, rfl, h₁.2⟩⟩
end
section
variable {X : Cx} {k : Nat} {e : Expr} {tg : TGen} {p pos : Pos}
def tTupG (tg : TGen) : TE := fun σ H Q => tg σ H fun out H2 => ∀ q, H2 q = none → Q (.ref q) (upd H2 q (.tup out))
/-- tuple(g) -/
theorem pe_tupG (h : PGen X k e tg noEx) (hr : Room (k + 4) X.A) (hg : Gl X "tuple") (hm : X.mg "tuple" = none) (he : starEach [e] X.env = (false, eval e X.env) :: starEach [] X.env := by rfl) : PE X (.Call (.Name "tuple" p) [e] [] pos) (tTupG tg) := by
  refine ⟨fun pins s σ H Q I hq => ?_⟩
  refine wpAny_Call_Name_kw (ld_blt I hg hm boot_tuple ?_)
  refine PyProof.Rows.callWith_type1 ?_ he rfl
  rw [he]
  show wpAny _ _ (spliced ((false, eval e X.env) :: backTo pos (starEach [] X.env))) _ _ s
  refine Calls.spliced_cons (thn (h.run pins s σ H _ I hq) fun u s1 ⟨H1, sc, ex, I1, hex, made⟩ => ?_)
  refine Calls.spliced_nil ?_
  refine call_tuple_made hr I1.ok.frames made fun s' acc H' ys r1 r2 r3 r4 r5 r6 r7 r8 => ?_
  have I2 : Inv X pins σ H' s' := I1.call' (ch := ex) r4 r6 r7 r5 hex
  refine ⟨.ref _, upd H' s'.heap.objs.size (.tup ys), I2.laid (t' := s'.toks) (fun b u z => Heap.get?_push_of_some _ z) (Nat.le_refl _) ?_, rfl, r8 _ (I2.hok.fresh (Nat.le_refl _))⟩
  refine ⟨r3, acc.toList, r2, ?_⟩
  have z : acc.toList.toArray = acc := by simp
  rw [z]
  exact ⟨_, Heap.get?_push_size _ rfl, rfl, _, rfl⟩
/-- tuple(g), its object known -/
def tTupG0 (tg : TGen) : TE := fun σ H Q => tg σ H fun out H2 => ∀ q o, H2 q = none → o.dict = none → Q (.ref q) (upd H2 q (.frz o (.tup out)))
theorem pe_tupG0 (h : PGen X k e tg noEx) (hr : Room (k + 4) X.A) (hg : Gl X "tuple") (hm : X.mg "tuple" = none) (he : starEach [e] X.env = (false, eval e X.env) :: starEach [] X.env := by rfl) : PE X (.Call (.Name "tuple" p) [e] [] pos) (tTupG0 tg) := by
  refine ⟨fun pins s σ H Q I hq => ?_⟩
  refine wpAny_Call_Name_kw (ld_blt I hg hm boot_tuple ?_)
  refine PyProof.Rows.callWith_type1 ?_ he rfl
  rw [he]
  show wpAny _ _ (spliced ((false, eval e X.env) :: backTo pos (starEach [] X.env))) _ _ s
  refine Calls.spliced_cons (thn (h.run pins s σ H _ I hq) fun u s1 ⟨H1, sc, ex, I1, hex, made⟩ => ?_)
  refine Calls.spliced_nil ?_
  refine call_tuple_made hr I1.ok.frames made fun s' acc H' ys r1 r2 r3 r4 r5 r6 r7 r8 => ?_
  have I2 : Inv X pins σ H' s' := I1.call' (ch := ex) r4 r6 r7 r5 hex
  refine ⟨.ref _, _, I2.laid (t' := s'.toks) (o := .frz { cls := .type "tuple", data := .seq acc } (.tup ys)) (fun b u z => Heap.get?_push_of_some _ z) (Nat.le_refl _) ?_, rfl, r8 _ _ (I2.hok.fresh (Nat.le_refl _)) rfl⟩
  refine ⟨Heap.get?_push_size _ rfl, r3, acc.toList, r2, ?_⟩
  have z : acc.toList.toArray = acc := by simp
  rw [z]
  exact ⟨_, Heap.get?_push_size _ rfl, rfl, _, rfl⟩
end
end Gx

/-! Turns over a list, a tuple that stay as they are. -/
namespace Gx
open PySem PySem.Spec PySem.Calls PyProof.Rows L2 GxR
section
variable {K : PySem.W.Frag} {a : Addr} {xs : List V} {g : TG} {tt : TT} {te : TE} {vs : List Nat} {σ : L2.St} {G : Hp} {cont : List V → Hp → Prop}
theorem turns_list (Pv : Nat → List V → Hp → Prop) (first : Pv 0 [] G) (stays : ∀ i ys H, i ≤ xs.length → Pv i ys H → SqL K H a xs)
    (turn : ∀ i x ys H, xs[i]? = some x → Pv i ys H → g x (wipe σ vs) H fun σ2 H2 => wipe σ2 vs = wipe σ vs ∧ tt σ2 H2 fun b H3 => if b = true then te σ2 H3 fun y H4 => ys.length < sizeLine ∧ Pv (i + 1) (ys ++ [y]) H4 else Pv (i + 1) ys H3)
    (after : ∀ ys H, Pv xs.length ys H → cont ys H) : ∃ W : Nat → Nat → List V → Hp → Prop, (∃ m, W 0 m [] G) ∧ Turns (Itl K a) g tt te vs σ cont W := by
  refine ⟨fun i m ys H => m = xs.length - i ∧ i ≤ xs.length ∧ Pv i ys H, ⟨xs.length, (Nat.sub_zero _).symm, Nat.zero_le _, first⟩, ?_⟩
  rintro i m ys H ⟨rfl, le, p⟩
  have seq := stays i ys H le p
  rcases Nat.lt_or_ge i xs.length with lt | ge
  · refine .inr ⟨⟨xs, xs[i], seq, List.getElem?_eq_getElem lt⟩, Pv (i + 1), fun ys' H' p' => ⟨xs.length - (i + 1), by omega, rfl, lt, p'⟩, fun x H' y => ?_⟩
    obtain ⟨rfl, y⟩ := y
    exact turn i x ys _ (y xs seq) p
  · have e : i = xs.length := by omega
    subst e
    exact .inl ⟨⟨xs, seq, Nat.le_refl _⟩, after ys H p⟩
theorem turns_tup (Pv : Nat → List V → Hp → Prop) (first : Pv 0 [] G) (stays : ∀ i ys H, i ≤ xs.length → Pv i ys H → SqT K H a xs)
    (turn : ∀ i x ys H, xs[i]? = some x → Pv i ys H → g x (wipe σ vs) H fun σ2 H2 => wipe σ2 vs = wipe σ vs ∧ tt σ2 H2 fun b H3 => if b = true then te σ2 H3 fun y H4 => ys.length < sizeLine ∧ Pv (i + 1) (ys ++ [y]) H4 else Pv (i + 1) ys H3)
    (after : ∀ ys H, Pv xs.length ys H → cont ys H) : ∃ W : Nat → Nat → List V → Hp → Prop, (∃ m, W 0 m [] G) ∧ Turns (Itt K a) g tt te vs σ cont W := by
  refine ⟨fun i m ys H => m = xs.length - i ∧ i ≤ xs.length ∧ Pv i ys H, ⟨xs.length, (Nat.sub_zero _).symm, Nat.zero_le _, first⟩, ?_⟩
  rintro i m ys H ⟨rfl, le, p⟩
  have seq := stays i ys H le p
  rcases Nat.lt_or_ge i xs.length with lt | ge
  · refine .inr ⟨⟨xs, xs[i], seq, List.getElem?_eq_getElem lt⟩, Pv (i + 1), fun ys' H' p' => ⟨xs.length - (i + 1), by omega, rfl, lt, p'⟩, fun x H' y => ?_⟩
    obtain ⟨rfl, y⟩ := y
    exact turn i x ys _ (y xs seq) p
  · have e : i = xs.length := by omega
    subst e
    exact .inl ⟨⟨xs, seq, Nat.le_refl _⟩, after ys H p⟩
end
end Gx

/-! A table's substitution. -/
namespace Ad
open PySem PySem.Spec PySem.Calls PyProof.Rows L2 GxR
namespace Sb
def pick (tb : Sb) (i : Int) : Option (Int × T) := match look tb i with
  | some t => if t.isVar i = true then none else some (i, t)
  | none => none
def sel (tb : Sb) (ks : List Int) : Sb := ks.filterMap (pick tb)
theorem pick_iff {tb : Sb} {i j : Int} {t : T} : pick tb i = some (j, t) ↔ i = j ∧ look tb i = some t ∧ t.isVar i = false := by
  unfold pick
  cases h : look tb i with
  | none => exact ⟨(fun z => nomatch z), (fun z => nomatch z.2.1)⟩
  | some u =>
    show (if u.isVar i = true then none else some (i, u)) = some (j, t) ↔ _
    cases hv : u.isVar i with
    | true =>
      rw [if_pos rfl]
      refine ⟨(fun z => nomatch z), fun z => ?_⟩
      have e := Option.some.inj z.2.1
      rw [← e, hv] at z
      exact nomatch z.2.2
    | false =>
      rw [if_neg Bool.false_ne_true]
      constructor
      · intro z
        cases z
        exact ⟨rfl, rfl, hv⟩
      · rintro ⟨rfl, z, _⟩
        cases z
        rfl
theorem norm_sel {tb : Sb} {ks : List Int} (rising : ks.Pairwise (· < ·)) (all : ∀ i, i ∈ ks ↔ i ∈ tb.map (·.1)) : Norm tb (sel tb ks) := by
  constructor
  · unfold sel
    have key : ∀ l : List Int, l.Pairwise (· < ·) → ((l.filterMap (pick tb)).map (·.1)).Pairwise (· < ·) ∧ ∀ j ∈ (l.filterMap (pick tb)).map (·.1), j ∈ l := by
      intro l
      induction l with
      | nil => intro _; exact ⟨.nil, fun j hj => nomatch hj⟩
      | cons i l ih =>
        intro h
        obtain ⟨h1, h2⟩ := List.pairwise_cons.mp h
        obtain ⟨r1, r2⟩ := ih h2
        cases hp : pick tb i with
        | none =>
          rw [List.filterMap_cons, hp]
          exact ⟨r1, fun j hj => List.mem_cons_of_mem _ (r2 j hj)⟩
        | some e =>
          obtain ⟨k, t⟩ := e
          have ek := (pick_iff.1 hp).1
          subst ek
          rw [List.filterMap_cons, hp]
          refine ⟨List.pairwise_cons.mpr ⟨fun j hj => h1 j (r2 j hj), r1⟩, fun j hj => ?_⟩
          rcases List.mem_cons.mp hj with z | z
          · rw [z]
            exact List.mem_cons_self
          · exact List.mem_cons_of_mem _ (r2 j z)
    exact (key ks rising).1
  · intro i t
    unfold sel
    rw [List.mem_filterMap]
    constructor
    · rintro ⟨k, _, hp⟩
      obtain ⟨rfl, h1, h2⟩ := pick_iff.1 hp
      exact ⟨h1, h2⟩
    · rintro ⟨h1, h2⟩
      exact ⟨i, (all i).2 ((look_key tb i).1 (by rw [h1]; rfl)), pick_iff.2 ⟨rfl, h1, h2⟩⟩
theorem sel_take {tb : Sb} {ks : List Int} {n : Nat} {i : Int} (h : ks[n]? = some i) : sel tb (ks.take (n + 1)) = sel tb (ks.take n) ++ (match pick tb i with
    | some e => [e]
    | none => []) := by
  unfold sel
  rw [List.take_add_one, h, List.filterMap_append]
  congr 1
  show List.filterMap (pick tb) [i] = _
  cases hp : pick tb i with
  | none => rw [List.filterMap_cons, hp]; rfl
  | some e => rw [List.filterMap_cons, hp]; rfl
end Sb
/-- all in a table can be compared -/
def Good (tb : Sb) : Prop := ∀ e ∈ tb, e.2.named = true ∧ e.2.dep ≤ 60
theorem TV.at {K : PySem.W.Frag} {H : Hp} {tb : Sb} {kvs : List (L2.Key × V)} (h : TV K H tb kvs) {i : Int} (m : i ∈ tb.map (·.1)) : ∃ t v, tb.look i = some t ∧ valV kvs (.inl i) = some v ∧ Tm K H t v := by
  rcases h.val i with ⟨a, _⟩ | z
  · have := (Sb.look_key tb i).2 m
    rw [a] at this
    cases this
  · exact z
theorem int_shaped (i : Int) : SeqAt.shaped (.int i) = true := rfl
theorem tab_same {H H' : Hp} {P : Addr} (s : Same H H') (t : TabG H P) : TabG H' P := by
  obtain ⟨ps, e, ok⟩ := t
  exact ⟨ps, s _ _ e, ok⟩
theorem tab_tk {H H' : Hp} {P : Addr} (t : TabG H P) (k : ∀ b o, b ≠ P → H b = some o → H' b = some o) : TK H H' := by
  obtain ⟨ps, e, ok⟩ := t
  intro b xs
  refine ⟨fun h => k b _ (fun z => ?_) h, fun o h => k b _ (fun z => ?_) h⟩
  · rw [z, e] at h
    cases h
  · rw [z, e] at h
    cases h
section
variable {P : Program} {w : World} {K : PySem.W.Frag} {mg : Str → Option Value} {base : Heap}
theorem tab_upd {H : Hp} {P q : Addr} {o : HO} (t : TabG H P) (n : H q = none) : TabG (upd H q o) P := by
  obtain ⟨ps, e, ok⟩ := t
  exact ⟨ps, by rw [upd_ne (ne_of_none e n)]; exact e, ok⟩
end
def spSubst (K : PySem.W.Frag) (Pt : Addr) : Sp := fun vs H Q _ => ∃ (d : Addr) (tb : Sb) (kvs : List (L2.Key × V)), vs = [.ref d] ∧ H d = some (.dK kvs) ∧ TV K H tb kvs ∧ (tb.map (·.1)).Nodup ∧ tb.length < 64 ∧ Good tb ∧ TabG H Pt ∧
  ∀ su x H', tb.Norm su → Su K H' su x → (∀ b o, b ≠ Pt → H b = some o → H' b = some o) → TabG H' Pt → Q x H'
end Ad

namespace Ad
open PySem PySem.Spec PySem.Calls PyProof.Rows L2
namespace T
mutual
/-- the paths of a term, each ahead of those within -/
def paths : T → List (List Int)
  | .v _ => [[]]
  | .f _ ts => [] :: pathsL 0 ts
def pathsL (k : Nat) : List T → List (List Int)
  | [] => []
  | t :: ts => (paths t).map ((k : Int) :: ·) ++ pathsL (k + 1) ts
end
mutual
theorem paths_len : ∀ t : T, t.paths.length = t.size
  | .v _ => rfl
  | .f x ts => by
    show (pathsL 0 ts).length + 1 = 1 + sizeL ts
    rw [pathsL_len 0 ts]
    omega
theorem pathsL_len (k : Nat) : ∀ ts : List T, (pathsL k ts).length = sizeL ts
  | [] => rfl
  | t :: ts => by
    show ((paths t).map ((k : Int) :: ·) ++ pathsL (k + 1) ts).length = size t + sizeL ts
    rw [List.length_append, List.length_map, paths_len t, pathsL_len (k + 1) ts]
end
mutual
theorem paths_dep : ∀ (t : T) (p : List Int), p ∈ t.paths → p.length ≤ t.dep
  | .v _, p, h => by
    cases List.mem_singleton.mp h
    exact Nat.le_refl _
  | .f x ts, p, h => by
    show p.length ≤ 1 + depL ts
    rcases List.mem_cons.mp h with e | e
    · rw [e]
      exact Nat.zero_le _
    · exact pathsL_dep 0 ts p e
theorem pathsL_dep (k : Nat) : ∀ (ts : List T) (p : List Int), p ∈ pathsL k ts → p.length ≤ 1 + depL ts
  | [], p, h => by cases h
  | t :: ts, p, h => by
    show p.length ≤ 1 + max (dep t) (depL ts)
    rcases List.mem_append.mp h with e | e
    · obtain ⟨q, hq, rfl⟩ := List.mem_map.mp e
      have := paths_dep t q hq
      rw [List.length_cons]
      omega
    · have := pathsL_dep (k + 1) ts p e
      omega
end
/-- the part at a path -/
def sub : List Int → T → Option T
  | [], t => some t
  | _ :: _, .v _ => none
  | k :: p, .f _ ts => if 0 ≤ k then (match ts[k.toNat]? with
      | some u => sub p u
      | none => none) else none
/-- a term with another part at a path -/
def put (new : T) : List Int → T → Option T
  | [], _ => some new
  | _ :: _, .v _ => none
  | k :: p, .f x ts => if 0 ≤ k then (match ts[k.toNat]? with
      | some u => (match put new p u with
        | some r => some (.f x (ts.set k.toNat r))
        | none => none)
      | none => none) else none
theorem sub_cons {k : Int} {p : List Int} {t u : T} (h : sub (k :: p) t = some u) : ∃ (j : Nat) (x : Str) (ts : List T) (y : T), k = (j : Int) ∧ t = .f x ts ∧ ts[j]? = some y ∧ sub p y = some u := by
  cases t with
  | v i => cases h
  | f x ts =>
    have h' : (if 0 ≤ k then (match ts[k.toNat]? with | some u => sub p u | none => none) else none) = some u := h
    by_cases k0 : 0 ≤ k
    · rw [if_pos k0] at h'
      cases e : ts[k.toNat]? with
      | none =>
        rw [e] at h'
        cases h'
      | some y =>
        rw [e] at h'
        exact ⟨k.toNat, x, ts, y, by omega, rfl, e, h'⟩
    · rw [if_neg k0] at h'
      cases h'
theorem put_cons {new : T} {k : Int} {p : List Int} {t r : T} (h : put new (k :: p) t = some r) : ∃ (j : Nat) (x : Str) (ts : List T) (y z : T), k = (j : Int) ∧ t = .f x ts ∧ ts[j]? = some y ∧ put new p y = some z ∧ r = .f x (ts.set j z) := by
  cases t with
  | v i => cases h
  | f x ts =>
    have h' : (if 0 ≤ k then (match ts[k.toNat]? with | some u => (match put new p u with | some r => some (T.f x (ts.set k.toNat r)) | none => none) | none => none) else none) = some r := h
    by_cases k0 : 0 ≤ k
    · rw [if_pos k0] at h'
      cases e : ts[k.toNat]? with
      | none =>
        rw [e] at h'
        cases h'
      | some y =>
        rw [e] at h'
        dsimp only at h'
        cases e2 : put new p y with
        | none =>
          rw [e2] at h'
          cases h'
        | some z =>
          rw [e2] at h'
          cases h'
          exact ⟨k.toNat, x, ts, y, z, by omega, rfl, e, e2, rfl⟩
    · rw [if_neg k0] at h'
      cases h'
theorem pathsL_append : ∀ (k : Nat) (as bs : List T), pathsL k (as ++ bs) = pathsL k as ++ pathsL (k + as.length) bs
  | _, [], _ => rfl
  | k, t :: ts, bs => by
    show (paths t).map ((k : Int) :: ·) ++ pathsL (k + 1) (ts ++ bs) = (paths t).map ((k : Int) :: ·) ++ pathsL (k + 1) ts ++ pathsL (k + (ts.length + 1)) bs
    rw [pathsL_append (k + 1) ts bs, List.append_assoc]
    congr 3
    omega
theorem pathsL_next {ts : List T} {i : Nat} {u : T} (h : ts[i]? = some u) : pathsL 0 (ts.take (i + 1)) = pathsL 0 (ts.take i) ++ u.paths.map ((i : Int) :: ·) := by
  have hi := (List.getElem?_eq_some_iff.mp h).1
  rw [List.take_add_one, h, pathsL_append, List.length_take]
  show _ ++ ((paths u).map ((((0 + min i ts.length : Nat)) : Int) :: ·) ++ []) = _
  rw [List.append_nil]
  have e : 0 + min i ts.length = i := by omega
  rw [e]
theorem sizeL_take (ts : List T) (i : Nat) : sizeL (ts.take i) ≤ sizeL ts := by
  have h2 := sizeL_append (ts.take i) (ts.drop i)
  rw [List.take_append_drop] at h2
  omega
theorem sub_f {j : Nat} {p : List Int} {x : Str} {ts : List T} {y u : T} (h : ts[j]? = some y) (e : sub p y = some u) : sub ((j : Int) :: p) (.f x ts) = some u := by
  show (if 0 ≤ (j : Int) then (match ts[((j : Int)).toNat]? with | some u => sub p u | none => none) else none) = _
  rw [if_pos (by omega), Int.toNat_natCast, h]
  exact e
theorem put_f {new : T} {j : Nat} {p : List Int} {x : Str} {ts : List T} {y z : T} (h : ts[j]? = some y) (e : put new p y = some z) : put new ((j : Int) :: p) (.f x ts) = some (.f x (ts.set j z)) := by
  show (if 0 ≤ (j : Int) then (match ts[((j : Int)).toNat]? with | some u => (match put new p u with | some r => some (T.f x (ts.set ((j : Int)).toNat r)) | none => none) | none => none) else none) = _
  rw [if_pos (by omega), Int.toNat_natCast, h]
  show (match put new p y with | some r => some (T.f x (ts.set j r)) | none => none) = _
  rw [e]
mutual
/-- at each path something stands -/
theorem paths_sub : ∀ (t : T) (p : List Int), p ∈ t.paths → ∃ u, sub p t = some u
  | .v i, p, h => by
    cases List.mem_singleton.mp h
    exact ⟨_, rfl⟩
  | .f x ts, p, h => by
    rcases List.mem_cons.mp h with e | e
    · subst e
      exact ⟨_, rfl⟩
    · obtain ⟨j, p', y, u, e1, e2, e3⟩ := pathsL_sub 0 ts p e
      subst e1
      refine ⟨u, ?_⟩
      rw [Nat.zero_add]
      exact sub_f e2 e3
theorem pathsL_sub (k : Nat) : ∀ (ts : List T) (p : List Int), p ∈ pathsL k ts → ∃ (j : Nat) (p' : List Int) (y u : T), p = ((k + j : Nat) : Int) :: p' ∧ ts[j]? = some y ∧ sub p' y = some u
  | [], p, h => by cases h
  | t :: ts, p, h => by
    rcases List.mem_append.mp h with e | e
    · obtain ⟨q, hq, rfl⟩ := List.mem_map.mp e
      obtain ⟨u, hu⟩ := paths_sub t q hq
      exact ⟨0, q, t, u, rfl, rfl, hu⟩
    · obtain ⟨j, p', y, u, e1, e2, e3⟩ := pathsL_sub (k + 1) ts p e
      refine ⟨j + 1, p', y, u, ?_, e2, e3⟩
      rw [e1]
      congr 2
      omega
end
/-- what stands at a path is no larger -/
theorem sub_small : ∀ {p : List Int} {t u : T}, sub p t = some u → (t.named = true → u.named = true) ∧ u.dep ≤ t.dep ∧ u.size ≤ t.size
  | [], t, u, h => by
    cases (show some t = some u from h)
    exact ⟨id, Nat.le_refl _, Nat.le_refl _⟩
  | k :: p, t, u, h => by
    obtain ⟨j, x, ts, y, rfl, rfl, e1, e2⟩ := sub_cons h
    obtain ⟨h1, h2, h3⟩ := sub_small e2
    have m := List.mem_of_getElem? e1
    have d1 := dep_mem m
    have d2 := size_mem m
    refine ⟨fun n => h1 (named_mem m ?_), ?_, ?_⟩
    · have n' : (nameOk x && namedL ts) = true := n
      rw [Bool.and_eq_true] at n'
      exact n'.2
    · show u.dep ≤ 1 + depL ts
      omega
    · show u.size ≤ 1 + sizeL ts
      omega
theorem depL_set : ∀ {ts : List T} {j : Nat} {y z : T}, ts[j]? = some y → ∀ m, depL ts ≤ m → z.dep ≤ m → depL (ts.set j z) ≤ m
  | [], j, y, z, h, m, _, _ => by cases h
  | t :: ts, 0, y, z, h, m, h1, h2 => by
    show max (dep z) (depL ts) ≤ m
    have h1' : max (dep t) (depL ts) ≤ m := h1
    omega
  | t :: ts, j + 1, y, z, h, m, h1, h2 => by
    have h1' : max (dep t) (depL ts) ≤ m := h1
    have := depL_set (ts := ts) (j := j) (y := y) (z := z) h m (by omega) h2
    show max (dep t) (depL (ts.set j z)) ≤ m
    omega
theorem sizeL_set : ∀ {ts : List T} {j : Nat} {y z : T}, ts[j]? = some y → sizeL (ts.set j z) + y.size = sizeL ts + z.size
  | [], j, y, z, h => by cases h
  | t :: ts, 0, y, z, h => by
    cases h
    show size z + sizeL ts + size t = size t + sizeL ts + size z
    omega
  | t :: ts, j + 1, y, z, h => by
    have := sizeL_set (ts := ts) (j := j) (y := y) (z := z) h
    show size t + sizeL (ts.set j z) + y.size = size t + sizeL ts + z.size
    omega
theorem namedL_set : ∀ {ts : List T} {j : Nat} {z : T}, namedL ts = true → z.named = true → namedL (ts.set j z) = true
  | [], j, z, _, _ => rfl
  | t :: ts, 0, z, h, hz => by
    have h' : (named t && namedL ts) = true := h
    rw [Bool.and_eq_true] at h'
    show (named z && namedL ts) = true
    rw [hz, h'.2]
    rfl
  | t :: ts, j + 1, z, h, hz => by
    have h' : (named t && namedL ts) = true := h
    rw [Bool.and_eq_true] at h'
    show (named t && namedL (ts.set j z)) = true
    rw [h'.1, namedL_set h'.2 hz]
    rfl
/-- what is put at a path stands there, and what stood there can be put back -/
theorem put_sub (new : T) : ∀ {p : List Int} {t u : T}, sub p t = some u → ∃ r, put new p t = some r ∧ sub p r = some new ∧ put u p r = some t ∧ r.size ≤ t.size + new.size ∧ r.dep ≤ t.dep + new.dep ∧ (t.named = true → new.named = true → r.named = true)
  | [], t, u, h => by
    cases (show some t = some u from h)
    exact ⟨new, rfl, rfl, rfl, Nat.le_add_left _ _, Nat.le_add_left _ _, fun _ n => n⟩
  | k :: p, t, u, h => by
    obtain ⟨j, x, ts, y, rfl, rfl, e1, e2⟩ := sub_cons h
    obtain ⟨r, h1, h2, h3, h4, h5, h6⟩ := put_sub new e2
    have hj := (List.getElem?_eq_some_iff.mp e1).1
    have at' : (ts.set j r)[j]? = some r := by
      rw [List.getElem?_set_self hj]
    have m := List.mem_of_getElem? e1
    have d1 := dep_mem m
    have d2 := size_mem m
    refine ⟨.f x (ts.set j r), put_f e1 h1, sub_f at' h2, ?_, ?_, ?_, ?_⟩
    · rw [put_f at' h3, List.set_set]
      congr 2
      refine List.ext_getElem? fun i => ?_
      by_cases e : j = i
      · subst e
        rw [List.getElem?_set_self hj, e1]
      · rw [List.getElem?_set_ne e]
    · have := sizeL_set (z := r) e1
      show 1 + sizeL (ts.set j r) ≤ 1 + sizeL ts + new.size
      omega
    · have := depL_set (z := r) e1 (depL ts + new.dep) (by omega) (by omega)
      show 1 + depL (ts.set j r) ≤ 1 + depL ts + new.dep
      omega
    · intro n nn
      have n' : (nameOk x && namedL ts) = true := n
      rw [Bool.and_eq_true] at n'
      show (nameOk x && namedL (ts.set j r)) = true
      rw [n'.1, namedL_set n'.2 (h6 (named_mem m n'.2) nn)]
      rfl
mutual
/-- the steps of a path are small -/
theorem paths_small : ∀ (t : T) (p : List Int), p ∈ t.paths → ∀ k ∈ p, 0 ≤ k ∧ k < t.size
  | .v i, p, h, k, hk => by
    cases List.mem_singleton.mp h
    cases hk
  | .f x ts, p, h, k, hk => by
    have e0 : size (.f x ts) = 1 + sizeL ts := rfl
    rcases List.mem_cons.mp h with e | e
    · rw [e] at hk
      cases hk
    · have := pathsL_small 0 ts p e k hk
      have l := len_sizeL ts
      omega
theorem pathsL_small (n : Nat) : ∀ (ts : List T) (p : List Int), p ∈ pathsL n ts → ∀ k ∈ p, 0 ≤ k ∧ k < n + sizeL ts
  | [], p, h, k, hk => by cases h
  | t :: ts, p, h, k, hk => by
    have s1 := size_pos t
    have e0 : sizeL (t :: ts) = size t + sizeL ts := rfl
    rcases List.mem_append.mp h with e | e
    · obtain ⟨q, hq, rfl⟩ := List.mem_map.mp e
      rcases List.mem_cons.mp hk with z | z
      · omega
      · have := paths_small t q hq k z
        omega
    · have := pathsL_small (n + 1) ts p e k hk
      omega
end
end T
/-- a path's value -/
def PV (K : PySem.W.Frag) (H : Hp) (p : List Int) (v : V) : Prop := ∃ a, v = .ref a ∧ SqT K H a (p.map V.int)
theorem PV.mono {K : PySem.W.Frag} {H H' : Hp} (k : TK H H') (p : List Int) (v : V) (h : PV K H p v) : PV K H' p v := by
  obtain ⟨a, e, s⟩ := h
  exact ⟨a, e, k.sq s⟩
def spLPaths (K : PySem.W.Frag) (n : Nat) : Sp := fun vs H Q _ => ∃ (t : T) (x : V), vs = [x] ∧ Tm K H t x ∧ t.dep < n ∧ t.size ≤ 10000 ∧
  ∀ H' p us, Same H H' → H p = none → H' p = some (.lst us) → F2 (PV K H') t.paths us → Q (.ref p) H'
def spAt (K : PySem.W.Frag) : Sp := fun vs H Q _ => ∃ (t u : T) (x : V) (a : Addr) (p : List Int), vs = [x, .ref a] ∧ Tm K H t x ∧ SqT K H a (p.map V.int) ∧ T.sub p t = some u ∧ ∀ v, Tm K H u v → Q v H
/-- put at a path of fewer than n steps -/
def spPut (K : PySem.W.Frag) (n : Nat) : Sp := fun vs H Q _ => ∃ (t new r : T) (x y : V) (a : Addr) (p : List Int), vs = [x, .ref a, y] ∧ Tm K H t x ∧ Tm K H new y ∧ SqT K H a (p.map V.int) ∧ p.length < n ∧ t.size ≤ 10000 ∧ T.put new p t = some r ∧ ∀ v H', Same H H' → Tm K H' r v → Q v H'
section
variable {K : PySem.W.Frag}
theorem Tms.set {H : Hp} {x : V} {t : T} : ∀ {ts : List T} {xs : List V} (j : Nat), Tms K H ts xs → Tm K H t x → Tms K H (ts.set j t) (xs.take j ++ x :: xs.drop (j + 1)) ∨ ts.length ≤ j
  | [], _, j, _, _ => .inr (Nat.zero_le _)
  | u :: us, xs, j, h, hx => by
    obtain ⟨y, ys, rfl, one, all⟩ := h
    cases j with
    | zero => exact .inl ⟨x, ys, rfl, hx, all⟩
    | succ j =>
      rcases Tms.set (ts := us) (xs := ys) j all hx with z | z
      · exact .inl ⟨y, _, rfl, one, z⟩
      · exact .inr (Nat.succ_le_succ z)
end
theorem cut_low {x : V} {xs : List V} {j : Nat} (h : j < xs.length) : ¬ (HT.sIx (x :: xs).length 0 none = 0 ∧ HT.sIx (x :: xs).length (x :: xs).length (some ((j : Int) + 1)) = (x :: xs).length) ∧ cutV (x :: xs) none (some ((j : Int) + 1)) = x :: xs.take j := by
  have e : ((j : Int) + 1) = ((j + 1 : Nat) : Int) := by omega
  rw [e]
  have e2 : HT.sIx (x :: xs).length (x :: xs).length (some ((j + 1 : Nat) : Int)) = j + 1 := by
    rw [HT.sIx_nat, List.length_cons]
    omega
  constructor
  · rw [e2, List.length_cons]
    omega
  · unfold cutV
    rw [e2, HT.sIx_none, List.drop_zero, Nat.sub_zero, List.take_succ_cons]
theorem cut_high {x : V} {xs : List V} {j : Nat} (h : j < xs.length) : ¬ (HT.sIx (x :: xs).length 0 (some ((j : Int) + 1 + 1)) = 0 ∧ HT.sIx (x :: xs).length (x :: xs).length none = (x :: xs).length) ∧ cutV (x :: xs) (some ((j : Int) + 1 + 1)) none = xs.drop (j + 1) := by
  have e : ((j : Int) + 1 + 1) = ((j + 2 : Nat) : Int) := by omega
  rw [e]
  have e2 : HT.sIx (x :: xs).length 0 (some ((j + 2 : Nat) : Int)) = j + 2 := by
    rw [HT.sIx_nat, List.length_cons]
    omega
  constructor
  · rw [e2]
    omega
  · unfold cutV
    rw [e2, HT.sIx_none]
    show ((xs.drop (j + 1))).take _ = _
    rw [List.take_of_length_le]
    rw [List.length_drop, List.length_cons]
    omega
theorem cut_tail {k : Int} {p : List Int} : ¬ (HT.sIx ((k :: p).map V.int).length 0 (some 1) = 0 ∧ HT.sIx ((k :: p).map V.int).length ((k :: p).map V.int).length none = ((k :: p).map V.int).length) ∧ cutV ((k :: p).map V.int) (some 1) none = p.map V.int := by
  have e2 : HT.sIx ((k :: p).map V.int).length 0 (some ((1 : Nat) : Int)) = 1 := by
    rw [HT.sIx_nat, List.length_map, List.length_cons]
    omega
  have e3 : HT.sIx ((k :: p).map V.int).length 0 (some 1) = 1 := e2
  constructor
  · rw [e3]
    omega
  · unfold cutV
    rw [e3, HT.sIx_none]
    show (p.map V.int).take _ = _
    rw [List.take_of_length_le]
    rw [List.length_map, List.length_map, List.length_cons]
    omega
theorem cut_low' {x : V} {xs : List V} {j : Nat} (h : j < xs.length) : ¬ (HT.sIx (x :: xs).length 0 none = 0 ∧ HT.sIx (x :: xs).length (x :: xs).length (some (1 + (j : Int))) = (x :: xs).length) ∧ cutV (x :: xs) none (some (1 + (j : Int))) = x :: xs.take j := by
  rw [Int.add_comm]
  exact cut_low h
theorem cut_high' {x : V} {xs : List V} {j : Nat} (h : j < xs.length) : ¬ (HT.sIx (x :: xs).length 0 (some (1 + (j : Int) + 1)) = 0 ∧ HT.sIx (x :: xs).length (x :: xs).length none = (x :: xs).length) ∧ cutV (x :: xs) (some (1 + (j : Int) + 1)) none = xs.drop (j + 1) := by
  rw [Int.add_comm 1]
  exact cut_high h
end Ad

/-! The order of terms, as plain relations: weights, places, what is above what. -/
namespace Ad
open PySem PySem.Spec PySem.Calls PyProof.Rows L2
namespace Kb
/-- sums over a list -/
def tot {α : Type} (h : α → Int) : List α → Int
  | [] => 0
  | a :: as => h a + tot h as
section
variable {α : Type} {h : α → Int}
theorem tot_app : ∀ as bs : List α, tot h (as ++ bs) = tot h as + tot h bs
  | [], bs => (Int.zero_add _).symm
  | a :: as, bs => by
    show h a + tot h (as ++ bs) = h a + tot h as + tot h bs
    rw [tot_app as bs]
    omega
theorem tot_perm {as bs : List α} (p : as.Perm bs) : tot h as = tot h bs := by
  induction p with
  | nil => rfl
  | cons a _ ih =>
    show h a + tot h _ = h a + tot h _
    rw [ih]
  | swap a b l =>
    show h b + (h a + tot h l) = h a + (h b + tot h l)
    omega
  | trans _ _ i1 i2 => exact i1.trans i2
theorem tot_pos {as : List α} (n : ∀ a ∈ as, 0 ≤ h a) : 0 ≤ tot h as := by
  induction as with
  | nil => exact Int.le_refl _
  | cons a as ih =>
    show 0 ≤ h a + tot h as
    have := n a (List.mem_cons_self ..)
    have := ih fun b hb => n b (List.mem_cons_of_mem _ hb)
    omega
end
/-- each item stands in bs at least as often -/
def Occ (as bs : List Int) : Prop := ∀ i, as.count i ≤ bs.count i
theorem Occ.refl (as : List Int) : Occ as as := fun _ => Nat.le_refl _
theorem Occ.trans {as bs cs : List Int} (a : Occ as bs) (b : Occ bs cs) : Occ as cs := fun i => Nat.le_trans (a i) (b i)
theorem Occ.rest : ∀ {as bs : List Int}, Occ as bs → ∃ r, bs.Perm (as ++ r)
  | [], bs, _ => ⟨bs, List.Perm.refl _⟩
  | a :: as, bs, o => by
    have m : a ∈ bs := by
      have := o a
      rw [List.count_cons_self] at this
      exact List.count_pos_iff.mp (by omega)
    have p := List.perm_cons_erase m
    have o' : Occ as (bs.erase a) := fun i => by
      have h1 := o i
      have h2 := p.count_eq i
      rw [List.count_cons] at h1 h2
      omega
    obtain ⟨r, q⟩ := o'.rest
    exact ⟨r, p.trans (q.cons a)⟩
section
variable (w p : Str → Int)
mutual
/-- the weight -/
def W : T → Int
  | .v _ => 1
  | .f x ts => w x + WL ts
def WL : List T → Int
  | [] => 0
  | t :: ts => W t + WL ts
end
mutual
/-- s is above t -/
def ab : T → T → Prop
  | .v _, _ => False
  | .f x ss, t => Occ t.vars (T.varsL ss) ∧ (W w t < w x + WL w ss ∨ (W w t = w x + WL w ss ∧ match t with
    | .v _ => False
    | .f y ts => p y < p x ∨ (x = y ∧ abL ss ts)))
def abL : List T → List T → Prop
  | [], _ => False
  | _ :: _, [] => False
  | a :: as, b :: bs => ab a b ∨ (a = b ∧ abL as bs)
end
end
section
variable {w p : Str → Int}
mutual
theorem W_pos (h : ∀ x, 1 ≤ w x) : ∀ t : T, 1 ≤ W w t
  | .v _ => Int.le_refl _
  | .f x ts => by
    show 1 ≤ w x + WL w ts
    have := h x
    have := WL_pos h ts
    omega
theorem WL_pos (h : ∀ x, 1 ≤ w x) : ∀ ts : List T, 0 ≤ WL w ts
  | [] => Int.le_refl _
  | t :: ts => by
    show 0 ≤ W w t + WL w ts
    have := W_pos h t
    have := WL_pos h ts
    omega
end
theorem WL_app : ∀ as bs : List T, WL w (as ++ bs) = WL w as + WL w bs
  | [], bs => (Int.zero_add _).symm
  | a :: as, bs => by
    show W w a + WL w (as ++ bs) = W w a + WL w as + WL w bs
    rw [WL_app as bs]
    omega
theorem ab_occ : ∀ {s t : T}, ab w p s t → Occ t.vars s.vars
  | .v _, _, h => h.elim
  | .f _ _, _, h => h.1
theorem ab_le : ∀ {s t : T}, ab w p s t → W w t ≤ W w s
  | .v _, _, h => h.elim
  | .f x ss, t, h => by
    show W w t ≤ w x + WL w ss
    rcases h.2 with z | z
    · omega
    · omega
mutual
theorem ab_irr : ∀ t : T, ¬ ab w p t t
  | .v _, h => h
  | .f x ts, h => by
    rcases h.2 with z | ⟨_, z⟩
    · exact absurd z (Int.lt_irrefl _)
    · rcases z with z | ⟨_, z⟩
      · exact absurd z (Int.lt_irrefl _)
      · exact abL_irr ts z
theorem abL_irr : ∀ ts : List T, ¬ abL w p ts ts
  | [], h => h
  | t :: ts, h => by
    rcases h with z | ⟨_, z⟩
    · exact ab_irr t z
    · exact abL_irr ts z
end
mutual
theorem ab_trans : ∀ (s t u : T), ab w p s t → ab w p t u → ab w p s u
  | .v _, _, _, h, _ => h.elim
  | .f x ss, .v _, _, _, k => k.elim
  | .f x ss, .f y ts, u, h, k => by
    have hl := ab_le h
    have kl := ab_le k
    refine ⟨(ab_occ k).trans (ab_occ h), ?_⟩
    rcases h.2 with h2 | ⟨h2, h3⟩
    · refine .inl ?_
      have : W w (.f y ts) < w x + WL w ss := h2
      omega
    · have h2' : W w (.f y ts) = w x + WL w ss := h2
      rcases k.2 with k2 | ⟨k2, k3⟩
      · refine .inl ?_
        have : W w u < W w (.f y ts) := k2
        omega
      · have k2' : W w u = W w (.f y ts) := k2
        refine .inr ⟨by omega, ?_⟩
        cases u with
        | v i => exact k3
        | f z us =>
          rcases h3 with h3 | ⟨h3, h4⟩
          · rcases k3 with k3 | ⟨k3, _⟩
            · exact .inl (by omega)
            · rw [← k3]
              exact .inl h3
          · rcases k3 with k3 | ⟨k3, k4⟩
            · rw [h3]
              exact .inl k3
            · exact .inr ⟨h3.trans k3, abL_trans ss ts us h4 k4⟩
theorem abL_trans : ∀ (ss ts us : List T), abL w p ss ts → abL w p ts us → abL w p ss us
  | [], _, _, h, _ => h.elim
  | _ :: _, [], _, h, _ => h.elim
  | _ :: _, _ :: _, [], _, k => k.elim
  | a :: as, b :: bs, c :: cs, h, k => by
    rcases h with h | ⟨h, h'⟩
    · rcases k with k | ⟨k, _⟩
      · exact .inl (ab_trans a b c h k)
      · exact .inl (k ▸ h)
    · rcases k with k | ⟨k, k'⟩
      · exact .inl (h ▸ k)
      · exact .inr ⟨h.trans k, abL_trans as bs cs h' k'⟩
end
theorem ab_not {s t : T} (h : ab w p s t) : ¬ ab w p t s := fun k => ab_irr _ (ab_trans _ _ _ h k)
theorem ab_ne {s t : T} (h : ab w p s t) : s ≠ t := fun e => ab_irr t (e ▸ h)
/-! substitutions -/
mutual
theorem W_fill (s : Int → T) : ∀ t : T, W w (t.fill s) = W w t + tot (fun j => W w (s j) - 1) t.vars
  | .v i => by
    show W w (s i) = 1 + (W w (s i) - 1 + 0)
    omega
  | .f x ts => by
    show w x + WL w (T.fillL s ts) = w x + WL w ts + tot _ (T.varsL ts)
    rw [WL_fill s ts]
    omega
theorem WL_fill (s : Int → T) : ∀ ts : List T, WL w (T.fillL s ts) = WL w ts + tot (fun j => W w (s j) - 1) (T.varsL ts)
  | [] => rfl
  | t :: ts => by
    show W w (t.fill s) + WL w (T.fillL s ts) = W w t + WL w ts + tot _ (t.vars ++ T.varsL ts)
    rw [tot_app, W_fill s t, WL_fill s ts]
    omega
end
mutual
theorem count_fill (s : Int → T) (i : Int) : ∀ t : T, (((t.fill s).vars.count i : Nat) : Int) = tot (fun j => (((s j).vars.count i : Nat) : Int)) t.vars
  | .v j => by
    show (((s j).vars.count i : Nat) : Int) = (((s j).vars.count i : Nat) : Int) + 0
    omega
  | .f x ts => countL_fill s i ts
theorem countL_fill (s : Int → T) (i : Int) : ∀ ts : List T, (((T.varsL (T.fillL s ts)).count i : Nat) : Int) = tot (fun j => (((s j).vars.count i : Nat) : Int)) (T.varsL ts)
  | [] => rfl
  | t :: ts => by
    show ((((t.fill s).vars ++ T.varsL (T.fillL s ts)).count i : Nat) : Int) = tot _ (t.vars ++ T.varsL ts)
    rw [tot_app, List.count_append, ← count_fill s i t, ← countL_fill s i ts]
    omega
end
theorem occ_fill (s : Int → T) {t u : T} (o : Occ t.vars u.vars) : Occ (t.fill s).vars (u.fill s).vars := fun i => by
  obtain ⟨r, q⟩ := o.rest
  have h1 := count_fill s i t
  have h2 := count_fill s i u
  rw [tot_perm q, tot_app] at h2
  have h3 : 0 ≤ tot (fun j => (((s j).vars.count i : Nat) : Int)) r := tot_pos fun _ _ => Int.natCast_nonneg _
  omega
mutual
theorem ab_fill (s : Int → T) (one : ∀ j, 1 ≤ W w (s j)) : ∀ t u : T, ab w p t u → ab w p (t.fill s) (u.fill s)
  | .v _, _, h => h.elim
  | .f x ts, u, h => by
    have o := ab_occ h
    obtain ⟨r, q⟩ := o.rest
    have d : 0 ≤ tot (fun j => W w (s j) - 1) r := tot_pos fun j _ => by have := one j; omega
    have e1 := W_fill (w := w) s u
    have e2 := W_fill (w := w) s (.f x ts)
    rw [tot_perm q, tot_app] at e2
    refine ⟨occ_fill s o, ?_⟩
    show W w (u.fill s) < W w ((T.f x ts).fill s) ∨ (W w (u.fill s) = W w ((T.f x ts).fill s) ∧ _)
    rcases h.2 with h2 | ⟨h2, h3⟩
    · have h2' : W w u < W w (.f x ts) := h2
      exact .inl (by omega)
    · have h2' : W w u = W w (.f x ts) := h2
      by_cases z : tot (fun j => W w (s j) - 1) r = 0
      · refine .inr ⟨by omega, ?_⟩
        cases u with
        | v i => exact h3.elim
        | f y us =>
          rcases h3 with h3 | ⟨h3, h4⟩
          · exact .inl h3
          · exact .inr ⟨h3, abL_fill s one ts us h4⟩
      · exact .inl (by omega)
theorem abL_fill (s : Int → T) (one : ∀ j, 1 ≤ W w (s j)) : ∀ ts us : List T, abL w p ts us → abL w p (T.fillL s ts) (T.fillL s us)
  | [], _, h => h.elim
  | _ :: _, [], h => h.elim
  | a :: as, b :: bs, h => by
    rcases h with h | ⟨h, h'⟩
    · exact .inl (ab_fill s one a b h)
    · exact .inr ⟨congrArg (T.fill s) h, abL_fill s one as bs h'⟩
end
/-! what stands around -/
theorem varsL_app : ∀ as bs : List T, T.varsL (as ++ bs) = T.varsL as ++ T.varsL bs
  | [], bs => rfl
  | a :: as, bs => by
    show a.vars ++ T.varsL (as ++ bs) = a.vars ++ T.varsL as ++ T.varsL bs
    rw [varsL_app as bs, List.append_assoc]
theorem abL_at {a b : T} (h : ab w p a b) (r : List T) : ∀ l : List T, abL w p (l ++ a :: r) (l ++ b :: r)
  | [] => .inl h
  | _ :: l => .inr ⟨rfl, abL_at h r l⟩
theorem ab_at {a b : T} (h : ab w p a b) (x : Str) (l r : List T) : ab w p (.f x (l ++ a :: r)) (.f x (l ++ b :: r)) := by
  refine ⟨fun i => ?_, ?_⟩
  · show (T.varsL (l ++ b :: r)).count i ≤ (T.varsL (l ++ a :: r)).count i
    rw [varsL_app, varsL_app]
    show (T.varsL l ++ (b.vars ++ T.varsL r)).count i ≤ (T.varsL l ++ (a.vars ++ T.varsL r)).count i
    rw [List.count_append, List.count_append, List.count_append, List.count_append]
    have := ab_occ h i
    omega
  · have e1 : W w (.f x (l ++ b :: r)) = w x + (WL w l + (W w b + WL w r)) := by
      show w x + WL w (l ++ b :: r) = _
      rw [WL_app]
      rfl
    have e2 : w x + WL w (l ++ a :: r) = w x + (WL w l + (W w a + WL w r)) := by
      rw [WL_app]
      rfl
    have := ab_le h
    by_cases z : W w b = W w a
    · exact .inr ⟨by omega, .inr ⟨rfl, abL_at h r l⟩⟩
    · exact .inl (by omega)
/-! parts -/
theorem WL_mem (h : ∀ x, 1 ≤ w x) {t : T} {ts : List T} (m : t ∈ ts) : W w t ≤ WL w ts := by
  induction ts with
  | nil => cases m
  | cons u us ih =>
    show W w t ≤ W w u + WL w us
    have := W_pos h u
    have := WL_pos h us
    rcases List.mem_cons.mp m with e | e
    · rw [e]
      omega
    · have := ih e
      omega
theorem occ_mem {t : T} {ts : List T} (m : t ∈ ts) : Occ t.vars (T.varsL ts) := fun i => by
  induction ts with
  | nil => cases m
  | cons u us ih =>
    show t.vars.count i ≤ (u.vars ++ T.varsL us).count i
    rw [List.count_append]
    rcases List.mem_cons.mp m with e | e
    · rw [e]
      omega
    · have := ih e
      omega
mutual
theorem part_le (h : ∀ x, 1 ≤ w x) : ∀ (t u : T), u ∈ t.parts → Occ u.vars t.vars ∧ W w u ≤ W w t
  | .v i, u, m => by
    cases List.mem_singleton.mp m
    exact ⟨Occ.refl _, Int.le_refl _⟩
  | .f x ts, u, m => by
    rcases List.mem_cons.mp m with e | e
    · rw [e]
      exact ⟨Occ.refl _, Int.le_refl _⟩
    · have k := partL_le h ts u e
      refine ⟨k.1, ?_⟩
      show W w u ≤ w x + WL w ts
      have := h x
      have := k.2
      omega
theorem partL_le (h : ∀ x, 1 ≤ w x) : ∀ (ts : List T) (u : T), u ∈ T.partsL ts → Occ u.vars (T.varsL ts) ∧ W w u ≤ WL w ts
  | [], u, m => by cases m
  | t :: ts, u, m => by
    have h0 := W_pos h t
    have h1 := WL_pos h ts
    rcases List.mem_append.mp m with e | e
    · have k := part_le h t u e
      refine ⟨fun i => ?_, ?_⟩
      · show u.vars.count i ≤ (t.vars ++ T.varsL ts).count i
        rw [List.count_append]
        have := k.1 i
        omega
      · show W w u ≤ W w t + WL w ts
        have := k.2
        omega
    · have k := partL_le h ts u e
      refine ⟨fun i => ?_, ?_⟩
      · show u.vars.count i ≤ (t.vars ++ T.varsL ts).count i
        rw [List.count_append]
        have := k.1 i
        omega
      · show W w u ≤ W w t + WL w ts
        have := k.2
        omega
end
/-- a term is above all within it -/
theorem ab_part (h : ∀ x, 1 ≤ w x) {x : Str} {ts : List T} {u : T} (m : u ∈ T.partsL ts) : ab w p (.f x ts) u := by
  have k := partL_le h ts u m
  refine ⟨k.1, .inl ?_⟩
  have := h x
  have := k.2
  omega
end
end Kb
end Ad

/-! One substitution behind another. -/
namespace Ad
open PySem PySem.Spec PySem.Calls PyProof.Rows L2 GxR
namespace Sb
def beh (one other : Sb) : Sb := one.foldl (fun tb e => put tb e.1 (T.fill (asg other) e.2)) other
theorem beh_take {one other : Sb} {i : Nat} {e : Int × T} (h : one[i]? = some e) : beh (one.take (i + 1)) other = put (beh (one.take i) other) e.1 (T.fill (asg other) e.2) := by
  unfold beh
  rw [List.take_add_one, h, List.foldl_append]
  rfl
theorem fold_look (other : Sb) (s : Int → T) : ∀ (one tb : Sb), (one.map (·.1)).Nodup → ∀ i, look (one.foldl (fun tb e => put tb e.1 (T.fill s e.2)) tb) i = match look one i with
    | some t => some (T.fill s t)
    | none => look tb i
  | [], tb, _, i => rfl
  | e :: one, tb, nd, i => by
    obtain ⟨n1, n2⟩ := List.nodup_cons.mp nd
    rw [List.foldl_cons, fold_look other s one _ n2]
    have e1 : look (e :: one) i = if e.1 = i then some e.2 else look one i := rfl
    rw [e1, look_put]
    by_cases h : e.1 = i
    · rw [if_pos h, if_pos h]
      have out : look one i = none := by
        cases z : look one i with
        | none => rfl
        | some t =>
          have := (look_key one i).1 (by rw [z]; rfl)
          rw [← h] at this
          exact absurd this n1
      rw [out]
    · rw [if_neg h, if_neg h]
theorem beh_look {one other : Sb} (nd : (one.map (·.1)).Nodup) (i : Int) : look (beh one other) i = match look one i with
    | some t => some (T.fill (asg other) t)
    | none => look other i := fold_look other _ one other nd i
/-- putting in by it is putting in by one, then by the other -/
theorem beh_asg {one other : Sb} (nd : (one.map (·.1)).Nodup) (i : Int) : asg (beh one other) i = T.fill (asg other) (asg one i) := by
  show (look (beh one other) i).getD (.v i) = T.fill (asg other) ((look one i).getD (.v i))
  rw [beh_look nd]
  cases look one i <;> rfl
theorem nodup_fold (s : Int → T) : ∀ (one tb : Sb), (tb.map (·.1)).Nodup → ((one.foldl (fun tb e => put tb e.1 (T.fill s e.2)) tb).map (·.1)).Nodup
  | [], tb, h => h
  | e :: one, tb, h => nodup_fold s one _ (nodup_put h _ _)
theorem len_fold (s : Int → T) : ∀ (one tb : Sb), (one.foldl (fun tb e => put tb e.1 (T.fill s e.2)) tb).length ≤ tb.length + one.length
  | [], tb => Nat.le_refl _
  | e :: one, tb => by
    have h1 := len_fold s one (put tb e.1 (T.fill s e.2))
    have h2 := len_put tb e.1 (T.fill s e.2)
    rw [List.foldl_cons, List.length_cons]
    omega
end Sb
section
variable {P : Program} {w : World} {K : PySem.W.Frag} {mg : Str → Option Value} {base : Heap}
theorem dict_of {H : Hp} {a : Addr} {bs : List Addr} {su : Sb} (tup : Dt.Tup0 H a (bs.map V.ref)) (prs : F2 (SP K H) su bs) (nd : (su.map (·.1)).Nodup) : ∃ kvs, Paired (fun p kv => SqT K H p [kV kv.1, kv.2]) bs kvs ∧ TV K H su kvs ∧ mergeK [] kvs = kvs := by
  obtain ⟨kvs, pd, tv⟩ := sp_pairs prs
  refine ⟨kvs, pd, tv, ?_⟩
  have z := merge_all kvs [] (by
    rw [List.nil_append, tv.keys]
    exact List.Pairwise.map Sum.inl (fun a b h e => h (Sum.inl.inj e)) nd)
  rw [z, List.nil_append]
def spBehind (K : PySem.W.Frag) (Pt : Addr) (n : Nat) : Sp := fun vs H Q _ => ∃ (one other : Sb) (x y : V), vs = [x, y] ∧ Su K H one x ∧ Su K H other y ∧ (one.map (·.1)).Nodup ∧ (other.map (·.1)).Nodup ∧ (∀ e ∈ one, e.2.dep < n ∧ e.2.size ≤ 10000) ∧ one.length + other.length < 64 ∧
  Good (Sb.beh one other) ∧ TabG H Pt ∧ ∀ su z H', (Sb.beh one other).Norm su → Su K H' su z → (∀ b o, b ≠ Pt → H b = some o → H' b = some o) → TabG H' Pt → Q z H'
end
end Ad

namespace Ad
open PySem PySem.Spec PySem.Calls PyProof.Rows L2 GxR
def spLPairs (K : PySem.W.Frag) : Sp := fun vs H Q _ => ∃ (d : Addr) (tb : Sb) (kvs : List (L2.Key × V)), vs = [.ref d] ∧ H d = some (.dK kvs) ∧ TV K H tb kvs ∧ (tb.map (·.1)).Nodup ∧ tb.length < 64 ∧ Good tb ∧
  ∀ su x H', tb.Norm su → Su K H' su x → Same H H' → Q x H'
end Ad

/-! The law's own: behind; renamed; drawn pairs. -/
namespace Ad
open PySem PySem.Spec PySem.Calls PyProof.Rows L2 GxR
theorem dk_tk {H : Hp} {d : Addr} {kvs : List (L2.Key × V)} (h : H d = some (.dK kvs)) (o : HO) : TK H (upd H d o) := by
  intro b xs
  refine ⟨fun e => ?_, fun u e => ?_⟩
  · rw [upd_ne (fun z => by rw [z, h] at e; cases e)]
    exact e
  · rw [upd_ne (fun z => by rw [z, h] at e; cases e)]
    exact e
section
variable {P : Program} {w : World} {K : PySem.W.Frag} {mg : Str → Option Value} {base : Heap}
def spLBeh (K : PySem.W.Frag) (n : Nat) : Sp := fun vs H Q _ => ∃ (one other : Sb) (x y : V), vs = [x, y] ∧ Su K H one x ∧ Su K H other y ∧ (one.map (·.1)).Nodup ∧ (other.map (·.1)).Nodup ∧ (∀ e ∈ one, e.2.dep < n ∧ e.2.size ≤ 10000) ∧ one.length + other.length < 64 ∧
  Good (Sb.beh one other) ∧ ∀ su z H', (Sb.beh one other).Norm su → Su K H' su z → Same H H' → Q z H'
end
/-! ### renamed -/
namespace Sb
/-- the variables of a row, in the order in which they come, called first, first + 1, .. -/
def ren (first : Int) (tb : Sb) : List Int → Sb
  | [] => tb
  | i :: l => ren first (if (look tb i).isSome = true then tb else put tb i (.v (first + (tb.length : Int)))) l
theorem ren_app (first : Int) : ∀ (l m : List Int) (tb : Sb), ren first tb (l ++ m) = ren first (ren first tb l) m
  | [], m, tb => rfl
  | i :: l, m, tb => ren_app first l m _
theorem ren_len (first : Int) : ∀ (l : List Int) (tb : Sb), (ren first tb l).length ≤ tb.length + l.length
  | [], tb => Nat.le_refl _
  | i :: l, tb => by
    have h1 := ren_len first l (if (look tb i).isSome = true then tb else put tb i (.v (first + (tb.length : Int))))
    have h2 := len_put tb i (.v (first + (tb.length : Int)))
    show (ren first _ l).length ≤ tb.length + (l.length + 1)
    split at h1
    · rename_i z
      rw [if_pos z]
      omega
    · rename_i z
      rw [if_neg z]
      omega
end Sb
namespace T
def varOf : T → List Int
  | .v i => [i]
  | .f _ _ => []
mutual
theorem parts_vars : ∀ t : T, t.parts.flatMap varOf = t.vars
  | .v i => rfl
  | .f x ts => by
    show (T.f x ts :: partsL ts).flatMap varOf = varsL ts
    rw [List.flatMap_cons, partsL_vars ts]
    rfl
theorem partsL_vars : ∀ ts : List T, (partsL ts).flatMap varOf = varsL ts
  | [] => rfl
  | t :: ts => by
    show (parts t ++ partsL ts).flatMap varOf = vars t ++ varsL ts
    rw [List.flatMap_append, parts_vars t, partsL_vars ts]
end
end T
end Ad

/-! Drawn orders. -/
namespace Ad
open PySem PySem.Spec PySem.Calls PyProof.Rows L2
/-- a name and its number of arguments -/
abbrev Pr := Str × Nat
def PrV (K : PySem.W.Frag) (H : Hp) (r : Pr) (v : V) : Prop := ∃ b, v = .ref b ∧ SqT K H b [.str r.1, .int (r.2 : Int)]
theorem PrV.mono {K : PySem.W.Frag} {H H' : Hp} (k : TK H H') (r : Pr) (v : V) (h : PrV K H r v) : PrV K H' r v := by
  obtain ⟨b, e, s⟩ := h
  exact ⟨b, e, k.sq s⟩
/-- a list of such pairs -/
def LsP (K : PySem.W.Frag) (H : Hp) (R : List Pr) (a : Addr) : Prop := ∃ vs, H a = some (.lst vs) ∧ F2 (PrV K H) R vs
theorem LsP.same {K : PySem.W.Frag} {H H' : Hp} (s : Same H H') {R : List Pr} {a : Addr} (h : LsP K H R a) : LsP K H' R a := by
  obtain ⟨vs, e, f⟩ := h
  exact ⟨vs, s _ _ e, f.mono (PrV.mono (TK.same s))⟩
section
variable {K : PySem.W.Frag} {σ : L2.St} {H : Hp} {Q : VK}
abbrev tPr (x : Str) (n : Int) : TE := tTup (tCons (tC (.str x)) (tCons (tC (.int n)) tNil))
theorem lit_pr (K : PySem.W.Frag) {x : Str} {n : Nat} (h : ∀ v G, Same H G → PrV K G (x, n) v → Q v G) : tPr x (n : Int) σ H Q :=
  ⟨(by show 2 ≤ sizeLine; decide), fun p np => h _ _ (same_new (fun b o e => e) np _) ⟨p, rfl, .inl (.inl upd_same)⟩⟩
theorem lit_ls1 (K : PySem.W.Frag) {x : Str} {n : Nat} (h : ∀ a G, Same H G → H a = none → LsP K G [(x, n)] a → Q (.ref a) G) : tLst (tCons (tPr x (n : Int)) tNil) σ H Q := by
  show tPr x (n : Int) σ H (fun v G => [v].length ≤ sizeLine ∧ ∀ p, G p = none → Q (.ref p) (upd G p (.lst [v])))
  refine lit_pr K fun v G s pv => ⟨(by show 1 ≤ sizeLine; decide), fun p np => h p _ (same_new s np _) ?_ ⟨_, upd_same, F2.one (PrV.mono (TK.new np _) _ _ pv)⟩⟩
  cases z : H p with
  | none => rfl
  | some o =>
    rw [s _ _ z] at np
    cases np
theorem lit_ls2 (K : PySem.W.Frag) {x y : Str} {n m : Nat} (h : ∀ a G, Same H G → H a = none → LsP K G [(x, n), (y, m)] a → Q (.ref a) G) : tLst (tCons (tPr x (n : Int)) (tCons (tPr y (m : Int)) tNil)) σ H Q := by
  show tPr x (n : Int) σ H (fun v G => tPr y (m : Int) σ G (fun v2 G2 => [v, v2].length ≤ sizeLine ∧ ∀ p, G2 p = none → Q (.ref p) (upd G2 p (.lst [v, v2]))))
  refine lit_pr K fun v G s pv => lit_pr K fun v2 G2 s2 pv2 => ⟨(by show 2 ≤ sizeLine; decide), fun p np => h p _ (same_new (show Same H G2 from fun b o e => s2 b o (s b o e)) np _) ?_ ⟨_, upd_same, ⟨_, _, rfl, PrV.mono ((TK.same s2).trans (TK.new np _)) _ _ pv, F2.one (PrV.mono (TK.new np _) _ _ pv2)⟩⟩⟩
  cases z : H p with
  | none => rfl
  | some o =>
    rw [s2 _ _ (s _ _ z)] at np
    cases np
theorem lit_ls0 (K : PySem.W.Frag) (h : ∀ a G, Same H G → H a = none → LsP K G [] a → Q (.ref a) G) : tLst tNil σ H Q :=
  ⟨Nat.zero_le _, fun p np => h p _ (same_new (fun b o e => e) np _) np ⟨_, upd_same, rfl⟩⟩
theorem cat_prs {R S : List Pr} {a b : Addr} (ha : LsP K H R a) (hb : LsP K H S b) (few : R.length + S.length ≤ 1000) (h : ∀ c G, Same H G → H c = none → LsP K G (R ++ S) c → Q (.ref c) G) : rCat (.ref a) (.ref b) H Q := by
  obtain ⟨xs, e1, f1⟩ := ha
  obtain ⟨ys, e2, f2⟩ := hb
  have l1 := f1.len
  have l2 := f2.len
  refine ⟨a, b, xs, ys, rfl, rfl, e1, e2, by rw [sizeLine_eq]; omega, fun p np => h p _ (same_new (fun b o e => e) np _) np ⟨_, upd_same, ?_⟩⟩
  exact (f1.app f2).mono (PrV.mono (TK.new np _))
end
section
variable {K : PySem.W.Frag} {σ : L2.St} {H : Hp}
theorem lit_truths (K : PySem.W.Frag) {Q : List V → Hp → Prop} (h : ∀ a G xs, Same H G → H a = none → G a = some (.lst xs) → xs.length = 3 → (∀ v ∈ xs, ∃ b S, v = .ref b ∧ H b = none ∧ LsP K G S b ∧ S ∈ [[(("q" : Str), 0)], [("r", 2)], [("q", 0), ("r", 2)]]) → Q [.ref a] G) :
    tCons (tLst (tCons (tLst (tCons (tPr "q" 0) tNil)) (tCons (tLst (tCons (tPr "r" 2) tNil)) (tCons (tLst (tCons (tPr "q" 0) (tCons (tPr "r" 2) tNil))) tNil)))) tNil σ H Q := by
  dsimp only [tCons]
  show tLst (tCons (tPr "q" ((0 : Nat) : Int)) tNil) σ H (fun v1 G1 => tLst (tCons (tPr "r" ((2 : Nat) : Int)) tNil) σ G1 (fun v2 G2 => tLst (tCons (tPr "q" ((0 : Nat) : Int)) (tCons (tPr "r" ((2 : Nat) : Int)) tNil)) σ G2 (fun v3 G3 => [v1, v2, v3].length ≤ sizeLine ∧ ∀ p, G3 p = none → Q [.ref p] (upd G3 p (.lst [v1, v2, v3])))))
  refine lit_ls1 K fun a1 G1 s1 n1 L1 => lit_ls1 K fun a2 G2 s2 n2 L2 => lit_ls2 K fun a3 G3 s3 n3 L3 => ⟨(by show 3 ≤ sizeLine; decide), fun p np => ?_⟩
  have sm : Same H G3 := fun b o e => s3 b o (s2 b o (s1 b o e))
  have back : ∀ {q : Addr} {G : Hp}, Same H G → G q = none → H q = none := fun {q G} s n => by
    cases z : H q with
    | none => rfl
    | some o =>
      rw [s _ _ z] at n
      cases n
  have s4 : Same G3 (upd G3 p (.lst [.ref a1, .ref a2, .ref a3])) := same_new (fun b o e => e) np _
  refine h p _ _ (fun b o e => s4 b o (sm b o e)) (back sm np) upd_same rfl ?_
  intro v hv
  rcases List.mem_cons.mp hv with e | hv
  · exact ⟨a1, _, e, n1, ((L1.same s2).same s3).same s4, by simp⟩
  · rcases List.mem_cons.mp hv with e | hv
    · exact ⟨a2, _, e, back s1 n2, (L2.same s3).same s4, by simp⟩
    · exact ⟨a3, _, List.mem_singleton.mp hv, back (show Same H G2 from fun b o e => s2 b o (s1 b o e)) n3, L3.same s4, by simp⟩
end
/-! ### frames of a pen -/
theorem but_on {p d : Addr} {H G : Hp} (b : Pn.But p H G) (n : H d = none) (o : HO) : Pn.But p H (upd G d o) := fun q u nq e => by
  rw [upd_ne (fun z => by rw [z, n] at e; cases e)]
  exact b _ _ nq e
theorem pen_on {H G : Hp} {p l d : Addr} {ns : List Int} {c0 c : Nat} (P0 : Pn.Pen H p l ns c0) (n : H d = none) (P : Pn.Pen G p l ns c) (o : HO) : Pn.Pen (upd G d o) p l ns c := by
  obtain ⟨⟨a0, d0, f0, e0, _⟩, h0⟩ := P0
  obtain ⟨⟨a, d1, f, e, r⟩, h⟩ := P
  have n1 : p ≠ d := fun z => by rw [z, n] at e0; cases e0
  have n2 : l ≠ d := fun z => by rw [z, n] at h0; cases h0
  exact ⟨⟨a, d1, f, by rw [upd_ne n1]; exact e, r⟩, by rw [upd_ne n2]; exact h⟩
theorem fresh_back {H G : Hp} {p l q : Addr} {ns : List Int} {c : Nat} (b : Pn.But p H G) (P : Pn.Pen G p l ns c) (n : G q = none) : H q = none := by
  cases z : H q with
  | none => rfl
  | some o =>
    by_cases e : q = p
    · obtain ⟨⟨_, _, _, e0, _⟩, _⟩ := P
      rw [e, e0] at n
      cases n
    · rw [b _ _ e z] at n
      cases n
theorem pen_kept {H : Hp} {p l d : Addr} {ns : List Int} {c : Nat} (P : Pn.Pen H p l ns c) (n : H d = none) : d ≠ p := fun z => by
  obtain ⟨⟨_, _, _, e0, _⟩, _⟩ := P
  rw [z, e0] at n
  cases n
theorem LsP.but {K : PySem.W.Frag} {H H' : Hp} {p l : Addr} {ns : List Int} {c : Nat} (P : Pn.Pen H p l ns c) (b : Pn.But p H H') {R : List Pr} {a : Addr} (na : a ≠ p) (h : LsP K H R a) : LsP K H' R a := by
  obtain ⟨vs, e, f⟩ := h
  exact ⟨vs, b _ _ na e, f.mono (PrV.mono (pen_tk P b))⟩
/-! ### the order -/
def thingsB : List (List Pr) := [[("a", 0), ("b", 0), ("c", 0), ("f", 1), ("g", 2)], [("a", 0), ("b", 0), ("f", 1), ("g", 2)], [("a", 0), ("b", 0), ("c", 0), ("f", 1)], [("a", 0), ("b", 0), ("f", 1)]]
def truthsB : List (List Pr) := [[("p", 1), ("q", 0)], [("p", 1), ("r", 2)], [("p", 1), ("q", 0), ("r", 2)]]
/-- the same names in some order, with weights of one and two -/
structure Mixed (B : List Pr) (R : List Row) : Prop where
  perm : (R.map fun r => (r.1, r.2.1)).Perm B
  weights : ∀ r ∈ R, r.2.2 = 1 ∨ r.2.2 = 2
def KdV (K : PySem.W.Frag) (H : Hp) (B : List Pr) (v : V) : Prop := ∃ b R vs, v = .ref b ∧ Mixed B R ∧ SqT K H b vs ∧ F2 (RowV K H) R vs
theorem KdV.mono {K : PySem.W.Frag} {H H' : Hp} (k : TK H H') (B : List Pr) (v : V) (h : KdV K H B v) : KdV K H' B v := by
  obtain ⟨b, R, vs, e, m, s, f⟩ := h
  exact ⟨b, R, vs, e, m, k.sq s, f.mono (RowV.mono k)⟩
def OrdAt (K : PySem.W.Frag) (H : Hp) (a : Addr) (R S : List Row) : Prop := ∃ b1 b2 vs1 vs2, SqT K H a [.ref b1, .ref b2] ∧ SqT K H b1 vs1 ∧ SqT K H b2 vs2 ∧ F2 (RowV K H) R vs1 ∧ F2 (RowV K H) S vs2
theorem OrdAt.rows {K : PySem.W.Frag} {H : Hp} {a : Addr} {R S : List Row} (h : OrdAt K H a R S) : RowsAt K H a R := by
  obtain ⟨b1, b2, vs1, vs2, h0, h1, h2, f1, f2⟩ := h
  exact ⟨b1, _, vs1, h0, h1, f1⟩
theorem OrdAt.mono {K : PySem.W.Frag} {H H' : Hp} (k : TK H H') {a : Addr} {R S : List Row} (h : OrdAt K H a R S) : OrdAt K H' a R S := by
  obtain ⟨b1, b2, vs1, vs2, h0, h1, h2, f1, f2⟩ := h
  exact ⟨b1, b2, vs1, vs2, k.sq h0, k.sq h1, k.sq h2, f1.mono (RowV.mono k), f2.mono (RowV.mono k)⟩
theorem mixed_ok {B : List Pr} {R : List Row} (hB : B ∈ thingsB) (m : Mixed B R) : ROk R := by
  have h : (thingsB.all fun B => B.all (fun r => nameOk r.1 && decide (r.2 ≤ 3)) && B.contains ("a", 0) && decide (B.length ≤ 5)) = true := by decide +kernel
  have h1 := List.all_eq_true.mp h B hB
  rw [Bool.and_eq_true, Bool.and_eq_true] at h1
  obtain ⟨⟨h2, h3⟩, h4⟩ := h1
  refine ⟨fun r hr => ?_, ?_, ?_⟩
  · have z : (r.1, r.2.1) ∈ B := m.perm.mem_iff.mp (List.mem_map.mpr ⟨r, hr, rfl⟩)
    have z2 := List.all_eq_true.mp h2 _ z
    rw [Bool.and_eq_true] at z2
    exact ⟨z2.1, of_decide_eq_true z2.2⟩
  · have z : (("a", 0) : Pr) ∈ B := List.contains_iff_mem.mp h3
    obtain ⟨r, hr, e⟩ := List.mem_map.mp (m.perm.mem_iff.mpr z)
    obtain ⟨j, hj⟩ := List.mem_iff_getElem?.mp hr
    exact ⟨j, r, hj, (Prod.mk.inj e).2⟩
  · have e := m.perm.length_eq
    rw [List.length_map] at e
    have := of_decide_eq_true h4
    omega
theorem F2.erase {α β : Type} {R : α → β → Prop} : ∀ {xs : List α} {ys : List β} (k : Nat), F2 R xs ys → F2 R (xs.eraseIdx k) (ys.eraseIdx k)
  | [], ys, k, h => by
    cases (show ys = [] from h)
    exact rfl
  | x :: xs, ys, 0, h => by
    obtain ⟨y, zs, rfl, h1, h2⟩ := h
    exact h2
  | x :: xs, ys, k + 1, h => by
    obtain ⟨y, zs, rfl, h1, h2⟩ := h
    exact ⟨y, _, rfl, h1, F2.erase k h2⟩
theorem erase_perm {α : Type} : ∀ {xs : List α} {k : Nat} {x : α}, xs[k]? = some x → xs.Perm (x :: xs.eraseIdx k)
  | [], k, x, h => by cases h
  | y :: ys, 0, x, h => by
    cases h
    exact List.Perm.refl _
  | y :: ys, k + 1, x, h => ((erase_perm (xs := ys) (k := k) h).cons y).trans (List.Perm.swap x y _)
theorem sx_nat {j n : Nat} (h : j < n) : seqIndex? (j : Int) n = some j := by
  unfold seqIndex?
  have h1 : ¬ ((j : Int) < 0) := by omega
  have h2 : (decide (0 ≤ (j : Int)) && decide ((j : Int) < (n : Int))) = true := by
    rw [decide_eq_true (by omega), decide_eq_true (by omega)]
    rfl
  simp only [if_neg h1, h2, if_true, Int.toNat_natCast]
/-- what stays but for a pen and two lists -/
def Bt (p u v : Addr) (G G' : Hp) : Prop := ∀ b o, b ≠ p → b ≠ u → b ≠ v → G b = some o → G' b = some o
theorem Bt.refl {p u v : Addr} (G : Hp) : Bt p u v G G := fun _ _ _ _ _ e => e
theorem Bt.but {p u v : Addr} {G G1 G2 : Hp} (a : Bt p u v G G1) (b : Pn.But p G1 G2) : Bt p u v G G2 := fun c o n1 n2 n3 e => b _ _ n1 (a _ _ n1 n2 n3 e)
theorem Bt.u {p u v : Addr} {G G1 : Hp} (a : Bt p u v G G1) (o : HO) : Bt p u v G (upd G1 u o) := fun c o n1 n2 n3 e => by
  rw [upd_ne n2]
  exact a _ _ n1 n2 n3 e
theorem Bt.v {p u v : Addr} {G G1 : Hp} (a : Bt p u v G G1) (o : HO) : Bt p u v G (upd G1 v o) := fun c o n1 n2 n3 e => by
  rw [upd_ne n3]
  exact a _ _ n1 n2 n3 e
theorem Bt.tk {p u v l : Addr} {ns : List Int} {c : Nat} {G G1 : Hp} {us vs : List V} (a : Bt p u v G G1) (P : Pn.Pen G p l ns c) (hu : G u = some (.lst us)) (hv : G v = some (.lst vs)) : TK G G1 := by
  obtain ⟨⟨_, _, _, e0, _⟩, _⟩ := P
  have n : ∀ b o, (∀ kvs, o ≠ HO.dK kvs) → (∀ xs, o ≠ HO.lst xs) → G b = some o → b ≠ p ∧ b ≠ u ∧ b ≠ v := fun b o h1 h2 e => by
    refine ⟨fun z => ?_, fun z => ?_, fun z => ?_⟩
    · rw [z, e0] at e
      cases e
      exact h1 _ rfl
    · rw [z, hu] at e
      cases e
      exact h2 _ rfl
    · rw [z, hv] at e
      cases e
      exact h2 _ rfl
  intro b xs
  refine ⟨fun e => ?_, fun o e => ?_⟩
  · obtain ⟨n1, n2, n3⟩ := n b _ (by intro _ z; cases z) (by intro _ z; cases z) e
    exact a _ _ n1 n2 n3 e
  · obtain ⟨n1, n2, n3⟩ := n b _ (by intro _ z; cases z) (by intro _ z; cases z) e
    exact a _ _ n1 n2 n3 e
def spOrder (K : PySem.W.Frag) : Sp := fun vs H Q _ => ∃ (p l : Addr) (ns : List Int) (c : Nat), vs = [.ref p] ∧ Pn.Pen H p l ns c ∧ ns.length ≤ 1000 ∧ c ≤ 900000000 ∧
  ∀ a R S B C H' c', OrdAt K H' a R S → B ∈ thingsB → C ∈ truthsB → Mixed B R → Mixed C S → c' ≤ c + 40 → Pn.Pen H' p l ns c' → Pn.But p H H' → Q (.ref a) H'
end Ad

/-! enumerate(t) of a tuple; walks over a list or a tuple. -/
namespace Et
open PySem PySem.Spec PySem.Calls PyProof.Rows L2 RZ
theorem draws {prog : Program} {w : World} {A : Around} (hh : A.handled = none) (it l : Addr) (hl : l ≠ it) (items : Array Value) :
    Draws prog w A it [it, l] items.size (fun i v => items[i]? = some v) (fun i h => h.IsTupleIter it l i ∧ h.IsTuple l items) where
  live := fun _ _ ⟨⟨o, ho, _⟩, _⟩ => ⟨o, ho⟩
  frame := fun _ _ _ ⟨st, tp⟩ hk => ⟨st.at fun o e => hk it (by simp) o e, by
    obtain ⟨o, e, r⟩ := tp
    exact ⟨o, hk l (by simp) o e, r⟩⟩
  item := fun i s Q E hi ⟨st, tp⟩ hQ => by
    refine nextOf_tuple_item st tp (x := items[i]) (by simp [hi]) fun h' hit' hs' => ?_
    refine hQ _ h' s.toks (by simp [hi]) ⟨hit', ?_⟩ hs'
    obtain ⟨o, e, r⟩ := tp
    exact ⟨o, hs'.extBut _ _ hl e, r⟩
  done := fun s Q E ⟨st, tp⟩ hE => nextOf_tuple_end hh st tp (by simp) hE
theorem meets_newT (l : Addr) (items : Array Value) :
    Meets (Builtin.«enumerate.__new__» ⟨[.type "enumerate", .ref l], []⟩) (fun _ R s => s.heap.IsTuple l items ∧
      R (.ok (.ret (.ref (s.heap.push { cls := .type "tuple_iterator", data := .fields #[.ref l, .int 0 0] }).objs.size)))
        { s with heap := (s.heap.push { cls := .type "tuple_iterator", data := .fields #[.ref l, .int 0 0] }).push { cls := .type "enumerate", data := .fields #[.none, .bool false, .ref s.heap.objs.size, rawInt 0, .none, .none] } }) :=
  .of_wp fun prog w A R s h => by
    obtain ⟨hp, g, d, tk, os⟩ := s; obtain ⟨hL, h⟩ := h
    have hsub := sub_enumerate
    have hL : Heap.IsTuple (Shared.heap ⟨hp, g, d, tk, os⟩) l items := hL
    wp_walk
    refine wpAny_stack_any fun st => wpAny_pure ?_
    split
    · rename_i c _ _ _ _ _
      cases (c == Value.type "enumerate")
      · wp_walk using wpAny_pyIter_tuple hL
        exact ⟨_, rfl, h⟩
      · wp_walk using wpAny_pyIter_tuple hL
        exact ⟨_, rfl, h⟩
    · wp_walk using wpAny_pyIter_tuple hL
      exact ⟨_, rfl, h⟩
section
variable {prog : Program} {w : World} {A : Around} {E : Value → Shared → Prop} {s : Shared}
theorem call_enumT {l : Addr} {items : Array Value} {Q : Value → Shared → Prop} (hL : s.heap.IsTuple l items)
    (h : ∀ h', IsEnum h' (s.heap.objs.size + 1) s.heap.objs.size 0 .none → h'.IsTupleIter s.heap.objs.size l 0 → h'.objs.size = s.heap.objs.size + 2 →
      (∀ b o, s.heap.get? b = some o → h'.get? b = some o) → Q (.ref (s.heap.objs.size + 1)) { s with heap := h' }) :
    wpAny (model prog w) A (call (.type "enumerate") [.ref l]) Q E s := by
  refine callType_new F.called_enumerate (by decide) (F.typeCall_enumerate_1 _) (F.newCall_enumerate_1 _) (fun obj => F.args_object_init_2 obj _) F.entry_enumerate_new
    (meets_newT l items) ⟨hL, ?_⟩
  have hz : (s.heap.push { cls := .type "tuple_iterator", data := .fields #[.ref l, .int 0 0] }).objs.size = s.heap.objs.size + 1 := Heap.size_push ..
  show _ ∧ _
  rw [hz]
  have he : IsEnum ((s.heap.push { cls := .type "tuple_iterator", data := .fields #[.ref l, .int 0 0] }).push
      { cls := .type "enumerate", data := .fields #[.none, .bool false, .ref s.heap.objs.size, rawInt 0, .none, .none] }) (s.heap.objs.size + 1) s.heap.objs.size 0 .none := by
    have := Heap.get?_push_size (s.heap.push { cls := .type "tuple_iterator", data := .fields #[.ref l, .int 0 0] })
      (o := { cls := .type "enumerate", data := .fields #[.none, .bool false, .ref s.heap.objs.size, rawInt 0, .none, .none] }) rfl
    rw [hz] at this; exact this
  refine ⟨⟨_, he, rfl⟩, h _ he ⟨_, Heap.get?_push_of_some _ (Heap.get?_push_size _ rfl), rfl, rfl⟩ (by rw [Heap.size_push, hz]) fun b o x => Heap.get?_push_of_some _ (Heap.get?_push_of_some _ x)⟩
end
/-- the tuple at a, each item in a new pair -/
def IteT (K : PySem.W.Frag) (a : Addr) : It :=
  ⟨fun i H => ∃ (xs : List V) (x : V), SqT K H a xs ∧ xs[i]? = some x, fun i H v H' => ∃ T x, v = .ref T ∧ H T = none ∧ H' = upd H T (.tup [.int (i : Nat), x]) ∧ ∀ xs, SqT K H a xs → xs[i]? = some x, fun i H => ∃ xs : List V, SqT K H a xs ∧ xs.length ≤ i⟩
theorem turn_enumT {P : Program} {w : World} {K : PySem.W.Frag} {elts : List Expr} {kk : Nat} {tpos : Pos} (a e it : Addr) :
    Turn P w K (.Tuple elts kk tpos) (IteT K a) [e, it] e (fun i h => (∃ old, IsEnum h e it ((i : Nat) : Int) old) ∧ h.IsTupleIter it a i ∧ e ≠ it ∧ a ≠ e ∧ a ≠ it) where
  mem := by simp
  obj := fun i h st b hb => by
    obtain ⟨⟨old, he⟩, ⟨o, ho, hc, hd⟩, _⟩ := st
    have e' : b = e ∨ b = it := by simpa using hb
    rcases e' with z | z
    · rw [z]; exact ⟨_, he, fun v q => nomatch q⟩
    · rw [z]; exact ⟨o, ho, fun v q => by rw [hd] at q; cases q⟩
  keep := fun i h h' st k => let ⟨⟨old, he⟩, hi, hne, r⟩ := st; ⟨⟨old, k e (by simp) _ he⟩, hi.at fun o q => k it (by simp) o q, hne, r⟩
  item := by
    intro X hP hw hK hc i pins s σ H E I hf st hg
    subst hP hw hK
    obtain ⟨⟨old, he⟩, hit, hne, ae, ai⟩ := st
    obtain ⟨xs, x, hq, hx⟩ := hg
    obtain ⟨its, rv, p, hz⟩ := I.tuple hq
    obtain ⟨u, hu, ru⟩ := rv.get hx
    have hel : e < s.heap.objs.size := Heap.lt_size he
    have hil : it < s.heap.objs.size := by obtain ⟨_, q, _⟩ := hit; exact Heap.lt_size q
    have lt : i < its.toArray.size := by
      have := (List.getElem?_eq_some_iff.mp hu).1
      simpa using this
    refine wpAny_pyNext_enum_itemD (draws (A := X.A.in1) (show X.A.in1.handled = none from I.ok.hd hc) it a ai its.toArray) he ⟨hit, p⟩ lt hne (by simp [hne, Ne.symm ae]) fun u' h' tk hu' ho hst' hT hsz hk => ?_
    have eu : u' = u := by
      have z : its[i]? = some u' := by simpa using hu'
      rw [hu] at z
      exact (Option.some.inj z).symm
    subst eu
    refine ⟨_, rfl, wpAny_letOwnedTupleGo_enum (s := { s with heap := h', toks := tk + 1 }) ho fun h'' he' sb => ?_⟩
    have hT2 : h''.get? s.heap.objs.size = some { cls := .type "tuple", data := .seq #[.int i tk, u'] } := (sb.2 _ (Nat.ne_of_gt hel)).trans hT
    have new : ObjOk X.prog X.w (upd H s.heap.objs.size (.tup [.int (i : Nat), x])) h'' s.heap.objs.size (.tup [.int (i : Nat), x]) :=
      ⟨by show 2 ≤ sizeLine; decide, [.int i tk, u'], .cons ⟨_, rfl⟩ (.cons ru .nil), ⟨_, hT2, rfl, _, rfl⟩⟩
    have I1 : Inv X pins σ (upd H s.heap.objs.size (.tup [.int (i : Nat), x])) { s with heap := h'', toks := tk + 1 } :=
      I.turnedNew (ch := [e, it]) (fun b ob hb q => (sb.2 b (fun z => hb (by simp [z]))).trans (hk b ob (fun z => hb (by simp [z])) (fun z => hb (by simp [z])) q)) hf (Nat.le_refl _) new
    refine ⟨.ref s.heap.objs.size, _, I1, rfl, ⟨_, x, rfl, I.hok.fresh (Nat.le_refl _), rfl, fun ys hy => by rw [I.tuple_inj hy hq]; exact hx⟩, ⟨⟨u', ?_⟩, hst'.1.at fun o q => (sb.2 it (Ne.symm hne)).trans q, hne, ae, ai⟩, fun b hb => ?_⟩
    · have e1 : ((i + 1 : Nat) : Int) = (i : Int) + 1 := by omega
      rw [e1]; exact he'
    · have hb' : b < s.heap.objs.size := by
        have e' : b = e ∨ b = it := by simpa using hb
        rcases e' with z | z
        · rw [z]; exact hel
        · rw [z]; exact hil
      rw [upd_ne (Nat.ne_of_lt hb')]
      exact (hf b hb).1
  done := by
    intro X hP hw hK hc i pins s σ H E I hf st hg
    subst hP hw hK
    obtain ⟨⟨old, he⟩, hit, hne, ae, ai⟩ := st
    obtain ⟨xs, hq, hx⟩ := hg
    obtain ⟨its, rv, p, hz⟩ := I.tuple hq
    obtain ⟨f0, f1, f2, f3, f4, f5⟩ := hf it (by simp)
    have hl := rv.length
    have key : ∀ (Q : Option Value → Shared → Prop), (∀ h', Heap.ExtBut it s.heap h' → Q none { s with heap := h' }) → wpAny (model X.prog X.w) X.A (pyNext (.ref e)) Q E s := by
      intro Q hQ
      have hT : s.TypeIs (.ref e) "enumerate" := ⟨_, he, rfl⟩
      unfold pyNext
      refine wpAny_bind (wpAny_attempt (wpAny_callSpecial?_slot (name := Str.ofString "__next__") hT F.slot_enumerate_next
        (wpAny_call_entry F.slot_enumerate_next hT F.entry_enumerate_next ?_ (F.args_enumerate_next_1 _))))
      show wpAny _ _ (field (.ref e) 2 >>= _) _ _ _
      refine wpAny_bind (wpAny_field he rfl (x := .ref it) rfl ?_)
      refine wpAny_bind (nextOf_tuple_end (show X.A.in1.handled = none from I.ok.hd hc) hit p (by simp; omega) fun h' x he' hx' => ?_)
      obtain ⟨o, ho, hcx⟩ := hx'
      refine wpAny_bind (wpAny_isInstance (T := "StopIteration") (b := true) ⟨o, ho, hcx⟩ isSubtype_stop ?_)
      exact wpAny_pure (hQ _ he')
    exact key _ fun h' eb => ⟨rfl, I.turned (t' := s.toks) (fun b o hb q => eb b o hb q) f0 f1 f3 f4 f5⟩
  self := fun A i s Q E st h => let ⟨⟨_, he⟩, _⟩ := st; wpAny_pyIter_enum he h
def iEnumT (K : PySem.W.Frag) (ta : TA) : TI := fun σ H R => ta σ H fun vs H1 => ∃ a xs, vs = [.ref a] ∧ SqT K H1 a xs ∧ R (IteT K a) H1
theorem pi_enumT {X : Cx} {e : Expr} {ta : TA} {p pos tpos : Pos} {elts : List Expr} {kk : Nat} (hg : Gl X "enumerate") (hm : X.mg "enumerate" = none) (ha : PA X [e] ta) (hs : starEach [e] X.env = [(false, eval e X.env)] := by rfl) :
    PI X (.Tuple elts kk tpos) (.Call (.Name "enumerate" p) [e] [] pos) (iEnumT X.K ta) := by
  refine ⟨fun pins s σ H R I h => ?_⟩
  refine Call_ (ld_blt I hg hm boot_enumerate (PyProof.Rows.callWith_type1 (thn (ha.run pos pins s σ H _ I h) fun us s1 ⟨vs, H1, I1, r1, q1⟩ => ?_) hs rfl))
  obtain ⟨a, xs, ex, hq, q⟩ := q1
  subst ex
  cases r1 with
  | cons r rr =>
    cases rr
    cases r
    obtain ⟨its, rv, p', hz⟩ := I1.tuple hq
    have la : a < s1.heap.objs.size := p'.lt
    refine call_enumT p' fun h' he hit hsz hk => wpAny_pyIter_enum he ?_
    have I2 : Inv X pins σ H1 { s1 with heap := h' } := I1.kept (t' := s1.toks) hk
    refine ⟨s1.heap.objs.size + 1, [s1.heap.objs.size + 1, s1.heap.objs.size], _, _, H1, rfl, I2, turn_enumT a (s1.heap.objs.size + 1) s1.heap.objs.size, ⟨⟨.none, he⟩, hit, Nat.succ_ne_self _, Nat.ne_of_lt (Nat.lt_succ_of_lt la), Nat.ne_of_lt la⟩, fun b hb => ?_, q⟩
    have e' : b = s1.heap.objs.size + 1 ∨ b = s1.heap.objs.size := by simpa using hb
    have hle : s1.heap.objs.size ≤ b := by
      rcases e' with z | z
      · rw [z]; exact Nat.le_add_right _ _
      · rw [z]; exact Nat.le_refl _
    exact I1.fpOk hle (I1.hok.fresh hle)
/-! ### a list or a tuple -/
def iAny (K : PySem.W.Frag) (tl : TE) : TI := fun σ H R => tl σ H fun x H1 => ∃ a, x = .ref a ∧ ((∃ xs, SqL K H1 a xs ∧ R (Itl K a) H1) ∨ ∃ xs, SqT K H1 a xs ∧ R (Itt K a) H1)
theorem pi_any {X : Cx} {tg l : Expr} {tl : TE} (hl : PE X l tl) : PI X tg l (iAny X.K tl) := by
  refine ⟨fun pins s σ H R I h => ?_⟩
  refine thn (hl.run pins s σ H _ I h) fun v s1 ⟨x, H1, I1, r1, q1⟩ => ?_
  obtain ⟨a, e, q1⟩ := q1
  subst e
  cases r1
  rcases q1 with ⟨xs, hq, q⟩ | ⟨xs, hq, q⟩
  · obtain ⟨its, rv, p, hz⟩ := I1.list hq
    refine wpAny_pyIter_list p.isList ?_
    refine ⟨s1.heap.objs.size, [s1.heap.objs.size], _, _, H1, rfl, I1.kept (t' := s1.toks) fun b o e => Heap.get?_push_of_some _ e, turn_list a _, ⟨_, Heap.get?_push_size _ rfl, rfl, rfl⟩, fun b hb => ?_, q⟩
    have e : b = s1.heap.objs.size := by simpa using hb
    subst e
    exact I1.fpOk (Nat.le_refl _) (I1.hok.fresh (Nat.le_refl _))
  · obtain ⟨its, rv, p, hz⟩ := I1.tuple hq
    refine wpAny_pyIter_tuple (show s1.heap.IsTuple a its.toArray from p) ?_
    refine ⟨s1.heap.objs.size, [s1.heap.objs.size], _, _, H1, rfl, I1.kept (t' := s1.toks) fun b o e => Heap.get?_push_of_some _ e, turn_tuple a _, ⟨_, Heap.get?_push_size _ rfl, rfl, rfl⟩, fun b hb => ?_, q⟩
    have e : b = s1.heap.objs.size := by simpa using hb
    subst e
    exact I1.fpOk (Nat.le_refl _) (I1.hok.fresh (Nat.le_refl _))
end Et

/-! Orders: rows handed in, the object, its dicts. -/
namespace Ad
open PySem PySem.Spec PySem.Calls PyProof.Rows L2
theorem lsq_ty {K : PySem.W.Frag} {H : Hp} {a : Addr} {xs : List V} (h : SqL K H a xs) : TyX K H (.ref a) (.type "list") := by
  rcases h with (h | ⟨o, h⟩) | h
  · exact .base (.lst h)
  · exact .base (.frz h)
  · obtain ⟨o, _, _, e, c, _⟩ := h
    exact .kList e c
theorem kitSS' {K : PySem.W.Frag} : PySem.W.kitOne K (.type "str") (.type "str") = some true := kit_ty (by decide +kernel)
theorem kitIB {K : PySem.W.Frag} : PySem.W.kitOne K (.type "int") (.type "bool") = some false := kit_ty (by decide +kernel)
theorem kitLL {K : PySem.W.Frag} : PySem.W.kitAny K (.type "list") [.type "list", .type "tuple"] = some true := kitAny_cons (b := true) (kit_ty (by decide +kernel)) (fun z => nomatch z) fun _ => rfl
theorem kitTL {K : PySem.W.Frag} : PySem.W.kitAny K (.type "tuple") [.type "list", .type "tuple"] = some true :=
  kitAny_cons (b := false) (kit_ty (by decide +kernel)) (fun _ => kitAny_cons (b := true) (kit_ty (by decide +kernel)) (fun z => nomatch z) fun _ => rfl) (fun z => nomatch z)
/-- a list or a tuple -/
def SqX (K : PySem.W.Frag) (H : Hp) (a : Addr) (xs : List V) : Prop := SqL K H a xs ∨ SqT K H a xs
theorem SqX.same {K : PySem.W.Frag} {H H' : Hp} (s : Same H H') {a : Addr} {xs : List V} (h : SqX K H a xs) : SqX K H' a xs := h.elim (fun q => .inl (s.seq q)) fun q => .inr ((TK.same s).sq q)
theorem sqx_ty {K : PySem.W.Frag} {H : Hp} {a : Addr} {xs : List V} (h : SqX K H a xs) : ∃ t, TyX K H (.ref a) t ∧ PySem.W.kitAny K t [.type "list", .type "tuple"] = some true := by
  rcases h with h | h
  · exact ⟨_, lsq_ty h, kitLL⟩
  · exact ⟨_, sq_ty h, kitTL⟩
/-- a triple, as a list or a tuple -/
def RowX (K : PySem.W.Frag) (H : Hp) (r : Row) (v : V) : Prop := ∃ b, v = .ref b ∧ SqX K H b [.str r.1, .int (r.2.1 : Int), .int r.2.2]
theorem RowX.same {K : PySem.W.Frag} {H H' : Hp} (s : Same H H') (r : Row) (v : V) (h : RowX K H r v) : RowX K H' r v := by
  obtain ⟨b, e, q⟩ := h
  exact ⟨b, e, q.same s⟩
theorem RowV.x {K : PySem.W.Frag} {H : Hp} (r : Row) (v : V) (h : RowV K H r v) : RowX K H r v := by
  obtain ⟨b, e, q⟩ := h
  exact ⟨b, e, .inr q⟩
/-- names in their places -/
def ranked (R S : List Row) : List Row := ("yes", 0, 1) :: (R ++ S)
def wK (rs : List Row) : List (L2.Key × V) := rs.map fun r => (.inr r.1, .int r.2.2)
def pK : Nat → List Row → List (L2.Key × V)
  | _, [] => []
  | n, r :: rs => (.inr r.1, .int (n : Int)) :: pK (n + 1) rs
theorem valV_wK {rs : List Row} (nd : (rs.map (·.1)).Nodup) {r : Row} (h : r ∈ rs) : valV (wK rs) (.inr r.1) = some (.int r.2.2) := by
  induction rs with
  | nil => cases h
  | cons q rs ih =>
    obtain ⟨n1, n2⟩ := List.nodup_cons.mp nd
    rcases List.mem_cons.mp h with e | e
    · rw [e]
      exact valV_pos rfl
    · have ne : ¬ ((.inr q.1 : L2.Key) = .inr r.1) := fun z => n1 (by show q.1 ∈ _; rw [Sum.inr.inj z]; exact List.mem_map.mpr ⟨r, e, rfl⟩)
      show valV ((.inr q.1, .int q.2.2) :: wK rs) _ = _
      rw [valV_neg ne]
      exact ih n2 e
theorem valV_pK {rs : List Row} (nd : (rs.map (·.1)).Nodup) : ∀ (n i : Nat) (r : Row), rs[i]? = some r → valV (pK n rs) (.inr r.1) = some (.int ((n + i : Nat) : Int)) := by
  induction rs with
  | nil => intro n i r h; cases h
  | cons q rs ih =>
    intro n i r h
    obtain ⟨n1, n2⟩ := List.nodup_cons.mp nd
    cases i with
    | zero =>
      cases h
      exact valV_pos rfl
    | succ i =>
      have ne : ¬ ((.inr q.1 : L2.Key) = .inr r.1) := fun z => n1 (by show q.1 ∈ _; rw [Sum.inr.inj z]; exact List.mem_map.mpr ⟨r, List.mem_of_getElem? h, rfl⟩)
      show valV ((.inr q.1, .int (n : Int)) :: pK (n + 1) rs) _ = _
      rw [valV_neg ne, ih n2 (n + 1) i r h]
      have : n + 1 + i = n + (i + 1) := by omega
      rw [this]
theorem wK_app (a b : List Row) : wK (a ++ b) = wK a ++ wK b := List.map_append
theorem pK_app : ∀ (a b : List Row) (n : Nat), pK n (a ++ b) = pK n a ++ pK (n + a.length) b
  | [], b, n => rfl
  | r :: a, b, n => by
    show _ :: pK (n + 1) (a ++ b) = _ :: (pK (n + 1) a ++ pK (n + (a.length + 1)) b)
    rw [pK_app a b (n + 1)]
    have : n + 1 + a.length = n + (a.length + 1) := by omega
    rw [this]
theorem wK_len (rs : List Row) : (wK rs).length = rs.length := List.length_map ..
theorem pK_len : ∀ (rs : List Row) (n : Nat), (pK n rs).length = rs.length
  | [], _ => rfl
  | r :: rs, n => congrArg Nat.succ (pK_len rs (n + 1))
theorem pK_keys : ∀ (rs : List Row) (n : Nat), (pK n rs).map (·.1) = rs.map fun r => Sum.inr r.1
  | [], _ => rfl
  | r :: rs, n => congrArg (Sum.inr r.1 :: ·) (pK_keys rs (n + 1))
theorem wK_put {rs : List Row} {r : Row} (h : r.1 ∉ rs.map (·.1)) : putK (wK rs) (.inr r.1) (.int r.2.2) = wK (rs ++ [r]) := by
  rw [wK_app, putK_new _ (valV_out fun z => ?_)]
  · rfl
  · unfold wK at z
    rw [List.map_map] at z
    obtain ⟨q, hq, e⟩ := List.mem_map.mp z
    exact h (List.mem_map.mpr ⟨q, hq, Sum.inr.inj e⟩)
theorem pK_put {rs : List Row} {r : Row} (h : r.1 ∉ rs.map (·.1)) : putK (pK 0 rs) (.inr r.1) (.int (rs.length : Int)) = pK 0 (rs ++ [r]) := by
  rw [pK_app, putK_new _ (valV_out fun z => ?_), Nat.zero_add]
  · rfl
  · rw [pK_keys] at z
    obtain ⟨q, hq, e⟩ := List.mem_map.mp z
    exact h (List.mem_map.mpr ⟨q, hq, Sum.inr.inj e⟩)
/-- the object's fields -/
def ordF (bt br bw bp : Addr) : List (Str × V) := putF "_places" (.ref bp) (putF "_weights" (.ref bw) (putF "truths" (.ref br) (putF "things" (.ref bt) [])))
theorem nTT : ¬ (("things" : Str) = "truths") := by decide +kernel
theorem nTW : ¬ (("things" : Str) = "_weights") := by decide +kernel
theorem nTP : ¬ (("things" : Str) = "_places") := by decide +kernel
theorem nRW : ¬ (("truths" : Str) = "_weights") := by decide +kernel
theorem nRP : ¬ (("truths" : Str) = "_places") := by decide +kernel
theorem nWP : ¬ (("_weights" : Str) = "_places") := by decide +kernel
section
variable (bt br bw bp : Addr)
theorem ordF_things : (ordF bt br bw bp).lookup ("things" : Str) = some (.ref bt) := by
  unfold ordF
  rw [lookup_putF, if_neg nTP, lookup_putF, if_neg nTW, lookup_putF, if_neg nTT, lookup_putF, if_pos rfl]
theorem ordF_truths : (ordF bt br bw bp).lookup ("truths" : Str) = some (.ref br) := by
  unfold ordF
  rw [lookup_putF, if_neg nRP, lookup_putF, if_neg nRW, lookup_putF, if_pos rfl]
theorem ordF_weights : (ordF bt br bw bp).lookup ("_weights" : Str) = some (.ref bw) := by
  unfold ordF
  rw [lookup_putF, if_neg nWP, lookup_putF, if_pos rfl]
theorem ordF_places : (ordF bt br bw bp).lookup ("_places" : Str) = some (.ref bp) := by
  unfold ordF
  rw [lookup_putF, if_pos rfl]
end
/-- an Order of these rows stands at o -/
structure OrdI (K : PySem.W.Frag) (C : Addr) (H : Hp) (o : Addr) (R S : List Row) : Prop where
  ex : ∃ dx bt br bw bp vs1 vs2, H o = some (.ins C dx (ordF bt br bw bp)) ∧ SqT K H bt vs1 ∧ F2 (RowV K H) R vs1 ∧ SqT K H br vs2 ∧ F2 (RowV K H) S vs2 ∧ H bw = some (.dK (wK (ranked R S))) ∧ H bp = some (.dK (pK 0 (ranked R S)))
theorem OrdI.same {K : PySem.W.Frag} {C : Addr} {H H' : Hp} (s : Same H H') {o : Addr} {R S : List Row} (h : OrdI K C H o R S) : OrdI K C H' o R S := by
  obtain ⟨dx, bt, br, bw, bp, vs1, vs2, e1, e2, e3, e4, e5, e6, e7⟩ := h.ex
  have k := TK.same s
  exact ⟨dx, bt, br, bw, bp, vs1, vs2, s _ _ e1, k.sq e2, e3.mono (RowV.mono k), k.sq e4, e5.mono (RowV.mono k), s _ _ e6, s _ _ e7⟩
theorem OrdI.but {K : PySem.W.Frag} {C : Addr} {H H' : Hp} {p l : Addr} {ns : List Int} {c : Nat} (P : Pn.Pen H p l ns c) (b : Pn.But p H H') {o : Addr} {R S : List Row} (h : OrdI K C H o R S) : OrdI K C H' o R S := by
  obtain ⟨dx, bt, br, bw, bp, vs1, vs2, e1, e2, e3, e4, e5, e6, e7⟩ := h.ex
  have k := pen_tk P b
  obtain ⟨⟨a, d, f, ep, _⟩, _⟩ := P
  have n : ∀ {q : Addr} {ob : HO}, H q = some ob → (∀ f, ob ≠ .dK (Pn.penK l a d (c : Int) f)) → q ≠ p := fun {q ob} e hn z => by
    rw [z, ep] at e
    exact hn f (Option.some.inj e).symm
  have wn : ∀ (kvs : List (L2.Key × V)), (∃ v r, kvs = (.inr "yes", v) :: r) → ∀ f, HO.dK kvs ≠ .dK (Pn.penK l a d (c : Int) f) := by
    rintro kvs ⟨v, r, rfl⟩ f z
    have z' := HO.dK.inj z
    unfold Pn.penK at z'
    have z2 := congrArg (fun x : List (L2.Key × V) => x.head?.map (·.1)) z'
    have z3 : (some (.inr "yes") : Option L2.Key) = some (.inr "cells") := z2
    have z4 : ("yes" : Str) = "cells" := Sum.inr.inj (Option.some.inj z3)
    exact absurd z4 (by decide +kernel)
  exact ⟨dx, bt, br, bw, bp, vs1, vs2, b _ _ (n e1 (fun f z => nomatch z)) e1, k.sq e2, e3.mono (RowV.mono k), k.sq e4, e5.mono (RowV.mono k), b _ _ (n e6 (wn _ ⟨_, _, rfl⟩)) e6, b _ _ (n e7 (wn _ ⟨_, _, rfl⟩)) e7⟩
/-- rows that make an order -/
structure OOk (R S : List Row) : Prop where
  nd : ((ranked R S).map (·.1)).Nodup
  wt : ∀ r ∈ R ++ S, 1 ≤ r.2.2
  const : ∃ r ∈ R, r.2.1 = 0
  few : R.length + S.length ≤ 100
end Ad

/-! The order of terms: names of rows, ground terms, the word that is told. -/
namespace Ad
open PySem PySem.Spec PySem.Calls PyProof.Rows L2
namespace Kb
def wOf (rk : List Row) (x : Str) : Int := ((rk.find? fun r => r.1 == x).map (·.2.2)).getD 1
def pOf (rk : List Row) (x : Str) : Int := (rk.findIdx (fun r => r.1 == x) : Nat)
theorem find_of {rk : List Row} (nd : (rk.map (·.1)).Nodup) {r : Row} (h : r ∈ rk) : rk.find? (fun q => q.1 == r.1) = some r := by
  induction rk with
  | nil => cases h
  | cons q rs ih =>
    obtain ⟨n1, n2⟩ := List.nodup_cons.mp nd
    rcases List.mem_cons.mp h with e | e
    · rw [e]
      exact List.find?_cons_of_pos (by simp)
    · rw [List.find?_cons_of_neg (by
        intro z
        have z' : q.1 = r.1 := beq_iff_eq.mp z
        exact n1 (by show q.1 ∈ _; rw [z']; exact List.mem_map.mpr ⟨r, e, rfl⟩))]
      exact ih n2 e
theorem wOf_mem {rk : List Row} (nd : (rk.map (·.1)).Nodup) {r : Row} (h : r ∈ rk) : wOf rk r.1 = r.2.2 := by
  unfold wOf
  rw [find_of nd h]
  rfl
theorem pOf_at : ∀ {rk : List Row} (nd : (rk.map (·.1)).Nodup) {i : Nat} {r : Row} (h : rk[i]? = some r), pOf rk r.1 = (i : Int)
  | [], _, i, r, h => by cases h
  | q :: rs, nd, i, r, h => by
    obtain ⟨n1, n2⟩ := List.nodup_cons.mp nd
    unfold pOf
    rw [List.findIdx_cons]
    cases i with
    | zero =>
      cases h
      simp
    | succ i =>
      have h' : rs[i]? = some r := h
      have z : (q.1 == r.1) = false := by
        rw [beq_eq_false_iff_ne]
        intro z
        exact n1 (by show q.1 ∈ _; rw [z]; exact List.mem_map.mpr ⟨r, List.mem_of_getElem? h', rfl⟩)
      rw [z]
      have := pOf_at n2 h'
      unfold pOf at this
      show ((_ + 1 : Nat) : Int) = _
      omega
theorem wOf_one {rk : List Row} (h : ∀ r ∈ rk, 1 ≤ r.2.2) (x : Str) : 1 ≤ wOf rk x := by
  unfold wOf
  cases e : rk.find? fun r => r.1 == x with
  | none => exact Int.le_refl _
  | some r => exact h r (List.mem_of_find?_eq_some e)
theorem pOf_inj {rk : List Row} (nd : (rk.map (·.1)).Nodup) {r q : Row} (hr : r ∈ rk) (hq : q ∈ rk) (e : pOf rk r.1 = pOf rk q.1) : r = q := by
  obtain ⟨i, hi, rfl⟩ := List.mem_iff_getElem.mp hr
  obtain ⟨j, hj, rfl⟩ := List.mem_iff_getElem.mp hq
  rw [pOf_at nd (List.getElem?_eq_getElem hi), pOf_at nd (List.getElem?_eq_getElem hj)] at e
  have : i = j := by omega
  subst this
  rfl
section
variable {rk : List Row} (nd : (rk.map (·.1)).Nodup)
include nd
mutual
theorem ab_total : ∀ (s t : T), Wf rk s → Wf rk t → s.vars = [] → t.vars = [] → s = t ∨ ab (wOf rk) (pOf rk) s t ∨ ab (wOf rk) (pOf rk) t s
  | .v _, _, _, _, g, _ => by cases g
  | .f _ _, .v _, _, _, _, g => by cases g
  | .f x ss, .f y ts, hs, ht, g1, g2 => by
    have o1 : Occ (T.f y ts).vars (T.varsL ss) := fun i => by rw [g2]; exact Nat.zero_le _
    have o2 : Occ (T.f x ss).vars (T.varsL ts) := fun i => by rw [g1]; exact Nat.zero_le _
    have e1 : W (wOf rk) (.f x ss) = wOf rk x + WL (wOf rk) ss := rfl
    have e2 : W (wOf rk) (.f y ts) = wOf rk y + WL (wOf rk) ts := rfl
    rcases Int.lt_trichotomy (W (wOf rk) (.f x ss)) (W (wOf rk) (.f y ts)) with h | h | h
    · exact .inr (.inr ⟨o2, .inl (by omega)⟩)
    · obtain ⟨⟨r, hr, rfl, ar⟩, hs'⟩ := hs
      obtain ⟨⟨q, hq, rfl, aq⟩, ht'⟩ := ht
      rcases Int.lt_trichotomy (pOf rk r.1) (pOf rk q.1) with k | k | k
      · exact .inr (.inr ⟨o2, .inr ⟨by omega, .inl k⟩⟩)
      · have e := pOf_inj nd hr hq k
        subst e
        have l : ss.length = ts.length := by omega
        rcases abL_total ss ts hs' ht' g1 g2 l with z | z | z
        · rw [z]
          exact .inl rfl
        · exact .inr (.inl ⟨o1, .inr ⟨by omega, .inr ⟨rfl, z⟩⟩⟩)
        · exact .inr (.inr ⟨o2, .inr ⟨by omega, .inr ⟨rfl, z⟩⟩⟩)
      · exact .inr (.inl ⟨o1, .inr ⟨by omega, .inl k⟩⟩)
    · exact .inr (.inl ⟨o1, .inl (by omega)⟩)
theorem abL_total : ∀ (ss ts : List T), WfL rk ss → WfL rk ts → T.varsL ss = [] → T.varsL ts = [] → ss.length = ts.length → ss = ts ∨ abL (wOf rk) (pOf rk) ss ts ∨ abL (wOf rk) (pOf rk) ts ss
  | [], [], _, _, _, _, _ => .inl rfl
  | [], _ :: _, _, _, _, _, l => by cases l
  | _ :: _, [], _, _, _, _, l => by cases l
  | a :: as, b :: bs, hs, ht, g1, g2, l => by
    obtain ⟨g1a, g1b⟩ := List.append_eq_nil_iff.mp (show a.vars ++ T.varsL as = [] from g1)
    obtain ⟨g2a, g2b⟩ := List.append_eq_nil_iff.mp (show b.vars ++ T.varsL bs = [] from g2)
    rcases ab_total a b hs.1 ht.1 g1a g2a with z | z | z
    · subst z
      rcases abL_total as bs hs.2 ht.2 g1b g2b (Nat.succ.inj l) with y | y | y
      · rw [y]
        exact .inl rfl
      · exact .inr (.inl (.inr ⟨rfl, y⟩))
      · exact .inr (.inr (.inr ⟨rfl, y⟩))
    · exact .inr (.inl (.inl z))
    · exact .inr (.inr (.inl z))
end
end
section
open Classical
variable (w p : Str → Int)
/-- what is told -/
noncomputable def word (s t : T) : V := if s = t then .str "alike" else if ab w p s t then .str "above" else if ab w p t s then .str "below" else .non
/-- the way by names, for unlike terms of one weight -/
noncomputable def bnL : List T → List T → V
  | [], _ => .non
  | _ :: _, [] => .non
  | a :: as, b :: bs => if a = b then bnL as bs else word w p a b
noncomputable def bn : T → T → V
  | .v _, _ => .non
  | .f _ _, .v _ => .non
  | .f x ss, .f y ts => if x = y then bnL w p ss ts else if p y < p x then .str "above" else .str "below"
end
section
open Classical
variable {w p : Str → Int}
theorem word_above {s t : T} (h : ab w p s t) : word w p s t = .str "above" := by
  unfold word
  rw [if_neg (ab_ne h), if_pos h]
theorem word_below {s t : T} (h : ab w p t s) : word w p s t = .str "below" := by
  unfold word
  rw [if_neg (Ne.symm (ab_ne h)), if_neg (ab_not h), if_pos h]
theorem word_none {s t : T} (n : s ≠ t) (h1 : ¬ ab w p s t) (h2 : ¬ ab w p t s) : word w p s t = .non := by
  unfold word
  rw [if_neg n, if_neg h1, if_neg h2]
theorem word_refl (s : T) : word w p s s = .str "alike" := if_pos rfl
theorem nAB : ¬ ((V.str "above") = V.str "below") := fun z => absurd (V.str.inj z) (by decide +kernel)
theorem nAL : ¬ ((V.str "alike") = V.str "above") := fun z => absurd (V.str.inj z) (by decide +kernel)
theorem nBL : ¬ ((V.str "alike") = V.str "below") := fun z => absurd (V.str.inj z) (by decide +kernel)
theorem word_is_above {s t : T} (h : word w p s t = .str "above") : ab w p s t := by
  unfold word at h
  split at h
  · exact absurd h nAL
  · split at h
    · assumption
    · split at h
      · exact absurd h.symm nAB
      · cases h
theorem word_is_below {s t : T} (h : word w p s t = .str "below") : ab w p t s := by
  unfold word at h
  split at h
  · exact absurd h nBL
  · split at h
    · exact absurd h nAB
    · split at h
      · assumption
      · cases h
theorem bnL_above : ∀ {ss ts : List T}, bnL w p ss ts = .str "above" ↔ abL w p ss ts
  | [], ts => ⟨fun h => (by cases ts <;> cases h), fun h => False.elim h⟩
  | _ :: _, [] => ⟨fun h => (by cases h), fun h => False.elim h⟩
  | a :: as, b :: bs => by
    show (if a = b then bnL w p as bs else word w p a b) = _ ↔ (ab w p a b ∨ (a = b ∧ abL w p as bs))
    by_cases e : a = b
    · rw [if_pos e, bnL_above]
      refine ⟨fun h => .inr ⟨e, h⟩, fun h => ?_⟩
      rcases h with h | h
      · exact absurd e (ab_ne h)
      · exact h.2
    · rw [if_neg e]
      refine ⟨fun h => .inl (word_is_above h), fun h => ?_⟩
      rcases h with h | h
      · exact word_above h
      · exact absurd h.1 e
theorem bnL_below : ∀ {ss ts : List T}, bnL w p ss ts = .str "below" ↔ abL w p ts ss
  | [], ts => ⟨fun h => (by cases ts <;> cases h), fun h => (by cases ts <;> exact False.elim h)⟩
  | _ :: _, [] => ⟨fun h => (by cases h), fun h => False.elim h⟩
  | a :: as, b :: bs => by
    show (if a = b then bnL w p as bs else word w p a b) = _ ↔ (ab w p b a ∨ (b = a ∧ abL w p bs as))
    by_cases e : a = b
    · rw [if_pos e, bnL_below]
      refine ⟨fun h => .inr ⟨e.symm, h⟩, fun h => ?_⟩
      rcases h with h | h
      · exact absurd e.symm (ab_ne h)
      · exact h.2
    · rw [if_neg e]
      refine ⟨fun h => .inl (word_is_below h), fun h => ?_⟩
      rcases h with h | h
      · exact word_below h
      · exact absurd h.1.symm e
/-- unlike terms of one weight -/
theorem bn_above {s t : T} (e : W w s = W w t) (inj : ∀ x y ss ts, s = .f x ss → t = .f y ts → x ≠ y → p x ≠ p y) : (bn w p s t = .str "above" ∧ Occ t.vars s.vars) ↔ ab w p s t := by
  cases s with
  | v i => exact ⟨fun h => (by cases h.1), fun h => False.elim h⟩
  | f x ss =>
    cases t with
    | v i =>
      refine ⟨fun h => (by cases h.1), fun h => ?_⟩
      rcases h.2 with z | ⟨_, z⟩
      · have : W w (.v i) < W w (.f x ss) := z
        omega
      · exact False.elim z
    | f y ts =>
      show ((if x = y then bnL w p ss ts else if p y < p x then V.str "above" else V.str "below") = _ ∧ _) ↔ (Occ (T.f y ts).vars (T.varsL ss) ∧ (W w (.f y ts) < W w (.f x ss) ∨ (W w (.f y ts) = W w (.f x ss) ∧ (p y < p x ∨ (x = y ∧ abL w p ss ts)))))
      by_cases xy : x = y
      · subst xy
        rw [if_pos rfl, bnL_above]
        refine ⟨fun h => ⟨h.2, .inr ⟨e.symm, .inr ⟨rfl, h.1⟩⟩⟩, fun h => ⟨?_, h.1⟩⟩
        rcases h.2 with z | ⟨_, z⟩
        · omega
        · rcases z with z | z
          · omega
          · exact z.2
      · rw [if_neg xy]
        by_cases k : p y < p x
        · rw [if_pos k]
          exact ⟨fun h => ⟨h.2, .inr ⟨e.symm, .inl k⟩⟩, fun h => ⟨rfl, h.1⟩⟩
        · rw [if_neg k]
          refine ⟨fun h => absurd h.1.symm nAB, fun h => ?_⟩
          rcases h.2 with z | ⟨_, z⟩
          · omega
          · rcases z with z | z
            · exact absurd z k
            · exact absurd z.1 xy
theorem bn_below {s t : T} (e : W w s = W w t) (inj : ∀ x y ss ts, s = .f x ss → t = .f y ts → x ≠ y → p x ≠ p y) : (bn w p s t = .str "below" ∧ Occ s.vars t.vars) ↔ ab w p t s := by
  cases t with
  | v i => exact ⟨fun h => (by cases s <;> cases h.1), fun h => False.elim h⟩
  | f y ts =>
    cases s with
    | v i =>
      refine ⟨fun h => (by cases h.1), fun h => ?_⟩
      rcases h.2 with z | ⟨_, z⟩
      · have : W w (.v i) < W w (.f y ts) := z
        omega
      · exact False.elim z
    | f x ss =>
      show ((if x = y then bnL w p ss ts else if p y < p x then V.str "above" else V.str "below") = _ ∧ _) ↔ (Occ (T.f x ss).vars (T.varsL ts) ∧ (W w (.f x ss) < W w (.f y ts) ∨ (W w (.f x ss) = W w (.f y ts) ∧ (p x < p y ∨ (y = x ∧ abL w p ts ss)))))
      by_cases xy : x = y
      · subst xy
        rw [if_pos rfl, bnL_below]
        refine ⟨fun h => ⟨h.2, .inr ⟨e, .inr ⟨rfl, h.1⟩⟩⟩, fun h => ⟨?_, h.1⟩⟩
        rcases h.2 with z | ⟨_, z⟩
        · omega
        · rcases z with z | z
          · omega
          · exact z.2
      · rw [if_neg xy]
        have := inj x y ss ts rfl rfl xy
        by_cases k : p y < p x
        · rw [if_pos k]
          refine ⟨fun h => absurd h.1 nAB, fun h => ?_⟩
          rcases h.2 with z | ⟨_, z⟩
          · omega
          · rcases z with z | z
            · omega
            · exact absurd z.1.symm xy
        · rw [if_neg k]
          exact ⟨fun h => ⟨h.2, .inr ⟨e, .inl (by omega)⟩⟩, fun h => ⟨rfl, h.1⟩⟩
end
end Kb
end Ad

/-! dict comprehensions over enumerate of a tuple; tuples set behind each other -/
namespace Ad
open PySem PySem.Spec PySem.Calls PyProof.Rows L2
theorem dc_enumT {K : PySem.W.Frag} {a : Addr} {xs : List V} {g : TG} {tt : TT} {tk tv : TE} {vs : List Nat} {σ : L2.St} {H1 : Hp} {D : Addr} {Qd : Hp → Prop} (Pv : Nat → Hp → Prop) (h0 : Pv 0 (upd H1 D (.dK []))) (hl : ∀ i H, i ≤ xs.length → Pv i H → SqT K H a xs)
    (hs : ∀ i x T H, xs[i]? = some x → Pv i H → H T = none → g (.ref T) (wipe σ vs) (upd H T (.tup [.int (i : Nat), x])) fun σ2 H2 => wipe σ2 vs = wipe σ vs ∧ tt σ2 H2 fun b H3 =>
      if b = true then tk σ2 H3 fun y H4 => tv σ2 H4 fun z H5 => ∃ kvs k, y = kV k ∧ H5 D = some (.dK kvs) ∧ kvs.length < sizeLine ∧ Pv (i + 1) (upd H5 D (.dK (putK kvs k z))) else Pv (i + 1) H3) (hd : ∀ H, Pv xs.length H → Qd H) :
    ∃ W : Nat → Nat → Hp → Prop, (∃ m, W 0 m (upd H1 D (.dK []))) ∧ ∀ i m H, W i m H →
      ((Et.IteT K a).stop i H ∧ Qd H) ∨ ((Et.IteT K a).go i H ∧ ∃ Nx : Hp → Prop, (∀ H', Nx H' → ∃ m', m' < m ∧ W (i + 1) m' H') ∧ ∀ x H', (Et.IteT K a).yld i H x H' → g x (wipe σ vs) H' fun σ2 H2 => wipe σ2 vs = wipe σ vs ∧ tt σ2 H2 fun b H3 =>
        if b = true then tk σ2 H3 fun y H4 => tv σ2 H4 fun z H5 => ∃ kvs k, y = kV k ∧ H5 D = some (.dK kvs) ∧ kvs.length < sizeLine ∧ Nx (upd H5 D (.dK (putK kvs k z))) else Nx H3) := by
  refine ⟨fun i m H => m = xs.length - i ∧ i ≤ xs.length ∧ Pv i H, ⟨xs.length, by simp, Nat.zero_le _, h0⟩, ?_⟩
  rintro i m H ⟨rfl, hi, p⟩
  have q := hl i H hi p
  by_cases hlt : i < xs.length
  · refine .inr ⟨⟨xs, xs[i], q, by simp [hlt]⟩, Pv (i + 1), fun H' p' => ⟨xs.length - (i + 1), by omega, rfl, hlt, p'⟩, fun x H' y => ?_⟩
    obtain ⟨T, x', ex, nT, eH, y⟩ := y
    subst ex
    subst eH
    exact hs i x' T H (y xs q) p nT
  · have e : i = xs.length := by omega
    subst e
    exact .inl ⟨⟨xs, q, Nat.le_refl _⟩, hd H p⟩
theorem catT {K : PySem.W.Frag} {H : Hp} {a b : Addr} {xs ys : List V} {Q : VK} (hx : SqT K H a xs) (hy : SqT K H b ys) (ne : xs ≠ []) (l : xs.length + ys.length ≤ sizeLine) (q : ∀ c G, Same H G → SqT K G c (xs ++ ys) → Q (.ref c) G) : rCatT K (.ref a) (.ref b) H Q :=
  ⟨a, b, xs, ys, rfl, rfl, hx, hy, ne, l, fun e => q a H (fun b o e => e) (by rw [e, List.append_nil]; exact hx), fun _ p np => q p _ (same_new (fun b o e => e) np _) (.inl (.inl upd_same))⟩
theorem inV_here {x : V} {xs : List V} (h : x ∈ xs) (e : eqV x x = true) : inV x xs = true := by
  unfold inV
  exact List.any_eq_true.mpr ⟨x, h, e⟩
theorem TK.ins {H : Hp} {p C dx : Addr} {fs : List (Str × V)} (h : H p = some (.ins C dx fs)) (o : HO) : TK H (upd H p o) := fun b xs => by
  have n : ∀ u, H b = some u → (∀ c d f, u ≠ .ins c d f) → b ≠ p := fun u e z w => by
    rw [w, h] at e
    exact z _ _ _ (Option.some.inj e).symm
  refine ⟨fun e => ?_, fun o e => ?_⟩
  · rw [upd_ne (n _ e (fun c d f z => nomatch z))]
    exact e
  · rw [upd_ne (n _ e (fun c d f z => nomatch z))]
    exact e
theorem take_fresh {rs : List Row} (nd : (rs.map (·.1)).Nodup) {i : Nat} {r : Row} (h : rs[i]? = some r) : r.1 ∉ (rs.take i).map (·.1) := by
  rw [← List.take_append_drop i rs, List.map_append, List.nodup_append] at nd
  refine fun z => nd.2.2 _ z r.1 ?_ rfl
  refine List.mem_map.mpr ⟨r, ?_, rfl⟩
  refine List.mem_of_getElem? (i := 0) ?_
  rw [List.getElem?_drop]
  exact h
theorem take_next {α : Type} {rs : List α} {i : Nat} {r : α} (h : rs[i]? = some r) : rs.take (i + 1) = rs.take i ++ [r] := by
  rw [List.take_add_one, h]
  rfl
end Ad

/-! weights summed over the parts; how often variables stand, as a dict -/
namespace Ad
open PySem PySem.Spec PySem.Calls PyProof.Rows L2
namespace Kb
section
variable (w : Str → Int)
def pw : T → Int
  | .v _ => 1
  | .f x _ => w x
mutual
theorem tot_parts : ∀ t : T, tot (pw w) t.parts = W w t
  | .v _ => rfl
  | .f x ts => by
    show w x + tot (pw w) (T.partsL ts) = w x + WL w ts
    rw [tot_partsL ts]
theorem tot_partsL : ∀ ts : List T, tot (pw w) (T.partsL ts) = WL w ts
  | [] => rfl
  | t :: ts => by
    show tot (pw w) (t.parts ++ T.partsL ts) = W w t + WL w ts
    rw [tot_app, tot_parts t, tot_partsL ts]
end
end
mutual
theorem wf_part {rk : List Row} : ∀ (t : T), Wf rk t → ∀ u ∈ t.parts, Wf rk u
  | .v _, _, u, m => by
    cases List.mem_singleton.mp m
    exact True.intro
  | .f x ts, h, u, m => by
    rcases List.mem_cons.mp m with e | e
    · rw [e]
      exact h
    · exact wfL_part ts h.2 u e
theorem wfL_part {rk : List Row} : ∀ (ts : List T), WfL rk ts → ∀ u ∈ T.partsL ts, Wf rk u
  | [], _, u, m => by cases m
  | t :: ts, h, u, m => by
    rcases List.mem_append.mp m with e | e
    · exact wf_part t h.1 u e
    · exact wfL_part ts h.2 u e
end
/-- how often each variable of a list stands there -/
structure CntD (kvs : List (L2.Key × V)) (l : List Int) : Prop where
  val : ∀ i, valV kvs (.inl i) = if l.count i = 0 then none else some (.int (l.count i : Nat))
  key : ∀ k v, (k, v) ∈ kvs → ∃ i, k = .inl i ∧ i ∈ l
  len : kvs.length ≤ l.length
theorem CntD.nil : CntD [] [] := ⟨fun _ => rfl, fun _ _ m => (by cases m), Nat.le_refl _⟩
theorem CntD.got {kvs : List (L2.Key × V)} {l : List Int} (h : CntD kvs l) (i : Int) : (valV kvs (.inl i)).getD (.int 0) = .int (l.count i : Nat) := by
  rw [h.val i]
  by_cases z : l.count i = 0
  · rw [if_pos z, z]
    rfl
  · rw [if_neg z]
    rfl
theorem put_mem {kvs : List (L2.Key × V)} {k : L2.Key} {v : V} : ∀ q ∈ putK kvs k v, q.1 = k ∨ q ∈ kvs := by
  intro q hq
  unfold putK at hq
  split at hq
  · obtain ⟨r, hr, e⟩ := List.mem_map.mp hq
    by_cases z : r.1 = k
    · rw [if_pos z] at e
      left
      rw [← e]
      exact z
    · rw [if_neg z] at e
      right
      rw [← e]
      exact hr
  · rcases List.mem_append.mp hq with e | e
    · exact .inr e
    · left
      rw [List.mem_singleton.mp e]
theorem CntD.put {kvs : List (L2.Key × V)} {l : List Int} (h : CntD kvs l) (i : Int) : CntD (putK kvs (.inl i) (.int ((l.count i : Nat) + 1))) (l ++ [i]) := by
  refine ⟨fun j => ?_, fun k v m => ?_, ?_⟩
  · rw [valV_put, List.count_append, List.count_singleton]
    by_cases z : j = i
    · subst z
      rw [if_pos rfl, if_neg (by simp)]
      simp
    · have z' : (i == j) = false := beq_eq_false_iff_ne.mpr (Ne.symm z)
      rw [if_neg (fun e => z (Sum.inl.inj e)), h.val j]
      simp [z']
  · rcases put_mem _ m with e | e
    · exact ⟨i, e, List.mem_append_right _ (List.mem_singleton_self _)⟩
    · obtain ⟨j, e1, e2⟩ := h.key k v e
      exact ⟨j, e1, List.mem_append_left _ e2⟩
  · have := length_putK kvs (.inl i) (.int ((l.count i : Nat) + 1))
    have := h.len
    rw [List.length_append, List.length_singleton]
    omega
end Kb
end Ad

/-! what compare needs of the relations -/
namespace Ad
open PySem PySem.Spec PySem.Calls PyProof.Rows L2
namespace Kb
theorem wfL_mem {rk : List Row} {t : T} : ∀ {ts : List T}, WfL rk ts → t ∈ ts → Wf rk t
  | [], _, m => by cases m
  | u :: us, h, m => by
    rcases List.mem_cons.mp m with e | e
    · rw [e]
      exact h.1
    · exact wfL_mem h.2 e
section
open Classical
variable {w p : Str → Int}
theorem ab_gt (one : ∀ x, 1 ≤ w x) {s t : T} (h : W w t < W w s) : Occ t.vars s.vars ↔ ab w p s t := by
  refine ⟨fun o => ?_, ab_occ⟩
  cases s with
  | v i =>
    have := W_pos one t
    have e : W w (.v i) = 1 := rfl
    omega
  | f x ss => exact ⟨o, .inl h⟩
theorem ab_lt {s t : T} (h : W w s < W w t) : ¬ ab w p s t := fun k => by
  have := ab_le k
  omega
theorem bnL_at : ∀ {ss ts : List T} {i : Nat} {a b : T}, ss.take i = ts.take i → ss[i]? = some a → ts[i]? = some b → a ≠ b → bnL w p ss ts = word w p a b
  | [], _, i, a, b, _, h, _, _ => by cases h
  | _ :: _, [], i, a, b, _, _, h, _ => by cases h
  | x :: ss, y :: ts, 0, a, b, _, ha, hb, n => by
    cases ha
    cases hb
    exact if_neg n
  | x :: ss, y :: ts, i + 1, a, b, e, ha, hb, n => by
    obtain ⟨e1, e2⟩ := List.cons.inj (show x :: ss.take i = y :: ts.take i from e)
    exact (if_pos e1).trans (bnL_at e2 ha hb n)
theorem word_kind (s t : T) : word w p s t = .non ∨ ∃ z, word w p s t = .str z := by
  unfold word
  split
  · exact .inr ⟨_, rfl⟩
  · split
    · exact .inr ⟨_, rfl⟩
    · split
      · exact .inr ⟨_, rfl⟩
      · exact .inl rfl
theorem bnL_kind : ∀ ss ts : List T, bnL w p ss ts = .non ∨ ∃ z, bnL w p ss ts = .str z
  | [], _ => .inl rfl
  | _ :: _, [] => .inl rfl
  | a :: as, b :: bs => by
    show (if a = b then bnL w p as bs else word w p a b) = _ ∨ ∃ z, (if a = b then bnL w p as bs else word w p a b) = _
    split
    · exact bnL_kind as bs
    · exact word_kind a b
theorem bn_kind : ∀ s t : T, bn w p s t = .non ∨ ∃ z, bn w p s t = .str z
  | .v _, _ => .inl rfl
  | .f _ _, .v _ => .inl rfl
  | .f x ss, .f y ts => by
    show (if x = y then bnL w p ss ts else if p y < p x then V.str "above" else V.str "below") = _ ∨ ∃ z, (if x = y then bnL w p ss ts else if p y < p x then V.str "above" else V.str "below") = _
    split
    · exact bnL_kind ss ts
    · split
      · exact .inr ⟨_, rfl⟩
      · exact .inr ⟨_, rfl⟩
theorem abL_pre : ∀ {ss ts : List T} {i : Nat} {a b : T}, ss.take i = ts.take i → ss[i]? = some a → ts[i]? = some b → a ≠ b → (abL w p ss ts ↔ ab w p a b)
  | [], _, i, a, b, _, h, _, _ => by cases h
  | _ :: _, [], i, a, b, _, _, h, _ => by cases h
  | x :: ss, y :: ts, 0, a, b, _, ha, hb, n => by
    cases ha
    cases hb
    exact ⟨fun h => h.elim id fun z => absurd z.1 n, .inl⟩
  | x :: ss, y :: ts, i + 1, a, b, e, ha, hb, n => by
    obtain ⟨e1, e2⟩ := List.cons.inj (show x :: ss.take i = y :: ts.take i from e)
    have ih := abL_pre e2 ha hb n
    refine ⟨fun h => ?_, fun h => .inr ⟨e1, ih.mpr h⟩⟩
    rcases h with h | h
    · exact absurd e1 (ab_ne h)
    · exact ih.mp h.2
theorem ab_eq {x y : Str} {ss ts : List T} (e : W w (.f x ss) = W w (.f y ts)) (o : Occ (T.f y ts).vars (T.f x ss).vars) : ab w p (.f x ss) (.f y ts) ↔ (p y < p x ∨ (x = y ∧ abL w p ss ts)) := by
  have e' : W w (.f y ts) = w x + WL w ss := e.symm
  refine ⟨fun h => ?_, fun h => ⟨o, .inr ⟨e', h⟩⟩⟩
  rcases h.2 with z | z
  · omega
  · exact z.2
theorem bnL_same : ∀ ss : List T, bnL w p ss ss = .non
  | [] => rfl
  | x :: ss => (if_pos rfl).trans (bnL_same ss)
end
theorem inj_of {rk : List Row} (nd : (rk.map (·.1)).Nodup) {s t : T} (hs : Wf rk s) (ht : Wf rk t) : ∀ x y ss ts, s = .f x ss → t = .f y ts → x ≠ y → pOf rk x ≠ pOf rk y := by
  rintro x y ss ts rfl rfl n e
  obtain ⟨⟨r, hr, rfl, _⟩, _⟩ := hs
  obtain ⟨⟨q, hq, rfl, _⟩, _⟩ := ht
  exact n (congrArg (·.1) (pOf_inj nd hr hq e))
theorem same_len {rk : List Row} (nd : (rk.map (·.1)).Nodup) {x : Str} {ss ts : List T} (hs : Wf rk (.f x ss)) (ht : Wf rk (.f x ts)) : ss.length = ts.length := by
  obtain ⟨⟨r, hr, e, a⟩, _⟩ := hs
  obtain ⟨⟨q, hq, e', b⟩, _⟩ := ht
  have h1 := find_of nd hr
  have h2 := find_of nd hq
  rw [e] at h1
  rw [e', h1] at h2
  cases h2
  omega
end Kb
end Ad

/-! The way by weights and names, and the first unlike arguments. -/
namespace Ad
open PySem PySem.Spec PySem.Calls PyProof.Rows L2
namespace Kb
section
open Classical
variable (w p : Str → Int)
noncomputable def hd (s t : T) : V := if W w s ≠ W w t then (if W w t < W w s then .str "above" else .str "below") else match s, t with
  | .f x _, .f y _ => if x = y then .non else if p y < p x then .str "above" else .str "below"
  | _, _ => .non
variable {w p}
theorem hd_ne {s t : T} (h : W w s ≠ W w t) : hd w p s t = if W w t < W w s then .str "above" else .str "below" := if_pos h
theorem hd_v1 {i : Int} {t : T} (h : W w (.v i) = W w t) : hd w p (.v i) t = .non := if_neg (not_not_intro h)
theorem hd_v2 {i : Int} {s : T} (h : W w s = W w (.v i)) : hd w p s (.v i) = .non := (if_neg (not_not_intro h)).trans (by cases s <;> rfl)
theorem hd_same {x : Str} {ss ts : List T} (h : W w (.f x ss) = W w (.f x ts)) : hd w p (.f x ss) (.f x ts) = .non := (if_neg (not_not_intro h)).trans (if_pos rfl)
theorem hd_names {x y : Str} {ss ts : List T} (h : W w (.f x ss) = W w (.f y ts)) (n : x ≠ y) : hd w p (.f x ss) (.f y ts) = if p y < p x then .str "above" else .str "below" := (if_neg (not_not_intro h)).trans (if_neg n)
theorem hd_bn {s t : T} (h : W w s = W w t) (n : hd w p s t ≠ .non) : hd w p s t = bn w p s t := by
  cases s with
  | v i => exact absurd (hd_v1 h) n
  | f x ss =>
    cases t with
    | v i => exact absurd (hd_v2 h) n
    | f y ts =>
      by_cases e : x = y
      · subst e
        exact absurd (hd_same h) n
      · rw [hd_names h e]
        exact (if_neg e).symm
theorem hd_kind (s t : T) : hd w p s t = .str "above" ∨ hd w p s t = .str "below" ∨ hd w p s t = .non := by
  have two : ∀ (c : Prop) [Decidable c], (if c then V.str "above" else V.str "below") = .str "above" ∨ (if c then V.str "above" else V.str "below") = .str "below" := fun c _ => by
    by_cases h : c
    · exact .inl (if_pos h)
    · exact .inr (if_neg h)
  by_cases h : W w s = W w t
  · cases s with
    | v i => exact .inr (.inr (hd_v1 h))
    | f x ss =>
      cases t with
      | v i => exact .inr (.inr (hd_v2 h))
      | f y ts =>
        by_cases e : x = y
        · subst e
          exact .inr (.inr (hd_same h))
        · rw [hd_names h e]
          rcases two (p y < p x) with z | z
          · exact .inl z
          · exact .inr (.inl z)
  · rw [hd_ne h]
    rcases two (W w t < W w s) with z | z
    · exact .inl z
    · exact .inr (.inl z)
theorem nAN : (V.str "above") ≠ .non := fun z => by cases z
theorem nBN : (V.str "below") ≠ .non := fun z => by cases z
theorem hd_above (one : ∀ x, 1 ≤ w x) {s t : T} (inj : ∀ x y ss ts, s = .f x ss → t = .f y ts → x ≠ y → p x ≠ p y) (h : hd w p s t = .str "above") : (ab w p s t ↔ Occ t.vars s.vars) ∧ ¬ ab w p t s := by
  by_cases e : W w s = W w t
  · have b : bn w p s t = .str "above" := by rw [← hd_bn e (by rw [h]; exact nAN), h]
    refine ⟨?_, fun k => ?_⟩
    · rw [← bn_above e inj]
      exact ⟨fun z => z.2, fun z => ⟨b, z⟩⟩
    · have := (bn_below e inj).mpr k
      rw [b] at this
      exact nAB this.1
  · rw [hd_ne e] at h
    by_cases lt : W w t < W w s
    · exact ⟨(ab_gt one lt).symm, ab_lt lt⟩
    · rw [if_neg lt] at h
      exact absurd h.symm nAB
theorem hd_below (one : ∀ x, 1 ≤ w x) {s t : T} (inj : ∀ x y ss ts, s = .f x ss → t = .f y ts → x ≠ y → p x ≠ p y) (h : hd w p s t = .str "below") : (ab w p t s ↔ Occ s.vars t.vars) ∧ ¬ ab w p s t := by
  by_cases e : W w s = W w t
  · have b : bn w p s t = .str "below" := by rw [← hd_bn e (by rw [h]; exact nBN), h]
    refine ⟨?_, fun k => ?_⟩
    · rw [← bn_below e inj]
      exact ⟨fun z => z.2, fun z => ⟨b, z⟩⟩
    · have := (bn_above e inj).mpr k
      rw [b] at this
      exact nAB this.1.symm
  · rw [hd_ne e] at h
    by_cases lt : W w t < W w s
    · rw [if_pos lt] at h
      exact absurd h nAB
    · have lt' : W w s < W w t := by omega
      exact ⟨(ab_gt one lt').symm, ab_lt lt'⟩
theorem hd_non {s t : T} (h : hd w p s t = .non) : W w s = W w t := by
  by_cases e : W w s = W w t
  · exact e
  · rw [hd_ne e] at h
    by_cases lt : W w t < W w s
    · rw [if_pos lt] at h
      exact absurd h nAN
    · rw [if_neg lt] at h
      exact absurd h nBN
theorem hd_non_name {x y : Str} {ss ts : List T} (h : hd w p (.f x ss) (.f y ts) = .non) : x = y := by
  by_cases e : x = y
  · exact e
  · rw [hd_names (hd_non h) e] at h
    by_cases lt : p y < p x
    · rw [if_pos lt] at h
      exact absurd h nAN
    · rw [if_neg lt] at h
      exact absurd h nBN
/-- a variable of the same weight -/
theorem ab_v2 {i : Int} {s : T} (h : W w s = W w (.v i)) : ¬ ab w p s (.v i) := by
  cases s with
  | v j => exact fun z => z
  | f x ss =>
    intro k
    rcases k.2 with z | z
    · have h' : w x + WL w ss = W w (.v i) := h
      omega
    · exact z.2
theorem ab_v1 {i : Int} {t : T} : ¬ ab w p (.v i) t := fun z => z
theorem ab_down {x : Str} {ss ts : List T} {i : Nat} {a b : T} (h : W w (.f x ss) = W w (.f x ts)) (pre : ss.take i = ts.take i) (ha : ss[i]? = some a) (hb : ts[i]? = some b) (n : a ≠ b) : ab w p (.f x ss) (.f x ts) ↔ Occ (T.f x ts).vars (T.f x ss).vars ∧ ab w p a b := by
  refine ⟨fun k => ?_, fun k => ?_⟩
  · have o : Occ (T.f x ts).vars (T.f x ss).vars := ab_occ k
    rcases (ab_eq h o).mp k with z | z
    · omega
    · exact ⟨o, (abL_pre pre ha hb n).mp z.2⟩
  · exact (ab_eq h k.1).mpr (.inr ⟨rfl, (abL_pre pre ha hb n).mpr k.2⟩)
theorem unlike_lt : ∀ {ss ts : List T} {i : Nat}, ss.length = ts.length → ss ≠ ts → ss.take i = ts.take i → i < ss.length := by
  intro ss ts i l n pre
  by_cases h : i < ss.length
  · exact h
  · rw [List.take_of_length_le (by omega), List.take_of_length_le (by omega)] at pre
    exact absurd pre n
end
end Kb
end Ad

/-! A loop with a measure of one's own. -/
namespace Ad
open PySem PySem.Spec PySem.Calls PyProof.Rows L2
theorem while_g {c : TT} {tb : TS} {D : Ends} {σ : L2.St} {H : Hp} (W : Nat → L2.St → Hp → Prop) (start : ∃ m, W m σ H)
    (turn : ∀ m σ H, W m σ H → c σ H fun b G => if b = true then tb { D with nx := fun σ' H' => ∃ m', m' < m ∧ W m' σ' H', ct := fun σ' H' => ∃ m', m' < m ∧ W m' σ' H', bk := D.nx } σ G else D.nx σ G) (mono : ∀ σ H Q Q', (∀ b G, Q b G → Q' b G) → c σ H Q → c σ H Q') : tWhile c tb D σ H := by
  refine ⟨W, start, fun m σ H h => mono σ H _ _ (fun b G q => ?_) (turn m σ H h)⟩
  cases b with
  | true => exact ⟨_, fun σ' H' z => z, q⟩
  | false => exact q
/-- a if t else b, as a test -/
def tIfT (t ta tb : TT) : TT := fun σ H Q => t σ H fun c H1 => if c = true then ta σ H1 Q else tb σ H1 Q
theorem pt_ifExp {X : Cx} {c a b : Expr} {pos : Pos} {tc ta tb : TT} (hc : PT X c tc) (ha : PT X a ta) (hb : PT X b tb) : PT X (.IfExp c a b pos) (tIfT tc ta tb) := by
  refine ⟨fun pins s σ H Q I h => ?_⟩
  refine isTrue_IfExp (wpAny_mono (hc.run pins s σ H _ I h) (fun d s1 r => ?_) fun _ _ x => x)
  obtain ⟨H1, I1, q1⟩ := r
  cases d with
  | true => exact ha.run pins s1 σ H1 Q I1 q1
  | false => exact hb.run pins s1 σ H1 Q I1 q1
end Ad

namespace Ad
open PySem PySem.Spec PySem.Calls PyProof.Rows L2
abbrev sWeighed : Stmt := topS 10
theorem scWeighed : FnScope ["order", "term", "weight", "often", "waiting", "part"] ["order", "term"] (defScope sWeighed) := ⟨rfl, rfl, rfl, by decide +kernel, rfl, by decide +kernel, by decide +kernel⟩
theorem Kb.CntD.perm {kvs : List (L2.Key × V)} {l l' : List Int} (h : Kb.CntD kvs l) (p : l.Perm l') : Kb.CntD kvs l' :=
  ⟨fun i => by rw [← p.count_eq i]; exact h.val i, fun k v m => by
    obtain ⟨i, e, hi⟩ := h.key k v m
    exact ⟨i, e, p.mem_iff.mp hi⟩, by rw [← p.length_eq]; exact h.len⟩
theorem none_of {H H' : Hp} {p : Addr} (s : Same H H') (n : H' p = none) : H p = none := by
  cases e : H p with
  | none => rfl
  | some o =>
    rw [s _ _ e] at n
    cases n
section
variable {P : Program} {w : World} {K : PySem.W.Frag} {mg : Str → Option Value} {base : Heap}
def spWeighed (K : PySem.W.Frag) (C : Addr) : Sp := fun vs H Q _ => ∃ (o : Addr) (R S : List Row) (t : T) (x : V), vs = [.ref o, x] ∧ OrdI K C H o R S ∧ OOk R S ∧ Tm K H t x ∧ Kb.Wf (ranked R S) t ∧ t.size ≤ 10000 ∧
  ∀ H' pr od kvs, Same H H' → H od = none → SqT K H' pr [.int (Kb.W (Kb.wOf (ranked R S)) t), .ref od] → H' od = some (.dK kvs) → Kb.CntD kvs t.vars → Q (.ref pr) H'
theorem ok_weighed {C f : Addr} {fd : FuncData} {k : Nat} (F : Fun K "_weighed" "_weighed" sWeighed f fd)
    (m_isinstance : mg "isinstance" = none) (m_int : mg "int" = none) (cls : Cls K C) (na : NoAttr K C "_weights") : FnOk P w K mg base CX0 (k + 1) f fd ["order", "term"] (spWeighed K C) := by
  refine F.ok scWeighed (fun vs H Q E h => ?_) (fun cdv A outer s H vs Q E hr h => ?_)
  · obtain ⟨o, R, S, t, x, rfl, _⟩ := h
    rfl
  · obtain ⟨o, R, S, t, x, rfl, hO, ok, ht, wf, small, q⟩ := h
    refine ⟨_, (pss_cons (ps_set (i := 2) scWeighed.nd rfl (.inl rfl) pe_int)
    (pss_cons (ps_set (i := 3) scWeighed.nd rfl (.inl rfl) pe_dnewK)
    (pss_cons (ps_set (i := 4) scWeighed.nd rfl (.inl rfl) (pe_lst (pa_cons (pv 1) pa_nil)))
    (pss_cons (ps_while PassesOwn.never (pt_true (pv 4)) (pss_cons (ps_set (i := 5) scWeighed.nd rfl (.inl rfl) (pe_bm0 PySem.F.plainAttrs_list PySem.F.slot_list_pop PySem.F.type_list_pop mt_pop (pv 4)))
      (pss_one (ps_if (pt_val (pe_callB call_isi (by rfl) m_isinstance (by decide +kernel) (pa_cons (pv 5) (pa_cons (pe_bltn (v := .ty "int") (by rfl) m_int (by decide +kernel) rfl) pa_nil))))
        (pss_cons (ps_aug (i := 2) scWeighed.nd rfl (.inl rfl) pe_int ip_add)
        (pss_one (ps_dput (hu1 hr) (pv 3) (pv 5) (pe_op op_add (pe_dget2 (hu1 hr) (pv 3) (pv 5) pe_int ⟨rfl, rfl, rfl, rfl⟩) pe_int) rfl))) (pss_cons (ps_aug (i := 2) scWeighed.nd rfl (.inl rfl) (pe_dget (hu1 hr) (pe_fld (pv 0) rfl) (pe_ix ix_tup (pv 5) pe_int (fun _ _ => rfl)) (fun _ _ => rfl)) ip_add)
        (pss_one (ps_expr (pe_bm PySem.F.plainAttrs_list PySem.F.slot_list_extend PySem.F.type_list_extend mt_extT (pv 4) (pa_cons (pe_slice sl_tup (pv 5) (po_some pe_int) po_none) pa_nil)))))))))
    (pss_one (ps_ret (pe_tup (pa_cons (pv 2) (pa_cons (pv 3) pa_nil))))))))), ?_⟩
    intro d nd0
    have sm0 : Same H (upd H d (.dK [])) := same_new (fun b o e => e) nd0 _
    have m0 : (upd H d (.dK [])) d = some (.dK []) := upd_same
    generalize upd H d (.dK []) = H0 at sm0 m0
    refine ⟨x, rfl, (by show 1 ≤ sizeLine; decide), fun p2 n2 => ?_⟩
    have sm1 : Same H (upd H0 p2 (.lst [x])) := same_new sm0 n2 _
    have m1 : (upd H0 p2 (.lst [x])) d = some (.dK []) := by rw [upd_ne (ne_of_none m0 n2)]; exact m0
    have e1 : (upd H0 p2 (.lst [x])) p2 = some (.lst [x]) := upd_same
    have ht1 := Tm.mono (TK.same sm1) _ _ ht
    have n2' : H p2 = none := none_of sm0 n2
    have dl : d ≠ p2 := ne_of_none m0 n2
    generalize upd H0 p2 (.lst [x]) = H1 at sm1 m1 e1 ht1
    clear sm0 m0 n2
    have nd : ((ranked R S).map (·.1)).Nodup := ok.nd
    generalize erk : ranked R S = rk at wf nd q
    refine while_g (fun m σ G => ∃ (v5 : Option V) (acc : Int) (todo : List T) (ws : List V) (l : List Int) (kvs : List (L2.Key × V)), σ = [some (.ref o), some x, some (.int acc), some (.ref d), some (.ref p2), v5] ∧ G p2 = some (.lst ws) ∧ G d = some (.dK kvs) ∧ Same H G ∧ Tms K G todo ws ∧
      acc + Kb.WL (Kb.wOf rk) todo = Kb.W (Kb.wOf rk) t ∧ (l ++ T.varsL todo).Perm t.vars ∧ Kb.CntD kvs l ∧ (∀ u ∈ todo, Kb.Wf rk u) ∧ T.sizeL todo = m ∧ m ≤ t.size ∧ l.length ≤ t.size) ⟨t.size, none, 0, [t], [x], [], [], rfl, e1, m1, sm1, Tms.one ht1, ?_, ?_, Kb.CntD.nil, fun u hu => by cases List.mem_singleton.mp hu; exact wf, ?_, Nat.le_refl _, Nat.zero_le _⟩ ?_ ?_
    · show 0 + (Kb.W _ t + 0) = _
      omega
    · show ([] ++ (t.vars ++ [])).Perm t.vars
      rw [List.append_nil]
      exact List.Perm.refl _
    · show t.size + 0 = _
      omega
    · rintro m σ G ⟨v5, acc, todo, ws, l, kvs, rfl, g2, gd, sm, a2, sum, pm, cn, wfs, sz, mt, lt⟩
      refine ⟨_, rfl, !ws.isEmpty, .inl ⟨ws, .inl (.inl g2), rfl⟩, ?_⟩
      by_cases em : todo = []
      · subst em
        cases (show ws = [] from a2)
        refine iteF ?_
        have e : acc = Kb.W (Kb.wOf rk) t := by
          have : acc + 0 = Kb.W (Kb.wOf rk) t := sum
          omega
        subst e
        have pm' : l.Perm t.vars := by
          have z : (l ++ []).Perm t.vars := pm
          rw [List.append_nil] at z
          exact z
        refine ⟨_, rfl, .ref d, rfl, (by show 2 ≤ sizeLine; decide), fun pr np => ?_⟩
        have s5 : Same G (upd G pr (.tup [.int (Kb.W (Kb.wOf rk) t), .ref d])) := same_new (fun b o e => e) np _
        exact q _ pr d kvs (fun b o e => s5 _ _ (sm _ _ e)) nd0 (.inl (.inl upd_same)) (s5 _ _ gd) (cn.perm pm')
      · obtain ⟨us, u, ys, y, rfl, rfl, b1, b2⟩ := a2.last em
        have isT : (!(ys ++ [y]).isEmpty) = true := by cases ys <;> rfl
        rw [isT]
        refine iteT ?_
        rw [T.sizeL_append] at sz
        have sz' : T.sizeL us + (u.size + 0) = m := sz
        have up := u.size_pos
        have dl' : (ys ++ [y]).dropLast = ys := List.dropLast_concat
        rw [Kb.WL_app] at sum
        have sum' : acc + (Kb.WL (Kb.wOf rk) us + (Kb.W (Kb.wOf rk) u + 0)) = Kb.W (Kb.wOf rk) t := sum
        rw [T.varsL_append] at pm
        have pm' : (l ++ (T.varsL us ++ (u.vars ++ []))).Perm t.vars := pm
        rw [List.append_nil] at pm'
        have ly := b1.len
        have lus := T.len_sizeL us
        refine ⟨_, rfl, .inl ⟨rfl, _, .inl (.inl g2)⟩, p2, ys ++ [y], y, rfl, rfl, g2, (by rw [List.length_append, List.length_singleton, Nat.add_sub_cancel, List.getElem?_append_right (Nat.le_refl _), Nat.sub_self]; rfl), ?_⟩
        rw [dl']
        have k2 : TK G (upd G p2 (.lst ys)) := TK.lst g2 _
        have h1 : (upd G p2 (.lst ys)) d = some (.dK kvs) := by rw [upd_ne dl]; exact gd
        have h2 : (upd G p2 (.lst ys)) p2 = some (.lst ys) := upd_same
        have sm2 : Same H (upd G p2 (.lst ys)) := same_on sm n2' _
        have c2 := Tms.mono k2 _ _ b1
        have c3 := Tm.mono k2 _ _ b2
        generalize upd G p2 (.lst ys) = G2 at h1 h2 sm2 c2 c3
        have wfu := wfs u (List.mem_append_right _ (List.mem_singleton_self _))
        have wfus : ∀ u' ∈ us, Kb.Wf rk u' := fun u' h => wfs u' (List.mem_append_left _ h)
        cases u with
        | v j =>
          cases (show y = .int j from c3)
          refine ⟨.int j, rfl, _, .ty "int", .type "int", .type "int", true, rfl, .ty "int", .base (.int j), kitII, true, rfl, ?_⟩
          refine iteT ?_
          refine ⟨_, rfl, _, _, rfl, rfl, ?_⟩
          have lk := cn.len
          refine ⟨.ref d, rfl, d, rfl, .inl ⟨kvs, .inl h1⟩, .int j, rfl, _, DGet.k (k := Sum.inl j) h1, ?_⟩
          rw [cn.got j]
          refine ⟨_, _, rfl, rfl, .ref d, rfl, .int j, rfl, d, _, rfl, DPut.k (k := Sum.inl j) h1 (by rw [sizeLine_eq]; omega), ?_⟩
          have k3 := dk_tk h1 (.dK (putK kvs (.inl j) (.int ((l.count j : Nat) + 1))))
          have pj : ((l ++ [j]) ++ T.varsL us).Perm t.vars := by
            refine List.Perm.trans ?_ pm'
            rw [List.append_assoc]
            refine List.Perm.append_left l ?_
            exact List.perm_append_comm
          have ll := pj.length_eq
          have lv := T.vars_len t
          rw [List.length_append] at ll
          refine ⟨_, by show T.sizeL us < m; have z : T.size (.v j) = 1 := rfl; omega, some (.int j), acc + 1, us, ys, l ++ [j], _, rfl, by rw [upd_ne dl.symm]; exact h2, upd_same, same_on sm2 nd0 _, Tms.mono k3 _ _ c2, ?_, pj, cn.put j, wfus, rfl, by omega, by omega⟩
          have z : Kb.W (Kb.wOf rk) (.v j) = 1 := rfl
          omega
        | f nm ts =>
          have ty := tm_tuple c3
          obtain ⟨a, zs, rfl, sq, all⟩ := c3
          refine ⟨.ref a, rfl, _, .ty "int", .type "tuple", .type "int", false, rfl, .ty "int", ty, kitTI, false, rfl, ?_⟩
          refine iteF ?_
          obtain ⟨dx, bt, br, bw, bp, vs1, vs2, eO, _, _, _, _, eW, _⟩ := (hO.same sm2).ex
          have wfu' := wfu
          obtain ⟨⟨r, hr', rn, _⟩, wts⟩ := wfu'
          rw [erk] at eW
          have gw := valV_wK nd hr'
          refine ⟨_, rfl, .ref o, rfl, o, C, dx, _, _, rfl, eO, cls, na, ordF_weights bt br bw bp, .ref a, rfl, a, _, 0, .str nm, rfl, rfl, sq, atI_nat (j := 0) rfl, bw, .int r.2.2, rfl, ?_, ?_⟩
          · have := DGet.k (k := Sum.inr nm) eW
            rw [← rn, gw] at this
            rw [← rn]
            exact this
          have lz := all.len
          have lts := T.len_sizeL ts
          have z : T.size (.f nm ts) = 1 + T.sizeL ts := rfl
          refine ⟨_, _, rfl, rfl, .ref p2, rfl, .inl ⟨rfl, _, .inl (.inl h2)⟩, .ref a, rfl, 1, rfl, a, _, rfl, sq, cut_args.1, fun p3 n3 => ?_⟩
          rw [cut_args.2]
          have s3 : Same G2 (upd G2 p3 (.tup zs)) := same_new (fun b o e => e) n3 _
          have i2 := s3 _ _ h2
          have i1 := s3 _ _ h1
          have i3 : (upd G2 p3 (.tup zs)) p3 = some (.tup zs) := upd_same
          have sm3 : Same H (upd G2 p3 (.tup zs)) := fun b o e => s3 _ _ (sm2 _ _ e)
          have d2 := Tms.mono (TK.same s3) _ _ c2
          have d3 := Tms.mono (TK.same s3) _ _ all
          generalize upd G2 p3 (.tup zs) = G3 at i1 i2 i3 sm3 d2 d3
          refine ⟨p2, p3, ys, zs, rfl, rfl, i2, .inl (.inl i3), by rw [sizeLine_eq]; omega, ?_⟩
          have k4 : TK G3 (upd G3 p2 (.lst (ys ++ zs))) := TK.lst i2 _
          refine ⟨_, by show T.sizeL (us ++ ts) < m; rw [T.sizeL_append]; omega, some (.ref a), acc + Kb.wOf rk nm, us ++ ts, ys ++ zs, l, kvs, ?_, upd_same, by rw [upd_ne dl]; exact i1, same_on sm3 n2' _, Tms.app (Tms.mono k4 _ _ d2) (Tms.mono k4 _ _ d3), ?_, ?_, cn, ?_, rfl, by rw [T.sizeL_append]; omega, lt⟩
          · rw [← rn, Kb.wOf_mem nd hr']
            rfl
          · rw [Kb.WL_app]
            have z2 : Kb.W (Kb.wOf rk) (.f nm ts) = Kb.wOf rk nm + Kb.WL (Kb.wOf rk) ts := rfl
            omega
          · rw [T.varsL_append]
            exact pm'
          · intro u' hu'
            rcases List.mem_append.mp hu' with h | h
            · exact wfus u' h
            · exact Kb.wfL_mem wts h
    · exact mono_true mono_var
end
end Ad

namespace Ad
open PySem PySem.Spec PySem.Calls PyProof.Rows L2
abbrev sWay : Stmt := topS 14
theorem scWay : FnScope ["one", "other"] ["one", "other"] (defScope sWay) := ⟨rfl, rfl, rfl, by decide +kernel, rfl, by decide +kernel, by decide +kernel⟩
abbrev sOften : Stmt := topS 15
theorem scOften : FnScope ["often", "least", "variable"] ["often", "least"] (defScope sOften) := ⟨rfl, rfl, rfl, by decide +kernel, rfl, by decide +kernel, by decide +kernel⟩
section
variable {P : Program} {w : World} {K : PySem.W.Frag} {mg : Str → Option Value} {base : Heap}
def spWay : Sp := fun vs H Q _ => ∃ i j : Int, vs = [.int i, .int j] ∧ Q (if j < i then .str "above" else .str "below") H
theorem ok_way {f : Addr} {fd : FuncData} {k : Nat} (F : Fun K "_way" "_way" sWay f fd) : FnOk P w K mg base CX0 (k + 1) f fd ["one", "other"] spWay := by
  refine F.ok scWay (fun vs H Q E h => ?_) (fun cdv A outer s H vs Q E hr h => ?_)
  · obtain ⟨i, j, rfl, _⟩ := h
    rfl
  · obtain ⟨i, j, rfl, q⟩ := h
    refine ⟨_, (pss_one (ps_ret (pe_ifExp (pt_cmpR op_gt (pv 0) (pv 1) (nomark _)) pe_str pe_str))), ?_⟩
    refine ⟨.int i, rfl, .int j, rfl, _, _, rfl, rfl, _, rfl, ?_⟩
    by_cases z : j < i
    · rw [if_pos z] at q
      rw [decide_eq_true (show i > j from z)]
      exact iteT q
    · rw [if_neg z] at q
      rw [decide_eq_false (show ¬ i > j from z)]
      exact iteF q
/-- whether each variable of the second dict stands in the first one at least as often -/
noncomputable def occB (l2 l1 : List Int) : Bool := @decide (Kb.Occ l2 l1) (Classical.propDecidable _)
theorem occB_true {l2 l1 : List Int} (h : Kb.Occ l2 l1) : occB l2 l1 = true := by
  unfold occB
  exact @decide_eq_true _ (Classical.propDecidable _) h
theorem occB_false {l2 l1 : List Int} (h : ¬ Kb.Occ l2 l1) : occB l2 l1 = false := by
  unfold occB
  exact @decide_eq_false _ (Classical.propDecidable _) h
def spOften : Sp := fun vs H Q _ => ∃ (a b : Addr) (ks ls : List (L2.Key × V)) (l1 l2 : List Int), vs = [.ref a, .ref b] ∧ a ≠ b ∧ H a = some (.dK ks) ∧ H b = some (.dK ls) ∧ Kb.CntD ks l1 ∧ Kb.CntD ls l2 ∧ ∀ H', Same H H' → Q (.bl (occB l2 l1)) H'
theorem unlock_same {H : Hp} {b : Addr} {u o : HO} (h : H b = some u) : Same H (upd (upd H b o) b u) := fun c x e => by
  by_cases z : c = b
  · rw [z, upd_same]
    rw [z, h] at e
    exact e
  · rw [upd_ne z, upd_ne z]
    exact e
theorem ok_often {f : Addr} {fd : FuncData} {k : Nat} (F : Fun K "_has_as_often" "_has_as_often" sOften f fd) : FnOk P w K mg base CX0 (k + 1) f fd ["often", "least"] spOften := by
  refine F.ok scOften (fun vs H Q E h => ?_) (fun cdv A outer s H vs Q E hr h => ?_)
  · obtain ⟨a, b, ks, ls, l1, l2, rfl, _⟩ := h
    rfl
  · obtain ⟨a, b, ks, ls, l1, l2, rfl, ab, ha, hb, c1, c2, q⟩ := h
    refine ⟨_, (pss_cons (ps_lock (ps_for PassesOwn.never rfl (pi_keys (pv 1)) (pg_name (i := 2) scOften.nd rfl (.inl rfl))
      (pss_one (ps_if (pt_cmpR op_lt (pe_dget2 (hu1 hr) (pv 0) (pv 2) pe_int ⟨rfl, rfl, rfl, rfl⟩) (pe_dget (hu1 hr) (pv 1) (pv 2) (fun _ _ => rfl)) (nomark _))
        (pss_one (ps_ret pe_bl)) pss_nil))))
    (pss_one (ps_ret pe_bl))), ?_⟩
    refine ⟨b, .dK ls, hb, True.intro, fun od => ?_⟩
    have us := unlock_same (o := .frz od (.dK ls)) hb
    refine ⟨.ref b, rfl, b, od, rfl, .inl ⟨ls, upd_same, for_it walk_keys (fun i σ G => ∃ (v2 : Option V), σ = [some (.ref a), some (.ref b), v2] ∧ G = upd H b (.frz od (.dK ls)) ∧ ∀ (j : Nat) (x : Int) (v : V), j < i → ls[j]? = some (.inl x, v) → l2.count x ≤ l1.count x) ⟨none, rfl, rfl, fun j x v hj => absurd hj (Nat.not_lt_zero _)⟩ (fun i σ G _ ⟨_, _, e, _⟩ => by rw [e]; exact upd_same) ?_ ?_⟩⟩
    · rintro i y σ G G' hi ⟨v2, rfl, rfl, so⟩ ⟨rfl, kx, v, hk, rfl⟩
      obtain ⟨x, rfl, hx⟩ := c2.key kx v (List.mem_of_getElem? hk)
      have ga : (upd H b (.frz od (.dK ls))) a = some (.dK ks) := by rw [upd_ne ab]; exact ha
      have gb : (upd H b (.frz od (.dK ls))) b = some (.frz od (.dK ls)) := upd_same
      have pos : ¬ l2.count x = 0 := by
        have := List.count_pos_iff.mpr hx
        omega
      have v2' := c2.val x
      rw [if_neg pos] at v2'
      refine ⟨.ref a, rfl, a, rfl, .inl ⟨ks, .inl ga⟩, .int x, rfl, _, DGet.k (k := Sum.inl x) ga, .ref b, rfl, .int x, rfl, b, .int (l2.count x : Nat), rfl, .inl ⟨ls, .inl x, .inr ⟨od, gb⟩, rfl, v2'.symm⟩, ?_⟩
      rw [c1.got x]
      refine ⟨_, _, rfl, rfl, _, rfl, ?_⟩
      by_cases z : l1.count x < l2.count x
      · rw [decide_eq_true (by omega)]
        refine iteT ⟨gb, ?_⟩
        rw [occB_false (fun o => absurd (o x) (by omega))] at q
        exact q _ us
      · rw [decide_eq_false (by omega)]
        refine iteF ⟨_, rfl, rfl, fun j x' v' hj e => ?_⟩
        by_cases ji : j = i
        · rw [ji, hk] at e
          cases e
          omega
        · exact so j x' v' (by omega) e
    · rintro σ G ⟨v2, rfl, rfl, so⟩
      refine ⟨upd_same, ?_⟩
      have o : Kb.Occ l2 l1 := fun x => by
        by_cases z : l2.count x = 0
        · omega
        · have v2' := c2.val x
          rw [if_neg z] at v2'
          obtain ⟨p, hp, e⟩ := List.mem_map.mp (valV_in v2')
          obtain ⟨j, hj, ej⟩ := List.mem_iff_getElem.mp hp
          refine so j x p.2 hj ?_
          rw [List.getElem?_eq_getElem hj, ej, ← e]
      rw [occB_true o] at q
      exact q _ us
end
end Ad

/-! Drawn substitutions. -/
namespace Ad
open PySem PySem.Spec PySem.Calls PyProof.Rows L2
theorem sz_mono {a b : Nat} (h : a ≤ b) : sz a ≤ sz b := by
  induction h with
  | refl => exact Nat.le_refl _
  | step h ih =>
    refine Nat.le_trans ih ?_
    show sz _ ≤ 1 + 3 * sz _
    omega
theorem dn_mono {a b : Nat} (h : a ≤ b) : dn a ≤ dn b := by
  induction h with
  | refl => exact Nat.le_refl _
  | step h ih =>
    refine Nat.le_trans ih ?_
    show dn _ ≤ 2 + 3 * dn _
    omega
theorem DT.mono {R : List Row} {d e : Nat} {nv : Int} {t : T} (h : d ≤ e) (x : DT R d nv t) : DT R e nv t := ⟨x.named, Nat.le_trans x.dep (by omega), Nat.le_trans x.size (sz_mono h), x.vars, x.wf⟩
theorem rising_len : ∀ {l : List Int} {lo hi : Int}, l.Pairwise (· < ·) → (∀ i ∈ l, lo ≤ i ∧ i < hi) → lo ≤ hi → (l.length : Int) ≤ hi - lo
  | [], lo, hi, _, _, h => by
    show ((0 : Nat) : Int) ≤ hi - lo
    omega
  | a :: l, lo, hi, h1, h2, h => by
    obtain ⟨p1, p2⟩ := List.pairwise_cons.mp h1
    obtain ⟨q1, q2⟩ := h2 a List.mem_cons_self
    have := rising_len (lo := a + 1) (hi := hi) p2 (fun i hi' => ⟨by have := p1 i hi'; omega, (h2 i (List.mem_cons_of_mem _ hi')).2⟩) (by omega)
    rw [List.length_cons]
    omega
theorem Sb.mem_put {tb : Sb} {i : Int} {t : T} {e : Int × T} (h : e ∈ tb.put i t) : e = (i, t) ∨ e ∈ tb := by
  unfold Sb.put at h
  split at h
  · obtain ⟨e', he, h'⟩ := List.mem_map.mp h
    split at h'
    · rename_i z
      left
      rw [← h', z]
    · right
      rw [← h']
      exact he
  · rcases List.mem_append.mp h with z | z
    · exact .inr z
    · exact .inl (List.mem_singleton.mp z)
/-- a substitution in its one form, drawn -/
structure DSu (R : List Row) (deep : Nat) (nv : Int) (su : Sb) : Prop where
  rising : (su.map (·.1)).Pairwise (· < ·)
  each : ∀ e ∈ su, 0 ≤ e.1 ∧ e.1 < nv ∧ DT R deep nv e.2
theorem DSu.few {R : List Row} {deep : Nat} {nv : Int} {su : Sb} (h : DSu R deep nv su) (n : 0 ≤ nv) : (su.length : Int) ≤ nv := by
  have := rising_len (lo := 0) (hi := nv) h.rising (fun i hi => by
    obtain ⟨e, he, rfl⟩ := List.mem_map.mp hi
    exact ⟨(h.each e he).1, (h.each e he).2.1⟩) n
  rw [List.length_map] at this
  omega
section
variable {P : Program} {w : World} {K : PySem.W.Frag} {mg : Str → Option Value} {base : Heap}
def spDPairs (K : PySem.W.Frag) (n : Nat) : Sp := fun vs H Q _ => ∃ (p l ra : Addr) (ns : List Int) (c deep nv : Nat) (R : List Row), vs = [.ref p, .ref ra, .int (nv : Int), .int (deep : Int)] ∧ Pn.Pen H p l ns c ∧ ns.length ≤ 1000 ∧ c + nv * (2 + dn deep) ≤ 1000000000 ∧ RowsAt K H ra R ∧ ROk R ∧
  deep < n ∧ deep ≤ 50 ∧ nv ≤ 60 ∧ ∀ su x H' c', DSu R deep nv su → Su K H' su x → c' ≤ c + nv * (2 + dn deep) → Pn.Pen H' p l ns c' → Pn.But p H H' → Q x H'
end
end Ad

/-! Texts of terms and substitutions. -/
namespace Ad
open PySem PySem.Spec PySem.Calls PyProof.Rows L2
theorem tuple_piled (ts : List Str) : (tupleText ts).length ≤ 3 + piled ts := by
  unfold tupleText
  rw [strLen_append, strLen_append]
  have e1 : ((("(" : String) : Str)).length = 1 := rfl
  have e3 : (((if ts.length == 1 then ",)" else ")" : String) : Str)).length ≤ 2 := by split <;> decide
  rw [e1]
  by_cases z : ts = []
  · subst z
    have e4 : (Str.join ", " ([] : List Str)).length = 0 := rfl
    rw [e4]
    omega
  · have h2 := join_length_add ts z
    omega
theorem small_text (i : Int) (h0 : 0 ≤ i) (h : i < 64) : (toString i : Str).length ≤ 2 ∧ i.natAbs.log2 < 1920 := by
  have all : ∀ j : Fin 64, (toString ((j.val : Nat) : Int) : Str).length ≤ 2 ∧ (((j.val : Nat) : Int)).natAbs.log2 < 1920 := by decide +kernel
  have := all ⟨i.toNat, by omega⟩
  have e : ((i.toNat : Nat) : Int) = i := Int.toNat_of_nonneg h0
  rw [show (((⟨i.toNat, by omega⟩ : Fin 64).val : Nat) : Int) = i from e] at this
  exact this
namespace T
mutual
theorem text : ∀ t : T, t.named = true → (∀ j ∈ t.vars, 0 ≤ j ∧ j < 64) → t.d.showable = true ∧ t.d.shown.length + 2 ≤ 17 * t.size
  | .v i, _, h => by
    obtain ⟨a, b⟩ := h i List.mem_cons_self
    obtain ⟨s1, s2⟩ := small_text i a b
    refine ⟨decide_eq_true s2, ?_⟩
    show (toString i : Str).length + 2 ≤ 17 * 1
    omega
  | .f x ts, n, h => by
    have n' : (nameOk x && namedL ts) = true := n
    rw [Bool.and_eq_true] at n'
    obtain ⟨a, b⟩ := texts ts n'.2 h
    refine ⟨?_, ?_⟩
    · show (true && PyData.showableAll (ds ts)) = true
      rw [a]
      rfl
    · have l := tuple_piled (PyData.shownAll (.str x :: ds ts))
      have e : piled (PyData.shownAll (.str x :: ds ts)) = ((PyData.shown (.str x)).length + 2) + piled (PyData.shownAll (ds ts)) := piled_cons _ _
      have s := nameOk_short n'.1
      show (tupleText (PyData.shownAll (.str x :: ds ts))).length + 2 ≤ 17 * (1 + sizeL ts)
      omega
theorem texts : ∀ ts : List T, namedL ts = true → (∀ j ∈ varsL ts, 0 ≤ j ∧ j < 64) → PyData.showableAll (ds ts) = true ∧ piled (PyData.shownAll (ds ts)) ≤ 17 * sizeL ts
  | [], _, _ => ⟨rfl, Nat.zero_le _⟩
  | t :: ts, n, h => by
    have n' : (named t && namedL ts) = true := n
    rw [Bool.and_eq_true] at n'
    obtain ⟨a1, a2⟩ := text t n'.1 fun j hj => h j (List.mem_append_left _ hj)
    obtain ⟨b1, b2⟩ := texts ts n'.2 fun j hj => h j (List.mem_append_right _ hj)
    refine ⟨?_, ?_⟩
    · show (PyData.showable (d t) && PyData.showableAll (ds ts)) = true
      rw [a1, b1]
      rfl
    · have e : piled (PyData.shownAll (d t :: ds ts)) = ((PyData.shown (d t)).length + 2) + piled (PyData.shownAll (ds ts)) := piled_cons _ _
      show piled (PyData.shownAll (d t :: ds ts)) ≤ 17 * (size t + sizeL ts)
      rw [e]
      omega
end
mutual
theorem fill_vars {s : Int → T} {j : Int} : ∀ t : T, j ∈ (fill s t).vars → ∃ i ∈ t.vars, j ∈ (s i).vars
  | .v i, h => ⟨i, List.mem_cons_self, h⟩
  | .f x ts, h => fillL_vars ts h
theorem fillL_vars {s : Int → T} {j : Int} : ∀ ts : List T, j ∈ varsL (fillL s ts) → ∃ i ∈ varsL ts, j ∈ (s i).vars
  | [], h => by cases h
  | t :: ts, h => by
    rcases List.mem_append.mp h with z | z
    · obtain ⟨i, a, b⟩ := fill_vars t z
      exact ⟨i, List.mem_append_left _ a, b⟩
    · obtain ⟨i, a, b⟩ := fillL_vars ts z
      exact ⟨i, List.mem_append_right _ a, b⟩
end
end T
/-- a substitution's data -/
def suD (su : Sb) : PyData := .tuple (su.map fun e => .tuple [.int e.1, e.2.d])
theorem sps_dp {K : PySem.W.Frag} {H : Hp} : ∀ {su : Sb} {bs : List Addr}, F2 (SP K H) su bs → DpAll K H (bs.map V.ref) (su.map fun e => PyData.tuple [.int e.1, e.2.d])
  | [], bs, h => by
    cases (show bs = [] from h)
    exact .nil
  | e :: su, bs, h => by
    obtain ⟨b, r, rfl, ⟨v, s, t⟩, rest⟩ := h
    exact .cons (.tup s (.cons (.int _) (.cons (Tm.dp _ _ t) .nil))) (sps_dp rest)
theorem su_dp {K : PySem.W.Frag} {H : Hp} {su : Sb} {x : V} (h : Su K H su x) : Dp K H x (suD su) := by
  obtain ⟨a, bs, rfl, t, f⟩ := h
  exact .tup t.sq (sps_dp f)
/-- terms that can be shown, with few parts -/
structure Sm (m : Nat) (t : T) : Prop where
  named : t.named = true
  dep : t.dep ≤ 40
  size : t.size ≤ m
  vars : ∀ j ∈ t.vars, 0 ≤ j ∧ j < 64
theorem su_lay : ∀ {su : Sb}, (∀ e ∈ su, e.2.named = true) → PyData.canLayAll0 (su.map fun e => PyData.tuple [.int e.1, e.2.d]) = true
  | [], _ => rfl
  | e :: su, h => by
    show (PyData.canLay0 (.tuple [.int e.1, e.2.d]) && PyData.canLayAll0 (su.map _)) = true
    rw [su_lay fun e he => h e (List.mem_cons_of_mem _ he)]
    show (((PyData.canLay0 (.int e.1) && (PyData.canLay0 e.2.d && true))) && true) = true
    rw [T.d_lay _ (h e List.mem_cons_self)]
    rfl
theorem su_depth : ∀ {su : Sb}, (∀ e ∈ su, e.2.dep ≤ 40) → PyData.depthAll (su.map fun e => PyData.tuple [.int e.1, e.2.d]) ≤ 41
  | [], _ => Nat.zero_le _
  | e :: su, h => by
    show max (PyData.depth (.tuple [.int e.1, e.2.d])) (PyData.depthAll (su.map _)) ≤ 41
    have h1 := su_depth (su := su) fun e he => h e (List.mem_cons_of_mem _ he)
    have h2 : PyData.depth (.tuple [.int e.1, e.2.d]) = max 0 (max e.2.d.depth 0) + 1 := rfl
    have h3 := h e List.mem_cons_self
    rw [T.d_depth] at h2
    omega
theorem su_show {m : Nat} : ∀ {su : Sb}, (∀ e ∈ su, 0 ≤ e.1 ∧ e.1 < 64 ∧ Sm m e.2) → PyData.showableAll (su.map fun e => PyData.tuple [.int e.1, e.2.d]) = true ∧ piled (PyData.shownAll (su.map fun e => PyData.tuple [.int e.1, e.2.d])) ≤ su.length * (17 * m + 9)
  | [], _ => ⟨rfl, Nat.zero_le _⟩
  | e :: su, h => by
    obtain ⟨a, b⟩ := su_show (m := m) (su := su) fun e he => h e (List.mem_cons_of_mem _ he)
    obtain ⟨i0, i1, sm⟩ := h e List.mem_cons_self
    obtain ⟨s1, s2⟩ := T.text e.2 sm.named sm.vars
    obtain ⟨t1, t2⟩ := small_text e.1 i0 i1
    have z := sm.size
    refine ⟨?_, ?_⟩
    · show ((decide (e.1.natAbs.log2 < 1920) && (PyData.showable e.2.d && true)) && PyData.showableAll (su.map _)) = true
      rw [a, s1, decide_eq_true t2]
      rfl
    · have l := tuple_piled [PyData.shown (.int e.1), PyData.shown e.2.d]
      have p : piled [PyData.shown (.int e.1), PyData.shown e.2.d] = ((PyData.shown (.int e.1)).length + 2) + ((PyData.shown e.2.d).length + 2) := by
        rw [piled_cons, piled_cons, piled_nil]
      have t1' : (PyData.shown (.int e.1)).length ≤ 2 := t1
      have q : piled (PyData.shownAll ((e :: su).map fun e => PyData.tuple [.int e.1, e.2.d])) = ((tupleText [PyData.shown (.int e.1), PyData.shown e.2.d]).length + 2) + piled (PyData.shownAll (su.map fun e => PyData.tuple [.int e.1, e.2.d])) := piled_cons _ _
      rw [q, List.length_cons, Nat.succ_mul]
      omega
/-- a small substitution can be shown -/
theorem su_text {m : Nat} {su : Sb} (hm : m ≤ 10000) (few : su.length ≤ 64) (h : ∀ e ∈ su, 0 ≤ e.1 ∧ e.1 < 64 ∧ Sm m e.2) : (suD su).showable = true ∧ (suD su).hasDict = false ∧ (suD su).depth ≤ 60 ∧ (suD su).shown.length ≤ sizeLine := by
  obtain ⟨a, b⟩ := su_show h
  refine ⟨a, PyData.hasDict_of_canLay _ ?_, ?_, ?_⟩
  · exact su_lay fun e he => (h e he).2.2.named
  · have := su_depth (su := su) fun e he => (h e he).2.2.dep
    show PyData.depthAll (su.map _) + 1 ≤ 60
    omega
  · have l := tuple_piled (PyData.shownAll (su.map fun e => PyData.tuple [.int e.1, e.2.d]))
    have mm : su.length * (17 * m + 9) ≤ 64 * (17 * 10000 + 9) := Nat.mul_le_mul few (by omega)
    show (tupleText (PyData.shownAll (su.map fun e => PyData.tuple [.int e.1, e.2.d]))).length ≤ sizeLine
    rw [sizeLine_eq]
    omega
theorem su_shaped {su : Sb} (h : ∀ e ∈ su, e.2.named = true ∧ e.2.dep ≤ 40) : SeqAt.shaped (suD su) = true := by
  have d := su_depth (su := su) fun e he => (h e he).2
  have l := su_lay (su := su) fun e he => (h e he).1
  unfold SeqAt.shaped
  rw [Bool.and_eq_true]
  refine ⟨l, decide_eq_true ?_⟩
  show PyData.depthAll (su.map _) + 1 ≤ _
  omega
theorem eqv_one {d : PyData} (h : SeqAt.shaped d = true) : PyData.eqv d d = true := SeqAt.eqv_refl d (SeqAt.canLay_of_shaped h)
end Ad

/-! zip's next, once a pair of its own still stands. -/
namespace Zl
open PySem RZ
abbrev IsZ (h : Heap) (z TI TO : Addr) (f0 : Value) (b : Bool) : Prop :=
  h.get? z = some { cls := .type "zip", dict := none, data := .fields #[f0, .bool b, .bool false, .ref TI, .ref TO], slots := #[] }
section
variable {prog : Program} {w : World} {A : Around} {E : Value → Shared → Prop} {s : Shared}
theorem wpAny_alive {M : Model} {a : Addr} {Q : Option Obj → Shared → Prop} (h : Q (s.heap.get? a) s) : wpAny M A (loadIfAlive a) Q E s := fun _ _ _ => h
theorem not_free {z TI TO a : Addr} {b : Bool} {oa : Obj} {Q : Bool → Shared → Prop} (hz : IsZ s.heap z TI TO (rawInt a) b) (ha : s.heap.get? a = some oa)
    (h : ∀ h', IsZ h' z TI TO (rawInt a) true → Heap.SameBut z s.heap h' → Q false { s with heap := h' }) : wpAny (model prog w) A (Builtin.SmallTypes.ownedTupleIsFree (.ref z)) Q E s := by
  unfold Builtin.SmallTypes.ownedTupleIsFree
  refine wpAny_bind (wpAny_field hz rfl (x := rawInt a) rfl ?_)
  show wpAny _ _ (loadIfAlive ((a : Int)).toNat >>= _) _ _ _
  rw [Int.toNat_natCast]
  refine wpAny_bind (wpAny_alive ?_)
  rw [ha]
  show wpAny _ _ (field (.ref z) 1 >>= _) _ _ _
  refine wpAny_bind (wpAny_field hz rfl (x := .bool b) rfl ?_)
  cases b with
  | true =>
    first
      | exact wpAny_pure (h s.heap hz (Heap.SameBut.refl ..))
      | exact wpAny_bind (wpAny_pure (wpAny_pure (h s.heap hz ⟨rfl, fun _ _ _ e => e⟩)))
  | false =>
    refine wpAny_bind (wpAny_setField_rec hz (by simp) fun h₁ hz₁ hs₁ => wpAny_pure ?_)
    exact h h₁ hz₁ hs₁
theorem next2_item {z TI TO i1 i2 l1 l2 c : Addr} {k1 k2 : Nat} {xs ys : Array Value} {x y : Value} {b : Bool} {oa : Obj} {Q : Value → Shared → Prop} (D : ZipApart z TI TO i1 i2 l1 l2)
    (hz : IsZ s.heap z TI TO (rawInt c) b) (ha : s.heap.get? c = some oa) (hTI : IsPair s.heap TI (.ref i1) (.ref i2))
    (h1 : s.heap.IsTupleIter i1 l1 k1) (h2 : s.heap.IsTupleIter i2 l2 k2) (hl1 : s.heap.IsTuple l1 xs) (hl2 : s.heap.IsTuple l2 ys) (hx : xs[k1]? = some x) (hy : ys[k2]? = some y)
    (hQ : ∀ h', IsZ h' z TI TO (rawInt c) true → h'.IsTupleIter i1 l1 (k1 + 1) → h'.IsTupleIter i2 l2 (k2 + 1) → IsPair h' s.heap.objs.size x y → h'.objs.size = s.heap.objs.size + 1 →
      (∀ c o, c ≠ z → c ≠ i1 → c ≠ i2 → s.heap.get? c = some o → h'.get? c = some o) → Q (.ref s.heap.objs.size) { s with heap := h' }) :
    wpAny (model prog w) A (Builtin.«zip.__next__» ⟨[.ref z], []⟩) (fun fin s' => ∃ v, fin = .done (.ret v) ∧ Q v s') E s := by
  show wpAny _ _ (field (.ref z) 2 >>= _) _ _ _
  refine wpAny_bind (wpAny_field hz rfl (x := .bool false) rfl ?_)
  show wpAny _ _ (field (.ref z) 3 >>= _) _ _ _
  refine wpAny_bind (wpAny_field hz rfl (x := .ref TI) rfl ?_)
  refine wpAny_bind (wpAny_seqItems hTI rfl ?_)
  show wpAny _ _ (Builtin.SmallTypes.ownedTupleIsFree (.ref z) >>= _) _ _ _
  refine wpAny_bind (not_free hz ha fun h₁ hz₁ hs₁ => ?_)
  simp only [Bool.false_eq_true, if_false]
  refine wpAny_bind ?_
  simp only [List.forIn_toArray, List.forIn_cons, List.forIn_nil]
  refine wpAny_bind (wpAny_bind (wpAny_holding ?_))
  show wpAny _ _ (Builtin.SmallTypes.nextOf (.ref i1) >>= _) _ _ _
  refine wpAny_bind (nextOf_tuple_item (h1.extBut hs₁.extBut D.i1z) (hl1.extBut hs₁.extBut D.l1z) hx fun h₂ h1₂ hs₂ => wpAny_pure ?_)
  refine wpAny_pure ?_
  refine wpAny_bind (wpAny_bind (wpAny_holding ?_))
  show wpAny _ _ (Builtin.SmallTypes.nextOf (.ref i2) >>= _) _ _ _
  refine wpAny_bind (nextOf_tuple_item ((h2.extBut hs₁.extBut D.i2z).extBut hs₂.extBut D.i12.symm) ((hl2.extBut hs₁.extBut D.l2z).extBut hs₂.extBut D.l2i1) hy fun h₃ h2₃ hs₃ => wpAny_pure ?_)
  refine wpAny_pure (wpAny_pure ?_)
  refine wpAny_bind (wpAny_newTuple (hsz := by show 2 ≤ sizeLine; decide) ?_)
  have hsz : h₃.objs.size = s.heap.objs.size := by rw [hs₃.1, hs₂.1, hs₁.1]
  refine wpAny_pure ⟨_, rfl, ?_⟩
  show Q (.ref h₃.objs.size) _
  have up : ∀ c o, c ≠ z → c ≠ i1 → c ≠ i2 → s.heap.get? c = some o → h₃.get? c = some o := fun c o c1 c2 c3 e => hs₃.extBut _ _ c3 (hs₂.extBut _ _ c2 (hs₁.extBut _ _ c1 e))
  have hp : IsPair (h₃.push { cls := .type "tuple", data := .seq #[x, y] }) h₃.objs.size x y := Heap.get?_push_size _ rfl
  rw [hsz] at hp ⊢
  refine hQ _ (Heap.get?_push_of_some _ (hs₃.extBut _ _ D.i2z.symm (hs₂.extBut _ _ D.i1z.symm hz₁))) ((h1₂.extBut hs₃.extBut D.i12).at fun o e => Heap.get?_push_of_some _ e) (h2₃.at fun o e => Heap.get?_push_of_some _ e) hp (by rw [Heap.size_push, hsz]) fun c o c1 c2 c3 e => Heap.get?_push_of_some _ (up c o c1 c2 c3 e)
theorem next2_end {z TI TO i1 i2 l1 l2 c : Addr} {k1 : Nat} {xs : Array Value} {b : Bool} {oa : Obj} {Q : Fin → Shared → Prop} (hh : A.handled = none) (D : ZipApart z TI TO i1 i2 l1 l2)
    (hz : IsZ s.heap z TI TO (rawInt c) b) (ha : s.heap.get? c = some oa) (hTI : IsPair s.heap TI (.ref i1) (.ref i2))
    (h1 : s.heap.IsTupleIter i1 l1 k1) (hl1 : s.heap.IsTuple l1 xs) (hx : xs[k1]? = none)
    (hE : ∀ h' e, (∀ c o, c ≠ z → c ≠ i1 → s.heap.get? c = some o → h'.get? c = some o) → (∃ o, h'.get? e = some o ∧ o.cls = .type "StopIteration") → E (.ref e) { s with heap := h' }) :
    wpAny (model prog w) A (Builtin.«zip.__next__» ⟨[.ref z], []⟩) Q E s := by
  show wpAny _ _ (field (.ref z) 2 >>= _) _ _ _
  refine wpAny_bind (wpAny_field hz rfl (x := .bool false) rfl ?_)
  show wpAny _ _ (field (.ref z) 3 >>= _) _ _ _
  refine wpAny_bind (wpAny_field hz rfl (x := .ref TI) rfl ?_)
  refine wpAny_bind (wpAny_seqItems hTI rfl ?_)
  show wpAny _ _ (Builtin.SmallTypes.ownedTupleIsFree (.ref z) >>= _) _ _ _
  refine wpAny_bind (not_free hz ha fun h₁ hz₁ hs₁ => ?_)
  simp only [Bool.false_eq_true, if_false]
  refine wpAny_bind ?_
  simp only [List.forIn_toArray, List.forIn_cons, List.forIn_nil]
  refine wpAny_bind (wpAny_bind (wpAny_holding ?_))
  show wpAny _ _ (Builtin.SmallTypes.nextOf (.ref i1) >>= _) _ _ _
  refine wpAny_bind (nextOf_tuple_end hh (h1.extBut hs₁.extBut D.i1z) (hl1.extBut hs₁.extBut D.l1z) hx fun h₂ e hs₂ he => ?_)
  exact hE h₂ e (fun c o c1 c2 x => hs₂ _ _ c2 (hs₁.extBut _ _ c1 x)) he
theorem pyNext2_item {z TI TO i1 i2 l1 l2 c : Addr} {k1 k2 : Nat} {xs ys : Array Value} {x y : Value} {b : Bool} {oa : Obj} {Q : Option Value → Shared → Prop} (D : ZipApart z TI TO i1 i2 l1 l2)
    (hz : IsZ s.heap z TI TO (rawInt c) b) (ha : s.heap.get? c = some oa) (hTI : IsPair s.heap TI (.ref i1) (.ref i2))
    (h1 : s.heap.IsTupleIter i1 l1 k1) (h2 : s.heap.IsTupleIter i2 l2 k2) (hl1 : s.heap.IsTuple l1 xs) (hl2 : s.heap.IsTuple l2 ys) (hx : xs[k1]? = some x) (hy : ys[k2]? = some y)
    (hQ : ∀ h', IsZ h' z TI TO (rawInt c) true → h'.IsTupleIter i1 l1 (k1 + 1) → h'.IsTupleIter i2 l2 (k2 + 1) → IsPair h' s.heap.objs.size x y → h'.objs.size = s.heap.objs.size + 1 →
      (∀ c o, c ≠ z → c ≠ i1 → c ≠ i2 → s.heap.get? c = some o → h'.get? c = some o) → Q (some (.ref s.heap.objs.size)) { s with heap := h' }) :
    wpAny (model prog w) A (pyNext (.ref z)) Q E s := by
  have hT : s.TypeIs (.ref z) "zip" := ⟨_, hz, rfl⟩
  unfold pyNext
  exact wpAny_bind (wpAny_attempt (wpAny_callSpecial?_slot (name := Str.ofString "__next__") hT F.slot_zip_next
    (wpAny_call_entry F.slot_zip_next hT F.entry_zip_next
      (next2_item D hz ha hTI h1 h2 hl1 hl2 hx hy fun h' a1 a2 a3 a4 a5 a6 => wpAny_pure (hQ h' a1 a2 a3 a4 a5 a6)) (F.args_zip_next_1 _))))
theorem pyNext2_end {z TI TO i1 i2 l1 l2 c : Addr} {k1 : Nat} {xs : Array Value} {b : Bool} {oa : Obj} {Q : Option Value → Shared → Prop} (hh : A.handled = none) (D : ZipApart z TI TO i1 i2 l1 l2)
    (hz : IsZ s.heap z TI TO (rawInt c) b) (ha : s.heap.get? c = some oa) (hTI : IsPair s.heap TI (.ref i1) (.ref i2))
    (h1 : s.heap.IsTupleIter i1 l1 k1) (hl1 : s.heap.IsTuple l1 xs) (hx : xs[k1]? = none)
    (hQ : ∀ h', (∀ c o, c ≠ z → c ≠ i1 → s.heap.get? c = some o → h'.get? c = some o) → Q none { s with heap := h' }) : wpAny (model prog w) A (pyNext (.ref z)) Q E s := by
  have hT : s.TypeIs (.ref z) "zip" := ⟨_, hz, rfl⟩
  unfold pyNext
  refine wpAny_bind (wpAny_attempt (wpAny_callSpecial?_slot (name := Str.ofString "__next__") hT F.slot_zip_next
    (wpAny_call_entry F.slot_zip_next hT F.entry_zip_next (next2_end hh D hz ha hTI h1 hl1 hx fun h' e hk he => ?_) (F.args_zip_next_1 _))))
  obtain ⟨o, ho, hc⟩ := he
  refine wpAny_bind (wpAny_isInstance (T := "StopIteration") (b := true) ⟨o, ho, hc⟩ isSubtype_stop ?_)
  exact wpAny_pure (hQ _ hk)
end
end Zl

/-! list(zip(t, u)) of two tuples of one length. -/
namespace Zl
open PySem PySem.Spec PySem.Calls PyProof.Rows L2 RZ
/-- where the walk stands -/
structure ZSt (h : Heap) (z TI TO i1 i2 a b : Addr) (k : Nat) : Prop where
  zip : (IsZip h z TI TO .none) ∨ ∃ c bb oa, IsZ h z TI TO (rawInt (c : Nat)) bb ∧ h.get? c = some oa ∧ c ≠ z ∧ c ≠ TI ∧ c ≠ TO ∧ c ≠ i1 ∧ c ≠ i2
  ti : IsPair h TI (.ref i1) (.ref i2)
  to : ∃ x y, IsPair h TO x y
  it1 : h.IsTupleIter i1 a k
  it2 : h.IsTupleIter i2 b k
/-- pairs stand at cs -/
def Prs (G : Hp) (xs ys : List V) (cs : List Addr) : Prop := ∀ (i : Nat) (c : Addr), cs[i]? = some c → ∃ x y, xs[i]? = some x ∧ ys[i]? = some y ∧ G c = some (.tup [x, y])
section
variable {X : Cx} {pins : List (Addr × Obj)} {σ : L2.St} {H : Hp}
theorem loop {A : Around} {R : Result → Shared → Prop} {S z TI TO i1 i2 a b : Addr} {xs ys : List V} {res : Value} (hh : A.handled = none) (D : ZipApart z TI TO i1 i2 a b) (len : xs.length = ys.length) (few : xs.length ≤ sizeLine) (nS : H S = none)
    (hR : ∀ s' G' cs, Inv X pins σ G' s' → Same H G' → G' S = some (.lst (cs.map V.ref)) → cs.length = xs.length → Prs G' xs ys cs → R (.ok (.ret res)) s') :
    ∀ (m k : Nat) (s : Shared) (G : Hp) (cs : List Addr), xs.length = k + m → Inv X pins σ G s → Same H G → G S = some (.lst (cs.map V.ref)) → cs.length = k → Prs G xs ys cs → SqT X.K G a xs → SqT X.K G b ys → (∀ c ∈ [z, TI, TO, i1, i2], FpOk X pins G c) → ZSt s.heap z TI TO i1 i2 a b k →
      codeAny (model X.prog X.w) A (.builtin "list.extend.loop" ⟨[.ref S, .ref z, res], []⟩) R s := by
  intro m
  induction m with
  | zero =>
    intro k s G cs hk I sm gS lcs prs sa sb fp st
    obtain ⟨its, rv, p, _⟩ := I.tuple sa
    obtain ⟨its2, rv2, p2, _⟩ := I.tuple sb
    have l1 := rv.length
    have e1 : its.toArray[k]? = none := by simp; omega
    refine codeAny_builtin F.entry_extend_loop ?_
    rw [Around.under_plainId F.plain_extend_loop _]
    show wpAny _ A.in1 (pyNext (.ref z) >>= _) _ _ s
    obtain ⟨zip, ti, ⟨x0, y0, to⟩, it1, it2⟩ := st
    have fin : ∀ h' : Heap, (∀ c o, c ∉ [z, TI, TO, i1, i2] → s.heap.get? c = some o → h'.get? c = some o) → R (.ok (.ret res)) { s with heap := h' } := fun h' hk' =>
      hR _ G cs (I.turnedL (t' := s.toks) (ch := [z, TI, TO, i1, i2]) hk' fp) sm gS (by omega) prs
    rcases zip with zip | ⟨c, bb, oa, zip, alive, _⟩
    · refine wpAny_bind (pyNext_zipT_end (A := A.in1) hh D zip ti to it1 it2 p p2 (.inl e1) fun h' hk' => wpAny_pure (fin h' fun c o hc e => ?_))
      exact hk' c o (fun q => hc (by simp [q])) (fun q => hc (by simp [q])) (fun q => hc (by simp [q])) (fun q => hc (by simp [q])) e
    · refine wpAny_bind (pyNext2_end (A := A.in1) hh D zip alive ti it1 p e1 fun h' hk' => wpAny_pure (fin h' fun c o hc e => ?_))
      exact hk' c o (fun q => hc (by simp [q])) (fun q => hc (by simp [q])) e
  | succ m ih =>
    intro k s G cs hk I sm gS lcs prs sa sb fp st
    obtain ⟨its, rv, p, _⟩ := I.tuple sa
    obtain ⟨its2, rv2, p2, _⟩ := I.tuple sb
    have hx : xs[k]? = some xs[k] := List.getElem?_eq_getElem (by omega)
    have hy : ys[k]? = some ys[k] := List.getElem?_eq_getElem (by omega)
    generalize xs[k] = x at hx
    generalize ys[k] = y at hy
    obtain ⟨u, hu, ru⟩ := rv.get hx
    obtain ⟨u2, hu2, ru2⟩ := rv2.get hy
    refine codeAny_builtin F.entry_extend_loop ?_
    rw [Around.under_plainId F.plain_extend_loop _]
    show wpAny _ A.in1 (pyNext (.ref z) >>= _) _ _ s
    obtain ⟨zip, ti, ⟨x0, y0, to⟩, it1, it2⟩ := st
    have lt : ∀ {c o}, s.heap.get? c = some o → s.heap.objs.size ≠ c := fun e => Nat.ne_of_gt (Heap.lt_size e)
    have nz : s.heap.objs.size ≠ z := by
      rcases zip with q | ⟨_, _, _, q, _⟩
      · exact lt q
      · exact lt q
    have nTI := lt ti
    have nTO := lt to
    have n1 : s.heap.objs.size ≠ i1 := by obtain ⟨_, e, _⟩ := it1; exact lt e
    have n2 : s.heap.objs.size ≠ i2 := by obtain ⟨_, e, _⟩ := it2; exact lt e
    have on : ∀ h' : Heap, (∀ c o, c ∉ [z, TI, TO, i1, i2] → s.heap.get? c = some o → h'.get? c = some o) → IsPair h' s.heap.objs.size u u2 → ZSt h' z TI TO i1 i2 a b (k + 1) →
        wpAny (model X.prog X.w) A.in1 (updateSeq S (·.push (.ref s.heap.objs.size)) >>= fun _ => again (.builtin "list.extend.loop" ⟨[.ref S, .ref z, res], []⟩))
          (fun fin s' => match fin with | .done f => R (.ok f) s' | .again c' => c'.quiet = true ∧ codeAny (model X.prog X.w) A c' R s') (fun e s' => R (.error e) s') { s with heap := h' } := by
      intro h' hk' hp st'
      have new : ObjOk X.prog X.w (upd G s.heap.objs.size (.tup [x, y])) h' s.heap.objs.size (.tup [x, y]) := ⟨by show 2 ≤ sizeLine; decide, [u, u2], .cons ru (.cons ru2 .nil), ⟨_, hp, rfl, _, rfl⟩⟩
      have fr := I.hok.fresh (Nat.le_refl s.heap.objs.size)
      have I1 : Inv X pins σ (upd G s.heap.objs.size (.tup [x, y])) { s with heap := h' } := I.turnedNew (t' := s.toks) (ch := [z, TI, TO, i1, i2]) hk' fp (Nat.le_refl _) new
      have k1 : Same G (upd G s.heap.objs.size (.tup [x, y])) := fun c o e => by
        rw [upd_ne (ne_of_none e fr)]
        exact e
      have gS1 := k1 _ _ gS
      have m1 : (upd G s.heap.objs.size (.tup [x, y])) s.heap.objs.size = some (.tup [x, y]) := upd_same
      have fp1 : ∀ c ∈ [z, TI, TO, i1, i2], FpOk X pins (upd G s.heap.objs.size (.tup [x, y])) c := by
        intro c hc
        obtain ⟨q1, q2⟩ := fp c hc
        refine ⟨?_, q2⟩
        rw [upd_ne (fun q => ?_)]
        · exact q1
        · simp only [List.mem_cons, List.mem_nil_iff, or_false] at hc
          rcases hc with e | e | e | e | e <;> rw [e] at q <;> first | exact nz q.symm | exact nTI q.symm | exact nTO q.symm | exact n1 q.symm | exact n2 q.symm
      have sa1 : SqT X.K (upd G s.heap.objs.size (.tup [x, y])) a xs := by
        rcases sa with (q | ⟨o, q⟩) | q
        · exact .inl (.inl (k1 _ _ q))
        · exact .inl (.inr ⟨o, k1 _ _ q⟩)
        · exact .inr q
      have sb1 : SqT X.K (upd G s.heap.objs.size (.tup [x, y])) b ys := by
        rcases sb with (q | ⟨o, q⟩) | q
        · exact .inl (.inl (k1 _ _ q))
        · exact .inl (.inr ⟨o, k1 _ _ q⟩)
        · exact .inr q
      have prs1 : Prs (upd G s.heap.objs.size (.tup [x, y])) xs ys cs := fun i c e => by
        obtain ⟨x', y', q1, q2, q3⟩ := prs i c e
        exact ⟨x', y', q1, q2, k1 _ _ q3⟩
      have sm1 : Same H (upd G s.heap.objs.size (.tup [x, y])) := fun c o e => k1 _ _ (sm _ _ e)
      generalize upd G s.heap.objs.size (.tup [x, y]) = G1 at I1 gS1 m1 fp1 sa1 sb1 prs1 sm1
      clear new fr k1
      obtain ⟨_, itsS, nn, rS, hlS, eS⟩ := I1.lstM gS1
      have lS := rS.length
      rw [List.length_map] at lS
      have I2 : Inv X pins σ (upd G1 S (.lst (cs.map V.ref ++ [.ref s.heap.objs.size]))) { ({ s with heap := h' } : Shared) with heap := h'.update S (Obj.mapSeq (·.push (.ref s.heap.objs.size))), toks := s.toks } :=
        I1.lset (its' := itsS ++ [Value.ref s.heap.objs.size]) gS1 eS (by simp) (rS.append (.cons (show L2.RelV (V.ref s.heap.objs.size) (Value.ref s.heap.objs.size) from rfl) .nil)) (by rw [List.length_append, List.length_map, List.length_singleton]; omega)
      have offS : ∀ c ∈ [z, TI, TO, i1, i2], c ≠ S := fun c hc q => by
        have := (fp1 c hc).1
        rw [q, gS1] at this
        cases this
      refine wpAny_bind (wpAny_updateSeq eS rfl (wpAny_pure ⟨plainId_quiet F.plain_extend_loop _, ?_⟩) (by rw [List.size_toArray]; omega) (by show (itsS.toArray.push _).size ≤ sizeLine + 1; rw [Array.size_push, List.size_toArray]; omega))
      have other : ∀ {c o}, c ≠ S → h'.get? c = some o → (h'.update S (Obj.mapSeq (·.push (.ref s.heap.objs.size)))).get? c = some o := fun n e => (Heap.get?_update_other _ _ (Ne.symm n)).trans e
      have bS : ∀ {c o}, G1 c = some o → (∀ l, o ≠ .lst l) → c ≠ S := fun e n q => by
        rw [q, gS1] at e
        exact n _ (Option.some.inj e).symm
      have k2 : ∀ {c o}, G1 c = some o → (∀ l, o ≠ .lst l) → (upd G1 S (.lst (cs.map V.ref ++ [.ref s.heap.objs.size]))) c = some o := fun e n => by
        rw [upd_ne (bS e n)]
        exact e
      refine ih (k + 1) _ (upd G1 S (.lst (cs.map V.ref ++ [.ref s.heap.objs.size]))) (cs ++ [s.heap.objs.size]) (by omega) I2 (fun c o e => ?_) (by rw [List.map_append]; exact upd_same) (by rw [List.length_append, List.length_singleton, lcs]) ?_ ?_ ?_ ?_ ?_
      · rw [upd_ne (ne_of_none e nS)]
        exact sm1 _ _ e
      · intro i c e
        rw [List.getElem?_append] at e
        split at e
        · obtain ⟨x', y', q1, q2, q3⟩ := prs1 i c e
          exact ⟨x', y', q1, q2, k2 q3 (by intro l q; cases q)⟩
        · rename_i hlt
          have i0 : i = k := by
            cases hi : i - cs.length with
            | zero => omega
            | succ j =>
              rw [hi] at e
              cases e
          subst i0
          rw [lcs, Nat.sub_self] at e
          cases e
          exact ⟨x, y, hx, hy, k2 m1 (by intro l q; cases q)⟩
      · rcases sa1 with (q | ⟨o, q⟩) | q
        · exact .inl (.inl (k2 q (by intro l q; cases q)))
        · exact .inl (.inr ⟨o, k2 q (by intro l q; cases q)⟩)
        · exact .inr q
      · rcases sb1 with (q | ⟨o, q⟩) | q
        · exact .inl (.inl (k2 q (by intro l q; cases q)))
        · exact .inl (.inr ⟨o, k2 q (by intro l q; cases q)⟩)
        · exact .inr q
      · intro c hc
        obtain ⟨q1, q2⟩ := fp1 c hc
        exact ⟨by rw [upd_ne (offS c hc)]; exact q1, q2⟩
      · obtain ⟨zip', ti', ⟨x1, y1, to'⟩, it1', it2'⟩ := st'
        refine ⟨?_, other (offS TI (by simp)) ti', ⟨x1, y1, other (offS TO (by simp)) to'⟩, it1'.at fun o e => other (offS i1 (by simp)) e, it2'.at fun o e => other (offS i2 (by simp)) e⟩
        rcases zip' with q | ⟨c, bb, oa, q, al, r⟩
        · exact .inl (other (offS z (by simp)) q)
        · by_cases hc : c = S
          · have al' := al
            rw [hc, eS] at al'
            cases al'
            have e5 := Heap.get?_update_self (Obj.mapSeq (·.push (.ref s.heap.objs.size))) eS rfl
            exact .inr ⟨c, bb, _, other (offS z (by simp)) q, by rw [hc]; exact e5, r⟩
          · exact .inr ⟨c, bb, oa, other (offS z (by simp)) q, other hc al, r⟩
    rcases zip with zip | ⟨c, bb, oa, zip, alive, c1, c2, c3, c4, c5⟩
    · refine wpAny_bind (pyNext_zipT_item (A := A.in1) D zip ti to it1 it2 p p2 (x := u) (y := u2) (by simpa using hu) (by simpa using hu2) fun h' z' TO' h1' h2' hT hsz hk' => ?_)
      refine on h' (fun c o hc e => hk' c o (fun q => hc (by simp [q])) (fun q => hc (by simp [q])) (fun q => hc (by simp [q])) (fun q => hc (by simp [q])) e) hT ?_
      exact ⟨.inr ⟨_, false, _, z', hT, nz, nTI, nTO, n1, n2⟩, hk' _ _ D.TIz D.TITO D.TIi1 D.TIi2 ti, ⟨_, _, TO'⟩, h1', h2'⟩
    · refine wpAny_bind (pyNext2_item (A := A.in1) D zip alive ti it1 it2 p p2 (x := u) (y := u2) (by simpa using hu) (by simpa using hu2) fun h' z' h1' h2' hT hsz hk' => ?_)
      refine on h' (fun c o hc e => hk' c o (fun q => hc (by simp [q])) (fun q => hc (by simp [q])) (fun q => hc (by simp [q])) e) hT ?_
      exact ⟨.inr ⟨c, true, oa, z', hk' _ _ c1 c4 c5 alive, c1, c2, c3, c4, c5⟩, hk' _ _ D.TIz D.TIi1 D.TIi2 ti, ⟨_, _, hk' _ _ D.TOz D.TOi1 D.TOi2 to⟩, h1', h2'⟩
end
end Zl

/-! list(zip(t, u)) as an expression. -/
namespace Zl
open PySem PySem.Spec PySem.Calls PyProof.Rows L2 RZ
theorem zip_no_len : typeLookup (.type "zip") "__len__" = pure none := by rw [typeLookup_type, builtinLookup_eq_fast]; kernel_rfl
theorem zip_no_hint : typeLookup (.type "zip") "__length_hint__" = pure none := by rw [typeLookup_type, builtinLookup_eq_fast]; kernel_rfl
section
variable {X : Cx} {pins : List (Addr × Obj)} {σ : L2.St}
theorem extend {A : Around} {R : Result → Shared → Prop} {S z TI TO i1 i2 a b : Addr} {xs ys : List V} {res : Value} {H G : Hp} {s : Shared} (hh : A.handled = none) (D : ZipApart z TI TO i1 i2 a b) (len : xs.length = ys.length) (few : xs.length ≤ sizeLine) (nS : H S = none)
    (I : Inv X pins σ G s) (sm : Same H G) (gS : G S = some (.lst [])) (sa : SqT X.K G a xs) (sb : SqT X.K G b ys) (fp : ∀ c ∈ [z, TI, TO, i1, i2], FpOk X pins G c) (zip : IsZip s.heap z TI TO .none) (ti : IsPair s.heap TI (.ref i1) (.ref i2)) (to : IsPair s.heap TO .none .none) (it1 : s.heap.IsTupleIter i1 a 0) (it2 : s.heap.IsTupleIter i2 b 0)
    (hR : ∀ s' G' cs, Inv X pins σ G' s' → Same H G' → G' S = some (.lst (cs.map V.ref)) → cs.length = xs.length → Prs G' xs ys cs → R (.ok (.ret res)) s') :
    wpAny (model X.prog X.w) A.in1 (Builtin.List.listExtendWith (.ref S) (.ref z) res)
      (fun fin s' => match fin with | .done f => R (.ok f) s' | .again c' => c'.quiet = true ∧ codeAny (model X.prog X.w) A c' R s') (fun e s' => R (.error e) s') s := by
  have offS : ∀ c ∈ [z, TI, TO, i1, i2], c ≠ S := fun c hc q => by
    have := (fp c hc).1
    rw [q, gS] at this
    cases this
  have hT : s.TypeIs (.ref z) "zip" := ⟨_, zip, rfl⟩
  unfold Builtin.List.listExtendWith
  refine wpAny_bind (wpAny_typeOf hT ?_)
  have h1 : Builtin.List.listSameRef (.ref S) (.ref z) = false := by simp [Builtin.List.listSameRef, Ne.symm (offS z (by simp))]
  have h2 : (Value.type "zip" == Value.type "list") = false := by decide
  have h3 : (Value.type "zip" == Value.type "tuple") = false := by decide
  simp only [h1, h2, h3, Bool.or_false, Bool.false_eq_true, if_false]
  refine wpAny_bind (wpAny_pyIter_zip zip ?_)
  refine wpAny_bind (wpAny_holding ?_)
  unfold Builtin.List.listLengthHint
  refine wpAny_bind (wpAny_specialOf hT zip_no_len ?_)
  show wpAny _ A.in1 (specialOf (Value.ref z) (Str.ofString "__length_hint__") >>= _) _ _ _
  refine wpAny_bind (wpAny_specialOf hT zip_no_hint ?_)
  refine wpAny_pure ?_
  show wpAny _ A.in1 (rule "list.extend.makes-room" >>= fun _ => Builtin.List.listTouch (.ref S) >>= fun _ =>
    again (.builtin "list.extend.loop" ⟨[.ref S, .ref z, res], []⟩)) _ _ _
  refine wpAny_bind (wpAny_rule ?_)
  refine wpAny_bind ?_
  show wpAny _ A.in1 (updateSeq S (·.push .none) >>= fun _ => updateSeq S (·.pop)) _ _ _
  obtain ⟨_, its, nn, r0, hl0, e0⟩ := I.lstM gS
  have i0 : its = [] := by cases r0; rfl
  subst i0
  refine wpAny_bind (wpAny_updateSeq e0 rfl ?_)
  have I1 : Inv X pins σ (upd G S (.lst [.non])) { s with heap := s.heap.update S (Obj.mapSeq (·.push .none)), toks := s.toks } := I.lset (its' := [Value.none]) gS e0 (by simp) (.cons (show L2.RelV V.non Value.none from rfl) .nil) (by show 1 ≤ sizeLine; decide)
  have g1 : (upd G S (.lst [.non])) S = some (.lst [.non]) := upd_same
  have e1 := Heap.get?_update_self (Obj.mapSeq (·.push Value.none)) e0 rfl
  refine wpAny_updateSeq (hz := by seq_fits) e1 rfl ?_
  have I2 : Inv X pins σ (upd (upd G S (.lst [.non])) S (.lst [])) { ({ s with heap := s.heap.update S (Obj.mapSeq (·.push .none)) } : Shared) with heap := (s.heap.update S (Obj.mapSeq (·.push .none))).update S (Obj.mapSeq (·.pop)), toks := s.toks } := by
    obtain ⟨_, its2, nn2, r2, hl2, e2⟩ := I1.lstM g1
    obtain ⟨u0, rfl, _⟩ := Vals.one r2
    exact I1.lset (its := [u0]) (its' := []) g1 e2 (by simp) .nil (Nat.zero_le _)
  have other : ∀ {c o}, c ≠ S → s.heap.get? c = some o → ((s.heap.update S (Obj.mapSeq (·.push .none))).update S (Obj.mapSeq (·.pop))).get? c = some o := fun n e => (Heap.get?_update_other _ _ (Ne.symm n)).trans ((Heap.get?_update_other _ _ (Ne.symm n)).trans e)
  have k2 : ∀ {c o}, G c = some o → (∀ l, o ≠ .lst l) → (upd (upd G S (.lst [.non])) S (.lst [])) c = some o := fun {c o} e n => by
    have q : c ≠ S := fun q => by
      rw [q, gS] at e
      exact n _ (Option.some.inj e).symm
    rw [upd_ne q, upd_ne q]
    exact e
  refine wpAny_pure ⟨plainId_quiet F.plain_extend_loop _, loop hh D len few nS hR xs.length 0 _ _ [] (by omega) I2 (fun c o e => ?_) upd_same rfl (fun i c e => nomatch e) ?_ ?_ (fun c hc => ?_) ⟨.inl (other (offS z (by simp)) zip), other (offS TI (by simp)) ti, ⟨_, _, other (offS TO (by simp)) to⟩, it1.at fun o e => other (offS i1 (by simp)) e, it2.at fun o e => other (offS i2 (by simp)) e⟩⟩
  · rw [upd_ne (ne_of_none e nS), upd_ne (ne_of_none e nS)]
    exact sm _ _ e
  · rcases sa with (q | ⟨o, q⟩) | q
    · exact .inl (.inl (k2 q (by intro l q; cases q)))
    · exact .inl (.inr ⟨o, k2 q (by intro l q; cases q)⟩)
    · exact .inr q
  · rcases sb with (q | ⟨o, q⟩) | q
    · exact .inl (.inl (k2 q (by intro l q; cases q)))
    · exact .inl (.inr ⟨o, k2 q (by intro l q; cases q)⟩)
    · exact .inr q
  · obtain ⟨q1, q2⟩ := fp c hc
    exact ⟨by rw [upd_ne (offS c hc), upd_ne (offS c hc)]; exact q1, q2⟩
def tListZip (K : PySem.W.Frag) (ta : TA) : TE := fun σ H Q => ta σ H fun vs H1 => ∃ a b xs ys, vs = [.ref a, .ref b] ∧ SqT K H1 a xs ∧ SqT K H1 b ys ∧ xs.length = ys.length ∧
  ∀ G p cs, Same H1 G → H1 p = none → G p = some (.lst (cs.map V.ref)) → cs.length = xs.length → Prs G xs ys cs → Q (.ref p) G
theorem pe_listZip {e1 e2 : Expr} {ta : TA} {p p2 pos pos2 : Pos} (ha : PA X [e1, e2] ta) (hgl : Gl X "list") (hml : X.mg "list" = none) (hgz : Gl X "zip") (hmz : X.mg "zip" = none) (calm : X.calm = true)
    (hs : starEach [e1, e2] X.env = (false, eval e1 X.env) :: starEach [e2] X.env := by rfl) (hpl : (backTo pos2 (starEach [e2] X.env)).any (·.1) = false := by rfl)
    (he : starEach [.Call (.Name "zip" p2) [e1, e2] [] pos2] X.env = (false, eval (.Call (.Name "zip" p2) [e1, e2] [] pos2) X.env) :: starEach [] X.env := by rfl) :
    PE X (.Call (.Name "list" p) [.Call (.Name "zip" p2) [e1, e2] [] pos2] [] pos) (tListZip X.K ta) := by
  refine ⟨fun pins s σ H Q I h => ?_⟩
  refine wpAny_Call_Name_kw (ld_blt I hgl hml boot_list ?_)
  refine PyProof.Rows.callWith_type1 ?_ he rfl
  rw [he]
  show wpAny _ _ (spliced ((false, eval _ X.env) :: backTo pos (starEach [] X.env))) _ _ s
  refine Calls.spliced_cons ?_
  refine wpAny_Call_Name_kw (ld_blt I hgz hmz PyProof.Rows.boot_zip (PyProof.Rows.callWith_type1 (thn (ha.run pos2 pins s σ H _ I h) fun us s1 ⟨vs, H1, I1, r1, q1⟩ => ?_) hs hpl))
  obtain ⟨a, b, xs, ys, ex, sa, sb, len, q⟩ := q1
  subst ex
  cases r1 with
  | cons r rr =>
    cases rr with
    | cons r' rr =>
      cases rr
      cases r
      cases r'
      obtain ⟨its, rv, p1, few⟩ := I1.tuple sa
      obtain ⟨its2, rv2, p2, _⟩ := I1.tuple sb
      have la : a < s1.heap.objs.size := p1.lt
      have lb : b < s1.heap.objs.size := p2.lt
      refine call_zipT p1 p2 fun h' hz hTI hTO h1 h2 hsz hk => ?_
      refine Calls.spliced_nil ?_
      have I2 : Inv X pins σ H1 { s1 with heap := h' } := I1.kept (t' := s1.toks) hk
      have fp2 : ∀ c ∈ [s1.heap.objs.size + 4, s1.heap.objs.size + 2, s1.heap.objs.size + 3, s1.heap.objs.size, s1.heap.objs.size + 1], FpOk X pins H1 c ∧ c < h'.objs.size := by
        intro c hcm
        have e' : c = s1.heap.objs.size + 4 ∨ c = s1.heap.objs.size + 2 ∨ c = s1.heap.objs.size + 3 ∨ c = s1.heap.objs.size ∨ c = s1.heap.objs.size + 1 := by simpa using hcm
        have hle : s1.heap.objs.size ≤ c := by
          rcases e' with z | z | z | z | z <;> rw [z] <;> omega
        refine ⟨I1.fpOk hle (I1.hok.fresh hle), ?_⟩
        rcases e' with z | z | z | z | z <;> rw [z, hsz] <;> omega
      have nS : H1 h'.objs.size = none := I2.hok.fresh (Nat.le_refl _)
      refine callType_codes (Q₁ := fun obj s₁ => obj = .ref h'.objs.size ∧ s₁ = { ({ s1 with heap := h' } : Shared) with heap := h'.push { cls := .type "list", data := .seq #[] } }) F.called_list (F.typeCall_list_1 _) F.entry_list_init
        (code_list_new _ ⟨rfl, rfl⟩) fun obj s₁ h₁ => ?_
      obtain ⟨rfl, rfl⟩ := h₁
      have hS : (h'.push { cls := .type "list", data := .seq #[] }).get? h'.objs.size = some { cls := .type "list", data := .seq #[] } := Heap.get?_push_size _ rfl
      have I3 : Inv X pins σ (upd H1 h'.objs.size (.lst [])) { ({ s1 with heap := h' } : Shared) with heap := h'.push { cls := .type "list", data := .seq #[] }, toks := s1.toks } := I2.lnew (its := []) .nil (Nat.zero_le _)
      have g3 : (upd H1 h'.objs.size (.lst [])) h'.objs.size = some (.lst []) := upd_same
      refine ⟨⟨_, hS, rfl⟩, F.args_list_init_2 _ _, ?_⟩
      show wpAny _ _ (do let old ← Builtin.List.listItems (.ref h'.objs.size); Builtin.List.listUpdate (.ref h'.objs.size) (fun _ => #[]); letGo old.toList.reverse; Builtin.List.listExtendWith (.ref h'.objs.size) (.ref (s1.heap.objs.size + 4)) .none) _ _ _
      refine wpAny_bind ?_
      unfold Builtin.List.listItems
      refine wpAny_bind (wpAny_seqItems hS rfl (wpAny_pure ?_))
      show wpAny _ _ (updateSeq h'.objs.size (fun _ => #[]) >>= fun _ => letGo (#[] : Array Value).toList.reverse >>= fun _ => Builtin.List.listExtendWith (.ref h'.objs.size) (.ref (s1.heap.objs.size + 4)) .none) _ _ _
      refine wpAny_bind (wpAny_updateSeq hS rfl ?_)
      have I4 : Inv X pins σ (upd (upd H1 h'.objs.size (.lst [])) h'.objs.size (.lst [])) { ({ s1 with heap := h' } : Shared) with heap := (h'.push { cls := .type "list", data := .seq #[] }).update h'.objs.size (Obj.mapSeq (fun _ => (#[] : Array Value))), toks := s1.toks } :=
        I3.lset (its := []) (its' := []) (n := 0) g3 hS rfl .nil (Nat.zero_le _)
      have other : ∀ {c o}, h'.get? c = some o → ((h'.push { cls := .type "list", data := .seq #[] }).update h'.objs.size (Obj.mapSeq (fun _ => (#[] : Array Value)))).get? c = some o := fun e =>
        (Heap.get?_update_other _ _ (Ne.symm (Nat.ne_of_lt (Heap.lt_size e)))).trans (Heap.get?_push_of_some _ e)
      refine wpAny_bind (wpAny_letGo ?_)
      have k4 : Same H1 (upd (upd H1 h'.objs.size (.lst [])) h'.objs.size (.lst [])) := fun c o e => by
        rw [upd_ne (ne_of_none e nS), upd_ne (ne_of_none e nS)]
        exact e
      have sq : ∀ {c : Addr} {zs : List V}, SqT X.K H1 c zs → SqT X.K (upd (upd H1 h'.objs.size (.lst [])) h'.objs.size (.lst [])) c zs := fun h => by
        rcases h with (q | ⟨o, q⟩) | q
        · exact .inl (.inl (k4 _ _ q))
        · exact .inl (.inr ⟨o, k4 _ _ q⟩)
        · exact .inr q
      refine extend (a := a) (b := b) (I.ok.hd calm) (PySem.W.ktu_apart s1.heap.objs.size a b la lb) len few nS I4 k4 upd_same (sq sa) (sq sb) (fun c hc => ?_) (other hz) (other hTI) (other hTO) (h1.at fun o e => other e) (h2.at fun o e => other e) fun s' G' cs J s4 gS lcs prs => ?_
      · obtain ⟨⟨q1, q2⟩, q3⟩ := fp2 c hc
        have n := Nat.ne_of_lt q3
        exact ⟨by rw [upd_ne n, upd_ne n]; exact q1, q2⟩
      · exact ⟨rfl, .ref h'.objs.size, G', J, rfl, q G' _ cs s4 nS gS lcs prs⟩
end
end Zl

/-! Matching, as a plain function. -/
namespace Ad
open PySem PySem.Spec PySem.Calls PyProof.Rows L2
theorem eqvAll_cons (a b : PyData) (as bs : List PyData) : PyData.eqvAll (a :: as) (b :: bs) = (PyData.eqv a b && PyData.eqvAll as bs) := by
  first
    | rfl
    | rw [PyData.eqvAll]
    | simp only [PyData.eqvAll]
namespace T
mutual
theorem eqv_eq : ∀ t u : T, PyData.eqv t.d u.d = true → t = u
  | .v i, .v j, h => by
    have e : PyData.eqv (.int i) (.int j) = (i == j) := by rw [PyData.eqv]
    have h' : (i == j) = true := by rw [← e]; exact h
    rw [eq_of_beq h']
  | .v i, .f x ts, h => by
    have e : PyData.eqv (.int i) (.tuple (.str x :: ds ts)) = false := by rw [PyData.eqv]
    have h' : PyData.eqv (.int i) (.tuple (.str x :: ds ts)) = true := h
    rw [e] at h'
    cases h'
  | .f x ts, .v i, h => by
    have e : PyData.eqv (.tuple (.str x :: ds ts)) (.int i) = false := by rw [PyData.eqv]
    have h' : PyData.eqv (.tuple (.str x :: ds ts)) (.int i) = true := h
    rw [e] at h'
    cases h'
  | .f x ts, .f y us, h => by
    have e : PyData.eqv (.tuple (.str x :: ds ts)) (.tuple (.str y :: ds us)) = (PyData.eqv (.str x) (.str y) && PyData.eqvAll (ds ts) (ds us)) := by
      rw [← eqvAll_cons]
      have e0 : ∀ as bs : List PyData, PyData.eqv (.tuple as) (.tuple bs) = PyData.eqvAll as bs := fun as bs => by rw [PyData.eqv]
      exact e0 _ _
    have h' : PyData.eqv (.tuple (.str x :: ds ts)) (.tuple (.str y :: ds us)) = true := h
    have es : PyData.eqv (.str x) (.str y) = (x == y) := by rw [PyData.eqv]
    rw [e, es, Bool.and_eq_true] at h'
    rw [eq_of_beq h'.1, eqvs_eq ts us h'.2]
theorem eqvs_eq : ∀ ts us : List T, PyData.eqvAll (ds ts) (ds us) = true → ts = us
  | [], [], _ => rfl
  | [], u :: us, h => by
    have e : PyData.eqvAll [] (d u :: ds us) = false := by rw [PyData.eqvAll]
    have h' : PyData.eqvAll [] (d u :: ds us) = true := h
    rw [e] at h'
    cases h'
  | t :: ts, [], h => by
    have e : PyData.eqvAll (d t :: ds ts) [] = false := by rw [PyData.eqvAll]
    have h' : PyData.eqvAll (d t :: ds ts) [] = true := h
    rw [e] at h'
    cases h'
  | t :: ts, u :: us, h => by
    have e : PyData.eqvAll (d t :: ds ts) (d u :: ds us) = (PyData.eqv (d t) (d u) && PyData.eqvAll (ds ts) (ds us)) := eqvAll_cons _ _ _ _
    have h' : PyData.eqvAll (d t :: ds ts) (d u :: ds us) = true := h
    rw [e, Bool.and_eq_true] at h'
    rw [eqv_eq t u h'.1, eqvs_eq ts us h'.2]
end
theorem mem_varsL {p : T} {j : Int} : ∀ {ps : List T}, p ∈ ps → j ∈ p.vars → j ∈ varsL ps
  | q :: ps, h, hj => by
    rcases List.mem_cons.mp h with w | w
    · exact List.mem_append_left _ (by rw [← w]; exact hj)
    · exact List.mem_append_right _ (mem_varsL w hj)
/-- a name and arguments like those of another term -/
def alike (x : Str) (ps : List T) : T → Bool
  | .v _ => false
  | .f y ts => decide (ps.length = ts.length) && decide (x = y)
end T
/-- a row of pairs, how large its first sides are -/
def psz : List (T × T) → Nat
  | [] => 0
  | e :: r => e.1.size + psz r
theorem psz_app : ∀ a b : List (T × T), psz (a ++ b) = psz a + psz b
  | [], b => (Nat.zero_add _).symm
  | e :: a, b => by
    show e.1.size + psz (a ++ b) = e.1.size + psz a + psz b
    rw [psz_app a b, Nat.add_assoc]
theorem psz_rev (a : List (T × T)) : psz a.reverse = psz a := by
  induction a with
  | nil => rfl
  | cons e a ih =>
    rw [List.reverse_cons, psz_app, ih]
    show psz a + (e.1.size + 0) = e.1.size + psz a
    omega
theorem psz_zip : ∀ ps ts : List T, psz (ps.zip ts) ≤ T.sizeL ps
  | [], _ => Nat.zero_le _
  | p :: ps, [] => Nat.zero_le _
  | p :: ps, t :: ts => by
    have := psz_zip ps ts
    show p.size + psz (ps.zip ts) ≤ T.size p + T.sizeL ps
    omega
theorem psz_len : ∀ a : List (T × T), a.length ≤ psz a
  | [] => Nat.le_refl _
  | e :: a => by
    have h1 := psz_len a
    have h2 := e.1.size_pos
    show a.length + 1 ≤ e.1.size + psz a
    omega
/-- matching; the last pair of the row is the first here -/
def mt : Nat → Sb → List (T × T) → Option Sb
  | 0, _, _ => none
  | _ + 1, tb, [] => some tb
  | n + 1, tb, (.v i, t) :: r => match tb.look i with
    | some u => if PyData.eqv u.d t.d = true then mt n tb r else none
    | none => mt n (tb.put i t) r
  | n + 1, tb, (.f x ps, .f y ts) :: r => if T.alike x ps (.f y ts) = true then mt n tb ((ps.zip ts).reverse ++ r) else none
  | _ + 1, _, (.f _ _, .v _) :: _ => none
theorem Sb.put_same {tb : Sb} {i : Int} {t : T} (nd : (tb.map (·.1)).Nodup) (h : tb.look i = some t) : tb.put i t = tb := by
  unfold Sb.put
  rw [h, if_pos (show (some t).isSome = true from rfl)]
  have key : ∀ e ∈ tb, (if e.1 = i then (e.1, t) else e) = e := by
    intro e he
    split
    · rename_i z
      have := (Sb.mem_look nd (i := e.1) (t := e.2)).1 he
      rw [z, h] at this
      rw [Option.some.inj this]
    · rfl
  have := List.map_congr_left key
  rw [this]
  exact List.map_id' _
/-- what holds of all that stands in the result -/
theorem mt_all {P : T → Prop} {Kp : Int → Prop} (hP : ∀ x ts, P (.f x ts) → ∀ u ∈ ts, P u) : ∀ (n : Nat) (tb : Sb) (es : List (T × T)) (tb' : Sb), mt n tb es = some tb' → (∀ e ∈ tb, Kp e.1 ∧ P e.2) → (∀ e ∈ es, (∀ j ∈ e.1.vars, Kp j) ∧ P e.2) → ∀ e ∈ tb', Kp e.1 ∧ P e.2
  | 0, _, _, _, h, _, _ => nomatch h
  | n + 1, tb, [], tb', h, h1, _ => by
    cases (show some tb = some tb' from h)
    exact h1
  | n + 1, tb, (.v i, t) :: r, tb', h, h1, h2 => by
    have h' : (match tb.look i with | some u => if PyData.eqv u.d t.d = true then mt n tb r else none | none => mt n (tb.put i t) r) = some tb' := h
    obtain ⟨k0, p0⟩ := h2 _ List.mem_cons_self
    have hr : ∀ e ∈ r, (∀ j ∈ e.1.vars, Kp j) ∧ P e.2 := fun e he => h2 e (List.mem_cons_of_mem _ he)
    cases lk : tb.look i with
    | some u =>
      rw [lk] at h'
      by_cases z : PyData.eqv u.d t.d = true
      · have h'' : mt n tb r = some tb' := by
          have e := h'
          simp only [z, if_true] at e
          exact e
        exact mt_all hP n tb r tb' h'' h1 hr
      · have e := h'
        simp only [z, if_false] at e
        cases e
    | none =>
      rw [lk] at h'
      refine mt_all hP n _ r tb' h' (fun e he => ?_) hr
      rcases Sb.mem_put he with z | z
      · rw [z]
        exact ⟨k0 i List.mem_cons_self, p0⟩
      · exact h1 e z
  | n + 1, tb, (.f x ps, .f y ts) :: r, tb', h, h1, h2 => by
    have h' : (if T.alike x ps (.f y ts) = true then mt n tb ((ps.zip ts).reverse ++ r) else none) = some tb' := h
    by_cases z : T.alike x ps (.f y ts) = true
    · rw [if_pos z] at h'
      obtain ⟨k0, p0⟩ := h2 _ List.mem_cons_self
      refine mt_all hP n tb _ tb' h' h1 fun e he => ?_
      rcases List.mem_append.mp he with q | q
      · have q' := List.mem_reverse.mp q
        obtain ⟨q1, q2⟩ : e.1 ∈ ps ∧ e.2 ∈ ts := List.of_mem_zip q'
        refine ⟨fun j hj => k0 j ?_, hP y ts p0 _ q2⟩
        exact T.mem_varsL q1 hj
      · exact h2 e (List.mem_cons_of_mem _ q)
    · rw [if_neg z] at h'
      cases h'
  | n + 1, tb, (.f x ps, .v i) :: r, tb', h, _, _ => nomatch (show none = some tb' from h)
end Ad

namespace Ad
open PySem PySem.Spec PySem.Calls PyProof.Rows L2 RZ
abbrev sCompare : Stmt := topS 11
theorem scCompare : FnScope ["order", "one", "other", "may_be_above", "may_be_below", "one_weight", "one_often", "other_weight", "other_often", "way"] ["order", "one", "other"] (defScope sCompare) := ⟨rfl, rfl, rfl, by decide +kernel, rfl, by decide +kernel, by decide +kernel⟩
abbrev sFirstUn : Stmt := topS 12
theorem scFirstUn : FnScope ["one", "other", "index"] ["one", "other"] (defScope sFirstUn) := ⟨rfl, rfl, rfl, by decide +kernel, rfl, by decide +kernel, by decide +kernel⟩
abbrev sHeads : Stmt := topS 13
theorem scHeads : FnScope ["order", "one", "other"] ["order", "one", "other"] (defScope sHeads) := ⟨rfl, rfl, rfl, by decide +kernel, rfl, by decide +kernel, by decide +kernel⟩
theorem eqv_ne {s t : T} (e : s ≠ t) : PyData.eqv s.d t.d = false := by
  cases h : PyData.eqv s.d t.d with
  | false => rfl
  | true => exact absurd (T.eqv_eq _ _ h) e
theorem tAndV_var {i : Nat} {A b : Bool} {tb : TE} {σ : L2.St} {H : Hp} {Q : VK} (e : σ[i]? = some (some (.bl A))) (hb : ∀ Q' : VK, (∀ G, Same H G → Q' (.bl b) G) → tb σ H Q') (q : ∀ G, Same H G → Q (.bl (A && b)) G) : tAndV (tVar i) tb σ H Q := by
  refine ⟨.bl A, e, A, rfl, ?_⟩
  cases A with
  | true => exact iteT (hb _ q)
  | false => exact iteF (q H fun b o e => e)
section
variable {P : Program} {w : World} {K : PySem.W.Frag} {mg : Str → Option Value} {base : Heap}
/-- two terms of an order -/
structure Two (K : PySem.W.Frag) (C : Addr) (H : Hp) (o : Addr) (R S : List Row) (s t : T) (x y : V) : Prop where
  ord : OrdI K C H o R S
  ok : OOk R S
  hs : Tm K H s x
  ht : Tm K H t y
  ws : Kb.Wf (ranked R S) s
  wt : Kb.Wf (ranked R S) t
  ns : s.named = true
  nt : t.named = true
  ds : s.dep ≤ 60
  dt : t.dep ≤ 60
  zs : s.size ≤ 10000
  zt : t.size ≤ 10000
theorem Two.same {C : Addr} {H H' : Hp} (sm : Same H H') {o : Addr} {R S : List Row} {s t : T} {x y : V} (h : Two K C H o R S s t x y) : Two K C H' o R S s t x y :=
  ⟨h.ord.same sm, h.ok, Tm.mono (TK.same sm) _ _ h.hs, Tm.mono (TK.same sm) _ _ h.ht, h.ws, h.wt, h.ns, h.nt, h.ds, h.dt, h.zs, h.zt⟩
def spCmp (K : PySem.W.Frag) (C : Addr) (n : Nat) : Sp := fun vs H Q _ => ∃ (o : Addr) (R S : List Row) (s t : T) (x y : V), vs = [.ref o, x, y] ∧ Two K C H o R S s t x y ∧ s.dep < n ∧
  ∀ H', Same H H' → Q (Kb.word (Kb.wOf (ranked R S)) (Kb.pOf (ranked R S)) s t) H'
/-! ### the first unlike arguments -/
def spFirstUn (K : PySem.W.Frag) : Sp := fun vs H Q _ => ∃ (n m : Str) (ss ts : List T) (x y : V), vs = [x, y] ∧ Tm K H (.f n ss) x ∧ Tm K H (.f m ts) y ∧ ss.length = ts.length ∧ ss ≠ ts ∧ T.namedL ss = true ∧ T.namedL ts = true ∧ T.depL ss ≤ 60 ∧ T.depL ts ≤ 60 ∧
  ∀ H' pr i a b va vb, Same H H' → ss.take i = ts.take i → ss[i]? = some a → ts[i]? = some b → a ≠ b → SqT K H' pr [va, vb] → Tm K H' a va → Tm K H' b vb → Q (.ref pr) H'
theorem ok_firstun {f : Addr} {fd : FuncData} {k : Nat} (F : Fun K "_first_unlike" "_first_unlike" sFirstUn f fd) : FnOk P w K mg base CX0 (k + 1) f fd ["one", "other"] (spFirstUn K) := by
  refine F.ok scFirstUn (fun vs H Q E h => ?_) (fun cdv A outer s H vs Q E hr h => ?_)
  · obtain ⟨n, m, ss, ts, x, y, rfl, _⟩ := h
    rfl
  · obtain ⟨n, m, ss, ts, x, y, rfl, hx, hy, len, ne, n1, n2, d1, d2, q⟩ := h
    have hu := hu64 hr
    refine ⟨_, (pss_cons (ps_set (i := 2) scFirstUn.nd rfl (.inl rfl) pe_int)
    (pss_cons (ps_while PassesOwn.never (pt_cmpR (op_eqD hu) (pe_ix ix_tup (pv 0) (pv 2) (fun _ _ => rfl)) (pe_ix ix_tup (pv 1) (pv 2) (fun _ _ => rfl)) (nomark _)) (pss_one (ps_aug (i := 2) scFirstUn.nd rfl (.inl rfl) pe_int ip_add)))
    (pss_one (ps_ret (pe_tup (pa_cons (pe_ix ix_tup (pv 0) (pv 2) (fun _ _ => rfl)) (pa_cons (pe_ix ix_tup (pv 1) (pv 2) (fun _ _ => rfl)) pa_nil))))))), ?_⟩
    obtain ⟨a, zs, rfl, sqa, alla⟩ := hx
    obtain ⟨b, us, rfl, sqb, allb⟩ := hy
    refine while_g (fun m σ G => ∃ i : Nat, m = ss.length - i ∧ σ = [some (.ref a), some (.ref b), some (.int ((i + 1 : Nat) : Int))] ∧ G = H ∧ ss.take i = ts.take i) ⟨_, 0, rfl, rfl, rfl, rfl⟩ ?_ ?_
    · rintro m σ G ⟨i, rfl, rfl, rfl, pre⟩
      have lt := Kb.unlike_lt len ne pre
      obtain ⟨va, hva⟩ : ∃ va, zs[i]? = some va := ⟨_, List.getElem?_eq_getElem (by rw [alla.len]; exact lt)⟩
      obtain ⟨vb, hvb⟩ : ∃ vb, us[i]? = some vb := ⟨_, List.getElem?_eq_getElem (by rw [allb.len, ← len]; exact lt)⟩
      obtain ⟨a1, ha1, ta1⟩ := alla.get hva
      obtain ⟨b1, hb1, tb1⟩ := allb.get hvb
      have ma := List.mem_of_getElem? ha1
      have mb := List.mem_of_getElem? hb1
      have g1 : (V.str n :: zs)[i + 1]? = some va := hva
      have g2 : (V.str m :: us)[i + 1]? = some vb := hvb
      have da := T.dep_mem ma
      have db := T.dep_mem mb
      have sa := T.shaped (T.named_mem ma n1) (by omega)
      have sb := T.shaped (T.named_mem mb n2) (by omega)
      refine ⟨.ref a, rfl, _, rfl, a, _, _, va, rfl, rfl, sqa, atI_nat g1, .ref b, rfl, _, rfl, b, _, _, vb, rfl, rfl, sqb, atI_nat g2, a1.d, b1.d, Tm.dp _ _ ta1, Tm.dp _ _ tb1, sa, sb, _, rfl, ?_⟩
      by_cases e : a1 = b1
      · rw [e, eqv_one sb]
        refine iteT ⟨_, rfl, _, _, rfl, rfl, _, ?_, i + 1, rfl, rfl, rfl, ?_⟩
        · show ss.length - (i + 1) < ss.length - i
          omega
        · rw [take_next ha1, take_next hb1, pre, e]
      · rw [eqv_ne e]
        refine iteF ?_
        refine ⟨.ref a, rfl, _, rfl, a, _, _, va, rfl, rfl, sqa, atI_nat g1, .ref b, rfl, _, rfl, b, _, _, vb, rfl, rfl, sqb, atI_nat g2, (by show 2 ≤ sizeLine; decide), fun pr np => ?_⟩
        have k := TK.new np (.tup [va, vb])
        exact q _ pr i a1 b1 va vb (same_new (fun b o e => e) np _) pre ha1 hb1 e (.inl (.inl upd_same)) (Tm.mono k _ _ ta1) (Tm.mono k _ _ tb1)
    · rintro σ H Q Q' imp ⟨v, e, v2, e2, p1, xs1, i1, z1, r1, r2, s1, t1, v3, e3, v4, e4, p2, xs2, i2, z2, r3, r4, s2, t2, d, d', h1, h2, h3, h4, b, hb, hq⟩
      exact ⟨v, e, v2, e2, p1, xs1, i1, z1, r1, r2, s1, t1, v3, e3, v4, e4, p2, xs2, i2, z2, r3, r4, s2, t2, d, d', h1, h2, h3, h4, b, hb, imp _ _ hq⟩
/-! ### the way by weights and names -/
def spHeads (K : PySem.W.Frag) (C : Addr) : Sp := fun vs H Q _ => ∃ (o p1 p2 : Addr) (R S : List Row) (s t : T) (x y : V), vs = [.ref o, .ref p1, .ref p2] ∧ Two K C H o R S s t x y ∧ SqT K H p1 [.int (Kb.W (Kb.wOf (ranked R S)) s), x] ∧ SqT K H p2 [.int (Kb.W (Kb.wOf (ranked R S)) t), y] ∧
  Q (Kb.hd (Kb.wOf (ranked R S)) (Kb.pOf (ranked R S)) s t) H
theorem ok_heads {C f fY : Addr} {fd fdY : FuncData} {k : Nat} (F : Fun K "_way_by_heads" "_way_by_heads" sHeads f fd) (GY : FnOk P w K mg base CX0 k fY fdY ["one", "other"] spWay) (gY : mg "_way" = some (.ref fY)) (kY : PySem.W.keepIn K (.ref fY) = true) (bY : Binds K fdY ["one", "other"] [])
    (m_isinstance : mg "isinstance" = none) (m_int : mg "int" = none) (cls : Cls K C) (na : NoAttr K C "_places") : FnOk P w K mg base CX0 (k + 1) f fd ["order", "one", "other"] (spHeads K C) := by
  refine F.ok scHeads (fun vs H Q E h => ?_) (fun cdv A outer s H vs Q E hr h => ?_)
  · obtain ⟨o, p1, p2, R, S, s, t, x, y, rfl, _⟩ := h
    rfl
  · obtain ⟨o, p1, p2, R, S, t, u, x, y, rfl, two, sq1, sq2, q⟩ := h
    refine ⟨_, (pss_cons (ps_if (pt_cmpR op_ne (pe_ix ix_tup (pv 1) pe_int (fun _ _ => rfl)) (pe_ix ix_tup (pv 2) pe_int (fun _ _ => rfl)) (nomark _))
      (pss_one (ps_ret (pe_call GY hr (by rfl) gY kY bY .nil pass0 (pa_cons (pe_ix ix_tup (pv 1) pe_int (fun _ _ => rfl)) (pa_cons (pe_ix ix_tup (pv 2) pe_int (fun _ _ => rfl)) pa_nil))))) pss_nil)
    (pss_cons (ps_if (PW.pt (pw_or (pt_val (pe_callB call_isi (by rfl) m_isinstance (by decide +kernel) (pa_cons (pe_ix ix_tup (pv 1) pe_int (fun _ _ => rfl)) (pa_cons (pe_bltn (v := .ty "int") (by rfl) m_int (by decide +kernel) rfl) pa_nil)))) (pw_or (pt_val (pe_callB call_isi (by rfl) m_isinstance (by decide +kernel) (pa_cons (pe_ix ix_tup (pv 2) pe_int (fun _ _ => rfl)) (pa_cons (pe_bltn (v := .ty "int") (by rfl) m_int (by decide +kernel) rfl) pa_nil)))) (pw_or1 (pt_cmpR op_eq (pe_ix ix_tup (pe_ix ix_tup (pv 1) pe_int (fun _ _ => rfl)) pe_int (fun _ _ => rfl)) (pe_ix ix_tup (pe_ix ix_tup (pv 2) pe_int (fun _ _ => rfl)) pe_int (fun _ _ => rfl)) (nomark _))))))
      (pss_one (ps_ret pe_non)) pss_nil)
    (pss_one (ps_ret (pe_call GY hr (by rfl) gY kY bY .nil pass0 (pa_cons (pe_dget (hu1 hr) (pe_fld (pv 0) rfl) (pe_ix ix_tup (pe_ix ix_tup (pv 1) pe_int (fun _ _ => rfl)) pe_int (fun _ _ => rfl)) (fun _ _ => rfl)) (pa_cons (pe_dget (hu1 hr) (pe_fld (pv 0) rfl) (pe_ix ix_tup (pe_ix ix_tup (pv 2) pe_int (fun _ _ => rfl)) pe_int (fun _ _ => rfl)) (fun _ _ => rfl)) pa_nil))))))), ?_⟩
    have nd : ((ranked R S).map (·.1)).Nodup := two.ok.nd
    refine ⟨.ref p1, rfl, p1, _, 0, _, rfl, rfl, sq1, atI_nat (j := 0) rfl, .ref p2, rfl, p2, _, 0, _, rfl, rfl, sq2, atI_nat (j := 0) rfl, rfl, _, rfl, ?_⟩
    by_cases we : Kb.W (Kb.wOf (ranked R S)) t = Kb.W (Kb.wOf (ranked R S)) u
    · have z : (!decide (V.int (Kb.W (Kb.wOf (ranked R S)) t) = V.int (Kb.W (Kb.wOf (ranked R S)) u))) = false := by rw [decide_eq_true (congrArg V.int we)]; rfl
      rw [z]
      refine iteF ?_
      refine ⟨.ref p1, rfl, p1, _, 1, x, rfl, rfl, sq1, atI_nat (j := 1) rfl, ?_⟩
      cases t with
      | v i =>
        rw [Kb.hd_v1 we] at q
        cases (show x = .int i from two.hs)
        refine ⟨_, .ty "int", .type "int", .type "int", true, rfl, .ty "int", .base (.int i), kitII, true, rfl, ?_⟩
        exact iteT (iteT q)
      | f nm ss =>
      refine ⟨_, .ty "int", .type "tuple", .type "int", false, rfl, .ty "int", tm_tuple two.hs, kitTI, false, rfl, ?_⟩
      refine iteF ?_
      refine ⟨.ref p2, rfl, p2, _, 1, y, rfl, rfl, sq2, atI_nat (j := 1) rfl, ?_⟩
      cases u with
      | v i =>
        rw [Kb.hd_v2 we] at q
        cases (show y = .int i from two.ht)
        refine ⟨_, .ty "int", .type "int", .type "int", true, rfl, .ty "int", .base (.int i), kitII, true, rfl, ?_⟩
        exact iteT (iteT q)
      | f mm ts =>
      refine ⟨_, .ty "int", .type "tuple", .type "int", false, rfl, .ty "int", tm_tuple two.ht, kitTI, false, rfl, ?_⟩
      refine iteF ?_
      obtain ⟨a, zs, rfl, sqa, alla⟩ := two.hs
      obtain ⟨b, us, rfl, sqb, allb⟩ := two.ht
      refine ⟨.ref p1, rfl, p1, _, 1, _, rfl, rfl, sq1, atI_nat (j := 1) rfl, a, _, 0, .str nm, rfl, rfl, sqa, atI_nat (j := 0) rfl, .ref p2, rfl, p2, _, 1, _, rfl, rfl, sq2, atI_nat (j := 1) rfl, b, _, 0, .str mm, rfl, rfl, sqb, atI_nat (j := 0) rfl, rfl, _, rfl, ?_⟩
      by_cases xy : nm = mm
      · subst xy
        rw [Kb.hd_same we] at q
        rw [decide_eq_true rfl]
        exact iteT q
      · rw [decide_eq_false (fun z => xy (V.str.inj z))]
        refine iteF ?_
        rw [Kb.hd_names we xy] at q
        obtain ⟨dx, bt, br, bw, bp, vs1, vs2, eO, _, _, _, _, _, eP⟩ := two.ord.ex
        obtain ⟨⟨r, hr', rn, _⟩, _⟩ := two.ws
        obtain ⟨⟨r2, hr2, rn2, _⟩, _⟩ := two.wt
        obtain ⟨i, hi, ei⟩ := List.mem_iff_getElem.mp hr'
        obtain ⟨i2, hi2, ei2⟩ := List.mem_iff_getElem.mp hr2
        have g1 : (ranked R S)[i]? = some r := by rw [List.getElem?_eq_getElem hi, ei]
        have g2 : (ranked R S)[i2]? = some r2 := by rw [List.getElem?_eq_getElem hi2, ei2]
        have p1' := valV_pK nd 0 i r g1
        have p2' := valV_pK nd 0 i2 r2 g2
        have q1 := Kb.pOf_at nd g1
        have q2 := Kb.pOf_at nd g2
        rw [rn, Nat.zero_add] at p1'
        rw [rn2, Nat.zero_add] at p2'
        rw [rn] at q1
        rw [rn2] at q2
        have f1 := DGet.k (k := Sum.inr nm) eP
        rw [p1'] at f1
        have f2 := DGet.k (k := Sum.inr mm) eP
        rw [p2'] at f2
        refine ⟨.ref o, rfl, o, C, dx, _, _, rfl, eO, cls, na, ordF_places bt br bw bp, .ref p1, rfl, p1, _, 1, _, rfl, rfl, sq1, atI_nat (j := 1) rfl, a, _, 0, .str nm, rfl, rfl, sqa, atI_nat (j := 0) rfl, bp, _, rfl, f1, ?_⟩
        refine ⟨.ref o, rfl, o, C, dx, _, _, rfl, eO, cls, na, ordF_places bt br bw bp, .ref p2, rfl, p2, _, 1, _, rfl, rfl, sq2, atI_nat (j := 1) rfl, b, _, 0, .str mm, rfl, rfl, sqb, atI_nat (j := 0) rfl, bp, _, rfl, f2, ?_⟩
        refine ⟨_, _, rfl, ?_⟩
        rw [q1, q2] at q
        exact q
    · have z : (!decide (V.int (Kb.W (Kb.wOf (ranked R S)) t) = V.int (Kb.W (Kb.wOf (ranked R S)) u))) = true := by rw [decide_eq_false (fun z => we (V.int.inj z))]; rfl
      rw [z]
      refine iteT ?_
      rw [Kb.hd_ne we] at q
      refine ⟨.ref p1, rfl, p1, _, 0, _, rfl, rfl, sq1, atI_nat (j := 0) rfl, .ref p2, rfl, p2, _, 0, _, rfl, rfl, sq2, atI_nat (j := 0) rfl, _, _, rfl, ?_⟩
      exact q
end
end Ad

namespace Ad
open PySem PySem.Spec PySem.Calls PyProof.Rows L2 RZ
section
variable {P : Program} {w : World} {K : PySem.W.Frag} {mg : Str → Option Value} {base : Heap}
theorem wOf1 {R S : List Row} (ok : OOk R S) (x : Str) : 1 ≤ Kb.wOf (ranked R S) x := Kb.wOf_one (fun r hr => by
  rcases List.mem_cons.mp hr with e | e
  · rw [e]
    exact Int.le_refl _
  · exact ok.wt r e) x
theorem and_occ {A : Bool} {l1 l2 : List Int} {X Y Z : Prop} (h : Z ↔ (A = true ∧ X)) (e : X ↔ (Kb.Occ l2 l1 ∧ Y)) : Z ↔ ((A && occB l2 l1) = true ∧ Y) := by
  rw [h, e, Bool.and_eq_true]
  by_cases o : Kb.Occ l2 l1
  · rw [occB_true o]
    exact ⟨fun z => ⟨⟨z.1, rfl⟩, z.2.2⟩, fun z => ⟨z.1.1, o, z.2⟩⟩
  · rw [occB_false o]
    exact ⟨fun z => absurd z.2.1 o, fun z => absurd z.1.2 (by decide)⟩
theorem ok_compare {C f fW fN fU fO : Addr} {fd fdW fdN fdU fdO : FuncData} {k : Nat} (F : Fun K "compare" "compare" sCompare f fd) (GW : FnOk P w K mg base CX0 k fW fdW ["order", "term"] (spWeighed K C)) (gW : mg "_weighed" = some (.ref fW)) (kW : PySem.W.keepIn K (.ref fW) = true) (bW : Binds K fdW ["order", "term"] [])
    (GN : FnOk P w K mg base CX0 k fN fdN ["order", "one", "other"] (spHeads K C)) (gN : mg "_way_by_heads" = some (.ref fN)) (kN : PySem.W.keepIn K (.ref fN) = true) (bN : Binds K fdN ["order", "one", "other"] [])
    (GU : FnOk P w K mg base CX0 k fU fdU ["one", "other"] (spFirstUn K)) (gU : mg "_first_unlike" = some (.ref fU)) (kU : PySem.W.keepIn K (.ref fU) = true) (bU : Binds K fdU ["one", "other"] [])
    (GO : FnOk P w K mg base CX0 k fO fdO ["often", "least"] spOften) (gO : mg "_has_as_often" = some (.ref fO)) (kO : PySem.W.keepIn K (.ref fO) = true) (bO : Binds K fdO ["often", "least"] []) (m_isinstance : mg "isinstance" = none) (m_int : mg "int" = none) (n : Nat) : FnOk P w K mg base CX0 (k + 1) f fd ["order", "one", "other"] (spCmp K C n) := by
  refine F.ok scCompare (fun vs H Q E h => ?_) (fun cdv A outer s H vs Q E hr h => ?_)
  · obtain ⟨o, R, S, s, t, x, y, rfl, _⟩ := h
    rfl
  · obtain ⟨o, R, S, t, u, x, y, rfl, two, _, q⟩ := h
    have hu := hu64 hr
    refine ⟨_, (pss_cons (ps_set (i := 3) scCompare.nd rfl (.inl rfl) pe_bl)
    (pss_cons (ps_set (i := 4) scCompare.nd rfl (.inl rfl) pe_bl)
    (pss_cons (ps_while PassesOwn.never (pt_cmpR (op_neD hu) (pv 1) (pv 2) (nomark _)) (pss_cons (ps_asg (pe_call GW hr (by rfl) gW kW bW .nil pass0 (pa_cons (pv 0) (pa_cons (pv 1) pa_nil))) (pg_tup rfl (pgs_cons (pg_name (i := 5) scCompare.nd rfl (.inl rfl)) (pgs_cons (pg_name (i := 6) scCompare.nd rfl (.inl rfl)) pgs_nil))))
      (pss_cons (ps_asg (pe_call GW hr (by rfl) gW kW bW .nil pass0 (pa_cons (pv 0) (pa_cons (pv 2) pa_nil))) (pg_tup rfl (pgs_cons (pg_name (i := 7) scCompare.nd rfl (.inl rfl)) (pgs_cons (pg_name (i := 8) scCompare.nd rfl (.inl rfl)) pgs_nil))))
      (pss_cons (ps_set (i := 3) scCompare.nd rfl (.inl rfl) (pe_and (pv 3) (pe_one (pe_call GO hr (by rfl) gO kO bO .nil pass0 (pa_cons (pv 6) (pa_cons (pv 8) pa_nil))))))
      (pss_cons (ps_set (i := 4) scCompare.nd rfl (.inl rfl) (pe_and (pv 4) (pe_one (pe_call GO hr (by rfl) gO kO bO .nil pass0 (pa_cons (pv 8) (pa_cons (pv 6) pa_nil))))))
      (pss_cons (ps_set (i := 9) scCompare.nd rfl (.inl rfl) (pe_call GN hr (by rfl) gN kN bN .nil pass0 (pa_cons (pv 0) (pa_cons (pe_tup (pa_cons (pv 5) (pa_cons (pv 1) pa_nil))) (pa_cons (pe_tup (pa_cons (pv 7) (pa_cons (pv 2) pa_nil))) pa_nil)))))
      (pss_cons (ps_if (pt_cmpR op_notN (pv 9) pe_non (nomark _))
        (pss_one (ps_ret (pe_ifExp (pt_ifExp (pt_cmpR op_eq (pv 9) pe_str (nomark _)) (pt_val (pv 3)) (pt_val (pv 4))) (pv 9) pe_non))) pss_nil)
      (pss_cons (ps_if (PW.pt (pw_or (pt_val (pe_callB call_isi (by rfl) m_isinstance (by decide +kernel) (pa_cons (pv 1) (pa_cons (pe_bltn (v := .ty "int") (by rfl) m_int (by decide +kernel) rfl) pa_nil)))) (pw_or1 (pt_val (pe_callB call_isi (by rfl) m_isinstance (by decide +kernel) (pa_cons (pv 2) (pa_cons (pe_bltn (v := .ty "int") (by rfl) m_int (by decide +kernel) rfl) pa_nil)))))))
        (pss_one (ps_ret pe_non)) pss_nil)
      (pss_one (ps_asg (pe_call GU hr (by rfl) gU kU bU .nil pass0 (pa_cons (pv 1) (pa_cons (pv 2) pa_nil))) (pg_tup rfl (pgs_cons (pg_name (i := 1) scCompare.nd rfl (.inl rfl)) (pgs_cons (pg_name (i := 2) scCompare.nd rfl (.inl rfl)) pgs_nil)))))))))))))
    (pss_one (ps_ret pe_str))))), ?_⟩
    have nd : ((ranked R S).map (·.1)).Nodup := two.ok.nd
    have one := wOf1 two.ok
    have sl := @Kb.same_len _ nd
    have injA := @Kb.inj_of _ nd
    generalize ew : Kb.wOf (ranked R S) = ww at q one
    generalize ep : Kb.pOf (ranked R S) = pp at q
    refine while_g (fun m σ G => ∃ (A B : Bool) (t' u' : T) (x' y' : V) (v5 v6 v7 v8 v9 : Option V), σ = [some (.ref o), some x', some y', some (.bl A), some (.bl B), v5, v6, v7, v8, v9] ∧ Same H G ∧ Two K C G o R S t' u' x' y' ∧
      (Kb.ab ww pp t u ↔ (A = true ∧ Kb.ab ww pp t' u')) ∧ (Kb.ab ww pp u t ↔ (B = true ∧ Kb.ab ww pp u' t')) ∧ (t' = u' ↔ t = u) ∧ t'.size = m) ⟨_, true, true, t, u, x, y, none, none, none, none, none, rfl, fun b o e => e, two, ⟨fun z => ⟨rfl, z⟩, fun z => z.2⟩, ⟨fun z => ⟨rfl, z⟩, fun z => z.2⟩, Iff.rfl, rfl⟩ ?_ ?_
    · rintro m σ G ⟨A0, B0, t', u', x', y', v5, v6, v7, v8, v9, rfl, sm, two', hA, hB, hE, rfl⟩
      have sht := T.shaped two'.ns (by have := two'.ds; omega)
      have shu := T.shaped two'.nt (by have := two'.dt; omega)
      refine ⟨x', rfl, y', rfl, t'.d, u'.d, Tm.dp _ _ two'.hs, Tm.dp _ _ two'.ht, sht, shu, _, rfl, ?_⟩
      by_cases tu : t' = u'
      · have ev : (!PyData.eqv t'.d u'.d) = false := by
          rw [← tu, eqv_one sht]
          rfl
        rw [ev]
        refine iteF ?_
        have e := hE.mp tu
        subst e
        rw [Kb.word_refl] at q
        exact q G sm
      have ev : (!PyData.eqv t'.d u'.d) = true := by
        rw [eqv_ne tu]
        rfl
      rw [ev]
      refine iteT ?_
      have inj := injA two'.ws two'.wt
      rw [ep] at inj
      refine ⟨.ref o, rfl, x', rfl, o, R, S, t', x', rfl, two'.ord, two'.ok, two'.hs, two'.ws, two'.zs, fun H1 pr1 od1 ks sm1 nod1 sq1 e1 c1 => ⟨pr1, _, rfl, sq1, rfl, _, _, rfl, _, _, rfl, rfl, ?_⟩⟩
      have two1 := two'.same sm1
      refine ⟨.ref o, rfl, y', rfl, o, R, S, u', y', rfl, two1.ord, two1.ok, two1.ht, two1.wt, two1.zt, fun H2 pr2 od2 ls sm2 nod2 sq2 e2 c2 => ⟨pr2, _, rfl, sq2, rfl, _, _, rfl, _, _, rfl, rfl, ?_⟩⟩
      have two2 := two1.same sm2
      have ne : od1 ≠ od2 := ne_of_none e1 nod2
      replace e1 := sm2 _ _ e1
      have s02 : Same H H2 := fun b o e => sm2 _ _ (sm1 _ _ (sm _ _ e))
      clear nod1 nod2 sq1 sq2 sm1 sm2 two1 two' sm
      refine tAndV_var (b := occB u'.vars t'.vars) rfl (fun Q' h => ⟨.ref od1, rfl, .ref od2, rfl, od1, od2, ks, ls, t'.vars, u'.vars, rfl, ne, e1, e2, c1, c2, fun G2 sg => h G2 sg⟩) fun H3 s3 => ?_
      have e1' := s3 _ _ e1
      have e2' := s3 _ _ e2
      refine tAndV_var (b := occB t'.vars u'.vars) rfl (fun Q' h => ⟨.ref od2, rfl, .ref od1, rfl, od2, od1, ls, ks, u'.vars, t'.vars, rfl, ne.symm, e2', e1', c2, c1, fun G2 sg => h G2 sg⟩) fun H4 s4 => ?_
      have s24 : Same H2 H4 := fun b o e => s4 _ _ (s3 _ _ e)
      have s04 : Same H H4 := fun b o e => s24 _ _ (s02 _ _ e)
      replace two2 := two2.same s24
      clear e1 e2 e1' e2' c1 c2 s3 s4 s24 s02
      refine ⟨.ref o, rfl, _, rfl, x', rfl, (by show 2 ≤ sizeLine; decide), fun p1 n1 => ?_⟩
      have s5 : Same H4 (upd H4 p1 (.tup [.int (Kb.W (Kb.wOf (ranked R S)) t'), x'])) := same_new (fun b o e => e) n1 _
      have m1 : (upd H4 p1 (.tup [.int (Kb.W (Kb.wOf (ranked R S)) t'), x'])) p1 = some (.tup [.int (Kb.W (Kb.wOf (ranked R S)) t'), x']) := upd_same
      generalize upd H4 p1 (.tup [.int (Kb.W (Kb.wOf (ranked R S)) t'), x']) = H5 at s5 m1
      refine ⟨_, rfl, y', rfl, (by show 2 ≤ sizeLine; decide), fun p2 n2 => ?_⟩
      have s6 : Same H5 (upd H5 p2 (.tup [.int (Kb.W (Kb.wOf (ranked R S)) u'), y'])) := same_new (fun b o e => e) n2 _
      have m2 : (upd H5 p2 (.tup [.int (Kb.W (Kb.wOf (ranked R S)) u'), y'])) p2 = some (.tup [.int (Kb.W (Kb.wOf (ranked R S)) u'), y']) := upd_same
      replace m1 := s6 _ _ m1
      generalize upd H5 p2 (.tup [.int (Kb.W (Kb.wOf (ranked R S)) u'), y']) = H6 at s6 m1 m2
      have s46 : Same H4 H6 := fun b o e => s6 _ _ (s5 _ _ e)
      have s06 : Same H H6 := fun b o e => s46 _ _ (s04 _ _ e)
      replace two2 := two2.same s46
      refine ⟨o, p1, p2, R, S, t', u', x', y', rfl, two2, .inl (.inl m1), .inl (.inl m2), ?_⟩
      clear s5 s6 s46 m1 m2 n1 n2 s04
      rw [ew, ep]
      have oA : Kb.ab ww pp t' u' → Kb.Occ u'.vars t'.vars := Kb.ab_occ
      have oB : Kb.ab ww pp u' t' → Kb.Occ t'.vars u'.vars := Kb.ab_occ
      have hA' := and_occ (l1 := t'.vars) (l2 := u'.vars) (Y := Kb.ab ww pp t' u') hA ⟨fun z => ⟨oA z, z⟩, fun z => z.2⟩
      have hB' := and_occ (l1 := u'.vars) (l2 := t'.vars) (Y := Kb.ab ww pp u' t') hB ⟨fun z => ⟨oB z, z⟩, fun z => z.2⟩
      have tne : t ≠ u := fun z => tu (hE.mpr z)
      rcases Kb.hd_kind (w := ww) (p := pp) t' u' with hk | hk | hk
      · obtain ⟨k1, k2⟩ := Kb.hd_above one inj hk
        rw [hk]
        refine ⟨_, rfl, rfl, true, rfl, iteT ?_⟩
        refine ⟨_, rfl, rfl, _, rfl, ?_⟩
        rw [decide_eq_true rfl]
        refine iteT ⟨_, rfl, _, rfl, ?_⟩
        have nB : ¬ Kb.ab ww pp u t := fun z => k2 (hB.mp z).2
        cases e : (A0 && occB u'.vars t'.vars) with
        | true =>
          refine iteT ⟨_, rfl, ?_⟩
          have a0 := Bool.and_eq_true_iff.mp e
          have oc : Kb.Occ u'.vars t'.vars := by
            by_cases z : Kb.Occ u'.vars t'.vars
            · exact z
            · rw [occB_false z] at a0
              exact absurd a0.2 (by decide)
          rw [Kb.word_above (hA.mpr ⟨a0.1, k1.mpr oc⟩)] at q
          exact q H6 s06
        | false =>
          refine iteF ?_
          rw [Kb.word_none tne (fun z => by
            have := (hA'.mp z).1
            rw [e] at this
            cases this) nB] at q
          exact q H6 s06
      · obtain ⟨k1, k2⟩ := Kb.hd_below one inj hk
        rw [hk]
        refine ⟨_, rfl, rfl, true, rfl, iteT ?_⟩
        refine ⟨_, rfl, rfl, _, rfl, ?_⟩
        rw [decide_eq_false (fun z => Kb.nAB z.symm)]
        refine iteF ⟨_, rfl, _, rfl, ?_⟩
        have nA : ¬ Kb.ab ww pp t u := fun z => k2 (hA.mp z).2
        cases e : (B0 && occB t'.vars u'.vars) with
        | true =>
          refine iteT ⟨_, rfl, ?_⟩
          have a0 := Bool.and_eq_true_iff.mp e
          have oc : Kb.Occ t'.vars u'.vars := by
            by_cases z : Kb.Occ t'.vars u'.vars
            · exact z
            · rw [occB_false z] at a0
              exact absurd a0.2 (by decide)
          rw [Kb.word_below (hB.mpr ⟨a0.1, k1.mpr oc⟩)] at q
          exact q H6 s06
        | false =>
          refine iteF ?_
          rw [Kb.word_none tne nA (fun z => by
            have := (hB'.mp z).1
            rw [e] at this
            cases this)] at q
          exact q H6 s06
      · rw [hk]
        have we := Kb.hd_non hk
        refine ⟨_, rfl, rfl, false, rfl, iteF ?_⟩
        refine ⟨x', rfl, ?_⟩
        cases t' with
        | v i =>
          cases (show x' = .int i from two2.hs)
          refine ⟨_, .ty "int", .type "int", .type "int", true, rfl, .ty "int", .base (.int i), kitII, true, rfl, ?_⟩
          refine iteT (iteT ?_)
          rw [Kb.word_none tne (fun z => (hA.mp z).2) (fun z => Kb.ab_v2 we.symm (hB.mp z).2)] at q
          exact q H6 s06
        | f nm ss =>
        refine ⟨_, .ty "int", .type "tuple", .type "int", false, rfl, .ty "int", tm_tuple two2.hs, kitTI, false, rfl, ?_⟩
        refine iteF ⟨y', rfl, ?_⟩
        cases u' with
        | v i =>
          cases (show y' = .int i from two2.ht)
          refine ⟨_, .ty "int", .type "int", .type "int", true, rfl, .ty "int", .base (.int i), kitII, true, rfl, ?_⟩
          refine iteT ?_
          rw [Kb.word_none tne (fun z => Kb.ab_v2 we (hA.mp z).2) (fun z => (hB.mp z).2)] at q
          exact q H6 s06
        | f mm ts =>
        refine ⟨_, .ty "int", .type "tuple", .type "int", false, rfl, .ty "int", tm_tuple two2.ht, kitTI, false, rfl, ?_⟩
        refine iteF ?_
        have xy := Kb.hd_non_name hk
        subst xy
        have len : ss.length = ts.length := sl two2.ws two2.wt
        have nS : (nameOk nm && T.namedL ss) = true := two2.ns
        have nT : (nameOk nm && T.namedL ts) = true := two2.nt
        have dS : 1 + T.depL ss ≤ 60 := two2.ds
        have dT : 1 + T.depL ts ≤ 60 := two2.dt
        have zS : 1 + T.sizeL ss ≤ 10000 := two2.zs
        have zT : 1 + T.sizeL ts ≤ 10000 := two2.zt
        refine ⟨x', rfl, y', rfl, nm, nm, ss, ts, x', y', rfl, two2.hs, two2.ht, len, fun z => tu (by rw [z]), (Bool.and_eq_true_iff.mp nS).2, (Bool.and_eq_true_iff.mp nT).2, by omega, by omega, fun H7 pr i a b va vb s7 pre ha hb nab sq ta tb => ⟨pr, _, rfl, sq, rfl, _, _, rfl, _, _, rfl, rfl, ?_⟩⟩
        have ma := List.mem_of_getElem? ha
        have mb := List.mem_of_getElem? hb
        have z1 := T.size_mem ma
        have z2 := T.size_mem mb
        have d1 := T.dep_mem ma
        have d2 := T.dep_mem mb
        refine ⟨_, by show a.size < 1 + T.sizeL ss; omega, _, _, a, b, va, vb, _, _, _, _, _, rfl, fun b o e => s7 _ _ (s06 _ _ e), ⟨two2.ord.same s7, two2.ok, ta, tb, Kb.wfL_mem two2.ws.2 ma, Kb.wfL_mem two2.wt.2 mb, T.named_mem ma (Bool.and_eq_true_iff.mp nS).2, T.named_mem mb (Bool.and_eq_true_iff.mp nT).2, by omega, by omega, by omega, by omega⟩, and_occ hA (Kb.ab_down we pre ha hb nab), and_occ hB (Kb.ab_down we.symm pre.symm hb ha (Ne.symm nab)), ?_, rfl⟩
        exact ⟨fun z => absurd z nab, fun z => absurd z tne⟩
    · rintro σ H Q Q' imp ⟨v, e, v2, e2, d, d', h1, h2, h3, h4, b, hb, hq⟩
      exact ⟨v, e, v2, e2, d, d', h1, h2, h3, h4, b, hb, imp _ _ hq⟩
end
end Ad

namespace Ad
open PySem PySem.Spec PySem.Calls PyProof.Rows L2 RZ
abbrev sWeightOf : Stmt := topS 9
theorem scWeightOf : FnScope ["order", "term"] ["order", "term"] (defScope sWeightOf) := ⟨rfl, rfl, rfl, by decide +kernel, rfl, by decide +kernel, by decide +kernel⟩
section
variable {P : Program} {w : World} {K : PySem.W.Frag} {mg : Str → Option Value} {base : Heap}
def spWeightOf (K : PySem.W.Frag) (C : Addr) : Sp := fun vs H Q _ => ∃ (o : Addr) (R S : List Row) (t : T) (x : V), vs = [.ref o, x] ∧ OrdI K C H o R S ∧ OOk R S ∧ Tm K H t x ∧ Kb.Wf (ranked R S) t ∧ t.size ≤ 10000 ∧
  ∀ H', Same H H' → Q (.int (Kb.W (Kb.wOf (ranked R S)) t)) H'
theorem ok_weightOf {C f fW : Addr} {fd fdW : FuncData} {k : Nat} (F : Fun K "weight_of" "weight_of" sWeightOf f fd) (GW : FnOk P w K mg base CX0 k fW fdW ["order", "term"] (spWeighed K C)) (gW : mg "_weighed" = some (.ref fW)) (kW : PySem.W.keepIn K (.ref fW) = true) (bW : Binds K fdW ["order", "term"] []) :
    FnOk P w K mg base CX0 (k + 1) f fd ["order", "term"] (spWeightOf K C) := by
  refine F.ok scWeightOf (fun vs H Q E h => ?_) (fun cdv A outer s H vs Q E hr h => ?_)
  · obtain ⟨o, R, S, t, x, rfl, _⟩ := h
    rfl
  · obtain ⟨o, R, S, t, x, rfl, hO, ok, ht, wf, small, q⟩ := h
    refine ⟨_, (pss_one (ps_ret (pe_ix ix_tup (pe_call GW hr (by rfl) gW kW bW .nil pass0 (pa_cons (pv 0) (pa_cons (pv 1) pa_nil))) pe_int (fun _ _ => rfl)))), ?_⟩
    refine ⟨.ref o, rfl, x, rfl, o, R, S, t, x, rfl, hO, ok, ht, wf, small, fun H1 pr od ks sm nod sq e c => ?_⟩
    exact ⟨pr, _, 0, _, rfl, rfl, sq, atI_nat (j := 0) rfl, q H1 sm⟩
end
end Ad

namespace Ad
open PySem PySem.Spec PySem.Calls PyProof.Rows L2
abbrev sDrawn : Stmt := topS 26
theorem scDrawn : FnScope ["_law_pen_here", "_law_rows", "_law_deep", "_law_variables", "_law_some", "_law_name", "_law_arity", "_law_weight_here", "_law_row", "_law_k"] ["_law_pen_here", "_law_rows", "_law_deep", "_law_variables"] (defScope sDrawn) := ⟨rfl, rfl, rfl, by decide +kernel, rfl, by decide +kernel, by decide +kernel⟩
section
variable {P : Program} {w : World} {K : PySem.W.Frag} {mg : Str → Option Value} {base : Heap}
theorem ok_drawn {f fD fP : Addr} {fd fdD fdP : FuncData} {k : Nat} (F : Fun K "_law_drawn_term" "_law_drawn_term" sDrawn f fd) (gF : mg "_law_drawn_term" = some (.ref f)) (bF : Binds K fd ["_law_pen_here", "_law_rows", "_law_deep", "_law_variables"] [])
    (GD : FnOk P w K mg base CX0 k fD fdD ["_law_pen_here", "_law_many"] Pn.spDraw) (gD : mg "_law_draw" = some (.ref fD)) (kD : PySem.W.keepIn K (.ref fD) = true) (bD : Binds K fdD ["_law_pen_here", "_law_many"] [])
    (GP : FnOk P w K mg base CX0 k fP fdP ["_law_pen_here", "_law_some"] (Pn.spPick K)) (gP : mg "_law_pick" = some (.ref fP)) (kP : PySem.W.keepIn K (.ref fP) = true) (bP : Binds K fdP ["_law_pen_here", "_law_some"] []) (mt : mg "tuple" = none) (mr : mg "range" = none) :
    ∀ n, FnOk P w K mg base CX0 (k + n) f fd ["_law_pen_here", "_law_rows", "_law_deep", "_law_variables"] (spDrawn K n)
  | 0 => vac fun vs H Q E ⟨p, l, ra, ns, c, deep, nv, R, _, _, _, _, _, _, z, _⟩ => absurd z (Nat.not_lt_zero _)
  | n + 1 => by
    have IH := ok_drawn F gF bF GD gD kD bD GP gP kP bP mt mr n
    refine F.ok scDrawn (fun vs H Q E h => ?_) (fun cdv A outer s H vs Q E hr h => ?_)
    · obtain ⟨p, l, ra, ns, c, deep, nv, R, rfl, _⟩ := h
      rfl
    · obtain ⟨p, l, ra, ns, c, deep, nv, R, rfl, hP, hlen, hc, hR, ok, hd, nv0, nv1, q⟩ := h
      have hr0 := hr.mono (Nat.le_add_right k n)
      refine ⟨_, C8.pss_cut (ps_if (pw_and (pt_cmpR op_gt (pv 3) pe_int (nomark _)) (pw_and1 (pt_cmpR op_eq (pe_call GD hr0 (by rfl) gD kD bD .nil pass0 (pa_cons (pv 0) (pa_cons pe_int pa_nil))) pe_int (nomark _)))).pt
          (pss_one (ps_ret (pe_call GD hr0 (by rfl) gD kD bD .nil pass0 (pa_cons (pv 0) (pa_cons (pv 3) pa_nil))))) pss_nil)
        (pss_cons (ps_setLc (i := 4) (own := [("_law_row", 8)]) (g := gName 8) (tt := tOr (tTest (tOp (rI0 fun i j => .bl (decide (j < i))) (tVar 2) (tC (.int 0)))) (tTest (tOp rEq (tOp (rIxT K) (tVar 8) (tC (.int 1))) (tC (.int 0))))) (te := tVar 8) rfl scDrawn.nd rfl rfl (sw_true rfl rfl rfl (by decide +kernel))
            (pi_tup (pe_ix ix_tup (pv 1) pe_int (fun _ _ => rfl)))
            (blkOk_by (N := ["_law_pen_here", "_law_rows", "_law_deep", "_law_variables", "_law_some", "_law_name", "_law_arity", "_law_weight_here", "_law_row", "_law_k"]) (sc := defScope sDrawn) (by decide +kernel))
            (fun _ _ _ _ _ => pg_name (i := 8) scDrawn.nd rfl (.inl rfl))
            (fun _ _ _ _ _ => pts_one (pw_or (pt_cmpR op_gt (pv 2) pe_int (nomark _)) (pw_or1 (pt_cmpR op_eq (pe_ix (r := rIxT K) ix_tup (pv 8) pe_int (fun _ _ => rfl)) pe_int (nomark _)))).pt)
            (fun _ _ _ _ _ => pv 8))
        (pss_cons (ps_asg (pe_call GP hr0 (by rfl) gP kP bP .nil pass0 (pa_cons (pv 0) (pa_cons (pv 4) pa_nil))) (pg_tup rfl (pgs_cons (pg_name (i := 5) scDrawn.nd rfl (.inl rfl)) (pgs_cons (pg_name (i := 6) scDrawn.nd rfl (.inl rfl)) (pgs_cons (pg_name (i := 7) scDrawn.nd rfl (.inl rfl)) pgs_nil)))))
        (pss_one (ps_ret (pe_op op_catT (pe_tup (pa_cons (pv 5) pa_nil)) (pe_callTy call_tuple_of (by rfl) mt (by decide +kernel) (pa_cons
          (pe_lc (own := [("_law_k", 9)]) (g := gName 9) (tt := tYes) rfl scDrawn.nd (pi_range1 (by rfl) mr (pa_cons (pv 6) pa_nil))
            (blkOk_by (N := ["_law_pen_here", "_law_rows", "_law_deep", "_law_variables", "_law_some", "_law_name", "_law_arity", "_law_weight_here", "_law_row", "_law_k"]) (sc := defScope sDrawn) (by decide +kernel))
            (fun _ _ _ _ _ => pg_name (i := 9) scDrawn.nd rfl (.inl rfl)) (fun _ _ _ _ _ => pts_nil)
            (fun _ _ _ _ _ => pe_call IH hr (by rfl) gF F.kp bF .nil pass0 (pa_cons (pv 0) (pa_cons (pv 1) (pa_cons (pe_op op_sub (pv 2) pe_int) (pa_cons (pv 3) pa_nil)))))) pa_nil))))))), ?_⟩
      refine ⟨fun σ G => ∃ c1, σ = [some (.ref p), some (.ref ra), some (.int (deep : Int)), some (.int nv), none, none, none, none, none, none] ∧ c1 ≤ c + 1 ∧ Pn.Pen G p l ns c1 ∧ Pn.But p H G, ?_, ?_⟩
      · have d2 := two_dn deep
        refine ⟨.int nv, rfl, nv, 0, rfl, rfl, _, rfl, ?_⟩
        refine ite2 (fun hpos => ?_) (fun _ => ?_)
        · have hpos' : 0 < nv := of_decide_eq_true hpos
          refine ⟨.ref p, rfl, p, l, ns, c, 3, rfl, hP, hlen, by omega, by decide, by decide, fun r G r0 r1 P1 b1 => ⟨rfl, _, rfl, ?_⟩⟩
          refine ite2 (fun _ => ?_) (fun _ => ?_)
          · refine ⟨.ref p, rfl, .int nv, rfl, p, l, ns, c + 1, nv, rfl, P1, hlen, by omega, by omega, by omega, fun r' G' r0' r1' P2 b2 => ?_⟩
            refine q (.v r') _ G' (c + 1 + 1) rfl ⟨rfl, Nat.zero_le _, one_sz _, fun j hj => ?_, True.intro⟩ (by omega) P2 (b1.trans b2)
            cases List.mem_singleton.mp hj
            exact ⟨r0', r1'⟩
          · exact ⟨c + 1, rfl, Nat.le_refl _, P1, b1⟩
        · exact ⟨c, rfl, Nat.le_succ _, hP, Pn.But.refl _ _⟩
      · rintro σ G ⟨c1, rfl, hc1, P1, b1⟩
        have hR1 := hR.mono (pen_tk hP b1)
        obtain ⟨rb, ry, rs, q1, q2, rows⟩ := hR1
        refine ⟨.ref ra, rfl, ra, _, 0, .ref rb, rfl, rfl, q1, atI_nat (j := 0) rfl, rb, rfl, ⟨rs, q2⟩, fun D nD => ?_⟩
        have lrs := rows.len
        obtain ⟨jc, rc, hjc, rc0⟩ := ok.const
        refine lc_tup (K := K) (a := rb) (xs := rs) (fun i G2 => ∃ acc, Same G G2 ∧ G2 D = some (.lst acc) ∧ (∀ v ∈ acc, ∃ r ∈ R, RowV K G r v ∧ (0 < deep ∨ r.2.1 = 0)) ∧ acc.length ≤ i ∧ (jc < i → acc ≠ [])) ⟨[], same_new (fun b o e => e) nD _, upd_same, (fun v hv => nomatch hv), Nat.le_refl _, fun z => absurd z (Nat.not_lt_zero _)⟩
          (fun i G2 _ ⟨acc, sm, _⟩ => (TK.same sm).sq q2) ?_ ?_
        · rintro i y G2 hy ⟨acc, sm, gD, mem, few, full⟩
          obtain ⟨r, hri, hrv⟩ := rows.get hy
          have hmem := List.mem_of_getElem? hri
          have hilt := (List.getElem?_eq_some_iff.mp hri).1
          have hfew := ok.few
          have yes : (0 < deep ∨ r.2.1 = 0) → ∃ acc', G2 D = some (.lst acc') ∧ acc'.length < sizeLine ∧ ∃ acc2, Same G (upd G2 D (.lst (acc' ++ [y]))) ∧ (upd G2 D (.lst (acc' ++ [y]))) D = some (.lst acc2) ∧ (∀ v ∈ acc2, ∃ r ∈ R, RowV K G r v ∧ (0 < deep ∨ r.2.1 = 0)) ∧ acc2.length ≤ i + 1 ∧ (jc < i + 1 → acc2 ≠ []) := by
            intro fit
            refine ⟨acc, gD, by rw [sizeLine_eq]; omega, _, same_on sm nD _, upd_same, fun v hv => ?_, ?_, fun _ => by simp⟩
            · rcases List.mem_append.mp hv with z | z
              · exact mem v z
              · cases List.mem_singleton.mp z
                exact ⟨r, hmem, hrv, fit⟩
            · rw [List.length_append, List.length_singleton]
              omega
          refine ⟨rfl, .int (deep : Int), rfl, _, _, rfl, rfl, _, rfl, ?_⟩
          refine ite2 (fun hpos => ?_) (fun hneg => ?_)
          · have hpos' : (0 : Int) < (deep : Int) := of_decide_eq_true hpos
            refine iteT ?_
            exact ⟨y, rfl, yes (.inl (by omega))⟩
          · obtain ⟨b, rfl, sqb⟩ := hrv
            refine ⟨.ref b, rfl, b, _, 1, .int (r.2.1 : Int), rfl, rfl, (TK.same sm).sq sqb, atI_nat (j := 1) rfl, rfl, _, rfl, ?_⟩
            by_cases z : r.2.1 = 0
            · have e : decide (V.int (r.2.1 : Int) = V.int 0) = true := by rw [z]; rfl
              rw [e]
              refine iteT ?_
              exact ⟨.ref b, rfl, yes (.inr z)⟩
            · have e : decide (V.int (r.2.1 : Int) = V.int 0) = false := by
                refine decide_eq_false fun w => z ?_
                have := V.int.inj w
                omega
              rw [e]
              refine iteF ?_
              refine ⟨acc, sm, gD, mem, Nat.le_succ_of_le few, fun lt => ?_⟩
              rcases Nat.lt_succ_iff_lt_or_eq.mp lt with w | w
              · exact full w
              · rw [← w, hjc] at hri
                cases hri
                exact absurd rc0 z
        · rintro G2 ⟨acc, sm, gD, mem, few, full⟩
          have hne : acc ≠ [] := full (by
            rw [lrs]
            exact (List.getElem?_eq_some_iff.mp hjc).1)
          have P2 := pen_same P1 sm
          have pD : D ≠ p := fun z => by
            obtain ⟨⟨_, _, _, e, _⟩, _⟩ := P1
            rw [z, e] at nD
            cases nD
          have d2 := two_dn deep
          have hfew := ok.few
          refine ⟨.ref p, rfl, .ref D, rfl, p, l, D, ns, c1, acc, rfl, P2, hlen, by omega, .inl (.inl (.inl gD)), hne, by omega, pD, fun x G3 hx P3 b3 => ?_⟩
          obtain ⟨r, hrR, ⟨b, rfl, sqb⟩, fit⟩ := mem x hx
          have k3 : TK G G3 := (TK.same sm).trans (pen_tk P2 b3)
          have hR3 := hR.mono ((pen_tk hP b1).trans k3)
          have b13 : Pn.But p H G3 := (b1.trans (Pn.But.of sm)).trans b3
          refine ⟨b, _, rfl, k3.sq sqb, rfl, .str r.1, _, rfl, .int (r.2.1 : Int), _, rfl, .int r.2.2, _, rfl, rfl, ?_⟩
          obtain ⟨strOk, ar3⟩ := ok.names r hrR
          refine ⟨.str r.1, rfl, (by show 1 ≤ sizeLine; decide), fun p4 n4 => ?_⟩
          have m4 : (upd G3 p4 (.tup [.str r.1])) p4 = some (.tup [.str r.1]) := upd_same
          have s4 : Same G3 (upd G3 p4 (.tup [.str r.1])) := same_new (fun b o e => e) n4 _
          have P4 := pen_same P3 s4
          have R4 := hR3.mono (TK.same s4)
          have b14 := b13.trans (Pn.But.of s4)
          generalize upd G3 p4 (.tup [.str r.1]) = G4 at m4 s4 P4 R4 b14
          refine ⟨.int (r.2.1 : Int), rfl, _, rfl, by omega, by omega, fun D2 nD2 => ?_⟩
          have pD2 : D2 ≠ p := fun z => by
            obtain ⟨⟨_, _, _, e, _⟩, _⟩ := P4
            rw [z, e] at nD2
            cases nD2
          have P4' := pen_same P4 (same_new (fun b o e => e) nD2 (.lst []))
          refine lc_range (lo := 0) (n := ((r.2.1 : Int)).toNat) (fun i G5 => ∃ (ts : List T) (acc : List V) (c5 : Nat), Pn.But p G4 G5 ∧ G5 D2 = some (.lst acc) ∧ Tms K G5 ts acc ∧ ts.length = i ∧ Pn.Pen G5 p l ns c5 ∧ c5 ≤ c1 + 1 + i * dn (deep - 1) ∧
            (∀ t ∈ ts, DT R (deep - 1) nv t)) ⟨[], [], c1 + 1, Pn.But.of (same_new (fun b o e => e) nD2 _), upd_same, rfl, rfl, P4', by omega, fun t ht => nomatch ht⟩ ?_ ?_
          · rintro i G5 hi ⟨ts, acc, c5, b5, gD, all, len, P5, hc5, dts⟩
            have hi' : i < r.2.1 := by omega
            have dpos : 0 < deep := by
              rcases fit with z | z
              · exact z
              · omega
            obtain ⟨d', rfl⟩ : ∃ d', deep = d' + 1 := ⟨deep - 1, by omega⟩
            have ed : d' + 1 - 1 = d' := Nat.add_sub_cancel ..
            rw [ed] at hc5 dts
            have hm : i * dn d' ≤ 2 * dn d' := Nat.mul_le_mul_right _ (by omega)
            have dd : dn (d' + 1) = 2 + 3 * dn d' := rfl
            have ez : (((d' + 1 : Nat)) : Int) - 1 = (d' : Int) := by omega
            have b45 := b14.trans b5
            refine ⟨rfl, .ref p, rfl, .ref ra, rfl, .int ((d' + 1 : Nat) : Int), rfl, _, _, rfl, rfl, .int nv, rfl, p, l, ra, ns, c5, d', nv, R, ?_, P5, hlen, by omega, hR.mono (pen_tk hP b45), ok, by omega, nv0, nv1, fun t v G6 c6 tv dt hc6 P6 b6 => ?_⟩
            · show [V.ref p, V.ref ra, V.int (((d' + 1 : Nat) : Int) - 1), V.int nv] = _
              rw [ez]
            · have g6 : G6 D2 = some (.lst acc) := b6 _ _ pD2 gD
              have k6 : TK G5 G6 := pen_tk P5 b6
              have kl : TK G6 (upd G6 D2 (.lst (acc ++ [v]))) := TK.lst g6 _
              have la := all.len
              refine ⟨acc, g6, by rw [sizeLine_eq]; omega, ts ++ [t], acc ++ [v], c6, ?_, upd_same, Tms.app (Tms.mono (k6.trans kl) _ _ all) (Tms.one (Tm.mono kl _ _ tv)), by rw [List.length_append, List.length_singleton, len], ?_, ?_, ?_⟩
              · intro b o nb e
                have e2 := b6 _ _ nb (b5 _ _ nb e)
                have nbD : b ≠ D2 := fun z => by rw [z, nD2] at e; cases e
                rw [upd_ne nbD]
                exact e2
              · obtain ⟨⟨a1, a2, a3, a4, a5⟩, a6⟩ := P6
                have lD : l ≠ D2 := fun z => by
                  have e := P4.ls
                  rw [z, nD2] at e
                  cases e
                exact ⟨⟨a1, a2, a3, by rw [upd_ne pD2.symm]; exact a4, a5⟩, by rw [upd_ne lD]; exact a6⟩
              · rw [ed, Nat.succ_mul]
                omega
              · intro t' ht'
                rw [ed]
                rcases List.mem_append.mp ht' with z | z
                · exact dts t' z
                · rw [List.mem_singleton.mp z]
                  exact dt
          · rintro G5 ⟨ts, acc, c5, b5, gD, all, len, P5, hc5, dts⟩
            have b45 := b14.trans b5
            have la := all.len
            have ar : ts.length = r.2.1 := by omega
            have n4p : p4 ≠ p := fun z => by
              obtain ⟨⟨_, _, _, e, _⟩, _⟩ := P3
              rw [z, e] at n4
              cases n4
            have m4' : G5 p4 = some (.tup [.str r.1]) := b5 _ _ n4p m4
            refine ⟨D2, acc, rfl, .inl ⟨.inl (.inl gD), fun p6 n6 => ?_⟩⟩
            have s6 : Same G5 (upd G5 p6 (.tup acc)) := same_new (fun b o e => e) n6 _
            have m6 : (upd G5 p6 (.tup acc)) p6 = some (.tup acc) := upd_same
            have P6 := pen_same P5 s6
            have b16 := b45.trans (Pn.But.of s6)
            have all6 := Tms.mono (TK.same s6) _ _ all
            have m4'' := s6 _ _ m4'
            generalize upd G5 p6 (.tup acc) = G6 at s6 m6 P6 b16 all6 m4''
            have dt : DT R deep nv (.f r.1 ts) ∧ c5 ≤ c + dn deep := by
              have named : ∀ us : List T, (∀ t ∈ us, t.named = true) → T.namedL us = true := by
                intro us
                induction us with
                | nil => intro _; rfl
                | cons u us ih =>
                  intro h
                  show (T.named u && T.namedL us) = true
                  rw [h u List.mem_cons_self, ih fun t ht => h t (List.mem_cons_of_mem _ ht)]
                  rfl
              have deps : ∀ (m : Nat) (us : List T), (∀ t ∈ us, t.dep ≤ m) → T.depL us ≤ m := by
                intro m us
                induction us with
                | nil => intro _; exact Nat.zero_le _
                | cons u us ih =>
                  intro h
                  have h1 := h u List.mem_cons_self
                  have h2 := ih fun t ht => h t (List.mem_cons_of_mem _ ht)
                  show max (T.dep u) (T.depL us) ≤ m
                  omega
              have sizes : ∀ (m : Nat) (us : List T), (∀ t ∈ us, t.size ≤ m) → T.sizeL us ≤ us.length * m := by
                intro m us
                induction us with
                | nil => intro _; exact Nat.zero_le _
                | cons u us ih =>
                  intro h
                  have h1 := h u List.mem_cons_self
                  have h2 := ih fun t ht => h t (List.mem_cons_of_mem _ ht)
                  show T.size u + T.sizeL us ≤ (us.length + 1) * m
                  rw [Nat.succ_mul]
                  omega
              have vars : ∀ us : List T, (∀ t ∈ us, ∀ j ∈ t.vars, 0 ≤ j ∧ j < nv) → ∀ j ∈ T.varsL us, 0 ≤ j ∧ j < nv := by
                intro us
                induction us with
                | nil => intro _ j hj; cases hj
                | cons u us ih =>
                  intro h j hj
                  rcases List.mem_append.mp (show j ∈ T.vars u ++ T.varsL us from hj) with z | z
                  · exact h u List.mem_cons_self j z
                  · exact ih (fun t ht => h t (List.mem_cons_of_mem _ ht)) j z
              have hs := sizes (sz (deep - 1)) ts fun t ht => (dts t ht).size
              have hv := vars ts fun t ht => (dts t ht).vars
              have hn := named ts fun t ht => (dts t ht).named
              have hd := deps (deep - 1 + 1) ts fun t ht => (dts t ht).dep
              cases deep with
              | zero =>
                have z : r.2.1 = 0 := by
                  rcases fit with y | y
                  · exact absurd y (Nat.lt_irrefl _)
                  · exact y
                have e : ts = [] := List.length_eq_zero_iff.mp (by omega)
                subst e
                have z2 : ((r.2.1 : Int)).toNat = 0 := by omega
                rw [z2] at hc5
                refine ⟨⟨?_, Nat.le_refl _, Nat.le_refl _, (fun j hj => nomatch hj), ⟨⟨r, hrR, rfl, ar.symm⟩, True.intro⟩⟩, ?_⟩
                · show (nameOk r.1 && true) = true
                  rw [strOk]
                  rfl
                · show c5 ≤ c + 2
                  omega
              | succ d' =>
                have ed : d' + 1 - 1 = d' := Nat.add_sub_cancel ..
                rw [ed] at hs hd hc5
                have hm : ts.length * sz d' ≤ 3 * sz d' := Nat.mul_le_mul_right _ (by omega)
                have hm2 : ((r.2.1 : Int)).toNat * dn d' ≤ 3 * dn d' := Nat.mul_le_mul_right _ (by omega)
                refine ⟨⟨?_, ?_, ?_, hv, ⟨⟨r, hrR, rfl, ar.symm⟩, Kb.wfL_of fun t ht => (dts t ht).wf⟩⟩, ?_⟩
                · show (nameOk r.1 && T.namedL ts) = true
                  rw [strOk, hn]
                  rfl
                · show 1 + T.depL ts ≤ d' + 1 + 1
                  omega
                · show 1 + T.sizeL ts ≤ 1 + 3 * sz d'
                  omega
                · show c5 ≤ c + (2 + 3 * dn d')
                  omega
            refine ⟨p4, p6, _, _, rfl, rfl, .inl (.inl m4''), .inl (.inl m6), by simp, by rw [List.length_singleton, sizeLine_eq]; omega, fun e => ?_, fun e p7 n7 => ?_⟩
            · refine q (.f r.1 ts) _ G6 c5 ⟨p4, acc, rfl, ?_, all6⟩ dt.1 dt.2 P6 b16
              rw [e]
              exact .inl (.inl m4'')
            · have s7 : Same G6 (upd G6 p7 (.tup ([.str r.1] ++ acc))) := same_new (fun b o e => e) n7 _
              exact q (.f r.1 ts) _ _ c5 ⟨p7, acc, rfl, .inl (.inl upd_same), Tms.mono (TK.same s7) _ _ all6⟩ dt.1 dt.2 (pen_same P6 s7) (b16.trans (Pn.But.of s7))
end
end Ad

/-! picking from a tuple, wherever it stands -/
namespace Ad
open PySem PySem.Spec PySem.Calls PyProof.Rows L2
section
variable {P : Program} {w : World} {K : PySem.W.Frag} {mg : Str → Option Value} {base : Heap}
def spPickT (K : PySem.W.Frag) : Sp := fun vs H Q _ => ∃ (p l s : Addr) (ns : List Int) (c : Nat) (xs : List V), vs = [.ref p, .ref s] ∧ Pn.Pen H p l ns c ∧ ns.length ≤ 1000 ∧ c ≤ 1000000000 ∧ SqT K H s xs ∧ xs ≠ [] ∧ xs.length ≤ 1000000 ∧
  ∀ x H', x ∈ xs → Pn.Pen H' p l ns (c + 1) → Pn.But p H H' → Q x H'
theorem ok_pickT {f fD : Addr} {fd fdD : FuncData} {k : Nat} (F : Fun K "_law_pick" "_law_pick" Pn.sPick f fd) (G : FnOk P w K mg base CX0 (k + 1) fD fdD ["_law_pen_here", "_law_many"] Pn.spDraw) (gD : mg "_law_draw" = some (.ref fD)) (kD : PySem.W.keepIn K (.ref fD) = true) (bD : Binds K fdD ["_law_pen_here", "_law_many"] [])
    (ml : mg "len" = none) : FnOk P w K mg base CX0 (k + 2) f fd ["_law_pen_here", "_law_some"] (spPickT K) := by
  refine F.ok Pn.scPick (fun vs H Q E h => ?_) (fun cdv A outer s H vs Q E hr h => ?_)
  · obtain ⟨p, l, s, ns, c, xs, rfl, _⟩ := h
    rfl
  · obtain ⟨p, l, s, ns, c, xs, rfl, hP, hlen, hc, hS, hne, hx, q⟩ := h
    refine ⟨_, pss_one (ps_ret (pe_ix ix_tup (pv 1) (pe_call G hr (by rfl) gD kD bD .nil pass0 (pa_cons (pv 0) (pa_cons (pe_callB call_len_seq (by rfl) ml PySem.boot_len (pa_cons (pv 1) pa_nil)) pa_nil))) (fun _ _ => rfl))), ?_⟩
    have hpos : 1 ≤ xs.length := by
      cases xs with
      | nil => exact absurd rfl hne
      | cons x r => rw [List.length_cons]; omega
    refine ⟨.ref s, rfl, .ref p, rfl, .ref s, rfl, s, xs, rfl, .inr hS, p, l, ns, c, _, rfl, hP, hlen, hc, by omega, by omega, fun r H' r0 r1 hP' b' => ?_⟩
    obtain ⟨j, rfl⟩ : ∃ j : Nat, r = (j : Int) := ⟨r.toNat, by omega⟩
    have hj : j < xs.length := by omega
    have hg : xs[j]? = some xs[j] := List.getElem?_eq_getElem hj
    exact ⟨s, xs, _, _, rfl, rfl, (pen_tk hP b').sq hS, atI_nat hg, q _ _ (List.getElem_mem hj) hP' b'⟩
end
end Ad

namespace Ad
open PySem PySem.Spec PySem.Calls PyProof.Rows L2
abbrev sLAtom : Stmt := topS 27
theorem scLAtom : FnScope ["_law_pen_here", "_law_rows", "_law_deep", "_law_variables", "_law_name", "_law_arity", "_law_weight_here", "_law_k"] ["_law_pen_here", "_law_rows", "_law_deep", "_law_variables"] (defScope sLAtom) := ⟨rfl, rfl, rfl, by decide +kernel, rfl, by decide +kernel, by decide +kernel⟩
/-- a drawn atom -/
structure DA (R S : List Row) (deep : Nat) (nv : Int) (t : T) : Prop where
  named : t.named = true
  dep : t.dep ≤ deep + 1
  size : t.size ≤ sz deep
  vars : ∀ j ∈ t.vars, 0 ≤ j ∧ j < nv
  wf : Kb.Wf (R ++ S) t
  hd : ∃ x ts, t = .f x ts ∧ ∃ r ∈ S, r.1 = x
/-- names of truths -/
structure TOk (S : List Row) : Prop where
  names : ∀ r ∈ S, nameOk r.1 = true ∧ r.2.1 ≤ 3
  some : S ≠ []
  few : S.length ≤ 1000
section
variable {P : Program} {w : World} {K : PySem.W.Frag} {mg : Str → Option Value} {base : Heap}
def spLAtom (K : PySem.W.Frag) (n : Nat) : Sp := fun vs H Q _ => ∃ (p l ra : Addr) (ns : List Int) (c d' : Nat) (nv : Int) (R S : List Row), vs = [.ref p, .ref ra, .int ((d' + 1 : Nat) : Int), .int nv] ∧ Pn.Pen H p l ns c ∧ ns.length ≤ 1000 ∧ c + dn (d' + 1) ≤ 1000000000 ∧ OrdAt K H ra R S ∧ ROk R ∧ TOk S ∧
  d' < n ∧ 0 ≤ nv ∧ nv ≤ 1000 ∧ ∀ t v H' c', Tm K H' t v → DA R S (d' + 1) nv t → c' ≤ c + dn (d' + 1) → Pn.Pen H' p l ns c' → Pn.But p H H' → Q v H'
theorem ok_latom {f fP fT : Addr} {fd fdP fdT : FuncData} {k n : Nat} (F : Fun K "_law_drawn_atom" "_law_drawn_atom" sLAtom f fd)
    (GP : FnOk P w K mg base CX0 k fP fdP ["_law_pen_here", "_law_some"] (spPickT K)) (gP : mg "_law_pick" = some (.ref fP)) (kP : PySem.W.keepIn K (.ref fP) = true) (bP : Binds K fdP ["_law_pen_here", "_law_some"] [])
    (IH : FnOk P w K mg base CX0 k fT fdT ["_law_pen_here", "_law_rows", "_law_deep", "_law_variables"] (spDrawn K n)) (gF : mg "_law_drawn_term" = some (.ref fT)) (kF : PySem.W.keepIn K (.ref fT) = true) (bF : Binds K fdT ["_law_pen_here", "_law_rows", "_law_deep", "_law_variables"] []) (mt : mg "tuple" = none) (mr : mg "range" = none) :
    FnOk P w K mg base CX0 (k + 1) f fd ["_law_pen_here", "_law_rows", "_law_deep", "_law_variables"] (spLAtom K n) := by
  refine F.ok scLAtom (fun vs H Q E h => ?_) (fun cdv A outer s H vs Q E hr h => ?_)
  · obtain ⟨p, l, ra, ns, c, d', nv, R, S, rfl, _⟩ := h
    rfl
  · obtain ⟨p, l, ra, ns, c, d', nv, R, S, rfl, hP, hlen, hc, hO, ok, tok, hd, nv0, nv1, q⟩ := h
    have hR := hO.rows
    refine ⟨_, (pss_cons (ps_asg (pe_call GP hr (by rfl) gP kP bP .nil pass0 (pa_cons (pv 0) (pa_cons (pe_ix ix_tup (pv 1) pe_int (fun _ _ => rfl)) pa_nil))) (pg_tup rfl (pgs_cons (pg_name (i := 4) scLAtom.nd rfl (.inl rfl)) (pgs_cons (pg_name (i := 5) scLAtom.nd rfl (.inl rfl)) (pgs_cons (pg_name (i := 6) scLAtom.nd rfl (.inl rfl)) pgs_nil)))))
    (pss_one (ps_ret (pe_op op_catT (pe_tup (pa_cons (pv 4) pa_nil)) (pe_callTy call_tuple_of (by rfl) mt (by decide +kernel) (pa_cons (pe_lc (own := [("_law_k", 7)]) (g := gName 7) (tt := tYes) rfl scLAtom.nd (pi_range1 (by rfl) mr (pa_cons (pv 5) pa_nil)) (blkOk_by (N := ["_law_pen_here", "_law_rows", "_law_deep", "_law_variables", "_law_name", "_law_arity", "_law_weight_here", "_law_k"]) (sc := defScope sLAtom) (by decide +kernel)) (fun _ _ _ _ _ => (pg_name (i := 7) scLAtom.nd rfl (.inl rfl))) (fun _ _ _ _ _ => pts_nil) (fun _ _ _ _ _ => (pe_call IH hr (by rfl) gF kF bF .nil pass0 (pa_cons (pv 0) (pa_cons (pv 1) (pa_cons (pe_op op_sub (pv 2) pe_int) (pa_cons (pv 3) pa_nil))))))) pa_nil)))))), ?_⟩
    have dd : dn (d' + 1) = 2 + 3 * dn d' := rfl
    obtain ⟨b1, b2, vs1, vs2, sq0, sq1, sq2, f1, f2⟩ := hO
    have l2 := f2.len
    have fewS := tok.few
    have ne2 : vs2 ≠ [] := fun e => tok.some (by
      rw [e] at l2
      exact List.length_eq_zero_iff.mp l2.symm)
    obtain ⟨c1, ec1⟩ : ∃ c1, c1 = c := ⟨c, rfl⟩
    refine ⟨.ref p, rfl, .ref ra, rfl, ra, _, 1, .ref b2, rfl, rfl, sq0, atI_nat (j := 1) rfl, p, l, b2, ns, c, vs2, rfl, hP, hlen, by omega, sq2, ne2, by omega, fun x G3 hx P3 b13 => ?_⟩
    rw [← ec1] at P3
    have k3 := pen_tk hP b13
    have hR3 := hR.mono k3
    obtain ⟨r, hrR, ⟨b, rfl, sqb⟩⟩ := f2.mem hx
    obtain ⟨strOk, ar3⟩ := tok.names r hrR
    refine ⟨b, _, rfl, k3.sq sqb, rfl, .str r.1, _, rfl, .int (r.2.1 : Int), _, rfl, .int r.2.2, _, rfl, rfl, ?_⟩
    obtain ⟨strOk, ar3⟩ := tok.names r hrR
    refine ⟨.str r.1, rfl, (by show 1 ≤ sizeLine; decide), fun p4 n4 => ?_⟩
    have m4 : (upd G3 p4 (.tup [.str r.1])) p4 = some (.tup [.str r.1]) := upd_same
    have s4 : Same G3 (upd G3 p4 (.tup [.str r.1])) := same_new (fun b o e => e) n4 _
    have P4 := pen_same P3 s4
    have R4 := hR3.mono (TK.same s4)
    have b14 := b13.trans (Pn.But.of s4)
    generalize upd G3 p4 (.tup [.str r.1]) = G4 at m4 s4 P4 R4 b14
    refine ⟨.int (r.2.1 : Int), rfl, _, rfl, by omega, by omega, fun D2 nD2 => ?_⟩
    have pD2 : D2 ≠ p := fun z => by
      obtain ⟨⟨_, _, _, e, _⟩, _⟩ := P4
      rw [z, e] at nD2
      cases nD2
    have P4' := pen_same P4 (same_new (fun b o e => e) nD2 (.lst []))
    refine lc_range (lo := 0) (n := ((r.2.1 : Int)).toNat) (fun i G5 => ∃ (ts : List T) (acc : List V) (c5 : Nat), Pn.But p G4 G5 ∧ G5 D2 = some (.lst acc) ∧ Tms K G5 ts acc ∧ ts.length = i ∧ Pn.Pen G5 p l ns c5 ∧ c5 ≤ c1 + 1 + i * dn d' ∧
      (∀ t ∈ ts, DT R d' nv t)) ⟨[], [], c1 + 1, Pn.But.of (same_new (fun b o e => e) nD2 _), upd_same, rfl, rfl, P4', by omega, fun t ht => nomatch ht⟩ ?_ ?_
    · rintro i G5 hi ⟨ts, acc, c5, b5, gD, all, len, P5, hc5, dts⟩
      have hi' : i < r.2.1 := by omega
      have hm : i * dn d' ≤ 2 * dn d' := Nat.mul_le_mul_right _ (by omega)
      have ez : (((d' + 1 : Nat)) : Int) - 1 = (d' : Int) := by omega
      have b45 := b14.trans b5
      refine ⟨rfl, .ref p, rfl, .ref ra, rfl, .int ((d' + 1 : Nat) : Int), rfl, _, _, rfl, rfl, .int nv, rfl, p, l, ra, ns, c5, d', nv, R, ?_, P5, hlen, by omega, hR.mono (pen_tk hP b45), ok, by omega, nv0, nv1, fun t v G6 c6 tv dt hc6 P6 b6 => ?_⟩
      · show [V.ref p, V.ref ra, V.int (((d' + 1 : Nat) : Int) - 1), V.int nv] = _
        rw [ez]
      · have g6 : G6 D2 = some (.lst acc) := b6 _ _ pD2 gD
        have k6 : TK G5 G6 := pen_tk P5 b6
        have kl : TK G6 (upd G6 D2 (.lst (acc ++ [v]))) := TK.lst g6 _
        have la := all.len
        refine ⟨acc, g6, by rw [sizeLine_eq]; omega, ts ++ [t], acc ++ [v], c6, ?_, upd_same, Tms.app (Tms.mono (k6.trans kl) _ _ all) (Tms.one (Tm.mono kl _ _ tv)), by rw [List.length_append, List.length_singleton, len], ?_, ?_, ?_⟩
        · intro b o nb e
          have e2 := b6 _ _ nb (b5 _ _ nb e)
          have nbD : b ≠ D2 := fun z => by rw [z, nD2] at e; cases e
          rw [upd_ne nbD]
          exact e2
        · obtain ⟨⟨a1, a2, a3, a4, a5⟩, a6⟩ := P6
          have lD : l ≠ D2 := fun z => by
            have e := P4.ls
            rw [z, nD2] at e
            cases e
          exact ⟨⟨a1, a2, a3, by rw [upd_ne pD2.symm]; exact a4, a5⟩, by rw [upd_ne lD]; exact a6⟩
        · rw [Nat.succ_mul]
          omega
        · intro t' ht'
          rcases List.mem_append.mp ht' with z | z
          · exact dts t' z
          · rw [List.mem_singleton.mp z]
            exact dt
    · rintro G5 ⟨ts, acc, c5, b5, gD, all, len, P5, hc5, dts⟩
      have b45 := b14.trans b5
      have la := all.len
      have ar : ts.length = r.2.1 := by omega
      have n4p : p4 ≠ p := fun z => by
        obtain ⟨⟨_, _, _, e, _⟩, _⟩ := P3
        rw [z, e] at n4
        cases n4
      have m4' : G5 p4 = some (.tup [.str r.1]) := b5 _ _ n4p m4
      refine ⟨D2, acc, rfl, .inl ⟨.inl (.inl gD), fun p6 n6 => ?_⟩⟩
      have s6 : Same G5 (upd G5 p6 (.tup acc)) := same_new (fun b o e => e) n6 _
      have m6 : (upd G5 p6 (.tup acc)) p6 = some (.tup acc) := upd_same
      have P6 := pen_same P5 s6
      have b16 := b45.trans (Pn.But.of s6)
      have all6 := Tms.mono (TK.same s6) _ _ all
      have m4'' := s6 _ _ m4'
      generalize upd G5 p6 (.tup acc) = G6 at s6 m6 P6 b16 all6 m4''
      have dt : DA R S (d' + 1) nv (.f r.1 ts) ∧ c5 ≤ c + dn (d' + 1) := by
        have named : ∀ us : List T, (∀ t ∈ us, t.named = true) → T.namedL us = true := by
          intro us
          induction us with
          | nil => intro _; rfl
          | cons u us ih =>
            intro h
            show (T.named u && T.namedL us) = true
            rw [h u List.mem_cons_self, ih fun t ht => h t (List.mem_cons_of_mem _ ht)]
            rfl
        have deps : ∀ (m : Nat) (us : List T), (∀ t ∈ us, t.dep ≤ m) → T.depL us ≤ m := by
          intro m us
          induction us with
          | nil => intro _; exact Nat.zero_le _
          | cons u us ih =>
            intro h
            have h1 := h u List.mem_cons_self
            have h2 := ih fun t ht => h t (List.mem_cons_of_mem _ ht)
            show max (T.dep u) (T.depL us) ≤ m
            omega
        have sizes : ∀ (m : Nat) (us : List T), (∀ t ∈ us, t.size ≤ m) → T.sizeL us ≤ us.length * m := by
          intro m us
          induction us with
          | nil => intro _; exact Nat.zero_le _
          | cons u us ih =>
            intro h
            have h1 := h u List.mem_cons_self
            have h2 := ih fun t ht => h t (List.mem_cons_of_mem _ ht)
            show T.size u + T.sizeL us ≤ (us.length + 1) * m
            rw [Nat.succ_mul]
            omega
        have vars : ∀ us : List T, (∀ t ∈ us, ∀ j ∈ t.vars, 0 ≤ j ∧ j < nv) → ∀ j ∈ T.varsL us, 0 ≤ j ∧ j < nv := by
          intro us
          induction us with
          | nil => intro _ j hj; cases hj
          | cons u us ih =>
            intro h j hj
            rcases List.mem_append.mp (show j ∈ T.vars u ++ T.varsL us from hj) with z | z
            · exact h u List.mem_cons_self j z
            · exact ih (fun t ht => h t (List.mem_cons_of_mem _ ht)) j z
        have hs := sizes (sz d') ts fun t ht => (dts t ht).size
        have hv := vars ts fun t ht => (dts t ht).vars
        have hn := named ts fun t ht => (dts t ht).named
        have hd := deps (d' + 1) ts fun t ht => (dts t ht).dep
        have szd : sz (d' + 1) = 1 + 3 * sz d' := rfl
        have hm : ts.length * sz d' ≤ 3 * sz d' := Nat.mul_le_mul_right _ (by omega)
        have hm2 : ((r.2.1 : Int)).toNat * dn d' ≤ 3 * dn d' := Nat.mul_le_mul_right _ (by omega)
        refine ⟨⟨?_, ?_, ?_, hv, ⟨⟨r, List.mem_append_right _ hrR, rfl, ar.symm⟩, Kb.wfL_of fun t ht => (dts t ht).wf.mono fun r hr => List.mem_append_left _ hr⟩, ⟨_, _, rfl, r, hrR, rfl⟩⟩, ?_⟩
        · show (nameOk r.1 && T.namedL ts) = true
          rw [strOk, hn]
          rfl
        · show 1 + T.depL ts ≤ d' + 1 + 1
          omega
        · show 1 + T.sizeL ts ≤ 1 + 3 * sz d'
          omega
        · show c5 ≤ c + (2 + 3 * dn d')
          omega
      refine ⟨p4, p6, _, _, rfl, rfl, .inl (.inl m4''), .inl (.inl m6), by simp, by rw [List.length_singleton, sizeLine_eq]; omega, fun e => ?_, fun e p7 n7 => ?_⟩
      · refine q (.f r.1 ts) _ G6 c5 ⟨p4, acc, rfl, ?_, all6⟩ dt.1 dt.2 P6 b16
        rw [e]
        exact .inl (.inl m4'')
      · have s7 : Same G6 (upd G6 p7 (.tup ([.str r.1] ++ acc))) := same_new (fun b o e => e) n7 _
        exact q (.f r.1 ts) _ _ c5 ⟨p7, acc, rfl, .inl (.inl upd_same), Tms.mono (TK.same s7) _ _ all6⟩ dt.1 dt.2 (pen_same P6 s7) (b16.trans (Pn.But.of s7))
end
end Ad

namespace Ad
open PySem PySem.Spec PySem.Calls PyProof.Rows L2
/-- rows that were drawn -/
structure GenO (R S : List Row) : Prop where
  r : ROk R
  t : TOk S
  ok : OOk R S
theorem gen_ok {B D : List Pr} {R S : List Row} (hB : B ∈ thingsB) (hD : D ∈ truthsB) (pR : (R.map fun r => (r.1, r.2.1)).Perm B) (pS : (S.map fun r => (r.1, r.2.1)).Perm D) (wR : ∀ r ∈ R, 1 ≤ r.2.2) (wS : ∀ r ∈ S, 1 ≤ r.2.2) : GenO R S := by
  have h : (thingsB.all fun B => B.all (fun r => nameOk r.1 && decide (r.2 ≤ 3)) && B.contains ("a", 0) && decide (B.length ≤ 5)) = true := by decide +kernel
  have h1 := List.all_eq_true.mp h B hB
  rw [Bool.and_eq_true, Bool.and_eq_true] at h1
  obtain ⟨⟨h2, h3⟩, h4⟩ := h1
  have k : (truthsB.all fun B => B.all (fun r => nameOk r.1 && decide (r.2 ≤ 3)) && !B.isEmpty && decide (B.length ≤ 5)) = true := by decide +kernel
  have k1 := List.all_eq_true.mp k D hD
  rw [Bool.and_eq_true, Bool.and_eq_true] at k1
  obtain ⟨⟨k2, k3⟩, k4⟩ := k1
  have lR := pR.length_eq
  have lS := pS.length_eq
  rw [List.length_map] at lR lS
  have m4 := of_decide_eq_true h4
  have n4 := of_decide_eq_true k4
  have const : ∃ r ∈ R, r.2.1 = 0 := by
    have z : (("a", 0) : Pr) ∈ B := List.contains_iff_mem.mp h3
    obtain ⟨r, hr, e⟩ := List.mem_map.mp (pR.mem_iff.mpr z)
    exact ⟨r, hr, (Prod.mk.inj e).2⟩
  refine ⟨⟨fun r hr => ?_, ?_, by omega⟩, ⟨fun r hr => ?_, fun e => ?_, by omega⟩, ⟨?_, fun r hr => ?_, const, by omega⟩⟩
  · have z : (r.1, r.2.1) ∈ B := pR.mem_iff.mp (List.mem_map.mpr ⟨r, hr, rfl⟩)
    have z2 := List.all_eq_true.mp h2 _ z
    rw [Bool.and_eq_true] at z2
    exact ⟨z2.1, of_decide_eq_true z2.2⟩
  · obtain ⟨r, hr, e⟩ := const
    obtain ⟨j, hj⟩ := List.mem_iff_getElem?.mp hr
    exact ⟨j, r, hj, e⟩
  · have z : (r.1, r.2.1) ∈ D := pS.mem_iff.mp (List.mem_map.mpr ⟨r, hr, rfl⟩)
    have z2 := List.all_eq_true.mp k2 _ z
    rw [Bool.and_eq_true] at z2
    exact ⟨z2.1, of_decide_eq_true z2.2⟩
  · rw [e] at lS
    have : D = [] := List.length_eq_zero_iff.mp lS.symm
    rw [this] at k3
    cases k3
  · have n : (thingsB.all fun B => truthsB.all fun D => decide ((("yes" : Str) :: (B ++ D).map (·.1)).Nodup)) = true := by decide +kernel
    have n1 := of_decide_eq_true (List.all_eq_true.mp (List.all_eq_true.mp n B hB) D hD)
    have pp : ((R ++ S).map (·.1)).Perm ((B ++ D).map (·.1)) := by
      have e : (R ++ S).map (·.1) = ((R ++ S).map fun r => (r.1, r.2.1)).map (·.1) := by rw [List.map_map]; rfl
      rw [e, List.map_append]
      exact (pR.append pS).map _
    exact ((pp.cons ("yes" : Str)).nodup_iff).mpr n1
  · rcases List.mem_append.mp hr with e | e
    · exact wR r e
    · exact wS r e
end Ad

/-! the law's ranks, as a dict; rows with any weights -/
namespace Ad
open PySem PySem.Spec PySem.Calls PyProof.Rows L2
def RkL (K : PySem.W.Frag) (H : Hp) : Nat → List Row → List (L2.Key × V) → Prop
  | _, [], kvs => kvs = []
  | n, r :: rs, kvs => ∃ b rest, kvs = (.inr r.1, .ref b) :: rest ∧ SqT K H b [.int (n : Int), .int (r.2.1 : Int), .int r.2.2] ∧ RkL K H (n + 1) rs rest
section
variable {K : PySem.W.Frag} {H H' : Hp}
theorem RkL.mono (k : TK H H') : ∀ {rs : List Row} {n : Nat} {kvs : List (L2.Key × V)}, RkL K H n rs kvs → RkL K H' n rs kvs
  | [], _, _, h => h
  | r :: rs, n, _, ⟨b, rest, e, s, h⟩ => ⟨b, rest, e, k.sq s, RkL.mono k h⟩
theorem RkL.len : ∀ {rs : List Row} {n : Nat} {kvs : List (L2.Key × V)}, RkL K H n rs kvs → kvs.length = rs.length
  | [], _, _, h => by
    cases (show _ = [] from h)
    rfl
  | r :: rs, n, _, ⟨b, rest, e, s, h⟩ => by
    rw [e, List.length_cons, List.length_cons, h.len]
theorem RkL.keys : ∀ {rs : List Row} {n : Nat} {kvs : List (L2.Key × V)}, RkL K H n rs kvs → kvs.map (·.1) = rs.map fun r => Sum.inr r.1
  | [], _, _, h => by
    cases (show _ = [] from h)
    rfl
  | r :: rs, n, _, ⟨b, rest, e, s, h⟩ => by
    rw [e, List.map_cons, List.map_cons, h.keys]
theorem RkL.snoc : ∀ {rs : List Row} {n : Nat} {kvs : List (L2.Key × V)} {r : Row} {b : Addr}, RkL K H n rs kvs → SqT K H b [.int ((n + rs.length : Nat) : Int), .int (r.2.1 : Int), .int r.2.2] → RkL K H n (rs ++ [r]) (kvs ++ [(.inr r.1, .ref b)])
  | [], n, _, r, b, h, s => by
    cases (show _ = [] from h)
    exact ⟨b, [], rfl, s, rfl⟩
  | q :: rs, n, _, r, b, ⟨c, rest, e, s', h⟩, s => by
    rw [e]
    refine ⟨c, _, rfl, s', h.snoc ?_⟩
    have e2 : n + 1 + rs.length = n + (q :: rs).length := by rw [List.length_cons]; omega
    rw [e2]
    exact s
theorem RkL.val : ∀ {rs : List Row} {n : Nat} {kvs : List (L2.Key × V)} (nd : (rs.map (·.1)).Nodup) {i : Nat} {r : Row}, RkL K H n rs kvs → rs[i]? = some r → ∃ b, valV kvs (.inr r.1) = some (.ref b) ∧ SqT K H b [.int ((n + i : Nat) : Int), .int (r.2.1 : Int), .int r.2.2]
  | [], _, _, _, i, r, _, e => by cases e
  | q :: rs, n, _, nd, i, r, ⟨b, rest, e, s, h⟩, hi => by
    obtain ⟨n1, n2⟩ := List.nodup_cons.mp nd
    rw [e]
    cases i with
    | zero =>
      cases hi
      exact ⟨b, valV_pos rfl, s⟩
    | succ i =>
      have ne : ¬ ((.inr q.1 : L2.Key) = .inr r.1) := fun z => n1 (by show q.1 ∈ _; rw [Sum.inr.inj z]; exact List.mem_map.mpr ⟨r, List.mem_of_getElem? hi, rfl⟩)
      obtain ⟨c, v, s2⟩ := h.val n2 hi
      refine ⟨c, by rw [valV_neg ne]; exact v, ?_⟩
      have e2 : n + 1 + i = n + (i + 1) := by omega
      rw [← e2]
      exact s2
end
/-- the dict of ranks -/
def RkD (K : PySem.W.Frag) (H : Hp) (d : Addr) (rk : List Row) : Prop := ∃ kvs, H d = some (.dK kvs) ∧ RkL K H 0 rk kvs
theorem RkD.same {K : PySem.W.Frag} {H H' : Hp} (s : Same H H') {d : Addr} {rk : List Row} (h : RkD K H d rk) : RkD K H' d rk := by
  obtain ⟨kvs, e, l⟩ := h
  exact ⟨kvs, s _ _ e, l.mono (TK.same s)⟩
/-- a rank, by its name -/
theorem RkD.get {K : PySem.W.Frag} {H : Hp} {d : Addr} {rk : List Row} (h : RkD K H d rk) (nd : (rk.map (·.1)).Nodup) {x : Str} {n : Nat} (hx : ∃ r ∈ rk, r.1 = x ∧ r.2.1 = n) : ∃ b, DGet H d (.str x) (some (.ref b)) ∧ SqT K H b [.int (Kb.pOf rk x), .int (n : Int), .int (Kb.wOf rk x)] := by
  obtain ⟨kvs, e, l⟩ := h
  obtain ⟨r, hr, rfl, rfl⟩ := hx
  obtain ⟨i, hi, ei⟩ := List.mem_iff_getElem.mp hr
  have g : rk[i]? = some r := by rw [List.getElem?_eq_getElem hi, ei]
  obtain ⟨b, v, s⟩ := l.val nd g
  have d := DGet.k (k := Sum.inr r.1) e
  rw [v] at d
  rw [Nat.zero_add] at s
  rw [Kb.pOf_at nd g, Kb.wOf_mem nd hr]
  exact ⟨b, d, s⟩
/-- .. with the pen moving -/
theorem RkD.but {K : PySem.W.Frag} {H H' : Hp} {p l d : Addr} {ns : List Int} {c : Nat} {rk : List Row} (P : Pn.Pen H p l ns c) (b : Pn.But p H H') (n : d ≠ p) (h : RkD K H d rk) : RkD K H' d rk := by
  obtain ⟨kvs, e, q⟩ := h
  exact ⟨kvs, b _ _ n e, q.mono (pen_tk P b)⟩
end Ad

namespace Ad
open PySem PySem.Spec PySem.Calls PyProof.Rows L2
abbrev sLSome : Stmt := topS 35
theorem scLSome : FnScope ["_law_pen_here", "_law_rows", "_law_variables", "_law_way"] ["_law_pen_here", "_law_rows", "_law_variables"] (defScope sLSome) := ⟨rfl, rfl, rfl, by decide +kernel, rfl, by decide +kernel, by decide +kernel⟩
/-- yes, an atom or a thing -/
structure DS (R S : List Row) (nv : Int) (t : T) : Prop where
  named : t.named = true
  dep : t.dep ≤ 4
  size : t.size ≤ 40
  vars : ∀ j ∈ t.vars, 0 ≤ j ∧ j < nv
  wf : Kb.Wf (ranked R S) t
  kind : t = .f "yes" [] ∨ (∃ x ts, t = .f x ts ∧ ∃ r ∈ S, r.1 = x) ∨ Kb.Wf R t
section
variable {P : Program} {w : World} {K : PySem.W.Frag} {mg : Str → Option Value} {base : Heap}
def spLSome (K : PySem.W.Frag) : Sp := fun vs H Q _ => ∃ (p l ra : Addr) (ns : List Int) (c : Nat) (nv : Int) (R S : List Row), vs = [.ref p, .ref ra, .int nv] ∧ Pn.Pen H p l ns c ∧ ns.length ≤ 1000 ∧ c ≤ 900000000 ∧ OrdAt K H ra R S ∧ ROk R ∧ TOk S ∧
  0 ≤ nv ∧ nv ≤ 1000 ∧ ∀ t v H' c', Tm K H' t v → DS R S nv t → c' ≤ c + 100 → Pn.Pen H' p l ns c' → Pn.But p H H' → Q v H'
theorem ok_lsome {f fD fA fT : Addr} {fd fdD fdA fdT : FuncData} {k : Nat} (F : Fun K "_law_some_term" "_law_some_term" sLSome f fd)
    (GD : FnOk P w K mg base CX0 k fD fdD ["_law_pen_here", "_law_many"] Pn.spDraw) (gD : mg "_law_draw" = some (.ref fD)) (kD : PySem.W.keepIn K (.ref fD) = true) (bD : Binds K fdD ["_law_pen_here", "_law_many"] [])
    (GA : FnOk P w K mg base CX0 k fA fdA ["_law_pen_here", "_law_rows", "_law_deep", "_law_variables"] (spLAtom K 5)) (gA : mg "_law_drawn_atom" = some (.ref fA)) (kA : PySem.W.keepIn K (.ref fA) = true) (bA : Binds K fdA ["_law_pen_here", "_law_rows", "_law_deep", "_law_variables"] [])
    (GT : FnOk P w K mg base CX0 k fT fdT ["_law_pen_here", "_law_rows", "_law_deep", "_law_variables"] (spDrawn K 5)) (gT : mg "_law_drawn_term" = some (.ref fT)) (kT : PySem.W.keepIn K (.ref fT) = true) (bT : Binds K fdT ["_law_pen_here", "_law_rows", "_law_deep", "_law_variables"] []) :
    FnOk P w K mg base CX0 (k + 1) f fd ["_law_pen_here", "_law_rows", "_law_variables"] (spLSome K) := by
  refine F.ok scLSome (fun vs H Q E h => ?_) (fun cdv A outer s H vs Q E hr h => ?_)
  · obtain ⟨p, l, ra, ns, c, nv, R, S, rfl, _⟩ := h
    rfl
  · obtain ⟨p, l, ra, ns, c, nv, R, S, rfl, hP, hlen, hc, hO, ok, tok, nv0, nv1, q⟩ := h
    refine ⟨_, (pss_cons (ps_set (i := 3) scLSome.nd rfl (.inl rfl) (pe_call GD hr (by rfl) gD kD bD .nil pass0 (pa_cons (pv 0) (pa_cons pe_int pa_nil))))
    (pss_cons (ps_if (pt_cmpR op_eq (pv 3) pe_int (nomark _))
      (pss_one (ps_ret (pe_tup (pa_cons pe_str pa_nil)))) pss_nil)
    (pss_one (ps_ret (pe_ifExp (pt_cmpR op_lt (pv 3) pe_int (nomark _)) (pe_call GA hr (by rfl) gA kA bA .nil pass0 (pa_cons (pv 0) (pa_cons (pv 1) (pa_cons pe_int (pa_cons (pv 2) pa_nil))))) (pe_call GT hr (by rfl) gT kT bT .nil pass0 (pa_cons (pv 0) (pa_cons (pv 1) (pa_cons pe_int (pa_cons (pv 2) pa_nil)))))))))), ?_⟩
    have d3 : dn 3 = 80 := rfl
    have z3 : sz 3 = 40 := rfl
    have d3a : dn (2 + 1) = 80 := rfl
    have z3a : sz (2 + 1) = 40 := rfl
    refine ⟨.ref p, rfl, p, l, ns, c, 8, rfl, hP, hlen, by omega, by decide, by decide, fun r G r0 r1 P1 b1 => ?_⟩
    refine ⟨.int r, rfl, rfl, _, rfl, ?_⟩
    refine ite2 (fun _ => ?_) (fun _ => ?_)
    · refine ⟨(by show 1 ≤ sizeLine; decide), fun y ny => ?_⟩
      have s1 : Same G (upd G y (.tup [.str "yes"])) := same_new (fun b o e => e) ny _
      exact q (.f "yes" []) _ _ (c + 1) ⟨y, [], rfl, .inl (.inl upd_same), rfl⟩ ⟨by decide +kernel, by decide, by decide, (fun j hj => nomatch hj), ⟨⟨_, List.mem_cons_self .., rfl, rfl⟩, True.intro⟩, .inl rfl⟩ (by omega) (pen_same P1 s1) (b1.trans (Pn.But.of s1))
    · refine ⟨.int r, rfl, _, _, rfl, rfl, _, rfl, ?_⟩
      have hO1 := hO.mono (pen_tk hP b1)
      refine ite2 (fun _ => ?_) (fun _ => ?_)
      · refine ⟨.ref p, rfl, .ref ra, rfl, .int nv, rfl, p, l, ra, ns, c + 1, 2, nv, R, S, rfl, P1, hlen, by omega, hO1, ok, tok, by omega, nv0, nv1, fun t v G2 c2 tv dt hc2 P2 b2 => ?_⟩
        have h1 := dt.size
        exact q t v G2 c2 tv ⟨dt.named, dt.dep, by omega, dt.vars, dt.wf.mono fun r hr => List.mem_cons_of_mem _ hr, .inr (.inl dt.hd)⟩ (by omega) P2 (b1.trans b2)
      · refine ⟨.ref p, rfl, .ref ra, rfl, .int nv, rfl, p, l, ra, ns, c + 1, 3, nv, R, rfl, P1, hlen, by omega, hO1.rows, ok, by omega, nv0, nv1, fun t v G2 c2 tv dt hc2 P2 b2 => ?_⟩
        have h1 := dt.size
        exact q t v G2 c2 tv ⟨dt.named, dt.dep, by omega, dt.vars, dt.wf.mono fun r hr => List.mem_cons_of_mem _ (List.mem_append_left _ hr), .inr (.inr dt.wf)⟩ (by omega) P2 (b1.trans b2)
end
end Ad

namespace Ad
open PySem PySem.Spec PySem.Calls PyProof.Rows L2
abbrev sLHeavier : Stmt := topS 36
theorem scLHeavier : FnScope ["_law_pen_here", "_law_rows", "_law_kind", "_law_name", "_law_arity", "_law_weight_here"] ["_law_pen_here", "_law_rows"] (defScope sLHeavier) := ⟨rfl, rfl, rfl, by decide +kernel, rfl, by decide +kernel, by decide +kernel⟩
section
variable {P : Program} {w : World} {K : PySem.W.Frag} {mg : Str → Option Value} {base : Heap}
/-- the same names and arities, with weights from one to five -/
structure Hv (R R' : List Row) : Prop where
  names : R'.map (fun r => (r.1, r.2.1)) = R.map fun r => (r.1, r.2.1)
  weights : ∀ r ∈ R', 1 ≤ r.2.2
def rTupOf (K : PySem.W.Frag) : List V → Hp → VK → Prop := fun xs H Q => ∃ p ys, xs = [V.ref p] ∧ ((SqL K H p ys ∧ ∀ (l : Addr), H l = none → Q (V.ref l) (upd H l (.tup ys))) ∨ SqT K H p ys ∧ Q (V.ref p) H)
theorem call_tupOf {X : Cx} : CallR X (.type "tuple") (rTupOf X.K) := call_tuple_of
def teIn (K : PySem.W.Frag) : TE := tTup (tCons (tVar 3) (tCons (tVar 4) (tCons (tOp (rI0 fun i j => .int (i + j)) (tC (.int 1)) (tCall Pn.spDraw [] E0 (tCons (tVar 0) (tCons (tC (.int 5)) tNil)))) tNil)))
def gIn (K : PySem.W.Frag) : TG := gTup K 3 (gCons (gName 3) (gCons (gName 4) (gCons (gName 5) gNil)))
def teOut (K : PySem.W.Frag) : TE := tCB (rTupOf K) (tCons (tLc (iTup K (tVar 2)) (gIn K) tYes (teIn K) [3, 4, 5]) tNil)
def spLHeavier (K : PySem.W.Frag) : Sp := fun vs H Q _ => ∃ (p l ra : Addr) (ns : List Int) (c : Nat) (R S : List Row), vs = [.ref p, .ref ra] ∧ Pn.Pen H p l ns c ∧ ns.length ≤ 1000 ∧ c ≤ 900000000 ∧ OrdAt K H ra R S ∧ R.length ≤ 100 ∧ S.length ≤ 100 ∧
  ∀ a R' S' H' c', OrdAt K H' a R' S' → Hv R R' → Hv S S' → c' ≤ c + R.length + S.length → Pn.Pen H' p l ns c' → Pn.But p H H' → Q (.ref a) H'
def HvV (K : PySem.W.Frag) (H : Hp) (X : List Row) (v : V) : Prop := ∃ b X' vs, v = .ref b ∧ Hv X X' ∧ SqT K H b vs ∧ F2 (RowV K H) X' vs
theorem HvV.mono {H H' : Hp} (k : TK H H') (X : List Row) (v : V) (h : HvV K H X v) : HvV K H' X v := by
  obtain ⟨b, X', vs, e, m, s, f⟩ := h
  exact ⟨b, X', vs, e, m, k.sq s, f.mono (RowV.mono k)⟩
theorem hv_in {p ra bX l : Addr} {ns : List Int} {c2 : Nat} {G : Hp} {X : List Row} {vX : List V} {Qf : VK} (hlen : ns.length ≤ 1000) (hc : c2 ≤ 950000000) (sq : SqT K G bX vX) (fX : F2 (RowV K G) X vX) (P2 : Pn.Pen G p l ns c2) (few : X.length ≤ 100)
    (q : ∀ v G' c3, Pn.But p G G' → Pn.Pen G' p l ns c3 → c3 ≤ c2 + X.length → HvV K G' X v → Qf v G') : teOut K [some (.ref p), some (.ref ra), some (.ref bX), none, none, none] G Qf := by
  refine ⟨.ref bX, rfl, bX, rfl, ⟨_, sq⟩, fun D nD => ?_⟩
  have lX := fX.len
  refine lc_tup (K := K) (a := bX) (xs := vX) (fun j G2 => ∃ acc c3 X', Pn.But p G G2 ∧ G2 D = some (.lst acc) ∧ Pn.Pen G2 p l ns c3 ∧ c3 ≤ c2 + j ∧ Hv (X.take j) X' ∧ F2 (RowV K G2) X' acc) ⟨[], c2, [], Pn.But.of (same_new (fun b o e => e) nD _), upd_same, pen_same P2 (same_new (fun b o e => e) nD _), Nat.le_refl _, ⟨rfl, fun r hr => nomatch hr⟩, rfl⟩ (fun j G2 _ ⟨_, _, _, b, _⟩ => (pen_tk P2 b).sq sq) ?_ ?_
  · rintro j y G2 hy ⟨acc, c3, X', b2, gD, P3, hc3, hv, fa⟩
    obtain ⟨r, hr', ⟨b, rfl, hb⟩⟩ := fX.get hy
    have jlt := (List.getElem?_eq_some_iff.mp hr').1
    have la := fa.len
    have lx' := congrArg List.length hv.names
    rw [List.length_map, List.length_map, List.length_take] at lx'
    refine ⟨b, _, rfl, (pen_tk P2 b2).sq hb, rfl, _, _, rfl, _, _, rfl, _, _, rfl, rfl, rfl, .str r.1, rfl, .int (r.2.1 : Int), rfl, .ref p, rfl, p, l, ns, c3, 5, rfl, P3, hlen, by omega, by decide, by decide, fun z G3 z0 z1 P4 b3 => ⟨1, z, rfl, rfl, (by show 3 ≤ sizeLine; decide), fun d nd => ?_⟩⟩
    have D3 := b3 _ _ (pen_kept P2 nD) gD
    have s4 : Same G3 (upd G3 d (.tup [.str r.1, .int (r.2.1 : Int), .int (1 + z)])) := same_new (fun b o e => e) nd _
    have e4 : (upd G3 d (.tup [.str r.1, .int (r.2.1 : Int), .int (1 + z)])) d = some (.tup [.str r.1, .int (r.2.1 : Int), .int (1 + z)]) := upd_same
    have k4 : TK G2 (upd G3 d (.tup [.str r.1, .int (r.2.1 : Int), .int (1 + z)])) := (pen_tk P3 b3).trans (TK.same s4)
    have P5 := pen_same P4 s4
    have b4 := (b2.trans b3).trans (Pn.But.of s4)
    have D4 := s4 _ _ D3
    generalize upd G3 d (.tup [.str r.1, .int (r.2.1 : Int), .int (1 + z)]) = G4 at s4 e4 k4 P5 b4 D4
    have k5 : TK G4 (upd G4 D (.lst (acc ++ [.ref d]))) := TK.lst D4 _
    refine ⟨acc, D4, by rw [sizeLine_eq]; omega, acc ++ [.ref d], c3 + 1, X' ++ [(r.1, r.2.1, 1 + z)], but_on b4 nD _, upd_same, pen_on P2 nD P5 _, by omega, ⟨?_, fun q hq => ?_⟩, (fa.mono (RowV.mono (k4.trans k5))).app (F2.one ⟨d, rfl, k5.sq (.inl (.inl e4))⟩)⟩
    · rw [take_next hr', List.map_append, List.map_append, hv.names]
      rfl
    · rcases List.mem_append.mp hq with e | e
      · exact hv.weights q e
      · rw [List.mem_singleton.mp e]
        show 1 ≤ 1 + z
        omega
  · rintro G2 ⟨acc, c3, X', b2, gD, P3, hc3, hv, fa⟩
    rw [lX] at hc3 hv
    rw [List.take_length] at hv
    refine ⟨D, acc, rfl, .inl ⟨.inl (.inl gD), fun d nd => ?_⟩⟩
    have s4 : Same G2 (upd G2 d (.tup acc)) := same_new (fun b o e => e) nd _
    exact q _ _ c3 (b2.trans (Pn.But.of s4)) (pen_same P3 s4) hc3 ⟨d, X', acc, rfl, hv, .inl (.inl upd_same), fa.mono (RowV.mono (TK.same s4))⟩
theorem ok_lheavier {f fD : Addr} {fd fdD : FuncData} {k : Nat} (F : Fun K "_law_heavier" "_law_heavier" sLHeavier f fd)
    (GD : FnOk P w K mg base CX0 k fD fdD ["_law_pen_here", "_law_many"] Pn.spDraw) (gD : mg "_law_draw" = some (.ref fD)) (kD : PySem.W.keepIn K (.ref fD) = true) (bD : Binds K fdD ["_law_pen_here", "_law_many"] []) (m_tuple : mg "tuple" = none) :
    FnOk P w K mg base CX0 (k + 1) f fd ["_law_pen_here", "_law_rows"] (spLHeavier K) := by
  refine F.ok scLHeavier (fun vs H Q E h => ?_) (fun cdv A outer s H vs Q E hr h => ?_)
  · obtain ⟨p, l, ra, ns, c, R, S, rfl, _⟩ := h
    rfl
  · obtain ⟨p, l, ra, ns, c, R, S, rfl, hP, hlen, hc, hO, fR, fS, q⟩ := h
    refine ⟨_, (pss_one (ps_ret (pe_callTy call_tuple_of (by rfl) m_tuple (by decide +kernel) (pa_cons (pe_lc (own := [("_law_kind", 2)]) (g := gName 2) (tt := tYes) (te := teOut K) rfl scLHeavier.nd (pi_tup (pv 1)) (blkOk_by (N := ["_law_pen_here", "_law_rows", "_law_kind", "_law_name", "_law_arity", "_law_weight_here"]) (sc := defScope sLHeavier) (by decide +kernel)) (fun _ _ _ _ _ => (pg_name (i := 2) scLHeavier.nd rfl (.inl rfl))) (fun _ _ _ _ _ => pts_nil) (fun _ _ _ _ _ => (pe_callTy call_tupOf (by rfl) m_tuple (by decide +kernel) (pa_cons (pe_lc (own := [("_law_name", 3), ("_law_arity", 4), ("_law_weight_here", 5)]) (g := gIn K) (tt := tYes) (te := teIn K) rfl scLHeavier.nd (pi_tup (pv 2)) (blkOk_by (N := ["_law_pen_here", "_law_rows", "_law_kind", "_law_name", "_law_arity", "_law_weight_here"]) (sc := { kind := ScopeKind.function, names := [(".0", NameKind.local), ("_law_kind", NameKind.local), ("tuple", NameKind.globalImplicit), ("_law_pen_here", NameKind.cell)], isGenerator := false, isCoroutine := false }) (by decide +kernel)) (fun _ _ _ _ _ => (pg_tup rfl (pgs_cons (pg_name (i := 3) scLHeavier.nd rfl (.inl rfl)) (pgs_cons (pg_name (i := 4) scLHeavier.nd rfl (.inl rfl)) (pgs_cons (pg_name (i := 5) scLHeavier.nd rfl (.inl rfl)) pgs_nil))))) (fun _ _ _ _ _ => pts_nil) (fun _ _ _ _ _ => (pe_tup (pa_cons (pv 3) (pa_cons (pv 4) (pa_cons (pe_op op_add pe_int (pe_call GD hr (by rfl) gD kD bD .nil pass0 (pa_cons (pv 0) (pa_cons pe_int pa_nil)))) pa_nil)))))) pa_nil)))) pa_nil)))), ?_⟩
    obtain ⟨b1, b2, vs1, vs2, sq0, sq1, sq2, f1, f2⟩ := hO
    refine ⟨.ref ra, rfl, ra, rfl, ⟨_, sq0⟩, fun D nD => ?_⟩
    refine lc_tup (K := K) (a := ra) (xs := [.ref b1, .ref b2]) (fun i G => ∃ acc c2, Pn.But p H G ∧ G D = some (.lst acc) ∧ Pn.Pen G p l ns c2 ∧ c2 ≤ c + (([R, S].take i).map List.length).sum ∧ F2 (HvV K G) ([R, S].take i) acc) ⟨[], c, Pn.But.of (same_new (fun b o e => e) nD _), upd_same, pen_same hP (same_new (fun b o e => e) nD _), Nat.le_refl _, rfl⟩ (fun j G _ ⟨_, _, b, _⟩ => (pen_tk hP b).sq sq0) ?_ ?_
    · rintro i x G hi ⟨acc, c2, b0, gD, P2, hc2, fa⟩
      have k0 := pen_tk hP b0
      have cases2 : (i = 0 ∧ x = .ref b1) ∨ (i = 1 ∧ x = .ref b2) := by
        match i, hi with
        | 0, h => exact .inl ⟨rfl, (Option.some.inj h).symm⟩
        | 1, h => exact .inr ⟨rfl, (Option.some.inj h).symm⟩
      have nx : ∀ (X : List Row) (v : V) (G' : Hp) (c3 : Nat), [R, S][i]? = some X → Pn.But p G G' → Pn.Pen G' p l ns c3 → c3 ≤ c2 + X.length → HvV K G' X v → ∃ acc', G' D = some (.lst acc') ∧ acc'.length < sizeLine ∧ ∃ acc'' c', Pn.But p H (upd G' D (.lst (acc' ++ [v]))) ∧ (upd G' D (.lst (acc' ++ [v]))) D = some (.lst acc'') ∧ Pn.Pen (upd G' D (.lst (acc' ++ [v]))) p l ns c' ∧ c' ≤ c + (([R, S].take (i + 1)).map List.length).sum ∧ F2 (HvV K (upd G' D (.lst (acc' ++ [v])))) ([R, S].take (i + 1)) acc'' := by
        intro X v G' c3 hX bG P3 hc3 hv
        have D3 := bG _ _ (pen_kept hP nD) gD
        have k5 : TK G' (upd G' D (.lst (acc ++ [v]))) := TK.lst D3 _
        have la := fa.len
        rw [List.length_take] at la
        have l2 : [R, S].length = 2 := rfl
        refine ⟨acc, D3, by rw [sizeLine_eq]; omega, acc ++ [v], c3, but_on (b0.trans bG) nD _, upd_same, pen_on hP nD P3 _, ?_, ?_⟩
        · rw [take_next hX, List.map_append, List.sum_append]
          show c3 ≤ c + (_ + (X.length + 0))
          omega
        · rw [take_next hX]
          exact (fa.mono (HvV.mono ((pen_tk P2 bG).trans k5))).app (F2.one (hv.mono k5))
      have bound : (([R, S].take i).map List.length).sum ≤ 200 := by
        rcases cases2 with ⟨rfl, _⟩ | ⟨rfl, _⟩
        · exact Nat.zero_le _
        · show R.length + 0 ≤ 200
          omega
      refine ⟨rfl, ?_⟩
      rcases cases2 with ⟨rfl, rfl⟩ | ⟨rfl, rfl⟩
      · exact hv_in hlen (by omega) (k0.sq sq1) (f1.mono (RowV.mono k0)) P2 fR fun v G' c3 b P3 h3 hv => nx R v G' c3 rfl b P3 h3 hv
      · exact hv_in hlen (by omega) (k0.sq sq2) (f2.mono (RowV.mono k0)) P2 fS fun v G' c3 b P3 h3 hv => nx S v G' c3 rfl b P3 h3 hv
    · rintro G ⟨acc, c2, b0, gD, P2, hc2, fa⟩
      obtain ⟨x1, r1, rfl, ⟨k1, R', vs1', rfl, m1, sq1', f1'⟩, ⟨x2, r2, rfl, ⟨k2, S', vs2', rfl, m2, sq2', f2'⟩, fe⟩⟩ := fa
      cases (show r2 = [] from fe)
      refine ⟨D, _, rfl, .inl ⟨.inl (.inl gD), fun d nd => ?_⟩⟩
      have s4 : Same G (upd G d (.tup [.ref k1, .ref k2])) := same_new (fun b o e => e) nd _
      have k4 := TK.same s4
      refine q d R' S' _ c2 ⟨k1, k2, vs1', vs2', .inl (.inl upd_same), k4.sq sq1', k4.sq sq2', f1'.mono (RowV.mono k4), f2'.mono (RowV.mono k4)⟩ m1 m2 ?_ (pen_same P2 s4) (b0.trans (Pn.But.of s4))
      have e : (([R, S].take 2).map List.length).sum = R.length + (S.length + 0) := rfl
      have hc2' : c2 ≤ c + (([R, S].take 2).map List.length).sum := hc2
      omega
end
end Ad

namespace Ad
open PySem PySem.Spec PySem.Calls PyProof.Rows L2
abbrev sLVar : Stmt := topS 22
theorem scLVar : FnScope ["_law_term"] ["_law_term"] (defScope sLVar) := ⟨rfl, rfl, rfl, by decide +kernel, rfl, by decide +kernel, by decide +kernel⟩
section
variable {P : Program} {w : World} {K : PySem.W.Frag} {mg : Str → Option Value} {base : Heap}
theorem ok_isvar {f : Addr} {fd : FuncData} {k : Nat} (F : Fun K "_law_is_var" "_law_is_var" sLVar f fd) (mi : mg "isinstance" = none) (mI : mg "int" = none) : FnOk P w K mg base CX0 (k + 1) f fd ["_law_term"] (spIsVar K) := by
  refine F.ok scLVar (fun vs H Q E h => ?_) (fun cdv A outer s H vs Q E hr h => ?_)
  · obtain ⟨t, x, rfl, _⟩ := h
    rfl
  · obtain ⟨t, x, rfl, ht, q⟩ := h
    refine ⟨_, pss_one (ps_ret (pe_callB call_isi (by rfl) mi (by decide +kernel) (pa_cons (pv 0) (pa_cons (pe_bltn (v := .ty "int") (by rfl) mI (by decide +kernel) rfl) pa_nil)))), ?_⟩
    cases t with
    | v i =>
      cases (show x = .int i from ht)
      exact ⟨.int i, rfl, _, .ty "int", .type "int", .type "int", true, rfl, .ty "int", .base (.int i), kitII, q⟩
    | f nm ts => exact ⟨x, rfl, _, .ty "int", .type "tuple", .type "int", false, rfl, .ty "int", tm_tuple ht, kitTI, q⟩
end
end Ad

namespace Ad
open PySem PySem.Spec PySem.Calls PyProof.Rows L2
abbrev sLWeight : Stmt := topS 28
theorem scLWeight : FnScope ["_law_ranks_here", "_law_term", "_law_part"] ["_law_ranks_here", "_law_term"] (defScope sLWeight) := ⟨rfl, rfl, rfl, by decide +kernel, rfl, by decide +kernel, by decide +kernel⟩
theorem Kb.WL_sum (w : Str → Int) : ∀ ts : List T, (ts.map (Kb.W w)).sum = Kb.WL w ts
  | [] => rfl
  | t :: ts => by
    rw [List.map_cons, List.sum_cons, Kb.WL_sum w ts]
    rfl
section
variable {P : Program} {w : World} {K : PySem.W.Frag} {mg : Str → Option Value} {base : Heap}
def spLWeight (K : PySem.W.Frag) (n : Nat) : Sp := fun vs H Q _ => ∃ (d : Addr) (rk : List Row) (t : T) (x : V), vs = [.ref d, x] ∧ RkD K H d rk ∧ (rk.map (·.1)).Nodup ∧ Tm K H t x ∧ Kb.Wf rk t ∧ t.dep < n ∧ t.size ≤ 10000 ∧
  ∀ H', Same H H' → Q (.int (Kb.W (Kb.wOf rk) t)) H'
theorem ok_lweight {f fV : Addr} {fd fdV : FuncData} {k : Nat} (F : Fun K "_law_weight" "_law_weight" sLWeight f fd) (gF : mg "_law_weight" = some (.ref f)) (bF : Binds K fd ["_law_ranks_here", "_law_term"] [])
    (G : FnOk P w K mg base CX0 k fV fdV ["_law_term"] (spIsVar K)) (gV : mg "_law_is_var" = some (.ref fV)) (kV : PySem.W.keepIn K (.ref fV) = true) (bV : Binds K fdV ["_law_term"] []) (m_sum : mg "sum" = none) :
    ∀ n, FnOk P w K mg base CX0 (k + n) f fd ["_law_ranks_here", "_law_term"] (spLWeight K n)
  | 0 => vac fun vs H Q E ⟨d, rk, t, x, _, _, _, _, _, z, _⟩ => absurd z (Nat.not_lt_zero _)
  | n + 1 => by
    have IH := ok_lweight F gF bF G gV kV bV m_sum n
    refine F.ok scLWeight (fun vs H Q E h => ?_) (fun cdv A outer s H vs Q E hr h => ?_)
    · obtain ⟨d, rk, t, x, rfl, _⟩ := h
      rfl
    · obtain ⟨d, rk, t, x, rfl, hd, nd, ht, wf, deep, small, q⟩ := h
      refine ⟨_, (pss_cons (ps_if (pt_val (pe_call G (hr.mono (Nat.le_add_right _ _)) (by rfl) gV kV bV .nil pass0 (pa_cons (pv 1) pa_nil)))
      (pss_one (ps_ret pe_int)) pss_nil)
    (pss_one (ps_ret (pe_op op_add (pe_ix ix_tup (pe_dget (hu1 hr) (pv 0) (pe_ix ix_tup (pv 1) pe_int (fun _ _ => rfl)) (fun _ _ => rfl)) pe_int (fun _ _ => rfl)) (pe_callB (cr_sum rfl) (by rfl) m_sum (by decide +kernel) (pa_cons (pe_lc (own := [("_law_part", 2)]) (g := gName 2) (tt := tYes) (te := tCall (spLWeight K n) [] E0 (tCons (tVar 0) (tCons (tVar 2) tNil))) rfl scLWeight.nd (pi_tup (pe_slice sl_tup (pv 1) (po_some pe_int) po_none)) (blkOk_by (N := ["_law_ranks_here", "_law_term", "_law_part"]) (sc := defScope sLWeight) (by decide +kernel)) (fun _ _ _ _ _ => (pg_name (i := 2) scLWeight.nd rfl (.inl rfl))) (fun _ _ _ _ _ => pts_nil) (fun _ _ _ _ _ => (pe_call IH hr (by rfl) gF F.kp bF .nil pass0 (pa_cons (pv 0) (pa_cons (pv 2) pa_nil))))) pa_nil)))))), ?_⟩
      refine ⟨x, rfl, t, x, rfl, ht, _, rfl, ?_⟩
      cases t with
      | v i =>
        refine iteT ?_
        exact q H fun b o e => e
      | f nm ts =>
        refine iteF ?_
        obtain ⟨a, zs, rfl, sq, all⟩ := ht
        have lz := all.len
        obtain ⟨b, gb, sb⟩ := hd.get nd wf.1
        refine ⟨.ref d, rfl, .ref a, rfl, a, _, 0, .str nm, rfl, rfl, sq, atI_nat (j := 0) rfl, d, .ref b, rfl, gb, b, _, 2, _, rfl, rfl, sb, atI_nat (j := 2) rfl, ?_⟩
        refine ⟨.ref a, rfl, 1, rfl, a, _, rfl, sq, cut_args.1, fun p1 n1 => ?_⟩
        rw [cut_args.2]
        have s1 : Same H (upd H p1 (.tup zs)) := same_new (fun b o e => e) n1 _
        have m1 : (upd H p1 (.tup zs)) p1 = some (.tup zs) := upd_same
        generalize upd H p1 (.tup zs) = H1 at s1 m1
        have szu : T.size (.f nm ts) = 1 + T.sizeL ts := rfl
        have ltz := T.len_sizeL ts
        refine ⟨p1, rfl, ⟨_, .inl (.inl m1)⟩, fun D nD => lc_tup (K := K) (a := p1) (xs := zs) (fun i G => ∃ acc, Same H1 G ∧ G D = some (.lst acc) ∧ acc = ((ts.take i).map (Kb.W (Kb.wOf rk))).map V.int) ⟨[], same_new (fun b o e => e) nD _, upd_same, rfl⟩ (fun i G _ ⟨_, sm, _⟩ => .inl (.inl (sm _ _ m1))) ?_ ?_⟩
        · rintro i y G hy ⟨acc, sm, gD, rfl⟩
          have s2 : Same H G := fun b o e => sm _ _ (s1 _ _ e)
          obtain ⟨u, hu, tu⟩ := (Tms.mono (TK.same s2) _ _ all).get hy
          have ilt := (List.getElem?_eq_some_iff.mp hu).1
          have m := List.mem_of_getElem? hu
          have d1 := T.dep_mem m
          have d2 : T.dep (.f nm ts) = 1 + T.depL ts := rfl
          have d3 := T.size_mem m
          refine ⟨rfl, .ref d, rfl, y, rfl, d, rk, u, y, rfl, hd.same s2, nd, tu, Kb.wfL_mem wf.2 m, by omega, by omega, fun G2 sg => ⟨_, sg _ _ gD, ?_, _, same_on (H := H1) (H' := G2) (fun b o e => sg _ _ (sm _ _ e)) nD _, upd_same, ?_⟩⟩
          · rw [List.length_map, List.length_map, List.length_take, sizeLine_eq]
            omega
          · rw [take_next hu, List.map_append, List.map_append]
            rfl
        · rintro G ⟨acc, sm, gD, rfl⟩
          rw [lz, List.take_length] at gD
          refine ⟨D, _, rfl, .inl (.inl gD), _, _, rfl, rfl, ?_⟩
          rw [Kb.WL_sum]
          exact q G fun b o e => sm _ _ (s1 _ _ e)
end
end Ad

namespace Ad
open PySem PySem.Spec PySem.Calls PyProof.Rows L2
abbrev sLVars : Stmt := topS 23
theorem scLVars : FnScope ["_law_term", "_law_found", "_law_part"] ["_law_term"] (defScope sLVars) := ⟨rfl, rfl, rfl, by decide +kernel, rfl, by decide +kernel, by decide +kernel⟩
section
variable {P : Program} {w : World} {K : PySem.W.Frag} {mg : Str → Option Value} {base : Heap}
def spLVars (K : PySem.W.Frag) (n : Nat) : Sp := fun vs H Q _ => ∃ (t : T) (x : V), vs = [x] ∧ Tm K H t x ∧ t.dep < n ∧ t.size ≤ 10000 ∧ ∀ H' p, Same H H' → H p = none → H' p = some (.lst (t.vars.map V.int)) → Q (.ref p) H'
theorem ok_lvars {f fV : Addr} {fd fdV : FuncData} {k : Nat} (F : Fun K "_law_vars" "_law_vars" sLVars f fd) (gF : mg "_law_vars" = some (.ref f)) (bF : Binds K fd ["_law_term"] [])
    (G : FnOk P w K mg base CX0 k fV fdV ["_law_term"] (spIsVar K)) (gV : mg "_law_is_var" = some (.ref fV)) (kV : PySem.W.keepIn K (.ref fV) = true) (bV : Binds K fdV ["_law_term"] []) :
    ∀ n, FnOk P w K mg base CX0 (k + n) f fd ["_law_term"] (spLVars K n)
  | 0 => vac fun vs H Q E ⟨t, x, _, _, z, _⟩ => absurd z (Nat.not_lt_zero _)
  | n + 1 => by
    have IH := ok_lvars F gF bF G gV kV bV n
    refine F.ok scLVars (fun vs H Q E h => ?_) (fun cdv A outer s H vs Q E hr h => ?_)
    · obtain ⟨t, x, rfl, _⟩ := h
      rfl
    · obtain ⟨t, x, rfl, ht, shallow, small, q⟩ := h
      refine ⟨_, pss_cons (ps_if (pt_val (pe_call G (hr.mono (Nat.le_add_right _ _)) (by rfl) gV kV bV .nil pass0 (pa_cons (pv 0) pa_nil))) (pss_one (ps_ret (pe_lst (pa_cons (pv 0) pa_nil)))) pss_nil)
        (pss_cons (ps_set (i := 1) scLVars.nd rfl (.inl rfl) (pe_lst pa_nil))
        (pss_cons (ps_for PassesOwn.never rfl (pi_tup (pe_slice sl_tup (pv 0) (po_some pe_int) po_none)) (pg_name (i := 2) scLVars.nd rfl (.inl rfl))
          (pss_one (ps_set (i := 1) scLVars.nd rfl (.inl rfl) (pe_op op_cat (pv 1) (pe_call IH hr (by rfl) gF F.kp bF .nil pass0 (pa_cons (pv 2) pa_nil))))))
        (pss_one (ps_ret (pv 1))))), ?_⟩
      refine ⟨x, rfl, t, x, rfl, ht, _, rfl, ?_⟩
      cases t with
      | v i =>
        refine iteT ?_
        cases (show x = .int i from ht)
        exact ⟨_, rfl, (by show 1 ≤ sizeLine; decide), fun p n => q _ p (same_new (fun b o e => e) n _) n upd_same⟩
      | f nm ts =>
        obtain ⟨a, zs, rfl, sq, all⟩ := ht
        refine iteF ?_
        refine ⟨(by decide), fun p0 n0 => ?_⟩
        have k0 := TK.new n0 (.lst [])
        have sm0 : Same H (upd H p0 (.lst [])) := same_new (fun b o e => e) n0 _
        have m0 : (upd H p0 (.lst [])) p0 = some (.lst []) := upd_same
        replace sq := k0.sq sq
        replace all := Tms.mono k0 _ _ all
        generalize upd H p0 (.lst []) = H0 at sm0 m0 sq all
        refine ⟨.ref a, rfl, 1, rfl, a, _, rfl, sq, cut_args.1, fun p1 n1 => ?_⟩
        rw [cut_args.2]
        have sm1 : Same H (upd H0 p1 (.tup zs)) := same_new sm0 n1 _
        have m1 : (upd H0 p1 (.tup zs)) p1 = some (.tup zs) := upd_same
        have m01 : (upd H0 p1 (.tup zs)) p0 = some (.lst []) := by rw [upd_ne (ne_of_none m0 n1)]; exact m0
        replace all := Tms.mono (TK.new n1 (.tup zs)) _ _ all
        generalize upd H0 p1 (.tup zs) = H1 at sm1 m1 m01 all
        have lz := all.len
        have szu : T.size (.f nm ts) = 1 + T.sizeL ts := rfl
        refine ⟨p1, rfl, ⟨_, .inl (.inl m1)⟩, for_tup (K := K) (a := p1) (xs := zs) (fun i σ G => ∃ (d : Addr) (v2 : Option V), σ = [some (.ref a), some (.ref d), v2] ∧ Same H1 G ∧ H d = none ∧ G d = some (.lst ((T.varsL (ts.take i)).map V.int)))
          ⟨p0, none, rfl, fun b o e => e, n0, m01⟩ (fun i σ G _ ⟨_, _, _, sm, _⟩ => .inl (.inl (sm _ _ m1))) ?_ ?_⟩
        · rintro i y σ G hy ⟨d, v2, rfl, sm, nd, g⟩
          obtain ⟨u, hu, tu⟩ := (Tms.mono (TK.same sm) _ _ all).get hy
          have hm := List.mem_of_getElem? hu
          have d1 := T.dep_mem hm
          have d2 : T.dep (.f nm ts) = 1 + T.depL ts := rfl
          have d3 := T.size_mem hm
          refine ⟨.ref d, rfl, y, rfl, u, y, rfl, tu, by omega, by omega, fun G2 p2 sm2 n2 g2 => ⟨d, p2, _, _, rfl, rfl, sm2 _ _ g, g2, ?_, fun p3 n3 => ?_⟩⟩
          · have h1 := T.varsL_take ts i
            have h2 := T.vars_len u
            rw [List.length_map, List.length_map, sizeLine_eq]
            omega
          · have sm3 : Same H1 (upd G2 p3 (.lst ((T.varsL (ts.take i)).map V.int ++ u.vars.map V.int))) := fun b o e => by
              have e2 := sm2 _ _ (sm _ _ e)
              rw [upd_ne (ne_of_none e2 n3)]
              exact e2
            refine ⟨p3, _, rfl, sm3, ?_, ?_⟩
            · cases z : H p3 with
              | none => rfl
              | some o =>
                have e2 := sm2 _ _ (sm _ _ (sm1 _ _ z))
                rw [n3] at e2
                cases e2
            · rw [upd_same, List.take_add_one, hu, T.varsL_append, List.map_append]
              show some (HO.lst (_ ++ (u.vars).map V.int)) = some (HO.lst (_ ++ (u.vars ++ []).map V.int))
              rw [List.append_nil]
        · rintro σ G ⟨d, v2, rfl, sm, nd, g⟩
          rw [lz, List.take_length] at g
          exact ⟨_, rfl, q G d (fun b o e => sm _ _ (sm1 _ _ e)) nd g⟩
end
end Ad

namespace Ad
open PySem PySem.Spec PySem.Calls PyProof.Rows L2 RZ
abbrev sLAbove : Stmt := topS 29
theorem scLAbove : FnScope ["_law_ranks_here", "_law_one", "_law_two", "_law_mine", "_law_theirs", "_law_first", "_law_second", "_law_a", "_law_b", "_law_variable"] ["_law_ranks_here", "_law_one", "_law_two"] (defScope sLAbove) := ⟨rfl, rfl, rfl, by decide +kernel, rfl, by decide +kernel, by decide +kernel⟩
theorem wf_same_len {rk : List Row} (nd : (rk.map (·.1)).Nodup) {x : Str} {ss ts : List T} (hs : Kb.Wf rk (.f x ss)) (ht : Kb.Wf rk (.f x ts)) : ss.length = ts.length := Kb.same_len nd hs ht
/-- whether the first is above the second -/
noncomputable def abB (rk : List Row) (s t : T) : Bool := @decide (Kb.ab (Kb.wOf rk) (Kb.pOf rk) s t) (Classical.propDecidable _)
theorem abB_true {rk : List Row} {s t : T} (h : Kb.ab (Kb.wOf rk) (Kb.pOf rk) s t) : abB rk s t = true := by
  unfold abB
  exact @decide_eq_true _ (Classical.propDecidable _) h
theorem abB_false {rk : List Row} {s t : T} (h : ¬ Kb.ab (Kb.wOf rk) (Kb.pOf rk) s t) : abB rk s t = false := by
  unfold abB
  exact @decide_eq_false _ (Classical.propDecidable _) h
theorem ints_shaped (ns : List Int) : SeqAt.shaped (.list (ns.map .int)) = true := by
  have h := iD_shaped ns
  unfold SeqAt.shaped at h ⊢
  exact h
theorem ints_nil (ns : List Int) : PyData.eqv (.list (ns.map .int)) (.list []) = ns.isEmpty := by
  cases ns <;> first | rfl | (simp [PyData.eqv, PyData.eqvAll])
/-- two terms and the ranks -/
structure Two2 (K : PySem.W.Frag) (H : Hp) (d : Addr) (rk : List Row) (s t : T) (x y : V) : Prop where
  rks : RkD K H d rk
  nd : (rk.map (·.1)).Nodup
  one : ∀ r ∈ rk, 1 ≤ r.2.2
  hs : Tm K H s x
  ht : Tm K H t y
  ws : Kb.Wf rk s
  wt : Kb.Wf rk t
  ns : s.named = true
  nt : t.named = true
  ds : s.dep ≤ 60
  dt : t.dep ≤ 60
  zs : s.size ≤ 10000
  zt : t.size ≤ 10000
theorem Two2.same {K : PySem.W.Frag} {H H' : Hp} (sm : Same H H') {d : Addr} {rk : List Row} {s t : T} {x y : V} (h : Two2 K H d rk s t x y) : Two2 K H' d rk s t x y :=
  ⟨h.rks.same sm, h.nd, h.one, Tm.mono (TK.same sm) _ _ h.hs, Tm.mono (TK.same sm) _ _ h.ht, h.ws, h.wt, h.ns, h.nt, h.ds, h.dt, h.zs, h.zt⟩
section
variable {P : Program} {w : World} {K : PySem.W.Frag} {mg : Str → Option Value} {base : Heap}
def spLAbove (K : PySem.W.Frag) (n : Nat) : Sp := fun vs H Q _ => ∃ (d : Addr) (rk : List Row) (s t : T) (x y : V), vs = [.ref d, x, y] ∧ Two2 K H d rk s t x y ∧ s.dep < n ∧
  ∀ H', Same H H' → Q (.bl (abB rk s t)) H'
theorem ok_labove {f fV fI fW : Addr} {fd fdV fdI fdW : FuncData} {k : Nat} (F : Fun K "_law_above" "_law_above" sLAbove f fd) (gF : mg "_law_above" = some (.ref f)) (bF : Binds K fd ["_law_ranks_here", "_law_one", "_law_two"] [])
    (GV : FnOk P w K mg base CX0 k fV fdV ["_law_term"] (spLVars K 61)) (gV : mg "_law_vars" = some (.ref fV)) (kV : PySem.W.keepIn K (.ref fV) = true) (bV : Binds K fdV ["_law_term"] [])
    (GI : FnOk P w K mg base CX0 k fI fdI ["_law_term"] (spIsVar K)) (gI : mg "_law_is_var" = some (.ref fI)) (kI : PySem.W.keepIn K (.ref fI) = true) (bI : Binds K fdI ["_law_term"] [])
    (GW : FnOk P w K mg base CX0 k fW fdW ["_law_ranks_here", "_law_term"] (spLWeight K 61)) (gW : mg "_law_weight" = some (.ref fW)) (kW : PySem.W.keepIn K (.ref fW) = true) (bW : Binds K fdW ["_law_ranks_here", "_law_term"] []) (m_zip : mg "zip" = none) :
    ∀ n, FnOk P w K mg base CX0 (k + n) f fd ["_law_ranks_here", "_law_one", "_law_two"] (spLAbove K n)
  | 0 => vac fun vs H Q E ⟨d, rk, s, t, x, y, _, _, z, _⟩ => absurd z (Nat.not_lt_zero _)
  | n + 1 => by
    have IH := ok_labove F gF bF GV gV kV bV GI gI kI bI GW gW kW bW m_zip n
    refine F.ok scLAbove (fun vs H Q E h => ?_) (fun cdv A outer s H vs Q E hr h => ?_)
    · obtain ⟨d, rk, s, t, x, y, rfl, _⟩ := h
      rfl
    · obtain ⟨d, rk, t, u, x, y, rfl, two, deep, q⟩ := h
      have hu := hu64 hr
      have hj := hr.mono (Nat.le_add_right k n)
      refine ⟨_, (pss_cons (ps_if (pt_cmpR (op_eqD hu) (pv 1) (pv 2) (nomark _))
      (pss_one (ps_ret pe_bl)) pss_nil)
    (pss_cons (ps_asg (pe_tup (pa_cons (pe_call GV hj (by rfl) gV kV bV .nil pass0 (pa_cons (pv 1) pa_nil)) (pa_cons (pe_call GV hj (by rfl) gV kV bV .nil pass0 (pa_cons (pv 2) pa_nil)) pa_nil))) (pg_tup rfl (pgs_cons (pg_name (i := 3) scLAbove.nd rfl (.inr rfl)) (pgs_cons (pg_name (i := 4) scLAbove.nd rfl (.inr rfl)) pgs_nil))))
    (pss_cons (ps_if (pt_cmpR (op_neD hu) (pe_lc (own := [("_law_variable", 9)]) (g := gName 9) (te := tC (.int 1)) (tt := tTest (tOp (rI0 fun i j => .bl (decide (i < j))) (tBM K "list" (rCntI K) (tVar 3) (tCons (tVar 9) tNil)) (tBM K "list" (rCntI K) (tVar 4) (tCons (tVar 9) tNil)))) rfl scLAbove.nd (pi_list (pv 4)) (blkOk_by (N := ["_law_ranks_here", "_law_one", "_law_two", "_law_mine", "_law_theirs", "_law_first", "_law_second", "_law_a", "_law_b", "_law_variable"]) (sc := defScope sLAbove) (by decide +kernel)) (fun _ _ _ _ _ => (pg_name (i := 9) scLAbove.nd rfl (.inl rfl))) (fun _ _ _ _ _ => pts_one (pt_cmpR op_lt (pe_bm PySem.F.plainAttrs_list PySem.F.slot_list_count PySem.F.type_list_count mt_lcount (pv 3) (pa_cons (pv 9) pa_nil)) (pe_bm PySem.F.plainAttrs_list PySem.F.slot_list_count PySem.F.type_list_count mt_lcount (pv 4) (pa_cons (pv 9) pa_nil)) (nomark _))) (fun _ _ _ _ _ => pe_int)) (pe_lst pa_nil) (nomark _))
      (pss_one (ps_ret pe_bl)) pss_nil)
    (pss_cons (ps_par (i := 5) (j := 6) (by rfl) scLAbove.nd rfl rfl (by decide) rfl rfl (pa_cons (pe_call GW hj (by rfl) gW kW bW .nil pass0 (pa_cons (pv 0) (pa_cons (pv 1) pa_nil))) (pa_cons (pe_call GW hj (by rfl) gW kW bW .nil pass0 (pa_cons (pv 0) (pa_cons (pv 2) pa_nil))) pa_nil)) (by rfl))
    (pss_cons (ps_if (pt_cmpR op_ne (pv 5) (pv 6) (nomark _))
      (pss_one (ps_ret (pe_cmpR op_gt (pv 5) (pv 6) (nomark _)))) pss_nil)
    (pss_cons (ps_if (PW.pt (pw_or (pt_val (pe_call GI hj (by rfl) gI kI bI .nil pass0 (pa_cons (pv 1) pa_nil))) (pw_or1 (pt_val (pe_call GI hj (by rfl) gI kI bI .nil pass0 (pa_cons (pv 2) pa_nil))))))
      (pss_one (ps_ret pe_bl)) pss_nil)
    (pss_cons (ps_if (pt_cmpR op_ne (pe_ix ix_tup (pv 1) pe_int (fun _ _ => rfl)) (pe_ix ix_tup (pv 2) pe_int (fun _ _ => rfl)) (nomark _))
      (pss_one (ps_ret (pe_cmpR op_gt (pe_ix ix_tup (pe_dget (hu1 hr) (pv 0) (pe_ix ix_tup (pv 1) pe_int (fun _ _ => rfl)) (fun _ _ => rfl)) pe_int (fun _ _ => rfl)) (pe_ix ix_tup (pe_dget (hu1 hr) (pv 0) (pe_ix ix_tup (pv 2) pe_int (fun _ _ => rfl)) (fun _ _ => rfl)) pe_int (fun _ _ => rfl)) (nomark _)))) pss_nil)
    (pss_cons (ps_for PassesOwn.never rfl (pi_zipA (by rfl) m_zip (pa_cons (pe_slice sl_tup (pv 1) (po_some pe_int) po_none) (pa_cons (pe_slice sl_tup (pv 2) (po_some pe_int) po_none) pa_nil))) (pg_tup rfl (pgs_cons (pg_name (i := 7) scLAbove.nd rfl (.inl rfl)) (pgs_cons (pg_name (i := 8) scLAbove.nd rfl (.inl rfl)) pgs_nil)))
      (pss_one (ps_if (pt_cmpR (op_neD hu) (pv 7) (pv 8) (nomark _))
        (pss_one (ps_ret (pe_call IH hr (by rfl) gF F.kp bF .nil pass0 (pa_cons (pv 0) (pa_cons (pv 7) (pa_cons (pv 8) pa_nil)))))) pss_nil)))
    (pss_one (ps_ret pe_bl)))))))))), ?_⟩
      have refl : Same H H := fun b o e => e
      have sht := T.shaped two.ns (by have := two.ds; omega)
      have shu := T.shaped two.nt (by have := two.dt; omega)
      have one := Kb.wOf_one two.one
      have nd := two.nd
      refine ⟨x, rfl, y, rfl, t.d, u.d, Tm.dp _ _ two.hs, Tm.dp _ _ two.ht, sht, shu, _, rfl, ?_⟩
      by_cases tu : t = u
      · have ev : PyData.eqv t.d u.d = true := by
          rw [← tu]
          exact eqv_one sht
        rw [ev]
        refine iteT ?_
        rw [← tu, abB_false (Kb.ab_irr t)] at q
        exact q H refl
      rw [eqv_ne tu]
      refine iteF ?_
      have zs := two.zs
      have zt := two.zt
      have ds := two.ds
      have dt := two.dt
      refine ⟨x, rfl, t, x, rfl, two.hs, by omega, zs, fun H1 l1 sm1 n1 e1 => ?_⟩
      have two1 := two.same sm1
      refine ⟨y, rfl, u, y, rfl, two1.ht, by omega, zt, fun H2 l2 sm2 n2 e2 => ⟨(by show 2 ≤ sizeLine; decide), fun pr npr => ?_⟩⟩
      replace e1 := sm2 _ _ e1
      have s02 : Same H H2 := fun b o e => sm2 _ _ (sm1 _ _ e)
      have s3 : Same H2 (upd H2 pr (.tup [.ref l1, .ref l2])) := same_new (fun b o e => e) npr _
      have m3 : (upd H2 pr (.tup [.ref l1, .ref l2])) pr = some (.tup [.ref l1, .ref l2]) := upd_same
      replace e1 := s3 _ _ e1
      replace e2 := s3 _ _ e2
      have s03 : Same H (upd H2 pr (.tup [.ref l1, .ref l2])) := fun b o e => s3 _ _ (s02 _ _ e)
      generalize upd H2 pr (.tup [.ref l1, .ref l2]) = H3 at s3 m3 e1 e2 s03
      refine ⟨pr, _, rfl, .inl (.inl m3), rfl, .ref l1, _, rfl, .ref l2, _, rfl, rfl, ?_⟩
      clear two1 sm1 sm2 n1 n2 s02 s3 m3 npr
      -- the variables that stand too seldom
      refine ⟨.ref l2, rfl, l2, rfl, ⟨_, .inl (.inl e2)⟩, fun D nD => lc_list (K := K) (a := l2) (xs := u.vars.map V.int) (fun i G => ∃ m : Nat, Same H3 G ∧ G D = some (.lst (List.replicate m (V.int 1))) ∧ m ≤ i ∧ (m = 0 ↔ ∀ j, (u.vars.take i).count j = 0 ∨ u.vars.count j ≤ t.vars.count j)) ⟨0, same_new (fun b o e => e) nD _, upd_same, Nat.le_refl _, ⟨fun _ j => .inl rfl, fun _ => rfl⟩⟩ (fun i G _ ⟨_, sm, _⟩ => .inl (.inl (sm _ _ e2))) ?_ ?_⟩
      · rintro i yv G hy ⟨m, sm, gD, mi, key⟩
        rw [List.getElem?_map] at hy
        obtain ⟨j, hj', ej⟩ := Option.map_eq_some_iff.mp hy
        subst ej
        have ilt := (List.getElem?_eq_some_iff.mp hj').1
        have vl := T.vars_len u
        refine ⟨rfl, .ref l1, rfl, .inl ⟨rfl, _, .inl (.inl (sm _ _ e1))⟩, .int j, rfl, l1, t.vars, j, rfl, rfl, .inl (.inl (sm _ _ e1)), .ref l2, rfl, .inl ⟨rfl, _, .inl (.inl (sm _ _ e2))⟩, .int j, rfl, l2, u.vars, j, rfl, rfl, .inl (.inl (sm _ _ e2)), _, _, rfl, rfl, _, rfl, ?_⟩
        have tk1 : ∀ j', (u.vars.take (i + 1)).count j' = (u.vars.take i).count j' + if j = j' then 1 else 0 := fun j' => by
          rw [take_next hj', List.count_append, List.count_singleton]
          by_cases z : j = j'
          · simp [z]
          · simp [z]
        by_cases z : t.vars.count j < u.vars.count j
        · rw [decide_eq_true (by omega)]
          refine iteT ⟨_, gD, ?_, m + 1, same_on sm nD _, ?_, by omega, ?_⟩
          · rw [List.length_replicate, sizeLine_eq]
            omega
          · rw [upd_same, List.replicate_succ']
          · refine ⟨fun h => absurd h (by omega), fun h => ?_⟩
            rcases h j with e | e
            · rw [tk1 j, if_pos rfl] at e
              omega
            · omega
        · rw [decide_eq_false (by omega)]
          refine iteF ⟨m, sm, gD, by omega, ?_⟩
          rw [key]
          refine ⟨fun h j' => ?_, fun h j' => ?_⟩
          · by_cases zj : j = j'
            · right
              rw [← zj]
              omega
            · have := tk1 j'
              rw [if_neg zj] at this
              rcases h j' with e | e
              · left
                omega
              · exact .inr e
          · by_cases zj : j = j'
            · right
              rw [← zj]
              omega
            · have := tk1 j'
              rw [if_neg zj] at this
              rcases h j' with e | e
              · left
                omega
              · exact .inr e
      rintro G ⟨m, sm, gD, mi, key⟩
      rw [List.length_map, List.take_length] at key
      have occ : m = 0 ↔ Kb.Occ u.vars t.vars := by
        rw [key]
        refine ⟨fun h j => ?_, fun h j => .inr (h j)⟩
        rcases h j with e | e
        · omega
        · exact e
      have vl := T.vars_len u
      rw [List.length_map] at mi
      have s4 : Same H G := fun b o e => sm _ _ (s03 _ _ e)
      refine ⟨Nat.zero_le _, fun p0 n0 => ?_⟩
      have s5 : Same G (upd G p0 (.lst [])) := same_new (fun b o e => e) n0 _
      have m5 : (upd G p0 (.lst [])) p0 = some (.lst []) := upd_same
      replace gD := s5 _ _ gD
      have s6 : Same H (upd G p0 (.lst [])) := fun b o e => s5 _ _ (s4 _ _ e)
      generalize upd G p0 (.lst []) = G0 at m5 gD s6
      have rep : List.replicate m (V.int 1) = (List.replicate m (1 : Int)).map V.int := by rw [List.map_replicate]
      rw [rep] at gD
      refine ⟨.list ((List.replicate m (1 : Int)).map .int), .list (([] : List Int).map .int), .lst (.inl (.inl gD)) (ints_dp _), .lst (.inl (.inl m5)) .nil, ints_shaped _, ints_shaped [], _, rfl, ?_⟩
      rw [show PyData.eqv (.list ((List.replicate m (1 : Int)).map .int)) (.list (([] : List Int).map .int)) = (List.replicate m (1 : Int)).isEmpty from ints_nil _]
      by_cases m0 : m = 0
      case neg =>
        have em : (!(List.replicate m (1 : Int)).isEmpty) = true := by
          obtain ⟨m', rfl⟩ : ∃ m', m = m' + 1 := ⟨m - 1, by omega⟩
          rfl
        rw [em]
        refine iteT ?_
        rw [abB_false (fun h => m0 (occ.mpr (Kb.ab_occ h)))] at q
        exact q G0 s6
      have em : (!(List.replicate m (1 : Int)).isEmpty) = false := by
        rw [m0]
        rfl
      rw [em]
      refine iteF ?_
      have oc := occ.mp m0
      clear gD m5 s5 s4 sm key occ rep em n0 e1 e2 s03
      have two3 := two.same s6
      refine ⟨.ref d, rfl, x, rfl, d, rk, t, x, rfl, two3.rks, nd, two3.hs, two3.ws, by omega, zs, fun G1 sg1 => ?_⟩
      have two4 := two3.same sg1
      refine ⟨.ref d, rfl, y, rfl, d, rk, u, y, rfl, two4.rks, nd, two4.ht, two4.wt, by omega, zt, fun G2 sg2 => ⟨_, _, rfl, ?_⟩⟩
      have two5 := two4.same sg2
      have s7 : Same H G2 := fun b o e => sg2 _ _ (sg1 _ _ (s6 _ _ e))
      clear two3 two4 sg1 sg2 s6
      refine ⟨_, rfl, _, rfl, rfl, _, rfl, ?_⟩
      by_cases we : Kb.W (Kb.wOf rk) t = Kb.W (Kb.wOf rk) u
      case neg =>
        have z : (!decide (V.int (Kb.W (Kb.wOf rk) t) = V.int (Kb.W (Kb.wOf rk) u))) = true := by rw [decide_eq_false (fun z => we (V.int.inj z))]; rfl
        rw [z]
        refine iteT ?_
        refine ⟨_, rfl, _, rfl, _, _, rfl, rfl, ?_⟩
        show Q (V.bl (decide (Kb.W (Kb.wOf rk) u < Kb.W (Kb.wOf rk) t))) G2
        by_cases lt : Kb.W (Kb.wOf rk) u < Kb.W (Kb.wOf rk) t
        · rw [decide_eq_true lt]
          rw [abB_true ((Kb.ab_gt one lt).mp oc)] at q
          exact q G2 s7
        · rw [decide_eq_false lt]
          rw [abB_false (Kb.ab_lt (by omega))] at q
          exact q G2 s7
      have z : (!decide (V.int (Kb.W (Kb.wOf rk) t) = V.int (Kb.W (Kb.wOf rk) u))) = false := by rw [decide_eq_true (congrArg V.int we)]; rfl
      rw [z]
      refine iteF ?_
      refine ⟨x, rfl, t, x, rfl, two5.hs, _, rfl, ?_⟩
      cases t with
      | v i =>
        refine iteT (iteT ?_)
        rw [abB_false (rk := rk) (s := .v i) (t := u) (fun h => h)] at q
        exact q G2 s7
      | f nm ss =>
      refine iteF ?_
      refine ⟨y, rfl, u, y, rfl, two5.ht, _, rfl, ?_⟩
      cases u with
      | v i =>
        refine iteT ?_
        rw [abB_false (rk := rk) (s := .f nm ss) (t := .v i) (fun h => by
          rcases h.2 with z | z
          · have z' : Kb.W (Kb.wOf rk) (.v i) < Kb.W (Kb.wOf rk) (.f nm ss) := z
            omega
          · exact z.2)] at q
        exact q G2 s7
      | f mm ts =>
      refine iteF ?_
      have sl := @wf_same_len _ nd
      have key := Kb.ab_eq (p := Kb.pOf rk) we oc
      obtain ⟨a, zs', rfl, sqa, alla⟩ := two5.hs
      obtain ⟨b, us', rfl, sqb, allb⟩ := two5.ht
      refine ⟨.ref a, rfl, a, _, 0, .str nm, rfl, rfl, sqa, atI_nat (j := 0) rfl, .ref b, rfl, b, _, 0, .str mm, rfl, rfl, sqb, atI_nat (j := 0) rfl, rfl, _, rfl, ?_⟩
      by_cases xy : nm = mm
      case neg =>
        have z : (!decide (V.str nm = V.str mm)) = true := by rw [decide_eq_false (fun z => xy (V.str.inj z))]; rfl
        rw [z]
        refine iteT ?_
        obtain ⟨c1, g1, h1⟩ := two5.rks.get nd two.ws.1
        obtain ⟨c2, g2, h2⟩ := two5.rks.get nd two.wt.1
        refine ⟨.ref d, rfl, .ref a, rfl, a, _, 0, .str nm, rfl, rfl, sqa, atI_nat (j := 0) rfl, d, .ref c1, rfl, g1, c1, _, 0, _, rfl, rfl, h1, atI_nat (j := 0) rfl, ?_⟩
        refine ⟨.ref d, rfl, .ref b, rfl, b, _, 0, .str mm, rfl, rfl, sqb, atI_nat (j := 0) rfl, d, .ref c2, rfl, g2, c2, _, 0, _, rfl, rfl, h2, atI_nat (j := 0) rfl, _, _, rfl, rfl, ?_⟩
        show Q (V.bl (decide (Kb.pOf rk mm < Kb.pOf rk nm))) G2
        by_cases lt : Kb.pOf rk mm < Kb.pOf rk nm
        · rw [decide_eq_true lt]
          rw [abB_true (key.mpr (.inl lt))] at q
          exact q G2 s7
        · rw [decide_eq_false lt]
          rw [abB_false (fun h => (key.mp h).elim lt fun z => xy z.1)] at q
          exact q G2 s7
      subst xy
      have z2 : (!decide (V.str nm = V.str nm)) = false := by rw [decide_eq_true rfl]; rfl
      rw [z2]
      refine iteF ?_
      have len : ss.length = ts.length := sl two.ws two.wt
      refine ⟨.ref a, rfl, 1, rfl, a, _, rfl, sqa, cut_args.1, fun p1 n1 => ?_⟩
      rw [cut_args.2]
      have s1 : Same G2 (upd G2 p1 (.tup zs')) := same_new (fun b o e => e) n1 _
      have m1 : (upd G2 p1 (.tup zs')) p1 = some (.tup zs') := upd_same
      generalize upd G2 p1 (.tup zs') = H1 at s1 m1
      refine ⟨.ref b, rfl, 1, rfl, b, _, rfl, (TK.same s1).sq sqb, cut_args.1, fun p2 n2 => ?_⟩
      rw [cut_args.2]
      have s2 : Same H1 (upd H1 p2 (.tup us')) := same_new (fun b o e => e) n2 _
      have m2 : (upd H1 p2 (.tup us')) p2 = some (.tup us') := upd_same
      replace m1 := s2 _ _ m1
      have s02 : Same G2 (upd H1 p2 (.tup us')) := fun b o e => s2 _ _ (s1 _ _ e)
      generalize upd H1 p2 (.tup us') = H2 at s2 m2 m1 s02
      have lz := alla.len
      have lu := allb.len
      refine ⟨p1, p2, zs', us', rfl, .inr ⟨.inl (.inl m1), .inl (.inl m2), for_zipT (by omega) (fun i σ G => ∃ (v7 v8 : Option V), σ = [some (.ref d), some (.ref a), some (.ref b), some (.ref l1), some (.ref l2), some (.int (Kb.W (Kb.wOf rk) (.f nm ss))), some (.int (Kb.W (Kb.wOf rk) (.f nm ts))), v7, v8, none] ∧ Same H2 G ∧ ss.take i = ts.take i)
        ⟨none, none, rfl, fun b o e => e, rfl⟩ (fun i σ G ⟨_, _, _, sm, _⟩ => ⟨.inl (.inl (sm _ _ m1)), .inl (.inl (sm _ _ m2))⟩) ?_ ?_⟩⟩
      · rintro i xv yv T' σ G hx hy ⟨v7, v8, rfl, sm, pre⟩ nT
        have smT : Same H2 (upd G T' (.tup [xv, yv])) := same_new sm nT _
        have smH : Same G2 (upd G T' (.tup [xv, yv])) := fun b o e => smT _ _ (s02 _ _ e)
        have two' := two5.same smH
        obtain ⟨s1', hs1, tm1⟩ := (Tms.mono (TK.same smH) _ _ alla).get hx
        obtain ⟨t1', ht1, tm2⟩ := (Tms.mono (TK.same smH) _ _ allb).get hy
        have e7 : (upd G T' (.tup [xv, yv])) T' = some (.tup [xv, yv]) := upd_same
        generalize upd G T' (.tup [xv, yv]) = G1 at smT smH two' tm1 tm2 e7
        have ms := List.mem_of_getElem? hs1
        have mt := List.mem_of_getElem? ht1
        have ns1 : s1'.named = true := T.named_mem ms (by
          have h : (nameOk nm && T.namedL ss) = true := two.ns
          rw [Bool.and_eq_true] at h
          exact h.2)
        have nt1 : t1'.named = true := T.named_mem mt (by
          have h : (nameOk nm && T.namedL ts) = true := two.nt
          rw [Bool.and_eq_true] at h
          exact h.2)
        have d1 := T.dep_mem ms
        have d2 := T.dep_mem mt
        have d3 : T.dep (.f nm ss) = 1 + T.depL ss := rfl
        have d4 : T.dep (.f nm ts) = 1 + T.depL ts := rfl
        have z1 := T.size_mem ms
        have z2 := T.size_mem mt
        have z3 : T.size (.f nm ss) = 1 + T.sizeL ss := rfl
        have z4 : T.size (.f nm ts) = 1 + T.sizeL ts := rfl
        refine ⟨T', _, rfl, .inl (.inl e7), rfl, xv, _, rfl, yv, _, rfl, rfl, ?_⟩
        refine ⟨xv, rfl, yv, rfl, s1'.d, t1'.d, Tm.dp _ _ tm1, Tm.dp _ _ tm2, T.shaped ns1 (by omega), T.shaped nt1 (by omega), _, rfl, ?_⟩
        by_cases st : s1' = t1'
        · have ev : (!PyData.eqv s1'.d t1'.d) = false := by
            rw [← st, eqv_one (T.shaped ns1 (by omega))]
            rfl
          rw [ev]
          refine iteF ⟨some xv, some yv, rfl, smT, ?_⟩
          rw [take_next hs1, take_next ht1, pre, st]
        · rw [eqv_ne st]
          refine iteT ?_
          refine ⟨.ref d, rfl, xv, rfl, yv, rfl, d, rk, s1', t1', xv, yv, rfl, ⟨two'.rks, nd, two.one, tm1, tm2, Kb.wfL_mem two.ws.2 ms, Kb.wfL_mem two.wt.2 mt, ns1, nt1, by omega, by omega, by omega, by omega⟩, by omega, fun G3 sm3 => ?_⟩
          have e : abB rk (.f nm ss) (.f nm ts) = abB rk s1' t1' := by
            have k2 := Kb.abL_pre (w := Kb.wOf rk) (p := Kb.pOf rk) pre hs1 ht1 st
            by_cases h : Kb.ab (Kb.wOf rk) (Kb.pOf rk) s1' t1'
            · rw [abB_true h, abB_true (key.mpr (.inr ⟨rfl, k2.mpr h⟩))]
            · rw [abB_false h, abB_false (fun k => (key.mp k).elim (fun z => absurd z (Int.lt_irrefl _)) fun z => h (k2.mp z.2))]
          rw [← e]
          exact q G3 fun b o e => sm3 _ _ (smH _ _ (s7 _ _ e))
      · rintro σ G ⟨v7, v8, rfl, sm, pre⟩
        rw [lz, List.take_length, len, List.take_length] at pre
        exact absurd (congrArg (T.f nm) pre) tu
end
end Ad

/-! for the law of the order: rows of drawn names, what is put in or put there -/
namespace Ad
open PySem PySem.Spec PySem.Calls PyProof.Rows L2
namespace Kb
mutual
theorem Wf.fill {rk : List Row} {s : Int → T} (h : ∀ j, Wf rk (s j)) : ∀ {t : T}, Wf rk t → Wf rk (t.fill s)
  | .v j, _ => h j
  | .f x ts, ⟨⟨r, hr, e, a⟩, k⟩ => ⟨⟨r, hr, e, by rw [T.fillL_map, List.length_map]; exact a⟩, WfL.fill h k⟩
theorem WfL.fill {rk : List Row} {s : Int → T} (h : ∀ j, Wf rk (s j)) : ∀ {ts : List T}, WfL rk ts → WfL rk (T.fillL s ts)
  | [], _ => True.intro
  | t :: ts, ⟨a, b⟩ => ⟨Wf.fill h a, WfL.fill h b⟩
end
theorem WfL.set {rk : List Row} {z : T} (hz : Wf rk z) : ∀ {ts : List T} (j : Nat), WfL rk ts → WfL rk (ts.set j z)
  | [], _, _ => True.intro
  | t :: ts, 0, ⟨_, b⟩ => ⟨hz, b⟩
  | t :: ts, j + 1, ⟨a, b⟩ => ⟨a, WfL.set hz j b⟩
theorem Wf.put {rk : List Row} {new : T} (hn : Wf rk new) : ∀ {p : List Int} {t r : T}, T.put new p t = some r → Wf rk t → Wf rk r
  | [], t, r, e, h => by
    cases (show some new = some r from e)
    exact hn
  | k :: p, t, r, e, h => by
    obtain ⟨j, x, ts, y, z, rfl, rfl, e1, e2, rfl⟩ := T.put_cons e
    obtain ⟨⟨q, hq, eq, a⟩, hl⟩ := h
    have hy := wfL_mem hl (List.mem_of_getElem? e1)
    exact ⟨⟨q, hq, eq, by rw [List.length_set]; exact a⟩, WfL.set (Wf.put hn e2 hy) j hl⟩
theorem ab_put {w p : Str → Int} {a b : T} (h : ab w p a b) : ∀ {q : List Int} {t r s : T}, T.put a q t = some r → T.put b q t = some s → ab w p r s
  | [], t, r, s, e1, e2 => by
    cases (show some a = some r from e1)
    cases (show some b = some s from e2)
    exact h
  | k :: q, t, r, s, e1, e2 => by
    obtain ⟨j, x, ts, y, z, rfl, rfl, f1, f2, rfl⟩ := T.put_cons e1
    obtain ⟨j', x', ts', y', z', ej, et, g1, g2, rfl⟩ := T.put_cons e2
    cases et
    have ej' : j = j' := by omega
    subst ej'
    rw [f1] at g1
    cases g1
    have hj := (List.getElem?_eq_some_iff.mp f1).1
    rw [List.set_eq_take_append_cons_drop, if_pos hj, List.set_eq_take_append_cons_drop, if_pos hj]
    exact ab_at (ab_put h f2 g2) x _ _
end Kb
/-- terms of the law -/
structure Tx (rk : List Row) (nv : Int) (t : T) : Prop where
  named : t.named = true
  dep : t.dep ≤ 20
  size : t.size ≤ 900
  vars : ∀ j ∈ t.vars, 0 ≤ j ∧ j < nv
  wf : Kb.Wf rk t
theorem DS.tx {R S : List Row} {nv : Int} {t : T} (h : DS R S nv t) : Tx (ranked R S) nv t := ⟨h.named, by have := h.dep; omega, by have := h.size; omega, h.vars, h.wf⟩
theorem DT.tx {R S : List Row} {d : Nat} {nv : Int} {t : T} (hd : d ≤ 3) (h : DT R d nv t) : Tx (ranked R S) nv t :=
  ⟨h.named, by have := h.dep; omega, by have h1 := h.size; have h2 := sz_mono hd; have h3 : sz 3 = 40 := rfl; omega, h.vars, h.wf.mono fun r hr => List.mem_cons_of_mem _ (List.mem_append_left _ hr)⟩
theorem DA.tx {R S : List Row} {d : Nat} {nv : Int} {t : T} (hd : d ≤ 3) (h : DA R S d nv t) : Tx (ranked R S) nv t :=
  ⟨h.named, by have := h.dep; omega, by have h1 := h.size; have h2 := sz_mono hd; have h3 : sz 3 = 40 := rfl; omega, h.vars, h.wf.mono fun r hr => List.mem_cons_of_mem _ hr⟩
/-- where the law stands -/
structure Lw (K : PySem.W.Frag) (C p l ra : Addr) (ns : List Int) (R S : List Row) (o d : Addr) (c : Nat) (H : Hp) : Prop where
  pen : Pn.Pen H p l ns c
  rows : OrdAt K H ra R S
  ord : OrdI K C H o R S
  rks : RkD K H d (ranked R S)
  dp : d ≠ p
section
variable {K : PySem.W.Frag} {C p l ra : Addr} {ns : List Int} {R S : List Row} {o d : Addr} {c : Nat} {H H' : Hp}
theorem Lw.but (L : Lw K C p l ra ns R S o d c H) (b : Pn.But p H H') {c' : Nat} (P : Pn.Pen H' p l ns c') : Lw K C p l ra ns R S o d c' H' :=
  ⟨P, L.rows.mono (pen_tk L.pen b), L.ord.but L.pen b, L.rks.but L.pen b L.dp, L.dp⟩
theorem Lw.same (L : Lw K C p l ra ns R S o d c H) (s : Same H H') : Lw K C p l ra ns R S o d c H' := L.but (Pn.But.of s) (pen_same L.pen s)
theorem Lw.two (L : Lw K C p l ra ns R S o d c H) (g : GenO R S) {nv mv : Int} {s t : T} {x y : V} (hs : Tx (ranked R S) nv s) (ht : Tx (ranked R S) mv t) (ts : Tm K H s x) (tt : Tm K H t y) : Two K C H o R S s t x y :=
  ⟨L.ord, g.ok, ts, tt, hs.wf, ht.wf, hs.named, ht.named, by have := hs.dep; omega, by have := ht.dep; omega, by have := hs.size; omega, by have := ht.size; omega⟩
theorem Lw.two2 (L : Lw K C p l ra ns R S o d c H) (g : GenO R S) {nv mv : Int} {s t : T} {x y : V} (hs : Tx (ranked R S) nv s) (ht : Tx (ranked R S) mv t) (ts : Tm K H s x) (tt : Tm K H t y) : Two2 K H d (ranked R S) s t x y :=
  ⟨L.rks, g.ok.nd, fun r hr => by
    rcases List.mem_cons.mp hr with e | e
    · rw [e]
      exact Int.le_refl _
    · exact g.ok.wt r e, ts, tt, hs.wf, ht.wf, hs.named, ht.named, by have := hs.dep; omega, by have := ht.dep; omega, by have := hs.size; omega, by have := ht.size; omega⟩
end
end Ad

namespace Ad
open PySem PySem.Spec PySem.Calls PyProof.Rows L2
namespace T
mutual
theorem put_vars' {new : T} {j : Int} : ∀ {p : List Int} {t r : T}, put new p t = some r → j ∈ r.vars → j ∈ t.vars ∨ j ∈ new.vars
  | [], t, r, h, hj => by
    cases (show some new = some r from h)
    exact .inr hj
  | k :: p, t, r, h, hj => by
    obtain ⟨i, x, ts, y, z, rfl, rfl, e1, e2, rfl⟩ := put_cons h
    have hj' : j ∈ varsL (ts.set i z) := hj
    have key : ∀ (ts : List T) (i : Nat), ts[i]? = some y → j ∈ varsL (ts.set i z) → j ∈ varsL ts ∨ j ∈ z.vars := by
      intro ts
      induction ts with
      | nil => intro i h; cases h
      | cons t ts ih =>
        intro i h hm
        cases i with
        | zero =>
          rcases List.mem_append.mp (show j ∈ vars z ++ varsL ts from hm) with q | q
          · exact .inr q
          · exact .inl (List.mem_append_right _ q)
        | succ i =>
          rcases List.mem_append.mp (show j ∈ vars t ++ varsL (ts.set i z) from hm) with q | q
          · exact .inl (List.mem_append_left _ q)
          · rcases ih i h q with w | w
            · exact .inl (List.mem_append_right _ w)
            · exact .inr w
    rcases key ts i e1 hj' with q | q
    · exact .inl q
    · rcases put_vars' e2 q with w | w
      · exact .inl (mem_varsL (List.mem_of_getElem? e1) w)
      · exact .inr w
end
mutual
theorem part_small : ∀ (t u : T), u ∈ t.parts → (t.named = true → u.named = true) ∧ u.dep ≤ t.dep ∧ u.size ≤ t.size
  | .v i, u, m => by
    cases List.mem_singleton.mp m
    exact ⟨id, Nat.le_refl _, Nat.le_refl _⟩
  | .f x ts, u, m => by
    rcases List.mem_cons.mp m with e | e
    · rw [e]
      exact ⟨id, Nat.le_refl _, Nat.le_refl _⟩
    · obtain ⟨a, b, c⟩ := partL_small ts u e
      refine ⟨fun h => a ?_, ?_, ?_⟩
      · have h' : (nameOk x && namedL ts) = true := h
        rw [Bool.and_eq_true] at h'
        exact h'.2
      · show u.dep ≤ 1 + depL ts
        omega
      · show u.size ≤ 1 + sizeL ts
        omega
theorem partL_small : ∀ (ts : List T) (u : T), u ∈ partsL ts → (namedL ts = true → u.named = true) ∧ u.dep ≤ depL ts ∧ u.size ≤ sizeL ts
  | [], u, m => by cases m
  | t :: ts, u, m => by
    rcases List.mem_append.mp m with e | e
    · obtain ⟨a, b, c⟩ := part_small t u e
      refine ⟨fun h => a ?_, ?_, ?_⟩
      · have h' : (named t && namedL ts) = true := h
        rw [Bool.and_eq_true] at h'
        exact h'.1
      · show u.dep ≤ max (dep t) (depL ts)
        omega
      · show u.size ≤ size t + sizeL ts
        omega
    · obtain ⟨a, b, c⟩ := partL_small ts u e
      refine ⟨fun h => a ?_, ?_, ?_⟩
      · have h' : (named t && namedL ts) = true := h
        rw [Bool.and_eq_true] at h'
        exact h'.2
      · show u.dep ≤ max (dep t) (depL ts)
        omega
      · show u.size ≤ size t + sizeL ts
        omega
end
end T
theorem Tx.part {rk : List Row} {nv : Int} {t u : T} (h : Tx rk nv t) (m : u ∈ t.parts) (one : ∀ x, 1 ≤ Kb.wOf rk x) : Tx rk nv u := by
  obtain ⟨a, b, c⟩ := T.part_small t u m
  have o := (Kb.part_le one t u m).1
  refine ⟨a h.named, by have := h.dep; omega, by have := h.size; omega, fun j hj => h.vars j ?_, Kb.wf_part t h.wf u m⟩
  have := o j
  have h1 := List.count_pos_iff.mpr hj
  exact List.count_pos_iff.mp (by omega)
/-- what compare tells -/
def IsW (v : V) : Prop := v = .non ∨ v = .str "alike" ∨ v = .str "above" ∨ v = .str "below"
theorem word_isW {w p : Str → Int} (s t : T) : IsW (Kb.word w p s t) := by
  unfold Kb.word
  split
  · exact .inr (.inl rfl)
  · split
    · exact .inr (.inr (.inl rfl))
    · split
      · exact .inr (.inr (.inr rfl))
      · exact .inl rfl
def wd : V → PyData
  | .str z => .str z
  | _ => .none
theorem IsW.dp {K : PySem.W.Frag} {H : Hp} {v : V} (h : IsW v) : Dp K H v (wd v) := by
  rcases h with e | e | e | e <;> rw [e]
  · exact .non
  · exact .str _
  · exact .str _
  · exact .str _
theorem IsW.shaped {a b : V} (h : IsW a) (k : IsW b) : SeqAt.shaped (.list [wd a, wd b]) = true := by
  rcases h with e | e | e | e <;> rcases k with e' | e' | e' | e' <;> rw [e, e'] <;> decide +kernel
theorem eqv2 (a b c d : PyData) : PyData.eqv (.list [a, b]) (.list [c, d]) = (PyData.eqv a c && PyData.eqv b d) := by
  have e0 : ∀ as bs : List PyData, PyData.eqv (.list as) (.list bs) = PyData.eqvAll as bs := fun as bs => by rw [PyData.eqv]
  have e1 : PyData.eqvAll [] [] = true := by rw [PyData.eqvAll]
  rw [e0, eqvAll_cons, eqvAll_cons, e1, Bool.and_true]
theorem IsW.is_above {a : V} (h : IsW a) (e : PyData.eqv (wd a) (.str "above") = true) : a = .str "above" := by
  have es : ∀ x y : Str, PyData.eqv (.str x) (.str y) = (x == y) := fun x y => by rw [PyData.eqv]
  rcases h with z | z | z | z <;> rw [z] at e ⊢
  · have : PyData.eqv .none (.str "above") = false := by rw [PyData.eqv]
    rw [show wd .non = PyData.none from rfl, this] at e
    cases e
  · rw [show wd (.str "alike") = PyData.str "alike" from rfl, es] at e
    exact absurd (beq_iff_eq.mp e) (by decide +kernel)
  · rw [show wd (.str "below") = PyData.str "below" from rfl, es] at e
    exact absurd (beq_iff_eq.mp e) (by decide +kernel)
theorem IsW.scal {a : V} (h : IsW a) (z : Str) : scal a (.str z) = true := by
  rcases h with e | e | e | e <;> rw [e] <;> rfl
theorem IsW.scal2 {a b : V} (h : IsW a) (k : IsW b) : L2.scal a b = true := by
  rcases h with e | e | e | e <;> rcases k with e' | e' | e' | e' <;> rw [e, e'] <;> rfl
theorem asg_wf {R S : List Row} {d : Nat} {nv : Int} {su : Sb} (h : DSu R d nv su) (j : Int) : Kb.Wf (ranked R S) (su.asg j) := by
  show Kb.Wf _ ((su.look j).getD (.v j))
  cases e : su.look j with
  | none => exact True.intro
  | some t => exact (h.each _ (Sb.look_mem e)).2.2.wf.mono fun r hr => List.mem_cons_of_mem _ (List.mem_append_left _ hr)
theorem fill_tx {R S : List Row} {nv : Int} {su : Sb} (h : DSu R 1 nv su) {t : T} (ht : Tx (ranked R S) nv t) (hd : t.dep ≤ 11) (hz : t.size ≤ 100) : Tx (ranked R S) nv (T.fill su.asg t) := by
  have each : ∀ j ∈ t.vars, (su.asg j).named = true ∧ (su.asg j).dep ≤ 2 ∧ (su.asg j).size ≤ 4 ∧ ∀ i ∈ (su.asg j).vars, 0 ≤ i ∧ i < nv := fun j hj => by
    show ((su.look j).getD (.v j)).named = true ∧ ((su.look j).getD (.v j)).dep ≤ 2 ∧ ((su.look j).getD (.v j)).size ≤ 4 ∧ ∀ i ∈ ((su.look j).getD (.v j)).vars, 0 ≤ i ∧ i < nv
    cases e : su.look j with
    | none => exact ⟨rfl, Nat.zero_le _, (by show 1 ≤ 4; decide), fun i hi => by
        cases List.mem_singleton.mp (show i ∈ [j] from hi)
        exact ht.vars j hj⟩
    | some u =>
      have d := (h.each _ (Sb.look_mem e)).2.2
      exact ⟨d.named, d.dep, d.size, d.vars⟩
  refine ⟨T.fill_named t ht.named fun j hj => (each j hj).1, ?_, ?_, fun j hj => ?_, ht.wf.fill (asg_wf h)⟩
  · have := T.fill_dep (D := 2) t fun j hj => (each j hj).2.1
    omega
  · have := T.fill_size (M := 4) (by decide) t fun j hj => (each j hj).2.2.1
    omega
  · obtain ⟨i, hi, hj'⟩ := T.fill_vars t hj
    exact (each i hi).2.2.2 j hj'
theorem put_tx {rk : List Row} {nv mv : Int} {t new r : T} {p : List Int} (le : mv ≤ nv) (e : T.put new p t = some r) (sub : ∃ u, T.sub p t = some u) (ht : Tx rk mv t) (hn : Tx rk nv new) (hd : t.dep + new.dep ≤ 20) (hz : t.size + new.size ≤ 900) : Tx rk nv r := by
  obtain ⟨u, hu⟩ := sub
  obtain ⟨r', e', _, _, z, d, n⟩ := T.put_sub new hu
  rw [e] at e'
  cases e'
  refine ⟨n ht.named hn.named, by omega, by omega, fun j hj => ?_, Kb.Wf.put hn.wf e ht.wf⟩
  rcases T.put_vars' e hj with k | k
  · exact ⟨(ht.vars j k).1, by have := (ht.vars j k).2; omega⟩
  · exact hn.vars j k
theorem Tx.more {rk : List Row} {nv mv : Int} {t : T} (le : mv ≤ nv) (h : Tx rk mv t) : Tx rk nv t := ⟨h.named, h.dep, h.size, fun j hj => ⟨(h.vars j hj).1, by have := (h.vars j hj).2; omega⟩, h.wf⟩
theorem novars {rk : List Row} {t : T} (h : Tx rk 0 t) : t.vars = [] := by
  cases e : t.vars with
  | nil => rfl
  | cons j l =>
    have := h.vars j (by rw [e]; exact List.mem_cons_self ..)
    omega
end Ad

namespace Ad
open PySem PySem.Spec PySem.Calls PyProof.Rows L2
theorem paths_dp {K : PySem.W.Frag} {H : Hp} : ∀ {ps : List (List Int)} {vs : List V}, F2 (PV K H) ps vs → DpAll K H vs (ps.map iD)
  | [], vs, h => by
    cases (show vs = [] from h)
    exact .nil
  | p :: ps, vs, h => by
    obtain ⟨v, r, rfl, ⟨a, rfl, s⟩, t⟩ := h
    exact .cons (iD_dp s) (paths_dp t)
theorem paths_shaped (ps : List (List Int)) : SeqAt.shaped (.list (ps.map iD)) = true := by
  unfold SeqAt.shaped
  have h1 : PyData.canLayAll0 (ps.map iD) = true := by
    induction ps with
    | nil => rfl
    | cons p ps ih =>
      show (PyData.canLay0 (iD p) && PyData.canLayAll0 (ps.map iD)) = true
      have h := iD_shaped p
      unfold SeqAt.shaped at h
      rw [Bool.and_eq_true] at h
      rw [h.1, ih]
      rfl
  have h2 : PyData.depthAll (ps.map iD) ≤ 1 := by
    induction ps with
    | nil => exact Nat.zero_le _
    | cons p ps ih =>
      show max (PyData.depth (iD p)) (PyData.depthAll (ps.map iD)) ≤ 1
      have ih' := ih (by
        have h : (PyData.canLay0 (iD p) && PyData.canLayAll0 (ps.map iD)) = true := h1
        rw [Bool.and_eq_true] at h
        exact h.2)
      have hd : PyData.depth (iD p) = 1 := by
        show PyData.depthAll (p.map .int) + 1 = 1
        rw [int_depth]
      omega
  show (PyData.canLayAll0 (ps.map iD) && decide (PyData.depthAll (ps.map iD) + 1 ≤ 64)) = true
  rw [h1, decide_eq_true (by omega)]
  rfl
theorem paths_nil (ps : List (List Int)) : PyData.eqv (.list (ps.map iD)) (.list []) = ps.isEmpty := by
  have e0 : ∀ as bs : List PyData, PyData.eqv (.list as) (.list bs) = PyData.eqvAll as bs := fun as bs => by rw [PyData.eqv]
  rw [e0]
  cases ps with
  | nil => rw [List.map_nil, PyData.eqvAll]; rfl
  | cons p ps => rw [List.map_cons, PyData.eqvAll]; rfl
namespace T
/-- the parts behind the first -/
def tail : T → List T
  | .v _ => []
  | .f _ ts => partsL ts
theorem parts_tail : ∀ t : T, t.parts = t :: t.tail
  | .v _ => rfl
  | .f _ _ => rfl
end T
theorem ab_tail {w p : Str → Int} (one : ∀ x, 1 ≤ w x) {t u : T} (m : u ∈ t.tail) : Kb.ab w p t u := by
  cases t with
  | v i => cases m
  | f x ts => exact Kb.ab_part one m
theorem last_ok : OOk [(("a" : Str), 0, 3)] [] := ⟨by decide +kernel, fun r hr => by
  cases List.mem_singleton.mp hr
  decide, ⟨_, List.mem_singleton_self _, rfl⟩, by decide⟩
theorem last_below : Kb.word (Kb.wOf (ranked [(("a" : Str), 0, 3)] [])) (Kb.pOf (ranked [(("a" : Str), 0, 3)] [])) (.f "yes" []) (.f "a" []) = .str "below" := by
  refine Kb.word_below ⟨fun i => Nat.zero_le _, .inl ?_⟩
  have h1 : Kb.wOf (ranked [(("a" : Str), 0, 3)] []) "yes" = 1 := Kb.wOf_mem (r := (("yes" : Str), 0, 1)) last_ok.nd (List.mem_cons_self ..)
  have h2 : Kb.wOf (ranked [(("a" : Str), 0, 3)] []) "a" = 3 := Kb.wOf_mem (r := (("a" : Str), 0, 3)) last_ok.nd (List.mem_cons_of_mem _ (List.mem_cons_self ..))
  show Kb.wOf (ranked [(("a" : Str), 0, 3)] []) "yes" + 0 < Kb.wOf (ranked [(("a" : Str), 0, 3)] []) "a" + 0
  rw [h1, h2]
  decide
end Ad

namespace Ad
open PySem PySem.Spec PySem.Calls PyProof.Rows L2
abbrev sFrom : Stmt := topS 4
theorem scFrom : FnScope ["value", "least"] ["value", "least"] (defScope sFrom) := ⟨rfl, rfl, rfl, by decide +kernel, rfl, by decide +kernel, by decide +kernel⟩
section
variable {P : Program} {w : World} {K : PySem.W.Frag} {mg : Str → Option Value} {base : Heap}
def spFrom : Sp := fun vs H Q _ => ∃ i m : Int, vs = [.int i, .int m] ∧ Q (.bl (decide (m ≤ i))) H
theorem ok_from {f : Addr} {fd : FuncData} {k : Nat} (F : Fun K "is_from" "is_from" sFrom f fd) (m_isinstance : mg "isinstance" = none) (m_int : mg "int" = none) (m_bool : mg "bool" = none) : FnOk P w K mg base CX0 (k + 1) f fd ["value", "least"] spFrom := by
  refine F.ok scFrom (fun vs H Q E h => ?_) (fun cdv A outer s H vs Q E hr h => ?_)
  · obtain ⟨i, m, rfl, _⟩ := h
    rfl
  · obtain ⟨i, m, rfl, q⟩ := h
    refine ⟨_, (pss_one (ps_ret (pe_and (pe_callB call_isi (by rfl) m_isinstance (by decide +kernel) (pa_cons (pv 0) (pa_cons (pe_bltn (v := .ty "int") (by rfl) m_int (by decide +kernel) rfl) pa_nil))) (pe_and (pe_not (pe_callB call_isi (by rfl) m_isinstance (by decide +kernel) (pa_cons (pv 0) (pa_cons (pe_bltn (v := .ty "bool") (by rfl) m_bool (by decide +kernel) rfl) pa_nil)))) (pe_one (pe_cmpR op_ge (pv 0) (pv 1) (nomark _))))))), ?_⟩
    refine ⟨.int i, rfl, _, .ty "int", .type "int", .type "int", true, rfl, .ty "int", .base (.int i), kitII, true, rfl, ?_⟩
    refine iteT ?_
    refine ⟨.int i, rfl, _, .ty "bool", .type "int", .type "bool", false, rfl, .ty "bool", .base (.int i), kitIB, false, rfl, _, rfl, ?_⟩
    refine iteT ?_
    exact ⟨.int i, rfl, .int m, rfl, _, _, rfl, rfl, q⟩
end
end Ad

namespace Ad
open PySem PySem.Spec PySem.Calls PyProof.Rows L2
abbrev sTriple : Stmt := topS 8
theorem scTriple : FnScope ["item"] ["item"] (defScope sTriple) := ⟨rfl, rfl, rfl, by decide +kernel, rfl, by decide +kernel, by decide +kernel⟩
theorem ix_x {K : PySem.W.Frag} {H : Hp} {b : Addr} {xs : List V} {i : Nat} {v : V} {Q : VK} (h : SqX K H b xs) (e : xs[i]? = some v) (q : Q v H) : rIx K (.ref b) (.int (i : Int)) H Q := by
  rcases h with h | h
  · exact .inl ⟨b, xs, (i : Int), v, rfl, rfl, h, atI_nat e, q⟩
  · exact .inr (.inl ⟨b, xs, (i : Int), v, rfl, rfl, h, atI_nat e, q⟩)
section
variable {P : Program} {w : World} {K : PySem.W.Frag} {mg : Str → Option Value} {base : Heap}
def spTriple (K : PySem.W.Frag) : Sp := fun vs H Q _ => ∃ (r : Row) (v : V), vs = [v] ∧ RowX K H r v ∧ 1 ≤ r.2.2 ∧ ∀ H', Same H H' → Q (.bl true) H'
theorem ok_triple {f fF : Addr} {fd fdF : FuncData} {k : Nat} (F : Fun K "_is_triple" "_is_triple" sTriple f fd) (GF : FnOk P w K mg base CX0 k fF fdF ["value", "least"] spFrom) (gF : mg "is_from" = some (.ref fF)) (kF : PySem.W.keepIn K (.ref fF) = true) (bF : Binds K fdF ["value", "least"] [])
    (m_isinstance : mg "isinstance" = none) (m_list : mg "list" = none) (m_tuple : mg "tuple" = none) (m_len : mg "len" = none) (m_str : mg "str" = none) : FnOk P w K mg base CX0 (k + 1) f fd ["item"] (spTriple K) := by
  refine F.ok scTriple (fun vs H Q E h => ?_) (fun cdv A outer s H vs Q E hr h => ?_)
  · obtain ⟨r, v, rfl, _⟩ := h
    rfl
  · obtain ⟨r, v, rfl, ⟨b, rfl, hx⟩, hw, q⟩ := h
    refine ⟨_, (pss_cons (ps_if (PW.pt (pw_or (pt_not (pt_val (pe_callB call_isiT (by rfl) m_isinstance (by decide +kernel) (pa_cons (pv 0) (pa_cons (pe_tup (pa_cons (pe_bltn (v := .ty "list") (by rfl) m_list (by decide +kernel) rfl) (pa_cons (pe_bltn (v := .ty "tuple") (by rfl) m_tuple (by decide +kernel) rfl) pa_nil))) pa_nil))))) (pw_or1 (pt_cmpR op_ne (pe_callB call_len_seq (by rfl) m_len PySem.boot_len (pa_cons (pv 0) pa_nil)) pe_int (nomark _)))))
      (pss_one (ps_ret pe_bl)) pss_nil)
    (pss_one (ps_ret (pe_and (pe_callB call_isi (by rfl) m_isinstance (by decide +kernel) (pa_cons (pe_ix ix_seq (pv 0) pe_int (fun _ _ => rfl)) (pa_cons (pe_bltn (v := .ty "str") (by rfl) m_str (by decide +kernel) rfl) pa_nil))) (pe_and (pe_call GF hr (by rfl) gF kF bF .nil pass0 (pa_cons (pe_ix ix_seq (pv 0) pe_int (fun _ _ => rfl)) (pa_cons pe_int pa_nil))) (pe_one (pe_call GF hr (by rfl) gF kF bF .nil pass0 (pa_cons (pe_ix ix_seq (pv 0) pe_int (fun _ _ => rfl)) (pa_cons pe_int pa_nil))))))))), ?_⟩
    refine ⟨.ref b, rfl, (by show 2 ≤ sizeLine; decide), fun tp np => ?_⟩
    have s1 : Same H (upd H tp (.tup [.ty "list", .ty "tuple"])) := same_new (fun b o e => e) np _
    have m1 : (upd H tp (.tup [.ty "list", .ty "tuple"])) tp = some (.tup [.ty "list", .ty "tuple"]) := upd_same
    replace hx := hx.same s1
    generalize upd H tp (.tup [.ty "list", .ty "tuple"]) = H1 at s1 m1 hx
    obtain ⟨t, ty, kit⟩ := sqx_ty hx
    refine ⟨.ref b, tp, _, t, [.type "list", .type "tuple"], true, rfl, m1, .cons (.ty "list") (.cons (.ty "tuple") .nil), ty, kit, true, rfl, ?_⟩
    refine iteF ?_
    refine ⟨.ref b, rfl, b, _, rfl, hx, rfl, _, rfl, ?_⟩
    refine iteF ?_
    refine ⟨.ref b, rfl, ix_x (i := 0) hx rfl ?_⟩
    refine ⟨_, .ty "str", .type "str", .type "str", true, rfl, .ty "str", .base (.str r.1), kitSS', true, rfl, ?_⟩
    refine iteT ?_
    refine ⟨.ref b, rfl, ix_x (i := 1) hx rfl ?_⟩
    refine ⟨(r.2.1 : Int), 0, rfl, true, ?_, ?_⟩
    · rw [decide_eq_true (show (0 : Int) ≤ (r.2.1 : Int) by omega)]
    refine iteT ?_
    refine ⟨.ref b, rfl, ix_x (i := 2) hx rfl ?_⟩
    refine ⟨r.2.2, 1, rfl, ?_⟩
    rw [decide_eq_true hw]
    exact q H1 s1
end
end Ad

namespace Ad
open PySem PySem.Spec PySem.Calls PyProof.Rows L2
abbrev sTriples : Stmt := topS 7
theorem scTriples : FnScope ["row", "taken", "names", "triples", "item"] ["row", "taken"] (defScope sTriples) := ⟨rfl, rfl, rfl, by decide +kernel, rfl, by decide +kernel, by decide +kernel⟩
theorem inV_strs {n : Str} {L : List Str} (h : n ∉ L) : inV (.str n) (L.map V.str) = false := by
  unfold inV
  rw [List.any_eq_false]
  intro y hy
  obtain ⟨m, hm, rfl⟩ := List.mem_map.mp hy
  show ¬ (m == n) = true
  intro z
  exact h (by rw [← (beq_iff_eq.mp z)]; exact hm)
theorem flat_strs (L : List Str) : (L.map V.str).all flatV = true := by
  rw [List.all_eq_true]
  intro y hy
  obtain ⟨m, hm, rfl⟩ := List.mem_map.mp hy
  rfl
section
variable {P : Program} {w : World} {K : PySem.W.Frag} {mg : Str → Option Value} {base : Heap}
def spTriples (K : PySem.W.Frag) : Sp := fun vs H Q _ => ∃ (ra tk : Addr) (R : List Row) (T : List Str) (xs : List V), vs = [.ref ra, .ref tk] ∧ SqX K H ra xs ∧ F2 (RowX K H) R xs ∧ H tk = some (.lst (T.map V.str)) ∧
  (T ++ R.map (·.1)).Nodup ∧ (∀ r ∈ R, 1 ≤ r.2.2) ∧ T.length + R.length ≤ 1000 ∧ ∀ H' p ys, Same H H' → H p = none → SqT K H' p ys → F2 (RowV K H') R ys → Q (.ref p) H'
theorem ok_triples {f fF : Addr} {fd fdF : FuncData} {k : Nat} (F : Fun K "_triples_of" "_triples_of" sTriples f fd) (GF : FnOk P w K mg base CX0 k fF fdF ["item"] (spTriple K)) (gF : mg "_is_triple" = some (.ref fF)) (kF : PySem.W.keepIn K (.ref fF) = true) (bF : Binds K fdF ["item"] [])
    (m_isinstance : mg "isinstance" = none) (m_list : mg "list" = none) (m_tuple : mg "tuple" = none) : FnOk P w K mg base CX0 (k + 1) f fd ["row", "taken"] (spTriples K) := by
  refine F.ok scTriples (fun vs H Q E h => ?_) (fun cdv A outer s H vs Q E hr h => ?_)
  · obtain ⟨ra, tk, R, T, xs, rfl, _⟩ := h
    rfl
  · obtain ⟨ra, tk, R, T, xs, rfl, hx, fx, htk, nd, wt, many, q⟩ := h
    refine ⟨_, (pss_cons (ps_if (pt_not (pt_val (pe_callB call_isiT (by rfl) m_isinstance (by decide +kernel) (pa_cons (pv 0) (pa_cons (pe_tup (pa_cons (pe_bltn (v := .ty "list") (by rfl) m_list (by decide +kernel) rfl) (pa_cons (pe_bltn (v := .ty "tuple") (by rfl) m_tuple (by decide +kernel) rfl) pa_nil))) pa_nil)))))
      (pss_one (ps_ret pe_non)) pss_nil)
    (pss_cons (ps_set (i := 2) scTriples.nd rfl (.inl rfl) (pe_callTy call_list_of (by rfl) m_list (by decide +kernel) (pa_cons (pv 1) pa_nil)))
    (pss_cons (ps_set (i := 3) scTriples.nd rfl (.inl rfl) (pe_lst pa_nil))
    (pss_cons (ps_for PassesOwn.never rfl (Et.pi_any (pv 0)) (pg_name (i := 4) scTriples.nd rfl (.inl rfl))
      (pss_cons (ps_if (PW.pt (pw_or (pt_not (pt_val (pe_call GF hr (by rfl) gF kF bF .nil pass0 (pa_cons (pv 4) pa_nil)))) (pw_or1 (pt_cmpR op_in_seq (pe_ix ix_seq (pv 4) pe_int (fun _ _ => rfl)) (pv 2) (by with_unfolding_all rfl)))))
        (pss_one (ps_ret pe_non)) pss_nil)
      (pss_cons (ps_expr (pe_bm PySem.F.plainAttrs_list PySem.F.slot_list_append PySem.F.type_list_append mt_append (pv 2) (pa_cons (pe_ix ix_seq (pv 4) pe_int (fun _ _ => rfl)) pa_nil)))
      (pss_one (ps_expr (pe_bm PySem.F.plainAttrs_list PySem.F.slot_list_append PySem.F.type_list_append mt_append (pv 3) (pa_cons (pe_callTy call_tuple_of (by rfl) m_tuple (by decide +kernel) (pa_cons (pv 4) pa_nil)) pa_nil)))))))
    (pss_one (ps_ret (pe_callTy call_tuple_of (by rfl) m_tuple (by decide +kernel) (pa_cons (pv 3) pa_nil)))))))), ?_⟩
    have lx := fx.len
    refine ⟨.ref ra, rfl, (by show 2 ≤ sizeLine; decide), fun tp np => ?_⟩
    have s1 : Same H (upd H tp (.tup [.ty "list", .ty "tuple"])) := same_new (fun b o e => e) np _
    have m1 : (upd H tp (.tup [.ty "list", .ty "tuple"])) tp = some (.tup [.ty "list", .ty "tuple"]) := upd_same
    generalize upd H tp (.tup [.ty "list", .ty "tuple"]) = H1 at s1 m1
    obtain ⟨t, ty, kit⟩ := sqx_ty (hx.same s1)
    refine ⟨.ref ra, tp, _, t, [.type "list", .type "tuple"], true, rfl, m1, .cons (.ty "list") (.cons (.ty "tuple") .nil), ty, kit, true, rfl, ?_⟩
    refine iteF ?_
    refine ⟨.ref tk, rfl, tk, _, rfl, .inl (.inl (.inl (s1 _ _ htk))), fun dN nN => ?_⟩
    have nNH : H dN = none := by
      cases z : H dN with
      | none => rfl
      | some o =>
        rw [s1 _ _ z] at nN
        cases nN
    have s2 : Same H (upd H1 dN (.lst (T.map V.str))) := same_on s1 nNH _
    have m2 : (upd H1 dN (.lst (T.map V.str))) dN = some (.lst (T.map V.str)) := upd_same
    generalize upd H1 dN (.lst (T.map V.str)) = H2 at s2 m2
    refine ⟨Nat.zero_le _, fun dT nT => ?_⟩
    have nTH : H dT = none := by
      cases z : H dT with
      | none => rfl
      | some o =>
        rw [s2 _ _ z] at nT
        cases nT
    have dne : dN ≠ dT := fun e => by
      rw [← e, m2] at nT
      cases nT
    have s3 : Same H (upd H2 dT (.lst [])) := same_on s2 nTH _
    have m3 : (upd H2 dT (.lst [])) dT = some (.lst []) := upd_same
    have m2' : (upd H2 dT (.lst [])) dN = some (.lst (T.map V.str)) := by rw [upd_ne dne]; exact m2
    generalize upd H2 dT (.lst []) = H3 at s3 m3 m2'
    refine ⟨.ref ra, rfl, ra, rfl, ?_⟩
    let Pv : Nat → L2.St → Hp → Prop := fun i σ G => ∃ (v4 : Option V) (ts : List V), σ = [some (.ref ra), some (.ref tk), some (.ref dN), some (.ref dT), v4] ∧ Same H G ∧ G dN = some (.lst ((T ++ (R.take i).map (·.1)).map V.str)) ∧ G dT = some (.lst ts) ∧ F2 (RowV K G) (R.take i) ts
    have p0 : Pv 0 [some (.ref ra), some (.ref tk), some (.ref dN), some (.ref dT), none] H3 := ⟨none, [], rfl, s3, by rw [List.take_zero, List.map_nil, List.append_nil]; exact m2', m3, by rw [List.take_zero]; exact rfl⟩
    rcases hx with hx | hx
    · refine .inl ⟨xs, s3.seq hx, for_list (K := K) (a := ra) (xs := xs) Pv p0 (fun i σ G _ ⟨_, _, _, sm, _⟩ => sm.seq hx) ?_ ?_⟩
      · rintro i x σ G hi ⟨v4, ts, rfl, sm, gN, gT, fts⟩
        obtain ⟨r, hr', rx⟩ := fx.get hi
        have rx1 := RowX.same sm _ _ rx
        obtain ⟨b, rfl, hb⟩ := rx1
        have ilt := (List.getElem?_eq_some_iff.mp hr').1
        have rin := List.mem_of_getElem? hr'
        have lt := fts.len
        rw [List.length_take] at lt
        refine ⟨.ref b, rfl, r, .ref b, rfl, ⟨b, rfl, hb⟩, wt r rin, fun G1 sm1 => ?_⟩
        replace gN := sm1 _ _ gN
        replace gT := sm1 _ _ gT
        replace hb := hb.same sm1
        replace fts := fts.mono (RowV.mono (TK.same sm1))
        have sm01 : Same H G1 := fun b o e => sm1 _ _ (sm _ _ e)
        clear sm sm1
        refine ⟨true, rfl, iteF ?_⟩
        have fresh : r.1 ∉ T ++ (R.take i).map (·.1) := by
          rw [← List.take_append_drop i R, List.map_append, ← List.append_assoc, List.nodup_append] at nd
          refine fun z => nd.2.2 _ z r.1 ?_ rfl
          refine List.mem_map.mpr ⟨r, ?_, rfl⟩
          refine List.mem_of_getElem? (i := 0) ?_
          rw [List.getElem?_drop]
          exact hr'
        refine ⟨.ref b, rfl, ix_x (i := 0) hb rfl ?_⟩
        refine ⟨.ref dN, rfl, dN, _, rfl, .inl (.inl (.inl gN)), rfl, flat_strs _, false, congrArg V.bl (inV_strs fresh), ?_⟩
        refine iteF ?_
        have nx : Same H (upd G1 dN (.lst ((T ++ (R.take i).map (·.1)).map V.str ++ [.str r.1]))) := same_on sm01 nNH _
        have kx : TK G1 (upd G1 dN (.lst ((T ++ (R.take i).map (·.1)).map V.str ++ [.str r.1]))) := TK.lst gN _
        refine ⟨.ref dN, rfl, .inl ⟨rfl, _, .inl (.inl gN)⟩, .ref b, rfl, ix_x (i := 0) hb rfl ?_⟩
        refine ⟨dN, _, .str r.1, rfl, rfl, gN, ?_, ?_⟩
        · rw [List.length_map, List.length_append, List.length_map, List.length_take, sizeLine_eq]
          omega
        have gN2 : (upd G1 dN (.lst ((T ++ (R.take i).map (·.1)).map V.str ++ [.str r.1]))) dN = some (.lst ((T ++ (R.take (i + 1)).map (·.1)).map V.str)) := by
          rw [upd_same, List.take_add_one, hr']
          simp
        have gT2 : (upd G1 dN (.lst ((T ++ (R.take i).map (·.1)).map V.str ++ [.str r.1]))) dT = some (.lst ts) := by rw [upd_ne dne.symm]; exact gT
        have hb2 : SqX K (upd G1 dN (.lst ((T ++ (R.take i).map (·.1)).map V.str ++ [.str r.1]))) b [.str r.1, .int (r.2.1 : Int), .int r.2.2] := by
          obtain ⟨b', eb, hb'⟩ := RowX.same nx _ _ rx
          cases eb
          exact hb'
        have fts2 := fts.mono (RowV.mono kx)
        generalize upd G1 dN (.lst ((T ++ (R.take i).map (·.1)).map V.str ++ [.str r.1])) = G2 at nx gN2 gT2 hb2 fts2
        have fin : ∀ (c : Addr) (G3 : Hp), Same G2 G3 → SqT K G3 c [.str r.1, .int (r.2.1 : Int), .int r.2.2] → ∃ l xs y, V.ref dT = .ref l ∧ [V.ref c] = [y] ∧ G3 l = some (.lst xs) ∧ xs.length < sizeLine ∧ Pv (i + 1) [some (.ref ra), some (.ref tk), some (.ref dN), some (.ref dT), some (.ref b)] (upd G3 l (.lst (xs ++ [y]))) := by
          intro c G3 sm3 hc
          refine ⟨dT, ts, .ref c, rfl, rfl, sm3 _ _ gT2, by rw [sizeLine_eq]; omega, some (.ref b), ts ++ [.ref c], rfl, same_on (H := H) (H' := G3) (fun b o e => sm3 _ _ (nx _ _ e)) nTH _, by rw [upd_ne dne]; exact sm3 _ _ gN2, upd_same, ?_⟩
          have k3 : TK G3 (upd G3 dT (.lst (ts ++ [.ref c]))) := TK.lst (sm3 _ _ gT2) _
          rw [List.take_add_one, hr']
          exact F2.app (fts2.mono (RowV.mono ((TK.same sm3).trans k3))) (F2.one ⟨c, rfl, k3.sq hc⟩)
        refine ⟨.ref dT, rfl, .inl ⟨rfl, _, .inl (.inl gT2)⟩, .ref b, rfl, b, [.str r.1, .int (r.2.1 : Int), .int r.2.2], rfl, ?_⟩
        rcases hb2 with hb2 | hb2
        · exact .inl ⟨hb2, fun c nc => fin c _ (same_new (fun b o e => e) nc _) (.inl (.inl upd_same))⟩
        · exact .inr ⟨hb2, fin b G2 (fun b o e => e) hb2⟩
      · rintro σ G ⟨v4, ts, rfl, sm, gN, gT, fts⟩
        rw [lx, List.take_length] at fts
        refine ⟨.ref dT, rfl, dT, ts, rfl, .inl ⟨.inl (.inl gT), fun p np => ?_⟩⟩
        have npH : H p = none := by
          cases z : H p with
          | none => rfl
          | some o =>
            rw [sm _ _ z] at np
            cases np
        have s4 : Same H (upd G p (.tup ts)) := same_new sm np _
        exact q _ p ts s4 npH (.inl (.inl upd_same)) (fts.mono (RowV.mono (TK.new np _)))
    · refine .inr ⟨xs, (TK.same s3).sq hx, for_tup (K := K) (a := ra) (xs := xs) Pv p0 (fun i σ G _ ⟨_, _, _, sm, _⟩ => (TK.same sm).sq hx) ?_ ?_⟩
      · rintro i x σ G hi ⟨v4, ts, rfl, sm, gN, gT, fts⟩
        obtain ⟨r, hr', rx⟩ := fx.get hi
        have rx1 := RowX.same sm _ _ rx
        obtain ⟨b, rfl, hb⟩ := rx1
        have ilt := (List.getElem?_eq_some_iff.mp hr').1
        have rin := List.mem_of_getElem? hr'
        have lt := fts.len
        rw [List.length_take] at lt
        refine ⟨.ref b, rfl, r, .ref b, rfl, ⟨b, rfl, hb⟩, wt r rin, fun G1 sm1 => ?_⟩
        replace gN := sm1 _ _ gN
        replace gT := sm1 _ _ gT
        replace hb := hb.same sm1
        replace fts := fts.mono (RowV.mono (TK.same sm1))
        have sm01 : Same H G1 := fun b o e => sm1 _ _ (sm _ _ e)
        clear sm sm1
        refine ⟨true, rfl, iteF ?_⟩
        have fresh : r.1 ∉ T ++ (R.take i).map (·.1) := by
          rw [← List.take_append_drop i R, List.map_append, ← List.append_assoc, List.nodup_append] at nd
          refine fun z => nd.2.2 _ z r.1 ?_ rfl
          refine List.mem_map.mpr ⟨r, ?_, rfl⟩
          refine List.mem_of_getElem? (i := 0) ?_
          rw [List.getElem?_drop]
          exact hr'
        refine ⟨.ref b, rfl, ix_x (i := 0) hb rfl ?_⟩
        refine ⟨.ref dN, rfl, dN, _, rfl, .inl (.inl (.inl gN)), rfl, flat_strs _, false, congrArg V.bl (inV_strs fresh), ?_⟩
        refine iteF ?_
        have nx : Same H (upd G1 dN (.lst ((T ++ (R.take i).map (·.1)).map V.str ++ [.str r.1]))) := same_on sm01 nNH _
        have kx : TK G1 (upd G1 dN (.lst ((T ++ (R.take i).map (·.1)).map V.str ++ [.str r.1]))) := TK.lst gN _
        refine ⟨.ref dN, rfl, .inl ⟨rfl, _, .inl (.inl gN)⟩, .ref b, rfl, ix_x (i := 0) hb rfl ?_⟩
        refine ⟨dN, _, .str r.1, rfl, rfl, gN, ?_, ?_⟩
        · rw [List.length_map, List.length_append, List.length_map, List.length_take, sizeLine_eq]
          omega
        have gN2 : (upd G1 dN (.lst ((T ++ (R.take i).map (·.1)).map V.str ++ [.str r.1]))) dN = some (.lst ((T ++ (R.take (i + 1)).map (·.1)).map V.str)) := by
          rw [upd_same, List.take_add_one, hr']
          simp
        have gT2 : (upd G1 dN (.lst ((T ++ (R.take i).map (·.1)).map V.str ++ [.str r.1]))) dT = some (.lst ts) := by rw [upd_ne dne.symm]; exact gT
        have hb2 : SqX K (upd G1 dN (.lst ((T ++ (R.take i).map (·.1)).map V.str ++ [.str r.1]))) b [.str r.1, .int (r.2.1 : Int), .int r.2.2] := by
          obtain ⟨b', eb, hb'⟩ := RowX.same nx _ _ rx
          cases eb
          exact hb'
        have fts2 := fts.mono (RowV.mono kx)
        generalize upd G1 dN (.lst ((T ++ (R.take i).map (·.1)).map V.str ++ [.str r.1])) = G2 at nx gN2 gT2 hb2 fts2
        have fin : ∀ (c : Addr) (G3 : Hp), Same G2 G3 → SqT K G3 c [.str r.1, .int (r.2.1 : Int), .int r.2.2] → ∃ l xs y, V.ref dT = .ref l ∧ [V.ref c] = [y] ∧ G3 l = some (.lst xs) ∧ xs.length < sizeLine ∧ Pv (i + 1) [some (.ref ra), some (.ref tk), some (.ref dN), some (.ref dT), some (.ref b)] (upd G3 l (.lst (xs ++ [y]))) := by
          intro c G3 sm3 hc
          refine ⟨dT, ts, .ref c, rfl, rfl, sm3 _ _ gT2, by rw [sizeLine_eq]; omega, some (.ref b), ts ++ [.ref c], rfl, same_on (H := H) (H' := G3) (fun b o e => sm3 _ _ (nx _ _ e)) nTH _, by rw [upd_ne dne]; exact sm3 _ _ gN2, upd_same, ?_⟩
          have k3 : TK G3 (upd G3 dT (.lst (ts ++ [.ref c]))) := TK.lst (sm3 _ _ gT2) _
          rw [List.take_add_one, hr']
          exact F2.app (fts2.mono (RowV.mono ((TK.same sm3).trans k3))) (F2.one ⟨c, rfl, k3.sq hc⟩)
        refine ⟨.ref dT, rfl, .inl ⟨rfl, _, .inl (.inl gT2)⟩, .ref b, rfl, b, [.str r.1, .int (r.2.1 : Int), .int r.2.2], rfl, ?_⟩
        rcases hb2 with hb2 | hb2
        · exact .inl ⟨hb2, fun c nc => fin c _ (same_new (fun b o e => e) nc _) (.inl (.inl upd_same))⟩
        · exact .inr ⟨hb2, fin b G2 (fun b o e => e) hb2⟩
      · rintro σ G ⟨v4, ts, rfl, sm, gN, gT, fts⟩
        rw [lx, List.take_length] at fts
        refine ⟨.ref dT, rfl, dT, ts, rfl, .inl ⟨.inl (.inl gT), fun p np => ?_⟩⟩
        have npH : H p = none := by
          cases z : H p with
          | none => rfl
          | some o =>
            rw [sm _ _ z] at np
            cases np
        have s4 : Same H (upd G p (.tup ts)) := same_new sm np _
        exact q _ p ts s4 npH (.inl (.inl upd_same)) (fts.mono (RowV.mono (TK.new np _)))
end
end Ad

namespace Ad
open PySem PySem.Spec PySem.Calls PyProof.Rows L2
abbrev sOInit : Stmt := inClass (topS 6) 0
theorem scOInit : FnScope ["self", "things", "truths", "things_read", "truths_read", "ranked", "name", "_", "weight", "place", "arity"] ["self", "things", "truths"] (defScope sOInit) := ⟨rfl, rfl, rfl, by decide +kernel, rfl, by decide +kernel, by decide +kernel⟩
section
variable {P : Program} {w : World} {K : PySem.W.Frag} {mg : Str → Option Value} {base : Heap}
def spOInit (K : PySem.W.Frag) (C : Addr) : Sp := fun vs H Q _ => ∃ (o ra sa dx : Addr) (R S : List Row) (xs ys : List V), vs = [.ref o, .ref ra, .ref sa] ∧ H o = some (.ins C dx []) ∧ SqX K H ra xs ∧ F2 (RowX K H) R xs ∧ SqX K H sa ys ∧ F2 (RowX K H) S ys ∧ OOk R S ∧
  ∀ H', Pn.But o H H' → OrdI K C H' o R S → Q .non H'
theorem ok_oinit {C f fT : Addr} {fd fdT : FuncData} {k : Nat} (F : Fun K "__init__" "Order.__init__" sOInit f fd) (GT : FnOk P w K mg base CX0 k fT fdT ["row", "taken"] (spTriples K)) (gT : mg "_triples_of" = some (.ref fT)) (kT : PySem.W.keepIn K (.ref fT) = true) (bT : Binds K fdT ["row", "taken"] [])
    (m_enumerate : mg "enumerate" = none) (cls : Cls K C) (na1 : NoAttr K C "things") (na2 : NoAttr K C "truths") (na3 : NoAttr K C "_weights") (na4 : NoAttr K C "_places") : FnOk P w K mg base CX0 (k + 1) f fd ["self", "things", "truths"] (spOInit K C) := by
  refine F.ok scOInit (fun vs H Q E h => ?_) (fun cdv A outer s H vs Q E hr h => ?_)
  · obtain ⟨o, ra, sa, dx, R, S, xs, ys, rfl, _⟩ := h
    rfl
  · obtain ⟨o, ra, sa, dx, R, S, xs, ys, rfl, ho, hx, fx, hy, fy, ok, q⟩ := h
    refine' ⟨_, pss_cons ?s1 (pss_cons ?s2 (pss_cons ?s3 (pss_cons ?s4 (pss_cons ?s5 (pss_cons ?s6 (pss_cons ?s7 (pss_cons ?s8 (pss_one ?s9)))))))), ?_⟩
    case s1 => exact (ps_set (i := 3) scOInit.nd rfl (.inl rfl) (pe_call GT hr (by rfl) gT kT bT .nil pass0 (pa_cons (pv 1) (pa_cons (pe_lst (pa_cons pe_str pa_nil)) pa_nil))))
    case s2 => exact (ps_if (PW.pt (pw_or (pt_cmpR op_isN (pv 3) pe_non (nomark _)) (pw_or1 (pt_cmpR op_notIn_seq pe_int (pe_lc (own := [("_", 7), ("arity", 10)]) (g := gTup K 3 (gCons (gName 7) (gCons (gName 10) (gCons (gName 7) gNil)))) (tt := tYes) (te := tVar 10) rfl scOInit.nd (pi_tup (pv 3)) (blkOk_by (N := ["self", "things", "truths", "things_read", "truths_read", "ranked", "name", "_", "weight", "place", "arity"]) (sc := defScope sOInit) (by decide +kernel)) (fun _ _ _ _ _ => (pg_tup rfl (pgs_cons (pg_name (i := 7) scOInit.nd rfl (.inl rfl)) (pgs_cons (pg_name (i := 10) scOInit.nd rfl (.inl rfl)) (pgs_cons (pg_name (i := 7) scOInit.nd rfl (.inl rfl)) pgs_nil))))) (fun _ _ _ _ _ => pts_nil) (fun _ _ _ _ _ => (pv 10))) (by with_unfolding_all rfl)))))
      (pss_one ps_never) pss_nil)
    case s3 => exact (ps_set (i := 4) scOInit.nd rfl (.inl rfl) (pe_call GT hr (by rfl) gT kT bT .nil pass0 (pa_cons (pv 2) (pa_cons (pe_op op_cat (pe_lst (pa_cons pe_str pa_nil)) (pe_lc (own := [("name", 6), ("_", 7)]) (g := gTup K 3 (gCons (gName 6) (gCons (gName 7) (gCons (gName 7) gNil)))) (tt := tYes) (te := tVar 6) rfl scOInit.nd (pi_tup (pv 3)) (blkOk_by (N := ["self", "things", "truths", "things_read", "truths_read", "ranked", "name", "_", "weight", "place", "arity"]) (sc := defScope sOInit) (by decide +kernel)) (fun _ _ _ _ _ => (pg_tup rfl (pgs_cons (pg_name (i := 6) scOInit.nd rfl (.inl rfl)) (pgs_cons (pg_name (i := 7) scOInit.nd rfl (.inl rfl)) (pgs_cons (pg_name (i := 7) scOInit.nd rfl (.inl rfl)) pgs_nil))))) (fun _ _ _ _ _ => pts_nil) (fun _ _ _ _ _ => (pv 6)))) pa_nil))))
    case s4 => exact (ps_if (pt_cmpR op_isN (pv 4) pe_non (nomark _))
      (pss_one ps_never) pss_nil)
    case s5 => exact (ps_fld (pv 0) (pv 3) rfl)
    case s6 => exact (ps_fld (pv 0) (pv 4) rfl)
    case s7 => exact (ps_set (i := 5) scOInit.nd rfl (.inl rfl) (pe_op (r := rCatT K) op_catT (pe_op (r := rCatT K) op_catT (pe_tup (pa_cons (pe_tup (pa_cons pe_str (pa_cons pe_int (pa_cons pe_int pa_nil)))) pa_nil)) (pv 3)) (pv 4)))
    case s8 => exact (ps_fld (pv 0) (pe_dc (own := [("name", 6), ("_", 7), ("weight", 8)]) (g := gTup K 3 (gCons (gName 6) (gCons (gName 7) (gCons (gName 8) gNil)))) (tt := tYes) (tk := tVar 6) (tv := tVar 8) rfl scOInit.nd (pi_tup (pv 5)) (blkOk_by (N := ["self", "things", "truths", "things_read", "truths_read", "ranked", "name", "_", "weight", "place", "arity"]) (sc := defScope sOInit) (by decide +kernel)) (fun _ _ _ _ _ => (pg_tup rfl (pgs_cons (pg_name (i := 6) scOInit.nd rfl (.inl rfl)) (pgs_cons (pg_name (i := 7) scOInit.nd rfl (.inl rfl)) (pgs_cons (pg_name (i := 8) scOInit.nd rfl (.inl rfl)) pgs_nil))))) (fun _ _ _ _ _ => pts_nil) (fun _ _ _ _ _ => (pv 6)) (fun _ _ _ _ _ => (pv 8))) rfl)
    case s9 => exact (ps_fld (pv 0) (pe_dc (own := [("place", 9), ("name", 6), ("_", 7)]) (g := gTup K 2 (gCons (gName 9) (gCons (gTup K 3 (gCons (gName 6) (gCons (gName 7) (gCons (gName 7) gNil)))) gNil))) (tt := tYes) (tk := tVar 6) (tv := tVar 9) rfl scOInit.nd (Et.pi_enumT (by rfl) m_enumerate (pa_cons (pv 5) pa_nil)) (blkOk_by (N := ["self", "things", "truths", "things_read", "truths_read", "ranked", "name", "_", "weight", "place", "arity"]) (sc := defScope sOInit) (by decide +kernel)) (fun _ _ _ _ _ => (pg_tup rfl (pgs_cons (pg_name (i := 9) scOInit.nd rfl (.inl rfl)) (pgs_cons (pg_tup rfl (pgs_cons (pg_name (i := 6) scOInit.nd rfl (.inl rfl)) (pgs_cons (pg_name (i := 7) scOInit.nd rfl (.inl rfl)) (pgs_cons (pg_name (i := 7) scOInit.nd rfl (.inl rfl)) pgs_nil)))) pgs_nil)))) (fun _ _ _ _ _ => pts_nil) (fun _ _ _ _ _ => (pv 6)) (fun _ _ _ _ _ => (pv 9))) rfl)
    have lx := fx.len
    have ly := fy.len
    have few := ok.few
    have ndr : (("yes" : Str) :: (R ++ S).map (·.1)).Nodup := ok.nd
    have ndR : ((["yes"] : List Str) ++ R.map (·.1)).Nodup := by
      rw [List.map_append] at ndr
      exact ndr.sublist (List.Sublist.cons₂ _ (List.sublist_append_left _ _))
    have ndS : ((("yes" : Str) :: R.map (·.1)) ++ S.map (·.1)).Nodup := by
      rw [List.map_append] at ndr
      exact ndr
    refine ⟨.ref ra, rfl, (by show 1 ≤ sizeLine; decide), fun l1 n1 => ?_⟩
    have s1 : Same H (upd H l1 (.lst [.str "yes"])) := same_new (fun b o e => e) n1 _
    have m1 : (upd H l1 (.lst [.str "yes"])) l1 = some (.lst [.str "yes"]) := upd_same
    generalize upd H l1 (.lst [.str "yes"]) = H1 at s1 m1
    refine ⟨ra, l1, R, [("yes" : Str)], xs, rfl, hx.same s1, fx.mono (RowX.same s1), m1, ndR, fun r hr => ok.wt r (List.mem_append_left _ hr), by show 1 + R.length ≤ 1000; omega, fun H2 p1 vs1 s2 np1 sq1 f1 => ?_⟩
    have s02 : Same H H2 := fun b o e => s2 _ _ (s1 _ _ e)
    have l1s := f1.len
    clear s1 s2 m1 np1
    refine ⟨.ref p1, rfl, rfl, false, congrArg V.bl (decide_eq_false (fun z => nomatch z)), iteF ?_⟩
    refine ⟨.ref p1, rfl, p1, rfl, ⟨_, sq1⟩, fun D nD => lc_tup (K := K) (a := p1) (xs := vs1) (fun i G => ∃ acc, Same H2 G ∧ G D = some (.lst acc) ∧ acc = (R.take i).map (fun r => V.int (r.2.1 : Int))) ⟨[], same_new (fun b o e => e) nD _, upd_same, rfl⟩ (fun i G _ ⟨_, sm, _⟩ => (TK.same sm).sq sq1) ?_ ?_⟩
    · rintro i x G hi ⟨acc, sm, gD, rfl⟩
      obtain ⟨r, hr', ⟨b, rfl, hb⟩⟩ := f1.get hi
      have ilt := (List.getElem?_eq_some_iff.mp hr').1
      refine ⟨b, _, rfl, (TK.same sm).sq hb, rfl, _, _, rfl, _, _, rfl, _, _, rfl, rfl, rfl, _, rfl, _, gD, ?_, _, same_on sm nD _, upd_same, ?_⟩
      · rw [List.length_map, List.length_take, sizeLine_eq]
        omega
      · rw [take_next hr', List.map_append]
        rfl
    rintro G ⟨acc, sm, gD, rfl⟩
    have fl : ((R.take vs1.length).map fun r => V.int (r.2.1 : Int)).all flatV = true := by
      rw [List.all_eq_true]
      intro y hy
      obtain ⟨r, _, rfl⟩ := List.mem_map.mp hy
      rfl
    have here : inV (.int 0) ((R.take vs1.length).map fun r => V.int (r.2.1 : Int)) = true := by
      obtain ⟨r, hr', r0⟩ := ok.const
      rw [l1s, List.take_length]
      exact inV_here (List.mem_map.mpr ⟨r, hr', by rw [r0]; rfl⟩) rfl
    refine ⟨D, _, rfl, .inl (.inl (.inl gD)), rfl, fl, false, congrArg (fun z => V.bl (!z)) here, iteF ?_⟩
    have s03 : Same H G := fun b o e => sm _ _ (s02 _ _ e)
    have sq1' := (TK.same sm).sq sq1
    have f1' := f1.mono (RowV.mono (TK.same sm))
    clear sq1 f1 fl here gD sm s02 nD
    clear lx
    refine ⟨.ref sa, rfl, (by show 1 ≤ sizeLine; decide), fun l2 n2 => ?_⟩
    have s4 : Same G (upd G l2 (.lst [.str "yes"])) := same_new (fun b o e => e) n2 _
    have m2 : (upd G l2 (.lst [.str "yes"])) l2 = some (.lst [.str "yes"]) := upd_same
    generalize upd G l2 (.lst [.str "yes"]) = G1 at s4 m2
    have sq1 := (TK.same s4).sq sq1'
    have f1 := f1'.mono (RowV.mono (TK.same s4))
    refine ⟨.ref p1, rfl, p1, rfl, ⟨_, sq1⟩, fun D2 nD2 => lc_tup (K := K) (a := p1) (xs := vs1) (fun i G => ∃ acc, Same G1 G ∧ G D2 = some (.lst acc) ∧ acc = ((R.take i).map (·.1)).map V.str) ⟨[], same_new (fun b o e => e) nD2 _, upd_same, rfl⟩ (fun i G _ ⟨_, sm, _⟩ => (TK.same sm).sq sq1) ?_ ?_⟩
    · rintro i x G hi ⟨acc, sm, gD, rfl⟩
      obtain ⟨r, hr', ⟨b, rfl, hb⟩⟩ := f1.get hi
      have ilt := (List.getElem?_eq_some_iff.mp hr').1
      refine ⟨b, _, rfl, (TK.same sm).sq hb, rfl, _, _, rfl, _, _, rfl, _, _, rfl, rfl, rfl, _, rfl, _, gD, ?_, _, same_on sm nD2 _, upd_same, ?_⟩
      · rw [List.length_map, List.length_map, List.length_take, sizeLine_eq]
        omega
      · rw [take_next hr', List.map_append, List.map_append]
        rfl
    rintro G2 ⟨acc, sm, gD, rfl⟩
    rw [l1s, List.take_length] at gD
    refine ⟨l2, D2, _, _, rfl, rfl, sm _ _ m2, gD, ?_, fun l3 n3 => ?_⟩
    · rw [List.length_map, List.length_map, List.length_singleton, sizeLine_eq]
      omega
    have sH2 : Same H G2 := fun b o e => sm _ _ (s4 _ _ (s03 _ _ e))
    have s5 : Same G2 (upd G2 l3 (.lst ([.str "yes"] ++ (R.map (·.1)).map V.str))) := same_new (fun b o e => e) n3 _
    have m3 : (upd G2 l3 (.lst ([.str "yes"] ++ (R.map (·.1)).map V.str))) l3 = some (.lst ((("yes" : Str) :: R.map (·.1)).map V.str)) := upd_same
    generalize upd G2 l3 (.lst ([.str "yes"] ++ (R.map (·.1)).map V.str)) = G3 at s5 m3
    have sH3 : Same H G3 := fun b o e => s5 _ _ (sH2 _ _ e)
    have s13 : Same G1 G3 := fun b o e => s5 _ _ (sm _ _ e)
    refine ⟨sa, l3, S, ("yes" : Str) :: R.map (·.1), ys, rfl, hy.same sH3, fy.mono (RowX.same sH3), m3, ndS, fun r hr => ok.wt r (List.mem_append_right _ hr), by rw [List.length_cons, List.length_map]; omega, fun G4 p2 vs2 s6 np2 sq2 f2 => ?_⟩
    have sH4 : Same H G4 := fun b o e => s6 _ _ (sH3 _ _ e)
    have s14 : Same G1 G4 := fun b o e => s6 _ _ (s13 _ _ e)
    have l2s := f2.len
    replace sq1 := (TK.same s14).sq sq1
    replace f1 := f1.mono (RowV.mono (TK.same s14))
    replace ho := sH4 _ _ ho
    clear sq1' f1' s03 s4 m2 n2 nD2 sm gD n3 s5 m3 s13 sH2 sH3 s6 np2 s14 hx fx hy fy ndR ndS ly n1
    refine ⟨.ref p2, rfl, rfl, false, congrArg V.bl (decide_eq_false (fun z => nomatch z)), iteF ?_⟩
    have b4 : Pn.But o H G4 := Pn.But.of sH4
    clear sH4
    refine ⟨.ref p1, rfl, .ref o, rfl, o, C, dx, _, rfl, ho, cls, na1, (by show 0 < 1000; omega), ?_⟩
    have k5 := TK.ins ho (.ins C dx (putF "things" (.ref p1) []))
    have ho5 : (upd G4 o (.ins C dx (putF "things" (.ref p1) []))) o = some (.ins C dx (putF "things" (.ref p1) [])) := upd_same
    have b5 := b4.trans (Pn.But.upd G4 (.ins C dx (putF "things" (.ref p1) [])))
    generalize upd G4 o (.ins C dx (putF "things" (.ref p1) [])) = G5 at k5 ho5 b5
    refine ⟨.ref p2, rfl, .ref o, rfl, o, C, dx, _, rfl, ho5, cls, na2, (by show 1 < 1000; omega), ?_⟩
    have k6 := k5.trans (TK.ins ho5 (.ins C dx (putF "truths" (.ref p2) (putF "things" (.ref p1) []))))
    have ho6 : (upd G5 o (.ins C dx (putF "truths" (.ref p2) (putF "things" (.ref p1) [])))) o = some (.ins C dx (putF "truths" (.ref p2) (putF "things" (.ref p1) []))) := upd_same
    have b6 := b5.trans (Pn.But.upd G5 (.ins C dx (putF "truths" (.ref p2) (putF "things" (.ref p1) []))))
    generalize upd G5 o (.ins C dx (putF "truths" (.ref p2) (putF "things" (.ref p1) []))) = G6 at k6 ho6 b6
    replace sq1 := k6.sq sq1
    replace sq2 := k6.sq sq2
    replace f1 := f1.mono (RowV.mono k6)
    replace f2 := f2.mono (RowV.mono k6)
    clear k5 ho5 b5 ho b4 k6
    refine ⟨(by show 3 ≤ sizeLine; decide), fun y ny => ⟨(by show 1 ≤ sizeLine; decide), fun z nz => ⟨.ref p1, rfl, ?_⟩⟩⟩
    have s7 : Same G6 (upd G6 y (.tup [.str "yes", .int 0, .int 1])) := same_new (fun b o e => e) ny _
    have e7 : (upd G6 y (.tup [.str "yes", .int 0, .int 1])) y = some (.tup [.str "yes", .int 0, .int 1]) := upd_same
    generalize upd G6 y (.tup [.str "yes", .int 0, .int 1]) = G7 at s7 e7 nz
    have s8 : Same G7 (upd G7 z (.tup [.ref y])) := same_new (fun b o e => e) nz _
    have e8 : (upd G7 z (.tup [.ref y])) z = some (.tup [.ref y]) := upd_same
    replace e7 := s8 _ _ e7
    generalize upd G7 z (.tup [.ref y]) = G8 at s8 e8 e7
    have s68 : Same G6 G8 := fun b o e => s8 _ _ (s7 _ _ e)
    clear s7 s8 ny nz
    refine catT (xs := [.ref y]) (ys := vs1) (.inl (.inl e8)) ((TK.same s68).sq sq1) (by simp) (by rw [List.length_singleton, sizeLine_eq]; omega) fun c1 G9 s9 hc1 => ?_
    have s69 : Same G6 G9 := fun b o e => s9 _ _ (s68 _ _ e)
    replace e7 := s9 _ _ e7
    clear s68 s9 e8
    refine ⟨.ref p2, rfl, catT hc1 ((TK.same s69).sq sq2) (by simp) (by rw [List.length_append, List.length_singleton, sizeLine_eq]; omega) fun c2 GA sA hc2 => ?_⟩
    have s6A : Same G6 GA := fun b o e => sA _ _ (s69 _ _ e)
    replace e7 := sA _ _ e7
    replace sq1 := (TK.same s6A).sq sq1
    replace sq2 := (TK.same s6A).sq sq2
    replace f1 := f1.mono (RowV.mono (TK.same s6A))
    replace f2 := f2.mono (RowV.mono (TK.same s6A))
    have hoA := s6A _ _ ho6
    have bA := b6.trans (Pn.But.of s6A)
    clear s69 sA s6A hc1 ho6 b6
    have fr : F2 (RowV K GA) (ranked R S) (([.ref y] ++ vs1) ++ vs2) := by
      rw [List.append_assoc]
      exact F2.app (xs := [(("yes" : Str), 0, 1)]) (F2.one ⟨y, rfl, .inl (.inl e7)⟩) (F2.app f1 f2)
    have nd : ((ranked R S).map (·.1)).Nodup := ok.nd
    have lr : (ranked R S).length ≤ 200 := by
      show (R ++ S).length + 1 ≤ 200
      rw [List.length_append]
      omega
    generalize erk : ranked R S = rk at fr nd lr
    clear e7
    generalize ([V.ref y] ++ vs1) ++ vs2 = vr at fr hc2
    have lf := fr.len
    refine ⟨.ref c2, rfl, c2, rfl, ⟨_, hc2⟩, fun D nD => dc_tup (K := K) (a := c2) (xs := vr) (fun i G => Same GA G ∧ G D = some (.dK (wK (rk.take i)))) ⟨same_new (fun b o e => e) nD _, upd_same⟩ (fun i G _ ⟨sm, _⟩ => (TK.same sm).sq hc2) ?_ ?_⟩
    · rintro i x G hi ⟨sm, gD⟩
      obtain ⟨r, hr', ⟨b, rfl, hb⟩⟩ := fr.get hi
      have ilt := (List.getElem?_eq_some_iff.mp hr').1
      refine ⟨b, _, rfl, (TK.same sm).sq hb, rfl, _, _, rfl, _, _, rfl, _, _, rfl, rfl, rfl, _, rfl, _, rfl, _, .inr r.1, rfl, gD, ?_, same_on sm nD _, ?_⟩
      · rw [wK_len, List.length_take, sizeLine_eq]
        omega
      · rw [upd_same, wK_put (take_fresh nd hr'), take_next hr']
    rintro GB ⟨sB, gW⟩
    rw [lf, List.take_length] at gW
    replace hoA := sB _ _ hoA
    refine ⟨.ref o, rfl, o, C, dx, _, rfl, hoA, cls, na3, (by show 2 < 1000; omega), ?_⟩
    have kB := (TK.same sB).trans (TK.ins hoA (.ins C dx (putF "_weights" (.ref D) (putF "truths" (.ref p2) (putF "things" (.ref p1) [])))))
    have hoB : (upd GB o (.ins C dx (putF "_weights" (.ref D) (putF "truths" (.ref p2) (putF "things" (.ref p1) []))))) o = some (.ins C dx (putF "_weights" (.ref D) (putF "truths" (.ref p2) (putF "things" (.ref p1) [])))) := upd_same
    have bB := (bA.trans (Pn.But.of sB)).trans (Pn.But.upd GB (.ins C dx (putF "_weights" (.ref D) (putF "truths" (.ref p2) (putF "things" (.ref p1) [])))))
    have oD : D ≠ o := fun e => by
      rw [e, hoA] at gW
      cases gW
    have gW2 : (upd GB o (.ins C dx (putF "_weights" (.ref D) (putF "truths" (.ref p2) (putF "things" (.ref p1) []))))) D = some (.dK (wK rk)) := by rw [upd_ne oD]; exact gW
    generalize upd GB o (.ins C dx (putF "_weights" (.ref D) (putF "truths" (.ref p2) (putF "things" (.ref p1) [])))) = GC at kB hoB bB gW2
    replace sq1 := kB.sq sq1
    replace sq2 := kB.sq sq2
    replace f1 := f1.mono (RowV.mono kB)
    replace f2 := f2.mono (RowV.mono kB)
    replace fr := fr.mono (RowV.mono kB)
    replace hc2 := kB.sq hc2
    clear kB gW hoA sB nD bA
    refine ⟨.ref c2, rfl, c2, _, rfl, hc2, fun D2 nD2 => dc_enumT (K := K) (a := c2) (xs := vr) (fun i G => Same GC G ∧ G D2 = some (.dK (pK 0 (rk.take i)))) ⟨same_new (fun b o e => e) nD2 _, upd_same⟩ (fun i G _ ⟨sm, _⟩ => (TK.same sm).sq hc2) ?_ ?_⟩
    · rintro i x T G hi ⟨sm, gD⟩ nT
      obtain ⟨r, hr', ⟨b, rfl, hb⟩⟩ := fr.get hi
      have ilt := (List.getElem?_eq_some_iff.mp hr').1
      have smT : Same GC (upd G T (.tup [.int (i : Nat), .ref b])) := same_new sm nT _
      have DT : D2 ≠ T := fun e => by
        rw [← e, gD] at nT
        cases nT
      refine ⟨T, _, rfl, .inl (.inl upd_same), rfl, _, _, rfl, _, _, rfl, ⟨b, _, rfl, (TK.same smT).sq hb, rfl, _, _, rfl, _, _, rfl, _, _, rfl, rfl, rfl, rfl, _, rfl, _, rfl, _, .inr r.1, rfl, by rw [upd_ne DT]; exact gD, ?_, same_on smT nD2 _, ?_⟩⟩
      · rw [pK_len, List.length_take, sizeLine_eq]
        omega
      · have e : (i : Int) = ((rk.take i).length : Int) := by rw [List.length_take]; omega
        rw [upd_same, e, pK_put (take_fresh nd hr'), take_next hr']
    rintro GD ⟨sD, gP⟩
    rw [lf, List.take_length] at gP
    replace hoB := sD _ _ hoB
    refine ⟨.ref o, rfl, o, C, dx, _, rfl, hoB, cls, na4, (by show 3 < 1000; omega), ?_⟩
    have kD := (TK.same sD).trans (TK.ins hoB (.ins C dx (ordF p1 p2 D D2)))
    have oD2 : D2 ≠ o := fun e => by
      rw [e, hoB] at gP
      cases gP
    refine q _ ((bB.trans (Pn.But.of sD)).trans (Pn.But.upd GD _)) ⟨⟨dx, p1, p2, D, D2, vs1, vs2, upd_same, kD.sq sq1, f1.mono (RowV.mono kD), kD.sq sq2, f2.mono (RowV.mono kD), ?_, ?_⟩⟩
    · rw [upd_ne oD, erk]
      exact sD _ _ gW2
    · rw [upd_ne oD2, erk]
      exact gP
end
end Ad

namespace Ad
open PySem PySem.Spec PySem.Calls PyProof.Rows L2
abbrev sLRanks : Stmt := topS 21
theorem scLRanks : FnScope ["_law_rows", "_law_found", "_law_name", "_law_arity", "_law_weight_here"] ["_law_rows"] (defScope sLRanks) := ⟨rfl, rfl, rfl, by decide +kernel, rfl, by decide +kernel, by decide +kernel⟩
theorem merge_yes (v : V) : mergeK [] [((.inr ("yes" : Str) : L2.Key), v)] = [(.inr "yes", v)] := rfl
section
variable {P : Program} {w : World} {K : PySem.W.Frag} {mg : Str → Option Value} {base : Heap}
def spLRanks (K : PySem.W.Frag) : Sp := fun vs H Q _ => ∃ (ra : Addr) (R S : List Row), vs = [.ref ra] ∧ OrdAt K H ra R S ∧ OOk R S ∧ ∀ H' d, Same H H' → H d = none → RkD K H' d (ranked R S) → Q (.ref d) H'
theorem ok_lranks {f : Addr} {fd : FuncData} {k : Nat} (F : Fun K "_law_ranks" "_law_ranks" sLRanks f fd) (m_len : mg "len" = none) : FnOk P w K mg base CX0 (k + 1) f fd ["_law_rows"] (spLRanks K) := by
  refine F.ok scLRanks (fun vs H Q E h => ?_) (fun cdv A outer s H vs Q E hr h => ?_)
  · obtain ⟨ra, R, S, rfl, _⟩ := h
    rfl
  · obtain ⟨ra, R, S, rfl, hO, ok, q⟩ := h
    refine ⟨_, (pss_cons (ps_set (i := 1) scLRanks.nd rfl (.inl rfl) (pe_disp (pps_cons pe_str (pe_tup (pa_cons pe_int (pa_cons pe_int (pa_cons pe_int pa_nil)))) pps_nil) (by rfl) (by rfl) (fun z => by cases z) (by decide)))
    (pss_cons (ps_for PassesOwn.never rfl (pi_tup (pe_op (r := rCatT K) op_catT (pe_ix ix_tup (pv 0) pe_int (fun _ _ => rfl)) (pe_ix ix_tup (pv 0) pe_int (fun _ _ => rfl)))) (pg_tup rfl (pgs_cons (pg_name (i := 2) scLRanks.nd rfl (.inl rfl)) (pgs_cons (pg_name (i := 3) scLRanks.nd rfl (.inl rfl)) (pgs_cons (pg_name (i := 4) scLRanks.nd rfl (.inl rfl)) pgs_nil))))
      (pss_one (ps_dput (hu1 hr) (pv 1) (pv 2) (pe_tup (pa_cons (pe_callB call_lenD (by rfl) m_len PySem.boot_len (pa_cons (pv 1) pa_nil)) (pa_cons (pv 3) (pa_cons (pv 4) pa_nil)))) rfl)))
    (pss_one (ps_ret (pv 1))))), ?_⟩
    intro d nd0
    refine ⟨(by show 3 ≤ sizeLine; decide), fun y ny => ?_⟩
    have dy : d ≠ y := fun e => by
      rw [← e, upd_same] at ny
      cases ny
    have ny0 : H y = none := by rw [upd_ne dy.symm] at ny; exact ny
    refine ⟨by rw [upd_ne dy, upd_same], [((.inr ("yes" : Str) : L2.Key), .ref y)], rfl, (by show 1 ≤ 15; decide), ?_⟩
    rw [merge_yes]
    have s0 : Same H (upd (upd (upd H d (.dK [])) y (.tup [.int 0, .int 0, .int 1])) d (.dK [(.inr "yes", .ref y)])) := same_on (same_on (same_on (fun b o e => e) nd0 _) ny0 _) nd0 _
    have m0 : (upd (upd (upd H d (.dK [])) y (.tup [.int 0, .int 0, .int 1])) d (.dK [(.inr "yes", .ref y)])) d = some (.dK [(.inr "yes", .ref y)]) := upd_same
    have my : (upd (upd (upd H d (.dK [])) y (.tup [.int 0, .int 0, .int 1])) d (.dK [(.inr "yes", .ref y)])) y = some (.tup [.int 0, .int 0, .int 1]) := by rw [upd_ne dy.symm, upd_same]
    generalize upd (upd (upd H d (.dK [])) y (.tup [.int 0, .int 0, .int 1])) d (.dK [(.inr "yes", .ref y)]) = H1 at s0 m0 my
    obtain ⟨b1, b2, vs1, vs2, sq0, sq1, sq2, f1, f2⟩ := hO.mono (TK.same s0)
    have l1 := f1.len
    have l2 := f2.len
    have few := ok.few
    have ne1 : vs1 ≠ [] := fun e => by
      obtain ⟨r, hr', _⟩ := ok.const
      rw [e] at l1
      rw [List.length_eq_zero_iff.mp l1.symm] at hr'
      cases hr'
    refine ⟨.ref ra, rfl, ra, _, 0, .ref b1, rfl, rfl, sq0, atI_nat (j := 0) rfl, .ref ra, rfl, ra, _, 1, .ref b2, rfl, rfl, sq0, atI_nat (j := 1) rfl, catT sq1 sq2 ne1 (by rw [sizeLine_eq]; omega) fun c G sc hc => ?_⟩
    have sG := fun b o (e : H b = some o) => sc _ _ (s0 _ _ e)
    have fr : F2 (RowV K G) (R ++ S) (vs1 ++ vs2) := F2.app (f1.mono (RowV.mono (TK.same sc))) (f2.mono (RowV.mono (TK.same sc)))
    have m1 := sc _ _ m0
    have my1 := sc _ _ my
    have nd : ((ranked R S).map (·.1)).Nodup := ok.nd
    have lf := fr.len
    have lr : (ranked R S).length = (R ++ S).length + 1 := rfl
    have la : (R ++ S).length ≤ 100 := by rw [List.length_append]; omega
    refine ⟨c, rfl, ⟨_, hc⟩, for_tup (K := K) (a := c) (xs := vs1 ++ vs2) (fun i σ G' => ∃ (v2 v3 v4 : Option V) (kvs : List (L2.Key × V)), σ = [some (.ref ra), some (.ref d), v2, v3, v4] ∧ Same H G' ∧ TK G G' ∧ G' d = some (.dK kvs) ∧ RkL K G' 0 ((ranked R S).take (i + 1)) kvs)
      ⟨none, none, none, _, rfl, sG, TK.refl _, m1, ⟨y, [], rfl, .inl (.inl my1), rfl⟩⟩ (fun i σ G' _ ⟨_, _, _, _, _, _, k, _⟩ => k.sq hc) ?_ ?_⟩
    · rintro i x σ G' hi ⟨v2, v3, v4, kvs, rfl, sm, tk, gd, rl⟩
      obtain ⟨r, hr', ⟨b, rfl, hb⟩⟩ := fr.get hi
      have ilt := (List.getElem?_eq_some_iff.mp hr').1
      have hn : (ranked R S)[i + 1]? = some r := hr'
      have lk := rl.len
      rw [List.length_take, lr] at lk
      refine ⟨b, _, rfl, tk.sq hb, rfl, _, _, rfl, _, _, rfl, _, _, rfl, rfl, ?_⟩
      refine ⟨.ref d, rfl, d, kvs, rfl, gd, _, rfl, _, rfl, (by show 3 ≤ sizeLine; decide), fun z nz => ?_⟩
      have k1 : TK G' (upd G' z (.tup [.int kvs.length, .int (r.2.1 : Int), .int r.2.2])) := TK.new nz _
      have s1 : Same H (upd G' z (.tup [.int kvs.length, .int (r.2.1 : Int), .int r.2.2])) := same_new sm nz _
      have dz : d ≠ z := ne_of_none gd nz
      have g1 : (upd G' z (.tup [.int kvs.length, .int (r.2.1 : Int), .int r.2.2])) d = some (.dK kvs) := by rw [upd_ne dz]; exact gd
      have mz : (upd G' z (.tup [.int kvs.length, .int (r.2.1 : Int), .int r.2.2])) z = some (.tup [.int kvs.length, .int (r.2.1 : Int), .int r.2.2]) := upd_same
      generalize upd G' z (.tup [.int kvs.length, .int (r.2.1 : Int), .int r.2.2]) = G1 at k1 s1 g1 mz
      refine ⟨.ref d, rfl, .str r.1, rfl, d, _, rfl, DPut.k (k := Sum.inr r.1) g1 (by rw [sizeLine_eq]; omega), ?_⟩
      have k2 : TK G1 (upd G1 d (.dK (putK kvs (.inr r.1) (.ref z)))) := dk_tk g1 _
      have fresh : valV kvs (.inr r.1) = none := valV_out fun m => by
        rw [rl.keys] at m
        obtain ⟨q', hq', e⟩ := List.mem_map.mp m
        exact take_fresh nd hn (List.mem_map.mpr ⟨q', hq', Sum.inr.inj e⟩)
      refine ⟨_, _, _, kvs ++ [(.inr r.1, .ref z)], rfl, same_on s1 nd0 _, (tk.trans k1).trans k2, by rw [upd_same, putK_new _ fresh], ?_⟩
      rw [take_next hn]
      refine (rl.mono (k1.trans k2)).snoc ?_
      have e : (0 + ((ranked R S).take (i + 1)).length : Nat) = kvs.length := by rw [List.length_take, lr, Nat.zero_add]; omega
      rw [e]
      exact k2.sq (.inl (.inl mz))
    · rintro σ G' ⟨v2, v3, v4, kvs, rfl, sm, tk, gd, rl⟩
      rw [lf, ← lr, List.take_length] at rl
      exact ⟨.ref d, rfl, q G' d sm nd0 ⟨kvs, gd, rl⟩⟩
end
end Ad

namespace Ad
open PySem PySem.Spec PySem.Calls PyProof.Rows L2 RZ
abbrev sLWord : Stmt := topS 34
theorem scLWord : FnScope ["_law_ranks_here", "_law_one", "_law_two"] ["_law_ranks_here", "_law_one", "_law_two"] (defScope sLWord) := ⟨rfl, rfl, rfl, by decide +kernel, rfl, by decide +kernel, by decide +kernel⟩
section
variable {P : Program} {w : World} {K : PySem.W.Frag} {mg : Str → Option Value} {base : Heap}
def spLWord (K : PySem.W.Frag) : Sp := fun vs H Q _ => ∃ (d : Addr) (rk : List Row) (s t : T) (x y : V), vs = [.ref d, x, y] ∧ Two2 K H d rk s t x y ∧
  ∀ H', Same H H' → Q (Kb.word (Kb.wOf rk) (Kb.pOf rk) s t) H'
theorem Two2.swap {H : Hp} {d : Addr} {rk : List Row} {s t : T} {x y : V} (h : Two2 K H d rk s t x y) : Two2 K H d rk t s y x :=
  ⟨h.rks, h.nd, h.one, h.ht, h.hs, h.wt, h.ws, h.nt, h.ns, h.dt, h.ds, h.zt, h.zs⟩
theorem ok_lword {f fA : Addr} {fd fdA : FuncData} {k : Nat} (F : Fun K "_law_word" "_law_word" sLWord f fd)
    (GA : FnOk P w K mg base CX0 k fA fdA ["_law_ranks_here", "_law_one", "_law_two"] (spLAbove K 61)) (gA : mg "_law_above" = some (.ref fA)) (kA : PySem.W.keepIn K (.ref fA) = true) (bA : Binds K fdA ["_law_ranks_here", "_law_one", "_law_two"] []) : FnOk P w K mg base CX0 (k + 1) f fd ["_law_ranks_here", "_law_one", "_law_two"] (spLWord K) := by
  refine F.ok scLWord (fun vs H Q E h => ?_) (fun cdv A outer s H vs Q E hr h => ?_)
  · obtain ⟨d, rk, s, t, x, y, rfl, _⟩ := h
    rfl
  · obtain ⟨d, rk, t, u, x, y, rfl, two, q⟩ := h
    have hu := hu64 hr
    refine ⟨_, (pss_cons (ps_if (pt_cmpR (op_eqD hu) (pv 1) (pv 2) (nomark _))
      (pss_one (ps_ret pe_str)) pss_nil)
    (pss_one (ps_ret (pe_ifExp (pt_val (pe_call GA hr (by rfl) gA kA bA .nil pass0 (pa_cons (pv 0) (pa_cons (pv 1) (pa_cons (pv 2) pa_nil))))) pe_str (pe_ifExp (pt_val (pe_call GA hr (by rfl) gA kA bA .nil pass0 (pa_cons (pv 0) (pa_cons (pv 2) (pa_cons (pv 1) pa_nil))))) pe_str pe_non))))), ?_⟩
    have sht := T.shaped two.ns (by have := two.ds; omega)
    have shu := T.shaped two.nt (by have := two.dt; omega)
    have ds := two.ds
    have dt := two.dt
    refine ⟨x, rfl, y, rfl, t.d, u.d, Tm.dp _ _ two.hs, Tm.dp _ _ two.ht, sht, shu, _, rfl, ?_⟩
    by_cases tu : t = u
    · have ev : PyData.eqv t.d u.d = true := by
        rw [← tu]
        exact eqv_one sht
      rw [ev]
      refine iteT ?_
      rw [← tu, Kb.word_refl] at q
      exact q H fun b o e => e
    rw [eqv_ne tu]
    refine iteF ?_
    refine ⟨.ref d, rfl, x, rfl, y, rfl, d, rk, t, u, x, y, rfl, two, by omega, fun H1 s1 => ⟨_, rfl, ?_⟩⟩
    by_cases h : Kb.ab (Kb.wOf rk) (Kb.pOf rk) t u
    · rw [abB_true h]
      refine iteT ?_
      rw [Kb.word_above h] at q
      exact q H1 s1
    rw [abB_false h]
    refine iteF ?_
    refine ⟨.ref d, rfl, y, rfl, x, rfl, d, rk, u, t, y, x, rfl, (two.same s1).swap, by omega, fun H2 s2 => ⟨_, rfl, ?_⟩⟩
    by_cases h2 : Kb.ab (Kb.wOf rk) (Kb.pOf rk) u t
    · rw [abB_true h2]
      refine iteT ?_
      rw [Kb.word_below h2] at q
      exact q H2 fun b o e => s2 _ _ (s1 _ _ e)
    · rw [abB_false h2]
      refine iteF ?_
      rw [Kb.word_none tu h h2] at q
      exact q H2 fun b o e => s2 _ _ (s1 _ _ e)
end
end Ad

namespace Ad
open PySem PySem.Spec PySem.Calls PyProof.Rows L2 RZ
abbrev sLParts : Stmt := topS 25
theorem scLParts : FnScope ["_law_term", "_law_found", "_law_part"] ["_law_term"] (defScope sLParts) := ⟨rfl, rfl, rfl, by decide +kernel, rfl, by decide +kernel, by decide +kernel⟩
section
variable {P : Program} {w : World} {K : PySem.W.Frag} {mg : Str → Option Value} {base : Heap}
def spLParts (K : PySem.W.Frag) (n : Nat) : Sp := fun vs H Q _ => ∃ (t : T) (x : V), vs = [x] ∧ Tm K H t x ∧ t.dep < n ∧ t.size ≤ 10000 ∧ ∀ H' p xs, Same H H' → H p = none → H' p = some (.lst xs) → Tms K H' t.parts xs → Q (.ref p) H'
theorem T.partsL_next {ts : List T} {i : Nat} {u : T} (h : ts[i]? = some u) : T.partsL (ts.take (i + 1)) = T.partsL (ts.take i) ++ u.parts := by
  rw [take_next h, T.partsL_append]
  show _ ++ (u.parts ++ []) = _
  rw [List.append_nil]
theorem ok_lparts {f fV : Addr} {fd fdV : FuncData} {k : Nat} (F : Fun K "_law_parts" "_law_parts" sLParts f fd) (gF : mg "_law_parts" = some (.ref f)) (bF : Binds K fd ["_law_term"] [])
    (G : FnOk P w K mg base CX0 k fV fdV ["_law_term"] (spIsVar K)) (gV : mg "_law_is_var" = some (.ref fV)) (kV : PySem.W.keepIn K (.ref fV) = true) (bV : Binds K fdV ["_law_term"] []) :
    ∀ n, FnOk P w K mg base CX0 (k + n) f fd ["_law_term"] (spLParts K n)
  | 0 => vac fun vs H Q E ⟨t, x, _, _, z, _⟩ => absurd z (Nat.not_lt_zero _)
  | n + 1 => by
    have IH := ok_lparts F gF bF G gV kV bV n
    refine F.ok scLParts (fun vs H Q E h => ?_) (fun cdv A outer s H vs Q E hr h => ?_)
    · obtain ⟨t, x, rfl, _⟩ := h
      rfl
    · obtain ⟨t, x, rfl, ht, deep, small, q⟩ := h
      refine ⟨_, (pss_cons (ps_set (i := 1) scLParts.nd rfl (.inl rfl) (pe_lst (pa_cons (pv 0) pa_nil)))
    (pss_cons (ps_if (pt_not (pt_val (pe_call G (hr.mono (Nat.le_add_right _ _)) (by rfl) gV kV bV .nil pass0 (pa_cons (pv 0) pa_nil))))
      (pss_one (ps_for PassesOwn.never rfl (pi_tup (pe_slice sl_tup (pv 0) (po_some pe_int) po_none)) (pg_name (i := 2) scLParts.nd rfl (.inl rfl))
        (pss_one (ps_set (i := 1) scLParts.nd rfl (.inl rfl) (pe_op op_cat (pv 1) (pe_call IH hr (by rfl) gF F.kp bF .nil pass0 (pa_cons (pv 2) pa_nil))))))) pss_nil)
    (pss_one (ps_ret (pv 1))))), ?_⟩
      refine ⟨x, rfl, (by show 1 ≤ sizeLine; decide), fun p0 n0 => ?_⟩
      have s0 : Same H (upd H p0 (.lst [x])) := same_new (fun b o e => e) n0 _
      have m0 : (upd H p0 (.lst [x])) p0 = some (.lst [x]) := upd_same
      have ht0 := Tm.mono (TK.same s0) _ _ ht
      generalize upd H p0 (.lst [x]) = H0 at s0 m0 ht0
      refine ⟨x, rfl, t, x, rfl, ht0, _, rfl, ?_⟩
      cases t with
      | v i =>
        refine iteF ?_
        exact ⟨_, rfl, q H0 p0 _ s0 n0 m0 (Tms.one ht0)⟩
      | f nm ts =>
        refine iteT ?_
        have ht1 := ht0
        obtain ⟨a, zs, rfl, sq, all⟩ := ht0
        refine ⟨.ref a, rfl, 1, rfl, a, _, rfl, sq, cut_args.1, fun p1 n1 => ?_⟩
        rw [cut_args.2]
        have s1 : Same H0 (upd H0 p1 (.tup zs)) := same_new (fun b o e => e) n1 _
        have m1 : (upd H0 p1 (.tup zs)) p1 = some (.tup zs) := upd_same
        have k1 := TK.same s1
        replace m0 := s1 _ _ m0
        have s01 : Same H (upd H0 p1 (.tup zs)) := fun b o e => s1 _ _ (s0 _ _ e)
        replace all := Tms.mono k1 _ _ all
        replace ht1 := Tm.mono k1 _ _ ht1
        generalize upd H0 p1 (.tup zs) = H1 at s1 m1 m0 s01 all ht1
        have lz := all.len
        have szu : T.size (.f nm ts) = 1 + T.sizeL ts := rfl
        refine ⟨p1, rfl, ⟨_, .inl (.inl m1)⟩, for_tup (K := K) (a := p1) (xs := zs) (fun i σ G => ∃ (d : Addr) (v2 : Option V) (ps : List V), σ = [some (.ref a), some (.ref d), v2] ∧ Same H1 G ∧ H d = none ∧ G d = some (.lst (.ref a :: ps)) ∧ Tms K G (T.partsL (ts.take i)) ps)
          ⟨p0, none, [], rfl, fun b o e => e, n0, m0, rfl⟩ (fun i σ G _ ⟨_, _, _, _, sm, _⟩ => .inl (.inl (sm _ _ m1))) ?_ ?_⟩
        · rintro i y σ G hy ⟨d, v2, ps, rfl, sm, nd, g, al⟩
          obtain ⟨u, hu, tu⟩ := (Tms.mono (TK.same sm) _ _ all).get hy
          have hm := List.mem_of_getElem? hu
          have d1 := T.dep_mem hm
          have d2 : T.dep (.f nm ts) = 1 + T.depL ts := rfl
          have d3 := T.size_mem hm
          refine ⟨.ref d, rfl, y, rfl, u, y, rfl, tu, by omega, by omega, fun G2 p2 us sm2 n2 g2 al2 => ⟨d, p2, _, _, rfl, rfl, sm2 _ _ g, g2, ?_, fun p3 n3 => ?_⟩⟩
          · have h1 := al.len
            have h2 := al2.len
            rw [T.partsL_len] at h1
            rw [T.parts_len] at h2
            have h3 : T.sizeL (ts.take i) ≤ T.sizeL ts := by
              have e := congrArg T.sizeL (List.take_append_drop i ts)
              rw [T.sizeL_append] at e
              omega
            rw [List.length_cons, sizeLine_eq]
            omega
          · have s3 : Same G2 (upd G2 p3 (.lst (.ref a :: ps ++ us))) := same_new (fun b o e => e) n3 _
            have n3H : H p3 = none := by
              cases z : H p3 with
              | none => rfl
              | some o =>
                rw [sm2 _ _ (sm _ _ (s01 _ _ z))] at n3
                cases n3
            refine ⟨p3, some y, ps ++ us, rfl, fun b o e => s3 _ _ (sm2 _ _ (sm _ _ e)), n3H, upd_same, ?_⟩
            rw [T.partsL_next hu]
            exact Tms.app (Tms.mono ((TK.same sm2).trans (TK.same s3)) _ _ al) (Tms.mono (TK.same s3) _ _ al2)
        · rintro σ G ⟨d, v2, ps, rfl, sm, nd, g, al⟩
          rw [lz, List.take_length] at al
          exact ⟨_, rfl, q G d _ (fun b o e => sm _ _ (s01 _ _ e)) nd g ⟨_, _, rfl, Tm.mono (TK.same sm) _ _ ht1, al⟩⟩
end
end Ad

namespace Ad
open PySem PySem.Spec PySem.Calls PyProof.Rows L2
abbrev sDPairs : Stmt := topS 33
theorem scDPairs : FnScope ["_law_pen_here", "_law_rows", "_law_variables", "_law_deep", "_law_known", "_law_variable"] ["_law_pen_here", "_law_rows", "_law_variables", "_law_deep"] (defScope sDPairs) := ⟨rfl, rfl, rfl, by decide +kernel, rfl, by decide +kernel, by decide +kernel⟩
section
variable {P : Program} {w : World} {K : PySem.W.Frag} {mg : Str → Option Value} {base : Heap}
theorem ok_dpairs {f fD fT fS : Addr} {fd fdD fdT fdS : FuncData} {k n : Nat} (F : Fun K "_law_drawn_pairs" "_law_drawn_pairs" sDPairs f fd)
    (GD : FnOk P w K mg base CX0 k fD fdD ["_law_pen_here", "_law_many"] Pn.spDraw) (gD : mg "_law_draw" = some (.ref fD)) (kD : PySem.W.keepIn K (.ref fD) = true) (bD : Binds K fdD ["_law_pen_here", "_law_many"] [])
    (GT : FnOk P w K mg base CX0 k fT fdT ["_law_pen_here", "_law_rows", "_law_deep", "_law_variables"] (spDrawn K n)) (gT : mg "_law_drawn_term" = some (.ref fT)) (kT : PySem.W.keepIn K (.ref fT) = true) (bT : Binds K fdT ["_law_pen_here", "_law_rows", "_law_deep", "_law_variables"] [])
    (GS : FnOk P w K mg base CX0 k fS fdS ["_law_known"] (spLPairs K)) (gS : mg "_law_pairs" = some (.ref fS)) (kS : PySem.W.keepIn K (.ref fS) = true) (bS : Binds K fdS ["_law_known"] []) (mr : mg "range" = none) :
    FnOk P w K mg base CX0 (k + 1) f fd ["_law_pen_here", "_law_rows", "_law_variables", "_law_deep"] (spDPairs K n) := by
  refine F.ok scDPairs (fun vs H Q E h => ?_) (fun cdv A outer s H vs Q E hr h => ?_)
  · obtain ⟨p, l, ra, ns, c, deep, nv, R, rfl, _⟩ := h
    rfl
  · obtain ⟨p, l, ra, ns, c, deep, nv, R, rfl, hP, hlen, hc, hR, ok, hd, hd50, hnv, q⟩ := h
    refine ⟨_, pss_cons (ps_set (i := 4) scDPairs.nd rfl (.inl rfl) pe_dnewK)
      (pss_cons (ps_for PassesOwn.never rfl (pi_range1 (by rfl) mr (pa_cons (pv 2) pa_nil)) (pg_name (i := 5) scDPairs.nd rfl (.inl rfl))
        (pss_one (ps_if (pt_cmpR op_eq (pe_call GD hr (by rfl) gD kD bD .nil pass0 (pa_cons (pv 0) (pa_cons pe_int pa_nil))) pe_int (nomark _))
          (pss_one (ps_dput (hu1 hr) (pv 4) (pv 5) (pe_call GT hr (by rfl) gT kT bT .nil pass0 (pa_cons (pv 0) (pa_cons (pv 1) (pa_cons (pe_call GD hr (by rfl) gD kD bD .nil pass0 (pa_cons (pv 0) (pa_cons (pe_op op_add (pv 3) pe_int) pa_nil))) (pa_cons (pv 2) pa_nil))))) rfl)) pss_nil)))
      (pss_one (ps_ret (pe_call GS hr (by rfl) gS kS bS .nil pass0 (pa_cons (pv 4) pa_nil))))), ?_⟩
    intro d nd0
    have sm0 : Same H (upd H d (.dK [])) := same_new (fun b o e => e) nd0 _
    have m0 : (upd H d (.dK [])) d = some (.dK []) := upd_same
    have P0 := pen_same hP sm0
    have b0 : Pn.But p H (upd H d (.dK [])) := Pn.But.of sm0
    have dp : d ≠ p := pen_kept hP nd0
    have d2 := two_dn deep
    generalize upd H d (.dK []) = H0 at sm0 m0 P0 b0
    refine ⟨.int (nv : Int), rfl, _, rfl, by omega, by omega, for_range (lo := 0) (n := ((nv : Int)).toNat) (fun i σ G => ∃ (v5 : Option V) (tb : Sb) (kvs : List (L2.Key × V)) (c1 : Nat), σ = [some (.ref p), some (.ref ra), some (.int (nv : Int)), some (.int (deep : Int)), some (.ref d), v5] ∧ Pn.Pen G p l ns c1 ∧ c1 ≤ c + i * (2 + dn deep) ∧ Pn.But p H G ∧
      G d = some (.dK kvs) ∧ TV K G tb kvs ∧ (tb.map (·.1)).Nodup ∧ tb.length ≤ i ∧ ∀ e ∈ tb, 0 ≤ e.1 ∧ e.1 < (i : Int) ∧ DT R deep nv e.2) ⟨none, [], [], c, rfl, P0, by omega, b0, m0, rfl, List.nodup_nil, Nat.le_refl _, fun e he => nomatch he⟩ ?_ ?_⟩
    · rintro i σ G hi ⟨v5, tb, kvs, c1, rfl, P1, hc1, b1, gd0, tv, nd, few, each⟩
      have hi' : i < nv := by omega
      have hm : i * (2 + dn deep) + (2 + dn deep) ≤ nv * (2 + dn deep) := by
        rw [← Nat.succ_mul]
        exact Nat.mul_le_mul_right _ hi'
      have step : (i + 1) * (2 + dn deep) = i * (2 + dn deep) + (2 + dn deep) := Nat.succ_mul _ _
      refine ⟨.ref p, rfl, p, l, ns, c1, 2, rfl, P1, hlen, by omega, by decide, by decide, fun r G2 r0 r1 P2 b2 => ⟨rfl, _, rfl, ?_⟩⟩
      have tv2 := tv.mono (pen_tk P1 b2)
      have gd2 := b2 _ _ dp gd0
      refine ite2 (fun _ => ?_) (fun _ => ?_)
      · refine ⟨.ref p, rfl, .ref ra, rfl, .ref p, rfl, .int (deep : Int), rfl, _, _, rfl, rfl, p, l, ns, c1 + 1, (deep : Int) + 1, rfl, P2, hlen, by omega, by omega, by omega, fun r2 G3 r20 r21 P3 b3 => ?_⟩
        obtain ⟨e', rfl⟩ : ∃ e' : Nat, r2 = (e' : Int) := ⟨r2.toNat, by omega⟩
        have he' : e' ≤ deep := by omega
        have dm := dn_mono he'
        have b13 := (b1.trans b2).trans b3
        refine ⟨.int (nv : Int), rfl, p, l, ra, ns, c1 + 1 + 1, e', (nv : Int), R, rfl, P3, hlen, by omega, hR.mono (pen_tk hP b13), ok, by omega, by omega, by omega, fun t v G4 c4 tv4 dt hc4 P4 b4 => ?_⟩
        have gd4 := b4 _ _ dp (b3 _ _ dp gd2)
        have tvs4 := (tv2.mono (pen_tk P2 b3)).mono (pen_tk P3 b4)
        have lk := tvs4.len
        refine ⟨.ref d, rfl, .int (0 + (i : Int)), rfl, d, _, rfl, DPut.k (k := Sum.inl (0 + (i : Int))) gd4 (by rw [sizeLine_eq]; omega), ?_⟩
        have kA := dk_tk gd4 (.dK (putK kvs (.inl (0 + (i : Int))) v))
        refine ⟨_, tb.put (0 + (i : Int)) t, _, c4, rfl, pen_on hP nd0 P4 _, by omega, but_on (b13.trans b4) nd0 _, upd_same, (tvs4.mono kA).put _ (Tm.mono kA _ _ tv4), Sb.nodup_put nd _ _, ?_, ?_⟩
        · have := Sb.len_put tb (0 + (i : Int)) t
          omega
        · intro e he
          rcases Sb.mem_put he with z | z
          · rw [z]
            exact ⟨(by show 0 ≤ 0 + (i : Int); omega), (by show 0 + (i : Int) < ((i + 1 : Nat) : Int); omega), dt.mono he'⟩
          · obtain ⟨z1, z2, z3⟩ := each e z
            exact ⟨z1, by omega, z3⟩
      · refine ⟨_, tb, kvs, c1 + 1, rfl, P2, by omega, b1.trans b2, gd2, tv2, nd, by omega, fun e he => ?_⟩
        obtain ⟨z1, z2, z3⟩ := each e he
        exact ⟨z1, by omega, z3⟩
    · rintro σ G ⟨v5, tb, kvs, c1, rfl, P1, hc1, b1, gd0, tv, nd, few, each⟩
      have e0 : ((nv : Int)).toNat = nv := Int.toNat_natCast _
      rw [e0] at hc1 few each
      refine ⟨.ref d, rfl, d, tb, kvs, rfl, gd0, tv, nd, by omega, fun e he => ⟨(each e he).2.2.named, Nat.le_trans (each e he).2.2.dep (by omega)⟩, fun su x H' nm suz s' => ?_⟩
      exact q su x H' c1 ⟨nm.rising, fun e he => each e (Sb.look_mem ((nm.has e.1 e.2).1 he).1)⟩ suz (by omega) (pen_same P1 s') (b1.trans (Pn.But.of s'))
end
end Ad

namespace Ad
open PySem PySem.Spec PySem.Calls PyProof.Rows L2
abbrev sLPaths : Stmt := topS 30
theorem scLPaths : FnScope ["_law_term", "_law_found", "_law_k", "_law_path"] ["_law_term"] (defScope sLPaths) := ⟨rfl, rfl, rfl, by decide +kernel, rfl, by decide +kernel, by decide +kernel⟩
section
variable {P : Program} {w : World} {K : PySem.W.Frag} {mg : Str → Option Value} {base : Heap}
theorem ok_lpaths {f fV : Addr} {fd fdV : FuncData} {k : Nat} (F : Fun K "_law_paths" "_law_paths" sLPaths f fd) (gF : mg "_law_paths" = some (.ref f)) (bF : Binds K fd ["_law_term"] [])
    (G : FnOk P w K mg base CX0 k fV fdV ["_law_term"] (spIsVar K)) (gV : mg "_law_is_var" = some (.ref fV)) (kV : PySem.W.keepIn K (.ref fV) = true) (bV : Binds K fdV ["_law_term"] []) (mr : mg "range" = none) (ml : mg "len" = none) :
    ∀ n, FnOk P w K mg base CX0 (k + n) f fd ["_law_term"] (spLPaths K n)
  | 0 => vac fun vs H Q E ⟨t, x, _, _, z, _⟩ => absurd z (Nat.not_lt_zero _)
  | n + 1 => by
    have IH := ok_lpaths F gF bF G gV kV bV mr ml n
    refine F.ok scLPaths (fun vs H Q E h => ?_) (fun cdv A outer s H vs Q E hr h => ?_)
    · obtain ⟨t, x, rfl, _⟩ := h
      rfl
    · obtain ⟨t, x, rfl, ht, shallow, small, q⟩ := h
      refine ⟨_, pss_cons (ps_set (i := 1) scLPaths.nd rfl (.inl rfl) (pe_lst (pa_cons (pe_tup pa_nil) pa_nil)))
        (pss_cons (ps_if (pt_not (pt_val (pe_call G (hr.mono (Nat.le_add_right _ _)) (by rfl) gV kV bV .nil pass0 (pa_cons (pv 0) pa_nil))))
          (pss_one (ps_for PassesOwn.never rfl (pi_range1 (by rfl) mr (pa_cons (pe_op op_sub (pe_callB call_len_seq (by rfl) ml PySem.boot_len (pa_cons (pv 0) pa_nil)) pe_int) pa_nil)) (pg_name (i := 2) scLPaths.nd rfl (.inr rfl))
            (pss_one (ps_set (i := 1) scLPaths.nd rfl (.inl rfl) (pe_op op_cat (pv 1)
              (pe_lc (own := [("_law_path", 3)]) (g := gName 3) (tt := tYes) (te := tOp (rCatT K) (tTup (tCons (tVar 2) tNil)) (tVar 3)) rfl scLPaths.nd (pi_list (pe_call IH hr (by rfl) gF F.kp bF .nil pass0 (pa_cons (pe_ix ix_tup (pv 0) (pe_op op_add pe_int (pv 2)) (fun _ _ => rfl)) pa_nil)))
                (blkOk_by (N := ["_law_term", "_law_found", "_law_k", "_law_path"]) (sc := defScope sLPaths) (by decide +kernel))
                (fun _ _ _ _ _ => pg_name (i := 3) scLPaths.nd rfl (.inl rfl)) (fun _ _ _ _ _ => pts_nil)
                (fun _ _ _ _ _ => pe_op (r := rCatT K) op_catT (pe_tup (pa_cons (pv 2) pa_nil)) (pv 3))))))))
          pss_nil)
        (pss_one (ps_ret (pv 1)))), ?_⟩
      refine ⟨(by decide), fun p0 n0 => ⟨(by show 1 ≤ sizeLine; decide), fun p1 n1 => ?_⟩⟩
      have ne01 : p1 ≠ p0 := fun e => by rw [e, upd_same] at n1; cases n1
      have n1' : H p1 = none := by rwa [upd_ne ne01] at n1
      have sm1 : Same H (upd (upd H p0 (.tup [])) p1 (.lst [.ref p0])) := same_on (same_on (fun b o e => e) n0 _) n1' _
      have m0 : (upd (upd H p0 (.tup [])) p1 (.lst [.ref p0])) p0 = some (.tup []) := by rw [upd_ne ne01.symm]; exact upd_same
      have m1 : (upd (upd H p0 (.tup [])) p1 (.lst [.ref p0])) p1 = some (.lst [.ref p0]) := upd_same
      replace ht := Tm.mono (TK.same sm1) _ _ ht
      generalize upd (upd H p0 (.tup [])) p1 (.lst [.ref p0]) = H1 at sm1 m0 m1 ht
      have first : F2 (PV K H1) [[]] [V.ref p0] := F2.one ⟨p0, rfl, .inl (.inl m0)⟩
      refine ⟨x, rfl, t, x, rfl, ht, _, rfl, ?_⟩
      cases t with
      | v i =>
        refine iteF ?_
        exact ⟨_, rfl, q H1 p1 _ sm1 n1' m1 first⟩
      | f nm ts =>
        refine iteT ?_
        have ht' := ht
        obtain ⟨a, zs, rfl, sq, all⟩ := ht
        have lz := all.len
        have szu : T.size (.f nm ts) = 1 + T.sizeL ts := rfl
        have lts := T.len_sizeL ts
        have many : ((V.str nm :: zs).length : Int) - 1 = (ts.length : Int) := by
          rw [List.length_cons, lz]
          omega
        refine ⟨.ref a, rfl, a, _, rfl, .inr sq, _, _, rfl, rfl, _, rfl, (by omega), (by omega), ?_⟩
        have tn : ((V.str nm :: zs).length - 1 : Int).toNat = ts.length := by omega
        rw [tn]
        refine for_range (lo := 0) (n := ts.length) (fun i σ G => ∃ (d : Addr) (v2 v3 : Option V) (us : List V), σ = [some (.ref a), some (.ref d), v2, v3] ∧ Same H1 G ∧ H d = none ∧ G d = some (.lst us) ∧ F2 (PV K G) ([] :: T.pathsL 0 (ts.take i)) us)
          ⟨p1, none, none, _, rfl, fun b o e => e, n1', m1, first⟩ ?_ ?_
        · rintro i σ G hi ⟨d, v2, v3, us, rfl, sm, nd, g, ps⟩
          have hu := List.getElem?_eq_getElem hi
          generalize ts[i] = u at hu
          obtain ⟨y, hy, ty⟩ := all.get' hu
          have hm := List.mem_of_getElem? hu
          have d1 := T.dep_mem hm
          have d2 : T.dep (.f nm ts) = 1 + T.depL ts := rfl
          have d3 := T.size_mem hm
          have ei : (0 : Int) + (i : Int) = (i : Int) := Int.zero_add _
          rw [ei]
          have tk := TK.same sm
          refine ⟨.ref d, rfl, .ref a, rfl, .int (i : Int), rfl, _, _, rfl, rfl, a, _, _, y, rfl, rfl, tk.sq sq, ?_, u, y, rfl, Tm.mono tk _ _ ty, by omega, by omega, fun G2 p2 us2 sm2 n2 g2 ps2 => ⟨p2, rfl, ⟨us2, .inl (.inl g2)⟩, fun D nD => ?_⟩⟩
          · have e : ((1 : Int) + (i : Int)) = ((i + 1 : Nat) : Int) := by omega
            rw [e]
            exact atI_nat (j := i + 1) hy
          have g' := sm2 _ _ g
          have ps' := F2.mono (PV.mono (TK.same sm2)) ps
          have sm12 : Same H1 G2 := fun b o e => sm2 _ _ (sm _ _ e)
          have l2 := ps2.len
          rw [T.paths_len] at l2
          refine lc_list (K := K) (a := p2) (xs := us2) (fun j G3 => ∃ acc, Same G2 G3 ∧ G3 D = some (.lst acc) ∧ F2 (PV K G3) ((u.paths.take j).map ((i : Int) :: ·)) acc) ⟨[], same_new (fun b o e => e) nD _, upd_same, rfl⟩ (fun j G3 _ ⟨acc, sm3, _⟩ => .inl (.inl (sm3 _ _ g2))) ?_ ?_
          · rintro j c G3 hc ⟨acc, sm3, gD, pacc⟩
            obtain ⟨pp, hpp, ⟨ca, rfl, sqc⟩⟩ := (F2.mono (PV.mono (TK.same sm3)) ps2).get hc
            have lacc := pacc.len
            have hj := (List.getElem?_eq_some_iff.mp hpp).1
            rw [T.paths_len] at hj
            rw [List.length_map, List.length_take, T.paths_len] at lacc
            have pdep := T.paths_dep u pp (List.mem_of_getElem? hpp)
            have udep := T.dep_size u
            have nx : ∀ (r : Addr) (G5 : Hp), Same G3 G5 → SqT K G5 r (((i : Int) :: pp).map V.int) → ∃ acc', G5 D = some (.lst acc') ∧ acc'.length < sizeLine ∧ ∃ acc2, Same G2 (upd G5 D (.lst (acc' ++ [V.ref r]))) ∧ (upd G5 D (.lst (acc' ++ [V.ref r]))) D = some (.lst acc2) ∧ F2 (PV K (upd G5 D (.lst (acc' ++ [V.ref r])))) ((u.paths.take (j + 1)).map ((i : Int) :: ·)) acc2 := by
              intro r G5 sm5 sr
              have k6 : TK G5 (upd G5 D (.lst (acc ++ [V.ref r]))) := TK.lst (sm5 _ _ gD) _
              have sm35 : Same G2 G5 := fun b o e => sm5 _ _ (sm3 _ _ e)
              refine ⟨acc, sm5 _ _ gD, by rw [sizeLine_eq]; omega, _, same_on sm35 nD _, upd_same, ?_⟩
              rw [List.take_add_one, hpp, List.map_append]
              exact F2.app (F2.mono (PV.mono ((TK.same sm5).trans k6)) pacc) (F2.one ⟨r, rfl, k6.sq sr⟩)
            refine ⟨rfl, .int (i : Int), rfl, (by show 1 ≤ sizeLine; decide), fun p4 n4 => ⟨.ref ca, rfl, p4, ca, _, _, rfl, rfl, .inl (.inl upd_same), (TK.new n4 _).sq sqc, by simp, by rw [List.length_map, List.length_singleton, sizeLine_eq]; omega, fun e => ?_, fun e p5 n5 => ?_⟩⟩
            · refine nx p4 _ (same_new (fun b o e => e) n4 _) ?_
              rw [List.map_eq_nil_iff.mp e]
              exact .inl (.inl upd_same)
            · refine nx p5 _ (same_new (same_new (fun b o e => e) n4 _) n5 _) (.inl (.inl upd_same))
          · rintro G3 ⟨acc, sm3, gD, pacc⟩
            rw [l2, ← T.paths_len, List.take_length] at pacc
            have lacc := pacc.len
            rw [List.length_map, T.paths_len] at lacc
            have lus := ps.len
            rw [List.length_cons, T.pathsL_len] at lus
            have tkz := T.sizeL_take ts i
            refine ⟨d, D, us, acc, rfl, rfl, sm3 _ _ g', gD, by rw [sizeLine_eq]; omega, fun p5 n5 => ?_⟩
            have sm4 : Same G3 (upd G3 p5 (.lst (us ++ acc))) := same_new (fun b o e => e) n5 _
            refine ⟨p5, _, _, _, rfl, fun b o e => sm4 _ _ (sm3 _ _ (sm12 _ _ e)), ?_, upd_same, ?_⟩
            · cases z : H p5 with
              | none => rfl
              | some o =>
                have e2 := sm3 _ _ (sm12 _ _ (sm1 _ _ z))
                rw [n5] at e2
                cases e2
            · rw [T.pathsL_next hu]
              exact F2.app (F2.mono (PV.mono ((TK.same sm3).trans (TK.same sm4))) ps') (F2.mono (PV.mono (TK.same sm4)) pacc)
        · rintro σ G ⟨d, v2, v3, us, rfl, sm, nd, g, ps⟩
          rw [List.take_length] at ps
          exact ⟨_, rfl, q G d us (fun b o e => sm _ _ (sm1 _ _ e)) nd g ps⟩
end
end Ad

namespace Ad
open PySem PySem.Spec PySem.Calls PyProof.Rows L2
abbrev sLPt : Stmt := topS 31
theorem scLPt : FnScope ["_law_term", "_law_path", "_law_new", "_law_k"] ["_law_term", "_law_path", "_law_new"] (defScope sLPt) := ⟨rfl, rfl, rfl, by decide +kernel, rfl, by decide +kernel, by decide +kernel⟩
section
variable {P : Program} {w : World} {K : PySem.W.Frag} {mg : Str → Option Value} {base : Heap}
theorem ok_lpt {f : Addr} {fd : FuncData} {k : Nat} (F : Fun K "_law_put_there" "_law_put_there" sLPt f fd) (gF : mg "_law_put_there" = some (.ref f)) (bF : Binds K fd ["_law_term", "_law_path", "_law_new"] []) : ∀ n, FnOk P w K mg base CX0 (k + n) f fd ["_law_term", "_law_path", "_law_new"] (spPut K n)
  | 0 => vac fun vs H Q E ⟨t, new, r, x, y, a, p, _, _, _, _, z, _⟩ => absurd z (Nat.not_lt_zero _)
  | n + 1 => by
    have IH := ok_lpt (k := k) F gF bF n
    refine F.ok scLPt (fun vs H Q E h => ?_) (fun cdv A outer s H vs Q E hr h => ?_)
    · obtain ⟨t, new, r, x, y, a, p, rfl, _⟩ := h
      rfl
    · obtain ⟨t, new, r, x, y, a, p, rfl, ht, hn, hp, few, small, hput, q⟩ := h
      refine ⟨_, pss_cons (ps_if (pt_cmpR (op_eqD (hu64 hr)) (pv 1) (pe_tup pa_nil) (nomark _)) (pss_one (ps_ret (pv 2))) pss_nil)
        (pss_cons (ps_set (i := 3) scLPt.nd rfl (.inl rfl) (pe_op op_add pe_int (pe_ix ix_tup (pv 1) pe_int (fun _ _ => rfl))))
        (pss_one (ps_ret (pe_op op_catT (pe_op op_catT (pe_slice sl_tup (pv 0) po_none (po_some (pv 3))) (pe_tup (pa_cons (pe_call IH hr (by rfl) gF F.kp bF .nil pass0 (pa_cons (pe_ix ix_tup (pv 0) (pv 3) (fun _ _ => rfl)) (pa_cons (pe_slice sl_tup (pv 1) (po_some pe_int) po_none) (pa_cons (pv 2) pa_nil)))) pa_nil)))
          (pe_slice sl_tup (pv 0) (po_some (pe_op op_add (pv 3) pe_int)) po_none))))), ?_⟩
      refine ⟨.ref a, rfl, (by decide), fun p0 n0 => ?_⟩
      have sm0 : Same H (upd H p0 (.tup [])) := same_new (fun b o e => e) n0 _
      have k0 := TK.same sm0
      have m0 : (upd H p0 (.tup [])) p0 = some (.tup []) := upd_same
      replace ht := Tm.mono k0 _ _ ht
      replace hn := Tm.mono k0 _ _ hn
      replace hp := k0.sq hp
      generalize upd H p0 (.tup []) = H1 at sm0 m0 ht hn hp
      refine ⟨iD p, iD [], iD_dp hp, iD_dp (ns := []) (.inl (.inl m0)), iD_shaped _, iD_shaped _, _, rfl, ?_⟩
      rw [iD_nil]
      cases p with
      | nil =>
        refine iteT ?_
        cases (show some new = some r from hput)
        exact ⟨y, rfl, q y _ sm0 hn⟩
      | cons c p =>
        refine iteF ?_
        obtain ⟨j, nm, ts, u, z, rfl, rfl, hu, hput', rfl⟩ := T.put_cons hput
        obtain ⟨b, ys, rfl, sq, all⟩ := ht
        obtain ⟨y', hy, ty⟩ := all.get' hu
        have hj := (List.getElem?_eq_some_iff.mp hy).1
        have e1 : ((1 : Int) + (j : Int)) = ((j + 1 : Nat) : Int) := by omega
        refine ⟨.ref a, rfl, a, _, 0, .int (j : Int), rfl, rfl, hp, atI_nat (j := 0) rfl, _, _, rfl, rfl, ?_⟩
        obtain ⟨lo1, lo2⟩ := cut_low' (x := V.str nm) hj
        obtain ⟨hi1, hi2⟩ := cut_high' (x := V.str nm) hj
        obtain ⟨tl1, tl2⟩ := cut_tail (k := (j : Int)) (p := p)
        refine ⟨.ref b, rfl, _, rfl, _, rfl, b, _, rfl, sq, lo1, fun p1 n1 => ?_⟩
        rw [lo2]
        have k1 : TK H1 (upd H1 p1 (.tup (V.str nm :: ys.take j))) := TK.new n1 _
        have sm1 : Same H (upd H1 p1 (.tup (V.str nm :: ys.take j))) := same_new sm0 n1 _
        have m1 : (upd H1 p1 (.tup (V.str nm :: ys.take j))) p1 = some (.tup (V.str nm :: ys.take j)) := upd_same
        replace hn := Tm.mono k1 _ _ hn
        replace hp := k1.sq hp
        replace sq := k1.sq sq
        replace all := Tms.mono k1 _ _ all
        replace ty := Tm.mono k1 _ _ ty
        generalize upd H1 p1 (.tup (V.str nm :: ys.take j)) = H2 at sm1 m1 hn hp sq all ty
        refine ⟨.ref b, rfl, .int (1 + (j : Int)), rfl, b, _, _, y', rfl, rfl, sq, (by rw [e1]; exact atI_nat (j := j + 1) hy), .ref a, rfl, 1, rfl, a, _, rfl, hp, tl1, fun p2 n2 => ?_⟩
        rw [tl2]
        have k2 : TK H2 (upd H2 p2 (.tup (p.map V.int))) := TK.new n2 _
        have sm2 : Same H (upd H2 p2 (.tup (p.map V.int))) := same_new sm1 n2 _
        have m1' : (upd H2 p2 (.tup (p.map V.int))) p1 = some (.tup (V.str nm :: ys.take j)) := (k2 _ _).1 m1
        have m2 : (upd H2 p2 (.tup (p.map V.int))) p2 = some (.tup (p.map V.int)) := upd_same
        replace hn := Tm.mono k2 _ _ hn
        replace sq := k2.sq sq
        replace all := Tms.mono k2 _ _ all
        replace ty := Tm.mono k2 _ _ ty
        generalize upd H2 p2 (.tup (p.map V.int)) = H3 at sm2 m1' m2 hn sq all ty
        have su : u.size ≤ 10000 := by
          have h1 := T.size_mem (List.mem_of_getElem? hu)
          have h2 : T.size (.f nm ts) = 1 + T.sizeL ts := rfl
          omega
        have lys := all.len
        have lts := T.len_sizeL ts
        have sts : T.size (.f nm ts) = 1 + T.sizeL ts := rfl
        refine ⟨y, rfl, u, new, z, y', y, p2, p, rfl, ty, hn, .inl (.inl m2), by rw [List.length_cons] at few; omega, su, hput', fun v H4 sm4 tz => ⟨(by show 1 ≤ sizeLine; decide), fun p5 n5 => ?_⟩⟩
        have k4 := TK.same sm4
        have sm4' : Same H H4 := fun b o e => sm4 b o (sm2 b o e)
        have k5 : TK H4 (upd H4 p5 (.tup [v])) := TK.new n5 _
        have sm5 : Same H (upd H4 p5 (.tup [v])) := same_new sm4' n5 _
        have m5 : (upd H4 p5 (.tup [v])) p5 = some (.tup [v]) := upd_same
        have m1'' := (k5 _ _).1 ((k4 _ _).1 m1')
        replace sq := k5.sq (k4.sq sq)
        replace all := Tms.mono (k4.trans k5) _ _ all
        replace tz := Tm.mono k5 _ _ tz
        generalize upd H4 p5 (.tup [v]) = H5 at sm5 m5 m1'' sq all tz
        refine ⟨p1, p5, _, _, rfl, rfl, .inl (.inl m1''), .inl (.inl m5), (by simp), (by rw [List.length_cons, List.length_take, List.length_singleton, sizeLine_eq]; omega), (fun z => nomatch z), fun _ p6 n6 => ?_⟩
        have k6 : TK H5 (upd H5 p6 (.tup ((V.str nm :: ys.take j) ++ [v]))) := TK.new n6 _
        have sm6 : Same H (upd H5 p6 (.tup ((V.str nm :: ys.take j) ++ [v]))) := same_new sm5 n6 _
        have m6 : (upd H5 p6 (.tup ((V.str nm :: ys.take j) ++ [v]))) p6 = some (.tup ((V.str nm :: ys.take j) ++ [v])) := upd_same
        replace sq := k6.sq sq
        replace all := Tms.mono k6 _ _ all
        replace tz := Tm.mono k6 _ _ tz
        generalize upd H5 p6 (.tup ((V.str nm :: ys.take j) ++ [v])) = H6 at sm6 m6 sq all tz
        refine ⟨.ref b, rfl, .int (1 + (j : Int)), rfl, _, _, rfl, rfl, _, rfl, b, _, rfl, sq, hi1, fun p7 n7 => ?_⟩
        rw [hi2]
        have k7 : TK H6 (upd H6 p7 (.tup (ys.drop (j + 1)))) := TK.new n7 _
        have sm7 : Same H (upd H6 p7 (.tup (ys.drop (j + 1)))) := same_new sm6 n7 _
        have m7 : (upd H6 p7 (.tup (ys.drop (j + 1)))) p7 = some (.tup (ys.drop (j + 1))) := upd_same
        have m6' := (k7 _ _).1 m6
        replace all := Tms.mono k7 _ _ all
        replace tz := Tm.mono k7 _ _ tz
        generalize upd H6 p7 (.tup (ys.drop (j + 1))) = H7 at sm7 m7 m6' all tz
        have done : ∀ (g : Addr) (H8 : Hp), Same H H8 → TK H7 H8 → H8 g = some (.tup (((V.str nm :: ys.take j) ++ [v]) ++ ys.drop (j + 1))) → Q (.ref g) H8 := by
          intro g H8 sm8 k8 m8
          refine q _ _ sm8 ⟨g, ys.take j ++ v :: ys.drop (j + 1), rfl, .inl (.inl ?_), ?_⟩
          · rw [m8, List.append_assoc]
            rfl
          · rcases Tms.set j (Tms.mono k8 _ _ all) (Tm.mono k8 _ _ tz) with z | z
            · exact z
            · have := (List.getElem?_eq_some_iff.mp hu).1
              omega
        refine ⟨p6, p7, _, _, rfl, rfl, .inl (.inl m6'), .inl (.inl m7), (by simp), ?_, fun e => ?_, fun e p8 n8 => ?_⟩
        · rw [List.length_append, List.length_cons, List.length_take, List.length_singleton, List.length_drop, sizeLine_eq]
          omega
        · refine done p6 H7 sm7 (TK.refl _) ?_
          rw [e, List.append_nil]
          exact m6'
        · exact done p8 _ (same_new sm7 n8 _) (TK.new n8 _) upd_same
end
end Ad

namespace Ad
open PySem PySem.Spec PySem.Calls PyProof.Rows L2 GxR
abbrev sLPut : Stmt := topS 24
theorem scLPut : FnScope ["_law_term", "_law_known", "_law_part"] ["_law_term", "_law_known"] (defScope sLPut) := ⟨rfl, rfl, rfl, by decide +kernel, rfl, by decide +kernel, by decide +kernel⟩
section
variable {P : Program} {w : World} {K : PySem.W.Frag} {mg : Str → Option Value} {base : Heap}
theorem ok_lput {f fV : Addr} {fd fdV : FuncData} {k : Nat} (F : Fun K "_law_put" "_law_put" sLPut f fd) (gF : mg "_law_put" = some (.ref f)) (bF : Binds K fd ["_law_term", "_law_known"] [])
    (G : FnOk P w K mg base CX0 k fV fdV ["_law_term"] (spIsVar K)) (gV : mg "_law_is_var" = some (.ref fV)) (kV : PySem.W.keepIn K (.ref fV) = true) (bV : Binds K fdV ["_law_term"] []) (mt : mg "tuple" = none) :
    ∀ n, FnOk P w K mg base CX0 (k + n) f fd ["_law_term", "_law_known"] (spFilled K n)
  | 0 => vac fun vs H Q E ⟨t, x, d, tb, kvs, _, _, _, _, z, _⟩ => absurd z (Nat.not_lt_zero _)
  | n + 1 => by
    have IH := ok_lput F gF bF G gV kV bV mt n
    refine F.ok scLPut (fun vs H Q E h => ?_) (fun cdv A outer s H vs Q E hr h => ?_)
    · obtain ⟨t, x, d, tb, kvs, rfl, _⟩ := h
      rfl
    · obtain ⟨t, x, d, tb, kvs, rfl, ht, hd, htb, shallow, small, q⟩ := h
      refine ⟨_, pss_cons (ps_if (pt_val (pe_call G (hr.mono (Nat.le_add_right _ _)) (by rfl) gV kV bV .nil pass0 (pa_cons (pv 0) pa_nil))) (pss_one (ps_ret (pe_dget2 (hu1 hr) (pv 1) (pv 0) (pv 0) ⟨rfl, rfl, rfl, rfl⟩))) pss_nil)
        (pss_one (ps_ret (pe_op op_catT (pe_tup (pa_cons (pe_ix ix_tup (pv 0) pe_int (fun _ _ => rfl)) pa_nil)) (pe_callTy call_tuple_of (by rfl) mt (by decide +kernel) (pa_cons
          (pe_lc (own := [("_law_part", 2)]) (g := gName 2) (tt := tYes) rfl scLPut.nd (pi_tup (pe_slice sl_tup (pv 0) (po_some pe_int) po_none)) (blkOk_by (N := ["_law_term", "_law_known", "_law_part"]) (sc := defScope sLPut) (by decide +kernel))
            (fun _ _ _ _ _ => pg_name (i := 2) scLPut.nd rfl (.inl rfl)) (fun _ _ _ _ _ => pts_nil)
            (fun _ _ _ _ _ => pe_call IH hr (by rfl) gF F.kp bF .nil pass0 (pa_cons (pv 2) (pa_cons (pv 1) pa_nil)))) pa_nil))))), ?_⟩
      refine ⟨x, rfl, t, x, rfl, ht, _, rfl, ?_⟩
      cases t with
      | v i =>
        cases (show x = .int i from ht)
        refine iteT ?_
        refine ⟨.ref d, rfl, d, rfl, .inl ⟨kvs, .inl hd⟩, .int i, rfl, .int i, rfl, _, DGet.k (k := Sum.inl i) hd, ?_⟩
        rcases htb.val i with ⟨a, b⟩ | ⟨t', v', a, b, tv⟩
        · rw [b]
          refine q (.int i) H (fun b o e => e) ?_
          show Tm K H ((tb.look i).getD (.v i)) (.int i)
          rw [a]
          exact rfl
        · rw [b]
          refine q v' H (fun b o e => e) ?_
          show Tm K H ((tb.look i).getD (.v i)) v'
          rw [a]
          exact tv
      | f nm ts =>
        obtain ⟨a, zs, rfl, sq, all⟩ := ht
        refine iteF ?_
        refine ⟨.ref a, rfl, a, _, 0, .str nm, rfl, rfl, sq, atI_nat (j := 0) rfl, (by show 1 ≤ sizeLine; decide), fun p0 n0 => ?_⟩
        have k0 := TK.new n0 (.tup [.str nm])
        have sm0 : Same H (upd H p0 (.tup [.str nm])) := same_new (fun b o e => e) n0 _
        have m0 : (upd H p0 (.tup [.str nm])) p0 = some (.tup [.str nm]) := upd_same
        replace sq := k0.sq sq
        replace all := Tms.mono k0 _ _ all
        generalize upd H p0 (.tup [.str nm]) = H0 at sm0 m0 sq all
        refine ⟨.ref a, rfl, 1, rfl, a, _, rfl, sq, cut_args.1, fun p1 n1 => ⟨p1, rfl, ⟨_, .inl (.inl upd_same)⟩, fun D nD => ?_⟩⟩
        rw [cut_args.2] at nD ⊢
        have sm1 : Same H (upd H0 p1 (.tup zs)) := same_new sm0 n1 _
        have m1 : (upd H0 p1 (.tup zs)) p1 = some (.tup zs) := upd_same
        have m01 : (upd H0 p1 (.tup zs)) p0 = some (.tup [.str nm]) := by rw [upd_ne (ne_of_none m0 n1)]; exact m0
        replace all := Tms.mono (TK.new n1 (.tup zs)) _ _ all
        generalize upd H0 p1 (.tup zs) = H1 at nD sm1 m1 m01 all ⊢
        have lz := all.len
        have szu : T.size (.f nm ts) = 1 + T.sizeL ts := rfl
        have lts := T.len_sizeL ts
        refine lc_tup (K := K) (a := p1) (xs := zs) (fun i G => ∃ acc, Same H1 G ∧ G D = some (.lst acc) ∧ Tms K G ((ts.take i).map (T.fill tb.asg)) acc) ⟨[], same_new (fun b o e => e) nD _, upd_same, rfl⟩ (fun i G _ ⟨_, sm, _⟩ => .inl (.inl (sm _ _ m1))) ?_ ?_
        · rintro i y G hy ⟨acc, sm, g, done⟩
          obtain ⟨u, hu, tu⟩ := (Tms.mono (TK.same sm) _ _ all).get hy
          have hm := List.mem_of_getElem? hu
          have d1 := T.dep_mem hm
          have d2 : T.dep (.f nm ts) = 1 + T.depL ts := rfl
          have d3 := T.size_mem hm
          have la := done.len
          rw [List.length_map, List.length_take] at la
          have smH : Same H G := fun b o e => sm _ _ (sm1 _ _ e)
          refine ⟨rfl, y, rfl, .ref d, rfl, u, y, d, tb, kvs, rfl, tu, smH _ _ hd, htb.mono (TK.same smH), by omega, by omega, fun v G2 sm2 tv => ⟨acc, sm2 _ _ g, by rw [sizeLine_eq]; omega, acc ++ [v], ?_, upd_same, ?_⟩⟩
          · have sm3 : Same H1 G2 := fun b o e => sm2 _ _ (sm _ _ e)
            exact same_on sm3 nD _
          · have k3 : TK G2 (upd G2 D (.lst (acc ++ [v]))) := TK.lst (sm2 _ _ g) _
            rw [List.take_add_one, hu, List.map_append]
            exact Tms.app (Tms.mono ((TK.same sm2).trans k3) _ _ done) (Tms.one (Tm.mono k3 _ _ tv))
        · rintro G ⟨acc, sm, g, done⟩
          rw [lz, List.take_length] at done
          have la := done.len
          rw [List.length_map] at la
          refine ⟨D, acc, rfl, .inl ⟨.inl (.inl g), fun p5 n5 => ?_⟩⟩
          have s5 : Same G (upd G p5 (.tup acc)) := same_new (fun b o e => e) n5 _
          have m5 : (upd G p5 (.tup acc)) p5 = some (.tup acc) := upd_same
          have m0' := s5 _ _ (sm _ _ m01)
          replace done := Tms.mono (TK.same s5) _ _ done
          have smH : Same H (upd G p5 (.tup acc)) := fun b o e => s5 _ _ (sm _ _ (sm1 _ _ e))
          generalize upd G p5 (.tup acc) = G5 at m5 m0' done smH
          refine ⟨p0, p5, _, _, rfl, rfl, .inl (.inl m0'), .inl (.inl m5), by simp, by rw [List.length_singleton, sizeLine_eq]; omega, fun e => ?_, fun e p6 n6 => ?_⟩
          · refine q _ _ smH ⟨p0, acc, rfl, ?_, ?_⟩
            · rw [e]
              exact .inl (.inl m0')
            · rw [T.fillL_map]
              exact done
          · refine q _ _ (same_new smH n6 _) ⟨p6, acc, rfl, .inl (.inl upd_same), ?_⟩
            rw [T.fillL_map]
            exact Tms.mono (TK.new n6 _) _ _ done
end
end Ad

namespace Ad
open PySem PySem.Spec PySem.Calls PyProof.Rows L2 GxR
abbrev sLPairs : Stmt := topS 32
theorem scLPairs : FnScope ["_law_known", "_law_variable"] ["_law_known"] (defScope sLPairs) := ⟨rfl, rfl, rfl, by decide +kernel, rfl, by decide +kernel, by decide +kernel⟩
section
variable {P : Program} {w : World} {K : PySem.W.Frag} {mg : Str → Option Value} {base : Heap}
theorem ok_lpairs {f : Addr} {fd : FuncData} {k : Nat} (F : Fun K "_law_pairs" "_law_pairs" sLPairs f fd) (mt : mg "tuple" = none) (ms : mg "sorted" = none) (ml : mg "list" = none) : FnOk P w K mg base CX0 (k + 1) f fd ["_law_known"] (spLPairs K) := by
  refine F.ok scLPairs (fun vs H Q E h => ?_) (fun cdv A outer s H vs Q E hr h => ?_)
  · obtain ⟨d, tb, kvs, rfl, _⟩ := h
    rfl
  · obtain ⟨d, tb, kvs, rfl, hd, tv, nd, few, good, q⟩ := h
    refine ⟨_, pss_one (ps_ret (pe_callTy Dt.call_tuple0 (by rfl) mt (by decide +kernel) (pa_cons
      (pe_lc (own := [("_law_variable", 1)]) (g := gName 1) (tt := tTest (tOp (rNeD K) (tDGet (tVar 0) (tVar 1)) (tVar 1))) (te := tTup (tCons (tVar 1) (tCons (tDGet (tVar 0) (tVar 1)) tNil))) rfl scLPairs.nd
        (pi_list (pe_callB cr_sorted (by rfl) ms (by decide +kernel) (pa_cons (pe_callTy (call_list_dK rfl) (by rfl) ml (by decide +kernel) (pa_cons (pv 0) pa_nil)) pa_nil)))
        (blkOk_by (N := ["_law_known", "_law_variable"]) (sc := defScope sLPairs) (by decide +kernel)) (fun _ _ _ _ _ => pg_name (i := 1) scLPairs.nd rfl (.inl rfl))
        (fun _ _ _ _ _ => pts_one (pt_cmpR (r := rNeD K) (op_neD (hu64 hr)) (pe_dget (hu1 hr) (pv 0) (pv 1) (fun _ _ => rfl)) (pv 1) (nomark _)))
        (fun _ _ _ _ _ => pe_tup (pa_cons (pv 1) (pa_cons (pe_dget (hu1 hr) (pv 0) (pv 1) (fun _ _ => rfl)) pa_nil)))) pa_nil))), ?_⟩
    refine ⟨.ref d, rfl, d, kvs, rfl, hd, fun p0 n0 => ?_⟩
    have keys : (kvs.map fun kv => kV kv.1) = (tb.map (·.1)).map V.int := by
      have e : (kvs.map fun kv => kV kv.1) = (kvs.map (·.1)).map kV := by rw [List.map_map]; rfl
      rw [e, tv.keys, List.map_map]
      rfl
    rw [keys]
    have sm0 : Same H (upd H p0 (.lst ((tb.map (·.1)).map V.int))) := same_new (fun b o e => e) n0 _
    have m0 : (upd H p0 (.lst ((tb.map (·.1)).map V.int))) p0 = some (.lst ((tb.map (·.1)).map V.int)) := upd_same
    generalize upd H p0 (.lst ((tb.map (·.1)).map V.int)) = H0 at sm0 m0
    refine ⟨p0, _, rfl, .inl (.inl m0), by rw [List.length_map]; exact few, fun ks p perm le np => ⟨p, rfl, ⟨_, .inl (.inl upd_same)⟩, fun D nD => ?_⟩⟩
    have rising : ks.Pairwise (· < ·) := by
      have nd2 : ks.Nodup := perm.nodup_iff.mpr nd
      exact (le.and nd2).imp fun {a b} h => by
        obtain ⟨h1, h2⟩ := h
        omega
    have all : ∀ i, i ∈ ks ↔ i ∈ tb.map (·.1) := fun i => perm.mem_iff
    have sm1 : Same H (upd H0 p (.lst (ks.map V.int))) := same_new sm0 np _
    have m1 : (upd H0 p (.lst (ks.map V.int))) p = some (.lst (ks.map V.int)) := upd_same
    generalize upd H0 p (.lst (ks.map V.int)) = H1 at sm1 m1 nD ⊢
    have nD' : H D = none := by
      cases z : H D with
      | none => rfl
      | some o =>
        rw [sm1 _ _ z] at nD
        cases nD
    refine lc_list (K := K) (a := p) (xs := ks.map V.int) (fun i G => ∃ ys, Same H1 G ∧ G D = some (.lst ys) ∧ F2 (fun e y => ∃ b, y = V.ref b ∧ SP K G e b) (tb.sel (ks.take i)) ys) ⟨[], same_new (fun b o e => e) nD _, upd_same, rfl⟩ (fun i G _ ⟨_, sm, _⟩ => .inl (.inl (sm _ _ m1))) ?_ ?_
    · rintro i x G hx ⟨ys, sm, gD, done⟩
      have hlt : i < ks.length := by
        have := (List.getElem?_eq_some_iff.mp hx).1
        rwa [List.length_map] at this
      have hk : ks[i]? = some ks[i] := List.getElem?_eq_getElem hlt
      rw [List.getElem?_map, hk] at hx
      cases hx
      generalize ks[i] = v at hk
      have smH : Same H G := fun b o e => sm _ _ (sm1 _ _ e)
      obtain ⟨t, u, lk, val, tu⟩ := (tv.mono (TK.same smH)).at ((all v).1 (List.mem_of_getElem? hk))
      have get : DGet G d (kV (.inl v)) (some u) := by
        have z : DGet G d (kV (.inl v)) (valV kvs (.inl v)) := DGet.k (smH _ _ hd)
        rw [val] at z
        exact z
      obtain ⟨n1, n2⟩ := good (v, t) (Sb.look_mem lk)
      have n2' : t.dep ≤ 60 := n2
      refine ⟨rfl, .ref d, rfl, .int v, rfl, d, u, rfl, get, .int v, rfl, t.d, .int v, Tm.dp _ _ tu, .int v, T.shaped n1 (by omega), int_shaped v, _, rfl, ?_⟩
      rw [T.eqv_var]
      have st := Sb.sel_take (tb := tb) hk
      cases hv : t.isVar v with
      | true =>
        refine iteF ?_
        refine ⟨ys, sm, gD, ?_⟩
        have pk : tb.pick v = none := by
          unfold Sb.pick
          rw [lk]
          exact if_pos hv
        rw [st, pk, List.append_nil]
        exact done
      | false =>
        refine iteT ?_
        have pk : tb.pick v = some (v, t) := Sb.pick_iff.2 ⟨rfl, lk, hv⟩
        refine ⟨.int v, rfl, .ref d, rfl, .int v, rfl, d, u, rfl, get, (by show 2 ≤ sizeLine; decide), fun b nb => ?_⟩
        have ls : (tb.sel (ks.take i)).length ≤ i := by
          have := List.length_filterMap_le tb.pick (ks.take i)
          rw [List.length_take] at this
          unfold Sb.sel
          omega
        have ly := done.len
        have lks := perm.length_eq
        rw [List.length_map] at lks
        have sb : Same G (upd G b (.tup [.int v, u])) := same_new (fun b o e => e) nb _
        have gD' := sb _ _ gD
        have kd : TK (upd G b (.tup [.int v, u])) (upd (upd G b (.tup [.int v, u])) D (.lst (ys ++ [.ref b]))) := TK.lst gD' _
        have smb : Same H1 (upd G b (.tup [.int v, u])) := fun b o e => sb _ _ (sm _ _ e)
        have kb := (TK.same sb).trans kd
        have atb : (upd (upd G b (.tup [.int v, u])) D (.lst (ys ++ [.ref b]))) b = some (.tup [.int v, u]) := (kd _ _).1 upd_same
        refine ⟨ys, gD', by rw [sizeLine_eq]; omega, ys ++ [.ref b], same_on smb nD _, upd_same, ?_⟩
        rw [st, pk]
        exact F2.app (F2.mono (fun e y ⟨b', e', z⟩ => ⟨b', e', SP.mono kb _ _ z⟩) done) (F2.one ⟨b, rfl, u, .inl (.inl atb), Tm.mono kb _ _ tu⟩)
    · rintro G ⟨ys, sm, gD, done⟩
      rw [List.length_map, List.take_length] at done
      refine ⟨D, ys, rfl, .inl (.inl gD), fun z o nz od => ?_⟩
      obtain ⟨bs, rfl, fb⟩ : ∃ bs, ys = bs.map V.ref ∧ F2 (SP K G) (tb.sel ks) bs := by
        have key : ∀ (es : Sb) (ys : List V), F2 (fun e y => ∃ b, y = V.ref b ∧ SP K G e b) es ys → ∃ bs, ys = bs.map V.ref ∧ F2 (SP K G) es bs := by
          intro es
          induction es with
          | nil =>
            intro ys h
            cases (show ys = [] from h)
            exact ⟨[], rfl, rfl⟩
          | cons e es ih =>
            rintro ys ⟨y, r, rfl, ⟨b, rfl, sp⟩, rest⟩
            obtain ⟨bs, e1, e2⟩ := ih r rest
            exact ⟨b :: bs, by rw [e1]; rfl, b, bs, rfl, sp, e2⟩
        exact key _ _ done
      have kz : TK G (upd G z (.frz o (.tup (bs.map V.ref)))) := TK.new nz _
      have smH : Same H G := fun b o e => sm _ _ (sm1 _ _ e)
      exact q (tb.sel ks) _ _ (Sb.norm_sel rising all) ⟨z, bs, rfl, ⟨o, upd_same, od⟩, F2.mono (SP.mono kz) fb⟩ (same_new smH nz _)
end
end Ad

namespace Ad
open PySem PySem.Spec PySem.Calls PyProof.Rows L2
abbrev sOrder : Stmt := topS 20
theorem scOrder : FnScope ["_law_pen_here", "_law_things", "_law_truths", "_law_rows", "_law_kind", "_law_blend", "_law_lap", "_law_name", "_law_arity"] ["_law_pen_here"] (defScope sOrder) := ⟨rfl, rfl, rfl, by decide +kernel, rfl, by decide +kernel, by decide +kernel⟩
section
variable {P : Program} {w : World} {K : PySem.W.Frag} {mg : Str → Option Value} {base : Heap}
theorem ok_order {f fD fP : Addr} {fd fdD fdP : FuncData} {k : Nat} (F : Fun K "_law_drawn_order" "_law_drawn_order" sOrder f fd)
    (GD : FnOk P w K mg base CX0 k fD fdD ["_law_pen_here", "_law_many"] Pn.spDraw) (gD : mg "_law_draw" = some (.ref fD)) (kD : PySem.W.keepIn K (.ref fD) = true) (bD : Binds K fdD ["_law_pen_here", "_law_many"] [])
    (GP : FnOk P w K mg base CX0 k fP fdP ["_law_pen_here", "_law_some"] (Pn.spPick K)) (gP : mg "_law_pick" = some (.ref fP)) (kP : PySem.W.keepIn K (.ref fP) = true) (bP : Binds K fdP ["_law_pen_here", "_law_some"] []) (mt : mg "tuple" = none) (mr : mg "range" = none) (mL : mg "list" = none) (ml : mg "len" = none) :
    FnOk P w K mg base CX0 (k + 1) f fd ["_law_pen_here"] (spOrder K) := by
  refine F.ok scOrder (fun vs H Q E h => ?_) (fun cdv A outer s H vs Q E hr h => ?_)
  · obtain ⟨p, l, ns, c, rfl, _⟩ := h
    rfl
  · obtain ⟨p, l, ns, c, rfl, hP, hlen, hc, q⟩ := h
    refine' ⟨_, C8.pss_cut ?s1 (C8.pss_cut ?s2 (C8.pss_cut ?s3 (pss_cons ?s4 (pss_cons ?s5 (pss_one ?s6))))), ?_⟩
    case s1 => exact (ps_set (i := 1) scOrder.nd rfl (.inl rfl) (pe_op op_cat (pe_op op_cat (pe_lst (pa_cons (pe_tup (pa_cons pe_str (pa_cons pe_int pa_nil))) (pa_cons (pe_tup (pa_cons pe_str (pa_cons pe_int pa_nil))) pa_nil)))
          (pe_ifExp (pt_cmpR op_eq (pe_call GD hr (by rfl) gD kD bD .nil pass0 (pa_cons (pv 0) (pa_cons pe_int pa_nil))) pe_int (nomark _)) (pe_lst (pa_cons (pe_tup (pa_cons pe_str (pa_cons pe_int pa_nil))) pa_nil)) (pe_lst pa_nil)))
          (pe_lst (pa_cons (pe_tup (pa_cons pe_str (pa_cons pe_int pa_nil))) pa_nil))))
    case s2 => exact (ps_set (i := 1) scOrder.nd rfl (.inl rfl) (pe_op op_cat (pv 1)
          (pe_ifExp (pt_cmpR op_eq (pe_call GD hr (by rfl) gD kD bD .nil pass0 (pa_cons (pv 0) (pa_cons pe_int pa_nil))) pe_int (nomark _)) (pe_lst (pa_cons (pe_tup (pa_cons pe_str (pa_cons pe_int pa_nil))) pa_nil)) (pe_lst pa_nil))))
    case s3 => exact (ps_set (i := 2) scOrder.nd rfl (.inl rfl) (pe_op op_cat (pe_lst (pa_cons (pe_tup (pa_cons pe_str (pa_cons pe_int pa_nil))) pa_nil))
          (pe_call GP hr (by rfl) gP kP bP .nil pass0 (pa_cons (pv 0) (pa_cons (pe_lst (pa_cons (pe_lst (pa_cons (pe_tup (pa_cons pe_str (pa_cons pe_int pa_nil))) pa_nil)) (pa_cons (pe_lst (pa_cons (pe_tup (pa_cons pe_str (pa_cons pe_int pa_nil))) pa_nil)) (pa_cons (pe_lst (pa_cons (pe_tup (pa_cons pe_str (pa_cons pe_int pa_nil))) (pa_cons (pe_tup (pa_cons pe_str (pa_cons pe_int pa_nil))) pa_nil))) pa_nil)))) pa_nil)))))
    case s4 => exact (ps_set (i := 3) scOrder.nd rfl (.inl rfl) (pe_lst pa_nil))
    case s5 => exact (ps_for PassesOwn.never rfl (pi_list (pe_lst (pa_cons (pv 1) (pa_cons (pv 2) pa_nil)))) (pg_name (i := 4) scOrder.nd rfl (.inl rfl))
        (pss_cons (ps_par (i := 4) (j := 5) (by rfl) scOrder.nd rfl rfl (by decide) rfl rfl (pa_cons (pe_callTy call_list_of (by rfl) mL (by decide +kernel) (pa_cons (pv 4) pa_nil)) (pa_cons (pe_lst pa_nil) pa_nil)) (by rfl))
        (pss_cons (ps_for PassesOwn.never rfl (pi_range1 (by rfl) mr (pa_cons (pe_callB call_len_seq (by rfl) ml PySem.boot_len (pa_cons (pv 4) pa_nil)) pa_nil)) (pg_name (i := 6) scOrder.nd rfl (.inl rfl))
          (pss_cons (ps_asg (pe_bm PySem.F.plainAttrs_list PySem.F.slot_list_pop PySem.F.type_list_pop mt_popAt (pv 4) (pa_cons (pe_call GD hr (by rfl) gD kD bD .nil pass0 (pa_cons (pv 0) (pa_cons (pe_callB call_len_seq (by rfl) ml PySem.boot_len (pa_cons (pv 4) pa_nil)) pa_nil))) pa_nil)) (pg_tup rfl (pgs_cons (pg_name (i := 7) scOrder.nd rfl (.inl rfl)) (pgs_cons (pg_name (i := 8) scOrder.nd rfl (.inl rfl)) pgs_nil))))
          (pss_one (ps_expr (pe_bm PySem.F.plainAttrs_list PySem.F.slot_list_append PySem.F.type_list_append mt_append (pv 5) (pa_cons (pe_tup (pa_cons (pv 7) (pa_cons (pv 8) (pa_cons (pe_call GP hr (by rfl) gP kP bP .nil pass0 (pa_cons (pv 0) (pa_cons (pe_lst (pa_cons pe_int (pa_cons pe_int (pa_cons pe_int pa_nil)))) pa_nil))) pa_nil)))) pa_nil))))))
        (pss_one (ps_expr (pe_bm PySem.F.plainAttrs_list PySem.F.slot_list_append PySem.F.type_list_append mt_append (pv 3) (pa_cons (pe_callTy call_tuple_of (by rfl) mt (by decide +kernel) (pa_cons (pv 5) pa_nil)) pa_nil)))))))
    case s6 => exact (ps_ret (pe_tup (pa_cons (pe_ix ix_list (pv 3) pe_int (fun _ _ => rfl)) (pa_cons (pe_ix ix_list (pv 3) pe_int (fun _ _ => rfl)) pa_nil))))
    refine ⟨fun σ G => ∃ (th : Addr) (R : List Pr) (c1 : Nat), σ = [some (.ref p), some (.ref th), none, none, none, none, none, none, none] ∧ LsP K G R th ∧ H th = none ∧ R ∈ [[(("a" : Str), 0), ("b", 0), ("c", 0), ("f", 1)], [("a", 0), ("b", 0), ("f", 1)]] ∧ Pn.Pen G p l ns c1 ∧ c1 ≤ c + 1 ∧ Pn.But p H G, ?_, ?_⟩
    · dsimp only [tAsg, tOp, tIf, tTest]
      refine lit_ls2 K (x := "a") (y := "b") (n := 0) (m := 0) fun a1 G1 s1 n1 L1 => ?_
      have P1 := pen_same hP s1
      refine ⟨.ref p, rfl, p, l, ns, c, 3, rfl, P1, hlen, by omega, by decide, by decide, fun r G2 r0 r1 P2 b2 => ⟨rfl, _, rfl, ?_⟩⟩
      have na := pen_kept hP n1
      replace L1 := LsP.but P1 b2 na L1
      have b12 : Pn.But p H G2 := (Pn.But.of s1).trans b2
      refine ite2 (fun _ => ?_) (fun _ => ?_)
      · refine lit_ls1 K (x := "c") (n := 0) fun a3 G3 s3 n3 L3 => ?_
        refine cat_prs (L1.same s3) L3 (by decide) fun a4 G4 s4 n4 L4 => ?_
        refine lit_ls1 K (x := "f") (n := 1) fun a5 G5 s5 n5 L5 => ?_
        refine cat_prs (L4.same s5) L5 (by decide) fun a6 G6 s6 n6 L6 => ?_
        have sm : Same G2 G5 := fun b o e => s5 b o (s4 b o (s3 b o e))
        have b5 := b12.trans (Pn.But.of sm)
        exact ⟨a6, _, c + 1, rfl, L6, fresh_back b5 (pen_same P2 sm) n6, by simp, pen_same (pen_same P2 sm) s6, Nat.le_refl _, b5.trans (Pn.But.of s6)⟩
      · refine lit_ls0 K fun a3 G3 s3 n3 L3 => ?_
        refine cat_prs (L1.same s3) L3 (by decide) fun a4 G4 s4 n4 L4 => ?_
        refine lit_ls1 K (x := "f") (n := 1) fun a5 G5 s5 n5 L5 => ?_
        refine cat_prs (L4.same s5) L5 (by decide) fun a6 G6 s6 n6 L6 => ?_
        have sm : Same G2 G5 := fun b o e => s5 b o (s4 b o (s3 b o e))
        have b5 := b12.trans (Pn.But.of sm)
        exact ⟨a6, _, c + 1, rfl, L6, fresh_back b5 (pen_same P2 sm) n6, by simp, pen_same (pen_same P2 sm) s6, Nat.le_refl _, b5.trans (Pn.But.of s6)⟩
    rintro σ G ⟨th, R, c1, rfl, LR, nth, hR, P1, hc1, b1⟩
    refine ⟨fun σ G => ∃ (th : Addr) (R : List Pr) (c1 : Nat), σ = [some (.ref p), some (.ref th), none, none, none, none, none, none, none] ∧ LsP K G R th ∧ H th = none ∧ R ∈ thingsB ∧ Pn.Pen G p l ns c1 ∧ c1 ≤ c + 2 ∧ Pn.But p H G, ?_, ?_⟩
    · dsimp only [tAsg, tOp, tIf, tTest]
      refine ⟨.ref th, rfl, .ref p, rfl, p, l, ns, c1, 2, rfl, P1, hlen, by omega, by decide, by decide, fun r G2 r0 r1 P2 b2 => ⟨rfl, _, rfl, ?_⟩⟩
      have na := pen_kept hP nth
      replace LR := LsP.but P1 b2 na LR
      have b12 : Pn.But p H G2 := b1.trans b2
      refine ite2 (fun _ => ?_) (fun _ => ?_)
      · refine lit_ls1 K (x := "g") (n := 2) fun a3 G3 s3 n3 L3 => ?_
        refine cat_prs (LR.same s3) L3 ?_ fun a4 G4 s4 n4 L4 => ?_
        · rcases List.mem_cons.mp hR with e | e
          · rw [e]; decide
          · rw [List.mem_singleton.mp e]; decide
        have b5 := b12.trans (Pn.But.of s3)
        refine ⟨a4, _, c1 + 1, rfl, L4, fresh_back b5 (pen_same P2 s3) n4, ?_, pen_same (pen_same P2 s3) s4, by omega, b5.trans (Pn.But.of s4)⟩
        rcases List.mem_cons.mp hR with e | e
        · rw [e]; decide
        · rw [List.mem_singleton.mp e]; decide
      · refine lit_ls0 K fun a3 G3 s3 n3 L3 => ?_
        refine cat_prs (LR.same s3) L3 ?_ fun a4 G4 s4 n4 L4 => ?_
        · rcases List.mem_cons.mp hR with e | e
          · rw [e]; decide
          · rw [List.mem_singleton.mp e]; decide
        have b5 := b12.trans (Pn.But.of s3)
        refine ⟨a4, _, c1 + 1, rfl, L4, fresh_back b5 (pen_same P2 s3) n4, ?_, pen_same (pen_same P2 s3) s4, by omega, b5.trans (Pn.But.of s4)⟩
        rcases List.mem_cons.mp hR with e | e
        · rw [e]; decide
        · rw [List.mem_singleton.mp e]; decide
    clear hR LR nth P1 hc1 b1 R th c1 G
    rintro σ G ⟨th, R, c1, rfl, LR, nth, hR, P1, hc1, b1⟩
    refine ⟨fun σ G => ∃ (tr : Addr) (S : List Pr) (c1 : Nat), σ = [some (.ref p), some (.ref th), some (.ref tr), none, none, none, none, none, none] ∧ LsP K G R th ∧ LsP K G S tr ∧ H tr = none ∧ S ∈ truthsB ∧ Pn.Pen G p l ns c1 ∧ c1 ≤ c + 3 ∧ Pn.But p H G, ?_, ?_⟩
    · dsimp only [tAsg, tOp, tCall]
      refine lit_ls1 K (x := "p") (n := 1) fun a1 G1 s1 n1 L1 => ?_
      refine ⟨.ref p, rfl, ?_⟩
      refine lit_truths K fun a2 G2 xs s2 n2 e2 len2 mem2 => ?_
      have sm : Same G G2 := fun b o e => s2 b o (s1 b o e)
      have P2 := pen_same P1 sm
      have na1 : a1 ≠ p := pen_kept P1 n1
      have na2 : a2 ≠ p := pen_kept (pen_same P1 s1) n2
      refine ⟨p, l, a2, ns, c1, xs, rfl, P2, hlen, by omega, .inl (.inl (.inl e2)), (by intro z; rw [z] at len2; cases len2), by omega, na2, fun x G3 hx P3 b3 => ?_⟩
      obtain ⟨b, S, rfl, nb, Lb, hS⟩ := mem2 x hx
      have nbp : b ≠ p := pen_kept (pen_same P1 s1) nb
      refine cat_prs (LsP.but P2 b3 na1 (L1.same s2)) (LsP.but P2 b3 nbp Lb) ?_ fun a4 G4 s4 n4 L4 => ?_
      · simp only [List.mem_cons, List.mem_nil_iff, or_false] at hS
        rcases hS with e | e | e <;> rw [e] <;> decide
      have b5 := (b1.trans (Pn.But.of sm)).trans b3
      refine ⟨a4, _, c1 + 1, rfl, ?_, L4, fresh_back b5 P3 n4, ?_, pen_same P3 s4, by omega, b5.trans (Pn.But.of s4)⟩
      · exact (LsP.but P2 b3 (pen_kept hP nth) (LR.same sm)).same s4
      · simp only [List.mem_cons, List.mem_nil_iff, or_false] at hS
        rcases hS with e | e | e <;> rw [e] <;> decide
    clear LR P1 hc1 b1 c1 G
    rintro σ G ⟨tr, S, c1, rfl, LR, LS, ntr, hS, P1, hc1, b1⟩
    refine ⟨by decide, fun rw nrw => ?_⟩
    have nrwH := fresh_back b1 P1 nrw
    have thrw : th ≠ rw := by
      obtain ⟨vs, e, _⟩ := LR
      exact ne_of_none e nrw
    have trrw : tr ≠ rw := by
      obtain ⟨vs, e, _⟩ := LS
      exact ne_of_none e nrw
    have s0 : Same G (upd G rw (.lst [])) := same_new (fun b o e => e) nrw _
    replace LR := LR.same s0
    replace LS := LS.same s0
    replace P1 := pen_same P1 s0
    replace b1 := b1.trans (Pn.But.of s0)
    have erw : (upd G rw (.lst [])) rw = some (.lst []) := upd_same
    clear s0 nrw
    generalize upd G rw (.lst []) = G0 at LR LS P1 b1 erw ⊢
    refine ⟨.ref th, rfl, .ref tr, rfl, (by show 2 ≤ sizeLine; decide), fun it nit => ⟨it, rfl, ⟨_, .inl (.inl upd_same)⟩, ?_⟩⟩
    have nitH := fresh_back b1 P1 nit
    have itrw : it ≠ rw := fun z => by rw [z, erw] at nit; cases nit
    have s0 : Same G0 (upd G0 it (.lst [.ref th, .ref tr])) := same_new (fun b o e => e) nit _
    replace LR := LR.same s0
    replace LS := LS.same s0
    replace P1 := pen_same P1 s0
    replace b1 := b1.trans (Pn.But.of s0)
    replace erw := s0 _ _ erw
    have eit : (upd G0 it (.lst [.ref th, .ref tr])) it = some (.lst [.ref th, .ref tr]) := upd_same
    clear s0 nit
    generalize upd G0 it (.lst [.ref th, .ref tr]) = G1 at LR LS P1 b1 erw eit ⊢
    have thp := pen_kept hP nth
    have trp := pen_kept hP ntr
    have rwp := pen_kept hP nrwH
    have itp := pen_kept hP nitH
    refine for_list (K := K) (a := it) (xs := [.ref th, .ref tr]) (fun i σ G => ∃ (v4 v5 v6 v7 v8 : Option V) (c2 : Nat) (rvs : List V), σ = [some (.ref p), some (.ref th), some (.ref tr), some (.ref rw), v4, v5, v6, v7, v8] ∧ Pn.Pen G p l ns c2 ∧ c2 ≤ c + 3 + i * 10 ∧ Pn.But p H G ∧ LsP K G R th ∧ LsP K G S tr ∧
      G rw = some (.lst rvs) ∧ F2 (KdV K G) ([R, S].take i) rvs ∧ G it = some (.lst [.ref th, .ref tr])) ⟨none, none, none, none, none, c1, [], rfl, P1, by omega, b1, LR, LS, erw, rfl, eit⟩ (fun i σ G _ ⟨_, _, _, _, _, _, _, _, _, _, _, _, _, _, _, e⟩ => .inl (.inl e)) ?_ ?_
    · clear LR LS P1 b1 erw eit G1 G0 hc1 c1 G
      rintro i x σ G hx ⟨v4, v5, v6, v7, v8, c2, rvs, rfl, P2, hc2, b2, LR, LS, erw, frw, eit⟩
      obtain ⟨kd0, B, hB, rfl, LB, nkp, hlt, fewB⟩ : ∃ kd0 B, [R, S][i]? = some B ∧ x = .ref kd0 ∧ LsP K G B kd0 ∧ kd0 ≠ p ∧ i < 2 ∧ B.length ≤ 5 := by
        match i, hx with
        | 0, hx =>
          refine ⟨th, R, rfl, (Option.some.inj hx).symm, LR, thp, by omega, ?_⟩
          have : (thingsB.all fun B => decide (B.length ≤ 5)) = true := by decide
          exact of_decide_eq_true (List.all_eq_true.mp this R hR)
        | 1, hx =>
          refine ⟨tr, S, rfl, (Option.some.inj hx).symm, LS, trp, by omega, ?_⟩
          have : (truthsB.all fun B => decide (B.length ≤ 5)) = true := by decide
          exact of_decide_eq_true (List.all_eq_true.mp this S hS)
      obtain ⟨ks, ek, fk⟩ := LB
      refine ⟨.ref kd0, rfl, kd0, ks, rfl, .inl (.inl (.inl ek)), fun kd nkd => ⟨Nat.zero_le _, fun bl nbl => ⟨.ref kd, .ref bl, rfl, ?_⟩⟩⟩
      have nkdH := fresh_back b2 P2 nkd
      have s0 : Same G (upd G kd (.lst ks)) := same_new (fun b o e => e) nkd _
      have ekd : (upd G kd (.lst ks)) kd = some (.lst ks) := upd_same
      have rwkd : rw ≠ kd := ne_of_none erw nkd
      have thkd : th ≠ kd := by
        obtain ⟨vs, e, _⟩ := LR
        exact ne_of_none e nkd
      have trkd : tr ≠ kd := by
        obtain ⟨vs, e, _⟩ := LS
        exact ne_of_none e nkd
      have itkd : it ≠ kd := ne_of_none eit nkd
      replace LR := LR.same s0
      replace LS := LS.same s0
      replace P2 := pen_same P2 s0
      replace b2 := b2.trans (Pn.But.of s0)
      replace erw := s0 _ _ erw
      replace eit := s0 _ _ eit
      replace fk := fk.mono (PrV.mono (TK.same s0))
      replace frw := frw.mono (KdV.mono (TK.same s0))
      clear s0 nkd ek
      generalize upd G kd (.lst ks) = G2 at ekd LR LS P2 b2 erw eit fk frw nbl ⊢
      have nblH := fresh_back b2 P2 nbl
      have s0 : Same G2 (upd G2 bl (.lst [])) := same_new (fun b o e => e) nbl _
      have ebl : (upd G2 bl (.lst [])) bl = some (.lst []) := upd_same
      have rwbl : rw ≠ bl := ne_of_none erw nbl
      have thbl : th ≠ bl := by
        obtain ⟨vs, e, _⟩ := LR
        exact ne_of_none e nbl
      have trbl : tr ≠ bl := by
        obtain ⟨vs, e, _⟩ := LS
        exact ne_of_none e nbl
      have itbl : it ≠ bl := ne_of_none eit nbl
      have kdbl : kd ≠ bl := ne_of_none ekd nbl
      replace LR := LR.same s0
      replace LS := LS.same s0
      replace P2 := pen_same P2 s0
      replace b2 := b2.trans (Pn.But.of s0)
      replace erw := s0 _ _ erw
      replace eit := s0 _ _ eit
      replace ekd := s0 _ _ ekd
      replace fk := fk.mono (PrV.mono (TK.same s0))
      replace frw := frw.mono (KdV.mono (TK.same s0))
      clear s0 nbl
      generalize upd G2 bl (.lst []) = G3 at ekd ebl LR LS P2 b2 erw eit fk frw ⊢
      have kdp := pen_kept hP nkdH
      have blp := pen_kept hP nblH
      have lk := fk.len
      refine ⟨.ref kd, rfl, kd, ks, rfl, .inl (.inl (.inl ekd)), _, rfl, by omega, by omega, for_range (lo := 0) (n := ((ks.length : Int)).toNat) (fun j σ G => ∃ (v6 v7 v8 : Option V) (c3 : Nat) (rest : List Pr) (done : List Row) (rs ds : List V), σ = [some (.ref p), some (.ref th), some (.ref tr), some (.ref rw), some (.ref kd), some (.ref bl), v6, v7, v8] ∧
        Pn.Pen G p l ns c3 ∧ c3 ≤ c2 + j * 2 ∧ Pn.But p H G ∧ Bt p kd bl G3 G ∧ G kd = some (.lst rs) ∧ G bl = some (.lst ds) ∧ F2 (PrV K G) rest rs ∧ F2 (RowV K G) done ds ∧ done.length = j ∧ (rest ++ done.map fun r => (r.1, r.2.1)).Perm B ∧ ∀ r ∈ done, r.2.2 = 1 ∨ r.2.2 = 2)
        ⟨v6, v7, v8, c2, B, [], ks, [], rfl, P2, by omega, b2, Bt.refl _, ekd, ebl, fk, rfl, rfl, by rw [List.map_nil, List.append_nil], fun r hr => nomatch hr⟩ ?_ ?_⟩
      · rintro j σ G4 hj ⟨v6, v7, v8, c3, rest, done, rs, ds, rfl, P4, hc3, b4, t4, gk, gb, fr, fd, ld, perm, wts⟩
        have lr := fr.len
        have lds := fd.len
        have tot := perm.length_eq
        rw [List.length_append, List.length_map] at tot
        refine ⟨_, rfl, .inl ⟨rfl, _, .inl (.inl gk)⟩, .ref p, rfl, .ref kd, rfl, kd, rs, rfl, .inl (.inl (.inl gk)), p, l, ns, c3, _, rfl, P4, hlen, by omega, by omega, by omega, fun r G5 r0 r1 P5 b5 => ?_⟩
        obtain ⟨m, rfl⟩ : ∃ m : Nat, r = (m : Int) := ⟨r.toNat, by omega⟩
        have hm : m < rs.length := by omega
        have hg : rs[m]? = some rs[m] := List.getElem?_eq_getElem hm
        generalize rs[m] = y at hg
        have gk5 := b5 _ _ kdp gk
        have gb5 := b5 _ _ blp gb
        have k5 := pen_tk P4 b5
        obtain ⟨pr, hpr, ⟨b, rfl, sqb⟩⟩ := (fr.mono (PrV.mono k5)).get hg
        refine ⟨kd, rs, (m : Int), m, .ref b, rfl, rfl, gk5, by omega, by omega, sx_nat hm, hg, ?_⟩
        have k6 : TK G5 (upd G5 kd (.lst (rs.eraseIdx m))) := TK.lst gk5 _
        have gk6 : (upd G5 kd (.lst (rs.eraseIdx m))) kd = some (.lst (rs.eraseIdx m)) := upd_same
        have gb6 : (upd G5 kd (.lst (rs.eraseIdx m))) bl = some (.lst ds) := by rw [upd_ne kdbl.symm]; exact gb5
        have P6 := pen_on hP nkdH P5 (.lst (rs.eraseIdx m))
        have b6 := but_on (b4.trans b5) nkdH (.lst (rs.eraseIdx m))
        have t6 := (t4.but b5).u (.lst (rs.eraseIdx m))
        replace sqb := k6.sq sqb
        have fr6 := F2.erase m (fr.mono (PrV.mono (k5.trans k6)))
        have fd6 := fd.mono (RowV.mono (k5.trans k6))
        clear k5 k6 P5 b5 P4 b4 t4 gk gb fr fd gk5 gb5
        generalize upd G5 kd (.lst (rs.eraseIdx m)) = G6 at gk6 gb6 P6 b6 t6 sqb fr6 fd6 ⊢
        refine ⟨b, _, rfl, sqb, rfl, .str pr.1, _, rfl, .int (pr.2 : Int), _, rfl, rfl, ?_⟩
        refine ⟨_, rfl, .inl ⟨rfl, _, .inl (.inl gb6)⟩, .str pr.1, rfl, .int (pr.2 : Int), rfl, .ref p, rfl, (by show 3 ≤ sizeLine; decide), fun q4 n4 => ?_⟩
        have s7 : Same G6 (upd G6 q4 (.lst [.int 1, .int 1, .int 2])) := same_new (fun b o e => e) n4 _
        have e7 : (upd G6 q4 (.lst [.int 1, .int 1, .int 2])) q4 = some (.lst [.int 1, .int 1, .int 2]) := upd_same
        have q4p := pen_kept P6 n4
        have P7 := pen_same P6 s7
        refine ⟨p, l, q4, ns, c3 + 1, _, rfl, P7, hlen, by omega, .inl (.inl (.inl e7)), (by intro z; cases z), (by show 3 ≤ 1000000; decide), q4p, fun x G8 hx P8 b8 => ?_⟩
        obtain ⟨wt, rfl, hwt⟩ : ∃ wt : Int, x = .int wt ∧ (wt = 1 ∨ wt = 2) := by
          simp only [List.mem_cons, List.mem_nil_iff, or_false] at hx
          rcases hx with e | e | e <;> rw [e]
          · exact ⟨1, rfl, .inl rfl⟩
          · exact ⟨1, rfl, .inl rfl⟩
          · exact ⟨2, rfl, .inr rfl⟩
        refine ⟨(by show 3 ≤ sizeLine; decide), fun q6 n6 => ?_⟩
        have s9 : Same G8 (upd G8 q6 (.tup [.str pr.1, .int (pr.2 : Int), .int wt])) := same_new (fun b o e => e) n6 _
        have e9 : (upd G8 q6 (.tup [.str pr.1, .int (pr.2 : Int), .int wt])) q6 = some (.tup [.str pr.1, .int (pr.2 : Int), .int wt]) := upd_same
        have k9 : TK G6 (upd G8 q6 (.tup [.str pr.1, .int (pr.2 : Int), .int wt])) := ((TK.same s7).trans (pen_tk P7 b8)).trans (TK.same s9)
        have gk9 := s9 _ _ (b8 _ _ kdp (s7 _ _ gk6))
        have gb9 := s9 _ _ (b8 _ _ blp (s7 _ _ gb6))
        have P9 := pen_same P8 s9
        have b9 := ((b6.trans (Pn.But.of s7)).trans b8).trans (Pn.But.of s9)
        have t9 := ((t6.but (Pn.But.of s7)).but b8).but (Pn.But.of s9)
        replace fr6 := fr6.mono (PrV.mono k9)
        replace fd6 := fd6.mono (RowV.mono k9)
        clear k9 s9 P8 b8 n6 P7 q4p e7 s7 n4 sqb P6 b6 t6 gk6 gb6
        generalize upd G8 q6 (.tup [.str pr.1, .int (pr.2 : Int), .int wt]) = G9 at e9 gk9 gb9 P9 b9 t9 fr6 fd6 ⊢
        refine ⟨bl, ds, .ref q6, rfl, rfl, gb9, by rw [sizeLine_eq]; omega, ?_⟩
        have kA : TK G9 (upd G9 bl (.lst (ds ++ [.ref q6]))) := TK.lst gb9 _
        refine ⟨_, _, _, c3 + 2, rest.eraseIdx m, done ++ [(pr.1, pr.2, wt)], rs.eraseIdx m, ds ++ [.ref q6], rfl, pen_on hP nblH P9 _, by omega, but_on b9 nblH _, t9.v _, by rw [upd_ne kdbl]; exact gk9, upd_same, fr6.mono (PrV.mono kA), (fd6.mono (RowV.mono kA)).app (F2.one ⟨q6, rfl, kA.sq (.inl (.inl e9))⟩), by rw [List.length_append, List.length_singleton, ld], ?_, ?_⟩
        · refine List.Perm.trans ?_ perm
          rw [List.map_append]
          show (rest.eraseIdx m ++ (done.map (fun r => (r.1, r.2.1)) ++ [pr])).Perm (rest ++ done.map fun r => (r.1, r.2.1))
          have e1 := erase_perm hpr
          rw [← List.append_assoc]
          refine (List.perm_append_singleton pr _).trans ?_
          exact (e1.symm.append_right _)
        · intro r hr
          rcases List.mem_append.mp hr with z | z
          · exact wts r z
          · rw [List.mem_singleton.mp z]
            exact hwt
      · rintro σ G4 ⟨v6, v7, v8, c3, rest, done, rs, ds, rfl, P4, hc3, b4, t4, gk, gb, fr, fd, ld, perm, wts⟩
        have tot := perm.length_eq
        rw [List.length_append, List.length_map] at tot
        have re : rest = [] := List.length_eq_zero_iff.mp (by omega)
        subst re
        have k4 := t4.tk P2 ekd ebl
        have rw4 := t4 _ _ rwp rwkd rwbl erw
        have it4 := t4 _ _ itp itkd itbl eit
        have ls : ∀ {R a}, LsP K G3 R a → a ≠ p → a ≠ kd → a ≠ bl → LsP K G4 R a := fun h n1 n2 n3 => by
          obtain ⟨vs, e, f⟩ := h
          exact ⟨vs, t4 _ _ n1 n2 n3 e, f.mono (PrV.mono k4)⟩
        have LR4 := ls LR thp thkd thbl
        have LS4 := ls LS trp trkd trbl
        have frw4 := frw.mono (KdV.mono k4)
        refine ⟨_, rfl, .inl ⟨rfl, _, .inl (.inl rw4)⟩, .ref bl, rfl, bl, ds, rfl, .inl ⟨.inl (.inl gb), fun q5 n5 => ?_⟩⟩
        have s5 : Same G4 (upd G4 q5 (.tup ds)) := same_new (fun b o e => e) n5 _
        have e5 : (upd G4 q5 (.tup ds)) q5 = some (.tup ds) := upd_same
        replace LR4 := LR4.same s5
        replace LS4 := LS4.same s5
        replace P4 := pen_same P4 s5
        replace b4 := b4.trans (Pn.But.of s5)
        replace rw4 := s5 _ _ rw4
        replace it4 := s5 _ _ it4
        replace fd := fd.mono (RowV.mono (TK.same s5))
        replace frw4 := frw4.mono (KdV.mono (TK.same s5))
        clear s5 n5 ls k4 t4 gk gb
        generalize upd G4 q5 (.tup ds) = G5 at e5 LR4 LS4 P4 b4 rw4 it4 fd frw4 ⊢
        have lrv := frw4.len
        refine ⟨rw, rvs, .ref q5, rfl, rfl, rw4, by rw [sizeLine_eq, lrv, List.length_take]; omega, ?_⟩
        have kA : TK G5 (upd G5 rw (.lst (rvs ++ [.ref q5]))) := TK.lst rw4 _
        have up : ∀ {R a}, LsP K G5 R a → a ≠ rw → LsP K (upd G5 rw (.lst (rvs ++ [.ref q5]))) R a := fun h n => by
          obtain ⟨vs, e, f⟩ := h
          exact ⟨vs, by rw [upd_ne n]; exact e, f.mono (PrV.mono kA)⟩
        refine ⟨_, _, _, _, _, c3, rvs ++ [.ref q5], rfl, pen_on hP nrwH P4 _, by omega, but_on b4 nrwH _, up LR4 thrw, up LS4 trrw, upd_same, ?_, by rw [upd_ne itrw]; exact it4⟩
        rw [List.take_add_one, hB]
        exact (frw4.mono (KdV.mono kA)).app (F2.one ⟨q5, done, ds, rfl, ⟨perm, wts⟩, kA.sq (.inl (.inl e5)), fd.mono (RowV.mono kA)⟩)
    · rintro σ G ⟨v4, v5, v6, v7, v8, c2, rvs, rfl, P2, hc2, b2, _, _, erw2, frw, _⟩
      obtain ⟨x1, r1, rfl, ⟨k1, R1, vs1, rfl, m1, sq1, f1⟩, ⟨x2, r2, rfl, ⟨k2, R2, vs2, rfl, m2, sq2, f2⟩, fe⟩⟩ := frw
      cases (show r2 = [] from fe)
      refine ⟨.ref rw, rfl, rw, _, 0, _, rfl, rfl, .inl (.inl erw2), atI_nat (j := 0) rfl, .ref rw, rfl, rw, _, 1, _, rfl, rfl, .inl (.inl erw2), atI_nat (j := 1) rfl, (by show 2 ≤ sizeLine; decide), fun q5 n5 => ?_⟩
      have s5 : Same G (upd G q5 (.tup [.ref k1, .ref k2])) := same_new (fun b o e => e) n5 _
      have k5 := TK.same s5
      exact q q5 R1 R2 R S _ c2 ⟨k1, k2, vs1, vs2, .inl (.inl upd_same), k5.sq sq1, k5.sq sq2, f1.mono (RowV.mono k5), f2.mono (RowV.mono k5)⟩ hR hS m1 m2 (by simp only [List.length_cons, List.length_nil] at hc2; omega) (pen_same P2 s5) (b2.trans (Pn.But.of s5))
end
end Ad

/-! The law: its parts. -/
namespace Ad
open PySem PySem.Spec PySem.Calls PyProof.Rows L2 GxR
/-- a def of the top, with its promise -/
structure Has (P : Program) (w : World) (K : PySem.W.Frag) (mg : Str → Option Value) (base : Heap) (k : Nat) (x : Str) (ps : List Str) (sp : Sp) (f : Addr) (fd : FuncData) : Prop where
  G : FnOk P w K mg base CX0 k f fd ps sp
  g : mg x = some (.ref f)
  kp : PySem.W.keepIn K (.ref f) = true
  b : Binds K fd ps []
structure HasG (P : Program) (w : World) (K : PySem.W.Frag) (mg : Str → Option Value) (base : Heap) (k : Nat) (x : Str) (ps : List Str) (sp : Sp) (f : Addr) (fd : FuncData) : Prop where
  G : FnG P w K mg base CX0 k f fd ps sp
  g : mg x = some (.ref f)
  kp : PySem.W.keepIn K (.ref f) = true
  b : Binds K fd ps []
theorem iteNE {b : Bool} {A B : Prop} (hb : b = true) (h : B) : if (!b) = true then A else B := by
  rw [hb]
  exact iteF h
theorem iteE {b : Bool} {A B : Prop} (hb : b = true) (h : A) : if b = true then A else B := by
  rw [hb]
  exact iteT h
/-! ### written substitutions -/
/-- a written pair -/
def PLit (K : PySem.W.Frag) (tp : TE) (e : Int × T) : Prop := ∀ (σ : L2.St) (H : Hp) (Q : VK), (∀ b G, Same H G → SP K G e b → Q (.ref b) G) → tp σ H Q
theorem plit_v (K : PySem.W.Frag) (i j : Int) : PLit K (tTup (tCons (tC (.int i)) (tCons (tC (.int j)) tNil))) (i, .v j) := fun σ H Q h =>
  ⟨(by show 2 ≤ sizeLine; decide), fun p np => h p _ (same_new (fun b o e => e) np _) ⟨.int j, .inl (.inl upd_same), rfl⟩⟩
theorem plit_f (K : PySem.W.Frag) (i j : Int) (x : Str) : PLit K (tTup (tCons (tC (.int i)) (tCons (tTup (tCons (tC (.str x)) (tCons (tC (.int j)) tNil))) tNil))) (i, .f x [.v j]) := fun σ H Q h =>
  ⟨(by show 2 ≤ sizeLine; decide), fun p1 n1 => ⟨(by show 2 ≤ sizeLine; decide), fun p np => h p _ (same_new (same_new (fun b o e => e) n1 _) np _)
    ⟨.ref p1, .inl (.inl upd_same), p1, [.int j], rfl, (TK.new np _).sq (.inl (.inl upd_same)), .int j, [], rfl, rfl, rfl⟩⟩⟩
theorem sulit0 (K : PySem.W.Frag) {σ : L2.St} {H : Hp} {Q : VK} (h : ∀ x G, Same H G → Su K G [] x → Q x G) : Dt.tTup0 tNil σ H Q :=
  ⟨Nat.zero_le _, fun p o np od => h (.ref p) _ (same_new (fun b o e => e) np _) ⟨p, [], rfl, ⟨o, upd_same, od⟩, rfl⟩⟩
theorem sulit1 {K : PySem.W.Frag} {σ : L2.St} {H : Hp} {Q : VK} {t1 : TE} {e1 : Int × T} (p1 : PLit K t1 e1) (h : ∀ x G, Same H G → Su K G [e1] x → Q x G) : Dt.tTup0 (tCons t1 tNil) σ H Q := by
  show t1 σ H (fun v G => [v].length ≤ sizeLine ∧ ∀ p o, G p = none → o.dict = none → Q (.ref p) (upd G p (.frz o (.tup [v]))))
  exact p1 σ H _ fun b G s sp => ⟨(by show 1 ≤ sizeLine; decide), fun p o np od => h (.ref p) _ (same_new s np _) ⟨p, [b], rfl, ⟨o, upd_same, od⟩, F2.one (SP.mono (TK.new np _) _ _ sp)⟩⟩
theorem sulit2 {K : PySem.W.Frag} {σ : L2.St} {H : Hp} {Q : VK} {t1 t2 : TE} {e1 e2 : Int × T} (p1 : PLit K t1 e1) (p2 : PLit K t2 e2) (h : ∀ x G, Same H G → Su K G [e1, e2] x → Q x G) : Dt.tTup0 (tCons t1 (tCons t2 tNil)) σ H Q := by
  show t1 σ H (fun v G => t2 σ G (fun v2 G2 => [v, v2].length ≤ sizeLine ∧ ∀ p o, G2 p = none → o.dict = none → Q (.ref p) (upd G2 p (.frz o (.tup [v, v2])))))
  exact p1 σ H _ fun b G s sp => p2 σ G _ fun b2 G2 s2 sp2 => ⟨(by show 2 ≤ sizeLine; decide), fun p o np od => h (.ref p) _ (same_new (show Same H G2 from fun b o e => s2 b o (s b o e)) np _)
    ⟨p, [b, b2], rfl, ⟨o, upd_same, od⟩, _, _, rfl, SP.mono ((TK.same s2).trans (TK.new np _)) _ _ sp, F2.one (SP.mono (TK.new np _) _ _ sp2)⟩⟩
/-! ### the law's substitutions -/
theorem dt_v {R : List Row} {j nv : Int} (h0 : 0 ≤ j) (h1 : j < nv) : DT R 2 nv (.v j) := ⟨rfl, Nat.zero_le _, one_sz _, fun i hi => by
  cases List.mem_singleton.mp hi
  exact ⟨h0, h1⟩, True.intro⟩
theorem dt_f {R : List Row} (hf : ∃ r ∈ R, r.1 = ("f" : Str) ∧ r.2.1 = 1) : DT R 2 4 (.f "f" [.v 0]) := ⟨by decide +kernel, (by show 1 + max 0 0 ≤ 3; decide), (by show 1 + (1 + 0) ≤ 13; decide), fun i hi => by
  cases List.mem_singleton.mp (show i ∈ [(0 : Int)] from hi)
  exact ⟨by decide, by decide⟩, ⟨hf, True.intro, True.intro⟩⟩
theorem dsu_a {R : List Row} : DSu R 2 4 [(0, .v 1), (1, .v 0)] := ⟨by simp, fun e he => by
  rcases List.mem_cons.mp he with z | z
  · rw [z]
    exact ⟨by decide, by decide, dt_v (by decide) (by decide)⟩
  · rw [List.mem_singleton.mp z]
    exact ⟨by decide, by decide, dt_v (by decide) (by decide)⟩⟩
theorem dsu_b {R : List Row} (hf : ∃ r ∈ R, r.1 = ("f" : Str) ∧ r.2.1 = 1) : DSu R 2 4 [(0, .v 1), (1, .f "f" [.v 0])] := ⟨by simp, fun e he => by
  rcases List.mem_cons.mp he with z | z
  · rw [z]
    exact ⟨by decide, by decide, dt_v (by decide) (by decide)⟩
  · rw [List.mem_singleton.mp z]
    exact ⟨by decide, by decide, dt_f hf⟩⟩
theorem dsu_c {R : List Row} : DSu R 2 4 [] := ⟨.nil, fun e he => nomatch he⟩
theorem dsu_one {R : List Row} {i : Int} {t : T} (h0 : 0 ≤ i) (h1 : i < 4) (h : DT R 2 4 t) : DSu R 2 4 [(i, t)] := ⟨List.pairwise_singleton _ _, fun e he => by
  rw [List.mem_singleton.mp he]
  exact ⟨h0, h1, h⟩⟩
theorem DSu.nd {R : List Row} {d : Nat} {nv : Int} {su : Sb} (h : DSu R d nv su) : (su.map (·.1)).Nodup := Sb.rising_nodup h.rising
theorem DSu.asg {R : List Row} {su : Sb} (h : DSu R 2 4 su) {j nv : Int} (h4 : 4 ≤ nv) (h0 : 0 ≤ j) (h1 : j < nv) : DT R 2 nv (su.asg j) := by
  show DT R 2 nv ((su.look j).getD (.v j))
  cases e : su.look j with
  | none => exact dt_v h0 h1
  | some t =>
    obtain ⟨_, _, d⟩ := h.each _ (Sb.look_mem e)
    exact ⟨d.named, d.dep, d.size, fun i hi => ⟨(d.vars i hi).1, by have := (d.vars i hi).2; omega⟩, d.wf⟩
theorem put_small {R : List Row} {su : Sb} (h : DSu R 2 4 su) {t : T} {nv : Int} (h4 : 4 ≤ nv) (n : t.named = true) (v : ∀ j ∈ t.vars, 0 ≤ j ∧ j < nv) :
    (T.fill su.asg t).named = true ∧ (T.fill su.asg t).dep ≤ t.dep + 3 ∧ (T.fill su.asg t).size ≤ t.size * 13 ∧ ∀ j ∈ (T.fill su.asg t).vars, 0 ≤ j ∧ j < nv := by
  have d : ∀ j ∈ t.vars, DT R 2 nv (su.asg j) := fun j hj => h.asg h4 (v j hj).1 (v j hj).2
  refine ⟨T.fill_named t n fun j hj => (d j hj).named, T.fill_dep t fun j hj => (d j hj).dep, T.fill_size (by decide) t fun j hj => (d j hj).size, fun j hj => ?_⟩
  obtain ⟨i, hi, hj'⟩ := T.fill_vars t hj
  exact (d i hi).vars j hj'
theorem beh_small {R : List Row} {one two : Sb} (d1 : DSu R 2 4 one) (d2 : DSu R 2 4 two) : ∀ e ∈ Sb.beh one two, 0 ≤ e.1 ∧ e.1 < 4 ∧ e.2.named = true ∧ e.2.dep ≤ 6 ∧ e.2.size ≤ 169 ∧ ∀ j ∈ e.2.vars, 0 ≤ j ∧ j < 4 := by
  intro e he
  have nd : ((Sb.beh one two).map (·.1)).Nodup := Sb.nodup_fold _ one two d2.nd
  have lk := (Sb.mem_look nd (i := e.1) (t := e.2)).1 he
  rw [Sb.beh_look d1.nd] at lk
  cases h : Sb.look one e.1 with
  | some t =>
    rw [h] at lk
    have e2 : T.fill two.asg t = e.2 := Option.some.inj lk
    obtain ⟨a, b, d⟩ := d1.each _ (Sb.look_mem h)
    have d' : DT R 2 4 t := d
    obtain ⟨p1, p2, p3, p4⟩ := put_small d2 (by decide) d'.named d'.vars
    have z1 := d'.dep
    have z2 : t.size ≤ 13 := d'.size
    rw [e2] at p1 p2 p3 p4
    exact ⟨a, b, p1, by omega, by omega, p4⟩
  | none =>
    rw [h] at lk
    obtain ⟨a, b, d⟩ := d2.each _ (Sb.look_mem lk)
    have z1 : e.2.dep ≤ 3 := d.dep
    have z2 : e.2.size ≤ 13 := d.size
    exact ⟨a, b, d.named, by omega, by omega, d.vars⟩
theorem beh_good {R : List Row} {one two : Sb} (d1 : DSu R 2 4 one) (d2 : DSu R 2 4 two) : Good (Sb.beh one two) := fun e he => by
  obtain ⟨_, _, h1, h2, _⟩ := beh_small d1 d2 e he
  exact ⟨h1, by omega⟩
theorem norm_text {R : List Row} {one two su : Sb} (d1 : DSu R 2 4 one) (d2 : DSu R 2 4 two) (n : (Sb.beh one two).Norm su) : (suD su).showable = true ∧ (suD su).hasDict = false ∧ (suD su).depth ≤ 60 ∧ (suD su).shown.length ≤ sizeLine := by
  have each : ∀ e ∈ su, 0 ≤ e.1 ∧ e.1 < 4 ∧ e.2.named = true ∧ e.2.dep ≤ 6 ∧ e.2.size ≤ 169 ∧ ∀ j ∈ e.2.vars, 0 ≤ j ∧ j < 4 := fun e he => beh_small d1 d2 e (Sb.look_mem ((n.has e.1 e.2).1 he).1)
  refine su_text (m := 169) (by decide) ?_ fun e he => ?_
  · have := rising_len (lo := 0) (hi := 4) n.rising (fun i hi => by
      obtain ⟨e, he, rfl⟩ := List.mem_map.mp hi
      exact ⟨(each e he).1, (each e he).2.1⟩) (by decide)
    rw [List.length_map] at this
    omega
  · obtain ⟨a, b, c, d, f, g⟩ := each e he
    exact ⟨a, by omega, c, by omega, f, fun j hj => ⟨(g j hj).1, by have := (g j hj).2; omega⟩⟩
namespace Sb
theorem ren_vars (first : Int) : ∀ (l : List Int) (tb : Sb), (∀ e ∈ tb, ∃ i, e.2 = T.v i) → ∀ e ∈ ren first tb l, ∃ i, e.2 = T.v i
  | [], tb, h => h
  | i :: l, tb, h => by
    show ∀ e ∈ ren first (if (look tb i).isSome = true then tb else put tb i (.v (first + (tb.length : Int)))) l, ∃ i, e.2 = T.v i
    refine ren_vars first l _ ?_
    split
    · exact h
    · intro e he
      rcases mem_put he with z | z
      · rw [z]
        exact ⟨_, rfl⟩
      · exact h e z
theorem ren_asg (first : Int) (l : List Int) (j : Int) : ∃ i, (ren first [] l).asg j = T.v i := by
  show ∃ i, ((ren first [] l).look j).getD (.v j) = T.v i
  cases e : (ren first [] l).look j with
  | none => exact ⟨j, rfl⟩
  | some t => exact ren_vars first l [] (fun e he => nomatch he) _ (look_mem e)
end Sb
theorem ren_shaped {t : T} (n : t.named = true) (d : t.dep ≤ 60) (first : Int) (l : List Int) : SeqAt.shaped (T.fill (Sb.ren first [] l).asg t).d = true := by
  refine T.shaped (T.fill_named t n fun j _ => ?_) ?_
  · obtain ⟨i, e⟩ := Sb.ren_asg first l j
    rw [e]
    rfl
  · have := T.fill_dep (s := (Sb.ren first [] l).asg) (D := 0) t fun j _ => by
      obtain ⟨i, e⟩ := Sb.ren_asg first l j
      rw [e]
      exact Nat.le_refl _
    omega
/-! ### what a lap knows -/
structure Wk (K : PySem.W.Frag) (Pt p l ra : Addr) (ns : List Int) (c : Nat) (R : List Row) (G : Hp) : Prop where
  pen : Pn.Pen G p l ns c
  rows : RowsAt K G ra R
  tab : TabG G Pt
section
variable {K : PySem.W.Frag} {Pt p l ra : Addr} {ns : List Int} {c c' : Nat} {R : List Row} {G G' : Hp}
theorem Wk.same (h : Wk K Pt p l ra ns c R G) (s : Same G G') : Wk K Pt p l ra ns c R G' := ⟨pen_same h.pen s, h.rows.mono (TK.same s), tab_same s h.tab⟩
theorem Wk.new (h : Wk K Pt p l ra ns c R G) {q : Addr} (n : G q = none) (o : HO) : Wk K Pt p l ra ns c R (upd G q o) := h.same (same_new (fun b o e => e) n _)
theorem tab_ne {l : Addr} {ns : List Int} {c : Nat} (P : Pn.Pen G p l ns c) (t : TabG G Pt) : Pt ≠ p ∧ Pt ≠ l := by
  obtain ⟨ps, e, _⟩ := t
  obtain ⟨⟨_, _, _, e0, _⟩, e1⟩ := P
  refine ⟨fun z => ?_, fun z => ?_⟩
  · rw [← z, e] at e0
    cases e0
  · rw [← z, e] at e1
    cases e1
theorem tab_pen {l : Addr} {ns : List Int} {c : Nat} (P : Pn.Pen G p l ns c) (t : TabG G Pt) (b : Pn.But p G G') : TabG G' Pt := by
  have n := (tab_ne P t).1
  obtain ⟨ps, e, ok⟩ := t
  exact ⟨ps, b _ _ n e, ok⟩
theorem Wk.step (h : Wk K Pt p l ra ns c R G) (P : Pn.Pen G' p l ns c') (b : Pn.But p G G') : Wk K Pt p l ra ns c' R G' := ⟨P, h.rows.mono (pen_tk h.pen b), tab_pen h.pen h.tab b⟩
theorem Wk.but (h : Wk K Pt p l ra ns c R G) (b : ∀ q o, q ≠ Pt → G q = some o → G' q = some o) (t : TabG G' Pt) : Wk K Pt p l ra ns c R G' := by
  refine ⟨?_, h.rows.mono (tab_tk h.tab b), t⟩
  obtain ⟨n1, n2⟩ := tab_ne h.pen h.tab
  obtain ⟨⟨a, d, f, e, r⟩, e1⟩ := h.pen
  exact ⟨⟨a, d, f, b _ _ n1.symm e, r⟩, b _ _ n2.symm e1⟩
end
end Ad

/-! The end of a law of such a def where some defs grow tables of code objects. -/
namespace Ad
open PySem PySem.Spec PySem.Calls PyProof.Rows L2 GxR
abbrev oList (us : List Value) : Obj := { cls := .type "list", data := .seq us.toArray }
abbrev oTab : Obj := { cls := .none, data := .fields #[] }
/-- an abstract heap over h: the list of us at a, locked (or not told), and empty tables -/
structure First (h : Heap) (K : PySem.W.Frag) (a : Addr) (us : List Value) (ns : List Int) (Ts : List Addr) (H : Hp) : Prop where
  told : ∀ b u, H b = some u → (b = a ∧ u = .frz (oList us) (.lst (ns.map V.int))) ∨ (b ∈ Ts ∧ u = .tbl #[])
  tabs : ∀ b ∈ Ts, H b = some (.tbl #[])
  offK : ∀ b u, H b = some u → K.lookup b = none
section
variable {h : Heap} {K : PySem.W.Frag} {a : Addr} {us : List Value} {ns : List Int} {Ts : List Addr} {H : Hp}
/-- an object that is neither is not tracked -/
theorem First.off (F : First h K a us ns Ts H) (ha : h.get? a = some (oList us)) (ht : ∀ b ∈ Ts, h.get? b = some oTab) {b : Addr} {o : Obj} (e : h.get? b = some o) (n1 : o ≠ oList us) (n2 : o ≠ oTab) : H b = none := by
  cases q : H b with
  | none => rfl
  | some u =>
    rcases F.told b u q with ⟨z, _⟩ | ⟨z, _⟩
    · rw [z, ha] at e
      exact absurd (Option.some.inj e).symm n1
    · rw [ht b z] at e
      exact absurd (Option.some.inj e).symm n2
theorem First.offC (F : First h K a us ns Ts H) (ha : h.get? a = some (oList us)) (ht : ∀ b ∈ Ts, h.get? b = some oTab) {b : Addr} {o : Obj} (e : h.get? b = some o) (n1 : o.cls ≠ .type "list") (n2 : o.cls ≠ .none) : H b = none :=
  F.off ha ht e (fun z => n1 (by rw [z])) fun z => n2 (by rw [z])
theorem First.dict (F : First h K a us ns Ts H) (ha : h.get? a = some (oList us)) (ht : ∀ b ∈ Ts, h.get? b = some oTab) {b : Addr} {m : Str → Option Value} (e : h.Ns b m) : (hidT h H).Ns b m := by
  obtain ⟨o, es, ep, e, d, r⟩ := e
  refine ⟨o, es, ep, hidT_get e (F.off ha ht e (fun z => ?_) fun z => ?_), d, r⟩
  · rw [z] at d
    cases d
  · rw [z] at d
    cases d
end
theorem lawGT {P : Program} {w : World} {K : PySem.W.Frag} {mg mb : Str → Option Value} {CX : CXT} {k : Nat} {fa a : Addr} {cs : List (Addr × Addr)} {fd : FuncData} {x : Str} {sp : Sp} {s : Shared} {us : List Value} {ns : List Int}
    (inK : K.In s.heap) (gl : s.heap.Ns mainGlobals mg) (bl : s.heap.Ns builtinsNs mb) (boot : ∀ x : Str, x ≠ "__name__" → mb x = bootBuiltins x) (lim : s.heap.NoLimit) (quiet : s.gens = #[])
    (tabs : ∀ p ∈ cs, s.heap.get? p.2 = some oTab) (off : ∀ p ∈ cs, K.lookup p.2 = none) (codes : ∀ p ∈ cs, PySem.W.CodeHd s.heap p.1 p.2)
    (top : ∃ (bm : Addr) (ob : Obj), mg "__builtins__" = some (.ref bm) ∧ bm ≠ builtinsNs ∧ s.heap.get? bm = some ob ∧ ob.cls = .type "module" ∧ ob.dict = some builtinsNs ∧ ob.data = .plain)
    (script : s.heap.get? a = some (oList us)) (nums : IntsAre us ns) (few : ns.length ≤ sizeLine) (room : Room k callerA)
    (F : ∀ base : Heap, K.In base → base.Ns mainGlobals mg → (∀ p ∈ cs, TabB base mg p.1 p.2) → FnG P w K mg base CX k fa fd [x] sp) (binds : ∀ (s : Shared) (u : Value), BindsTo s fd ⟨[u], []⟩ [(x, u)])
    (ask : ∀ H : Hp, (∀ p ∈ cs, H p.2 = some (.tbl #[])) → SqL K H a (ns.map V.int) → sp [.ref a] H (fun v _ => v = .bl true) fun _ _ _ => False) (noX : ∀ H e s', CX [] H s (fun _ _ _ => False) e s' → False) :
    codeAny (model P w) callerA (.call (.ref fa) ⟨[.ref a], []⟩) (fun r s' => r = .ok (.ret (.bool true)) ∧ OldK s.heap s'.heap ∧ s'.os = s.os ∧ AllBare s'.gens) s := by
  have rel := vals_ints nums
  have len := nums.length
  have ht : ∀ b ∈ cs.map (·.2), s.heap.get? b = some oTab := by
    intro b hb
    obtain ⟨p, hp, rfl⟩ := List.mem_map.mp hb
    exact tabs p hp
  have aOut : a ∉ cs.map (·.2) := fun z => by
    have e := ht a z
    rw [script] at e
    cases e
  have gone : ∀ {q : Prop} (b : Addr), b ∈ ([] : List Addr) → q := fun {q} b hb => absurd hb (by simp)
  have main : ∀ H : Hp, First s.heap K a us ns (cs.map (·.2)) H → SqL K H a (ns.map V.int) →
      codeAny (model P w) callerA (.call (.ref fa) ⟨[.ref a], []⟩) (fun r s' => r = .ok (.ret (.bool true)) ∧ OldK s.heap s'.heap ∧ s'.os = s.os ∧ AllBare s'.gens) s := by
    intro H D seq
    have ok : HOk P w H s.heap := by
      intro b u e
      rcases D.told b u e with ⟨rfl, rfl⟩ | ⟨z, rfl⟩
      · exact ⟨script, by rw [List.length_map]; exact few, us, _, rel, script⟩
      · exact ht b z
    have kin : K.In (hidT s.heap H) := by
      intro b o e
      refine hidT_get (inK b o e) ?_
      cases q : H b with
      | none => rfl
      | some u =>
        rw [D.offK b u q] at e
        cases e
    have tb : ∀ p ∈ cs, TabB (hidT s.heap H) mg p.1 p.2 := by
      intro p hp
      constructor
      · obtain ⟨o, vs, file, tf, flags, tg, inF, text, tt, e, c, r⟩ := codes p hp
        exact ⟨o, vs, file, tf, flags, tg, inF, text, tt, hidT_get e (D.offC script ht e (by rw [c]; decide) (by rw [c]; intro z; cases z)), c, r⟩
      · obtain ⟨bm, ob, b1, b2, b3, b4, b5, b6⟩ := top
        refine ⟨bm, ob, b1, b2, fun z => ?_, fun z => ?_, hidT_get b3 (D.offC script ht b3 (by rw [b4]; decide) (by rw [b4]; intro z; cases z)), b4, b5, b6⟩
        · obtain ⟨o, es, ep, e, d, _⟩ := gl
          rw [z, e] at b3
          cases b3
          rw [d] at b6
          cases b6
        · rw [z, tabs p hp] at b3
          cases b3
          cases b4
      · intro z
        obtain ⟨o, es, ep, e, d, _⟩ := gl
        rw [z, tabs p hp] at e
        cases e
        cases d
    have mod : L2.Mod K mg (hidT s.heap H) := by
      obtain ⟨mc, l1, l2⟩ := lim
      exact ⟨kin, D.dict script ht gl, ⟨mb, D.dict script ht bl, boot⟩, mc, D.dict script ht l1, l2⟩
    have env : Env0 P w K mg (hidT s.heap H) callerA [] s H := ⟨rfl, mod, fun b o e => of_hidT e, Nat.le_of_eq (hidT_size _ _), trivial, fun b hb => gone b hb, ok, .of_eq quiet⟩
    have run := (F _ kin (D.dict script ht gl) tb).run callerA [] s H ⟨[.ref a], []⟩ [.ref a] [.ref a] _ _ rfl room env (binds s (.ref a)) (.cons rfl .nil) (ask H (fun p hp => D.tabs _ (List.mem_map.mpr ⟨p, hp, rfl⟩)) seq)
    refine codeAny_mono run fun r s' back => ?_
    match r, back with
    | .error e, back => exact (noX H e s' back).elim
    | .ok .next, back => exact False.elim back
    | .ok .brk, back => exact False.elim back
    | .ok .cont, back => exact False.elim back
    | .ok (.ret u), ⟨v, H', os, bare, un, ok', rv, (q : v = .bl true)⟩ =>
      subst q
      obtain rfl : u = Value.bool true := rv
      have stays : ∀ b o, b ∉ cs.map (·.2) → s.heap.get? b = some o → s'.heap.get? b = some o := by
        intro b o nb e
        cases q : H b with
        | none => exact un.keep b o e q (fun z => gone b z) (by simp)
        | some u =>
          rcases D.told b u q with ⟨rfl, rfl⟩ | ⟨z, _⟩
          · have e2 := (ok' b _ (un.frzs b _ _ q)).1
            rw [script] at e
            cases e
            exact e2
          · exact absurd z nb
      have grew : ∀ b ∈ cs.map (·.2), ∃ more : Array Value, s'.heap.get? b = some { cls := .none, data := .fields more } := by
        intro b hb
        obtain ⟨more, z⟩ := un.tbls b #[] (D.tabs b hb)
        exact ⟨_, ok' b _ z⟩
      refine ⟨rfl, ⟨fun b o e => ?_, fun b o e => ?_⟩, os, bare⟩
      · by_cases hb : b ∈ cs.map (·.2)
        · obtain ⟨more, z⟩ := grew b hb
          obtain ⟨p, hp, rfl⟩ := List.mem_map.mp hb
          rw [tabs p hp] at e
          cases e
          refine .inr (.inl ⟨((codes p hp).tab (tabs p hp)).isCodeTable, rfl, #[], more, rfl, ?_⟩)
          rw [Array.empty_append]
          exact z
        · exact .inl (stays b o hb e)
      · by_cases hb : b ∈ cs.map (·.2)
        · obtain ⟨more, z⟩ := grew b hb
          exact ⟨_, z⟩
        · exact ⟨o, stays b o hb e⟩
  have offT : ∀ b ∈ cs.map (·.2), K.lookup b = none := by
    intro b hb
    obtain ⟨p, hp, rfl⟩ := List.mem_map.mp hb
    exact off p hp
  by_cases look : K.lookup a = none
  · refine main (fun b => if b ∈ cs.map (·.2) then some (.tbl #[]) else if b = a then some (.frz (oList us) (.lst (ns.map V.int))) else none) ⟨fun b u e => ?_, fun b hb => if_pos hb, fun b u e => ?_⟩ (.inl (.inr ⟨oList us, (if_neg aOut).trans (if_pos rfl)⟩))
    all_goals
      by_cases hb : b ∈ cs.map (·.2)
      · have e' := (if_pos hb).symm.trans e
        first
          | exact .inr ⟨hb, (Option.some.inj e').symm⟩
          | exact offT b hb
      · have e1 := (if_neg hb).symm.trans e
        by_cases hc : b = a
        · have e' := (if_pos hc).symm.trans e1
          first
            | exact .inl ⟨hc, (Option.some.inj e').symm⟩
            | exact hc ▸ look
        · exact nomatch (if_neg hc).symm.trans e1
  · obtain ⟨o, e⟩ := Option.ne_none_iff_exists'.mp look
    have e2 := inK a o e
    rw [script] at e2
    cases e2
    refine main (fun b => if b ∈ cs.map (·.2) then some (.tbl #[]) else none) ⟨fun b u e => ?_, fun b hb => if_pos hb, fun b u e => ?_⟩ (.inr ⟨_, us.toArray, _, e, rfl, rfl, rfl, ?_, by simpa using rel⟩)
    · by_cases hb : b ∈ cs.map (·.2)
      · exact .inr ⟨hb, (Option.some.inj ((if_pos hb).symm.trans e)).symm⟩
      · exact nomatch (if_neg hb).symm.trans e
    · by_cases hb : b ∈ cs.map (·.2)
      · exact offT b hb
      · exact nomatch (if_neg hb).symm.trans e
    · rw [List.size_toArray, len]
      exact few
/-- what is known of the law at the head's heap -/
def LawGAt (l : PySem.W.OpenLaw) (w : World) (K : PySem.W.Frag) (CX : CXT) (k n : Nat) (x : Str) (mg : Str → Option Value) (fa : Addr) (h : Heap) : Prop :=
  ∃ (fd : FuncData) (cs : List (Addr × Addr)) (sp : Sp), (∀ p ∈ cs, h.get? p.2 = some oTab) ∧ (∀ p ∈ cs, K.lookup p.2 = none) ∧ (∀ p ∈ cs, PySem.W.CodeHd h p.1 p.2) ∧ (∀ (s : Shared) (u : Value), BindsTo s fd ⟨[u], []⟩ [(x, u)]) ∧
    (∀ (H : Hp) (a : Addr) (ns : List Int), ns.length ≤ n → (∀ p ∈ cs, H p.2 = some (.tbl #[])) → SqL K H a (ns.map V.int) → sp [.ref a] H (fun v _ => v = .bl true) fun _ _ _ => False) ∧
    ∀ base : Heap, K.In base → base.Ns mainGlobals mg → (∀ p ∈ cs, TabB base mg p.1 p.2) → FnG l.prog w K mg base CX k fa fd [x] sp
theorem walkGT {l : PySem.W.OpenLaw} {n k : Nat} {q : Program} {loose : List Str} {XP : (Str → Option Value) → Heap → Prop} {YP : World → Heap → Prop} {d : DefRec} {CX : World → CXT} {x : Str}
    (most : l.most = some n) (short : n ≤ sizeLine) (plain : d.params.defaults = []) (room : Room k callerA)
    (F : ∀ (w : World) (mg : Str → Option Value) (fa : Addr) (h : Heap), YP w h → h.Ns mainGlobals mg → mg d.name = some (.ref fa) → ∃ K : PySem.W.Frag, K.In h ∧ LawGAt l w K (CX w) k n x mg fa h)
    (noX : ∀ (w : World) (H : Hp) (s : Shared) (e : Value) (s' : Shared), CX w [] H s (fun _ _ _ => False) e s' → False) : PySem.W.WalkO q loose XP YP l.row.toRowW d [] (fun f vs => PySem.call f vs) := by
  refine Att.attach_callB most plain fun w s0 s mg mb fa o pm cd doc a us ns G Y ho hd hcd hmg list nums few bits quiet => ?_
  obtain ⟨K, inK, fd, cs, sp, t1, t2, t3, b, ask, prom⟩ := F w mg fa _ Y G.T.g hmg
  exact lawGT inK G.T.g G.T.b G.T.builtins G.T.nolimit quiet t1 t2 t3 G.T.bmain list nums (Nat.le_trans few short) room prom b (fun H => ask H a ns few) fun H e s' => noX w H s e s'
end Ad

/-! The law keeps its word. -/
namespace Ad
open PySem PySem.Spec PySem.Calls PyProof.Rows L2 GxR RZ
abbrev sLaw : Stmt := topS 37
theorem scLaw : FnScope ["_law_script", "_law_pen_here", "_law_lap", "_law_rows", "_law_order", "_law_ranks_here", "_law_turn", "_law_many", "_law_one", "_law_two", "_law_three", "_law_path", "_law_told", "_law_known", "_law_whole", "_law_inner", "_law_things", "_law_part", "_law_k", "_law_name", "_law_arity", "_law_weight_here", "_law_row"] ["_law_script"] (defScope sLaw) := ⟨rfl, rfl, rfl, by decide +kernel, rfl, by decide +kernel, by decide +kernel⟩
def rLstOf (K : PySem.W.Frag) : List V → Hp → VK → Prop := fun xs H Q => ∃ p ys, xs = [V.ref p] ∧ (SqL K H p ys ∨ SqT K H p ys) ∧ ∀ (l : Addr), H l = none → Q (V.ref l) (upd H l (.lst ys))
theorem call_lstOf {X : Cx} : CallR X (.type "list") (rLstOf X.K) := call_list_of
/-- a triple as a list, elsewhere -/
def RowD (D : Addr) (H : Hp) (r : Row) (v : V) : Prop := ∃ q, v = .ref q ∧ q ≠ D ∧ H q = some (.lst [.str r.1, .int (r.2.1 : Int), .int r.2.2])
theorem RowD.mono {D : Addr} {H H' : Hp} (k : ∀ b o, b ≠ D → H b = some o → H' b = some o) (r : Row) (v : V) (h : RowD D H r v) : RowD D H' r v := by
  obtain ⟨q, e, n, e2⟩ := h
  exact ⟨q, e, n, k _ _ n e2⟩
section
variable {P : Program} {w : World} {K : PySem.W.Frag} {mg : Str → Option Value} {base : Heap}
def spLaw (K : PySem.W.Frag) : Sp := fun vs H Q _ => ∃ (a : Addr) (ns : List Int), vs = [.ref a] ∧ SqL K H a (ns.map V.int) ∧ ns.length ≤ 63 ∧ ∀ H', Q (.bl true) H'
theorem ok_law {C f : Addr} {fd : FuncData} {k : Nat} (F : Fun K "law" "law" sLaw f fd)
    {f1 f2 f3 f4 f5 f6 f7 f8 f9 fa fb fc fe ff fg fh fi fj fk fO : Addr} {d1 d2 d3 d4 d5 d6 d7 d8 d9 da db dc de df dg dh di dj dk dO : FuncData}
    (hPen : Has P w K mg base (k + 1) "_law_pen" ["_law_script"] (Pn.spPen K) f1 d1) (hDraw : Has P w K mg base (k + 1) "_law_draw" ["_law_pen_here", "_law_many"] Pn.spDraw f2 d2) (hPick : Has P w K mg base (k + 1) "_law_pick" ["_law_pen_here", "_law_some"] (Pn.spPick K) f3 d3)
    (hOrd : Has P w K mg base (k + 1) "_law_drawn_order" ["_law_pen_here"] (spOrder K) f4 d4) (hHv : Has P w K mg base (k + 1) "_law_heavier" ["_law_pen_here", "_law_rows"] (spLHeavier K) f5 d5) (hRk : Has P w K mg base (k + 1) "_law_ranks" ["_law_rows"] (spLRanks K) f6 d6)
    (hSome : Has P w K mg base (k + 1) "_law_some_term" ["_law_pen_here", "_law_rows", "_law_variables"] (spLSome K) f7 d7) (hPaths : Has P w K mg base (k + 1) "_law_paths" ["_law_term"] (spLPaths K 12) f8 d8) (hPt : Has P w K mg base (k + 1) "_law_put_there" ["_law_term", "_law_path", "_law_new"] (spPut K 12) f9 d9)
    (hDrawn : Has P w K mg base (k + 1) "_law_drawn_term" ["_law_pen_here", "_law_rows", "_law_deep", "_law_variables"] (spDrawn K 5) fa da) (hCmp : Has P w K mg base (k + 1) "compare" ["order", "one", "other"] (spCmp K C 61) fb db) (hWord : Has P w K mg base (k + 1) "_law_word" ["_law_ranks_here", "_law_one", "_law_two"] (spLWord K) fc dc)
    (hWo : Has P w K mg base (k + 1) "weight_of" ["order", "term"] (spWeightOf K C) fe de) (hLw : Has P w K mg base (k + 1) "_law_weight" ["_law_ranks_here", "_law_term"] (spLWeight K 61) ff df) (hDP : Has P w K mg base (k + 1) "_law_drawn_pairs" ["_law_pen_here", "_law_rows", "_law_variables", "_law_deep"] (spDPairs K 5) fg dg)
    (hLPut : Has P w K mg base (k + 1) "_law_put" ["_law_term", "_law_known"] (spFilled K 12) fh dh) (hAtom : Has P w K mg base (k + 1) "_law_drawn_atom" ["_law_pen_here", "_law_rows", "_law_deep", "_law_variables"] (spLAtom K 5) fi di) (hIv : Has P w K mg base (k + 1) "_law_is_var" ["_law_term"] (spIsVar K) fj dj) (hPts : Has P w K mg base (k + 1) "_law_parts" ["_law_term"] (spLParts K 61) fk dk)
    (M : L2.Mk K C fO) (GO : FnOk P w K mg base CX0 k fO dO ["self", "things", "truths"] (spOInit K C)) (gO : mg "Order" = some (.ref C)) (bO : Binds K dO ["self", "things", "truths"] [])
    (m_range : mg "range" = none) (m_list : mg "list" = none) (m_dict : mg "dict" = none) : FnOk P w K mg base CX0 (k + 2) f fd ["_law_script"] (spLaw K) := by
  refine F.ok scLaw (fun vs H Q E h => ?_) (fun cdv A outer s H vs Q E hr h => ?_)
  · obtain ⟨a, ns, rfl, _⟩ := h
    rfl
  · obtain ⟨a, ns, rfl, hS, few, q⟩ := h
    refine ⟨_, (pss_cons (ps_set (i := 1) scLaw.nd rfl (.inr rfl) (pe_call hPen.G hr (by rfl) hPen.g hPen.kp hPen.b .nil pass0 (pa_cons (pv 0) pa_nil)))
    (pss_cons (ps_for PassesOwn.never rfl (pi_range1 (by rfl) m_range (pa_cons pe_int pa_nil)) (pg_name (i := 2) scLaw.nd rfl (.inl rfl))
      (pss_cons (ps_set (i := 3) scLaw.nd rfl (.inr rfl) (pe_call hOrd.G hr (by rfl) hOrd.g hOrd.kp hOrd.b .nil pass0 (pa_cons (pv 1) pa_nil)))
      (C8.pss_cut (ps_set (i := 3) scLaw.nd rfl (.inr rfl) (pe_ifExp (pt_cmpR op_eq (pe_call hDraw.G hr (by rfl) hDraw.g hDraw.kp hDraw.b .nil pass0 (pa_cons (pv 1) (pa_cons pe_int pa_nil))) pe_int (nomark _)) (pv 3) (pe_call hHv.G hr (by rfl) hHv.g hHv.kp hHv.b .nil pass0 (pa_cons (pv 1) (pa_cons (pv 3) pa_nil)))))
      (pss_cons (ps_par (i := 4) (j := 5) (by rfl) scLaw.nd rfl rfl (by decide) rfl rfl (pa_cons (pe_make M GO (hr.mono (Nat.le_refl _)) (by rfl) gO bO .nil pass0 (pa_cons (pe_ix ix_tup (pv 3) pe_int (fun _ _ => rfl)) (pa_cons (pe_lc (own := [("_law_row", 22)]) (g := gName 22) (tt := tYes) (te := tCB (rLstOf K) (tCons (tVar 22) tNil)) rfl scLaw.nd (pi_tup (pe_ix ix_tup (pv 3) pe_int (fun _ _ => rfl))) (blkOk_by (N := ["_law_script", "_law_pen_here", "_law_lap", "_law_rows", "_law_order", "_law_ranks_here", "_law_turn", "_law_many", "_law_one", "_law_two", "_law_three", "_law_path", "_law_told", "_law_known", "_law_whole", "_law_inner", "_law_things", "_law_part", "_law_k", "_law_name", "_law_arity", "_law_weight_here", "_law_row"]) (sc := defScope sLaw) (by decide +kernel)) (fun _ _ _ _ _ => (pg_name (i := 22) scLaw.nd rfl (.inl rfl))) (fun _ _ _ _ _ => pts_nil) (fun _ _ _ _ _ => (pe_callTy call_lstOf (by rfl) m_list (by decide +kernel) (pa_cons (pv 22) pa_nil)))) pa_nil))) (pa_cons (pe_call hRk.G hr (by rfl) hRk.g hRk.kp hRk.b .nil pass0 (pa_cons (pv 3) pa_nil)) pa_nil)) (by rfl))
      (pss_one (ps_for PassesOwn.never rfl (pi_range1 (by rfl) m_range (pa_cons pe_int pa_nil)) (pg_name (i := 6) scLaw.nd rfl (.inl rfl))
        (pss_cons (ps_set (i := 7) scLaw.nd rfl (.inr rfl) (pe_call hDraw.G hr (by rfl) hDraw.g hDraw.kp hDraw.b .nil pass0 (pa_cons (pv 1) (pa_cons pe_int pa_nil))))
        (pss_cons (ps_asg (pe_lc (own := [("_law_k", 18)]) (g := gName 18) (tt := tYes) (te := tCall (spLSome K) [] E0 (tCons (tVar 1) (tCons (tVar 3) (tCons (tVar 7) tNil)))) rfl scLaw.nd (pi_range1 (by rfl) m_range (pa_cons pe_int pa_nil)) (blkOk_by (N := ["_law_script", "_law_pen_here", "_law_lap", "_law_rows", "_law_order", "_law_ranks_here", "_law_turn", "_law_many", "_law_one", "_law_two", "_law_three", "_law_path", "_law_told", "_law_known", "_law_whole", "_law_inner", "_law_things", "_law_part", "_law_k", "_law_name", "_law_arity", "_law_weight_here", "_law_row"]) (sc := defScope sLaw) (by decide +kernel)) (fun _ _ _ _ _ => (pg_name (i := 18) scLaw.nd rfl (.inl rfl))) (fun _ _ _ _ _ => pts_nil) (fun _ _ _ _ _ => (pe_call hSome.G hr (by rfl) hSome.g hSome.kp hSome.b .nil pass0 (pa_cons (pv 1) (pa_cons (pv 3) (pa_cons (pv 7) pa_nil)))))) (pg_lst rfl (pgs_cons (pg_name (i := 8) scLaw.nd rfl (.inl rfl)) (pgs_cons (pg_name (i := 9) scLaw.nd rfl (.inl rfl)) (pgs_cons (pg_name (i := 10) scLaw.nd rfl (.inl rfl)) pgs_nil)))))
        (C8.pss_cut (ps_if (PW.pt (pw_and (pt_cmpR op_eq (pe_call hDraw.G hr (by rfl) hDraw.g hDraw.kp hDraw.b .nil pass0 (pa_cons (pv 1) (pa_cons pe_int pa_nil))) pe_int (nomark _)) (pw_and (pt_not (pt_val (pe_call hIv.G hr (by rfl) hIv.g hIv.kp hIv.b .nil pass0 (pa_cons (pv 8) pa_nil)))) (pw_and1 (pt_cmpR (op_neD (hu64 hr)) (pv 8) (pe_tup (pa_cons pe_str pa_nil)) (nomark _))))))
          (pss_cons (ps_set (i := 11) scLaw.nd rfl (.inl rfl) (pe_call hPick.G hr (by rfl) hPick.g hPick.kp hPick.b .nil pass0 (pa_cons (pv 1) (pa_cons (pe_op op_cat (pe_slice sl_list (pe_call hPaths.G hr (by rfl) hPaths.g hPaths.kp hPaths.b .nil pass0 (pa_cons (pv 8) pa_nil)) (po_some pe_int) po_none) (pe_lst (pa_cons (pe_tup pa_nil) pa_nil))) pa_nil))))
          (pss_one (ps_set (i := 9) scLaw.nd rfl (.inl rfl) (pe_call hPt.G hr (by rfl) hPt.g hPt.kp hPt.b .nil pass0 (pa_cons (pv 8) (pa_cons (pv 11) (pa_cons (pe_call hDrawn.G hr (by rfl) hDrawn.g hDrawn.kp hDrawn.b .nil pass0 (pa_cons (pv 1) (pa_cons (pv 3) (pa_cons pe_int (pa_cons (pv 7) pa_nil))))) pa_nil))))))) pss_nil)
        (pss_cons (ps_set (i := 12) scLaw.nd rfl (.inl rfl) (pe_call hCmp.G hr (by rfl) hCmp.g hCmp.kp hCmp.b .nil pass0 (pa_cons (pv 4) (pa_cons (pv 8) (pa_cons (pv 9) pa_nil)))))
        (pss_cons (ps_if (PW.pt (pw_or (pt_cmpR op_ne (pv 12) (pe_call hWord.G hr (by rfl) hWord.g hWord.kp hWord.b .nil pass0 (pa_cons (pv 5) (pa_cons (pv 8) (pa_cons (pv 9) pa_nil)))) (nomark _)) (pw_or1 (pt_cmpR op_ne (pe_call hWo.G hr (by rfl) hWo.g hWo.kp hWo.b .nil pass0 (pa_cons (pv 4) (pa_cons (pv 8) pa_nil))) (pe_call hLw.G hr (by rfl) hLw.g hLw.kp hLw.b .nil pass0 (pa_cons (pv 5) (pa_cons (pv 8) pa_nil))) (nomark _)))))
          (pss_one (ps_ret pe_bl)) pss_nil)
        (C8.pss_cut (ps_if (PW.pt (pw_and (pt_cmpR op_eq (pv 7) pe_int (nomark _)) (pw_and1 (pt_cmpR op_isN (pv 12) pe_non (nomark _)))))
          (pss_one (ps_ret pe_bl)) pss_nil)
        (C8.pss_cut (ps_if (PW.pt (pw_and (pt_cmpR (op_eqD (hu64 hr)) (pe_lst (pa_cons (pe_call hCmp.G hr (by rfl) hCmp.g hCmp.kp hCmp.b .nil pass0 (pa_cons (pv 4) (pa_cons (pv 9) (pa_cons (pv 10) pa_nil)))) (pa_cons (pv 12) pa_nil))) (pe_lst (pa_cons pe_str (pa_cons pe_str pa_nil))) (nomark _)) (pw_and1 (pt_cmpR op_ne (pe_call hCmp.G hr (by rfl) hCmp.g hCmp.kp hCmp.b .nil pass0 (pa_cons (pv 4) (pa_cons (pv 8) (pa_cons (pv 10) pa_nil)))) pe_str (nomark _)))))
          (pss_one (ps_ret pe_bl)) pss_nil)
        (pss_cons (ps_set (i := 13) scLaw.nd rfl (.inl rfl) (pe_callTy (Dt.call_dictT rfl) (by rfl) m_dict (by decide +kernel) (pa_cons (pe_call hDP.G hr (by rfl) hDP.g hDP.kp hDP.b .nil pass0 (pa_cons (pv 1) (pa_cons (pv 3) (pa_cons (pv 7) (pa_cons pe_int pa_nil))))) pa_nil)))
        (C8.pss_cut (ps_if (PW.pt (pw_and (pt_cmpR op_eq (pv 12) pe_str (nomark _)) (pw_and1 (pt_cmpR op_ne (pe_call hCmp.G hr (by rfl) hCmp.g hCmp.kp hCmp.b .nil pass0 (pa_cons (pv 4) (pa_cons (pe_call hLPut.G hr (by rfl) hLPut.g hLPut.kp hLPut.b .nil pass0 (pa_cons (pv 8) (pa_cons (pv 13) pa_nil))) (pa_cons (pe_call hLPut.G hr (by rfl) hLPut.g hLPut.kp hLPut.b .nil pass0 (pa_cons (pv 9) (pa_cons (pv 13) pa_nil))) pa_nil)))) pe_str (nomark _)))))
          (pss_one (ps_ret pe_bl)) pss_nil)
        (pss_cons (ps_set (i := 14) scLaw.nd rfl (.inl rfl) (pe_call hAtom.G hr (by rfl) hAtom.g hAtom.kp hAtom.b .nil pass0 (pa_cons (pv 1) (pa_cons (pv 3) (pa_cons pe_int (pa_cons pe_int pa_nil))))))
        (pss_cons (ps_setLc (i := 15) (own := [("_law_path", 11)]) (g := gName 11) (tt := tTest (tOp (rNeD K) (tVar 11) (tTup tNil))) (te := tVar 11) rfl scLaw.nd rfl rfl (sw_true rfl rfl rfl (by decide +kernel)) (pi_list (pe_call hPaths.G hr (by rfl) hPaths.g hPaths.kp hPaths.b .nil pass0 (pa_cons (pv 14) pa_nil))) (blkOk_by (N := ["_law_script", "_law_pen_here", "_law_lap", "_law_rows", "_law_order", "_law_ranks_here", "_law_turn", "_law_many", "_law_one", "_law_two", "_law_three", "_law_path", "_law_told", "_law_known", "_law_whole", "_law_inner", "_law_things", "_law_part", "_law_k", "_law_name", "_law_arity", "_law_weight_here", "_law_row"]) (sc := defScope sLaw) (by decide +kernel)) (fun _ _ _ _ _ => (pg_name (i := 11) scLaw.nd rfl (.inl rfl))) (fun _ _ _ _ _ => pts_one (pt_cmpR (op_neD (hu64 hr)) (pv 11) (pe_tup pa_nil) (nomark _))) (fun _ _ _ _ _ => (pv 11)))
        (pss_cons (ps_set (i := 16) scLaw.nd rfl (.inr rfl) (pe_lc (own := [("_law_name", 19), ("_law_arity", 20), ("_law_weight_here", 21)]) (g := gTup K 3 (gCons (gName 19) (gCons (gName 20) (gCons (gName 21) gNil)))) (tt := tYes) (te := tVar 19) rfl scLaw.nd (pi_tup (pe_ix ix_tup (pv 3) pe_int (fun _ _ => rfl))) (blkOk_by (N := ["_law_script", "_law_pen_here", "_law_lap", "_law_rows", "_law_order", "_law_ranks_here", "_law_turn", "_law_many", "_law_one", "_law_two", "_law_three", "_law_path", "_law_told", "_law_known", "_law_whole", "_law_inner", "_law_things", "_law_part", "_law_k", "_law_name", "_law_arity", "_law_weight_here", "_law_row"]) (sc := defScope sLaw) (by decide +kernel)) (fun _ _ _ _ _ => (pg_tup rfl (pgs_cons (pg_name (i := 19) scLaw.nd rfl (.inl rfl)) (pgs_cons (pg_name (i := 20) scLaw.nd rfl (.inl rfl)) (pgs_cons (pg_name (i := 21) scLaw.nd rfl (.inl rfl)) pgs_nil))))) (fun _ _ _ _ _ => pts_nil) (fun _ _ _ _ _ => (pv 19))))
        (C8.pss_cut (ps_if (PW.pt (pw_and (pt_cmpR (op_neD (hu64 hr)) (pv 15) (pe_lst pa_nil) (nomark _)) (pw_and1 (pt_cmpR (op_eqD (hu64 hr)) (pe_lc (own := [("_law_part", 17)]) (g := gName 17) (tt := tAnd (tNot (tB (tCall (spIsVar K) [] E0 (tCons (tVar 17) tNil)))) (tTest (tOp (rIn K true) (tOp (rIxT K) (tVar 17) (tC (.int 0))) (tVar 16)))) (te := tC (.int 1)) rfl scLaw.nd (pi_list (pe_lst (pa_cons (pv 8) (pa_cons (pv 9) pa_nil)))) (blkOk_by (N := ["_law_script", "_law_pen_here", "_law_lap", "_law_rows", "_law_order", "_law_ranks_here", "_law_turn", "_law_many", "_law_one", "_law_two", "_law_three", "_law_path", "_law_told", "_law_known", "_law_whole", "_law_inner", "_law_things", "_law_part", "_law_k", "_law_name", "_law_arity", "_law_weight_here", "_law_row"]) (sc := defScope sLaw) (by decide +kernel)) (fun _ _ _ _ _ => (pg_name (i := 17) scLaw.nd rfl (.inl rfl))) (fun _ _ _ _ _ => pts_one (PW.pt (pw_and (pt_not (pt_val (pe_call hIv.G hr (by rfl) hIv.g hIv.kp hIv.b .nil pass0 (pa_cons (pv 17) pa_nil)))) (pw_and1 (pt_cmpR op_notIn_seq (pe_ix ix_tup (pv 17) pe_int (fun _ _ => rfl)) (pv 16) (by with_unfolding_all rfl)))))) (fun _ _ _ _ _ => pe_int)) (pe_lst pa_nil) (nomark _)))))
          (pss_cons (ps_set (i := 11) scLaw.nd rfl (.inl rfl) (pe_call hPick.G hr (by rfl) hPick.g hPick.kp hPick.b .nil pass0 (pa_cons (pv 1) (pa_cons (pv 15) pa_nil))))
          (pss_one (ps_if (pt_cmpR op_ne (pe_call hCmp.G hr (by rfl) hCmp.g hCmp.kp hCmp.b .nil pass0 (pa_cons (pv 4) (pa_cons (pe_call hPt.G hr (by rfl) hPt.g hPt.kp hPt.b .nil pass0 (pa_cons (pv 14) (pa_cons (pv 11) (pa_cons (pv 8) pa_nil)))) (pa_cons (pe_call hPt.G hr (by rfl) hPt.g hPt.kp hPt.b .nil pass0 (pa_cons (pv 14) (pa_cons (pv 11) (pa_cons (pv 9) pa_nil)))) pa_nil)))) (pv 12) (nomark _))
            (pss_one (ps_if (PW.pt (pw_or (pt_cmpR op_eq (pv 12) pe_str (nomark _)) (pw_or1 (pt_cmpR op_eq (pv 7) pe_int (nomark _)))))
              (pss_one (ps_ret pe_bl)) pss_nil)) pss_nil))) pss_nil)
        (pss_one (ps_for PassesOwn.never rfl (pi_list (pe_slice sl_list (pe_call hPts.G hr (by rfl) hPts.g hPts.kp hPts.b .nil pass0 (pa_cons (pv 8) pa_nil)) (po_some pe_int) po_none)) (pg_name (i := 17) scLaw.nd rfl (.inl rfl))
          (pss_one (ps_if (PW.pt (pw_or (pt_cmpR op_ne (pe_call hCmp.G hr (by rfl) hCmp.g hCmp.kp hCmp.b .nil pass0 (pa_cons (pv 4) (pa_cons (pv 8) (pa_cons (pv 17) pa_nil)))) pe_str (nomark _)) (pw_or1 (pt_cmpR op_ne (pe_call hCmp.G hr (by rfl) hCmp.g hCmp.kp hCmp.b .nil pass0 (pa_cons (pv 4) (pa_cons (pv 17) (pa_cons (pv 8) pa_nil)))) pe_str (nomark _)))))
            (pss_one (ps_ret pe_bl)) pss_nil)))))))))))))))))))))))
    (pss_one (ps_ret (pe_and (pe_cmpR op_eq (pe_call hCmp.G hr (by rfl) hCmp.g hCmp.kp hCmp.b .nil pass0 (pa_cons (pe_make M GO (hr.mono (Nat.le_refl _)) (by rfl) gO bO .nil pass0 (pa_cons (pe_lst (pa_cons (pe_tup (pa_cons pe_str (pa_cons pe_int (pa_cons pe_int pa_nil)))) pa_nil)) (pa_cons (pe_lst pa_nil) pa_nil))) (pa_cons (pe_tup (pa_cons pe_str pa_nil)) (pa_cons (pe_tup (pa_cons pe_str pa_nil)) pa_nil)))) pe_str (nomark _)) (pe_one (pe_cmpR op_eq (pe_call hCmp.G hr (by rfl) hCmp.g hCmp.kp hCmp.b .nil pass0 (pa_cons (pv 4) (pa_cons pe_int (pa_cons pe_int pa_nil)))) pe_str (nomark _)))))))), ?_⟩
    have d3 : dn 3 = 80 := rfl
    have d2 : dn 2 = 26 := rfl
    have d1 : dn 1 = 8 := rfl
    refine ⟨.ref a, rfl, a, ns, rfl, hS, few, fun H1 p l sm1 np nl hP => ?_⟩
    refine ⟨2, rfl, by decide, by decide, for_range (lo := 0) (n := 2) (fun i σ G => ∃ (v2 v3 v4 v5 v6 v7 v8 v9 va vb vc vd ve vf vg vh : Option V) (c : Nat), σ = [some (.ref a), some (.ref p), v2, v3, v4, v5, v6, v7, v8, v9, va, vb, vc, vd, ve, vf, vg, vh, none, none, none, none, none] ∧ c ≤ i * 10000 ∧ Pn.Pen G p l ns c ∧ (0 < i → ∃ o R S, v4 = some (.ref o) ∧ OrdI K C G o R S ∧ GenO R S))
      ⟨none, none, none, none, none, none, none, none, none, none, none, none, none, none, none, none, 0, rfl, Nat.zero_le _, hP, fun h => absurd h (Nat.lt_irrefl _)⟩ ?_ ?_⟩
    · clear hP nl np sm1
      rintro i σ G hi ⟨v2, v3, v4, v5, v6, v7, v8, v9, va, vb, vc, vd, ve, vf, vg, vh, c, rfl, hc, hP, old⟩
      clear old
      refine ⟨.ref p, rfl, p, l, ns, c, rfl, hP, by omega, by omega, fun ra0 R0 S0 B D G1 c1 hO0 hB hD mR mS hc1 P1 b1 => ?_⟩
      refine ⟨fun σ G => ∃ (ra : Addr) (R S : List Row) (c : Nat), σ = [some (.ref a), some (.ref p), some (.int (0 + (i : Int))), some (.ref ra), v4, v5, v6, v7, v8, v9, va, vb, vc, vd, ve, vf, vg, vh, none, none, none, none, none] ∧ c ≤ i * 10000 + 100 ∧ Pn.Pen G p l ns c ∧ OrdAt K G ra R S ∧ GenO R S, ?_, ?_⟩
      · have one : ∀ {B : List Pr} {R : List Row}, Mixed B R → ∀ r ∈ R, 1 ≤ r.2.2 := fun m r hr => by
          rcases m.weights r hr with e | e <;> rw [e] <;> decide
        refine ⟨.ref p, rfl, p, l, ns, c1, 2, rfl, P1, by omega, by omega, by decide, by decide, fun z G2 z0 z1 P2 b2 => ⟨rfl, _, rfl, ?_⟩⟩
        have hO2 := hO0.mono (pen_tk P1 b2)
        have g0 := gen_ok hB hD mR.perm mS.perm (one mR) (one mS)
        refine ite2 (fun _ => ?_) (fun _ => ?_)
        · exact ⟨.ref ra0, rfl, ra0, R0, S0, c1 + 1, rfl, by omega, P2, hO2, g0⟩
        · have f1 := g0.ok.few
          refine ⟨.ref p, rfl, .ref ra0, rfl, p, l, ra0, ns, c1 + 1, R0, S0, rfl, P2, by omega, by omega, hO2, by omega, by omega, fun ra R S G3 c3 hO3 h1 h2 hc3 P3 b3 => ?_⟩
          have lB : (thingsB.all fun B => decide (B.length ≤ 5)) = true := by decide
          have lD : (truthsB.all fun B => decide (B.length ≤ 5)) = true := by decide
          have e1 := of_decide_eq_true (List.all_eq_true.mp lB B hB)
          have e2 := of_decide_eq_true (List.all_eq_true.mp lD D hD)
          have e3 := mR.perm.length_eq
          have e4 := mS.perm.length_eq
          rw [List.length_map] at e3 e4
          exact ⟨ra, R, S, c3, rfl, by omega, P3, hO3, gen_ok hB hD (h1.names ▸ mR.perm) (h2.names ▸ mS.perm) h1.weights h2.weights⟩
      clear hO0 hB hD mR mS P1 b1 hc1 hP hc c1 c G G1
      rintro σ G ⟨ra, R, S, c, rfl, hc, hP, hO, g⟩
      -- the order and the ranks
      obtain ⟨b1, b2, vs1, vs2, sq0, sq1, sq2, fR, fS⟩ := id hO
      have nls := fS.len
      have fewS := g.t.few
      refine ⟨.ref ra, rfl, ra, _, 0, .ref b1, rfl, rfl, sq0, atI_nat (j := 0) rfl, .ref ra, rfl, ra, _, 1, .ref b2, rfl, rfl, sq0, atI_nat (j := 1) rfl, b2, rfl, ⟨_, sq2⟩, fun D nD => ?_⟩
      refine lc_tup (K := K) (a := b2) (xs := vs2) (fun j G2 => ∃ acc, Same G G2 ∧ G2 D = some (.lst acc) ∧ F2 (RowD D G2) (S.take j) acc) ⟨[], same_new (fun b o e => e) nD _, upd_same, rfl⟩ (fun j G2 _ ⟨_, sm, _⟩ => (TK.same sm).sq sq2) ?_ ?_
      · rintro j x G2 hx ⟨acc, sm, gD, fa⟩
        obtain ⟨r, hr', ⟨b, rfl, hb⟩⟩ := fS.get hx
        have jlt := (List.getElem?_eq_some_iff.mp hr').1
        have la := fa.len
        rw [List.length_take] at la
        refine ⟨rfl, .ref b, rfl, b, _, rfl, .inr ((TK.same sm).sq hb), fun q1 nq => ⟨acc, ?_, by rw [sizeLine_eq]; omega, acc ++ [.ref q1], ?_, upd_same, ?_⟩⟩
        · rw [upd_ne (ne_of_none gD nq)]
          exact gD
        · exact same_on (same_new sm nq _) nD _
        · rw [take_next hr']
          have q1D : q1 ≠ D := (ne_of_none gD nq).symm
          refine (fa.mono (RowD.mono fun b' o' n e => ?_)).app (F2.one ⟨q1, rfl, q1D, by rw [upd_ne q1D]; exact upd_same⟩)
          rw [upd_ne n, upd_ne (ne_of_none e nq)]
          exact e
      rintro G2 ⟨acc, sm, gD, fa⟩
      rw [nls, List.take_length] at fa
      intro o dx no ndx nod
      have no' : (upd G2 dx (.own o)) o = none := by rw [upd_ne nod.symm]; exact no
      have sN : Same G2 (upd (upd G2 dx (.own o)) o (.ins C dx [])) := same_new (same_new (fun b o e => e) ndx _) no' _
      have eo : (upd (upd G2 dx (.own o)) o (.ins C dx [])) o = some (.ins C dx []) := upd_same
      have faX : F2 (RowX K G2) S acc := fa.mono fun r v ⟨q1, e, _, e2⟩ => ⟨q1, e, .inl (.inl (.inl e2))⟩
      have s02 : Same G (upd (upd G2 dx (.own o)) o (.ins C dx [])) := fun b o e => sN _ _ (sm _ _ e)
      generalize upd (upd G2 dx (.own o)) o (.ins C dx []) = G3 at sN eo s02
      refine ⟨o, b1, D, dx, R, S, vs1, acc, rfl, eo, .inr ((TK.same s02).sq sq1), fR.mono (fun r v h => RowV.x r v (RowV.mono (TK.same s02) r v h)), .inl (.inl (.inl (sN _ _ gD))), faX.mono (RowX.same sN), g.ok, fun G4 b4 hI => ⟨rfl, ?_⟩⟩
      have s24 : Same G2 G4 := fun b u e => b4 _ _ (ne_of_none e no) (sN _ _ e)
      have s04 : Same G G4 := fun b u e => s24 _ _ (sm _ _ e)
      refine ⟨.ref ra, rfl, ra, R, S, rfl, hO.mono (TK.same s04), g.ok, fun G5 d s5 nd hrk => ⟨_, _, rfl, ?_⟩⟩
      have s05 : Same G G5 := fun b u e => s5 _ _ (s04 _ _ e)
      have L : Lw K C p l ra ns R S o d c G5 := ⟨pen_same hP s05, hO.mono (TK.same s05), hI.same s5, hrk, pen_kept (pen_same hP s04) nd⟩
      clear hO hP sq0 sq1 sq2 fR fS nls fewS nD sm gD fa no ndx nod no' sN eo faX s02 b4 hI s24 s04 s5 nd hrk s05
      clear b1 b2 vs1 vs2 D acc dx G2 G3 G4 G
      -- the turns
      refine ⟨5, rfl, by decide, by decide, for_range (lo := 0) (n := 5) (fun j σ G => ∃ (v6 v7 v8 v9 va vb vc vd ve vf vg vh : Option V) (c : Nat), σ = [some (.ref a), some (.ref p), some (.int (0 + (i : Int))), some (.ref ra), some (.ref o), some (.ref d), v6, v7, v8, v9, va, vb, vc, vd, ve, vf, vg, vh, none, none, none, none, none] ∧ c ≤ i * 10000 + 100 + j * 1000 ∧ Lw K C p l ra ns R S o d c G)
        ⟨v6, v7, v8, v9, va, vb, vc, vd, ve, vf, vg, vh, c, rfl, by omega, L⟩ ?_ ?_⟩
      · clear L hc c G5 v6 v7 v8 v9 va vb vc vd ve vf vg vh
        rintro j σ G hj ⟨v6, v7, v8, v9, va, vb, vc, vd, ve, vf, vg, vh, c, rfl, hc, L⟩
        refine ⟨.ref p, rfl, p, l, ns, c, 4, rfl, L.pen, by omega, by omega, by decide, by decide, fun nvI G1 nv0 nv1 P1 b1 => ?_⟩
        obtain ⟨nv, rfl⟩ : ∃ nv : Nat, nvI = (nv : Int) := ⟨nvI.toNat, by omega⟩
        replace L := L.but b1 P1
        clear P1 b1 G
        refine ⟨3, rfl, by decide, by decide, fun D nD => lc_range (lo := 0) (n := 3) (fun m G => ∃ (ts : List T) (acc : List V) (c2 : Nat), Pn.But p G1 G ∧ G D = some (.lst acc) ∧ Pn.Pen G p l ns c2 ∧ c2 ≤ c + 1 + m * 100 ∧ Tms K G ts acc ∧ ts.length = m ∧ ∀ t ∈ ts, DS R S nv t) ⟨[], [], c + 1, Pn.But.of (same_new (fun b o e => e) nD _), upd_same, pen_same L.pen (same_new (fun b o e => e) nD _), by omega, rfl, rfl, fun t ht => nomatch ht⟩ ?_ ?_⟩
        · rintro m G hm ⟨ts, acc, c2, b2, gD, P2, hc2, tms, lt, dss⟩
          have L2 := L.but b2 P2
          have la := tms.len
          refine ⟨rfl, .ref p, rfl, .ref ra, rfl, .int (nv : Int), rfl, p, l, ra, ns, c2, nv, R, S, rfl, P2, by omega, by omega, L2.rows, g.r, g.t, nv0, by omega, fun t v G' c3 tv ds hc3 P3 b3 => ?_⟩
          have gD3 := b3 _ _ (pen_kept L.pen nD) gD
          have k3 : TK G' (upd G' D (.lst (acc ++ [v]))) := TK.lst gD3 _
          refine ⟨acc, gD3, by rw [sizeLine_eq]; omega, ts ++ [t], acc ++ [v], c3, but_on (b2.trans b3) nD _, upd_same, pen_on L.pen nD P3 _, by omega, Tms.app (Tms.mono ((pen_tk P2 b3).trans k3) _ _ tms) (Tms.one (Tm.mono k3 _ _ tv)), by rw [List.length_append, List.length_singleton, lt], fun t' ht' => ?_⟩
          rcases List.mem_append.mp ht' with z | z
          · exact dss t' z
          · rw [List.mem_singleton.mp z]
            exact ds
        rintro G ⟨ts, acc, c2, b2, gD, P2, hc2, tms, lt, dss⟩
        replace L := L.but b2 P2
        clear b2 P2 nD
        match ts, lt with
        | [t1, t2, t3], _ =>
        obtain ⟨x1, _, rfl, m1, x2, _, rfl, m2, x3, _, rfl, m3, rfl⟩ := tms
        have ds1 := dss t1 (by simp)
        have ds2 := dss t2 (by simp)
        have T2 := ds2.tx
        have T3 := (dss t3 (by simp)).tx
        have T1 := ds1.tx
        clear dss
        refine ⟨D, _, rfl, .inl (.inl gD), rfl, x1, _, rfl, x2, _, rfl, x3, _, rfl, rfl, ?_⟩
        clear gD
        clear D
        -- a part put out
        refine ⟨fun σ G => ∃ (t2 : T) (x2 : V) (vb : Option V) (c : Nat), σ = [some (.ref a), some (.ref p), some (.int (0 + (i : Int))), some (.ref ra), some (.ref o), some (.ref d), some (.int (0 + (j : Int))), some (.int (nv : Int)), some x1, some x2, some x3, vb, vc, vd, ve, vf, vg, vh, none, none, none, none, none] ∧ c ≤ c2 + 100 ∧ Lw K C p l ra ns R S o d c G ∧ Tm K G t1 x1 ∧ Tm K G t2 x2 ∧ Tm K G t3 x3 ∧ Tx (ranked R S) nv t2 ∧ t2.dep ≤ 11 ∧ t2.size ≤ 60, ?_, ?_⟩
        · have stay : ∀ {G : Hp} {c : Nat}, Lw K C p l ra ns R S o d c G → Tm K G t1 x1 → Tm K G t2 x2 → Tm K G t3 x3 → c ≤ c2 + 100 → ∃ (t2' : T) (x2' : V) (vb' : Option V) (c' : Nat), [some (.ref a), some (.ref p), some (.int (0 + (i : Int))), some (.ref ra), some (.ref o), some (.ref d), some (.int (0 + (j : Int))), some (.int (nv : Int)), some x1, some x2, some x3, vb, vc, vd, ve, vf, vg, vh, none, none, none, none, none] = [some (.ref a), some (.ref p), some (.int (0 + (i : Int))), some (.ref ra), some (.ref o), some (.ref d), some (.int (0 + (j : Int))), some (.int (nv : Int)), some x1, some x2', some x3, vb', vc, vd, ve, vf, vg, vh, none, none, none, none, none] ∧ c' ≤ c2 + 100 ∧ Lw K C p l ra ns R S o d c' G ∧ Tm K G t1 x1 ∧ Tm K G t2' x2' ∧ Tm K G t3 x3 ∧ Tx (ranked R S) nv t2' ∧ t2'.dep ≤ 11 ∧ t2'.size ≤ 60 := fun L m1 m2 m3 hc => ⟨t2, x2, vb, _, rfl, hc, L, m1, m2, m3, T2, by have := ds2.dep; omega, by have := ds2.size; omega⟩
          have d4 := ds1.dep
          have z4 := ds1.size
          refine ⟨.ref p, rfl, p, l, ns, c2, 3, rfl, L.pen, by omega, by omega, by decide, by decide, fun z G2 z0 z1 P2 b2 => ⟨rfl, _, rfl, ?_⟩⟩
          replace m1 := Tm.mono (pen_tk L.pen b2) _ _ m1
          replace m2 := Tm.mono (pen_tk L.pen b2) _ _ m2
          replace m3 := Tm.mono (pen_tk L.pen b2) _ _ m3
          replace L := L.but b2 P2
          clear b2 P2
          refine ite2 (fun _ => ?yes1) (fun _ => ?no1)
          case no1 => exact iteF (stay L m1 m2 m3 (by omega))
          refine ⟨x1, rfl, t1, x1, rfl, m1, _, rfl, ?_⟩
          by_cases hv : t1.isV = true
          · rw [hv]
            exact iteF (iteF (stay L m1 m2 m3 (by omega)))
          obtain ⟨n1, as1, e1⟩ : ∃ n as, t1 = .f n as := by
            cases t1 with
            | v i1 => exact absurd rfl hv
            | f n as => exact ⟨n, as, rfl⟩
          rw [Bool.not_eq_true] at hv
          rw [hv]
          refine iteT ?_
          refine ⟨x1, rfl, (by show 1 ≤ sizeLine; decide), fun y ny => ?_⟩
          have s3 : Same G2 (upd G2 y (.tup [.str "yes"])) := same_new (fun b o e => e) ny _
          have ey : Tm K (upd G2 y (.tup [.str "yes"])) (.f "yes" []) (.ref y) := ⟨y, [], rfl, .inl (.inl upd_same), rfl⟩
          replace m1 := Tm.mono (TK.same s3) _ _ m1
          replace m2 := Tm.mono (TK.same s3) _ _ m2
          replace m3 := Tm.mono (TK.same s3) _ _ m3
          replace L := L.same s3
          generalize upd G2 y (.tup [.str "yes"]) = G3 at s3 ey m1 m2 m3 L
          clear s3 ny
          refine ⟨t1.d, (T.f "yes" []).d, Tm.dp _ _ m1, Tm.dp _ _ ey, T.shaped T1.named (by omega), T.shaped (by decide +kernel) (by decide), _, rfl, ?_⟩
          clear ey y
          refine ite2 (fun _ => ?yes2) (fun _ => ?no2)
          case no2 => exact stay L m1 m2 m3 (by omega)
          clear stay
          refine ⟨.ref p, rfl, x1, rfl, t1, x1, rfl, m1, by omega, by omega, fun G4 lp us s4 nlp e4 pus => ⟨1, rfl, lp, us, rfl, .inl (.inl e4), fun p1 n1 => ?_⟩⟩
          have lus := pus.len
          rw [T.paths_len] at lus
          have tpos := t1.size_pos
          obtain ⟨u0, rest, rfl⟩ : ∃ u0 rest, us = u0 :: rest := by
            cases us with
            | nil => rw [List.length_nil] at lus; omega
            | cons u0 rest => exact ⟨u0, rest, rfl⟩
          rw [cut_args.2]
          have s5 : Same G4 (upd G4 p1 (.lst rest)) := same_new (fun b o e => e) n1 _
          have e5 : (upd G4 p1 (.lst rest)) p1 = some (.lst rest) := upd_same
          have pus5 := pus.mono (PV.mono (TK.same s5))
          have s35 : Same G3 (upd G4 p1 (.lst rest)) := fun b o e => s5 _ _ (s4 _ _ e)
          generalize upd G4 p1 (.lst rest) = G5 at e5 pus5 s35
          refine ⟨(by decide), fun e0 ne0 => ⟨(by show 1 ≤ sizeLine; decide), fun l0 nl0 => ?_⟩⟩
          have s6 : Same G5 (upd G5 e0 (.tup [])) := same_new (fun b o e => e) ne0 _
          have e6 : (upd G5 e0 (.tup [])) e0 = some (.tup []) := upd_same
          generalize upd G5 e0 (.tup []) = G6 at s6 e6 nl0
          have s7 : Same G6 (upd G6 l0 (.lst [.ref e0])) := same_new (fun b o e => e) nl0 _
          have e7 : (upd G6 l0 (.lst [.ref e0])) l0 = some (.lst [.ref e0]) := upd_same
          replace e6 := s7 _ _ e6
          have s57 : Same G5 (upd G6 l0 (.lst [.ref e0])) := fun b o e => s7 _ _ (s6 _ _ e)
          generalize upd G6 l0 (.lst [.ref e0]) = G7 at s7 e7 e6 s57
          rw [List.length_cons] at lus
          refine ⟨p1, l0, rest, [.ref e0], rfl, rfl, s57 _ _ e5, e7, by rw [List.length_singleton, sizeLine_eq]; omega, fun cc ncc => ?_⟩
          have s8 : Same G7 (upd G7 cc (.lst (rest ++ [.ref e0]))) := same_new (fun b o e => e) ncc _
          have e8 : (upd G7 cc (.lst (rest ++ [.ref e0]))) cc = some (.lst (rest ++ [.ref e0])) := upd_same
          have pvs : ∀ v ∈ rest ++ [V.ref e0], ∃ pp ∈ t1.paths, PV K (upd G7 cc (.lst (rest ++ [.ref e0]))) pp v := by
            intro v hv
            rcases List.mem_append.mp hv with q | q
            · obtain ⟨pp, hpp, h⟩ := (pus5.mono (PV.mono ((TK.same s57).trans (TK.same s8)))).mem (List.mem_cons_of_mem _ q)
              exact ⟨pp, hpp, h⟩
            · rw [List.mem_singleton.mp q]
              refine ⟨[], ?_, e0, rfl, .inl (.inl (s8 _ _ e6))⟩
              rw [e1]
              exact List.mem_cons_self ..
          have s38 : Same G3 (upd G7 cc (.lst (rest ++ [.ref e0]))) := fun b o e => s8 _ _ (s57 _ _ (s35 _ _ e))
          generalize upd G7 cc (.lst (rest ++ [.ref e0])) = G8 at s8 e8 pvs s38
          have ncc3 : G3 cc = none := by
            cases z : G3 cc with
            | none => rfl
            | some u =>
              rw [s57 _ _ (s35 _ _ z)] at ncc
              cases ncc
          have ncp := pen_kept L.pen ncc3
          replace m1 := Tm.mono (TK.same s38) _ _ m1
          replace m3 := Tm.mono (TK.same s38) _ _ m3
          replace L := L.same s38
          clear pus pus5 s35 e5 s57 e6 e7 s7 s6 s8 s38 ncc ncc3 ne0 nl0 n1 s5 e4 nlp s4 m2
          refine ⟨p, l, cc, ns, c2 + 1, rest ++ [.ref e0], rfl, L.pen, by omega, by omega, .inl (.inl (.inl e8)), by simp, by rw [List.length_append, List.length_singleton]; omega, ncp, fun pv G9 hpv P9 b9 => ?_⟩
          obtain ⟨pp, hpp, ⟨ap, rfl, sqp⟩⟩ := pvs pv hpv
          replace sqp := (pen_tk L.pen b9).sq sqp
          replace m1 := Tm.mono (pen_tk L.pen b9) _ _ m1
          replace m3 := Tm.mono (pen_tk L.pen b9) _ _ m3
          replace L := L.but b9 P9
          clear P9 b9 pvs e8
          refine ⟨x1, rfl, .ref ap, rfl, .ref p, rfl, .ref ra, rfl, .int (nv : Int), rfl, p, l, ra, ns, c2 + 1 + 1, 2, nv, R, rfl, L.pen, by omega, by omega, L.rows.rows, g.r, by decide, nv0, by omega, fun tn yn GA cA tyn dn9 hcA PA bA => ?_⟩
          replace sqp := (pen_tk L.pen bA).sq sqp
          replace m1 := Tm.mono (pen_tk L.pen bA) _ _ m1
          replace m3 := Tm.mono (pen_tk L.pen bA) _ _ m3
          replace L := L.but bA PA
          clear PA bA
          obtain ⟨u, hu⟩ := T.paths_sub t1 pp hpp
          obtain ⟨r, hr', _, _, zr, dr, _⟩ := T.put_sub tn hu
          have dn := dn9.dep
          have zn := dn9.size
          have z2 : sz 2 = 13 := rfl
          have lpp := T.paths_dep t1 pp hpp
          refine ⟨t1, tn, r, x1, yn, ap, pp, rfl, m1, tyn, sqp, by omega, by omega, hr', fun v GB sB tv => ?_⟩
          refine ⟨r, v, some (.ref ap), cA, rfl, by omega, L.same sB, Tm.mono (TK.same sB) _ _ m1, tv, Tm.mono (TK.same sB) _ _ m3, put_tx (Int.le_refl _) hr' ⟨u, hu⟩ T1 (DT.tx (by decide) dn9) (by omega) (by omega), by omega, by omega⟩
        have D1 := ds1.dep
        have Z1 := ds1.size
        clear T2 ds2 m2 x2 m1 m3 L ds1
        rintro σ G ⟨t2, x2, vb, c, rfl, hc', L, m1, m2, m3, T2, D2, Z2⟩
        have nd := g.ok.nd
        have one := wOf1 g.ok
        -- what is told
        refine ⟨.ref o, rfl, x1, rfl, x2, rfl, o, R, S, t1, t2, x1, x2, rfl, L.two g T1 T2 m1 m2, by omega, fun G1 s1 => ?_⟩
        replace m1 := Tm.mono (TK.same s1) _ _ m1
        replace m2 := Tm.mono (TK.same s1) _ _ m2
        replace m3 := Tm.mono (TK.same s1) _ _ m3
        replace L := L.same s1
        clear s1 G
        have iw := word_isW (w := Kb.wOf (ranked R S)) (p := Kb.pOf (ranked R S)) t1 t2
        refine ⟨_, rfl, .ref d, rfl, x1, rfl, x2, rfl, d, ranked R S, t1, t2, x1, x2, rfl, L.two2 g T1 T2 m1 m2, fun G2 s2 => ⟨iw.scal2 iw, _, rfl, ?_⟩⟩
        replace m1 := Tm.mono (TK.same s2) _ _ m1
        replace m2 := Tm.mono (TK.same s2) _ _ m2
        replace m3 := Tm.mono (TK.same s2) _ _ m3
        replace L := L.same s2
        clear s2 G1
        have same : ∀ v : V, (!decide (v = v)) = false := fun v => by rw [decide_eq_true rfl]; rfl
        rw [same]
        refine iteF ?_
        refine ⟨.ref o, rfl, x1, rfl, o, R, S, t1, x1, rfl, L.ord, g.ok, m1, T1.wf, by omega, fun G3 s3 => ?_⟩
        replace m1 := Tm.mono (TK.same s3) _ _ m1
        replace m2 := Tm.mono (TK.same s3) _ _ m2
        replace m3 := Tm.mono (TK.same s3) _ _ m3
        replace L := L.same s3
        clear s3 G2
        refine ⟨.ref d, rfl, x1, rfl, d, ranked R S, t1, x1, rfl, L.rks, nd, m1, T1.wf, by omega, by omega, fun G4 s4 => ⟨rfl, _, rfl, ?_⟩⟩
        replace m1 := Tm.mono (TK.same s4) _ _ m1
        replace m2 := Tm.mono (TK.same s4) _ _ m2
        replace m3 := Tm.mono (TK.same s4) _ _ m3
        replace L := L.same s4
        clear s4 G3
        rw [same]
        refine iteF ?_
        -- ground terms
        have tot : nv = 0 → t1 = t2 ∨ Kb.ab (Kb.wOf (ranked R S)) (Kb.pOf (ranked R S)) t1 t2 ∨ Kb.ab (Kb.wOf (ranked R S)) (Kb.pOf (ranked R S)) t2 t1 := fun z => by
          subst z
          exact Kb.ab_total nd t1 t2 T1.wf T2.wf (novars T1) (novars T2)
        have notN : nv = 0 → Kb.word (Kb.wOf (ranked R S)) (Kb.pOf (ranked R S)) t1 t2 ≠ .non := fun z e => by
          rcases tot z with h | h | h
          · rw [h, Kb.word_refl] at e
            cases e
          · rw [Kb.word_above h] at e
            cases e
          · rw [Kb.word_below h] at e
            cases e
        have ground : ∀ {A B : Prop}, (nv = 0 → A) → (¬ nv = 0 → B) → (if decide (V.int (nv : Int) = V.int 0) = true then A else B) := fun {A B} h1 h2 => by
          by_cases z : nv = 0
          · rw [decide_eq_true (by rw [z]; rfl)]
            exact iteT (h1 z)
          · rw [decide_eq_false (fun e => z (by have := V.int.inj e; omega))]
            exact iteF (h2 z)
        refine ⟨fun σ G => σ = [some (.ref a), some (.ref p), some (.int (0 + (i : Int))), some (.ref ra), some (.ref o), some (.ref d), some (.int (0 + (j : Int))), some (.int (nv : Int)), some x1, some x2, some x3, vb, some (Kb.word (Kb.wOf (ranked R S)) (Kb.pOf (ranked R S)) t1 t2), vd, ve, vf, vg, vh, none, none, none, none, none] ∧ G = G4, ?_, ?_⟩
        · refine ⟨.int (nv : Int), rfl, rfl, _, rfl, ?_⟩
          refine ground (fun z => ?_) (fun z => iteF ⟨rfl, rfl⟩)
          refine ⟨_, rfl, rfl, _, rfl, ?_⟩
          rw [decide_eq_false (notN z)]
          exact iteF ⟨rfl, rfl⟩
        rintro σ G ⟨rfl, eG⟩
        subst eG
        -- a third one
        refine ⟨fun σ G' => σ = [some (.ref a), some (.ref p), some (.int (0 + (i : Int))), some (.ref ra), some (.ref o), some (.ref d), some (.int (0 + (j : Int))), some (.int (nv : Int)), some x1, some x2, some x3, vb, some (Kb.word (Kb.wOf (ranked R S)) (Kb.pOf (ranked R S)) t1 t2), vd, ve, vf, vg, vh, none, none, none, none, none] ∧ Lw K C p l ra ns R S o d c G' ∧ Tm K G' t1 x1 ∧ Tm K G' t2 x2, ?_, ?_⟩
        · have iw2 := word_isW (w := Kb.wOf (ranked R S)) (p := Kb.pOf (ranked R S)) t2 t3
          refine ⟨.ref o, rfl, x2, rfl, x3, rfl, o, R, S, t2, t3, x2, x3, rfl, L.two g T2 T3 m2 m3, by omega, fun G5 s5 => ⟨_, rfl, (by show 2 ≤ sizeLine; decide), fun la nla => ⟨(by show 2 ≤ sizeLine; decide), fun lb nlb => ?_⟩⟩⟩
          replace m1 := Tm.mono (TK.same s5) _ _ m1
          replace m2 := Tm.mono (TK.same s5) _ _ m2
          replace m3 := Tm.mono (TK.same s5) _ _ m3
          replace L := L.same s5
          have s6 : Same G5 (upd G5 la (.lst [Kb.word (Kb.wOf (ranked R S)) (Kb.pOf (ranked R S)) t2 t3, Kb.word (Kb.wOf (ranked R S)) (Kb.pOf (ranked R S)) t1 t2])) := same_new (fun b o e => e) nla _
          have e6 : (upd G5 la (.lst [Kb.word (Kb.wOf (ranked R S)) (Kb.pOf (ranked R S)) t2 t3, Kb.word (Kb.wOf (ranked R S)) (Kb.pOf (ranked R S)) t1 t2])) la = some (.lst [Kb.word (Kb.wOf (ranked R S)) (Kb.pOf (ranked R S)) t2 t3, Kb.word (Kb.wOf (ranked R S)) (Kb.pOf (ranked R S)) t1 t2]) := upd_same
          generalize upd G5 la (.lst [Kb.word (Kb.wOf (ranked R S)) (Kb.pOf (ranked R S)) t2 t3, Kb.word (Kb.wOf (ranked R S)) (Kb.pOf (ranked R S)) t1 t2]) = G6 at s6 e6 nlb
          have s7 : Same G6 (upd G6 lb (.lst [.str "above", .str "above"])) := same_new (fun b o e => e) nlb _
          have e7 : (upd G6 lb (.lst [.str "above", .str "above"])) lb = some (.lst [.str "above", .str "above"]) := upd_same
          replace e6 := s7 _ _ e6
          have s57 : Same G5 (upd G6 lb (.lst [.str "above", .str "above"])) := fun b o e => s7 _ _ (s6 _ _ e)
          generalize upd G6 lb (.lst [.str "above", .str "above"]) = G7 at s7 e7 e6 s57
          replace m1 := Tm.mono (TK.same s57) _ _ m1
          replace m2 := Tm.mono (TK.same s57) _ _ m2
          replace m3 := Tm.mono (TK.same s57) _ _ m3
          replace L := L.same s57
          have ia : IsW (.str "above") := .inr (.inr (.inl rfl))
          refine ⟨.list [wd (Kb.word (Kb.wOf (ranked R S)) (Kb.pOf (ranked R S)) t2 t3), wd (Kb.word (Kb.wOf (ranked R S)) (Kb.pOf (ranked R S)) t1 t2)], .list [wd (.str "above"), wd (.str "above")], .lst (.inl (.inl e6)) (.cons iw2.dp (.cons iw.dp .nil)), .lst (.inl (.inl e7)) (.cons ia.dp (.cons ia.dp .nil)), iw2.shaped iw, ia.shaped ia, _, rfl, ?_⟩
          cases hb : PyData.eqv (.list [wd (Kb.word (Kb.wOf (ranked R S)) (Kb.pOf (ranked R S)) t2 t3), wd (Kb.word (Kb.wOf (ranked R S)) (Kb.pOf (ranked R S)) t1 t2)]) (.list [wd (.str "above"), wd (.str "above")]) with
          | false => exact iteF (iteF ⟨rfl, L, m1, m2⟩)
          | true =>
            refine iteT ?_
            rw [eqv2, Bool.and_eq_true] at hb
            have h23 := Kb.word_is_above (iw2.is_above hb.1)
            have h12 := Kb.word_is_above (iw.is_above hb.2)
            refine ⟨.ref o, rfl, x1, rfl, x3, rfl, o, R, S, t1, t3, x1, x3, rfl, L.two g T1 T3 m1 m3, by omega, fun G8 s8 => ⟨(word_isW _ _).scal _, _, rfl, ?_⟩⟩
            rw [Kb.word_above (Kb.ab_trans _ _ _ h12 h23), same]
            exact iteF ⟨rfl, L.same s8, Tm.mono (TK.same s8) _ _ m1, Tm.mono (TK.same s8) _ _ m2⟩
        clear L m1 m2 m3 T3 G
        rintro σ G ⟨rfl, L, m1, m2⟩
        -- a substitution
        refine ⟨.ref p, rfl, .ref ra, rfl, .int (nv : Int), rfl, p, l, ra, ns, c, 1, nv, R, rfl, L.pen, by omega, by rw [d1]; omega, L.rows.rows, g.r, by decide, by decide, by omega, fun su z G5 c5 dsu S5 hc5 P5 b5 => ?_⟩
        rw [d1] at hc5
        replace m1 := Tm.mono (pen_tk L.pen b5) _ _ m1
        replace m2 := Tm.mono (pen_tk L.pen b5) _ _ m2
        replace L := L.but b5 P5
        clear P5 b5 G
        obtain ⟨ao, bs, rfl, tup, prs⟩ := S5
        obtain ⟨kvs, pdd, tvO, me⟩ := dict_of tup prs dsu.nd
        refine ⟨ao, bs, kvs, rfl, tup, pdd, fun dd nd0 => ?_⟩
        rw [me]
        have s6 : Same G5 (upd G5 dd (.dK kvs)) := same_new (fun b o e => e) nd0 _
        have edd : (upd G5 dd (.dK kvs)) dd = some (.dK kvs) := upd_same
        replace tvO := tvO.mono (TK.same s6)
        replace m1 := Tm.mono (TK.same s6) _ _ m1
        replace m2 := Tm.mono (TK.same s6) _ _ m2
        replace L := L.same s6
        clear me tup pdd prs nd0
        generalize upd G5 dd (.dK kvs) = G6 at s6 edd tvO m1 m2 L
        clear s6 G5
        refine ⟨fun σ G' => σ = [some (.ref a), some (.ref p), some (.int (0 + (i : Int))), some (.ref ra), some (.ref o), some (.ref d), some (.int (0 + (j : Int))), some (.int (nv : Int)), some x1, some x2, some x3, vb, some (Kb.word (Kb.wOf (ranked R S)) (Kb.pOf (ranked R S)) t1 t2), some (.ref dd), ve, vf, vg, vh, none, none, none, none, none] ∧ Lw K C p l ra ns R S o d c5 G' ∧ Tm K G' t1 x1 ∧ Tm K G' t2 x2, ?_, ?_⟩
        · refine ⟨_, rfl, iw.scal _, _, rfl, ?_⟩
          by_cases ta : Kb.word (Kb.wOf (ranked R S)) (Kb.pOf (ranked R S)) t1 t2 = .str "above"
          · rw [decide_eq_true ta]
            refine iteT ?_
            refine ⟨.ref o, rfl, x1, rfl, .ref dd, rfl, t1, x1, dd, su, kvs, rfl, m1, edd, tvO, by omega, by omega, fun y1 G7 s7 ty1 => ?_⟩
            refine ⟨x2, rfl, .ref dd, rfl, t2, x2, dd, su, kvs, rfl, Tm.mono (TK.same s7) _ _ m2, s7 _ _ edd, tvO.mono (TK.same s7), by omega, by omega, fun y2 G8 s8 ty2 => ?_⟩
            have s68 : Same G6 G8 := fun b o e => s8 _ _ (s7 _ _ e)
            have F1 := fill_tx dsu T1 (by omega) (by omega)
            have F2' := fill_tx dsu T2 (by omega) (by omega)
            refine ⟨o, R, S, T.fill su.asg t1, T.fill su.asg t2, y1, y2, rfl, (L.same s68).two g F1 F2' (Tm.mono (TK.same s8) _ _ ty1) ty2, by have := F1.dep; omega, fun G9 s9 => ⟨(word_isW _ _).scal _, _, rfl, ?_⟩⟩
            have s69 : Same G6 G9 := fun b o e => s9 _ _ (s68 _ _ e)
            rw [Kb.word_above (Kb.ab_fill su.asg (fun j => Kb.W_pos one _) _ _ (Kb.word_is_above ta)), same]
            exact iteF ⟨rfl, L.same s69, Tm.mono (TK.same s69) _ _ m1, Tm.mono (TK.same s69) _ _ m2⟩
          · rw [decide_eq_false ta]
            exact iteF (iteF ⟨rfl, L, m1, m2⟩)
        clear L m1 m2 edd tvO dsu G6 kvs su
        rintro σ G ⟨rfl, L, m1, m2⟩
        -- a whole one
        refine ⟨.ref p, rfl, .ref ra, rfl, p, l, ra, ns, c5, 2, 2, R, S, rfl, L.pen, by omega, by rw [show dn (2 + 1) = 80 from rfl]; omega, L.rows, g.r, g.t, by decide, by decide, by decide, fun tw yw G6 c6 mw da hc6 P6 b6 => ?_⟩
        rw [show dn (2 + 1) = 80 from rfl] at hc6
        replace m1 := Tm.mono (pen_tk L.pen b6) _ _ m1
        replace m2 := Tm.mono (pen_tk L.pen b6) _ _ m2
        replace L := L.but b6 P6
        clear P6 b6 G
        have Tw : Tx (ranked R S) 2 tw := DA.tx (by decide) da
        have Dw : tw.dep ≤ 4 := da.dep
        have Zw : tw.size ≤ 40 := da.size
        clear da
        refine ⟨yw, rfl, tw, yw, rfl, mw, by omega, by omega, fun G7 lp us s7 nlp e7 pus => ⟨lp, rfl, ⟨us, .inl (.inl e7)⟩, fun Di nDi => ?_⟩⟩
        replace m1 := Tm.mono (TK.same s7) _ _ m1
        replace m2 := Tm.mono (TK.same s7) _ _ m2
        replace mw := Tm.mono (TK.same s7) _ _ mw
        replace L := L.same s7
        clear s7 nlp G6
        have lus := pus.len
        rw [T.paths_len] at lus
        refine lc_list (K := K) (a := lp) (xs := us) (fun m G' => ∃ acc pps, Same G7 G' ∧ G' Di = some (.lst acc) ∧ acc.length ≤ m ∧ F2 (PV K G') pps acc ∧ ∀ pp ∈ pps, pp ∈ tw.paths) ⟨[], [], same_new (fun b o e => e) nDi _, upd_same, Nat.le_refl _, rfl, fun pp h => nomatch h⟩ (fun m G' _ ⟨_, _, sm, _⟩ => .inl (.inl (sm _ _ e7))) ?_ ?_
        · rintro m y G' hy ⟨acc, pps, sm, gD, la, fp, mem⟩
          obtain ⟨pp, hpp, ⟨ap, rfl, sqp⟩⟩ := (pus.mono (PV.mono (TK.same sm))).get hy
          have mlt := (List.getElem?_eq_some_iff.mp hy).1
          refine ⟨rfl, .ref ap, rfl, Nat.zero_le _, fun e0 ne0 => ?_⟩
          have s8 : Same G' (upd G' e0 (.tup [])) := same_new (fun b o e => e) ne0 _
          have e8 : SqT K (upd G' e0 (.tup [])) e0 (([] : List Int).map V.int) := .inl (.inl upd_same)
          generalize upd G' e0 (.tup []) = G8 at s8 e8
          have sm8 : Same G7 G8 := fun b o e => s8 _ _ (sm _ _ e)
          refine ⟨iD pp, iD [], iD_dp ((TK.same s8).sq sqp), iD_dp e8, iD_shaped pp, iD_shaped [], _, rfl, ?_⟩
          refine ite2 (fun _ => ?_) (fun _ => ⟨acc, pps, sm8, s8 _ _ gD, by omega, fp.mono (PV.mono (TK.same s8)), mem⟩)
          have kD : TK G8 (upd G8 Di (.lst (acc ++ [.ref ap]))) := TK.lst (s8 _ _ gD) _
          refine ⟨.ref ap, rfl, acc, s8 _ _ gD, by rw [sizeLine_eq]; omega, acc ++ [.ref ap], pps ++ [pp], same_on sm8 nDi _, upd_same, by rw [List.length_append, List.length_singleton]; omega, (fp.mono (PV.mono ((TK.same s8).trans kD))).app (F2.one ⟨ap, rfl, ((TK.same s8).trans kD).sq sqp⟩), fun q hq => ?_⟩
          rcases List.mem_append.mp hq with z | z
          · exact mem q z
          · rw [List.mem_singleton.mp z]
            exact List.mem_of_getElem? hpp
        rintro G8 ⟨acc, pps, sm, gD, la, fp, mem⟩
        replace m1 := Tm.mono (TK.same sm) _ _ m1
        replace m2 := Tm.mono (TK.same sm) _ _ m2
        replace mw := Tm.mono (TK.same sm) _ _ mw
        have nDp := pen_kept L.pen nDi
        replace L := L.same sm
        clear sm pus e7 nDi G7
        -- the things' names
        obtain ⟨b1, b2, vs1, vs2, sq0, sq1, sq2, fR, fS⟩ := id L.rows
        have lR := fR.len
        have fewR := g.r.few
        refine ⟨.ref ra, rfl, ra, _, 0, .ref b1, rfl, rfl, sq0, atI_nat (j := 0) rfl, b1, rfl, ⟨_, sq1⟩, fun Dt nDt => lc_tup (K := K) (a := b1) (xs := vs1) (fun m G' => ∃ acc2, Same G8 G' ∧ G' Dt = some (.lst acc2) ∧ acc2 = ((R.take m).map (·.1)).map V.str) ⟨[], same_new (fun b o e => e) nDt _, upd_same, rfl⟩ (fun m G' _ ⟨_, sm, _⟩ => (TK.same sm).sq sq1) ?_ ?_⟩
        · rintro m x G' hx ⟨acc2, sm, gDt, rfl⟩
          obtain ⟨r, hr', ⟨b, rfl, hb⟩⟩ := fR.get hx
          have mlt := (List.getElem?_eq_some_iff.mp hr').1
          refine ⟨b, _, rfl, (TK.same sm).sq hb, rfl, _, _, rfl, _, _, rfl, _, _, rfl, rfl, rfl, _, rfl, _, gDt, ?_, _, same_on sm nDt _, upd_same, ?_⟩
          · rw [List.length_map, List.length_map, List.length_take, sizeLine_eq]
            omega
          · rw [take_next hr', List.map_append, List.map_append]
            rfl
        rintro G9 ⟨acc2, sm, gDt, rfl⟩
        replace m1 := Tm.mono (TK.same sm) _ _ m1
        replace m2 := Tm.mono (TK.same sm) _ _ m2
        replace mw := Tm.mono (TK.same sm) _ _ mw
        replace L := L.same sm
        replace gD := sm _ _ gD
        replace fp := fp.mono (PV.mono (TK.same sm))
        clear sm sq0 sq1 sq2 fR fS nDt b1 b2 vs2 G8
        refine ⟨fun σ G' => ∃ vb' c', σ = [some (.ref a), some (.ref p), some (.int (0 + (i : Int))), some (.ref ra), some (.ref o), some (.ref d), some (.int (0 + (j : Int))), some (.int (nv : Int)), some x1, some x2, some x3, vb', some (Kb.word (Kb.wOf (ranked R S)) (Kb.pOf (ranked R S)) t1 t2), some (.ref dd), some yw, some (.ref Di), some (.ref Dt), vh, none, none, none, none, none] ∧ c' ≤ c6 + 1 ∧ Lw K C p l ra ns R S o d c' G' ∧ Tm K G' t1 x1, ?_, ?_⟩
        · refine ⟨.ref Di, rfl, Nat.zero_le _, fun z0 nz0 => ?_⟩
          have s1 : Same G9 (upd G9 z0 (.lst [])) := same_new (fun b o e => e) nz0 _
          have e1 : (upd G9 z0 (.lst [])) z0 = some (.lst []) := upd_same
          replace m1 := Tm.mono (TK.same s1) _ _ m1
          replace m2 := Tm.mono (TK.same s1) _ _ m2
          replace mw := Tm.mono (TK.same s1) _ _ mw
          replace L := L.same s1
          replace gD := s1 _ _ gD
          replace gDt := s1 _ _ gDt
          replace fp := fp.mono (PV.mono (TK.same s1))
          generalize upd G9 z0 (.lst []) = GA at s1 e1 m1 m2 mw L gD gDt fp
          clear s1 nz0
          refine ⟨.list (pps.map iD), .list [], .lst (.inl (.inl gD)) (paths_dp fp), .lst (.inl (.inl e1)) .nil, paths_shaped pps, paths_shaped [], _, rfl, ?_⟩
          rw [paths_nil]
          clear e1 z0 G9
          by_cases pe : pps = []
          · rw [pe]
            exact iteF (iteF ⟨vb, c6, rfl, by omega, L, m1⟩)
          have nemp : (!pps.isEmpty) = true := by
            cases pps with
            | nil => exact absurd rfl pe
            | cons q r => rfl
          rw [nemp]
          refine iteT ?_
          refine ⟨x1, rfl, x2, rfl, (by show 2 ≤ sizeLine; decide), fun lq nlq => ?_⟩
          have s1 : Same GA (upd GA lq (.lst [x1, x2])) := same_new (fun b o e => e) nlq _
          have e1 : (upd GA lq (.lst [x1, x2])) lq = some (.lst [x1, x2]) := upd_same
          replace m1 := Tm.mono (TK.same s1) _ _ m1
          replace m2 := Tm.mono (TK.same s1) _ _ m2
          replace mw := Tm.mono (TK.same s1) _ _ mw
          replace L := L.same s1
          replace gD := s1 _ _ gD
          replace gDt := s1 _ _ gDt
          replace fp := fp.mono (PV.mono (TK.same s1))
          generalize upd GA lq (.lst [x1, x2]) = GB at s1 e1 m1 m2 mw L gD gDt fp
          clear s1 nlq
          refine ⟨lq, rfl, ⟨_, .inl (.inl e1)⟩, fun Dq nDq => lc_list (K := K) (a := lq) (xs := [x1, x2]) (fun m G' => ∃ q : Nat, Same GB G' ∧ G' Dq = some (.lst ((List.replicate q (1 : Int)).map V.int)) ∧ q ≤ m) ⟨0, same_new (fun b o e => e) nDq _, upd_same, Nat.le_refl _⟩ (fun m G' _ ⟨_, sm, _⟩ => .inl (.inl (sm _ _ e1))) ?_ ?_⟩
          · rintro m y G' hy ⟨q, sm, gq, hq⟩
            obtain ⟨t, tm⟩ : ∃ t, Tm K G' t y := by
              match m, hy with
              | 0, h =>
                cases h
                exact ⟨t1, Tm.mono (TK.same sm) _ _ m1⟩
              | 1, h =>
                cases h
                exact ⟨t2, Tm.mono (TK.same sm) _ _ m2⟩
            have m2' := (List.getElem?_eq_some_iff.mp hy).1
            have l2 : [x1, x2].length = 2 := rfl
            refine ⟨rfl, y, rfl, t, y, rfl, tm, _, rfl, ?_⟩
            cases t with
            | v k' => exact iteF (iteF ⟨q, sm, gq, by omega⟩)
            | f n' as' =>
            refine iteT ?_
            obtain ⟨ya, zs, rfl, sqy, _⟩ := tm
            refine ⟨.ref ya, rfl, ya, _, 0, .str n', rfl, rfl, sqy, atI_nat (j := 0) rfl, .ref Dt, rfl, Dt, _, rfl, .inl (.inl (.inl (sm _ _ gDt))), rfl, flat_strs _, _, rfl, ?_⟩
            refine ite2 (fun _ => ⟨_, gq, ?_, q + 1, same_on sm nDq _, ?_, by omega⟩) (fun _ => ⟨q, sm, gq, by omega⟩)
            · rw [List.length_map, List.length_replicate, sizeLine_eq]
              omega
            · rw [upd_same, List.replicate_succ', List.map_append]
              rfl
          rintro GC ⟨q, sm, gq, hq⟩
          replace m1 := Tm.mono (TK.same sm) _ _ m1
          replace m2 := Tm.mono (TK.same sm) _ _ m2
          replace mw := Tm.mono (TK.same sm) _ _ mw
          replace L := L.same sm
          replace gD := sm _ _ gD
          replace fp := fp.mono (PV.mono (TK.same sm))
          clear sm gDt nDq e1 GB
          refine ⟨Nat.zero_le _, fun z0 nz0 => ?_⟩
          have s1 : Same GC (upd GC z0 (.lst [])) := same_new (fun b o e => e) nz0 _
          have e1 : (upd GC z0 (.lst [])) z0 = some (.lst []) := upd_same
          replace m1 := Tm.mono (TK.same s1) _ _ m1
          replace m2 := Tm.mono (TK.same s1) _ _ m2
          replace mw := Tm.mono (TK.same s1) _ _ mw
          replace L := L.same s1
          replace gD := s1 _ _ gD
          replace gq := s1 _ _ gq
          replace fp := fp.mono (PV.mono (TK.same s1))
          generalize upd GC z0 (.lst []) = GE at s1 e1 m1 m2 mw L gD gq fp
          clear s1 nz0
          refine ⟨.list ((List.replicate q (1 : Int)).map .int), .list (([] : List Int).map .int), .lst (.inl (.inl gq)) (ints_dp _), .lst (.inl (.inl e1)) .nil, ints_shaped _, ints_shaped [], _, rfl, ?_⟩
          refine ite2 (fun _ => ?_) (fun _ => ⟨vb, c6, rfl, by omega, L, m1⟩)
          have lfp := fp.len
          have ane : acc ≠ [] := fun e => pe (by
            rw [e] at lfp
            exact List.length_eq_zero_iff.mp lfp.symm)
          refine ⟨.ref p, rfl, .ref Di, rfl, p, l, Di, ns, c6, acc, rfl, L.pen, by omega, by omega, .inl (.inl (.inl gD)), ane, by omega, nDp, fun pv GF hpv P9 b9 => ?_⟩
          obtain ⟨pp, hpp, ⟨ap, rfl, sqp⟩⟩ := fp.mem hpv
          replace hpp := mem pp hpp
          replace sqp := (pen_tk L.pen b9).sq sqp
          replace m1 := Tm.mono (pen_tk L.pen b9) _ _ m1
          replace m2 := Tm.mono (pen_tk L.pen b9) _ _ m2
          replace mw := Tm.mono (pen_tk L.pen b9) _ _ mw
          replace L := L.but b9 P9
          clear P9 b9 gq e1 gD fp
          obtain ⟨u, hu⟩ := T.paths_sub tw pp hpp
          obtain ⟨r1, hr1, _, _, zr1, dr1, _⟩ := T.put_sub t1 hu
          obtain ⟨r2, hr2, _, _, zr2, dr2, _⟩ := T.put_sub t2 hu
          have lpp := T.paths_dep tw pp hpp
          have U1 : Tx (ranked R S) 1000 r1 := put_tx (by decide) hr1 ⟨u, hu⟩ Tw (T1.more (by omega)) (by omega) (by omega)
          have U2 : Tx (ranked R S) 1000 r2 := put_tx (by decide) hr2 ⟨u, hu⟩ Tw (T2.more (by omega)) (by omega) (by omega)
          refine ⟨.ref o, rfl, yw, rfl, .ref ap, rfl, x1, rfl, tw, t1, r1, yw, x1, ap, pp, rfl, mw, m1, sqp, by omega, by omega, hr1, fun y1 GG sG ty1 => ?_⟩
          refine ⟨yw, rfl, .ref ap, rfl, x2, rfl, tw, t2, r2, yw, x2, ap, pp, rfl, Tm.mono (TK.same sG) _ _ mw, Tm.mono (TK.same sG) _ _ m2, (TK.same sG).sq sqp, by omega, by omega, hr2, fun y2 GH sH ty2 => ?_⟩
          have sGH : Same GF GH := fun b o e => sH _ _ (sG _ _ e)
          refine ⟨o, R, S, r1, r2, y1, y2, rfl, (L.same sGH).two g U1 U2 (Tm.mono (TK.same sH) _ _ ty1) ty2, by have := U1.dep; omega, fun GI sI => ?_⟩
          have sFI : Same GF GI := fun b o e => sI _ _ (sGH _ _ e)
          have fin := L.same sFI
          have m1' := Tm.mono (TK.same sFI) _ _ m1
          refine ⟨_, rfl, (word_isW _ _).scal2 iw, _, rfl, ?_⟩
          by_cases ew : Kb.word (Kb.wOf (ranked R S)) (Kb.pOf (ranked R S)) r1 r2 = Kb.word (Kb.wOf (ranked R S)) (Kb.pOf (ranked R S)) t1 t2
          · rw [ew, same]
            exact iteF ⟨some (.ref ap), _, rfl, by omega, fin, m1'⟩
          have nt : (!decide (Kb.word (Kb.wOf (ranked R S)) (Kb.pOf (ranked R S)) r1 r2 = Kb.word (Kb.wOf (ranked R S)) (Kb.pOf (ranked R S)) t1 t2)) = true := by rw [decide_eq_false ew]; rfl
          rw [nt]
          refine iteT ?_
          refine ⟨_, rfl, iw.scal _, _, rfl, ?_⟩
          have na : ¬ Kb.word (Kb.wOf (ranked R S)) (Kb.pOf (ranked R S)) t1 t2 = .str "above" := fun e => ew (by rw [e, Kb.word_above (Kb.ab_put (Kb.word_is_above e) hr1 hr2)])
          rw [decide_eq_false na]
          refine iteF ?_
          refine ⟨.int (nv : Int), rfl, rfl, _, rfl, ?_⟩
          refine ground (fun z => ?_) (fun _ => ⟨some (.ref ap), _, rfl, by omega, fin, m1'⟩)
          exfalso
          rcases tot z with h | h | h
          · subst h
            rw [hr1] at hr2
            cases hr2
            exact ew (by rw [Kb.word_refl, Kb.word_refl])
          · exact na (Kb.word_above h)
          · exact ew (by rw [Kb.word_below h, Kb.word_below (Kb.ab_put h hr2 hr1)])
        clear L m1 m2 mw gD gDt fp T2 tot notN G9
        rintro σ G ⟨vb', c', rfl, hc7, L, m1⟩
        -- the parts
        refine ⟨x1, rfl, t1, x1, rfl, m1, by omega, by omega, fun G7 lp us s7 nlp e7 all => ⟨1, rfl, lp, us, rfl, .inl (.inl e7), fun p1 n1 => ?_⟩⟩
        rw [T.parts_tail] at all
        obtain ⟨u0, rest, rfl, hd0, tl⟩ := all
        clear hd0
        rw [cut_args.2]
        have s8 : Same G7 (upd G7 p1 (.lst rest)) := same_new (fun b o e => e) n1 _
        have e8 : (upd G7 p1 (.lst rest)) p1 = some (.lst rest) := upd_same
        have s08 : Same G (upd G7 p1 (.lst rest)) := fun b o e => s8 _ _ (s7 _ _ e)
        replace tl := Tms.mono (TK.same s8) _ _ tl
        replace m1 := Tm.mono (TK.same s08) _ _ m1
        replace L := L.same s08
        generalize upd G7 p1 (.lst rest) = G8 at s8 e8 s08 tl m1 L
        clear s8 s08 s7 nlp e7 n1 G7 G
        refine ⟨p1, rfl, ⟨_, .inl (.inl e8)⟩, for_list (K := K) (a := p1) (xs := rest) (fun m σ G => ∃ vh' : Option V, σ = [some (.ref a), some (.ref p), some (.int (0 + (i : Int))), some (.ref ra), some (.ref o), some (.ref d), some (.int (0 + (j : Int))), some (.int (nv : Int)), some x1, some x2, some x3, vb', some (Kb.word (Kb.wOf (ranked R S)) (Kb.pOf (ranked R S)) t1 t2), some (.ref dd), some yw, some (.ref Di), some (.ref Dt), vh', none, none, none, none, none] ∧ Same G8 G) ⟨vh, rfl, fun b o e => e⟩ (fun m σ G _ ⟨_, _, sm⟩ => .inl (.inl (sm _ _ e8))) ?_ ?_⟩
        · rintro m y σ G hy ⟨vh', rfl, sm⟩
          obtain ⟨u, hu, tu⟩ := (Tms.mono (TK.same sm) _ _ tl).get hy
          have mu := List.mem_of_getElem? hu
          have mp : u ∈ t1.parts := by
            rw [T.parts_tail]
            exact List.mem_cons_of_mem _ mu
          have Tu := T1.part mp one
          have ab := ab_tail (p := Kb.pOf (ranked R S)) one mu
          have m1g := Tm.mono (TK.same sm) _ _ m1
          refine ⟨.ref o, rfl, x1, rfl, y, rfl, o, R, S, t1, u, x1, y, rfl, (L.same sm).two g T1 Tu m1g tu, by omega, fun G9 s9 => ⟨(word_isW _ _).scal _, _, rfl, ?_⟩⟩
          rw [Kb.word_above ab, same]
          refine iteF ?_
          have sm9 : Same G8 G9 := fun b o e => s9 _ _ (sm _ _ e)
          refine ⟨.ref o, rfl, y, rfl, x1, rfl, o, R, S, u, t1, y, x1, rfl, (L.same sm9).two g Tu T1 (Tm.mono (TK.same s9) _ _ tu) (Tm.mono (TK.same s9) _ _ m1g), by have := Tu.dep; omega, fun GA sA => ⟨(word_isW _ _).scal _, _, rfl, ?_⟩⟩
          rw [Kb.word_below ab, same]
          exact iteF ⟨some y, rfl, fun b o e => sA _ _ (sm9 _ _ e)⟩
        · rintro σ G ⟨vh', rfl, sm⟩
          exact ⟨_, _, _, _, _, _, _, _, _, _, _, _, c', rfl, by omega, L.same sm⟩
      · rintro σ G ⟨v6, v7, v8, v9, va, vb, vc, vd, ve, vf, vg, vh, c, rfl, hc, L⟩
        exact ⟨_, _, _, _, _, _, _, _, _, _, _, _, _, _, _, _, c, rfl, by omega, L.pen, fun _ => ⟨o, R, S, rfl, L.ord, g⟩⟩
    · rintro σ G ⟨v2, v3, v4, v5, v6, v7, v8, v9, va, vb, vc, vd, ve, vf, vg, vh, c, rfl, hc, hP2, last⟩
      obtain ⟨o, R, S, rfl, hI, g⟩ := last (by decide)
      refine ⟨(by show 3 ≤ sizeLine; decide), fun q1 n1 => ⟨(by show 1 ≤ sizeLine; decide), fun l1 n2 => ⟨Nat.zero_le _, fun l2 n3 => ?_⟩⟩⟩
      have s1 : Same G (upd G q1 (.tup [.str "a", .int 0, .int 3])) := same_new (fun b o e => e) n1 _
      have e1 : (upd G q1 (.tup [.str "a", .int 0, .int 3])) q1 = some (.tup [.str "a", .int 0, .int 3]) := upd_same
      generalize upd G q1 (.tup [.str "a", .int 0, .int 3]) = G1 at s1 e1 n2 n3
      have s2 : Same G1 (upd G1 l1 (.lst [.ref q1])) := same_new (fun b o e => e) n2 _
      have e2 : (upd G1 l1 (.lst [.ref q1])) l1 = some (.lst [.ref q1]) := upd_same
      replace e1 := s2 _ _ e1
      generalize upd G1 l1 (.lst [.ref q1]) = G2 at s2 e2 e1 n3
      have s3 : Same G2 (upd G2 l2 (.lst [])) := same_new (fun b o e => e) n3 _
      have e3 : (upd G2 l2 (.lst [])) l2 = some (.lst []) := upd_same
      replace e1 := s3 _ _ e1
      replace e2 := s3 _ _ e2
      have s03 : Same G (upd G2 l2 (.lst [])) := fun b o e => s3 _ _ (s2 _ _ (s1 _ _ e))
      generalize upd G2 l2 (.lst []) = G3 at s3 e3 e2 e1 s03
      intro oo dx no ndx nod
      have no' : (upd G3 dx (.own oo)) oo = none := by rw [upd_ne nod.symm]; exact no
      have sN : Same G3 (upd (upd G3 dx (.own oo)) oo (.ins C dx [])) := same_new (same_new (fun b o e => e) ndx _) no' _
      have eo : (upd (upd G3 dx (.own oo)) oo (.ins C dx [])) oo = some (.ins C dx []) := upd_same
      generalize upd (upd G3 dx (.own oo)) oo (.ins C dx []) = G4 at sN eo
      refine ⟨oo, l1, l2, dx, [(("a" : Str), 0, 3)], [], [.ref q1], [], rfl, eo, .inl (.inl (.inl (sN _ _ e2))), F2.one ⟨q1, rfl, .inr (.inl (.inl (sN _ _ e1)))⟩, .inl (.inl (.inl (sN _ _ e3))), rfl, last_ok, fun G5 b5 hI2 => ⟨rfl, ?_⟩⟩
      have s05 : Same G G5 := fun b u e => b5 _ _ (ne_of_none (s03 _ _ e) no) (sN _ _ (s03 _ _ e))
      refine ⟨(by show 1 ≤ sizeLine; decide), fun y1 ny1 => ⟨(by show 1 ≤ sizeLine; decide), fun y2 ny2 => ?_⟩⟩
      have s6 : Same G5 (upd G5 y1 (.tup [.str "yes"])) := same_new (fun b o e => e) ny1 _
      have e6 : (upd G5 y1 (.tup [.str "yes"])) y1 = some (.tup [.str "yes"]) := upd_same
      generalize upd G5 y1 (.tup [.str "yes"]) = G6 at s6 e6 ny2
      have s7 : Same G6 (upd G6 y2 (.tup [.str "a"])) := same_new (fun b o e => e) ny2 _
      have e7 : (upd G6 y2 (.tup [.str "a"])) y2 = some (.tup [.str "a"]) := upd_same
      replace e6 := s7 _ _ e6
      have s57 : Same G5 (upd G6 y2 (.tup [.str "a"])) := fun b o e => s7 _ _ (s6 _ _ e)
      generalize upd G6 y2 (.tup [.str "a"]) = G7 at s7 e7 e6 s57
      refine ⟨oo, [(("a" : Str), 0, 3)], [], .f "yes" [], .f "a" [], .ref y1, .ref y2, rfl, ⟨hI2.same s57, last_ok, ⟨y1, [], rfl, .inl (.inl e6), rfl⟩, ⟨y2, [], rfl, .inl (.inl e7), rfl⟩, ⟨⟨_, List.mem_cons_self .., rfl, rfl⟩, True.intro⟩, ⟨⟨_, List.mem_cons_of_mem _ (List.mem_cons_self ..), rfl, rfl⟩, True.intro⟩, by decide +kernel, by decide +kernel, by decide, by decide, by decide, by decide⟩, by decide, fun G8 s8 => ?_⟩
      rw [last_below]
      have s08 : Same G G8 := fun b o e => s8 _ _ (s57 _ _ (s05 _ _ e))
      refine ⟨rfl, true, congrArg V.bl (decide_eq_true rfl), iteT ?_⟩
      refine ⟨.ref o, rfl, o, R, S, .v 0, .v 0, .int 0, .int 0, rfl, ⟨hI.same s08, g.ok, rfl, rfl, True.intro, True.intro, rfl, rfl, by decide, by decide, by decide, by decide⟩, by decide, fun G9 s9 => ?_⟩
      rw [Kb.word_refl]
      refine ⟨rfl, ?_⟩
      have e : (V.bl (decide (V.str "alike" = V.str "alike"))) = .bl true := congrArg V.bl (decide_eq_true rfl)
      rw [e]
      exact q _
end
end Ad

/-! The head: what the top leaves, by one run. -/
namespace Ad
open PySem PySem.Spec PyProof.Rows L2 GxR
def dd (i : Nat) (x : Str) : He.DefD := ⟨(x, none), x, x, defArgs (topS i), defBody (topS i), defScope (topS i), [], []⟩
def ddO : He.DefD := ⟨("Order", some "__init__"), "__init__", "Order.__init__", defArgs sOInit, defBody sOInit, defScope sOInit, [], []⟩
def fnL : List He.DefD := [dd 4 "is_from", dd 7 "_triples_of", dd 8 "_is_triple", dd 9 "weight_of", dd 10 "_weighed", dd 11 "compare", dd 12 "_first_unlike", dd 13 "_way_by_heads", dd 14 "_way", dd 15 "_has_as_often", dd 17 "_law_pen", dd 18 "_law_draw", dd 19 "_law_pick", dd 20 "_law_drawn_order", dd 21 "_law_ranks", dd 22 "_law_is_var", dd 23 "_law_vars", dd 24 "_law_put", dd 25 "_law_parts", dd 26 "_law_drawn_term", dd 27 "_law_drawn_atom", dd 28 "_law_weight", dd 29 "_law_above", dd 30 "_law_paths", dd 31 "_law_put_there", dd 32 "_law_pairs", dd 33 "_law_drawn_pairs", dd 34 "_law_word", dd 35 "_law_some_term", dd 36 "_law_heavier", dd 37 "law", ddO]
def faL : List He.Fa := [.glo "is_from", .glo "_triples_of", .glo "_is_triple", .glo "weight_of", .glo "_weighed", .glo "compare", .glo "_first_unlike", .glo "_way_by_heads", .glo "_way", .glo "_has_as_often", .glo "_law_pen", .glo "_law_draw", .glo "_law_pick", .glo "_law_drawn_order", .glo "_law_ranks", .glo "_law_is_var", .glo "_law_vars", .glo "_law_put", .glo "_law_parts", .glo "_law_drawn_term", .glo "_law_drawn_atom", .glo "_law_weight", .glo "_law_above", .glo "_law_paths", .glo "_law_put_there", .glo "_law_pairs", .glo "_law_drawn_pairs", .glo "_law_word", .glo "_law_some_term", .glo "_law_heavier", .glo "law", .free "isinstance", .free "int", .free "bool", .free "list", .free "tuple", .free "len", .free "str", .free "enumerate", .free "range", .free "sum", .free "zip", .free "sorted", .free "dict", .glo "Order", .cls "Order", .mkr "Order", .noat "Order" "things", .noat "Order" "truths", .noat "Order" "_weights", .noat "Order" "_places"]
def tfL : List He.Defn := []
abbrev looseL : List PySem.Str := "SettleError" :: "BadRow" :: "is_from" :: "Order" :: "_triples_of" :: "_is_triple" :: "weight_of" :: "_weighed" :: "compare" :: "_first_unlike" :: "_way_by_heads" :: "_way" :: "_has_as_often" :: "_law_pen" :: "_law_draw" :: "_law_pick" :: "_law_drawn_order" :: "_law_ranks" :: "_law_is_var" :: "_law_vars" :: "_law_put" :: "_law_parts" :: "_law_drawn_term" :: "_law_drawn_atom" :: "_law_weight" :: "_law_above" :: "_law_paths" :: "_law_put_there" :: "_law_pairs" :: "_law_drawn_pairs" :: "_law_word" :: "_law_some_term" :: "_law_heavier" :: []
abbrev exL : PySem.W.Frag → Bool := fun _ => true
abbrev RL : PySem.W.OpenRow := PySem.W.OpenLaw.row PySem.Challenge.rw_downtoground_k11_whole_the_order_of_term
abbrev hkL : PySem.W.Hook := He.hookX 5 faL fnL [] tfL exL
def obL (s : PySem.W.SharedT) : He.AlX := He.obsX 5 faL fnL [] tfL exL (HandSHeadRun.getT s)
theorem obL_eq (s : PySem.W.SharedT) : obL s = hkL.obs s.abs := He.obsX_eq (HandSHeadRun.getT_eq s)
theorem runL (w : World) : HandSHeadRun.RunEq RL (PySem.W.view RL.prog [37]) hkL obL 6000 Ad.looseL w := by
  intro os
  kernel_rfl
end Ad

/-! What the head tells, put together. -/
namespace Ad
open PySem PySem.Spec PyProof.Rows L2 GxR
theorem fun_of {K : PySem.W.Frag} {x q : Str} {st : Stmt} {f : Addr} {fd : FuncData} (F : FunD K x q (defArgs st) (defBody st) (defScope st) [] [] f fd) : Fun K x q st f fd := by
  obtain ⟨oc, od, dV, kV, doc, pm, an, cdv, ct, osl, e, lk, code, dfl, _⟩ := F.ex
  rcases dfl with ⟨_, rfl⟩ | ⟨z, _⟩
  · exact ⟨⟨oc, od, kV, doc, pm, an, cdv, ct, osl, e, lk, code⟩, F.kp⟩
  · exact absurd rfl z
section
variable {w : World} {K : PySem.W.Frag} {h : Heap} {mg : Str → Option Value} {f : Addr}
theorem facts (X : K.In h) (G : h.Ns mainGlobals mg) (hfa : mg ("law" : Str) = some (.ref f)) (c : He.SaysX faL fnL [] tfL exL w h K) : LawGAt PySem.Challenge.rw_downtoground_k11_whole_the_order_of_term w K CX0 125 63 "_law_script" mg f h := by
  have cd := c.t.d
  obtain ⟨d4, E4⟩ : ∃ fd, FunD K "is_from" "is_from" (defArgs (topS 4)) (defBody (topS 4)) (defScope (topS 4)) [] [] (He.fAd K ("is_from", none)) fd := cd.def_ 0 (d := dd 4 "is_from") rfl
  have F4 := fun_of E4
  have g4 : mg "is_from" = some (.ref (He.fAd K ("is_from", none))) := He.glo_ok X G (cd.fact 0 (f := .glo "is_from") rfl)
  have b4 : Binds K d4 ["value", "least"] [] := (fun_of E4).binds fun _ _ _ _ _ _ us hl => match us, hl with | [_, _], _ => rfl
  obtain ⟨d7, E7⟩ : ∃ fd, FunD K "_triples_of" "_triples_of" (defArgs (topS 7)) (defBody (topS 7)) (defScope (topS 7)) [] [] (He.fAd K ("_triples_of", none)) fd := cd.def_ 1 (d := dd 7 "_triples_of") rfl
  have F7 := fun_of E7
  have g7 : mg "_triples_of" = some (.ref (He.fAd K ("_triples_of", none))) := He.glo_ok X G (cd.fact 1 (f := .glo "_triples_of") rfl)
  have b7 : Binds K d7 ["row", "taken"] [] := (fun_of E7).binds fun _ _ _ _ _ _ us hl => match us, hl with | [_, _], _ => rfl
  obtain ⟨d8, E8⟩ : ∃ fd, FunD K "_is_triple" "_is_triple" (defArgs (topS 8)) (defBody (topS 8)) (defScope (topS 8)) [] [] (He.fAd K ("_is_triple", none)) fd := cd.def_ 2 (d := dd 8 "_is_triple") rfl
  have F8 := fun_of E8
  have g8 : mg "_is_triple" = some (.ref (He.fAd K ("_is_triple", none))) := He.glo_ok X G (cd.fact 2 (f := .glo "_is_triple") rfl)
  have b8 : Binds K d8 ["item"] [] := (fun_of E8).binds fun _ _ _ _ _ _ us hl => match us, hl with | [_], _ => rfl
  obtain ⟨d9, E9⟩ : ∃ fd, FunD K "weight_of" "weight_of" (defArgs (topS 9)) (defBody (topS 9)) (defScope (topS 9)) [] [] (He.fAd K ("weight_of", none)) fd := cd.def_ 3 (d := dd 9 "weight_of") rfl
  have F9 := fun_of E9
  have g9 : mg "weight_of" = some (.ref (He.fAd K ("weight_of", none))) := He.glo_ok X G (cd.fact 3 (f := .glo "weight_of") rfl)
  have b9 : Binds K d9 ["order", "term"] [] := (fun_of E9).binds fun _ _ _ _ _ _ us hl => match us, hl with | [_, _], _ => rfl
  obtain ⟨d10, E10⟩ : ∃ fd, FunD K "_weighed" "_weighed" (defArgs (topS 10)) (defBody (topS 10)) (defScope (topS 10)) [] [] (He.fAd K ("_weighed", none)) fd := cd.def_ 4 (d := dd 10 "_weighed") rfl
  have F10 := fun_of E10
  have g10 : mg "_weighed" = some (.ref (He.fAd K ("_weighed", none))) := He.glo_ok X G (cd.fact 4 (f := .glo "_weighed") rfl)
  have b10 : Binds K d10 ["order", "term"] [] := (fun_of E10).binds fun _ _ _ _ _ _ us hl => match us, hl with | [_, _], _ => rfl
  obtain ⟨d11, E11⟩ : ∃ fd, FunD K "compare" "compare" (defArgs (topS 11)) (defBody (topS 11)) (defScope (topS 11)) [] [] (He.fAd K ("compare", none)) fd := cd.def_ 5 (d := dd 11 "compare") rfl
  have F11 := fun_of E11
  have g11 : mg "compare" = some (.ref (He.fAd K ("compare", none))) := He.glo_ok X G (cd.fact 5 (f := .glo "compare") rfl)
  have b11 : Binds K d11 ["order", "one", "other"] [] := (fun_of E11).binds fun _ _ _ _ _ _ us hl => match us, hl with | [_, _, _], _ => rfl
  obtain ⟨d12, E12⟩ : ∃ fd, FunD K "_first_unlike" "_first_unlike" (defArgs (topS 12)) (defBody (topS 12)) (defScope (topS 12)) [] [] (He.fAd K ("_first_unlike", none)) fd := cd.def_ 6 (d := dd 12 "_first_unlike") rfl
  have F12 := fun_of E12
  have g12 : mg "_first_unlike" = some (.ref (He.fAd K ("_first_unlike", none))) := He.glo_ok X G (cd.fact 6 (f := .glo "_first_unlike") rfl)
  have b12 : Binds K d12 ["one", "other"] [] := (fun_of E12).binds fun _ _ _ _ _ _ us hl => match us, hl with | [_, _], _ => rfl
  obtain ⟨d13, E13⟩ : ∃ fd, FunD K "_way_by_heads" "_way_by_heads" (defArgs (topS 13)) (defBody (topS 13)) (defScope (topS 13)) [] [] (He.fAd K ("_way_by_heads", none)) fd := cd.def_ 7 (d := dd 13 "_way_by_heads") rfl
  have F13 := fun_of E13
  have g13 : mg "_way_by_heads" = some (.ref (He.fAd K ("_way_by_heads", none))) := He.glo_ok X G (cd.fact 7 (f := .glo "_way_by_heads") rfl)
  have b13 : Binds K d13 ["order", "one", "other"] [] := (fun_of E13).binds fun _ _ _ _ _ _ us hl => match us, hl with | [_, _, _], _ => rfl
  obtain ⟨d14, E14⟩ : ∃ fd, FunD K "_way" "_way" (defArgs (topS 14)) (defBody (topS 14)) (defScope (topS 14)) [] [] (He.fAd K ("_way", none)) fd := cd.def_ 8 (d := dd 14 "_way") rfl
  have F14 := fun_of E14
  have g14 : mg "_way" = some (.ref (He.fAd K ("_way", none))) := He.glo_ok X G (cd.fact 8 (f := .glo "_way") rfl)
  have b14 : Binds K d14 ["one", "other"] [] := (fun_of E14).binds fun _ _ _ _ _ _ us hl => match us, hl with | [_, _], _ => rfl
  obtain ⟨d15, E15⟩ : ∃ fd, FunD K "_has_as_often" "_has_as_often" (defArgs (topS 15)) (defBody (topS 15)) (defScope (topS 15)) [] [] (He.fAd K ("_has_as_often", none)) fd := cd.def_ 9 (d := dd 15 "_has_as_often") rfl
  have F15 := fun_of E15
  have g15 : mg "_has_as_often" = some (.ref (He.fAd K ("_has_as_often", none))) := He.glo_ok X G (cd.fact 9 (f := .glo "_has_as_often") rfl)
  have b15 : Binds K d15 ["often", "least"] [] := (fun_of E15).binds fun _ _ _ _ _ _ us hl => match us, hl with | [_, _], _ => rfl
  obtain ⟨d17, E17⟩ : ∃ fd, FunD K "_law_pen" "_law_pen" (defArgs (topS 17)) (defBody (topS 17)) (defScope (topS 17)) [] [] (He.fAd K ("_law_pen", none)) fd := cd.def_ 10 (d := dd 17 "_law_pen") rfl
  have F17 := fun_of E17
  have g17 : mg "_law_pen" = some (.ref (He.fAd K ("_law_pen", none))) := He.glo_ok X G (cd.fact 10 (f := .glo "_law_pen") rfl)
  have b17 : Binds K d17 ["_law_script"] [] := (fun_of E17).binds fun _ _ _ _ _ _ us hl => match us, hl with | [_], _ => rfl
  obtain ⟨d18, E18⟩ : ∃ fd, FunD K "_law_draw" "_law_draw" (defArgs (topS 18)) (defBody (topS 18)) (defScope (topS 18)) [] [] (He.fAd K ("_law_draw", none)) fd := cd.def_ 11 (d := dd 18 "_law_draw") rfl
  have F18 := fun_of E18
  have g18 : mg "_law_draw" = some (.ref (He.fAd K ("_law_draw", none))) := He.glo_ok X G (cd.fact 11 (f := .glo "_law_draw") rfl)
  have b18 : Binds K d18 ["_law_pen_here", "_law_many"] [] := (fun_of E18).binds fun _ _ _ _ _ _ us hl => match us, hl with | [_, _], _ => rfl
  obtain ⟨d19, E19⟩ : ∃ fd, FunD K "_law_pick" "_law_pick" (defArgs (topS 19)) (defBody (topS 19)) (defScope (topS 19)) [] [] (He.fAd K ("_law_pick", none)) fd := cd.def_ 12 (d := dd 19 "_law_pick") rfl
  have F19 := fun_of E19
  have g19 : mg "_law_pick" = some (.ref (He.fAd K ("_law_pick", none))) := He.glo_ok X G (cd.fact 12 (f := .glo "_law_pick") rfl)
  have b19 : Binds K d19 ["_law_pen_here", "_law_some"] [] := (fun_of E19).binds fun _ _ _ _ _ _ us hl => match us, hl with | [_, _], _ => rfl
  obtain ⟨d20, E20⟩ : ∃ fd, FunD K "_law_drawn_order" "_law_drawn_order" (defArgs (topS 20)) (defBody (topS 20)) (defScope (topS 20)) [] [] (He.fAd K ("_law_drawn_order", none)) fd := cd.def_ 13 (d := dd 20 "_law_drawn_order") rfl
  have F20 := fun_of E20
  have g20 : mg "_law_drawn_order" = some (.ref (He.fAd K ("_law_drawn_order", none))) := He.glo_ok X G (cd.fact 13 (f := .glo "_law_drawn_order") rfl)
  have b20 : Binds K d20 ["_law_pen_here"] [] := (fun_of E20).binds fun _ _ _ _ _ _ us hl => match us, hl with | [_], _ => rfl
  obtain ⟨d21, E21⟩ : ∃ fd, FunD K "_law_ranks" "_law_ranks" (defArgs (topS 21)) (defBody (topS 21)) (defScope (topS 21)) [] [] (He.fAd K ("_law_ranks", none)) fd := cd.def_ 14 (d := dd 21 "_law_ranks") rfl
  have F21 := fun_of E21
  have g21 : mg "_law_ranks" = some (.ref (He.fAd K ("_law_ranks", none))) := He.glo_ok X G (cd.fact 14 (f := .glo "_law_ranks") rfl)
  have b21 : Binds K d21 ["_law_rows"] [] := (fun_of E21).binds fun _ _ _ _ _ _ us hl => match us, hl with | [_], _ => rfl
  obtain ⟨d22, E22⟩ : ∃ fd, FunD K "_law_is_var" "_law_is_var" (defArgs (topS 22)) (defBody (topS 22)) (defScope (topS 22)) [] [] (He.fAd K ("_law_is_var", none)) fd := cd.def_ 15 (d := dd 22 "_law_is_var") rfl
  have F22 := fun_of E22
  have g22 : mg "_law_is_var" = some (.ref (He.fAd K ("_law_is_var", none))) := He.glo_ok X G (cd.fact 15 (f := .glo "_law_is_var") rfl)
  have b22 : Binds K d22 ["_law_term"] [] := (fun_of E22).binds fun _ _ _ _ _ _ us hl => match us, hl with | [_], _ => rfl
  obtain ⟨d23, E23⟩ : ∃ fd, FunD K "_law_vars" "_law_vars" (defArgs (topS 23)) (defBody (topS 23)) (defScope (topS 23)) [] [] (He.fAd K ("_law_vars", none)) fd := cd.def_ 16 (d := dd 23 "_law_vars") rfl
  have F23 := fun_of E23
  have g23 : mg "_law_vars" = some (.ref (He.fAd K ("_law_vars", none))) := He.glo_ok X G (cd.fact 16 (f := .glo "_law_vars") rfl)
  have b23 : Binds K d23 ["_law_term"] [] := (fun_of E23).binds fun _ _ _ _ _ _ us hl => match us, hl with | [_], _ => rfl
  obtain ⟨d24, E24⟩ : ∃ fd, FunD K "_law_put" "_law_put" (defArgs (topS 24)) (defBody (topS 24)) (defScope (topS 24)) [] [] (He.fAd K ("_law_put", none)) fd := cd.def_ 17 (d := dd 24 "_law_put") rfl
  have F24 := fun_of E24
  have g24 : mg "_law_put" = some (.ref (He.fAd K ("_law_put", none))) := He.glo_ok X G (cd.fact 17 (f := .glo "_law_put") rfl)
  have b24 : Binds K d24 ["_law_term", "_law_known"] [] := (fun_of E24).binds fun _ _ _ _ _ _ us hl => match us, hl with | [_, _], _ => rfl
  obtain ⟨d25, E25⟩ : ∃ fd, FunD K "_law_parts" "_law_parts" (defArgs (topS 25)) (defBody (topS 25)) (defScope (topS 25)) [] [] (He.fAd K ("_law_parts", none)) fd := cd.def_ 18 (d := dd 25 "_law_parts") rfl
  have F25 := fun_of E25
  have g25 : mg "_law_parts" = some (.ref (He.fAd K ("_law_parts", none))) := He.glo_ok X G (cd.fact 18 (f := .glo "_law_parts") rfl)
  have b25 : Binds K d25 ["_law_term"] [] := (fun_of E25).binds fun _ _ _ _ _ _ us hl => match us, hl with | [_], _ => rfl
  obtain ⟨d26, E26⟩ : ∃ fd, FunD K "_law_drawn_term" "_law_drawn_term" (defArgs (topS 26)) (defBody (topS 26)) (defScope (topS 26)) [] [] (He.fAd K ("_law_drawn_term", none)) fd := cd.def_ 19 (d := dd 26 "_law_drawn_term") rfl
  have F26 := fun_of E26
  have g26 : mg "_law_drawn_term" = some (.ref (He.fAd K ("_law_drawn_term", none))) := He.glo_ok X G (cd.fact 19 (f := .glo "_law_drawn_term") rfl)
  have b26 : Binds K d26 ["_law_pen_here", "_law_rows", "_law_deep", "_law_variables"] [] := (fun_of E26).binds fun _ _ _ _ _ _ us hl => match us, hl with | [_, _, _, _], _ => rfl
  obtain ⟨d27, E27⟩ : ∃ fd, FunD K "_law_drawn_atom" "_law_drawn_atom" (defArgs (topS 27)) (defBody (topS 27)) (defScope (topS 27)) [] [] (He.fAd K ("_law_drawn_atom", none)) fd := cd.def_ 20 (d := dd 27 "_law_drawn_atom") rfl
  have F27 := fun_of E27
  have g27 : mg "_law_drawn_atom" = some (.ref (He.fAd K ("_law_drawn_atom", none))) := He.glo_ok X G (cd.fact 20 (f := .glo "_law_drawn_atom") rfl)
  have b27 : Binds K d27 ["_law_pen_here", "_law_rows", "_law_deep", "_law_variables"] [] := (fun_of E27).binds fun _ _ _ _ _ _ us hl => match us, hl with | [_, _, _, _], _ => rfl
  obtain ⟨d28, E28⟩ : ∃ fd, FunD K "_law_weight" "_law_weight" (defArgs (topS 28)) (defBody (topS 28)) (defScope (topS 28)) [] [] (He.fAd K ("_law_weight", none)) fd := cd.def_ 21 (d := dd 28 "_law_weight") rfl
  have F28 := fun_of E28
  have g28 : mg "_law_weight" = some (.ref (He.fAd K ("_law_weight", none))) := He.glo_ok X G (cd.fact 21 (f := .glo "_law_weight") rfl)
  have b28 : Binds K d28 ["_law_ranks_here", "_law_term"] [] := (fun_of E28).binds fun _ _ _ _ _ _ us hl => match us, hl with | [_, _], _ => rfl
  obtain ⟨d29, E29⟩ : ∃ fd, FunD K "_law_above" "_law_above" (defArgs (topS 29)) (defBody (topS 29)) (defScope (topS 29)) [] [] (He.fAd K ("_law_above", none)) fd := cd.def_ 22 (d := dd 29 "_law_above") rfl
  have F29 := fun_of E29
  have g29 : mg "_law_above" = some (.ref (He.fAd K ("_law_above", none))) := He.glo_ok X G (cd.fact 22 (f := .glo "_law_above") rfl)
  have b29 : Binds K d29 ["_law_ranks_here", "_law_one", "_law_two"] [] := (fun_of E29).binds fun _ _ _ _ _ _ us hl => match us, hl with | [_, _, _], _ => rfl
  obtain ⟨d30, E30⟩ : ∃ fd, FunD K "_law_paths" "_law_paths" (defArgs (topS 30)) (defBody (topS 30)) (defScope (topS 30)) [] [] (He.fAd K ("_law_paths", none)) fd := cd.def_ 23 (d := dd 30 "_law_paths") rfl
  have F30 := fun_of E30
  have g30 : mg "_law_paths" = some (.ref (He.fAd K ("_law_paths", none))) := He.glo_ok X G (cd.fact 23 (f := .glo "_law_paths") rfl)
  have b30 : Binds K d30 ["_law_term"] [] := (fun_of E30).binds fun _ _ _ _ _ _ us hl => match us, hl with | [_], _ => rfl
  obtain ⟨d31, E31⟩ : ∃ fd, FunD K "_law_put_there" "_law_put_there" (defArgs (topS 31)) (defBody (topS 31)) (defScope (topS 31)) [] [] (He.fAd K ("_law_put_there", none)) fd := cd.def_ 24 (d := dd 31 "_law_put_there") rfl
  have F31 := fun_of E31
  have g31 : mg "_law_put_there" = some (.ref (He.fAd K ("_law_put_there", none))) := He.glo_ok X G (cd.fact 24 (f := .glo "_law_put_there") rfl)
  have b31 : Binds K d31 ["_law_term", "_law_path", "_law_new"] [] := (fun_of E31).binds fun _ _ _ _ _ _ us hl => match us, hl with | [_, _, _], _ => rfl
  obtain ⟨d32, E32⟩ : ∃ fd, FunD K "_law_pairs" "_law_pairs" (defArgs (topS 32)) (defBody (topS 32)) (defScope (topS 32)) [] [] (He.fAd K ("_law_pairs", none)) fd := cd.def_ 25 (d := dd 32 "_law_pairs") rfl
  have F32 := fun_of E32
  have g32 : mg "_law_pairs" = some (.ref (He.fAd K ("_law_pairs", none))) := He.glo_ok X G (cd.fact 25 (f := .glo "_law_pairs") rfl)
  have b32 : Binds K d32 ["_law_known"] [] := (fun_of E32).binds fun _ _ _ _ _ _ us hl => match us, hl with | [_], _ => rfl
  obtain ⟨d33, E33⟩ : ∃ fd, FunD K "_law_drawn_pairs" "_law_drawn_pairs" (defArgs (topS 33)) (defBody (topS 33)) (defScope (topS 33)) [] [] (He.fAd K ("_law_drawn_pairs", none)) fd := cd.def_ 26 (d := dd 33 "_law_drawn_pairs") rfl
  have F33 := fun_of E33
  have g33 : mg "_law_drawn_pairs" = some (.ref (He.fAd K ("_law_drawn_pairs", none))) := He.glo_ok X G (cd.fact 26 (f := .glo "_law_drawn_pairs") rfl)
  have b33 : Binds K d33 ["_law_pen_here", "_law_rows", "_law_variables", "_law_deep"] [] := (fun_of E33).binds fun _ _ _ _ _ _ us hl => match us, hl with | [_, _, _, _], _ => rfl
  obtain ⟨d34, E34⟩ : ∃ fd, FunD K "_law_word" "_law_word" (defArgs (topS 34)) (defBody (topS 34)) (defScope (topS 34)) [] [] (He.fAd K ("_law_word", none)) fd := cd.def_ 27 (d := dd 34 "_law_word") rfl
  have F34 := fun_of E34
  have g34 : mg "_law_word" = some (.ref (He.fAd K ("_law_word", none))) := He.glo_ok X G (cd.fact 27 (f := .glo "_law_word") rfl)
  have b34 : Binds K d34 ["_law_ranks_here", "_law_one", "_law_two"] [] := (fun_of E34).binds fun _ _ _ _ _ _ us hl => match us, hl with | [_, _, _], _ => rfl
  obtain ⟨d35, E35⟩ : ∃ fd, FunD K "_law_some_term" "_law_some_term" (defArgs (topS 35)) (defBody (topS 35)) (defScope (topS 35)) [] [] (He.fAd K ("_law_some_term", none)) fd := cd.def_ 28 (d := dd 35 "_law_some_term") rfl
  have F35 := fun_of E35
  have g35 : mg "_law_some_term" = some (.ref (He.fAd K ("_law_some_term", none))) := He.glo_ok X G (cd.fact 28 (f := .glo "_law_some_term") rfl)
  have b35 : Binds K d35 ["_law_pen_here", "_law_rows", "_law_variables"] [] := (fun_of E35).binds fun _ _ _ _ _ _ us hl => match us, hl with | [_, _, _], _ => rfl
  obtain ⟨d36, E36⟩ : ∃ fd, FunD K "_law_heavier" "_law_heavier" (defArgs (topS 36)) (defBody (topS 36)) (defScope (topS 36)) [] [] (He.fAd K ("_law_heavier", none)) fd := cd.def_ 29 (d := dd 36 "_law_heavier") rfl
  have F36 := fun_of E36
  have g36 : mg "_law_heavier" = some (.ref (He.fAd K ("_law_heavier", none))) := He.glo_ok X G (cd.fact 29 (f := .glo "_law_heavier") rfl)
  have b36 : Binds K d36 ["_law_pen_here", "_law_rows"] [] := (fun_of E36).binds fun _ _ _ _ _ _ us hl => match us, hl with | [_, _], _ => rfl
  obtain ⟨d37, E37⟩ : ∃ fd, FunD K "law" "law" (defArgs (topS 37)) (defBody (topS 37)) (defScope (topS 37)) [] [] (He.fAd K ("law", none)) fd := cd.def_ 30 (d := dd 37 "law") rfl
  have F37 := fun_of E37
  have g37 : mg "law" = some (.ref (He.fAd K ("law", none))) := He.glo_ok X G (cd.fact 30 (f := .glo "law") rfl)
  have b37 : Binds K d37 ["_law_script"] [] := (fun_of E37).binds fun _ _ _ _ _ _ us hl => match us, hl with | [_], _ => rfl
  obtain ⟨dO, EO⟩ : ∃ fd, FunD K "__init__" "Order.__init__" (defArgs sOInit) (defBody sOInit) (defScope sOInit) [] [] (He.fAd K ("Order", some "__init__")) fd := cd.def_ 31 (d := ddO) rfl
  have FO := fun_of EO
  have bO : Binds K dO ["self", "things", "truths"] [] := (fun_of EO).binds fun _ _ _ _ _ _ us hl => match us, hl with | [_, _, _], _ => rfl
  have m_isinstance : mg "isinstance" = none := He.free_ok X G (cd.fact 31 (f := .free "isinstance") rfl)
  have m_int : mg "int" = none := He.free_ok X G (cd.fact 32 (f := .free "int") rfl)
  have m_bool : mg "bool" = none := He.free_ok X G (cd.fact 33 (f := .free "bool") rfl)
  have m_list : mg "list" = none := He.free_ok X G (cd.fact 34 (f := .free "list") rfl)
  have m_tuple : mg "tuple" = none := He.free_ok X G (cd.fact 35 (f := .free "tuple") rfl)
  have m_len : mg "len" = none := He.free_ok X G (cd.fact 36 (f := .free "len") rfl)
  have m_str : mg "str" = none := He.free_ok X G (cd.fact 37 (f := .free "str") rfl)
  have m_enumerate : mg "enumerate" = none := He.free_ok X G (cd.fact 38 (f := .free "enumerate") rfl)
  have m_range : mg "range" = none := He.free_ok X G (cd.fact 39 (f := .free "range") rfl)
  have m_sum : mg "sum" = none := He.free_ok X G (cd.fact 40 (f := .free "sum") rfl)
  have m_zip : mg "zip" = none := He.free_ok X G (cd.fact 41 (f := .free "zip") rfl)
  have m_sorted : mg "sorted" = none := He.free_ok X G (cd.fact 42 (f := .free "sorted") rfl)
  have m_dict : mg "dict" = none := He.free_ok X G (cd.fact 43 (f := .free "dict") rfl)
  have gO : mg "Order" = some (.ref (He.ga K "Order")) := He.glo_ok X G (cd.fact 44 (f := .glo "Order") rfl)
  have cls : Cls K (He.ga K "Order") := He.cls_ok (cd.fact 45 (f := .cls "Order") rfl)
  have MO : L2.Mk K (He.ga K "Order") (He.fAd K ("Order", some "__init__")) := He.mkr_ok (cd.fact 46 (f := .mkr "Order") rfl)
  have na0 : NoAttr K (He.ga K "Order") "things" := He.noat_ok (cd.fact 47 (f := .noat "Order" "things") rfl)
  have na1 : NoAttr K (He.ga K "Order") "truths" := He.noat_ok (cd.fact 48 (f := .noat "Order" "truths") rfl)
  have na2 : NoAttr K (He.ga K "Order") "_weights" := He.noat_ok (cd.fact 49 (f := .noat "Order" "_weights") rfl)
  have na3 : NoAttr K (He.ga K "Order") "_places" := He.noat_ok (cd.fact 50 (f := .noat "Order" "_places") rfl)
  have law0 : f = He.fAd K ("law", none) := by
    have e := hfa.symm.trans g37
    cases e
    rfl
  subst law0
  refine ⟨d37, [], spLaw K, (fun p hp => nomatch hp), (fun p hp => nomatch hp), (fun p hp => nomatch hp), ?_, ?_, ?_⟩
  · exact fun s v => FunD.bindsA (ps := ["_law_script"]) E37 (fun _ _ _ _ _ _ us hl => match us, hl with | [_], _ => rfl) s [v] rfl
  · intro H a ns few tabs seq
    exact ⟨a, ns, rfl, seq, few, fun _ => rfl⟩
  · intro base inB nsB tb
    have GIs : FnOk PySem.Challenge.rw_downtoground_k11_whole_the_order_of_term.prog w K mg base CX0 1 _ d22 ["_law_term"] (spIsVar K) := ok_isvar F22 m_isinstance m_int
    have GDr : FnOk PySem.Challenge.rw_downtoground_k11_whole_the_order_of_term.prog w K mg base CX0 1 _ d18 ["_law_pen_here", "_law_many"] Pn.spDraw := Pn.ok_draw F18 m_int m_len
    have GPi : FnOk PySem.Challenge.rw_downtoground_k11_whole_the_order_of_term.prog w K mg base CX0 2 _ d19 ["_law_pen_here", "_law_some"] (Pn.spPick K) := Pn.ok_pick F19 GDr g18 F18.kp b18 m_len
    have GPt : FnOk PySem.Challenge.rw_downtoground_k11_whole_the_order_of_term.prog w K mg base CX0 2 _ d19 ["_law_pen_here", "_law_some"] (spPickT K) := ok_pickT F19 GDr g18 F18.kp b18 m_len
    have GTe : FnOk PySem.Challenge.rw_downtoground_k11_whole_the_order_of_term.prog w K mg base CX0 7 _ d26 ["_law_pen_here", "_law_rows", "_law_deep", "_law_variables"] (spDrawn K 5) := ok_drawn F26 g26 b26 (GDr.mono (by decide : 1 ≤ 2)) g18 F18.kp b18 GPi g19 F19.kp b19 m_tuple m_range 5
    have GAt : FnOk PySem.Challenge.rw_downtoground_k11_whole_the_order_of_term.prog w K mg base CX0 8 _ d27 ["_law_pen_here", "_law_rows", "_law_deep", "_law_variables"] (spLAtom K 5) := ok_latom F27 (GPt.mono (by decide : 2 ≤ 7)) g19 F19.kp b19 GTe g26 F26.kp b26 m_tuple m_range
    have GSo : FnOk PySem.Challenge.rw_downtoground_k11_whole_the_order_of_term.prog w K mg base CX0 9 _ d35 ["_law_pen_here", "_law_rows", "_law_variables"] (spLSome K) := ok_lsome F35 (GDr.mono (by decide : 1 ≤ 8)) g18 F18.kp b18 GAt g27 F27.kp b27 (GTe.mono (by decide : 7 ≤ 8)) g26 F26.kp b26
    have GHv : FnOk PySem.Challenge.rw_downtoground_k11_whole_the_order_of_term.prog w K mg base CX0 2 _ d36 ["_law_pen_here", "_law_rows"] (spLHeavier K) := ok_lheavier F36 GDr g18 F18.kp b18 m_tuple
    have GRk : FnOk PySem.Challenge.rw_downtoground_k11_whole_the_order_of_term.prog w K mg base CX0 1 _ d21 ["_law_rows"] (spLRanks K) := ok_lranks (k := 0) F21 m_len
    have GOr : FnOk PySem.Challenge.rw_downtoground_k11_whole_the_order_of_term.prog w K mg base CX0 3 _ d20 ["_law_pen_here"] (spOrder K) := ok_order F20 (GDr.mono (by decide : 1 ≤ 2)) g18 F18.kp b18 GPi g19 F19.kp b19 m_tuple m_range m_list m_len
    have GLV : FnOk PySem.Challenge.rw_downtoground_k11_whole_the_order_of_term.prog w K mg base CX0 62 _ d23 ["_law_term"] (spLVars K 61) := ok_lvars F23 g23 b23 GIs g22 F22.kp b22 61
    have GLW : FnOk PySem.Challenge.rw_downtoground_k11_whole_the_order_of_term.prog w K mg base CX0 62 _ d28 ["_law_ranks_here", "_law_term"] (spLWeight K 61) := ok_lweight F28 g28 b28 GIs g22 F22.kp b22 m_sum 61
    have GLA : FnOk PySem.Challenge.rw_downtoground_k11_whole_the_order_of_term.prog w K mg base CX0 123 _ d29 ["_law_ranks_here", "_law_one", "_law_two"] (spLAbove K 61) := ok_labove F29 g29 b29 GLV g23 F23.kp b23 (GIs.mono (by decide : 1 ≤ 62)) g22 F22.kp b22 GLW g28 F28.kp b28 m_zip 61
    have GWd : FnOk PySem.Challenge.rw_downtoground_k11_whole_the_order_of_term.prog w K mg base CX0 124 _ d34 ["_law_ranks_here", "_law_one", "_law_two"] (spLWord K) := ok_lword F34 GLA g29 F29.kp b29
    have GWe : FnOk PySem.Challenge.rw_downtoground_k11_whole_the_order_of_term.prog w K mg base CX0 2 _ d10 ["order", "term"] (spWeighed K (He.ga K "Order")) := ok_weighed F10 (k := 1) m_isinstance m_int cls na2
    have GWo : FnOk PySem.Challenge.rw_downtoground_k11_whole_the_order_of_term.prog w K mg base CX0 3 _ d9 ["order", "term"] (spWeightOf K (He.ga K "Order")) := ok_weightOf F9 GWe g10 F10.kp b10
    have GWy : FnOk PySem.Challenge.rw_downtoground_k11_whole_the_order_of_term.prog w K mg base CX0 1 _ d14 ["one", "other"] spWay := ok_way (k := 0) F14
    have GOf : FnOk PySem.Challenge.rw_downtoground_k11_whole_the_order_of_term.prog w K mg base CX0 1 _ d15 ["often", "least"] spOften := ok_often (k := 0) F15
    have GHd : FnOk PySem.Challenge.rw_downtoground_k11_whole_the_order_of_term.prog w K mg base CX0 2 _ d13 ["order", "one", "other"] (spHeads K (He.ga K "Order")) := ok_heads F13 GWy g14 F14.kp b14 m_isinstance m_int cls na3
    have GFu : FnOk PySem.Challenge.rw_downtoground_k11_whole_the_order_of_term.prog w K mg base CX0 1 _ d12 ["one", "other"] (spFirstUn K) := ok_firstun (k := 0) F12
    have GCm : FnOk PySem.Challenge.rw_downtoground_k11_whole_the_order_of_term.prog w K mg base CX0 3 _ d11 ["order", "one", "other"] (spCmp K (He.ga K "Order") 61) := ok_compare F11 GWe g10 F10.kp b10 GHd g13 F13.kp b13 (GFu.mono (by decide : 1 ≤ 2)) g12 F12.kp b12 (GOf.mono (by decide : 1 ≤ 2)) g15 F15.kp b15 m_isinstance m_int 61
    have GFr : FnOk PySem.Challenge.rw_downtoground_k11_whole_the_order_of_term.prog w K mg base CX0 1 _ d4 ["value", "least"] spFrom := ok_from (k := 0) F4 m_isinstance m_int m_bool
    have GTr : FnOk PySem.Challenge.rw_downtoground_k11_whole_the_order_of_term.prog w K mg base CX0 2 _ d8 ["item"] (spTriple K) := ok_triple F8 GFr g4 F4.kp b4 m_isinstance m_list m_tuple m_len m_str
    have GTs : FnOk PySem.Challenge.rw_downtoground_k11_whole_the_order_of_term.prog w K mg base CX0 3 _ d7 ["row", "taken"] (spTriples K) := ok_triples F7 GTr g8 F8.kp b8 m_isinstance m_list m_tuple
    have GOI : FnOk PySem.Challenge.rw_downtoground_k11_whole_the_order_of_term.prog w K mg base CX0 4 _ dO ["self", "things", "truths"] (spOInit K (He.ga K "Order")) := ok_oinit FO GTs g7 F7.kp b7 m_enumerate cls na0 na1 na2 na3
    have GLP : FnOk PySem.Challenge.rw_downtoground_k11_whole_the_order_of_term.prog w K mg base CX0 13 _ d24 ["_law_term", "_law_known"] (spFilled K 12) := ok_lput F24 g24 b24 GIs g22 F22.kp b22 m_tuple 12
    have GLT : FnOk PySem.Challenge.rw_downtoground_k11_whole_the_order_of_term.prog w K mg base CX0 13 _ d31 ["_law_term", "_law_path", "_law_new"] (spPut K 12) := ok_lpt (k := 1) F31 g31 b31 12
    have GLH : FnOk PySem.Challenge.rw_downtoground_k11_whole_the_order_of_term.prog w K mg base CX0 13 _ d30 ["_law_term"] (spLPaths K 12) := ok_lpaths F30 g30 b30 GIs g22 F22.kp b22 m_range m_len 12
    have GLR : FnOk PySem.Challenge.rw_downtoground_k11_whole_the_order_of_term.prog w K mg base CX0 62 _ d25 ["_law_term"] (spLParts K 61) := ok_lparts F25 g25 b25 GIs g22 F22.kp b22 61
    have GPr : FnOk PySem.Challenge.rw_downtoground_k11_whole_the_order_of_term.prog w K mg base CX0 1 _ d32 ["_law_known"] (spLPairs K) := ok_lpairs (k := 0) F32 m_tuple m_sorted m_list
    have GDP : FnOk PySem.Challenge.rw_downtoground_k11_whole_the_order_of_term.prog w K mg base CX0 8 _ d33 ["_law_pen_here", "_law_rows", "_law_variables", "_law_deep"] (spDPairs K 5) := ok_dpairs (k := 7) F33 (GDr.mono (by decide : 1 ≤ 7)) g18 F18.kp b18 GTe g26 F26.kp b26 (GPr.mono (by decide : 1 ≤ 7)) g32 F32.kp b32 m_range
    have GPe : FnOk PySem.Challenge.rw_downtoground_k11_whole_the_order_of_term.prog w K mg base CX0 1 _ d17 ["_law_script"] (Pn.spPen K) := Pn.ok_pen (k := 0) F17 m_int m_list
    exact FnG.of (ok_law (k := 123) F37 ⟨GPe.mono (by decide), g17, F17.kp, b17⟩ ⟨GDr.mono (by decide), g18, F18.kp, b18⟩ ⟨GPi.mono (by decide), g19, F19.kp, b19⟩ ⟨GOr.mono (by decide), g20, F20.kp, b20⟩ ⟨GHv.mono (by decide), g36, F36.kp, b36⟩ ⟨GRk.mono (by decide), g21, F21.kp, b21⟩ ⟨GSo.mono (by decide), g35, F35.kp, b35⟩ ⟨GLH.mono (by decide), g30, F30.kp, b30⟩ ⟨GLT.mono (by decide), g31, F31.kp, b31⟩ ⟨GTe.mono (by decide), g26, F26.kp, b26⟩ ⟨GCm.mono (by decide), g11, F11.kp, b11⟩ ⟨GWd.mono (by decide), g34, F34.kp, b34⟩ ⟨GWo.mono (by decide), g9, F9.kp, b9⟩ ⟨GLW.mono (by decide), g28, F28.kp, b28⟩ ⟨GDP.mono (by decide), g33, F33.kp, b33⟩ ⟨GLP.mono (by decide), g24, F24.kp, b24⟩ ⟨GAt.mono (by decide), g27, F27.kp, b27⟩ ⟨GIs.mono (by decide), g22, F22.kp, b22⟩ ⟨GLR.mono (by decide), g25, F25.kp, b25⟩ MO (GOI.mono (by decide)) gO bO m_range m_list m_dict)
end
end Ad

open PySem PySem.W PySem.Calls PyProof.Rows
theorem PySem.Challenge.cw_downtoground_k11_whole_the_order_of_term_holds : PySem.Challenge.rw_downtoground_k11_whole_the_order_of_term.Holds := by
  w_on
  o_law
  refine HandSHeadRun.head_any (r := OpenLaw.row PySem.Challenge.rw_downtoground_k11_whole_the_order_of_term) (q := view (OpenLaw.row PySem.Challenge.rw_downtoground_k11_whole_the_order_of_term).prog [37]) (H := Ad.hkL) (ob := Ad.obL) (M := 6000) (loose := Ad.looseL)
    (d := HandSHeadRun.topDef (OpenLaw.row PySem.Challenge.rw_downtoground_k11_whole_the_order_of_term).prog 37) (kwd := []) Ad.obL_eq (by kernel_rfl) (fun s => by kernel_rfl) Ad.runL (by kernel_rfl) (by kernel_rfl) (by kernel_rfl) (by rfl) (by first | assumption | decide +kernel) (by decide +kernel) ⟨rfl, rfl, rfl, rfl, rfl, by decide +kernel⟩ ?hw ?hc
  case hw => w_witness2
  case hc =>
    refine Ad.walkGT (l := PySem.Challenge.rw_downtoground_k11_whole_the_order_of_term) (n := 63) (k := 125) (x := "_law_script") (CX := fun _ => L2.CX0) rfl (by decide) (by kernel_rfl) ⟨rfl, by decide, by decide⟩ ?F (fun _ _ _ _ _ z => z)
    intro w mg fa h ⟨K, KX, c⟩ G named
    have e : (HandSHeadRun.topDef (OpenLaw.row PySem.Challenge.rw_downtoground_k11_whole_the_order_of_term).prog 37).name = ("law" : PySem.Str) := by kernel_rfl
    rw [e] at named
    exact ⟨K, KX, Ad.facts KX G named c⟩

