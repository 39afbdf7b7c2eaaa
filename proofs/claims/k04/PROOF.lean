import PyProof.Rows.All
import Wide.All
import OpenK.AllK
import Wide.FinOn
import HandS.ForMost
import HandS.More
import HandS.Style
import HandS.TupAny
import HandS.IsInst
import HandS.Codes
import HandS.Exc
import HandS.Ends
import PyProof.P3Eq
import PyProof.ReprReads
import PyProof.TupleIter
import HandS.GenList
import HandS.AnyAll
import PyProof.GenComp
import PyProof.TupleOfGen
import HandS.Conv
import HandS.WordsDict
import HandS.Zip
import HandS.Zip0
import PyProof.Draws
import PyProof.EnumMake
import PyProof.EnumFor
import PyProof.CollectWalk
import PyProof.ListNew
import HandS.Deep
import HandS.DictComp
import HandS.WordsExc
import HandS.Walk
import HandS.Rev
import HandS.ExcInit
import HandS.ExcField
import HandS.TryMany
import HandS.SetKeys
import HandS.Defaults
import HandS.Lambda
import HandS.ExcOwn
import HandS.ExcIs
import HandS.ExcValue
import HandS.EndTab
import HandS.Head0
import HandS.Head1
import HandS.Head2
import HandS.HeadEnd
import HandS.HeadHook1
import HandS.HeadHook2
import HandS.HeadHook3
import HandS.HeadHook4
import PySem.Challenge.RW_downtoground_k04_whole_names_kinds_and_o
set_option Elab.async false
set_option linter.all false
set_option maxRecDepth 100000
set_option maxHeartbeats 0
namespace Ad
open PySem PySem.Spec PySem.Calls PyProof.Rows L2
def topS (i : Nat) : Stmt := PySem.Challenge.pw_downtoground_k04_whole_names_kinds_and_o.main.body.getD i (.Pass ⟨0, 0, 0, 0⟩)
end Ad

/-! A tuple's tail from behind: t[:0:-1]. -/
namespace Ad
open PySem PySem.Spec PySem.Calls PyProof.Rows L2
section
variable {prog : Program} {w : World} {A : Around} {E : Value → Shared → Prop} {s : Shared}
theorem adj_back {n : Nat} (h : 1 ≤ n) : Builtin.Slice.sliceAdjust none (some 0) (-1) (n : Int) = ((n : Int) - 1, 0) := by
  unfold Builtin.Slice.sliceAdjust
  have h1 : ((-1 : Int) < 0) := by decide
  have h0 : ¬ ((0 : Int) < 0) := by decide
  simp only [h1, h0, if_true, if_false]
  congr 1
  omega
theorem places_back (n : Nat) : Builtin.Slice.slicePlaces ((n : Int) - 1) 0 (-1) = n - 1 := by
  unfold Builtin.Slice.slicePlaces
  have h1 : ¬ ((-1 : Int) > 0) := by decide
  have h2 : (- (-1 : Int)) = 1 := by decide
  simp only [h1, if_false, h2, Int.ediv_one]
  split <;> omega
theorem pick_back (xs : Array Value) : ((List.range (xs.size - 1)).filterMap fun (k : Nat) => xs[(((xs.size : Int) - 1) + (k : Int) * (-1)).toNat]?).toArray = (xs.toList.drop 1).reverse.toArray := by
  congr 1
  obtain ⟨l⟩ := xs
  simp only [List.size_toArray]
  have key : ∀ m, m ≤ l.length - 1 → (List.range m).filterMap (fun (k : Nat) => (l.toArray)[(((l.length : Int) - 1) + (k : Int) * (-1)).toNat]?) = (l.drop (l.length - m)).reverse := by
    intro m
    induction m with
    | zero =>
      intro _
      rw [List.range_zero, List.filterMap_nil, Nat.sub_zero, List.drop_length, List.reverse_nil]
    | succ m ih =>
      intro hm
      rw [List.range_succ, List.filterMap_append, ih (by omega), List.filterMap_cons, List.filterMap_nil]
      have e : (((l.length : Int) - 1) + (m : Int) * (-1)).toNat = l.length - (m + 1) := by omega
      rw [e]
      have hlt : l.length - (m + 1) < l.length := by omega
      rw [List.getElem?_toArray, List.getElem?_eq_getElem hlt]
      have d : l.drop (l.length - (m + 1)) = l[l.length - (m + 1)] :: l.drop (l.length - m) := by
        rw [List.drop_eq_getElem_cons hlt]
        congr 2
        omega
      rw [d, List.reverse_cons]
  have k1 := key (l.length - 1) (Nat.le_refl _)
  rw [k1]
  by_cases h : l.length = 0
  · have : l = [] := List.length_eq_zero_iff.mp h
    subst this
    rfl
  · congr 2
    omega
theorem applied_back {sl : Addr} {vu vs : Value} {n : Nat} {Q : Int × Int × Nat → Shared → Prop} (here : s.heap.IsSliceOf sl .none vu vs) (pu : IsPart vu (some 0)) (ps : IsPart vs (some (-1))) (hn : 1 ≤ n)
    (h : Q ((n : Int) - 1, -1, n - 1) s) : wpAny (model prog w) A (Builtin.Slice.sliceApplied (.ref sl) (pure (n : Int))) Q E s := by
  obtain ⟨ob, at', _, dat⟩ := id here
  unfold Builtin.Slice.sliceApplied Builtin.Slice.sliceFields
  refine wpAny_bind (wpAny_bind ?_)
  refine wpAny_field at' dat (x := .none) rfl (wpAny_bind ?_)
  refine wpAny_field at' dat (x := vu) rfl (wpAny_bind ?_)
  refine wpAny_field at' dat (x := vs) rfl (wpAny_pure ?_)
  refine wpAny_bind (HT.slicePart_ ps ?_)
  show wpAny _ _ (if ((-1 : Int) == 0) = true then _ else _) _ _ s
  rw [if_neg (by decide)]
  refine wpAny_bind (slicePart_none (wpAny_bind ?_))
  refine HT.slicePart_ pu (wpAny_bind (wpAny_pure ?_))
  show wpAny _ _ (match Builtin.Slice.sliceAdjust none (some 0) (-1) (n : Int) with | (lo, hi) => pure (lo, (-1 : Int), Builtin.Slice.slicePlaces lo hi (-1))) _ _ s
  rw [adj_back hn]
  show wpAny _ _ (pure ((n : Int) - 1, (-1 : Int), Builtin.Slice.slicePlaces ((n : Int) - 1) 0 (-1))) _ _ s
  rw [places_back]
  exact wpAny_pure h
theorem item_back {t sl : Addr} {items : Array Value} {vu vs : Value} {Q : Value → Shared → Prop} (ht : IsTup s.heap t items) (here : s.heap.IsSliceOf sl .none vu vs) (pu : IsPart vu (some 0)) (ps : IsPart vs (some (-1))) (hn : 1 ≤ items.size)
    (h : Q (.ref s.heap.objs.size) { s with heap := s.heap.push { cls := .type "tuple", data := .seq (items.toList.drop 1).reverse.toArray } }) (hsz : items.size ≤ sizeLine) :
    wpAny (model prog w) A (getItem (.ref t) (.ref sl)) Q E s := by
  have fits : sizeOk (.seq (items.toList.drop 1).reverse.toArray) := by
    show (items.toList.drop 1).reverse.toArray.size ≤ sizeLine
    rw [List.size_toArray, List.length_reverse, List.length_drop, Array.length_toList]
    omega
  obtain ⟨ob, at', cl, _⟩ := id here
  have isSl : s.TypeIs (.ref sl) "slice" := ⟨ob, at', cl⟩
  unfold getItem
  try (with_reducible refine wpAny_holding ?_)
  first
    | refine wpAny_bind (wpAny_pure ?_)
    | skip
  refine wpAny_bind (wpAny_sequenceKey ht.typeIs (by decide) ?_)
  refine wpAny_bind (wpAny_callSpecial?_slot (name := Str.ofString "__getitem__") ht.typeIs slot_tuple_getitem ?_)
  refine wpAny_call_entry slot_tuple_getitem ht.typeIs entry_tuple_getitem ?_ (args_tuple_getitem _ _)
  show wpAny _ _ (Builtin.Tuple.tupleItemsOf (.ref t) >>= _) _ _ s
  refine wpAny_bind (tupleItemsOf_ ht (wpAny_bind (wpAny_typeOf isSl ?_)))
  rw [if_pos (by decide)]
  refine wpAny_bind (applied_back here pu ps hn ?_)
  have not1 : ¬ ((((items.size : Int) - 1) == 0 && (-1 : Int) == 1 && (items.size - 1) == items.size) = true) := by
    intro q
    rw [Bool.and_eq_true, Bool.and_eq_true] at q
    exact absurd q.1.2 (by decide)
  show wpAny _ _ (if (((items.size : Int) - 1) == 0 && (-1 : Int) == 1 && (items.size - 1) == items.size) = true then _ else _) _ _ s
  rw [if_neg not1]
  rw [pick_back]
  first
    | exact wpAny_bind (wpAny_bind (m := Builtin.Tuple.tupleExact _) (wpAny_newObj_type (wpAny_pure ⟨_, rfl, wpAny_pure h⟩) fits))
    | exact wpAny_bind (wpAny_bind (m := Builtin.Tuple.tupleExact _) (wpAny_newObj_type (wpAny_pure (wpAny_pure ⟨_, rfl, wpAny_pure h⟩)) fits))
    | exact wpAny_bind (m := Builtin.Tuple.tupleExact _) (wpAny_newObj_type (wpAny_bind (wpAny_pure (wpAny_pure ⟨_, rfl, wpAny_pure h⟩))) fits)
    | exact wpAny_bind (m := Builtin.Tuple.tupleExact _) (wpAny_newObj_type (wpAny_pure ⟨_, rfl, wpAny_pure h⟩) fits)
end
section
variable {X : Cx}
/-- t[:0:-1], t a tuple that is not empty -/
def tBack (K : PySem.W.Frag) (te : TE) : TE := fun σ H Q => te σ H fun x G => ∃ a xs, x = .ref a ∧ SqT K G a xs ∧ 1 ≤ xs.length ∧ ∀ p, G p = none → Q (.ref p) (upd G p (.tup (xs.drop 1).reverse))
theorem pe_back {e : Expr} {te : TE} {k k0 : Nat} {p0 p1 p2 p3 pos : Pos} (he : PE X e te) :
    PE X (.Subscript e (.Slice none (some (.Constant (.int 0) k0 p0)) (some (.UnaryOp .USub (.Constant (.int 1) k p1) p2)) p3) pos) (tBack X.K te) := by
  constructor
  intro pins s0 σ H Q J ask
  refine Subscript_ (thn (he.run pins s0 σ H _ J ask) fun v s1 back => ?_)
  obtain ⟨x, G, J1, rx, a, xs, rfl, hx, hne, q⟩ := back
  cases rx
  have up : PO X (some (.Constant (.int 0) k0 p0)) (tPart (tC (.int 0))) := po_some pe_int
  have st : PO X (some (.UnaryOp .USub (.Constant (.int 1) k p1) p2)) (tPart (tUn (rU fun i => .int (-i)) (tC (.int 1)))) := po_some (pe_un un_neg pe_int)
  refine wpAny_Slice (thn (po_none.run pins s1 σ G (fun o G2 => o = none ∧ G2 = G) J1 ⟨rfl, rfl⟩) fun vl s2 r2 => ?_)
  obtain ⟨l, G2, J2, pl, rfl, rfl⟩ := r2
  refine thn (up.run pins s2 σ G2 (fun o G3 => o = some 0 ∧ G3 = G2) J2 ⟨0, rfl, rfl, rfl⟩) fun vu s3 r3 => ?_
  obtain ⟨u, G3, J3, pu, rfl, rfl⟩ := r3
  refine thn (st.run pins s3 σ G3 (fun o G4 => o = some (-1) ∧ G4 = G3) J3 ⟨1, rfl, -1, rfl, rfl, rfl⟩) fun vs s4 r4 => ?_
  obtain ⟨o, G4, J4, ps, rfl, rfl⟩ := r4
  cases pl
  have J5 : Inv X pins σ G4 { s4 with heap := s4.heap.push { cls := .type "slice", data := .fields #[.none, vu, vs] } } := J4.kept (t' := s4.toks) fun b ob z => Heap.get?_push_of_some _ z
  obtain ⟨its, r, ht, hz⟩ := J5.tuple hx
  have len := r.length
  show wpAny (model X.prog X.w) X.A (subscriptTail e (.Slice none (some (.Constant (.int 0) k0 p0)) (some (.UnaryOp .USub (.Constant (.int 1) k p1) p2)) p3) (.ref a) (.ref s4.heap.objs.size)) (EP X pins σ Q) X.xe _
  refine tail_any (ops := [.ref a, .ref s4.heap.objs.size]) ht.typeIs slot_tuple_getitem.lookup ?_ (by with_unfolding_all rfl)
  refine item_back ht (Heap.IsSliceOf.new _ .none vu vs) pu ps (by rw [List.size_toArray]; omega) ?_ (by rw [List.size_toArray]; omega)
  refine ⟨.ref _, _, J5.laid (t' := s4.toks) (o := .tup (xs.drop 1).reverse) (fun b ob z => Heap.get?_push_of_some _ z) (Nat.le_refl _) ?_, rfl, q _ (J5.hok.fresh (Nat.le_refl _))⟩
  refine ⟨by rw [List.length_reverse, List.length_drop]; omega, _, (r.drop 1).reverse, IsTup.new _ _⟩
end
end Ad

/-! Defs that are called where no repr is under way; repr of data; the end of a law of such a def. -/
namespace Ad
open PySem PySem.Spec PySem.Calls PyProof.Rows L2
theorem deeper_guards {A : Around} {env : Env} (h : A.guards = some []) : (A.deeper env).guards = some [] := by
  first
    | exact h
    | (show (A.deeper env).guards = _; simp [Around.deeper, h])
    | (obtain ⟨a, b, c, d, e⟩ := A; cases h; rfl)
/-- a def's promise, kept wherever no repr is under way -/
structure FnG (P : Program) (w : World) (K : PySem.W.Frag) (mg : Str → Option Value) (base : Heap) (CX : CXT) (k : Nat) (f : Addr) (fd : FuncData) (ps : List Str) (sp : Sp) : Prop where
  len : ∀ vs H Q E, sp vs H Q E → vs.length = ps.length
  run : ∀ (A : Around) (outer : List Env) (s : Shared) (H : Hp) (args : Args) (us : List Value) (vs : List V) (Q : VK) (E : XK), A.guards = some [] → Room k A → Env0 P w K mg base A outer s H → BindsTo s fd args (ps.zip us) → Vals vs us → sp vs H Q E →
    codeAny (model P w) A (.call (.ref f) args) (CR CX outer P w H s Q E) s
/-- a def of the text, its code object told -/
structure FunC (K : PySem.W.Frag) (x qual : Str) (st : Stmt) (f : Addr) (cdv : Value) (fd : FuncData) : Prop where
  ex : ∃ (oc : Value) (od : Option Addr) (kV doc pm : Value) (an : Option Addr) (ct : Value) (osl : Array (Option Value)),
    fd = PySem.W.fnOf x qual (defArgs st) (defBody st) (defScope st) .none kV doc pm an cdv ct ∧ K.lookup f = some ⟨oc, od, .func fd, osl⟩ ∧ PySem.W.codeIn K cdv qual = true
  kp : PySem.W.keepIn K (.ref f) = true
theorem FunC.fun {K : PySem.W.Frag} {x qual : Str} {st : Stmt} {f : Addr} {cdv : Value} {fd : FuncData} (F : FunC K x qual st f cdv fd) : Fun K x qual st f fd := by
  obtain ⟨⟨oc, od, kV, doc, pm, an, ct, osl, h⟩, k⟩ := F
  exact ⟨⟨oc, od, kV, doc, pm, an, cdv, ct, osl, h⟩, k⟩
theorem fng_ofC {CX : CXT} {P : Program} {w : World} {K : PySem.W.Frag} {mg : Str → Option Value} {base : Heap} {k : Nat} {x qual : Str} {st : Stmt} {f : Addr} {cdv : Value} {fd : FuncData} {N ps : List Str} {sp : Sp} (F : FunC K x qual st f cdv fd) (S : FnScope N ps (defScope st))
    (len : ∀ vs H Q E, sp vs H Q E → vs.length = ps.length)
    (body : ∀ (A : Around) (outer : List Env) (s : Shared) (H : Hp) (vs : List V) (Q : VK) (E : XK), A.guards = some [] → Room k (A.deeper (envOfC qual (defScope st) s.heap.objs.size f cdv)) → sp vs H Q E →
      ∃ t, PSs (cxOf CX P w K mg base N qual (defScope st) f cdv A outer s H E) (defBody st) t ∧ t { nx := fun _ H' => Q .non H', rt := Q } (start N vs) H) : FnG P w K mg base CX (k + 1) f fd ps sp := by
  obtain ⟨oc, od, kV, doc, pm, an, ct, osl, rfl, look, code⟩ := F.ex
  constructor
  · exact len
  · intro A outer s H args us vs Q E gd room e0 binds rel asked
    have many := len _ _ _ _ asked
    have kin : K.In s.heap := e0.mod.kin.keeps fun b o e => (e0.bs b o e).1
    have lim : s.heap.NoLimit := e0.mod.nolimit.keeps fun b o e => (e0.bs b o e).1
    have kinds : ∀ y ∈ ps.zip us, (defScope st).names.lookup y.1 = some .local ∨ ((defScope st).names.lookup y.1 = some .cell ∧ ((cellsFrom (s.heap.objs.size + 1) (defScope st).names []).lookup y.1).isSome = true) := by
      rintro ⟨n, v⟩ hy
      rcases S.par n (List.of_mem_zip hy).1 with q | q
      · exact .inl q
      · exact .inr ⟨q, PySem.W.cellsFrom_some _ _ _ (.inl q)⟩
    refine codeAny_call_function room.depth (kin _ _ look) rfl S.co S.gen rfl (PySem.W.codeRec_of kin code) (binds _ _ _ _ ?_)
    refine wpAny_newFunctionEnv_cells S.kind kinds fun env he s1 ready => ?_
    subst he
    refine ⟨lim.keeps ready.toInCall.keep, codeAny_func ?_⟩
    obtain ⟨t, ht, hq⟩ := body A outer s H vs Q E gd (room.deeper _) asked
    have J : Inv (cxOf CX P w K mg base N qual (defScope st) f cdv A outer s H E) [] (start N vs) H s1 := inv_start S room.hd e0 many rel ready
    refine wpAny_mono (ht.run [] s1 (start N vs) H _ J hq) (fun fl s' hs => ?_) fun e s' hs => hs
    have fin : ∀ {σ' : L2.St} {H' : Hp} {v : V} {u : Value}, Inv (cxOf CX P w K mg base N qual (defScope st) f cdv A outer s H E) [] σ' H' s' → RelV v u → Q v H' → CE outer P w H s Q u s' := by
      intro σ' H' v u J' rv q
      exact ⟨v, H', J'.os, J'.bare, J'.base, J'.hok, rv, q⟩
    match fl, hs with
    | .ret u, ⟨v, σ', H', J', rv, q⟩ => exact fin J' rv q
    | .next, ⟨σ', H', J', q⟩ => exact fin (v := V.non) (u := Value.none) J' rfl q
    | .brk, ⟨_, _, _, q⟩ => exact False.elim q
    | .cont, ⟨_, _, _, q⟩ => exact False.elim q
theorem fng_of {CX : CXT} {P : Program} {w : World} {K : PySem.W.Frag} {mg : Str → Option Value} {base : Heap} {k : Nat} {x qual : Str} {st : Stmt} {f : Addr} {fd : FuncData} {N ps : List Str} {sp : Sp} (F : Fun K x qual st f fd) (S : FnScope N ps (defScope st))
    (len : ∀ vs H Q E, sp vs H Q E → vs.length = ps.length)
    (body : ∀ (cdv : Value) (A : Around) (outer : List Env) (s : Shared) (H : Hp) (vs : List V) (Q : VK) (E : XK), A.guards = some [] → Room k (A.deeper (envOfC qual (defScope st) s.heap.objs.size f cdv)) → sp vs H Q E →
      ∃ t, PSs (cxOf CX P w K mg base N qual (defScope st) f cdv A outer s H E) (defBody st) t ∧ t { nx := fun _ H' => Q .non H', rt := Q } (start N vs) H) : FnG P w K mg base CX (k + 1) f fd ps sp := by
  obtain ⟨⟨oc, od, kV, doc, pm, an, cdv, ct, osl, h⟩, kp⟩ := F
  exact fng_ofC (F := ⟨⟨oc, od, kV, doc, pm, an, ct, osl, h⟩, kp⟩) S len (body cdv)
/-- a def that keeps its promise everywhere -/
theorem FnG.of {CX : CXT} {P : Program} {w : World} {K : PySem.W.Frag} {mg : Str → Option Value} {base : Heap} {k : Nat} {f : Addr} {fd : FuncData} {ps : List Str} {sp : Sp} (F : FnOk P w K mg base CX k f fd ps sp) : FnG P w K mg base CX k f fd ps sp :=
  ⟨F.len, fun A outer s H args us vs Q E _ => F.run A outer s H args us vs Q E⟩
section
variable {X : Cx} {CX : CXT} {k : Nat} {f : Addr} {fd : FuncData} {ps : List Str} {sp : Sp} {E : XK} {x : Str} {p pos : Pos} {e : Expr} {es : List Expr} {t : TA}
/-- f(e, ..) of such a def, where no repr is under way -/
theorem pe_callG (F : FnG X.prog X.w X.K X.mg X.base CX k f fd ps sp) (gd : X.A.guards = some []) (hr : Room k X.A) (hg : Gl X x) (hm : X.mg x = some (.ref f)) (hk : PySem.W.keepIn X.K (.ref f) = true) (hb : Binds X.K fd ps []) (hx : Passes CX X E)
    (pa : PA X (e :: es) t) (hdb : (x == ("__debug__" : Str)) = false := by decide) (hst : starEach (e :: es) X.env = (false, eval e X.env) :: starEach es X.env := by rfl) (hpl : (backTo pos (starEach es X.env)).any (·.1) = false := by rfl) :
    PE X (.Call (.Name x p) (e :: es) [] pos) (tCall sp [] E t) := by
  constructor
  intro pins s σ H Q J ask
  refine wpAny_Call_Name_kw (ld_glob J hg hm ?_ hdb)
  refine PySem.W.callWith_K (h₀ := X.base) J.ok.mod.kin hk (thn (pa.run pos pins s σ H _ (J.tok _) ask) fun us s1 back => ?_) hst hpl
  obtain ⟨vs, G, J1, rel, q⟩ := back
  refine ⟨J1.kIn, ?_⟩
  have q' : sp vs G Q E := by
    have z : sp (vs ++ []) G Q E := q
    rw [List.append_nil] at z
    exact z
  have many : us.length = ps.length := by
    rw [← rel.length]
    exact F.len _ _ _ _ q'
  have b := hb s1 us J1.kIn (by rw [List.append_nil]; exact many)
  rw [List.append_nil] at b
  refine wpAny_call (codeAny_mono (F.run X.A X.stack s1 G ⟨us, []⟩ us vs Q E gd hr J1.env0 b rel q') fun r s' back => ?_)
  match r, back with
  | .error er, back => exact hx pins σ G s1 er s' J1 back
  | .ok (.ret u), back => exact J1.after back
  | .ok .next, back => exact False.elim back
  | .ok .brk, back => exact False.elim back
  | .ok .cont, back => exact False.elim back
/-- repr(x) of data, where no repr is under way -/
theorem call_reprD (gd : X.A.guards = some []) (hu : X.A.units + 64 < cLine) : CallR X (.builtin "repr") (fun xs H Q => ∃ (v : V) (d : PyData), xs = [v] ∧ Dp X.K H v d ∧ d.showable = true ∧ d.hasDict = false ∧ d.depth ≤ 60 ∧ d.shown.length ≤ sizeLine ∧ Q (.str d.shown) H) := by
  intro pins s σ H xs us Q J rel ask
  obtain ⟨v, d, rfl, hd, show', plain, deep, fits, q⟩ := ask
  match us, rel with
  | [u], .cons r .nil =>
    obtain ⟨as, reads⟩ := Dp.reads J d v u hd r
    cases reads with
    | none => exact P.repr_of_none ⟨.str _, H, J.tok _, ⟨_, rfl⟩, q⟩
    | bool b =>
      refine P.repr_of_bool ⟨.str _, H, J.tok _, ⟨_, rfl⟩, ?_⟩
      cases b <;> exact q
    | int i tk => exact P.repr_of_int (of_decide_eq_true show') ⟨.str _, H, J.tok _, ⟨_, rfl⟩, q⟩
    | str z tk => exact P.repr_of_str ⟨.str _, H, J.tok _, ⟨_, rfl⟩, q⟩ fits
    | list h1 h2 h3 h4 => exact repr_of_reads' (Reads.list h1 h2 h3 h4) show' (PyData.noDict_hsm plain) gd (by omega) (fun _ _ z => z) (fun h' u tk kp => ⟨.str _, H, J.kept (t' := tk) kp, ⟨_, rfl⟩, q⟩) fits
    | tuple h1 h2 h3 h4 => exact repr_of_reads' (Reads.tuple h1 h2 h3 h4) show' (PyData.noDict_hsm plain) gd (by omega) (fun _ _ z => z) (fun h' u tk kp => ⟨.str _, H, J.kept (t' := tk) kp, ⟨_, rfl⟩, q⟩) fits
    | dict h1 h2 h3 h4 h5 => cases plain
end
/-- the call of a law by such a def, from the state behind the top -/
theorem lawG {P : Program} {w : World} {K : PySem.W.Frag} {mg mb : Str → Option Value} {CX : CXT} {k : Nat} {fa a : Addr} {fd : FuncData} {x : Str} {sp : Sp} {s : Shared} {vs : List Value} {ns : List Int}
    (kin : K.In s.heap) (gl : s.heap.Ns mainGlobals mg) (bl : s.heap.Ns builtinsNs mb) (same : ∀ x : Str, x ≠ "__name__" → mb x = bootBuiltins x) (lim : s.heap.NoLimit) (gens : s.gens = #[])
    (at' : s.heap.get? a = some { cls := .type "list", data := .seq vs.toArray }) (nums : IntsAre vs ns) (few : ns.length ≤ sizeLine) (room : Room k callerA)
    (F : ∀ base : Heap, K.In base → base.Ns mainGlobals mg → FnG P w K mg base CX k fa fd [x] sp) (bind : ∀ (s : Shared) (u : Value), BindsTo s fd ⟨[u], []⟩ [(x, u)])
    (asked : ∀ H : Hp, Only H → SqL K H a (ns.map V.int) → sp [.ref a] H (fun v _ => v = .bl true) fun _ _ _ => False) (noExc : ∀ H e s', CX [] H s (fun _ _ _ => False) e s' → False) :
    codeAny (model P w) callerA (.call (.ref fa) ⟨[.ref a], []⟩) (fun r s' => r = .ok (.ret (.bool true)) ∧ OldK s.heap s'.heap ∧ s'.os = s.os ∧ AllBare s'.gens) s := by
  have rel := vals_ints nums
  have many := nums.length
  have from' : ∀ H : Hp, Only H → SqL K H a (ns.map V.int) → HOk P w H s.heap → (∀ b, H b ≠ none → b = a) → (H a ≠ none → K.lookup a = none) →
      codeAny (model P w) callerA (.call (.ref fa) ⟨[.ref a], []⟩) (fun r s' => r = .ok (.ret (.bool true)) ∧ OldK s.heap s'.heap ∧ s'.os = s.os ∧ AllBare s'.gens) s := by
    intro H only seq ok onlyA notK
    have hid : ∀ {b : Addr} {o : Obj}, s.heap.get? b = some o → H b = none → (hidT s.heap H).get? b = some o := by
      intro b o e n
      exact hidT_get e n
    have dict0 : ∀ {b : Addr} {o : Obj} {es : Array DictEntry} {ep : Nat}, s.heap.get? b = some o → o.data = .dict es ep → H b = none := by
      intro b o es ep e d
      cases q : H b with
      | none => rfl
      | some u =>
        obtain rfl : b = a := onlyA b (by rw [q]; exact Option.some_ne_none u)
        rw [at'] at e
        cases e
        exact nomatch (show Data.seq vs.toArray _ = Data.dict es ep from d)
    have ns' : ∀ {b : Addr} {m : Str → Option Value}, s.heap.Ns b m → (hidT s.heap H).Ns b m := by
      rintro b m ⟨o, es, ep, e, d, r⟩
      exact ⟨o, es, ep, hid e (dict0 e d), d, r⟩
    have kin' : K.In (hidT s.heap H) := by
      intro b o e
      refine hid (kin b o e) ?_
      cases q : H b with
      | none => rfl
      | some u =>
        obtain rfl : b = a := onlyA b (by rw [q]; exact Option.some_ne_none u)
        rw [notK (by rw [q]; exact Option.some_ne_none u)] at e
        cases e
    have mod : Mod K mg (hidT s.heap H) := by
      refine ⟨kin', ns' gl, ⟨mb, ns' bl, same⟩, ?_⟩
      obtain ⟨mc, h1, h2⟩ := lim
      exact ⟨mc, ns' h1, h2⟩
    have none' : ∀ {q : Prop} (b : Addr), b ∈ ([] : List Addr) → q := fun {q} b hb => absurd hb (by simp)
    have env : Env0 P w K mg (hidT s.heap H) callerA [] s H := ⟨rfl, mod, fun b o e => of_hidT e, Nat.le_of_eq (hidT_size _ _), trivial, fun b hb => none' b hb, ok, .of_eq gens⟩
    have run := (F _ kin' (ns' gl)).run callerA [] s H ⟨[.ref a], []⟩ [.ref a] [.ref a] _ _ rfl room env (bind s (.ref a)) (.cons rfl .nil) (asked H only seq)
    refine codeAny_mono run fun r s' back => ?_
    match r, back with
    | .error e, back => exact (noExc H e s' back).elim
    | .ok .next, back => exact False.elim back
    | .ok .brk, back => exact False.elim back
    | .ok .cont, back => exact False.elim back
    | .ok (.ret u), ⟨v, H', os, bare, un, ok', rv, (q : v = .bl true)⟩ =>
      subst q
      obtain rfl : u = Value.bool true := rv
      refine ⟨rfl, OldK.of_keep fun b o e => ?_, os, bare⟩
      cases q : H b with
      | none => exact un.keep b o e q (fun z => none' b z) (by simp)
      | some u =>
        rcases only b with z | ⟨ob, xs, z⟩
        · rw [q] at z
          cases z
        · obtain ⟨e1, _⟩ := ok b _ z
          obtain ⟨e2, _⟩ := ok' b _ (un.frzs b ob _ z)
          rw [e] at e1
          cases e1
          exact e2
  cases look : K.lookup a with
  | some o =>
    have e := kin a o look
    rw [at'] at e
    cases e
    refine from' (fun _ => none) (fun _ => .inl rfl) (.inr ⟨_, vs.toArray, _, look, rfl, rfl, rfl, ?_, by simpa using rel⟩) ?_ (fun b z => absurd rfl z) fun z => absurd rfl z
    · rw [List.size_toArray, many]
      exact few
    · intro b u z
      exact nomatch (show (none : Option HO) = some u from z)
  | none =>
    refine from' (fun b => if b = a then some (.frz { cls := .type "list", data := .seq vs.toArray } (.lst (ns.map V.int))) else none) (fun b => ?_) (.inl (.inr ⟨{ cls := .type "list", data := .seq vs.toArray }, if_pos rfl⟩)) (fun b u z => ?_) (fun b z => ?_) fun _ => look
    all_goals by_cases hb : b = a
    · exact .inr ⟨_, _, if_pos hb⟩
    · exact .inl (if_neg hb)
    · cases (if_pos hb).symm.trans z
      subst hb
      refine ⟨at', ?_, vs, _, rel, at'⟩
      rw [List.length_map]
      exact few
    · cases (if_neg hb).symm.trans z
    · exact hb
    · exact absurd (if_neg hb) z
/-- the head's goal from such a law's promise -/
theorem walkG {l : PySem.W.OpenLaw} {n k : Nat} {q : Program} {loose : List Str} {XP : (Str → Option Value) → Heap → Prop} {YP : World → Heap → Prop} {d : DefRec} {K : Params → PySem.W.Frag} {CX : World → CXT} {sp : World → Sp} {x : Str}
    (hn : l.most = some n) (hn2 : n ≤ sizeLine) (hdf : d.params.defaults = []) (room : Room k callerA) (hY : ∀ (w : World) (h : Heap), YP w h → (K w.params).In h)
    (F : ∀ (w : World) (mg : Str → Option Value) (fa : Addr) (h : Heap), (K w.params).In h → h.Ns mainGlobals mg → mg d.name = some (.ref fa) →
      ∃ fd : FuncData, (∀ (s : Shared) (u : Value), BindsTo s fd ⟨[u], []⟩ [(x, u)]) ∧ ∀ base : Heap, (K w.params).In base → base.Ns mainGlobals mg → FnG l.prog w (K w.params) mg base (CX w) k fa fd [x] (sp w))
    (asked : ∀ (w : World) (H : Hp) (a : Addr) (ns : List Int), ns.length ≤ n → Only H → SqL (K w.params) H a (ns.map V.int) → sp w [.ref a] H (fun v _ => v = .bl true) fun _ _ _ => False)
    (noExc : ∀ (w : World) (H : Hp) (s : Shared) (e : Value) (s' : Shared), CX w [] H s (fun _ _ _ => False) e s' → False) :
    PySem.W.WalkO q loose XP YP l.row.toRowW d [] (fun f vs => PySem.call f vs) := by
  refine Att.attach_call hn hdf ?_
  intro w s0 s1 mg mb fa o pm cd doc a vs ns G Y ho hd hcd hmg hobj nums short gens
  have kin := hY w _ Y
  obtain ⟨fd, binds, prom⟩ := F w mg fa _ kin G.T.g hmg
  exact lawG kin G.T.g G.T.b G.T.builtins G.T.nolimit gens hobj nums (Nat.le_trans short hn2) room prom binds (fun H only seq => asked w H a ns short only seq) fun H e s' => noExc w H s1 e s'
end Ad

/-! xs.extend(t) of a tuple. -/
namespace Ad
open PySem PySem.Spec PySem.Calls PyProof.Rows L2
section
variable {X : Cx}
/-- xs.extend(t), t a tuple that may carry more than its items -/
theorem ext_tuple (l : Addr) (items : Array Value) (n : Nat) (b : Addr) (zs : Array Value) (m : Nat) (dd : Option Addr) (sl : Array (Option Value)) (notLong : ¬(!items.isEmpty && Builtin.List.listTooLong (items.size + zs.size)) = true) (short : items.size ≤ sizeLine) (both : items.size + zs.size ≤ sizeLine + 1) :
    Meets (Builtin.«list.extend» ⟨[.ref l, .ref b], []⟩) (fun _ R s => s.heap.get? l = some { cls := .type "list", dict := none, data := .seq items n, slots := #[] } ∧ s.heap.get? b = some { cls := .type "tuple", dict := dd, data := .seq zs m, slots := sl } ∧
      R (.ok (.ret Value.none)) { s with heap := s.heap.update l (Obj.mapSeq fun x => x ++ zs), toks := s.toks }) :=
  .of_wp fun prog w A R s h => by
    obtain ⟨hp, g, d, tk, os⟩ := s
    obtain ⟨hl, hb, h⟩ := h
    have f1 := AutoSeq1.idx_int
    have f2 := AutoSeq1.sub_tuple_tuple
    have f3 := AutoSeq1.sub_list_list
    have f4 := AutoSeq1.sub_tuple_list
    have f5 := AutoSeq1.sub_list_tuple
    have size2 : (items ++ zs).size ≤ sizeLine + 1 := by rw [Array.size_append]; exact both
    wp_walk using (wpAny_updateSeq hl rfl (hz := short) (_hz' := size2)), AutoSeq1.wpAny_loadPart' hl, AutoSeq1.wpAny_loadPart' hb
    exact ⟨_, rfl, h⟩
/-- xs.extend(t), t a tuple -/
def rExtT (K : PySem.W.Frag) : V → List V → Hp → VK → Prop := fun x vs H Q => ∃ l b xs zs, x = .ref l ∧ vs = [.ref b] ∧ H l = some (.lst xs) ∧ SqT K H b zs ∧ xs.length + zs.length ≤ sizeLine ∧ Q .non (upd H l (.lst (xs ++ zs)))
theorem mt_extT : MtM X "list.extend" (rExtT X.K) := by
  intro pins s σ H x vs v us Q I rx rv h
  obtain ⟨l, b, xs, zs, rfl, rfl, hH, hB, hz, q⟩ := h
  cases rx
  obtain ⟨u, rfl, ru⟩ := rv.one
  cases ru
  obtain ⟨z, its, n, r, hl, e⟩ := I.lstM hH
  obtain ⟨its2, r2, ⟨⟨cls, dd, data, sl⟩, ho, hcl, n2, hd⟩, _⟩ := I.tuple hB
  simp only at hcl hd
  subst hcl hd
  have hl2 := r2.length
  have short : its.toArray.size + its2.toArray.size ≤ sizeLine := by rw [List.size_toArray, List.size_toArray]; omega
  have notLong : ¬ (!its.toArray.isEmpty && Builtin.List.listTooLong (its.toArray.size + its2.toArray.size)) = true := by
    rw [notLongL short, Bool.and_false]
    exact Bool.false_ne_true
  refine call_meets F.slot_list_extend ⟨_, e, rfl⟩ F.entry_list_extend (F.args_list_extend_2 _ _) (ext_tuple l its.toArray n b its2.toArray n2 dd sl notLong (by rw [List.size_toArray]; omega) (by omega)) ⟨e, ho, ?_⟩
  refine ⟨.non, _, I.lset (its' := its ++ its2) hH e (by simp) (r.append r2) ?_, rfl, q⟩
  rw [List.length_append]
  omega
end
end Ad

/-! Terms: a variable's number, or a name with arguments; where they stand. -/
namespace Ad
open PySem PySem.Spec PySem.Calls PyProof.Rows L2
/-- a name whose text is short -/
def nameOk (x : Str) : Bool := PyData.strOk x && decide ((PyData.shown (.str x)).length ≤ 10)
theorem nameOk_lay {x : Str} (h : nameOk x = true) : PyData.strOk x = true := (Bool.and_eq_true_iff.mp h).1
theorem nameOk_short {x : Str} (h : nameOk x = true) : (PyData.shown (.str x)).length ≤ 10 := of_decide_eq_true (Bool.and_eq_true_iff.mp h).2
inductive T where
  | v (i : Int)
  | f (x : Str) (ts : List T)
namespace T
mutual
def d : T → PyData
  | .v i => .int i
  | .f x ts => .tuple (.str x :: ds ts)
def ds : List T → List PyData
  | [] => []
  | t :: ts => d t :: ds ts
end
mutual
/-- all that stands in a term -/
def parts : T → List T
  | .v i => [.v i]
  | .f x ts => .f x ts :: partsL ts
def partsL : List T → List T
  | [] => []
  | t :: ts => parts t ++ partsL ts
end
mutual
def size : T → Nat
  | .v _ => 1
  | .f _ ts => 1 + sizeL ts
def sizeL : List T → Nat
  | [] => 0
  | t :: ts => size t + sizeL ts
end
mutual
def dep : T → Nat
  | .v _ => 0
  | .f _ ts => 1 + depL ts
def depL : List T → Nat
  | [] => 0
  | t :: ts => max (dep t) (depL ts)
end
mutual
/-- the variables, as often as they stand there -/
def vars : T → List Int
  | .v i => [i]
  | .f _ ts => varsL ts
def varsL : List T → List Int
  | [] => []
  | t :: ts => vars t ++ varsL ts
end
mutual
/-- all names can be laid -/
def named : T → Bool
  | .v _ => true
  | .f x ts => nameOk x && namedL ts
def namedL : List T → Bool
  | [] => true
  | t :: ts => named t && namedL ts
end
mutual
theorem parts_len : ∀ t : T, t.parts.length = t.size
  | .v _ => rfl
  | .f x ts => by
    show (partsL ts).length + 1 = 1 + sizeL ts
    rw [partsL_len ts]
    omega
theorem partsL_len : ∀ ts : List T, (partsL ts).length = sizeL ts
  | [] => rfl
  | t :: ts => by
    show (parts t ++ partsL ts).length = size t + sizeL ts
    rw [List.length_append, parts_len t, partsL_len ts]
end
theorem size_pos : ∀ t : T, 1 ≤ t.size
  | .v _ => Nat.le_refl _
  | .f _ _ => Nat.le_add_right _ _
mutual
theorem dep_size : ∀ t : T, t.dep ≤ t.size
  | .v _ => Nat.zero_le _
  | .f x ts => by
    show 1 + depL ts ≤ 1 + sizeL ts
    have h := depL_size ts
    omega
theorem depL_size : ∀ ts : List T, depL ts ≤ sizeL ts
  | [] => Nat.le_refl _
  | t :: ts => by
    show max (dep t) (depL ts) ≤ size t + sizeL ts
    have h1 := dep_size t
    have h2 := depL_size ts
    omega
end
mutual
theorem d_depth : ∀ t : T, t.d.depth = t.dep
  | .v _ => rfl
  | .f x ts => by
    show max 0 (PyData.depthAll (ds ts)) + 1 = 1 + depL ts
    rw [ds_depth ts]
    omega
theorem ds_depth : ∀ ts : List T, PyData.depthAll (ds ts) = depL ts
  | [] => rfl
  | t :: ts => by
    show max (PyData.depth (d t)) (PyData.depthAll (ds ts)) = max (dep t) (depL ts)
    rw [d_depth t, ds_depth ts]
end
mutual
theorem d_lay : ∀ t : T, t.named = true → t.d.canLay0 = true
  | .v _, _ => rfl
  | .f x ts, h => by
    have h' : (nameOk x && namedL ts) = true := h
    rw [Bool.and_eq_true] at h'
    show (PyData.strOk x && PyData.canLayAll0 (ds ts)) = true
    rw [nameOk_lay h'.1, ds_lay ts h'.2]
    rfl
theorem ds_lay : ∀ ts : List T, namedL ts = true → PyData.canLayAll0 (ds ts) = true
  | [], _ => rfl
  | t :: ts, h => by
    have h' : (named t && namedL ts) = true := h
    rw [Bool.and_eq_true] at h'
    show (PyData.canLay0 (d t) && PyData.canLayAll0 (ds ts)) = true
    rw [d_lay t h'.1, ds_lay ts h'.2]
    rfl
end
theorem shaped {t : T} (h : t.named = true) (small : t.dep ≤ 64) : SeqAt.shaped t.d = true := by
  unfold SeqAt.shaped
  rw [d_lay t h, d_depth t]
  exact decide_eq_true small
theorem ds_map : ∀ ts : List T, ds ts = ts.map d
  | [] => rfl
  | t :: ts => by
    show d t :: ds ts = _
    rw [ds_map ts]
    rfl
theorem partsL_append : ∀ (as bs : List T), partsL (as ++ bs) = partsL as ++ partsL bs
  | [], _ => rfl
  | t :: ts, bs => by
    show parts t ++ partsL (ts ++ bs) = parts t ++ partsL ts ++ partsL bs
    rw [partsL_append ts bs, List.append_assoc]
theorem sizeL_append : ∀ (as bs : List T), sizeL (as ++ bs) = sizeL as + sizeL bs
  | [], _ => (Nat.zero_add _).symm
  | t :: ts, bs => by
    show size t + sizeL (ts ++ bs) = size t + sizeL ts + sizeL bs
    rw [sizeL_append ts bs, Nat.add_assoc]
theorem sizeL_reverse : ∀ ts : List T, sizeL ts.reverse = sizeL ts
  | [] => rfl
  | t :: ts => by
    rw [List.reverse_cons, sizeL_append, sizeL_reverse ts]
    show sizeL ts + (size t + 0) = size t + sizeL ts
    omega
theorem size_mem {t : T} {ts : List T} (h : t ∈ ts) : t.size ≤ sizeL ts := by
  induction ts with
  | nil => cases h
  | cons u us ih =>
    show t.size ≤ size u + sizeL us
    rcases List.mem_cons.mp h with e | e
    · rw [e]; omega
    · have := ih e; omega
theorem len_sizeL : ∀ ts : List T, ts.length ≤ sizeL ts
  | [] => Nat.le_refl _
  | t :: ts => by
    show ts.length + 1 ≤ size t + sizeL ts
    have h1 := size_pos t
    have h2 := len_sizeL ts
    omega
theorem dep_mem {t : T} {ts : List T} (h : t ∈ ts) : t.dep ≤ depL ts := by
  induction ts with
  | nil => cases h
  | cons u us ih =>
    show t.dep ≤ max (dep u) (depL us)
    rcases List.mem_cons.mp h with e | e
    · rw [e]; omega
    · have := ih e; omega
theorem named_mem {t : T} {ts : List T} (h : t ∈ ts) (n : namedL ts = true) : t.named = true := by
  induction ts with
  | nil => cases h
  | cons u us ih =>
    have n' : (named u && namedL us) = true := n
    rw [Bool.and_eq_true] at n'
    rcases List.mem_cons.mp h with e | e
    · rw [e]; exact n'.1
    · exact ih e n'.2
end T
/-- tuples stay -/
def TK (H H' : Hp) : Prop := ∀ b xs, (H b = some (.tup xs) → H' b = some (.tup xs)) ∧ (∀ o, H b = some (.frz o (.tup xs)) → H' b = some (.frz o (.tup xs)))
theorem TK.refl (H : Hp) : TK H H := fun _ _ => ⟨id, fun _ => id⟩
theorem TK.trans {H H1 H2 : Hp} (a : TK H H1) (b : TK H1 H2) : TK H H2 := fun c xs => ⟨fun e => (b c xs).1 ((a c xs).1 e), fun o e => (b c xs).2 o ((a c xs).2 o e)⟩
theorem TK.same {H H' : Hp} (s : Same H H') : TK H H' := fun b _ => ⟨s b _, fun _ => s b _⟩
theorem TK.lst {H : Hp} {p : Addr} {ys : List V} (h : H p = some (.lst ys)) (o : HO) : TK H (upd H p o) := fun b xs => by
  refine ⟨fun e => ?_, fun u e => ?_⟩
  · have n : b ≠ p := fun z => by rw [z, h] at e; cases e
    rw [upd_ne n]; exact e
  · have n : b ≠ p := fun z => by rw [z, h] at e; cases e
    rw [upd_ne n]; exact e
theorem TK.new {H : Hp} {p : Addr} (h : H p = none) (o : HO) : TK H (upd H p o) := fun b xs => by
  refine ⟨fun e => ?_, fun u e => ?_⟩
  · have n : b ≠ p := fun z => by rw [z, h] at e; cases e
    rw [upd_ne n]; exact e
  · have n : b ≠ p := fun z => by rw [z, h] at e; cases e
    rw [upd_ne n]; exact e
section
variable {K : PySem.W.Frag} {H H' : Hp}
theorem TK.sq (k : TK H H') {a : Addr} {xs : List V} (h : SqT K H a xs) : SqT K H' a xs := by
  rcases h with (h | ⟨o, h⟩) | h
  · exact .inl (.inl ((k a xs).1 h))
  · exact .inl (.inr ⟨o, (k a xs).2 o h⟩)
  · exact .inr h
mutual
/-- a value is a term -/
def Tm (K : PySem.W.Frag) (H : Hp) : T → V → Prop
  | .v i, x => x = .int i
  | .f n ts, x => ∃ a xs, x = .ref a ∧ SqT K H a (.str n :: xs) ∧ Tms K H ts xs
def Tms (K : PySem.W.Frag) (H : Hp) : List T → List V → Prop
  | [], xs => xs = []
  | t :: ts, xs => ∃ y ys, xs = y :: ys ∧ Tm K H t y ∧ Tms K H ts ys
end
mutual
theorem Tm.mono (k : TK H H') : ∀ (t : T) (x : V), Tm K H t x → Tm K H' t x
  | .v _, _, h => h
  | .f n ts, x, h => by
    obtain ⟨a, xs, e, sq, all⟩ := h
    exact ⟨a, xs, e, k.sq sq, Tms.mono k ts xs all⟩
theorem Tms.mono (k : TK H H') : ∀ (ts : List T) (xs : List V), Tms K H ts xs → Tms K H' ts xs
  | [], _, h => h
  | t :: ts, xs, h => by
    obtain ⟨y, ys, e, one, all⟩ := h
    exact ⟨y, ys, e, Tm.mono k t y one, Tms.mono k ts ys all⟩
end
mutual
theorem Tm.dp : ∀ (t : T) (x : V), Tm K H t x → Dp K H x t.d
  | .v i, x, h => by
    cases (show x = .int i from h)
    exact .int i
  | .f n ts, x, h => by
    obtain ⟨a, xs, rfl, sq, all⟩ := h
    exact .tup sq (.cons (.str n) (Tms.dp ts xs all))
theorem Tms.dp : ∀ (ts : List T) (xs : List V), Tms K H ts xs → DpAll K H xs (T.ds ts)
  | [], xs, h => by
    cases (show xs = [] from h)
    exact .nil
  | t :: ts, xs, h => by
    obtain ⟨y, ys, rfl, one, all⟩ := h
    exact .cons (Tm.dp t y one) (Tms.dp ts ys all)
end
theorem Tms.len : ∀ {ts : List T} {xs : List V}, Tms K H ts xs → xs.length = ts.length
  | [], xs, h => by
    cases (show xs = [] from h)
    rfl
  | t :: ts, xs, h => by
    obtain ⟨y, ys, rfl, _, all⟩ := h
    rw [List.length_cons, List.length_cons, Tms.len all]
theorem Tms.app : ∀ {as : List T} {xs : List V} {bs : List T} {ys : List V}, Tms K H as xs → Tms K H bs ys → Tms K H (as ++ bs) (xs ++ ys)
  | [], xs, _, _, h, k => by
    cases (show xs = [] from h)
    exact k
  | t :: ts, xs, _, _, h, k => by
    obtain ⟨y, zs, rfl, one, all⟩ := h
    exact ⟨y, _, rfl, one, Tms.app all k⟩
theorem Tms.one {t : T} {x : V} (h : Tm K H t x) : Tms K H [t] [x] := ⟨x, [], rfl, h, rfl⟩
theorem Tms.rev : ∀ {ts : List T} {xs : List V}, Tms K H ts xs → Tms K H ts.reverse xs.reverse
  | [], xs, h => by
    cases (show xs = [] from h)
    exact rfl
  | t :: ts, xs, h => by
    obtain ⟨y, ys, rfl, one, all⟩ := h
    rw [List.reverse_cons, List.reverse_cons]
    exact Tms.app (Tms.rev all) (Tms.one one)
theorem Tms.get : ∀ {ts : List T} {xs : List V} {i : Nat} {x : V}, Tms K H ts xs → xs[i]? = some x → ∃ t, ts[i]? = some t ∧ Tm K H t x
  | [], xs, i, x, h, e => by
    cases (show xs = [] from h)
    cases e
  | t :: ts, xs, i, x, h, e => by
    obtain ⟨y, ys, rfl, one, all⟩ := h
    cases i with
    | zero =>
      cases e
      exact ⟨t, rfl, one⟩
    | succ i => exact Tms.get (ts := ts) (xs := ys) (i := i) all e
theorem Tms.get' : ∀ {ts : List T} {xs : List V} {i : Nat} {t : T}, Tms K H ts xs → ts[i]? = some t → ∃ x, xs[i]? = some x ∧ Tm K H t x
  | [], xs, i, x, h, e => by cases e
  | t :: ts, xs, i, x, h, e => by
    obtain ⟨y, ys, rfl, one, all⟩ := h
    cases i with
    | zero =>
      cases e
      exact ⟨y, rfl, one⟩
    | succ i => exact Tms.get' (ts := ts) (xs := ys) (i := i) all e
/-- the last of them -/
theorem Tms.last : ∀ {ts : List T} {xs : List V}, Tms K H ts xs → ts ≠ [] → ∃ us u ys y, ts = us ++ [u] ∧ xs = ys ++ [y] ∧ Tms K H us ys ∧ Tm K H u y
  | [], _, _, n => absurd rfl n
  | [t], xs, h, _ => by
    obtain ⟨y, ys, rfl, one, all⟩ := h
    cases (show ys = [] from all)
    exact ⟨[], t, [], y, rfl, rfl, rfl, one⟩
  | t :: u :: ts, xs, h, _ => by
    obtain ⟨y, ys, rfl, one, all⟩ := h
    obtain ⟨us, w, zs, z, e1, e2, a, b⟩ := Tms.last (ts := u :: ts) all (by simp)
    exact ⟨t :: us, w, y :: zs, z, by rw [e1]; rfl, by rw [e2]; rfl, ⟨y, zs, rfl, one, a⟩, b⟩
end
end Ad

/-! What stands in a term. -/
namespace Ad
open PySem PySem.Spec PySem.Calls PyProof.Rows L2
theorem sq_ty {K : PySem.W.Frag} {H : Hp} {a : Addr} {xs : List V} (h : SqT K H a xs) : TyX K H (.ref a) (.type "tuple") := by
  rcases h with (h | ⟨o, h⟩) | h
  · exact .base (.tup h)
  · exact .fTuple h
  · obtain ⟨o, _, _, e, c, _⟩ := h
    exact .kTuple e c
theorem tm_tuple {K : PySem.W.Frag} {H : Hp} {n : Str} {ts : List T} {x : V} (h : Tm K H (.f n ts) x) : TyX K H x (.type "tuple") := by
  obtain ⟨a, xs, rfl, sq, _⟩ := h
  exact sq_ty sq
theorem kitTT {K : PySem.W.Frag} : PySem.W.kitOne K (.type "tuple") (.type "tuple") = some true := kit_ty (by decide +kernel)
theorem kitIT {K : PySem.W.Frag} : PySem.W.kitOne K (.type "int") (.type "tuple") = some false := kit_ty (by decide +kernel)
theorem kitTI {K : PySem.W.Frag} : PySem.W.kitOne K (.type "tuple") (.type "int") = some false := kit_ty (by decide +kernel)
theorem kitII {K : PySem.W.Frag} : PySem.W.kitOne K (.type "int") (.type "int") = some true := kit_ty (by decide +kernel)
def lenAt (H : Hp) (p : Addr) : Nat := match H p with
  | some (.lst xs) => xs.length
  | _ => 0
theorem lenAt_of {H : Hp} {p : Addr} {xs : List V} (h : H p = some (.lst xs)) : lenAt H p = xs.length := by
  unfold lenAt
  rw [h]
theorem same_on {H H' : Hp} {p : Addr} (s : Same H H') (n : H p = none) (o : HO) : Same H (upd H' p o) := fun b u e => by
  rw [upd_ne (ne_of_none e n)]
  exact s b u e
/-- the truth of a value, as a test -/
def tTrue (K : PySem.W.Frag) (te : TE) : TT := fun σ H Q => te σ H fun x G => ∃ b, TruV K x G b ∧ Q b G
theorem pt_true {X : Cx} {e : Expr} {te : TE} (he : PE X e te) (plain : ∀ whole, isTrue e X.env whole = (do let v ← whole; standAt e.pos; holding [v] (truthy v)) := by intro _; rfl) : PT X e (tTrue X.K te) := pt_truth he plain
/-- a while by a word and a measure -/
theorem while_m {c : TT} {tb : TS} {D : Ends} {σ : L2.St} {H : Hp} (Pv : L2.St → Hp → Prop) (μ : L2.St → Hp → Nat) (start : Pv σ H)
    (turn : ∀ σ H, Pv σ H → c σ H fun b G => if b = true then tb { D with nx := fun σ' H' => Pv σ' H' ∧ μ σ' H' < μ σ H, ct := fun σ' H' => Pv σ' H' ∧ μ σ' H' < μ σ H, bk := D.nx } σ G else D.nx σ G) (mono : ∀ σ H Q Q', (∀ b G, Q b G → Q' b G) → c σ H Q → c σ H Q') :
    ∃ W : Nat → L2.St → Hp → Prop, (∃ m, W m σ H) ∧ ∀ m σ H, W m σ H → c σ H fun b G => if b = true then ∃ N : L2.St → Hp → Prop, (∀ σ' H', N σ' H' → ∃ m', m' < m ∧ W m' σ' H') ∧ tb { D with nx := N, ct := N, bk := D.nx } σ G else D.nx σ G :=
  while_by Pv μ start turn mono
theorem mono_true {K : PySem.W.Frag} {te : TE} (m : ∀ σ H (Q Q' : VK), (∀ v G, Q v G → Q' v G) → te σ H Q → te σ H Q') : ∀ σ H (Q Q' : Bool → Hp → Prop), (∀ b G, Q b G → Q' b G) → tTrue K te σ H Q → tTrue K te σ H Q' := fun σ H Q Q' imp h => m σ H _ _ (fun v G ⟨b, t, q⟩ => ⟨b, t, imp _ _ q⟩) h
theorem mono_var {i : Nat} : ∀ σ H (Q Q' : VK), (∀ v G, Q v G → Q' v G) → tVar i σ H Q → tVar i σ H Q' := fun _ _ _ _ imp ⟨v, e, q⟩ => ⟨v, e, imp _ _ q⟩
end Ad

/-! Paths; places_of. -/
namespace Ad
open PySem PySem.Spec PySem.Calls PyProof.Rows L2
/-- two lists, item by item -/
def F2 {α β : Type} (R : α → β → Prop) : List α → List β → Prop
  | [], ys => ys = []
  | x :: xs, ys => ∃ y zs, ys = y :: zs ∧ R x y ∧ F2 R xs zs
section
variable {α β : Type} {R S : α → β → Prop}
theorem F2.mono (imp : ∀ a b, R a b → S a b) : ∀ {xs : List α} {ys : List β}, F2 R xs ys → F2 S xs ys
  | [], _, h => h
  | x :: xs, _, h => by
    obtain ⟨y, zs, rfl, r, t⟩ := h
    exact ⟨y, zs, rfl, imp _ _ r, F2.mono imp t⟩
theorem F2.len : ∀ {xs : List α} {ys : List β}, F2 R xs ys → ys.length = xs.length
  | [], ys, h => by
    cases (show ys = [] from h)
    rfl
  | x :: xs, _, h => by
    obtain ⟨y, zs, rfl, r, t⟩ := h
    rw [List.length_cons, List.length_cons, F2.len t]
theorem F2.app : ∀ {xs xs' : List α} {ys ys' : List β}, F2 R xs ys → F2 R xs' ys' → F2 R (xs ++ xs') (ys ++ ys')
  | [], _, ys, _, h, k => by
    cases (show ys = [] from h)
    exact k
  | x :: xs, _, _, _, h, k => by
    obtain ⟨y, zs, rfl, r, t⟩ := h
    exact ⟨y, _, rfl, r, F2.app t k⟩
theorem F2.one {a : α} {b : β} (h : R a b) : F2 R [a] [b] := ⟨b, [], rfl, h, rfl⟩
theorem F2.last : ∀ {xs : List α} {ys : List β}, F2 R xs ys → xs ≠ [] → ∃ us u zs z, xs = us ++ [u] ∧ ys = zs ++ [z] ∧ F2 R us zs ∧ R u z
  | [], _, _, n => absurd rfl n
  | [x], ys, h, _ => by
    obtain ⟨y, zs, rfl, r, t⟩ := h
    cases (show zs = [] from t)
    exact ⟨[], x, [], y, rfl, rfl, rfl, r⟩
  | x :: x2 :: xs, ys, h, _ => by
    obtain ⟨y, zs, rfl, r, t⟩ := h
    obtain ⟨us, u, qs, q, e1, e2, a, b⟩ := F2.last (xs := x2 :: xs) t (by simp)
    exact ⟨x :: us, u, y :: qs, q, by rw [e1]; rfl, by rw [e2]; rfl, ⟨y, qs, rfl, r, a⟩, b⟩
theorem F2.get : ∀ {xs : List α} {ys : List β} {i : Nat} {y : β}, F2 R xs ys → ys[i]? = some y → ∃ x, xs[i]? = some x ∧ R x y
  | [], ys, i, y, h, e => by
    cases (show ys = [] from h)
    cases e
  | x :: xs, ys, i, y, h, e => by
    obtain ⟨z, zs, rfl, r, t⟩ := h
    cases i with
    | zero =>
      cases e
      exact ⟨x, rfl, r⟩
    | succ i => exact F2.get (xs := xs) (ys := zs) (i := i) t e
theorem F2.get' : ∀ {xs : List α} {ys : List β} {i : Nat} {x : α}, F2 R xs ys → xs[i]? = some x → ∃ y, ys[i]? = some y ∧ R x y
  | [], ys, i, x, h, e => by cases e
  | x :: xs, ys, i, y, h, e => by
    obtain ⟨z, zs, rfl, r, t⟩ := h
    cases i with
    | zero =>
      cases e
      exact ⟨z, rfl, r⟩
    | succ i => exact F2.get' (xs := xs) (ys := zs) (i := i) t e
theorem F2.mem : ∀ {xs : List α} {ys : List β} {y : β}, F2 R xs ys → y ∈ ys → ∃ x, x ∈ xs ∧ R x y := fun h m => by
  obtain ⟨i, hi, rfl⟩ := List.mem_iff_getElem.mp m
  obtain ⟨x, e, r⟩ := h.get (List.getElem?_eq_getElem hi)
  exact ⟨x, List.mem_of_getElem? e, r⟩
end
end Ad

/-! at, put_at. -/
namespace Ad
open PySem PySem.Spec PySem.Calls PyProof.Rows L2
def iD (ns : List Int) : PyData := .tuple (ns.map .int)
theorem int_lay : ∀ ns : List Int, PyData.canLayAll0 (ns.map .int) = true
  | [] => rfl
  | n :: ns => by
    show (true && PyData.canLayAll0 (ns.map .int)) = true
    rw [int_lay ns]
    rfl
theorem int_depth : ∀ ns : List Int, PyData.depthAll (ns.map .int) = 0
  | [] => rfl
  | n :: ns => by
    show max 0 (PyData.depthAll (ns.map .int)) = 0
    rw [int_depth ns]
    rfl
theorem iD_shaped (ns : List Int) : SeqAt.shaped (iD ns) = true := by
  unfold SeqAt.shaped
  have h1 : (iD ns).canLay0 = true := int_lay ns
  have h2 : (iD ns).depth = 1 := by
    show PyData.depthAll (ns.map .int) + 1 = 1
    rw [int_depth]
  rw [h1, h2]
  rfl
theorem ints_dp {K : PySem.W.Frag} {H : Hp} : ∀ ns : List Int, DpAll K H (ns.map V.int) (ns.map .int)
  | [] => .nil
  | n :: ns => .cons (.int n) (ints_dp ns)
theorem iD_dp {K : PySem.W.Frag} {H : Hp} {a : Addr} {ns : List Int} (h : SqT K H a (ns.map V.int)) : Dp K H (.ref a) (iD ns) := .tup h (ints_dp ns)
theorem iD_nil (ns : List Int) : PyData.eqv (iD ns) (iD []) = ns.isEmpty := by
  cases ns <;> first | rfl | (simp [iD, PyData.eqv, PyData.eqvAll])
theorem hu1 {k : Nat} {A : Around} (hr : Room k A) : A.units + 1 < cLine := by
  have := hr.un
  omega
theorem hu64 {k : Nat} {A : Around} (hr : Room k A) : A.units + 64 < cLine := by
  have := hr.un
  omega
section
variable {P : Program} {w : World} {K : PySem.W.Frag} {mg : Str → Option Value} {base : Heap}
theorem same_new {H H' : Hp} {p : Addr} (s : Same H H') (n : H' p = none) (o : HO) : Same H (upd H' p o) := fun b u e => by
  rw [upd_ne (ne_of_none (s b u e) n)]
  exact s b u e
theorem vac {k : Nat} {f : Addr} {fd : FuncData} {ps : List Str} {sp : Sp} (no : ∀ vs H Q E, ¬ sp vs H Q E) : FnOk P w K mg base CX0 k f fd ps sp :=
  ⟨fun vs H Q E h => absurd h (no vs H Q E), fun A outer s H args us vs Q E _ _ _ _ h => absurd h (no vs H Q E)⟩
end
end Ad

/-! The law's own going: is it a variable, size, variables. -/
namespace Ad
open PySem PySem.Spec PySem.Calls PyProof.Rows L2
namespace T
mutual
theorem v_parts (j : Int) : ∀ t : T, .v j ∈ parts t ↔ j ∈ vars t
  | .v i => by
    show T.v j ∈ [T.v i] ↔ j ∈ [i]
    rw [List.mem_singleton, List.mem_singleton]
    exact ⟨fun e => T.v.inj e, fun e => congrArg T.v e⟩
  | .f x ts => by
    show T.v j ∈ T.f x ts :: partsL ts ↔ j ∈ varsL ts
    rw [List.mem_cons, ← v_partsL j ts]
    exact ⟨fun h => h.elim (fun e => nomatch e) id, .inr⟩
theorem v_partsL (j : Int) : ∀ ts : List T, .v j ∈ partsL ts ↔ j ∈ varsL ts
  | [] => ⟨(fun h => nomatch h), (fun h => nomatch h)⟩
  | t :: ts => by
    show T.v j ∈ parts t ++ partsL ts ↔ j ∈ vars t ++ varsL ts
    rw [List.mem_append, List.mem_append, v_parts j t, v_partsL j ts]
end
mutual
theorem vars_len : ∀ t : T, t.vars.length ≤ t.size
  | .v _ => Nat.le_refl _
  | .f x ts => by
    show (varsL ts).length ≤ 1 + sizeL ts
    have := varsL_len ts
    omega
theorem varsL_len : ∀ ts : List T, (varsL ts).length ≤ sizeL ts
  | [] => Nat.le_refl _
  | t :: ts => by
    show (vars t ++ varsL ts).length ≤ size t + sizeL ts
    have h1 := vars_len t
    have h2 := varsL_len ts
    rw [List.length_append]
    omega
end
end T
def T.isV : T → Bool
  | .v _ => true
  | .f _ _ => false
def spIsVar (K : PySem.W.Frag) : Sp := fun vs H Q _ => ∃ (t : T) (x : V), vs = [x] ∧ Tm K H t x ∧ Q (.bl t.isV) H
theorem cut_args {x : V} {xs : List V} : ¬ (HT.sIx (x :: xs).length 0 (some 1) = 0 ∧ HT.sIx (x :: xs).length (x :: xs).length none = (x :: xs).length) ∧ cutV (x :: xs) (some 1) none = xs := by
  have e2 : HT.sIx (x :: xs).length 0 (some ((1 : Nat) : Int)) = 1 := by
    rw [HT.sIx_nat, List.length_cons]
    omega
  have e3 : HT.sIx (x :: xs).length 0 (some 1) = 1 := e2
  constructor
  · rw [e3]
    omega
  · unfold cutV
    rw [e3, HT.sIx_none]
    show xs.take _ = _
    rw [List.take_of_length_le]
    rw [List.length_cons]
    omega
theorem sum_sizes : ∀ ts : List T, (ts.map fun t => (t.size : Int)).sum = (T.sizeL ts : Int)
  | [] => rfl
  | t :: ts => by
    rw [List.map_cons, List.sum_cons, sum_sizes ts]
    show (t.size : Int) + (T.sizeL ts : Int) = ((t.size + T.sizeL ts : Nat) : Int)
    omega
section
variable {P : Program} {w : World} {K : PySem.W.Frag} {mg : Str → Option Value} {base : Heap}
theorem T.varsL_append : ∀ (as bs : List T), T.varsL (as ++ bs) = T.varsL as ++ T.varsL bs
  | [], _ => rfl
  | t :: ts, bs => by
    show T.vars t ++ T.varsL (ts ++ bs) = T.vars t ++ T.varsL ts ++ T.varsL bs
    rw [T.varsL_append ts bs, List.append_assoc]
theorem T.varsL_take (ts : List T) (i : Nat) : (T.varsL (ts.take i)).length ≤ T.sizeL ts := by
  have h1 := T.varsL_len (ts.take i)
  have h2 := T.sizeL_append (ts.take i) (ts.drop i)
  rw [List.take_append_drop] at h2
  omega
end
end Ad

/-! The pen of a law: its cells, its draws, its picks. -/
namespace Pn
open PySem PySem.Spec PyProof.Rows L2
abbrev sPen : Stmt := Ad.topS 22
abbrev sDraw : Stmt := Ad.topS 23
abbrev sPick : Stmt := Ad.topS 24
theorem scPen : FnScope ["_law_script", "_law_fold", "_law_cell"] ["_law_script"] (defScope sPen) := ⟨rfl, rfl, rfl, by decide +kernel, rfl, by decide +kernel, by decide +kernel⟩
theorem scDraw : FnScope ["_law_pen_here", "_law_many", "_law_cell", "_law_digit", "_law_blend"] ["_law_pen_here", "_law_many"] (defScope sDraw) := ⟨rfl, rfl, rfl, by decide +kernel, rfl, by decide +kernel, by decide +kernel⟩
theorem scPick : FnScope ["_law_pen_here", "_law_some"] ["_law_pen_here", "_law_some"] (defScope sPick) := ⟨rfl, rfl, rfl, by decide +kernel, rfl, by decide +kernel, by decide +kernel⟩
/-! ### the pen's dict -/
abbrev kC : Key := .inr "cells"
abbrev kA : Key := .inr "at"
abbrev kD : Key := .inr "digits"
abbrev kN : Key := .inr "count"
abbrev kF : Key := .inr "fold"
theorem nCA : ¬ (kC = kA) := by decide +kernel
theorem nCD : ¬ (kC = kD) := by decide +kernel
theorem nCN : ¬ (kC = kN) := by decide +kernel
theorem nCF : ¬ (kC = kF) := by decide +kernel
theorem nAD : ¬ (kA = kD) := by decide +kernel
theorem nAN : ¬ (kA = kN) := by decide +kernel
theorem nAF : ¬ (kA = kF) := by decide +kernel
theorem nDN : ¬ (kD = kN) := by decide +kernel
theorem nDF : ¬ (kD = kF) := by decide +kernel
theorem nNF : ¬ (kN = kF) := by decide +kernel
def penK (l : Addr) (a d n f : Int) : List (Key × V) := [(kC, .ref l), (kA, .int a), (kD, .int d), (kN, .int n), (kF, .int f)]
section
variable (l : Addr) (a d n f x : Int)
theorem getC : valV (penK l a d n f) kC = some (.ref l) := valV_pos rfl
theorem getA : valV (penK l a d n f) kA = some (.int a) := by
  unfold penK; rw [valV_neg nCA, valV_pos rfl]
theorem getD : valV (penK l a d n f) kD = some (.int d) := by
  unfold penK; rw [valV_neg nCD, valV_neg nAD, valV_pos rfl]
theorem getN : valV (penK l a d n f) kN = some (.int n) := by
  unfold penK; rw [valV_neg nCN, valV_neg nAN, valV_neg nDN, valV_pos rfl]
theorem getF : valV (penK l a d n f) kF = some (.int f) := by
  unfold penK; rw [valV_neg nCF, valV_neg nAF, valV_neg nDF, valV_neg nNF, valV_pos rfl]
theorem put_is {kvs : List (Key × V)} {k : Key} {v : V} (h : valV kvs k = some v) (y : V) : putK kvs k y = kvs.map fun kv => if kv.1 = k then (kv.1, y) else kv := by
  unfold putK
  rw [valV_any, h]
  rfl
theorem putA : putK (penK l a d n f) kA (.int x) = penK l x d n f := by
  rw [put_is (getA l a d n f)]
  show [_, _, _, _, _] = _
  dsimp only
  rw [if_neg nCA, if_pos rfl, if_neg (Ne.symm nAD), if_neg (Ne.symm nAN), if_neg (Ne.symm nAF)]
  rfl
theorem putD : putK (penK l a d n f) kD (.int x) = penK l a x n f := by
  rw [put_is (getD l a d n f)]
  show [_, _, _, _, _] = _
  dsimp only
  rw [if_neg nCD, if_neg nAD, if_pos rfl, if_neg (Ne.symm nDN), if_neg (Ne.symm nDF)]
  rfl
theorem putN : putK (penK l a d n f) kN (.int x) = penK l a d x f := by
  rw [put_is (getN l a d n f)]
  show [_, _, _, _, _] = _
  dsimp only
  rw [if_neg nCN, if_neg nAN, if_neg nDN, if_pos rfl, if_neg (Ne.symm nNF)]
  rfl
theorem putF' : putK (penK l a d n f) kF (.int x) = penK l a d n x := by
  rw [put_is (getF l a d n f)]
  show [_, _, _, _, _] = _
  dsimp only
  rw [if_neg nCF, if_neg nAF, if_neg nDF, if_neg nNF, if_pos rfl]
  rfl
theorem merge_pen : mergeK [] [(kC, .ref l), (kA, .int a), (kD, .int d), (kN, .int n), (kF, .int f)] = penK l a d n f := by
  unfold mergeK penK
  simp only [List.foldl_cons, List.foldl_nil]
  rw [putK_new (kvs := []) (k := kC) _ rfl]
  rw [putK_new (k := kA) _ (by rw [List.nil_append, valV_neg nCA]; rfl)]
  rw [putK_new (k := kD) _ (by rw [List.nil_append, List.cons_append, valV_neg nCD, List.nil_append, valV_neg nAD]; rfl)]
  rw [putK_new (k := kN) _ (by simp only [List.nil_append, List.cons_append]; rw [valV_neg nCN, valV_neg nAN, valV_neg nDN]; rfl)]
  rw [putK_new (k := kF) _ (by simp only [List.nil_append, List.cons_append]; rw [valV_neg nCF, valV_neg nAF, valV_neg nDF, valV_neg nNF]; rfl)]
  rfl
end
/-- a pen stands at p, its cells at l, so many draws done -/
structure Pen (H : Hp) (p l : Addr) (ns : List Int) (c : Nat) : Prop where
  ex : ∃ (a : Nat) (d f : Int), H p = some (.dK (penK l (a : Int) d (c : Int) f)) ∧ a ≤ ns.length ∧ 0 ≤ d ∧ 0 ≤ f ∧ f < 2147483648
  ls : H l = some (.lst (ns.map V.int))
theorem pen_ne {H : Hp} {p l : Addr} {ns : List Int} {c : Nat} (h : Pen H p l ns c) : p ≠ l := by
  obtain ⟨⟨a, d, f, e, _⟩, q⟩ := h
  exact ne_of e q (by intro z; cases z)
/-- all but the pen's dict stays -/
def But (p : Addr) (H H' : Hp) : Prop := ∀ b o, b ≠ p → H b = some o → H' b = some o
theorem But.refl (p : Addr) (H : Hp) : But p H H := fun _ _ _ h => h
theorem But.trans {p : Addr} {H H1 H2 : Hp} (a : But p H H1) (b : But p H1 H2) : But p H H2 := fun c o n h => b c o n (a c o n h)
theorem But.upd {p : Addr} (H : Hp) (o : HO) : But p H (L2.upd H p o) := fun b u n h => by rw [upd_ne n]; exact h
theorem But.of {p : Addr} {H H' : Hp} (s : Same H H') : But p H H' := fun b o _ h => s b o h
theorem same_upd {H : Hp} {p : Addr} {o : HO} (h : H p = none) : Same H (L2.upd H p o) := fun b x e => by
  rw [upd_ne (ne_of_none e h)]
  exact e
section
variable {P : Program} {w : World} {K : PySem.W.Frag} {mg : Str → Option Value} {base : Heap}
def spPen (K : PySem.W.Frag) : Sp := fun vs H Q _ => ∃ (a : Addr) (ns : List Int), vs = [.ref a] ∧ SqL K H a (ns.map V.int) ∧ ns.length ≤ 63 ∧
  ∀ H' p l, Same H H' → H p = none → H l = none → Pen H' p l ns 0 → Q (.ref p) H'
theorem ok_pen {f : Addr} {fd : FuncData} {k : Nat} (F : Fun K "_law_pen" "_law_pen" sPen f fd) (mi : mg "int" = none) (ml : mg "list" = none) : FnOk P w K mg base CX0 (k + 1) f fd ["_law_script"] (spPen K) := by
  refine F.ok scPen (fun vs H Q E h => ?_) (fun cdv A outer s H vs Q E hr h => ?_)
  · obtain ⟨a, ns, rfl, _⟩ := h
    rfl
  · obtain ⟨a, ns, rfl, hS, hlen, q⟩ := h
    refine ⟨_, pss_cons (ps_set (i := 1) scPen.nd rfl (.inl rfl) pe_int)
      (pss_cons (ps_for PassesOwn.never rfl (pi_list (pv 0)) (pg_name (i := 2) scPen.nd rfl (.inl rfl))
        (pss_one (ps_set (i := 1) scPen.nd rfl (.inl rfl) (pe_op op_mod (pe_callTy call_int1 (by rfl) mi (by decide +kernel) (pa_cons (pe_op op_add (pe_op op_mul (pv 1) pe_int) (pv 2)) pa_nil)) pe_int))))
      (pss_one (ps_ret (pe_disp (pps_cons pe_str (pe_callTy call_list_of (by rfl) ml (by decide +kernel) (pa_cons (pv 0) pa_nil))
        (pps_cons pe_str pe_int (pps_cons pe_str pe_int (pps_cons pe_str pe_int (pps_cons pe_str (pv 1) pps_nil))))) (by rfl) (by rfl) (fun z => by cases z) (by decide))))), ?_⟩
    refine ⟨.ref a, rfl, a, rfl, ⟨_, hS⟩, for_list (K := K) (a := a) (xs := ns.map V.int) (fun i σ H2 => ∃ (g : Int) (v : Option V), σ = [some (.ref a), some (.int g), v] ∧ H2 = H ∧ 0 ≤ g ∧ g < 1000000007)
      ⟨0, none, rfl, rfl, by decide, by decide⟩ (fun i σ H2 _ ⟨_, _, _, e, _⟩ => by rw [e]; exact hS) ?_ ?_⟩
    · rintro i y σ H2 hi ⟨g, v, rfl, rfl, g0, g1⟩
      obtain ⟨z, rfl⟩ : ∃ z, y = V.int z := by
        rw [List.getElem?_map] at hi
        cases e : ns[i]? with
        | none =>
          rw [e] at hi
          cases hi
        | some z =>
          rw [e] at hi
          exact ⟨z, (Option.some.inj hi).symm⟩
      refine ⟨.int g, rfl, _, _, rfl, rfl, .inr ⟨by decide, by decide⟩, .int z, rfl, _, _, rfl, rfl, .inl ⟨_, rfl, _, _, rfl, rfl, (by show (0 : Int) < 1000000007; decide), ?_⟩⟩
      exact ⟨(g * 47 + z) % 1000000007, some (.int z), rfl, rfl, Int.emod_nonneg _ (by decide), Int.emod_lt_of_pos _ (by decide)⟩
    · rintro σ H2 ⟨g, v, rfl, rfl, g0, g1⟩
      intro p hp
      refine ⟨.ref a, rfl, a, _, rfl, .inl ((same_upd hp).seq hS), fun l hl => ?_⟩
      have nlp : l ≠ p := fun e => by
        rw [e, upd_same] at hl
        cases hl
      have hl0 : H2 l = none := by rw [upd_ne nlp] at hl; exact hl
      refine ⟨.int g, rfl, by rw [upd_ne nlp.symm, upd_same], [(kC, .ref l), (kA, .int 0), (kD, .int 0), (kN, .int 0), (kF, .int g)], rfl, (by show 5 ≤ 15; decide), ?_⟩
      rw [merge_pen]
      refine q _ p l ?_ hp hl0 ⟨⟨0, 0, g, upd_same, Nat.zero_le _, by decide, g0, by omega⟩, ?_⟩
      · intro b o e
        have b1 : b ≠ p := ne_of_none e hp
        have b2 : b ≠ l := ne_of_none e hl0
        rw [upd_ne b1, upd_ne b2, upd_ne b1]
        exact e
      · rw [upd_ne nlp, upd_same]
end
end Pn

namespace Pn
open PySem PySem.Spec PyProof.Rows L2
theorem pget {H : Hp} {p : Addr} {kvs : List (Key × V)} {k : Key} {v : V} (e : H p = some (.dK kvs)) (h : valV kvs k = some v) : DGet H p (kV k) (some v) := by
  have q : DGet H p (kV k) (valV kvs k) := DGet.k e
  rw [h] at q
  exact q
theorem pput {H : Hp} {p : Addr} {kvs kvs' : List (Key × V)} {k : Key} {v : V} (e : H p = some (.dK kvs)) (hl : kvs.length < sizeLine) (h : putK kvs k v = kvs') : DPut H p (kV k) v (L2.upd H p (.dK kvs')) := by
  have q : DPut H p (kV k) v (L2.upd H p (.dK (putK kvs k v))) := DPut.k e hl
  rw [h] at q
  exact q
theorem penl (l : Addr) (a d n f : Int) : (penK l a d n f).length < sizeLine := by
  show 5 < sizeLine
  decide
theorem pow17 {b : Int} (h0 : 0 ≤ b) : 0 ≤ b ^ (17 : Int).toNat := Int.pow_nonneg h0
section
variable {P : Program} {w : World} {K : PySem.W.Frag} {mg : Str → Option Value} {base : Heap}
def spDraw : Sp := fun vs H Q _ => ∃ (p l : Addr) (ns : List Int) (c : Nat) (m : Int), vs = [.ref p, .int m] ∧ Pen H p l ns c ∧ ns.length ≤ 1000 ∧ c ≤ 1000000000 ∧ 1 ≤ m ∧ m ≤ 1000000 ∧
  ∀ r H', 0 ≤ r → r < m → Pen H' p l ns (c + 1) → But p H H' → Q (.int r) H'
theorem ok_draw {f : Addr} {fd : FuncData} {k : Nat} (F : Fun K "_law_draw" "_law_draw" sDraw f fd) (mi : mg "int" = none) (ml : mg "len" = none) : FnOk P w K mg base CX0 (k + 1) f fd ["_law_pen_here", "_law_many"] spDraw := by
  refine F.ok scDraw (fun vs H Q E h => ?_) (fun cdv A outer s H vs Q E hr h => ?_)
  · obtain ⟨p, l, ns, c, m, rfl, _⟩ := h
    rfl
  · obtain ⟨p, l, ns, c, m, rfl, hP, hlen, hc, m1, m2, q⟩ := h
    have hu := hu_of hr
    have npl : p ≠ l := pen_ne hP
    obtain ⟨⟨a, d, f0, e, ha, hd, hf, hf2⟩, hl⟩ := hP
    refine ⟨_, pss_cons (ps_dput hu (pv 0) pe_str (pe_op op_add (pe_dget hu (pv 0) pe_str (fun _ _ => rfl)) pe_int) rfl)
      (C8.pss_cut (ps_if (pw_and (pt_cmpR op_eq (pe_dget hu (pv 0) pe_str (fun _ _ => rfl)) pe_int (nomark _)) (pw_and1 (pt_cmpR op_lt (pe_dget hu (pv 0) pe_str (fun _ _ => rfl)) (pe_callB call_len_seq (by rfl) ml PySem.boot_len (pa_cons (pe_dget hu (pv 0) pe_str (fun _ _ => rfl)) pa_nil)) (nomark _)))).pt
        (pss_cons (ps_set (i := 2) scDraw.nd rfl (.inl rfl) (pe_ix ix_list (pe_dget hu (pv 0) pe_str (fun _ _ => rfl)) (pe_dget hu (pv 0) pe_str (fun _ _ => rfl)) (fun _ _ => rfl)))
        (pss_cons (ps_dput hu (pv 0) pe_str (pe_op op_add (pe_dget hu (pv 0) pe_str (fun _ _ => rfl)) pe_int) rfl)
        (pss_one (ps_if (pt_cmpR op_ge (pv 2) (pe_op op_pow pe_int pe_int) (nomark _))
          (pss_one (ps_dput hu (pv 0) pe_str (pe_op op_sub (pv 2) (pe_op op_pow pe_int pe_int)) rfl))
          (pss_one (ps_dput hu (pv 0) pe_str (pe_op op_mod (pe_callTy call_int1 (by rfl) mi (by decide +kernel) (pa_cons (pe_op op_add (pe_op op_mul (pe_dget hu (pv 0) pe_str (fun _ _ => rfl)) pe_int) (pv 2)) pa_nil)) pe_int) rfl))))))
        pss_nil)
      (pss_cons (ps_if (pt_cmpR op_gt (pe_dget hu (pv 0) pe_str (fun _ _ => rfl)) pe_int (nomark _))
        (pss_cons (ps_set (i := 3) scDraw.nd rfl (.inl rfl) (pe_op op_mod (pe_callTy call_int1 (by rfl) mi (by decide +kernel) (pa_cons (pe_dget hu (pv 0) pe_str (fun _ _ => rfl)) pa_nil)) (pv 1)))
        (pss_cons (ps_dput hu (pv 0) pe_str (pe_op op_fdiv (pe_dget hu (pv 0) pe_str (fun _ _ => rfl)) (pv 1)) rfl)
        (pss_one (ps_ret (pv 3)))))
        pss_nil)
      (pss_cons (ps_set (i := 4) scDraw.nd rfl (.inl rfl) (pe_op op_add (pe_op op_add (pe_dget hu (pv 0) pe_str (fun _ _ => rfl)) (pe_op op_mul (pe_dget hu (pv 0) pe_str (fun _ _ => rfl)) pe_int)) pe_int))
      (pss_one (ps_ret (pe_op op_mod (pe_op op_fdiv (pe_callTy call_int1 (by rfl) mi (by decide +kernel) (pa_cons (pe_op op_mod (pe_op op_pow (pv 4) pe_int) pe_int) pa_nil)) pe_int) (pv 1))))))), ?_⟩
    -- count
    refine ⟨.ref p, rfl, p, _, rfl, pget e (getN ..), _, _, rfl, rfl, .ref p, rfl, p, _, rfl, pput e (penl ..) (putN ..), ?_⟩
    have e1 : (L2.upd H p (.dK (penK l (a : Int) d ((c : Int) + 1) f0))) p = some (.dK (penK l (a : Int) d ((c : Int) + 1) f0)) := upd_same
    have l1 : (L2.upd H p (.dK (penK l (a : Int) d ((c : Int) + 1) f0))) l = some (.lst (ns.map V.int)) := by rw [upd_ne npl.symm]; exact hl
    have b1 : But p H (L2.upd H p (.dK (penK l (a : Int) d ((c : Int) + 1) f0))) := But.upd _ _
    generalize L2.upd H p (.dK (penK l (a : Int) d ((c : Int) + 1) f0)) = H1 at e1 l1 b1
    -- the cell
    refine ⟨fun σ H' => ∃ (v2 : Option V) (a : Nat) (d f : Int), σ = [some (.ref p), some (.int m), v2, none, none] ∧ H' p = some (.dK (penK l (a : Int) d ((c : Int) + 1) f)) ∧ a ≤ ns.length ∧ 0 ≤ d ∧ 0 ≤ f ∧ f < 2147483648 ∧ H' l = some (.lst (ns.map V.int)) ∧ But p H H', ?_, ?_⟩
    · refine ⟨.ref p, rfl, p, _, rfl, pget e1 (getD ..), rfl, _, rfl, ?_⟩
      refine ite2 (fun hd0 => ?_) (fun _ => ?_)
      · refine ⟨.ref p, rfl, p, _, rfl, pget e1 (getA ..), .ref p, rfl, p, _, rfl, pget e1 (getC ..), l, _, rfl, .inl (.inl (.inl l1)), _, _, rfl, rfl, _, rfl, ?_⟩
        refine ite2 (fun hlt => ?_) (fun _ => ?_)
        · have hlt' : (a : Int) < ((ns.map V.int).length : Int) := of_decide_eq_true hlt
          have hlt2 : a < ns.length := by
            rw [List.length_map] at hlt'
            omega
          have hz : (ns.map V.int)[a]? = some (.int ns[a]) := by
            rw [List.getElem?_map, List.getElem?_eq_getElem hlt2]
            rfl
          refine ⟨.ref p, rfl, p, _, rfl, pget e1 (getC ..), .ref p, rfl, p, _, rfl, pget e1 (getA ..), l, _, _, _, rfl, rfl, .inl (.inl l1), atI_nat hz, ?_⟩
          refine ⟨.ref p, rfl, p, _, rfl, pget e1 (getA ..), _, _, rfl, rfl, .ref p, rfl, p, _, rfl, pput e1 (penl ..) (putA ..), ?_⟩
          have e2 : (L2.upd H1 p (.dK (penK l ((a : Int) + 1) d ((c : Int) + 1) f0))) p = some (.dK (penK l ((a + 1 : Nat) : Int) d ((c : Int) + 1) f0)) := upd_same
          have l2 : (L2.upd H1 p (.dK (penK l ((a : Int) + 1) d ((c : Int) + 1) f0))) l = some (.lst (ns.map V.int)) := by rw [upd_ne npl.symm]; exact l1
          have b2 : But p H (L2.upd H1 p (.dK (penK l ((a : Int) + 1) d ((c : Int) + 1) f0))) := b1.trans (But.upd _ _)
          generalize L2.upd H1 p (.dK (penK l ((a : Int) + 1) d ((c : Int) + 1) f0)) = H2 at e2 l2 b2
          refine ⟨.int ns[a], rfl, _, _, rfl, rfl, ⟨by decide, by decide, by decide⟩, _, _, rfl, rfl, _, rfl, ?_⟩
          refine ite2 (fun hbig => ?_) (fun _ => ?_)
          · have hb : (10 : Int) ^ (18 : Int).toNat ≤ ns[a] := of_decide_eq_true hbig
            refine ⟨.int ns[a], rfl, _, _, rfl, rfl, ⟨by decide, by decide, by decide⟩, _, _, rfl, rfl, .ref p, rfl, p, _, rfl, pput e2 (penl ..) (putD ..), ?_⟩
            exact ⟨_, a + 1, _, f0, rfl, upd_same, hlt2, by omega, hf, hf2, by rw [upd_ne npl.symm]; exact l2, b2.trans (But.upd _ _)⟩
          · refine ⟨.ref p, rfl, p, _, rfl, pget e2 (getF ..), _, _, rfl, rfl, .inr ⟨by decide, by decide⟩, .int ns[a], rfl, _, _, rfl, rfl, .inl ⟨_, rfl, _, _, rfl, rfl, (by show (0 : Int) < 2147483587; decide), .ref p, rfl, p, _, rfl, pput e2 (penl ..) (putF' ..), ?_⟩⟩
            refine ⟨_, a + 1, d, _, rfl, upd_same, hlt2, hd, Int.emod_nonneg _ (by decide), Int.lt_trans (Int.emod_lt_of_pos _ (by decide)) (by decide), by rw [upd_ne npl.symm]; exact l2, b2.trans (But.upd _ _)⟩
        · exact ⟨none, a, d, f0, rfl, e1, ha, hd, hf, hf2, l1, b1⟩
      · refine iteF ?_
        exact ⟨none, a, d, f0, rfl, e1, ha, hd, hf, hf2, l1, b1⟩
    · rintro σ' H2 ⟨v2, a, d, f0, rfl, e2, ha, hd, hf, hf2, l2, b2⟩
      refine ⟨.ref p, rfl, p, _, rfl, pget e2 (getD ..), _, _, rfl, rfl, _, rfl, ?_⟩
      refine ite2 (fun _ => ?_) (fun _ => ?_)
      · refine ⟨.ref p, rfl, p, _, rfl, pget e2 (getD ..), .inl ⟨_, rfl, .int m, rfl, _, _, rfl, rfl, (by show 0 < m; omega), ?_⟩⟩
        refine ⟨.ref p, rfl, p, _, rfl, pget e2 (getD ..), .int m, rfl, _, _, rfl, rfl, ⟨(by omega), (by omega)⟩, .ref p, rfl, p, _, rfl, pput e2 (penl ..) (putD ..), ?_⟩
        refine ⟨.int (d % m), rfl, ?_⟩
        refine q _ _ (Int.emod_nonneg _ (by omega)) (Int.emod_lt_of_pos _ (by omega)) ⟨⟨a, d / m, f0, upd_same, ha, Int.ediv_nonneg hd (by omega), hf, hf2⟩, by rw [upd_ne npl.symm]; exact l2⟩ (b2.trans (But.upd _ _))
      · refine ⟨.ref p, rfl, p, _, rfl, pget e2 (getF ..), .ref p, rfl, p, _, rfl, pget e2 (getN ..), _, _, rfl, rfl, .inr ⟨by decide, by decide⟩, _, _, rfl, rfl, _, _, rfl, rfl, ?_⟩
        refine ⟨.int (f0 + ((c : Int) + 1) * 7907 + 43), rfl, _, _, rfl, rfl, ⟨by decide, by decide, by omega⟩, _, _, rfl, rfl, (by show (0 : Int) < 2305843009213693951; decide), .inl ⟨_, rfl, _, _, rfl, rfl, ⟨by decide, by decide⟩, .int m, rfl, _, _, rfl, rfl, (by show 0 < m; omega), ?_⟩⟩
        exact q _ _ (Int.emod_nonneg _ (by omega)) (Int.emod_lt_of_pos _ (by omega)) ⟨⟨a, d, f0, e2, ha, hd, hf, hf2⟩, l2⟩ b2
def spPick (K : PySem.W.Frag) : Sp := fun vs H Q _ => ∃ (p l s : Addr) (ns : List Int) (c : Nat) (xs : List V), vs = [.ref p, .ref s] ∧ Pen H p l ns c ∧ ns.length ≤ 1000 ∧ c ≤ 1000000000 ∧ (SqL K H s xs ∨ SqT K H s xs) ∧ xs ≠ [] ∧ xs.length ≤ 1000000 ∧ s ≠ p ∧
  ∀ x H', x ∈ xs → Pen H' p l ns (c + 1) → But p H H' → Q x H'
theorem But.sq {H H' : Hp} {p s : Addr} {xs : List V} (b : But p H H') (n : s ≠ p) (h : SqL K H s xs) : SqL K H' s xs := by
  rcases h with (h | ⟨o, h⟩) | h
  · exact .inl (.inl (b _ _ n h))
  · exact .inl (.inr ⟨o, b _ _ n h⟩)
  · exact .inr h
end
end Pn

namespace Pn
open PySem PySem.Spec PyProof.Rows L2
theorem ix_or {X : Cx} : IxR X (fun x y H Q => rIxL X.K x y H Q ∨ rIxT X.K x y H Q) := ix_list.or ix_tup
section
variable {P : Program} {w : World} {K : PySem.W.Frag} {mg : Str → Option Value} {base : Heap}
theorem ok_pick {f fD : Addr} {fd fdD : FuncData} {k : Nat} (F : Fun K "_law_pick" "_law_pick" sPick f fd) (G : FnOk P w K mg base CX0 (k + 1) fD fdD ["_law_pen_here", "_law_many"] spDraw) (gD : mg "_law_draw" = some (.ref fD)) (kD : PySem.W.keepIn K (.ref fD) = true) (bD : Binds K fdD ["_law_pen_here", "_law_many"] [])
    (ml : mg "len" = none) : FnOk P w K mg base CX0 (k + 2) f fd ["_law_pen_here", "_law_some"] (spPick K) := by
  refine F.ok scPick (fun vs H Q E h => ?_) (fun cdv A outer s H vs Q E hr h => ?_)
  · obtain ⟨p, l, s, ns, c, xs, rfl, _⟩ := h
    rfl
  · obtain ⟨p, l, s, ns, c, xs, rfl, hP, hlen, hc, hS, hne, hx, hsp, q⟩ := h
    refine ⟨_, pss_one (ps_ret (pe_ix ix_or (pv 1) (pe_call G hr (by rfl) gD kD bD .nil pass0 (pa_cons (pv 0) (pa_cons (pe_callB call_len_seq (by rfl) ml PySem.boot_len (pa_cons (pv 1) pa_nil)) pa_nil))) (fun _ _ => rfl))), ?_⟩
    have hpos : 1 ≤ xs.length := by
      cases xs with
      | nil => exact absurd rfl hne
      | cons x r => rw [List.length_cons]; omega
    refine ⟨.ref s, rfl, .ref p, rfl, .ref s, rfl, s, xs, rfl, hS, p, l, ns, c, _, rfl, hP, hlen, hc, by omega, by omega, fun r H' r0 r1 hP' b' => ?_⟩
    obtain ⟨j, rfl⟩ : ∃ j : Nat, r = (j : Int) := ⟨r.toNat, by omega⟩
    have hj : j < xs.length := by omega
    have hg : xs[j]? = some xs[j] := List.getElem?_eq_getElem hj
    rcases hS with hS | hS
    · exact .inl ⟨s, xs, _, _, rfl, rfl, b'.sq hsp hS, atI_nat hg, q _ _ (List.getElem_mem hj) hP' b'⟩
    · refine .inr ⟨s, xs, _, _, rfl, rfl, ?_, atI_nat hg, q _ _ (List.getElem_mem hj) hP' b'⟩
      rcases hS with (h | ⟨o, h⟩) | h
      · exact .inl (.inl (b' _ _ hsp h))
      · exact .inl (.inr ⟨o, b' _ _ hsp h⟩)
      · exact .inr h
end
end Pn

/-! Drawn terms. -/
namespace Ad
open PySem PySem.Spec PySem.Calls PyProof.Rows L2
/-- a row: name, number of arguments, weight -/
abbrev Row := Str × Nat × Int
def RowV (K : PySem.W.Frag) (H : Hp) (r : Row) (v : V) : Prop := ∃ b, v = .ref b ∧ SqT K H b [.str r.1, .int (r.2.1 : Int), .int r.2.2]
def RowsAt (K : PySem.W.Frag) (H : Hp) (a : Addr) (R : List Row) : Prop := ∃ b y vs, SqT K H a [.ref b, y] ∧ SqT K H b vs ∧ F2 (RowV K H) R vs
theorem RowV.mono {K : PySem.W.Frag} {H H' : Hp} (k : TK H H') (r : Row) (v : V) (h : RowV K H r v) : RowV K H' r v := by
  obtain ⟨b, e, s⟩ := h
  exact ⟨b, e, k.sq s⟩
theorem RowsAt.mono {K : PySem.W.Frag} {H H' : Hp} (k : TK H H') {a : Addr} {R : List Row} (h : RowsAt K H a R) : RowsAt K H' a R := by
  obtain ⟨b, y, vs, s1, s2, f⟩ := h
  exact ⟨b, y, vs, k.sq s1, k.sq s2, f.mono (RowV.mono k)⟩
/-- rows to draw from: names that can be laid, at most three arguments, one without any -/
structure ROk (R : List Row) : Prop where
  names : ∀ r ∈ R, nameOk r.1 = true ∧ r.2.1 ≤ 3
  const : ∃ (j : Nat) (r : Row), R[j]? = some r ∧ r.2.1 = 0
  few : R.length ≤ 1000
def sz : Nat → Nat
  | 0 => 1
  | d + 1 => 1 + 3 * sz d
def dn : Nat → Nat
  | 0 => 2
  | d + 1 => 2 + 3 * dn d
theorem two_dn : ∀ d, 2 ≤ dn d
  | 0 => Nat.le_refl _
  | _ + 1 => Nat.le_add_right _ _
theorem one_sz : ∀ d, 1 ≤ sz d
  | 0 => Nat.le_refl _
  | _ + 1 => Nat.le_add_right _ _
namespace Kb
mutual
/-- all names with their arities stand in the rows -/
def Wf (rk : List Row) : T → Prop
  | .v _ => True
  | .f x ts => (∃ r ∈ rk, r.1 = x ∧ r.2.1 = ts.length) ∧ WfL rk ts
def WfL (rk : List Row) : List T → Prop
  | [] => True
  | t :: ts => Wf rk t ∧ WfL rk ts
end
theorem wfL_of {rk : List Row} : ∀ {ts : List T}, (∀ t ∈ ts, Wf rk t) → WfL rk ts
  | [], _ => True.intro
  | t :: ts, h => ⟨h t (List.mem_cons_self ..), wfL_of fun u hu => h u (List.mem_cons_of_mem _ hu)⟩
mutual
theorem Wf.mono {rk rl : List Row} (h : ∀ r ∈ rk, r ∈ rl) : ∀ {t : T}, Wf rk t → Wf rl t
  | .v _, _ => True.intro
  | .f x ts, ⟨⟨r, hr, e⟩, k⟩ => ⟨⟨r, h r hr, e⟩, WfL.mono h k⟩
theorem WfL.mono {rk rl : List Row} (h : ∀ r ∈ rk, r ∈ rl) : ∀ {ts : List T}, WfL rk ts → WfL rl ts
  | [], _ => True.intro
  | t :: ts, ⟨a, b⟩ => ⟨Wf.mono h a, WfL.mono h b⟩
end
end Kb
/-- a drawn term of a depth, its variables below a number -/
structure DT (R : List Row) (deep : Nat) (nv : Int) (t : T) : Prop where
  named : t.named = true
  dep : t.dep ≤ deep + 1
  size : t.size ≤ sz deep
  vars : ∀ j ∈ t.vars, 0 ≤ j ∧ j < nv
  wf : Kb.Wf R t
theorem pen_tk {H H' : Hp} {p l : Addr} {ns : List Int} {c : Nat} (P : Pn.Pen H p l ns c) (b : Pn.But p H H') : TK H H' := by
  obtain ⟨⟨a, d, f, e, _⟩, _⟩ := P
  intro q xs
  refine ⟨fun h => b _ _ (fun z => ?_) h, fun o h => b _ _ (fun z => ?_) h⟩
  · rw [z, e] at h
    cases h
  · rw [z, e] at h
    cases h
theorem pen_same {H H' : Hp} {p l : Addr} {ns : List Int} {c : Nat} (P : Pn.Pen H p l ns c) (s : Same H H') : Pn.Pen H' p l ns c := by
  obtain ⟨⟨a, d, f, e, r⟩, h⟩ := P
  exact ⟨⟨a, d, f, s _ _ e, r⟩, s _ _ h⟩
def spDrawn (K : PySem.W.Frag) (n : Nat) : Sp := fun vs H Q _ => ∃ (p l ra : Addr) (ns : List Int) (c deep : Nat) (nv : Int) (R : List Row), vs = [.ref p, .ref ra, .int (deep : Int), .int nv] ∧ Pn.Pen H p l ns c ∧ ns.length ≤ 1000 ∧ c + dn deep ≤ 1000000000 ∧ RowsAt K H ra R ∧ ROk R ∧
  deep < n ∧ 0 ≤ nv ∧ nv ≤ 1000 ∧ ∀ t v H' c', Tm K H' t v → DT R deep nv t → c' ≤ c + dn deep → Pn.Pen H' p l ns c' → Pn.But p H H' → Q v H'
end Ad

/-! dict(t) of a tuple of pairs. -/
namespace Dt
open PySem PySem.Spec PySem.Calls PyProof.Rows L2
theorem tuple_keys_none : typeLookup (.type "tuple") "keys" = pure none := am_miss_of_fast (by first | decide +kernel | rfl)
section
variable {prog : Program} {w : World} {A : Around} {E : Value → Shared → Prop}
/-- a tuple has no attribute 'keys' -/
theorem no_keys {s : Shared} {a : Addr} {o : Obj} {xs : Array Value} {k : Nat} {Q : Option Value → Shared → Prop} (hx : s.heap.get? a = some o) (hc : o.cls = .type "tuple") (hdat : o.data = .seq xs k) (hd : o.dict = none) (hA : A.handled = none)
    (h : ∀ h' tk, (∀ b ob, s.heap.get? b = some ob → h'.get? b = some ob) → Q none { s with heap := h', toks := tk }) : wpAny (model prog w) A (getAttr? (.ref a) "keys") Q E s := by
  obtain ⟨c, dct, dat, sl⟩ := o
  simp only at hc hdat hd
  subst hc hdat hd
  obtain ⟨hp, g, d, tk, os⟩ := s
  have isT : ∀ tk', (⟨hp, g, d, tk', os⟩ : Shared).TypeIs (.ref a) "tuple" := fun _ => ⟨_, hx, rfl⟩
  have g1 := tuple_keys_none
  have g2 : (["__module__", "__name__", "__qualname__", "__doc__", "__annotations__"] : List Str).contains "keys" = false := by decide +kernel
  have g3 : ("keys" : Str).length + 100 ≤ sizeLine := by first | size_fits | decide +kernel
  have g4 := sub_AttributeError
  have g5 := PySem.F.slot_tuple_getattribute.lookup
  have g6 := PySem.F.slot_tuple_getattribute.bind (.ref a)
  have g7 := am_tuple_getattr_none
  unfold getAttr? getAttrBy? getAttrBy
  repeat (any_goals (first | assumption | exact isT _ | ((with_reducible show wpAny _ _ (call (Value.builtin "tuple.__getattribute__") _ _) _ _ _); refine call_meets PySem.F.slot_tuple_getattribute (isT _) am_entry_tuple_getattribute (PySem.F.args_tuple_getattribute_2 _ _) (meets_getattribute_miss_tuple a xs k sl "keys" _ g1 g2 g3) ⟨hx, hA, fun h' tk' e hx' => ?_⟩) | wp_step))
  obtain ⟨t', u', he⟩ := hx'.there
  show wpAny _ _ (getattributeRaised _ _ _ _ _ _ _) _ _ _
  unfold getattributeRaised
  repeat (any_goals (first | assumption | wp_step))
  all_goals first | exact h _ _ hx'.keeps | (dsimp only; repeat (any_goals (first | assumption | exact h _ _ hx'.keeps | wp_step)))
theorem walk {R : Result → Shared → Prop} {S I l : Addr} {items : Array Value} {res : Value} (hh : A.handled = none) (lI : l ≠ I) (sI : S ≠ I) (sl : S ≠ l) :
    ∀ (rest : List (L2.Key × Value)) (i : Nat) (acc : List (L2.Key × Value)) (ix : Int) (t : Tok) (s : Shared), items.size = i + rest.length → acc.length + rest.length ≤ sizeLine →
      (∀ (j : Nat) (q : L2.Key × Value), rest[j]? = some q → ∃ (b : Addr) (u : Value), items[i + j]? = some (.ref b) ∧ b ≠ S ∧ b ≠ I ∧ IsTup s.heap b #[u, q.2] ∧ keyIs q.1 u = true) →
      s.heap.IsTupleIter I l i → s.heap.IsTuple l items → s.heap.DictOf (mixKind prog w) S acc →
      (∀ h' tk, h'.DictOf (mixKind prog w) S (merged acc rest) → (∀ b o, b ≠ S → b ≠ I → s.heap.get? b = some o → h'.get? b = some o) → R (.ok (.ret res)) { s with heap := h', toks := tk }) →
      codeAny (model prog w) A (.builtin "dict.update.loop" ⟨[.ref S, .ref I, .int ix t, res], []⟩) R s
  | [], i, acc, ix, t, s, hsz, hln, ht, hit, hl, hm, hR => by
    refine codeAny_builtin ud_entry ?_
    rw [Around.under_plainId ud_plain _]
    show wpAny _ A.in1 (pyNext (.ref I) >>= _) _ _ s
    refine wpAny_bind (wpAny_pyNext_tuple_end (A := A.in1) hh hit hl (by first | exact Array.getElem?_eq_none (Nat.le_of_eq hsz) | (simp at hsz; simp; omega)) fun h' he => ?_)
    show wpAny _ A.in1 (Builtin.Dict.addKeywords S [] >>= _) _ _ _
    refine wpAny_bind (wpAny_pure (wpAny_pure ?_))
    exact hR h' s.toks (hm.extBut he sI) fun b o _ hb e => he b o hb e
  | q :: rest, i, acc, ix, t, s, hsz, hln, ht, hit, hl, hm, hR => by
    obtain ⟨b, u, hb, hbS, hbI, htup, hk⟩ := ht 0 q rfl
    rw [List.length_cons] at hsz hln
    refine codeAny_builtin ud_entry ?_
    rw [Around.under_plainId ud_plain _]
    show wpAny _ A.in1 (pyNext (.ref I) >>= _) _ _ s
    refine wpAny_bind (wpAny_pyNext_tuple_item (x := .ref b) hit hl (by simpa using hb) fun h1 hit1 hs1 => ?_)
    have tup1 : IsTup h1 b #[u, q.2] := htup.extBut hs1.extBut hbI
    have hl1 : h1.IsTuple l items := by
      obtain ⟨o, e, r⟩ := id hl
      exact ⟨o, hs1.extBut l o lI e, r⟩
    have hm1 : h1.DictOf (mixKind prog w) S acc := hm.extBut hs1.extBut sI
    obtain ⟨o, ho, hc, n, hd⟩ := id tup1
    show wpAny _ A.in1 (holding [Value.ref b] _ >>= _) _ _ _
    refine wpAny_bind (wpAny_holding (wpAny_bind (wpAny_tryCatch ?_)))
    unfold Builtin.Dict.pairItems
    refine wpAny_bind (wpAny_typeOf (T := "tuple") ⟨o, ho, hc⟩ ?_)
    rw [if_pos (by first | decide | rfl | simp)]
    refine wpAny_bind (wpAny_seqItems ho hd (wpAny_pure ?_))
    show wpAny _ A.in1 (holding [u, q.2] (dictSet S u q.2)) _ _ _
    refine wpAny_holding (wpAny_dictSet_pairs (knd := mixKind prog w) (k := q.1) hk hm1 (fun h2 hm2 hs2 => ?_) (by omega))
    refine wpAny_pure ⟨plainId_quiet ud_plain _, walk (items := items) hh lI sI sl rest (i + 1) (stored acc q.1 q.2) (ix + 1) 0 _ (show items.size = i + 1 + rest.length by omega) ?_ (fun j q' e => ?_) ?_ ?_ hm2 fun h' tk hd' k => ?_⟩
    · have z := stored_length_le acc q.1 q.2
      omega
    · obtain ⟨b', u', hb', hbS', hbI', htup', hk'⟩ := ht (j + 1) q' (by simpa using e)
      refine ⟨b', u', ?_, hbS', hbI', (htup'.extBut hs1.extBut hbI').extBut hs2.extBut hbS', hk'⟩
      rw [show i + 1 + j = i + (j + 1) by omega]
      exact hb'
    · exact hit1.at fun o' e => hs2.extBut I o' (Ne.symm sI) e
    · obtain ⟨o', e, r⟩ := id hl1
      exact ⟨o', hs2.extBut l o' (Ne.symm sl) e, r⟩
    · exact hR h' tk hd' fun c oc h3 h4 e => k c oc h3 h4 (hs2.extBut c oc h3 (hs1.extBut c oc h4 e))
theorem new_dict {s : Shared} {l : Addr} {ol : Obj} {items : Array Value} {n : Nat} {prs : List (L2.Key × Value)} {Q : Value → Shared → Prop} (hh : A.handled = none) (hl : s.heap.get? l = some ol) (hc : ol.cls = .type "tuple") (hd : ol.dict = none)
    (hdat : ol.data = .seq items n) (hsz : items.size = prs.length) (hln : prs.length ≤ sizeLine)
    (ht : ∀ (j : Nat) (q : L2.Key × Value), prs[j]? = some q → ∃ (b : Addr) (u : Value), items[j]? = some (.ref b) ∧ IsTup s.heap b #[u, q.2] ∧ keyIs q.1 u = true)
    (h : ∀ h' tk, h'.DictOf (mixKind prog w) s.heap.objs.size (merged [] prs) → (∀ b o, s.heap.get? b = some o → h'.get? b = some o) → Q (.ref s.heap.objs.size) { s with heap := h', toks := tk }) :
    wpAny (model prog w) A (call (.type "dict") [.ref l]) Q E s := by
  refine callType_codes (Q₁ := fun v sA => v = .ref s.heap.objs.size ∧ sA = { s with heap := s.heap.push { cls := .type "dict", data := .dict #[] } }) PySem.F.kt_called_dict (PySem.F.kt_typeCall_dict_1 _) PySem.F.entry_dict_init (kt_code_dict_new _ ⟨rfl, rfl⟩) ?_
  rintro v sA ⟨rfl, rfl⟩
  have made : (s.heap.push { cls := .type "dict", data := .dict #[] }).DictOf (mixKind prog w) s.heap.objs.size [] := Heap.DictOf.new s.heap
  have k0 : ∀ b o, s.heap.get? b = some o → (s.heap.push { cls := .type "dict", data := .dict #[] }).get? b = some o := fun b o e => Heap.get?_push_of_some _ e
  refine ⟨made.typeIs, PySem.F.args_dict_init_2 _ _, ?_⟩
  unfold Builtin.«dict.__init__»
  refine wpAny_bind ?_
  unfold Builtin.Dict.selfAndRest
  refine wpAny_bind (wpAny_notOrdered_dict made.typeIs ?_)
  show wpAny _ _ (pure (s.heap.objs.size, [Value.ref l])) _ _ _
  refine wpAny_pure ?_
  show wpAny _ _ (Builtin.Dict.updateFrom "dict.__init__" s.heap.objs.size (.ref l) [] .none) _ _ _
  unfold Builtin.Dict.updateFrom
  refine wpAny_bind (wpAny_typeOf (T := "tuple") ⟨ol, k0 _ _ hl, hc⟩ ?_)
  rw [if_pos (by first | decide | rfl | simp)]
  refine wpAny_bind (no_keys (k0 _ _ hl) hc hdat hd hh fun h1 tk1 hk1 => ?_)
  rw [if_pos (show (none : Option Value).isNone = true from rfl)]
  refine wpAny_bind (wpAny_rule ?_)
  have hl1 : h1.IsTuple l items := ⟨ol, hk1 _ _ (k0 _ _ hl), hc, n, hdat⟩
  have hS1 : s.heap.objs.size < h1.objs.size := by
    have e : (s.heap.push { cls := .type "dict", data := .dict #[] }).get? s.heap.objs.size = some { cls := .type "dict", data := .dict #[] } := Heap.get?_push_size _ rfl
    exact Heap.lt_size (hk1 _ _ e)
  refine wpAny_bind (wpAny_pyIter_tuple hl1 ?_)
  have k2 : ∀ b o, h1.get? b = some o → (h1.push { cls := .type "tuple_iterator", data := .fields #[.ref l, .int 0 0] }).get? b = some o := fun b o e => Heap.get?_push_of_some _ e
  have low : l < s.heap.objs.size := Heap.lt_size hl
  have key := walk (prog := prog) (w := w) (A := A.in1) (R := wants (fun r sB => r = .none ∧ Q (.ref s.heap.objs.size) sB) E) (S := s.heap.objs.size) (I := h1.objs.size) (l := l) (items := items) (res := Value.none) hh
    (Nat.ne_of_lt (Nat.lt_trans low hS1)) (Nat.ne_of_lt hS1) (Nat.ne_of_gt low) prs 0 [] 0 0
    { s with heap := h1.push { cls := .type "tuple_iterator", data := .fields #[.ref l, .int 0 0] }, toks := tk1 } (by rw [hsz, Nat.zero_add]) (by rw [List.length_nil, Nat.zero_add]; exact hln)
    (fun j q e => by
      obtain ⟨b, u, e1, e2, e3⟩ := ht j q e
      have hb : b < s.heap.objs.size := e2.lt
      exact ⟨b, u, by rw [Nat.zero_add]; exact e1, Nat.ne_of_lt hb, Nat.ne_of_lt (Nat.lt_trans hb hS1), e2.keeps fun c o z => k2 _ _ (hk1 _ _ (k0 _ _ z)), e3⟩)
    ⟨_, Heap.get?_push_size _ rfl, rfl, rfl⟩ (by
      obtain ⟨o', e, r⟩ := id hl1
      exact ⟨o', k2 _ _ e, r⟩) ((made.at fun o e => hk1 _ _ e).at fun o e => k2 _ _ e)
    (fun h' tk hd' k => ⟨rfl, h h' tk hd' fun b o e => k b o (Nat.ne_of_lt (Heap.lt_size e)) (Nat.ne_of_lt (Nat.lt_trans (Heap.lt_size e) hS1)) (k2 _ _ (hk1 _ _ (k0 _ _ e)))⟩)
  first
    | exact wpAny_pure ⟨plainId_quiet ud_plain _, key⟩
    | exact wpAny_bind (wpAny_pure (wpAny_pure ⟨plainId_quiet ud_plain _, key⟩))
end
/-- a tuple whose object is known: it bears no dict of its own -/
def Tup0 (H : Hp) (a : Addr) (xs : List V) : Prop := ∃ o : Obj, H a = some (.frz o (.tup xs)) ∧ o.dict = none
theorem Tup0.sq {K : PySem.W.Frag} {H : Hp} {a : Addr} {xs : List V} (h : Tup0 H a xs) : SqT K H a xs := by
  obtain ⟨o, e, _⟩ := h
  exact .inl (.inr ⟨o, e⟩)
section
variable {X : Cx}
/-- dict(t), t a tuple of pairs -/
theorem call_dictT (calm : X.calm = true) : CallR X (.type "dict") (fun xs H Q => ∃ (a : Addr) (ps : List Addr) (kvs : List (L2.Key × V)), xs = [.ref a] ∧ Tup0 H a (ps.map V.ref) ∧ Paired (fun p kv => SqT X.K H p [kV kv.1, kv.2]) ps kvs ∧
    ∀ p, H p = none → Q (.ref p) (upd H p (.dK (mergeK [] kvs)))) := by
  intro pins s σ H xs us Q I r q
  obtain ⟨a, ps, kvs, rfl, ⟨o, e, hd⟩, hp, q⟩ := q
  rw [Vals.ref1 r]
  obtain ⟨ho, hz, its, rv, ⟨o', ho', hc, n, hdat⟩⟩ := (show ObjOk X.prog X.w H s.heap a (.frz o (.tup (ps.map V.ref))) from I.hok a _ e)
  rw [ho] at ho'
  cases ho'
  have ei := refs_at rv
  subst ei
  rw [List.length_map] at hz
  obtain ⟨prs, rel, hl, hpr⟩ := pairs_of I hp
  refine new_dict (prs := prs) (I.ok.hd calm) ho hc hd hdat (by simp [hl]) (by rw [hl]; exact hz) (fun j q' e => ?_) fun h' tk hd' k => ?_
  · obtain ⟨b, u, e1, e2, e3⟩ := hpr j q' e
    exact ⟨b, u, by simp [e1], e2, e3⟩
  · have hm : (s.heap.objs.size == sysModules) = false := beq_eq_false_iff_ne.mpr (Nat.ne_of_gt I.big)
    have short : (mergeK [] kvs).length ≤ sizeLine := by
      refine Nat.le_trans (length_mergeK kvs []) ?_
      rw [List.length_nil, Nat.zero_add, rel.length, hl]
      exact hz
    exact ⟨.ref s.heap.objs.size, upd H s.heap.objs.size (.dK (mergeK [] kvs)), I.laid (t' := tk) k (Nat.le_refl _) (show ObjOk X.prog X.w _ _ _ (.dK (mergeK [] kvs)) from ⟨short, hm, merged [] prs, KV.merge rel .nil, hd'⟩), rfl, q _ (I.hok.fresh (Nat.le_refl _))⟩
/-- (a, b, ..), its object known -/
def tTup0 (t : TA) : TE := fun σ H Q => t σ H fun xs G => xs.length ≤ sizeLine ∧ ∀ p o, G p = none → o.dict = none → Q (.ref p) (upd G p (.frz o (.tup xs)))
theorem pe_tup0 {es : List Expr} {t : TA} {x1 : Nat} {pos : Pos} (h : PA X es t) : PE X (.Tuple es x1 pos) (tTup0 t) := by
  refine ⟨fun pins s σ H Q I hq => ?_⟩
  refine wpAny_Tuple_spliced (thn (h.run pos pins s σ H _ I hq) fun us s1 ⟨xs, H1, I1, r, z, q⟩ => ⟨by rw [← r.length]; exact z, ?_⟩)
  refine ⟨.ref s1.heap.objs.size, _, I1.laid (t' := s1.toks) (o := .frz { cls := .type "tuple", data := .seq us.toArray } (.tup xs)) (fun b u e => Heap.get?_push_of_some _ e) (Nat.le_refl _) ?_, rfl, q _ _ (I1.hok.fresh (Nat.le_refl _)) rfl⟩
  exact ⟨Heap.get?_push_size _ rfl, z, us, r, ⟨_, Heap.get?_push_size _ rfl, rfl, _, rfl⟩⟩
/-- tuple(xs) of a list, its object known -/
theorem call_tuple0 : CallR X (.type "tuple") (fun xs H Q => ∃ p ys, xs = [.ref p] ∧ SqL X.K H p ys ∧ ∀ q o, H q = none → o.dict = none → Q (.ref q) (upd H q (.frz o (.tup ys)))) := by
  intro pins s σ H xs us Q I r h
  obtain ⟨p, ys, rfl, hq, q⟩ := h
  rw [Vals.ref1 r]
  obtain ⟨its, r', pl, hz⟩ := I.list hq
  have len := r'.length
  refine call_tuple_list pl.isList (fun h' kp => ?_) (by simp only [List.size_toArray] <;> omega)
  have I1 : Inv X pins σ H { s with heap := h' } := I.kept (t' := s.toks) kp
  refine ⟨.ref h'.objs.size, _, I1.laid (t' := s.toks) (o := .frz { cls := .type "tuple", data := .seq its.toArray } (.tup ys)) (fun b o e => Heap.get?_push_of_some _ e) (Nat.le_refl _) ?_, rfl, q _ _ (I1.hok.fresh (Nat.le_refl _)) rfl⟩
  exact ⟨Heap.get?_push_size _ rfl, hz, its, r', IsTup.new _ _⟩
end
end Dt

/-! Substitutions. -/
namespace Ad
open PySem PySem.Spec PySem.Calls PyProof.Rows L2
abbrev Sb := List (Int × T)
namespace Sb
def look : Sb → Int → Option T
  | [], _ => none
  | (j, t) :: r, i => if j = i then some t else look r i
def put (tb : Sb) (i : Int) (t : T) : Sb := if (look tb i).isSome = true then tb.map (fun e => if e.1 = i then (e.1, t) else e) else tb ++ [(i, t)]
/-- what a variable becomes -/
def asg (tb : Sb) (i : Int) : T := (look tb i).getD (.v i)
theorem look_app (tb : Sb) (i : Int) (t : T) (j : Int) : look (tb ++ [(i, t)]) j = match look tb j with
    | some u => some u
    | none => if i = j then some t else none := by
  induction tb with
  | nil => rfl
  | cons e r ih =>
    obtain ⟨k, u⟩ := e
    show (if k = j then some u else look (r ++ [(i, t)]) j) = match (if k = j then some u else look r j) with | some u => some u | none => _
    by_cases h : k = j
    · rw [if_pos h, if_pos h]
    · rw [if_neg h, if_neg h, ih]
theorem look_map (tb : Sb) (i : Int) (t : T) (j : Int) : look (tb.map (fun e => if e.1 = i then (e.1, t) else e)) j = if i = j ∧ (look tb j).isSome = true then some t else look tb j := by
  induction tb with
  | nil =>
    rw [if_neg (by intro h; cases h.2)]
    rfl
  | cons e r ih =>
    obtain ⟨k, u⟩ := e
    show look ((if k = i then (k, t) else (k, u)) :: _) j = _
    by_cases h : k = i
    · rw [if_pos h]
      show (if k = j then some t else look (r.map _) j) = if i = j ∧ (if k = j then some u else look r j).isSome = true then some t else (if k = j then some u else look r j)
      by_cases hj : k = j
      · rw [if_pos hj, if_pos hj, if_pos ⟨h.symm.trans hj, rfl⟩]
      · have ne : ¬ i = j := fun z => hj (h.trans z)
        rw [if_neg hj, if_neg hj, ih]
    · rw [if_neg h]
      show (if k = j then some u else look (r.map _) j) = if i = j ∧ (if k = j then some u else look r j).isSome = true then some t else (if k = j then some u else look r j)
      by_cases hj : k = j
      · rw [if_pos hj, if_pos hj, if_neg (fun z => h (hj.trans z.1.symm))]
      · rw [if_neg hj, if_neg hj, ih]
theorem look_put (tb : Sb) (i : Int) (t : T) (j : Int) : look (put tb i t) j = if i = j then some t else look tb j := by
  unfold put
  by_cases h : (look tb i).isSome = true
  · rw [if_pos h, look_map]
    by_cases e : i = j
    · subst e
      rw [if_pos ⟨rfl, h⟩, if_pos rfl]
    · rw [if_neg (fun z => e z.1), if_neg e]
  · rw [if_neg h, look_app]
    by_cases e : i = j
    · subst e
      rw [if_pos rfl]
      cases z : look tb i with
      | none =>
        show some t = if i = i then some t else none
        exact (if_pos rfl).symm
      | some u =>
        rw [z] at h
        exact absurd rfl h
    · rw [if_neg e, if_neg e]
      cases look tb j <;> rfl
theorem look_key (tb : Sb) (i : Int) : (look tb i).isSome = true ↔ i ∈ tb.map (·.1) := by
  induction tb with
  | nil => exact ⟨(fun h => nomatch h), (fun h => nomatch h)⟩
  | cons e r ih =>
    obtain ⟨k, u⟩ := e
    show (if k = i then some u else look r i).isSome = true ↔ i ∈ k :: r.map (·.1)
    by_cases h : k = i
    · rw [if_pos h]
      exact ⟨fun _ => h ▸ List.mem_cons_self, fun _ => rfl⟩
    · rw [if_neg h, ih, List.mem_cons]
      exact ⟨.inr, fun z => z.elim (fun y => absurd y.symm h) id⟩
theorem keys_put (tb : Sb) (i : Int) (t : T) : (put tb i t).map (·.1) = if i ∈ tb.map (·.1) then tb.map (·.1) else tb.map (·.1) ++ [i] := by
  unfold put
  by_cases h : (look tb i).isSome = true
  · rw [if_pos h, if_pos ((look_key tb i).1 h), List.map_map]
    refine List.map_congr_left fun e _ => ?_
    show (if e.1 = i then (e.1, t) else e).1 = e.1
    split <;> rfl
  · rw [if_neg h, if_neg (fun z => h ((look_key tb i).2 z)), List.map_append]
    rfl
theorem nodup_put {tb : Sb} (h : (tb.map (·.1)).Nodup) (i : Int) (t : T) : ((put tb i t).map (·.1)).Nodup := by
  rw [keys_put]
  split
  · exact h
  · rename_i z
    rw [List.nodup_append]
    exact ⟨h, List.nodup_cons.mpr ⟨(fun y => nomatch y), List.nodup_nil⟩, fun a ha b hb e => z (by rw [List.mem_singleton.mp hb] at e; exact e ▸ ha)⟩
theorem len_put (tb : Sb) (i : Int) (t : T) : (put tb i t).length ≤ tb.length + 1 := by
  unfold put
  split
  · rw [List.length_map]
    exact Nat.le_succ _
  · rw [List.length_append]
    exact Nat.le_refl _
theorem mem_look {tb : Sb} (h : (tb.map (·.1)).Nodup) {i : Int} {t : T} : (i, t) ∈ tb ↔ look tb i = some t := by
  induction tb with
  | nil => exact ⟨(fun h => nomatch h), (fun h => nomatch h)⟩
  | cons e r ih =>
    obtain ⟨k, u⟩ := e
    obtain ⟨h1, h2⟩ := List.nodup_cons.mp h
    show _ ↔ (if k = i then some u else look r i) = some t
    by_cases z : k = i
    · rw [if_pos z, List.mem_cons]
      subst z
      constructor
      · rintro (y | y)
        · cases y
          rfl
        · exact absurd (List.mem_map.mpr ⟨_, y, rfl⟩) h1
      · intro y
        cases y
        exact .inl rfl
    · rw [if_neg z, List.mem_cons, ← ih h2]
      exact ⟨fun y => y.elim (fun x => absurd (congrArg Prod.fst x).symm z) id, .inr⟩
theorem look_mem {tb : Sb} {i : Int} {t : T} (h : look tb i = some t) : (i, t) ∈ tb := by
  induction tb with
  | nil => cases h
  | cons e r ih =>
    obtain ⟨k, u⟩ := e
    have h' : (if k = i then some u else look r i) = some t := h
    by_cases z : k = i
    · rw [if_pos z] at h'
      cases h'
      subst z
      exact List.mem_cons_self
    · rw [if_neg z] at h'
      exact List.mem_cons_of_mem _ (ih h')
end Sb
namespace T
mutual
def fill (s : Int → T) : T → T
  | .v i => s i
  | .f x ts => .f x (fillL s ts)
def fillL (s : Int → T) : List T → List T
  | [] => []
  | t :: ts => fill s t :: fillL s ts
end
theorem fillL_map (s : Int → T) : ∀ ts : List T, fillL s ts = ts.map (fill s)
  | [] => rfl
  | t :: ts => congrArg (fill s t :: ·) (fillL_map s ts)
mutual
theorem fill_fill (s r : Int → T) : ∀ t : T, fill r (fill s t) = fill (fun i => fill r (s i)) t
  | .v i => rfl
  | .f x ts => congrArg (T.f x) (fillL_fill s r ts)
theorem fillL_fill (s r : Int → T) : ∀ ts : List T, fillL r (fillL s ts) = fillL (fun i => fill r (s i)) ts
  | [] => rfl
  | t :: ts => by
    show fill r (fill s t) :: fillL r (fillL s ts) = _
    rw [fill_fill s r t, fillL_fill s r ts]
    rfl
end
mutual
theorem fill_congr {s r : Int → T} : ∀ t : T, (∀ j ∈ t.vars, s j = r j) → fill s t = fill r t
  | .v i, h => h i List.mem_cons_self
  | .f x ts, h => congrArg (T.f x) (fillL_congr ts h)
theorem fillL_congr {s r : Int → T} : ∀ ts : List T, (∀ j ∈ varsL ts, s j = r j) → fillL s ts = fillL r ts
  | [], _ => rfl
  | t :: ts, h => by
    show fill s t :: fillL s ts = _
    rw [fill_congr t fun j hj => h j (List.mem_append_left _ hj), fillL_congr ts fun j hj => h j (List.mem_append_right _ hj)]
    rfl
end
mutual
theorem fill_size {s : Int → T} {M : Nat} (one : 1 ≤ M) : ∀ t : T, (∀ j ∈ t.vars, (s j).size ≤ M) → (fill s t).size ≤ t.size * M
  | .v i, h => by
    have := h i List.mem_cons_self
    show (s i).size ≤ 1 * M
    omega
  | .f x ts, h => by
    have := fillL_size one ts h
    show 1 + sizeL (fillL s ts) ≤ (1 + sizeL ts) * M
    rw [Nat.add_mul]
    omega
theorem fillL_size {s : Int → T} {M : Nat} (one : 1 ≤ M) : ∀ ts : List T, (∀ j ∈ varsL ts, (s j).size ≤ M) → sizeL (fillL s ts) ≤ sizeL ts * M
  | [], _ => Nat.zero_le _
  | t :: ts, h => by
    have h1 := fill_size one t fun j hj => h j (List.mem_append_left _ hj)
    have h2 := fillL_size one ts fun j hj => h j (List.mem_append_right _ hj)
    show size (fill s t) + sizeL (fillL s ts) ≤ (size t + sizeL ts) * M
    rw [Nat.add_mul]
    omega
end
mutual
theorem fill_dep {s : Int → T} {D : Nat} : ∀ t : T, (∀ j ∈ t.vars, (s j).dep ≤ D) → (fill s t).dep ≤ t.dep + D
  | .v i, h => by
    have := h i List.mem_cons_self
    show (s i).dep ≤ 0 + D
    omega
  | .f x ts, h => by
    have := fillL_dep ts h
    show 1 + depL (fillL s ts) ≤ 1 + depL ts + D
    omega
theorem fillL_dep {s : Int → T} {D : Nat} : ∀ ts : List T, (∀ j ∈ varsL ts, (s j).dep ≤ D) → depL (fillL s ts) ≤ depL ts + D
  | [], _ => Nat.zero_le _
  | t :: ts, h => by
    have h1 := fill_dep t fun j hj => h j (List.mem_append_left _ hj)
    have h2 := fillL_dep ts fun j hj => h j (List.mem_append_right _ hj)
    show max (dep (fill s t)) (depL (fillL s ts)) ≤ max (dep t) (depL ts) + D
    omega
end
mutual
theorem fill_named {s : Int → T} : ∀ t : T, t.named = true → (∀ j ∈ t.vars, (s j).named = true) → (fill s t).named = true
  | .v i, _, h => h i List.mem_cons_self
  | .f x ts, n, h => by
    have n' : (nameOk x && namedL ts) = true := n
    rw [Bool.and_eq_true] at n'
    show (nameOk x && namedL (fillL s ts)) = true
    rw [n'.1, fillL_named ts n'.2 h]
    rfl
theorem fillL_named {s : Int → T} : ∀ ts : List T, namedL ts = true → (∀ j ∈ varsL ts, (s j).named = true) → namedL (fillL s ts) = true
  | [], _, _ => rfl
  | t :: ts, n, h => by
    have n' : (named t && namedL ts) = true := n
    rw [Bool.and_eq_true] at n'
    show (named (fill s t) && namedL (fillL s ts)) = true
    rw [fill_named t n'.1 fun j hj => h j (List.mem_append_left _ hj), fillL_named ts n'.2 fun j hj => h j (List.mem_append_right _ hj)]
    rfl
end
def isVar (i : Int) : T → Bool
  | .v j => decide (j = i)
  | .f _ _ => false
theorem isVar_iff {i : Int} {t : T} : isVar i t = true ↔ t = .v i := by
  cases t with
  | v j =>
    show decide (j = i) = true ↔ _
    rw [decide_eq_true_eq]
    exact ⟨fun e => congrArg T.v e, fun e => T.v.inj e⟩
  | f x ts => exact ⟨(fun h => nomatch h), (fun h => nomatch h)⟩
theorem eqv_var (t : T) (i : Int) : PyData.eqv t.d (.int i) = isVar i t := by
  cases t with
  | v j =>
    show PyData.eqv (.int j) (.int i) = decide (j = i)
    rw [PyData.eqv]
    first
      | rfl
      | (cases z : decide (j = i) <;> simp_all)
  | f x ts =>
    show PyData.eqv (.tuple _) (.int i) = false
    rw [PyData.eqv]
    all_goals (intros; first | contradiction | (intro z; cases z))
end T
namespace Sb
/-- the form of a substitution: rising, nothing that stays -/
structure Norm (tb su : Sb) : Prop where
  rising : (su.map (·.1)).Pairwise (· < ·)
  has : ∀ i t, (i, t) ∈ su ↔ look tb i = some t ∧ t.isVar i = false
theorem rising_nodup {l : List Int} (h : l.Pairwise (· < ·)) : l.Nodup := h.imp fun z e => by
  rw [e] at z
  exact Int.lt_irrefl _ z
theorem Norm.one {tb tb' su su' : Sb} (a : Norm tb su) (b : Norm tb' su') (same : ∀ i, look tb i = look tb' i) : su = su' := by
  have keys : su.map (·.1) = su'.map (·.1) := by
    refine rising_one' a.rising b.rising fun j => ?_
    constructor
    · intro h
      obtain ⟨⟨i, t⟩, h1, rfl⟩ := List.mem_map.mp h
      have h2 := (a.has i t).1 h1
      rw [same] at h2
      exact List.mem_map.mpr ⟨_, (b.has i t).2 h2, rfl⟩
    · intro h
      obtain ⟨⟨i, t⟩, h1, rfl⟩ := List.mem_map.mp h
      have h2 := (b.has i t).1 h1
      rw [← same] at h2
      exact List.mem_map.mpr ⟨_, (a.has i t).2 h2, rfl⟩
  have at' : ∀ {tb su : Sb}, Norm tb su → su.map some = su.map fun e => (look tb e.1).map fun t => (e.1, t) := by
    intro tb su n
    refine List.map_congr_left fun e he => ?_
    obtain ⟨i, t⟩ := e
    rw [((n.has i t).1 he).1]
    rfl
  have e1 : su.map some = (su.map (·.1)).map fun i => (look tb i).map fun t => (i, t) := by
    rw [at' a, List.map_map]
    rfl
  have e2 : su'.map some = (su'.map (·.1)).map fun i => (look tb' i).map fun t => (i, t) := by
    rw [at' b, List.map_map]
    rfl
  have e3 : su.map some = su'.map some := by
    rw [e1, e2, keys]
    exact List.map_congr_left fun i _ => by rw [same]
  exact List.map_inj_right (fun x y h => Option.some.inj h) |>.1 e3
where
  rising_one' : ∀ {as bs : List Int}, as.Pairwise (· < ·) → bs.Pairwise (· < ·) → (∀ j, j ∈ as ↔ j ∈ bs) → as = bs
    | [], [], _, _, _ => rfl
    | [], b :: bs, _, _, h => nomatch (h b).2 List.mem_cons_self
    | a :: as, [], _, _, h => nomatch (h a).1 List.mem_cons_self
    | a :: as, b :: bs, pa, pb, h => by
      obtain ⟨a1, a2⟩ := List.pairwise_cons.mp pa
      obtain ⟨b1, b2⟩ := List.pairwise_cons.mp pb
      have e : a = b := by
        rcases List.mem_cons.mp ((h a).1 List.mem_cons_self) with z | z
        · exact z
        · rcases List.mem_cons.mp ((h b).2 List.mem_cons_self) with y | y
          · exact y.symm
          · have h1 := b1 a z
            have h2 := a1 b y
            omega
      subst e
      congr 1
      refine rising_one' a2 b2 fun j => ⟨fun m => ?_, fun m => ?_⟩
      · rcases List.mem_cons.mp ((h j).1 (List.mem_cons_of_mem _ m)) with z | z
        · have := a1 j m
          omega
        · exact z
      · rcases List.mem_cons.mp ((h j).2 (List.mem_cons_of_mem _ m)) with z | z
        · have := b1 j m
          omega
        · exact z
/-- a substitution in its form does what the table does -/
theorem Norm.asg {tb su : Sb} (n : Norm tb su) (i : Int) : asg su i = asg tb i := by
  have nd := rising_nodup n.rising
  unfold Sb.asg
  cases h : look su i with
  | some t =>
    have m := (mem_look nd).2 h
    rw [((n.has i t).1 m).1]
  | none =>
    cases h2 : look tb i with
    | none => rfl
    | some t =>
      cases h3 : t.isVar i with
      | true => exact (T.isVar_iff.1 h3).symm
      | false =>
        have m := (mem_look nd).1 ((n.has i t).2 ⟨h2, h3⟩)
        rw [h] at m
        cases m
end Sb
/-! ### in the heap -/
/-- a table's entries -/
def TV (K : PySem.W.Frag) (H : Hp) (tb : Sb) (kvs : List (L2.Key × V)) : Prop := F2 (fun e kv => kv.1 = .inl e.1 ∧ Tm K H e.2 kv.2) tb kvs
section
variable {K : PySem.W.Frag} {H H' : Hp}
theorem TV.mono (k : TK H H') {tb : Sb} {kvs : List (L2.Key × V)} (h : TV K H tb kvs) : TV K H' tb kvs := F2.mono (fun _ _ z => ⟨z.1, Tm.mono k _ _ z.2⟩) h
theorem TV.val : ∀ {tb : Sb} {kvs : List (L2.Key × V)}, TV K H tb kvs → ∀ i, (tb.look i = none ∧ valV kvs (.inl i) = none) ∨ ∃ t v, tb.look i = some t ∧ valV kvs (.inl i) = some v ∧ Tm K H t v
  | [], kvs, h, i => by
    cases (show kvs = [] from h)
    exact .inl ⟨rfl, rfl⟩
  | (j, t) :: tb, kvs, h, i => by
    obtain ⟨kv, r, rfl, ⟨e, tm⟩, rest⟩ := h
    by_cases z : j = i
    · subst z
      exact .inr ⟨t, kv.2, if_pos rfl, valV_pos e, tm⟩
    · have ne : ¬ kv.1 = .inl i := fun y => z (by rw [e] at y; exact Sum.inl.inj y)
      rw [valV_neg ne]
      have e2 : Sb.look ((j, t) :: tb) i = Sb.look tb i := if_neg z
      rw [e2]
      exact TV.val (tb := tb) rest i
theorem TV.put {tb : Sb} {kvs : List (L2.Key × V)} (h : TV K H tb kvs) (i : Int) {t : T} {v : V} (tv : Tm K H t v) : TV K H (tb.put i t) (putK kvs (.inl i) v) := by
  unfold Sb.put putK
  have e : ((kvs.any fun kv => decide (kv.1 = .inl i)) = true) = ((tb.look i).isSome = true) := by
    rw [valV_any]
    rcases h.val i with ⟨a, b⟩ | ⟨t', v', a, b, _⟩
    · rw [a, b]
      rfl
    · rw [a, b]
      rfl
  simp only [e]
  split
  · clear e
    rename_i z
    clear z
    induction tb generalizing kvs with
    | nil =>
      cases (show kvs = [] from h)
      exact rfl
    | cons x tb ih =>
      obtain ⟨kv, r, rfl, ⟨e, tm⟩, rest⟩ := h
      refine ⟨_, _, rfl, ?_, ih rest⟩
      show (if kv.1 = .inl i then (kv.1, v) else kv).1 = .inl (if x.1 = i then (x.1, t) else x).1 ∧ Tm K H (if x.1 = i then (x.1, t) else x).2 (if kv.1 = .inl i then (kv.1, v) else kv).2
      by_cases y : x.1 = i
      · rw [if_pos y, if_pos (by rw [e, y])]
        exact ⟨e, tv⟩
      · rw [if_neg y, if_neg (fun z => y (by rw [e] at z; exact Sum.inl.inj z))]
        exact ⟨e, tm⟩
  · exact F2.app h (F2.one ⟨rfl, tv⟩)
theorem TV.keys : ∀ {tb : Sb} {kvs : List (L2.Key × V)}, TV K H tb kvs → kvs.map (·.1) = (tb.map (·.1)).map Sum.inl
  | [], kvs, h => by
    cases (show kvs = [] from h)
    rfl
  | e :: tb, kvs, h => by
    obtain ⟨kv, r, rfl, ⟨z, _⟩, rest⟩ := h
    show kv.1 :: r.map (·.1) = .inl e.1 :: _
    rw [z, TV.keys (tb := tb) rest]
theorem valV_out {kvs : List (L2.Key × V)} {k : L2.Key} (h : k ∉ kvs.map (·.1)) : valV kvs k = none := by
  induction kvs with
  | nil => rfl
  | cons p r ih =>
    rw [valV_neg (fun z => h (by rw [← z]; exact List.mem_cons_self))]
    exact ih fun z => h (List.mem_cons_of_mem _ z)
/-- pairs of unlike keys: all of them -/
theorem merge_all : ∀ (more kvs : List (L2.Key × V)), ((kvs ++ more).map (·.1)).Nodup → mergeK kvs more = kvs ++ more
  | [], kvs, _ => (List.append_nil _).symm
  | p :: more, kvs, h => by
    show mergeK (putK kvs p.1 p.2) more = _
    have out : p.1 ∉ kvs.map (·.1) := by
      intro z
      rw [List.map_append, List.nodup_append] at h
      exact h.2.2 p.1 z p.1 (by rw [List.map_cons]; exact List.mem_cons_self) rfl
    rw [putK_new _ (valV_out out)]
    have e : kvs ++ [(p.1, p.2)] ++ more = kvs ++ p :: more := by rw [List.append_assoc]; rfl
    rw [merge_all more _ (by rw [e]; exact h), e]
/-- a pair of a substitution -/
def SP (K : PySem.W.Frag) (H : Hp) (e : Int × T) (b : Addr) : Prop := ∃ v, SqT K H b [.int e.1, v] ∧ Tm K H e.2 v
/-- a substitution's value -/
def Su (K : PySem.W.Frag) (H : Hp) (su : Sb) (x : V) : Prop := ∃ (a : Addr) (bs : List Addr), x = .ref a ∧ Dt.Tup0 H a (bs.map V.ref) ∧ F2 (SP K H) su bs
theorem SP.mono (k : TK H H') (e : Int × T) (b : Addr) (h : SP K H e b) : SP K H' e b := by
  obtain ⟨v, s, t⟩ := h
  exact ⟨v, k.sq s, Tm.mono k _ _ t⟩
theorem tup0_mono (k : TK H H') {a : Addr} {xs : List V} (h : Dt.Tup0 H a xs) : Dt.Tup0 H' a xs := by
  obtain ⟨o, e, d⟩ := h
  exact ⟨o, (k a xs).2 o e, d⟩
theorem Su.mono (k : TK H H') {su : Sb} {x : V} (h : Su K H su x) : Su K H' su x := by
  obtain ⟨a, bs, e, t, f⟩ := h
  exact ⟨a, bs, e, tup0_mono k t, F2.mono (SP.mono k) f⟩
/-- its pairs as entries -/
theorem sp_pairs : ∀ {su : Sb} {bs : List Addr}, F2 (SP K H) su bs → ∃ kvs, Paired (fun p kv => SqT K H p [kV kv.1, kv.2]) bs kvs ∧ TV K H su kvs
  | [], bs, h => by
    cases (show bs = [] from h)
    exact ⟨[], .nil, rfl⟩
  | e :: su, bs, h => by
    obtain ⟨b, r, rfl, ⟨v, s, t⟩, rest⟩ := h
    obtain ⟨kvs, p, q⟩ := sp_pairs (su := su) rest
    exact ⟨(.inl e.1, v) :: kvs, .cons s p, _, _, rfl, ⟨rfl, t⟩, q⟩
end
end Ad

namespace Ad
open PySem PySem.Spec PySem.Calls PyProof.Rows L2
def spFilled (K : PySem.W.Frag) (n : Nat) : Sp := fun vs H Q _ => ∃ (t : T) (x : V) (d : Addr) (tb : Sb) (kvs : List (L2.Key × V)), vs = [x, .ref d] ∧ Tm K H t x ∧ H d = some (.dK kvs) ∧ TV K H tb kvs ∧ t.dep < n ∧ t.size ≤ 10000 ∧
  ∀ v H', Same H H' → Tm K H' (T.fill tb.asg t) v → Q v H'
def spPutIn (K : PySem.W.Frag) (n : Nat) : Sp := fun vs H Q _ => ∃ (t : T) (su : Sb) (x y : V), vs = [x, y] ∧ Tm K H t x ∧ Su K H su y ∧ (su.map (·.1)).Nodup ∧ t.dep < n ∧ t.size ≤ 10000 ∧ ∀ v H', Same H H' → Tm K H' (T.fill su.asg t) v → Q v H'
end Ad

/-! The run of a generator expression: its context, its start. -/
namespace Gx
open PySem PySem.Spec PySem.Calls PyProof.Rows L2
/-- the context of the run: its frame behind those that stood at s, its iterator's objects at fp -/
abbrev ctx (X : Cx) (s : Shared) (H : Hp) (e : Env) (fp : List Addr) (A : Around) (pn : List (Addr × Obj)) : Cx :=
  { X with A := A.deeper e, s_0 := s, H_0 := H, env := e, outer := X.stack, stack := e :: X.stack, ex := fp, fn := fun _ => false, calm := true, pn := pn, xe := fun _ _ => False }
theorem over_gen {A : Around} {e : Env} {elt tg iter : Expr} {ifs : List Expr} {scope : Scope} {pos : Pos} {it acc : Value} : A.over (.compLoop (.GeneratorExp elt [⟨tg, iter, ifs, 0⟩] scope pos) 0 it acc e) [] = A.deeper e := by
  first
    | rfl
    | (obtain ⟨hd, d, fr, gs, u⟩ := A; simp [Around.over, Around.deeper, marksOver, frameCount, unitsOf, envsOf, guardsOf, pushEnvs, pushGuards, Code.envs, Code.env?, Code.isFrame, Code.guards, Code.isGuard, Code.weight, Code.frames, Code.isCreation, Code.isCaller, Code.cUnits])
theorem over_start {A : Around} {e : Env} {elt tg iter : Expr} {ifs : List Expr} {scope : Scope} {pos : Pos} {it acc : Value} : A.over (.compStart (.GeneratorExp elt [⟨tg, iter, ifs, 0⟩] scope pos) 0 it acc e) [] = A.deeper e := by
  first
    | rfl
    | (obtain ⟨hd, d, fr, gs, u⟩ := A; simp [Around.over, Around.deeper, marksOver, frameCount, unitsOf, envsOf, guardsOf, pushEnvs, pushGuards, Code.envs, Code.env?, Code.isFrame, Code.guards, Code.isGuard, Code.weight, Code.frames, Code.isCreation, Code.isCaller, Code.cUnits])
section
variable {X : Cx} {pins : List (Addr × Obj)} {σ : L2.St} {H : Hp} {s : Shared}
theorem start {scope : Scope} {own : List (PySem.Str × Nat)} {fp : List Addr} {e : Env} {A : Around} {pn pins' : List (Addr × Obj)} {s' : Shared} {m : Str → Option Value} (I : Inv X pins σ H s) (ok : BlkOk X.N X.env.scope scope own) (nodup : X.N.Nodup) (noCell : ∀ y ∈ scope.names, y.2 ≠ .cell)
    (sc : e.scope = scope) (loc : e.locals = s.heap.objs.size) (glob : e.globals = mainGlobals) (blt : e.builtins = builtinsNs) (cells : e.cells = cloFrom X.env.cells scope.names []) (fr : e.frame = some e.locals)
    (ff : ∀ b ∈ fp, FpOk X pins H b ∧ b < s.heap.objs.size) (calm : A.handled = none) (frames : A.frames = some X.stack)
    (kp : ∀ b o, s.heap.get? b = some o → s'.heap.get? b = some o) (os : s'.os = s.os) (bare : AllBare s'.gens) (ns : s'.heap.Ns e.locals m)
    (pinned : ∀ p ∈ pn ++ pins', s'.heap.get? p.1 = some p.2 ∧ s.heap.objs.size < p.1 ∧ ∀ v, p.2.data ≠ .cell v) :
    Inv (ctx X s H e fp A pn) pins' (wipe σ (own.map (·.2))) H s' := by
  have from' : ∀ {y c}, e.cells.lookup y = some c → X.env.cells.lookup y = some c ∧ c < s.heap.objs.size := by
    intro y c h
    rw [cells] at h
    rcases cloFrom_mem (PySem.mem_of_lookup h) with z | ⟨h1, rfl⟩
    · cases z
    · obtain ⟨c, hc⟩ : ∃ c, X.env.cells.lookup y = some c := by
        rcases ok.free _ h1 rfl with k | k
        · exact I.ok.has _ (.inl k)
        · exact I.ok.has _ (.inr k)
      rw [hc]
      obtain ⟨w, z⟩ := I.cell _ _ hc
      exact ⟨rfl, z.lt⟩
  have to' : ∀ {y}, scope.names.lookup y = some .free → ∃ c, e.cells.lookup y = some c ∧ X.env.cells.lookup y = some c := by
    intro y h
    obtain ⟨c, hc⟩ := mem_lookup (cloFrom_has (cells := X.env.cells) (acc := []) (PySem.mem_of_lookup h))
    rw [← cells] at hc
    exact ⟨c, hc, (from' hc).1⟩
  refine ⟨?_, os, bare, Un.kept kp, ⟨m, ns, ?_⟩, ?_, ?_, ?_, ?_, I.hok.kept kp, ?_⟩
  · refine ⟨I.ok.mod, ?_, glob, blt, ?_, ?_, ?_, (fun x c z => nomatch z), fun _ => calm, Around.frames_deeper frames, .inr ⟨rfl, fr⟩, ?_, I.bs, Nat.le_trans I.ok.bsz I.sz, ?_, ?_, I.stack, I.stkFree⟩
    · show e.scope.kind = _
      rw [sc]
      exact ok.kind
    · show s.heap.objs.size ≤ e.locals
      rw [loc]
      exact Nat.le_refl _
    · intro x y c h1 h2
      exact I.ok.inj x y c (from' h1).1 (from' h2).1
    · intro x hx
      show ∃ c, e.cells.lookup x = some c
      have key : ∀ k, e.kindOf x = some k → (k = .cell ∨ k = .free) → ∃ c, e.cells.lookup x = some c := by
        intro k hk hk'
        unfold Env.kindOf at hk
        rw [sc] at hk
        rcases hk' with rfl | rfl
        · exact absurd rfl (noCell _ (PySem.mem_of_lookup hk))
        · obtain ⟨c, h, _⟩ := to' hk
          exact ⟨c, h⟩
      rcases hx with hx | hx
      · exact key _ hx (.inl rfl)
      · exact key _ hx (.inr rfl)
    · intro b hb
      refine ⟨?_, fun y c h z => ?_⟩
      · show b ≠ e.locals
        rw [loc]
        exact Nat.ne_of_lt (ff b hb).2
      · exact (ff b hb).1.2.2.2.2.1 y c (from' h).1 z
    · intro b o h hb
      rcases (ff b hb).1.2.2.2.1 with z | z
      · exact I.ok.noex b o h z
      · exact absurd (Nat.lt_of_lt_of_le (Heap.lt_size h) (Nat.le_trans I.ok.bsz z)) (Nat.lt_irrefl _)
    · intro b hb z
      rcases List.mem_cons.mp (I.stkSub b z) with z | z
      · exact (ff b hb).1.2.1 z
      · exact (ff b hb).1.2.2.1 z
  · intro i x v h1 h2 h3
    obtain ⟨h2, off⟩ := wipe_some h2
    have isFree : scope.names.lookup x = some .free := by
      have h3 : Vis e.scope x := h3
      rw [sc] at h3
      have no : ∀ k, scope.names.lookup x = some k → k = .local → False := by
        intro k hk hl
        rcases ok.own _ (PySem.mem_of_lookup hk) (.inl hl) with z | z
        · obtain ⟨p, hp, hpx⟩ := List.mem_map.mp z
          have h4 := ok.ix p hp
          have h5 : p.1 = x := hpx
          rw [h5] at h4
          exact off (List.mem_map.mpr ⟨p, hp, nodup_ix nodup h4 h1⟩)
        · exact z (List.mem_of_getElem? h1)
      rcases h3 with k | k | k
      · exact (no _ k rfl).elim
      · exact absurd rfl (noCell _ (PySem.mem_of_lookup k))
      · exact k
    obtain ⟨m0, _, look⟩ := I.loc
    have vis : Vis X.env.scope x := (ok.free _ (PySem.mem_of_lookup isFree) rfl).elim (fun k => .inr (.inl k)) fun k => .inr (.inr k)
    obtain ⟨u, r, q⟩ := look i x v h1 h2 vis
    obtain ⟨c, c1, c2⟩ := to' isFree
    refine ⟨u, r, .inr ⟨.inr ?_, c, c1, ?_⟩⟩
    · show e.scope.names.lookup x = some .free
      rw [sc]
      exact isFree
    · rcases q with ⟨k, _⟩ | ⟨_, c', e', z⟩
      · have k : X.env.scope.names.lookup x = some .local := k
        rcases ok.free _ (PySem.mem_of_lookup isFree) rfl with k' | k' <;> rw [show X.env.scope.names.lookup x = _ from k'] at k <;> cases k
      · rw [c2] at e'
        cases e'
        exact z.keeps kp
  · intro x c h
    obtain ⟨v, z⟩ := I.cell x c (from' h).1
    exact ⟨v, z.keeps kp⟩
  · show H e.locals = none
    rw [loc]
    exact I.hok.fresh (Nat.le_refl _)
  · intro x c h
    exact I.freeC x c (from' h).1
  · intro p hp
    obtain ⟨h1, h2, h3⟩ := pinned p hp
    refine ⟨h1, I.hok.fresh (Nat.le_of_lt h2), ?_, ?_, h3⟩
    · show p.1 ≠ e.locals
      rw [loc]
      exact Nat.ne_of_gt h2
    · intro z
      rcases List.mem_cons.mp (I.stkSub _ z) with z | z
      · have := I.lt
        rw [z] at h2
        exact absurd (Nat.lt_trans h2 this) (Nat.lt_irrefl _)
      · exact I.nofs (Nat.le_of_lt h2) z
  · rw [wipe_length]
    exact I.len
end
end Gx

/-! The run of a generator expression: its loop. -/
namespace Gx
open PySem PySem.Spec PySem.Calls PyProof.Rows L2
/-- what the run will hand out: J the walk; W turn, measure, what is out, heap -/
def Turns (J : It) (g : TG) (tt : TT) (te : TE) (vs : List Nat) (σ : L2.St) (cont : List V → Hp → Prop) (W : Nat → Nat → List V → Hp → Prop) : Prop := ∀ i m ys H, W i m ys H →
  (J.stop i H ∧ cont ys H) ∨ (J.go i H ∧ ∃ Nx : List V → Hp → Prop, (∀ ys' H', Nx ys' H' → ∃ m', m' < m ∧ W (i + 1) m' ys' H') ∧ ∀ x H', J.yld i H x H' → g x (wipe σ vs) H' fun σ2 H2 => wipe σ2 vs = wipe σ vs ∧ tt σ2 H2 fun b H3 =>
    if b = true then te σ2 H3 fun y H4 => ys.length < sizeLine ∧ Nx (ys ++ [y]) H4 else Nx ys H3)
/-- the end of such a run -/
def End (Y : Cx) (S : Addr) (cont : List V → Hp → Prop) : GenEnd := fun n _ r s => r = .ok .next ∧ ∃ ys ip σ H, n + ys.length = sizeLine ∧ GI Y S ip ys σ H s ∧ cont ys H
section
variable {Y : Cx} {A : Around} {S it : Addr} {fp : List Addr} {tn : Nat → Heap → Prop} {J : It} {elt tg iter : Expr} {ifs : List Expr} {scope : Scope} {pos : Pos} {g : TG} {tt : TT} {te : TE} {vs : List Nat} {σ : L2.St} {cont : List V → Hp → Prop} {W : Nat → Nat → List V → Hp → Prop}
theorem run (hov : A.over (.compLoop (.GeneratorExp elt [⟨tg, iter, ifs, 0⟩] scope pos) 0 (.ref it) .none Y.env) [] = Y.A) (calm : Y.calm = true) (co : Y.env.scope.isCoroutine = false) (noX : ∀ e s, Y.xe e s → False) (T : Turn Y.prog Y.w Y.K tg J fp it tn) (ex : Y.ex = fp)
    (pnS : ∀ p ∈ Y.pn, p.1 ≠ S) (pnF : ∀ p ∈ Y.pn, p.1 ∉ fp) (young : Apart Y S) (offS : S ∉ fp) (pg : PG Y tg g) (pt : PTs Y ifs tt) (pe : PE Y elt te) (turns : Turns J g tt te vs σ cont W) :
    ∀ (m n i : Nat) (ys : List V) (s₀ s : Shared) (H : Hp), n + ys.length = sizeLine → W i m ys H → GI Y S [] ys (wipe σ vs) H s → tn i s.heap → (∀ b ∈ fp, H b = none) →
      Seg (model Y.prog Y.w) A (End Y S cont) (GY Y S) n s₀ (.compLoop (.GeneratorExp elt [⟨tg, iter, ifs, 0⟩] scope pos) 0 (.ref it) .none Y.env)
        ((model Y.prog Y.w).den (.compLoop (.GeneratorExp elt [⟨tg, iter, ifs, 0⟩] scope pos) 0 (.ref it) .none Y.env)) [] s := by
  intro m
  induction m using Nat.strongRecOn with
  | ind m ih =>
    intro n i ys s₀ s H len w gi st none0
    obtain ⟨acc, cc, rv, I⟩ := gi
    have apart : ∀ {σ' : L2.St} {H' : Hp} {s' : Shared}, Inv Y [(S, lstObj acc cc)] σ' H' s' → (∀ b ∈ fp, H' b = none) → ∀ b ∈ fp, FpOk Y [(S, lstObj acc cc)] H' b := by
      intro σ' H' s' I' hn b hb
      have hb' : b ∈ Y.ex := by rw [ex]; exact hb
      refine ⟨hn b hb, (I'.ok.exf b hb').1, I'.ok.exfs b hb', .inl hb', fun x c e => (I'.ok.exf b hb').2 x c e, fun p hp z => ?_⟩
      rcases List.mem_append.mp hp with q | q
      · exact pnF p q (z ▸ hb)
      · rw [List.mem_singleton.mp q] at z
        have z' : S = b := z
        rw [← z'] at hb
        exact offS hb
    show Seg _ A _ _ _ s₀ _ ((compTurn (.GeneratorExp elt [⟨tg, iter, ifs, 0⟩] scope pos) 0 (.ref it) .none Y.env).onRaise (leaving Y.env)) [] s
    rw [compTurn_gen, Sem.onRaise_eq_wrap]
    refine seg_bind_wrap (wpAny_standAt ?_)
    refine seg_bind_wrap ?_
    rw [hov]
    rcases turns i m ys H w with ⟨stop, here⟩ | ⟨more, Nx, down, step⟩
    · refine wpAny_mono (T.done Y rfl rfl rfl calm i [(S, lstObj acc cc)] s _ H (fun _ _ => False) I (apart I none0) st stop) (fun r s6 r6 => ?_) fun x s' q => q.elim
      obtain ⟨rfl, I6⟩ := r6
      exact seg_end (.ok .next) ⟨rfl, ys, [], _, H, len, ⟨acc, cc, rv, I6⟩, here⟩
    · refine wpAny_mono (T.item Y rfl rfl rfl calm i [(S, lstObj acc cc)] s _ H (fun _ _ => False) I (apart I none0) st more) (fun r s6 r6 => ?_) fun x s' q => q.elim
      obtain ⟨u, rfl, h6⟩ := r6
      refine seg_bind_wrap ?_
      rw [hov]
      refine wpAny_mono h6 (fun _ s7 r7 => ?_) fun x s' q => q.elim
      obtain ⟨x, H7, I7, rx, y7, st7, n7⟩ := r7
      refine seg_bind_wrap ?_
      rw [hov]
      refine wpAny_mono (pg.run _ s7 _ H7 x u _ (I7.pinned (apart I7 n7) (T.obj _ _ st7)) rx (step x H7 y7)) (fun _ s8 r8 => ?_) fun x s' q => (noX _ _ q).elim
      obtain ⟨σ8, H8, I8, same, q8⟩ := r8
      refine seg_bind_wrap ?_
      rw [hov]
      refine wpAny_mono (pt.run _ s8 σ8 H8 _ I8 q8) (fun b s9 r9 => ?_) fun x s' q => (noX _ _ q).elim
      obtain ⟨H9, I9, q9⟩ := r9
      have lenσ : (wipe σ vs).length = σ8.length := by
        rw [← same]
        exact wipe_length ..
      have onward : ∀ {s' : Shared} {H' : Hp} {acc' : Array Value} {c' : Nat} {ys' : List V}, Vals ys' acc'.toList → Inv Y ([(S, lstObj acc' c')] ++ pinsAt fp s7.heap) σ8 H' s' → Nx ys' H' → ∀ n', n' + ys'.length = sizeLine → ∀ s₀',
          Seg (model Y.prog Y.w) A (End Y S cont) (GY Y S) n' s₀' (.compLoop (.GeneratorExp elt [⟨tg, iter, ifs, 0⟩] scope pos) 0 (.ref it) .none Y.env)
            ((model Y.prog Y.w).den (.compLoop (.GeneratorExp elt [⟨tg, iter, ifs, 0⟩] scope pos) 0 (.ref it) .none Y.env)) [] s' := by
        intro s' H' acc' c' ys' rv' I' nx n' len' s₀'
        obtain ⟨m', less, w'⟩ := down ys' H' nx
        have pinned : ∀ b ∈ fp, ∀ o, s7.heap.get? b = some o → s'.heap.get? b = some o ∧ H' b = none := by
          intro b hb o e
          have z := I'.pin (b, o) (List.mem_append_right _ (List.mem_append_right _ (mem_pinsAt hb e)))
          exact ⟨z.1, z.2.1⟩
        refine ih m' less n' (i + 1) ys' s₀' s' H' len' w' ⟨acc', c', rv', (I'.unpinned).weak lenσ ?_⟩ (T.keep _ _ _ st7 fun b hb o e => (pinned b hb o e).1) ?_
        · intro j v e
          rw [← same] at e
          exact (wipe_some e).1
        · intro b hb
          obtain ⟨o, e, _⟩ := T.obj _ _ st7 b hb
          exact (pinned b hb o e).2
      cases b with
      | false =>
        rw [if_neg Bool.false_ne_true] at q9
        simp only [Bool.false_eq_true, if_false]
        exact seg_again rfl (onward rv I9 q9 n len s₀)
      | true =>
        rw [if_pos rfl] at q9
        simp only [if_true]
        have hy : ∀ v, yieldOut Y.env v = yieldValue v := fun v => by simp only [yieldOut, co, Bool.false_eq_true, if_false]
        simp only [hy]
        rw [Sem.bind_eq_wrap', Sem.bind_eq_wrap', Sem.wrap_wrap, Sem.wrap_wrap]
        refine seg_wrap ?_
        rw [hov]
        refine wpAny_mono (pe.run _ s9 σ8 H9 _ I9 q9) (fun z s10 r10 => ?_) fun x s' q => (noX _ _ q).elim
        obtain ⟨yv, H10, I10, ry, room, nx⟩ := r10
        obtain ⟨n', rfl⟩ : ∃ n', n = n' + 1 := ⟨n - 1, by omega⟩
        have hip : ∀ p ∈ pinsAt fp s7.heap, p.1 ≠ S := fun p hp z => offS (z ▸ (of_pinsAt hp).1)
        have gi10 : GI Y S (pinsAt fp s7.heap) ys σ8 H10 s10 := ⟨acc, cc, rv, I10⟩
        refine seg_at (seg_yield rfl rfl rfl ⟨ys, yv, pinsAt fp s7.heap, σ8, H10, len, ry, gi10, fun s'' slept => ?_⟩)
        obtain ⟨acc', c', rv', I'⟩ := gi10.woken pnS hip young ry slept
        refine seg_again rfl (onward rv' I' nx n' ?_ s'')
        rw [List.length_append, List.length_singleton]
        omega
end
end Gx

/-! A generator expression as a value. -/
namespace Gx
open PySem PySem.Spec PySem.Calls PyProof.Rows L2 GxR
/-- (elt for tg in iter if ..); P: the def's table of code objects -/
def tGen (P : Addr) (wi : TI) (g : TG) (tt : TT) (te : TE) (vs : List Nat) : TGen := fun σ H cont => wi σ H fun J G => TabG G P ∧ ∀ G2, Tabbed P G G2 → ∃ W : Nat → Nat → List V → Hp → Prop, (∃ m, W 0 m [] G2) ∧ Turns J g tt te vs σ cont W
abbrev gEnv (X : Cx) (scope : Scope) (C : Addr) (cv : Value) : Env := genEnv scope (cloFrom X.env.cells scope.names []) C cv builtinsNs X.env
section
variable {X : Cx} {c P : Addr} {elt tg iter : Expr} {ifs : List Expr} {scope : Scope} {own : List (PySem.Str × Nat)} {pos : Pos} {wi : TI} {g : TG} {tt : TT} {te : TE} {k : Nat}
theorem pgen (room : Room (k + 1) X.A) (TB : TabB X.base X.mg c P) (code : X.env.code = .ref c) (nodup : X.N.Nodup) (walked : PI X tg iter wi) (blk : BlkOk X.N X.env.scope scope own) (noCell : ∀ y ∈ scope.names, y.2 ≠ .cell) (dot : scope.names.lookup (".0" : PySem.Str) = some NameKind.local) (co : scope.isCoroutine = false)
    (gg : ∀ (s : Shared) (H : Hp) (C : Addr) (cv : Value) (fp : List Addr) (A : Around) (pn : List (Addr × Obj)), PG (ctx X s H (gEnv X scope C cv) fp A pn) tg g)
    (gt : ∀ (s : Shared) (H : Hp) (C : Addr) (cv : Value) (fp : List Addr) (A : Around) (pn : List (Addr × Obj)), Room k (A.deeper (gEnv X scope C cv)) → PTs (ctx X s H (gEnv X scope C cv) fp A pn) ifs tt)
    (ge : ∀ (s : Shared) (H : Hp) (C : Addr) (cv : Value) (fp : List Addr) (A : Around) (pn : List (Addr × Obj)), Room k (A.deeper (gEnv X scope C cv)) → PE (ctx X s H (gEnv X scope C cv) fp A pn) elt te)
    (fold : ∀ v, genFold iter X.env v = pure v := by intro _; rfl) : PGen X (k + 1) (.GeneratorExp elt [⟨tg, iter, ifs, 0⟩] scope pos) (tGen P wi g tt te (own.map (·.2))) fun _ _ _ => False := by
  constructor
  intro pins s σ H cont I0 want
  have free : ∀ y ∈ scope.names, y.2 = .free → ∃ c, X.env.cells.lookup y.1 = some c := by
    intro y hy e
    rcases blk.free y hy e with z | z
    · exact I0.ok.has _ (.inl z)
    · exact I0.ok.has _ (.inr z)
  refine wpAny_GeneratorExp_make co (closure_ok free) noCell dot blk.kind (by have := room.dp; omega) ?_ fold
  refine thn (walked.run pins s σ H _ I0 want) fun xv s1 r1 => thn r1 fun itv s2 r2 => ?_
  obtain ⟨it, fp, tn, J, H2, rfl, I2, T, st2, f2, ⟨tab, hP, ht⟩, q⟩ := r2
  refine ⟨I2.nolimit, ?_⟩
  have tabS : s2.heap.get? P = some { cls := .none, data := .fields tab } := I2.hok P _ hP
  have cd : PySem.W.CodeHd s2.heap c P := TB.code.keeps fun b u e => I2.bk b u e
  have fpP : ∀ b ∈ fp, b ≠ P := by
    intro b hb z
    have e := (f2 b hb).1
    rw [z, hP] at e
    cases e
  have goOn : ∀ (cv : Value) (h3 : Heap) (tk : Nat) (tab' : Array Value), Heap.ExtBut P s2.heap h3 → s2.heap.objs.size ≤ h3.objs.size → h3.get? P = some { cls := .none, data := .fields tab' } → (∃ more, tab' = tab ++ more) → TriplesOk tab'.toList →
      wpAny (model X.prog X.w) X.A (builtinsFor X.env.globals X.env.builtins) (fun bi s₄ =>
        ∀ h', h'.Ns s₄.heap.objs.size (fun y => if y = ".0" then some (.ref it) else none) → Heap.SameBut s₄.heap.objs.size (s₄.heap.push { cls := .type "frame", data := .dict #[] }) h' →
          (fun u s' => ∃ H1 sc ex, Inv X pins σ H1 sc ∧ ExOk X pins ex ∧ GMade X.prog X.w (k + 1) X.stack H1 sc ex cont (fun _ _ _ => False) u s') (.ref h'.objs.size) { s₄ with
            gens := s₄.gens.push (.fresh (.compStart (.GeneratorExp elt [⟨tg, iter, ifs, 0⟩] scope pos) 0 (.ref it) .none (genEnv scope (cloFrom X.env.cells scope.names []) s₄.heap.objs.size cv bi X.env))),
            toks := s₄.toks + 1 + 1 + 1,
            heap := h'.push { cls := .type "generator", data := .fields #[.int s₄.gens.size 0, .str "<genexpr>" (s₄.toks + 1), .str (X.env.qual ++ "<genexpr>") (s₄.toks + 1 + 1)] } }) X.xe { s2 with heap := h3, toks := tk } := by
    intro cv h3 tk tab' ext grown tab3 more ok3
    obtain ⟨bm, ob, e1, e2, e3, e4, e5, e6, e7, e8⟩ := TB.bm
    refine wpAny_builtinsFor (m := X.mg) (by rw [I2.ok.glob]; exact (I2.mod.glob.keeps I2.bk).extBut ext TB.gP) e1 e2 (ext _ _ e4 (I2.bk _ _ e5)) e6 e7 e8 ?_
    intro h' hn' hs'
    obtain ⟨mo, em⟩ := more
    have I3 : Inv X pins σ (upd H2 P (.tbl (tab ++ mo))) { s2 with heap := h3, toks := tk } :=
      inv_tab (more := mo) (h' := h3) (g' := s2.gens) (d' := s2.drawn) (t' := tk) I2 hP (fun b u hb e => ext b u hb e) (by rw [← em]; exact tab3) I2.bare
    have tb3 : Tabbed P H2 (upd H2 P (.tbl (tab ++ mo))) := ⟨⟨tab ++ mo, upd_same, by rw [← em]; exact ok3⟩, fun b hb => upd_ne hb⟩
    obtain ⟨W, ⟨m0, w0⟩, turns⟩ := q _ tb3
    have f3 : ∀ b ∈ fp, FpOk X pins (upd H2 P (.tbl (tab ++ mo))) b := fun b hb => ⟨by rw [upd_ne (fpP b hb)]; exact (f2 b hb).1, (f2 b hb).2⟩
    have lt3 : ∀ b ∈ fp, b < h3.objs.size := by
      intro b hb
      obtain ⟨_, e, _⟩ := T.obj _ _ st2 b hb
      exact Nat.lt_of_lt_of_le (Heap.lt_size e) grown
    have st3 : tn 0 h3 := T.keep _ _ _ st2 fun b hb o e => ext b o (fpP b hb) e
    generalize upd H2 P (.tbl (tab ++ mo)) = H3 at I3 w0 f3
    generalize e3s : ({ s2 with heap := h3, toks := tk } : Shared) = s3 at I3
    have hh3 : s3.heap = h3 := congrArg Shared.heap e3s.symm
    clear e3s
    subst hh3
    have sz' : h'.objs.size = s3.heap.objs.size + 1 := by
      rw [hs'.1]
      exact Heap.size_push ..
    have kp' : ∀ b o, s3.heap.get? b = some o → h'.get? b = some o := fun b o e => hs'.extBut b o (Nat.ne_of_lt (Heap.lt_size e)) (Heap.get?_push_of_some _ e)
    refine ⟨H3, s3, fp, I3, fun b hb => ⟨(f3 b hb).2.2.2.1, (f3 b hb).2.1, (f3 b hb).2.2.2.2.1, (f3 b hb).2.2.2.2.2⟩, ?_⟩
    generalize ego : ({ cls := .type "generator", data := .fields #[.int s3.gens.size 0, .str "<genexpr>" (s3.toks + 1), .str (X.env.qual ++ "<genexpr>") (s3.toks + 1 + 1)] } : Obj) = go
    have isGen : ∀ h : Heap, h.get? h'.objs.size = some go → h.IsGen h'.objs.size s3.gens.size := by
      intro h e
      subst ego
      exact ⟨_, _, _, e, rfl, rfl, rfl⟩
    have pushed : (h'.push go).get? h'.objs.size = some go := by
      subst ego
      exact Heap.get?_push_size _ rfl
    have goData : ∀ v, go.data ≠ .cell v := by
      subst ego
      intro v z
      cases z
    have kpush : ∀ b o, s3.heap.get? b = some o → (h'.push go).get? b = some o := fun b o e => Heap.get?_push_of_some _ (kp' b o e)
    refine ⟨h'.objs.size, s3.gens.size, _, rfl, by rw [sz']; exact Nat.le_succ _, by show _ < (h'.push go).objs.size; rw [Heap.size_push]; exact Nat.lt_succ_self _, isGen _ pushed, Array.getElem?_push_size .., rfl, AllBare.push I3.bare rfl, ?_, fun b o e => kpush b o (e), ?_⟩
    · exact I3.nolimit.keeps fun b o e => kpush b o (e)
    intro A S s9 room9 frames9 young9 keep9 atS os9 bare9
    obtain ⟨cS, atS⟩ := atS
    have young9 : (h'.push go).objs.size ≤ S := young9
    rw [Heap.size_push] at young9
    have goAt : s9.heap.get? h'.objs.size = some go := keep9 _ _ pushed
    have kp9 : ∀ b o, s3.heap.get? b = some o → s9.heap.get? b = some o := fun b o e => keep9 b o (kpush b o (e))
    have ns9 : s9.heap.Ns (gEnv X scope s3.heap.objs.size cv).locals (fun y => if y = ".0" then some (.ref it) else none) := (hn'.push go).keeps fun b o e => keep9 b o e
    have I9 : Inv (ctx X s3 H3 (gEnv X scope s3.heap.objs.size cv) fp A [(h'.objs.size, go)]) [(S, lstObj #[] cS)] (wipe σ (own.map (·.2))) H3 s9 := by
      refine start I3 blk nodup noCell rfl rfl I0.ok.glob rfl rfl rfl (fun b hb => ⟨f3 b hb, lt3 b hb⟩) room9.hd frames9 kp9 os9 bare9 ns9 ?_
      intro p hp
      rcases List.mem_append.mp hp with z | z
      · rw [List.mem_singleton.mp z]
        refine ⟨goAt, ?_, goData⟩
        show s3.heap.objs.size < h'.objs.size
        rw [sz']
        exact Nat.lt_succ_self _
      · rw [List.mem_singleton.mp z]
        refine ⟨atS, ?_, fun v y => by cases y⟩
        show s3.heap.objs.size < S
        exact Nat.lt_of_lt_of_le (by rw [sz']; exact Nat.lt_succ_of_lt (Nat.lt_succ_self _)) young9
    have ltS : s3.heap.objs.size < S := Nat.lt_of_lt_of_le (by rw [sz']; exact Nat.lt_succ_of_lt (Nat.lt_succ_self _)) young9
    have apS : Apart (ctx X s3 H3 (gEnv X scope s3.heap.objs.size cv) fp A [(h'.objs.size, go)]) S := by
      refine ⟨by show s3.heap.objs.size ≤ S; exact Nat.le_of_lt ltS, Nat.ne_of_gt ltS, fun x c' e z => ?_⟩
      have e : (cloFrom X.env.cells scope.names []).lookup x = some c' := e
      rcases cloFrom_mem (PySem.mem_of_lookup e) with y | ⟨h1, rfl⟩
      · cases y
      · obtain ⟨c0, hc⟩ := free _ h1 rfl
        rw [hc] at z
        have z : c0 = S := z
        obtain ⟨v, y⟩ := I3.cell _ _ hc
        have lt := y.lt
        rw [z] at lt
        exact Nat.lt_irrefl _ (Nat.lt_trans lt ltS)
    have offS : S ∉ fp := fun z => Nat.lt_irrefl _ (Nat.lt_trans (lt3 S z) ltS)
    have st9 : tn 0 s9.heap := T.keep _ _ _ st3 fun b hb o e => kp9 b o e
    have deep := room9.deeper (gEnv X scope s3.heap.objs.size cv)
    have loop := run (Y := ctx X s3 H3 (gEnv X scope s3.heap.objs.size cv) fp A [(h'.objs.size, go)]) (A := A) (S := S) (it := it) (elt := elt) (tg := tg) (ifs := ifs) (scope := scope) (iter := iter) (pos := pos) (cont := cont) over_gen rfl co (fun _ _ z => z) T rfl
      (fun p hp => by rw [List.mem_singleton.mp hp]; exact Nat.ne_of_lt (Nat.lt_of_lt_of_le (Nat.lt_succ_self _) young9)) (fun p hp z => by
        rw [List.mem_singleton.mp hp] at z
        have := lt3 _ z
        rw [sz'] at this
        exact Nat.lt_irrefl _ (Nat.lt_trans (Nat.lt_succ_self _) this)) apS offS
      (gg s3 H3 s3.heap.objs.size cv fp A [(h'.objs.size, go)]) (gt s3 H3 s3.heap.objs.size cv fp A [(h'.objs.size, go)] deep) (ge s3 H3 s3.heap.objs.size cv fp A [(h'.objs.size, go)] deep) turns
      m0 sizeLine 0 [] s9 s9 H3 (Nat.add_zero _) w0 ⟨#[], cS, .nil, I9⟩ st9 (fun b hb => (f3 b hb).1)
    refine seg_imp (R := End (ctx X s3 H3 (gEnv X scope s3.heap.objs.size cv) fp A [(h'.objs.size, go)]) S cont) (Y := GY (ctx X s3 H3 (gEnv X scope s3.heap.objs.size cv) fp A [(h'.objs.size, go)]) S) (fun n s₀ r s1' hR => ?_) (fun n s₀ v s1' kap kap' hkk hY => ?_) sizeLine ?_
    · obtain ⟨rfl, ys, ip, σ', H', len, gi, fin⟩ := hR
      obtain ⟨a1, _, _, acc, cc, ra, ea⟩ := gi.at
      obtain ⟨_, _, _, K9⟩ := gi
      exact .inl ⟨.inr rfl, H', ys, acc, cc, K9.os, K9.bare, K9.base, K9.hok, a1, ea, ra, by omega, fin⟩
    · obtain ⟨ys, xx, ip, σ', H', len, h2, gi, h4⟩ := hY
      obtain ⟨_, _, _, acc, cc, ra, ea⟩ := gi.at
      obtain ⟨_, _, _, K9⟩ := gi
      have hg := isGen _ (K9.pin (h'.objs.size, go) (List.mem_append_left _ (List.mem_singleton.mpr rfl))).1
      have size : acc.size = ys.length := by
        have l1 := ra.length
        have l2 : acc.toList.length = acc.size := by simp
        omega
      exact ⟨K9.os, K9.bare, K9.nolimit, hg, ⟨acc, cc, ea, by rw [size]; exact len⟩, fun s' z => hkk _ _ (h4 s' z)⟩
    · show Seg _ A _ _ _ s9 _ ((compStart (.GeneratorExp elt [⟨tg, iter, ifs, 0⟩] scope pos) 0 (.ref it) .none (gEnv X scope s3.heap.objs.size cv)).onRaise (leaving (gEnv X scope s3.heap.objs.size cv))) [] s9
      unfold compStart
      rw [Sem.onRaise_eq_wrap]
      show Seg _ A _ _ _ s9 _ ((ask >>= _).wrap _ _ _ _) [] s9
      refine seg_bind_wrap (wpAny_askSetting ?_)
      split
      · exact seg_again rfl loop
      · first
          | exact seg_bind_wrap (wpAny_rule (seg_bind_wrap (wpAny_standAt (seg_bind_wrap (T.self _ 0 s9 _ _ st9 (seg_again rfl loop))))))
          | (refine seg_bind_wrap (wpAny_rule ?_); show Seg _ A _ _ _ s9 _ ((standAt iter.pos >>= _).wrap _ _ _ _) [] s9; exact seg_bind_wrap (wpAny_standAt (seg_bind_wrap (T.self _ 0 s9 _ _ st9 (seg_again rfl loop)))))
  cases hf : codeAmong pos tab.toList with
  | none =>
    refine wpAny_genexprCodeX code (cd.code tabS ht) (cd.tab tabS) hf fun c' h' tk hx hge hlt hco' _ htab' _ => ?_
    obtain ⟨o1, vs, f1, tf, fl, tg', inF, tx, tt', op, _, _, _, _, _, _, _, _, _, htr, _⟩ := hco'
    exact goOn _ h' tk _ hx (Nat.le_trans hge (Nat.le_of_lt hlt)) htab'.2 ⟨_, rfl⟩ htr
  | some cv =>
    refine wpAny_genexprCode_hit code (cd.code tabS ht) hf ?_
    exact goOn cv s2.heap s2.toks tab (Heap.ExtBut.refl _ _) (Nat.le_refl _) tabS ⟨#[], by simp⟩ ht
end
end Gx

/-! tuple(g) of a generator that has not begun. -/
namespace Gx
open PySem PySem.Spec PySem.Calls PyProof.Rows L2 GxR
section
variable {P : Program} {w : World} {outer : List Env} {H : Hp} {sc s : Shared} {ex : List Addr} {Q : List V → Hp → Prop} {A : Around} {k : Nat} {u : Value} {E : Value → Shared → Prop}
abbrev noEx : XK := fun _ _ _ => False
theorem never {e : Value} {s' : Shared} (h : CX P w outer H sc noEx e s') : False := by
  obtain ⟨a, B, H', cls, d, _, _, _, _, _, _, _, z⟩ := h
  exact z
/-- all that comes out of it -/
theorem gathered {Q' : List Value → Shared → Prop} (hr : Room (k + 1) A) (fr : A.frames = some outer) (made : GMade P w k outer H sc ex Q noEx u s)
    (hQ : ∀ S s' acc c H' ys, s.heap.objs.size ≤ S → s'.heap.get? S = some (lstObj acc c) → Vals ys acc.toList → ys.length ≤ sizeLine → s'.os = sc.os → AllBare s'.gens → Un (frs outer) ex H H' sc.heap s'.heap → HOk P w H' s'.heap → H' S = none → Q ys H' → Q' acc.toList s') :
    wpAny (model P w) A (collect u) Q' E s := by
  obtain ⟨a, g, c, rfl, above, below, isGen, fresh, os, bare, lim, old, wake⟩ := made
  have unlike : s.heap.objs.size ≠ a := Nat.ne_of_gt below
  have noStat : s.heap.objs.size ≠ cStatics := by
    obtain ⟨_, hn, _⟩ := lim
    exact Nat.ne_of_gt hn.lt
  unfold collect
  refine wpAny_bind (wpAny_runValue (codeAny_builtin F.entry_proto_collect ?_))
  rw [Around.under_plainId F.plain_proto_collect _]
  show wpAny _ A.in1 (newList [] >>= fun l => again (.builtin "list.__iadd__" ⟨[l, .ref a], []⟩)) _ _ s
  refine wpAny_bind (wpAny_newObj_type ?_)
  refine wpAny_pure ⟨plainId_quiet F.plain_list_iadd _, codeAny_builtin F.entry_list_iadd ?_⟩
  rw [Around.under_plainId F.plain_list_iadd _]
  have at1 : (s.heap.push { cls := .type "list", data := .seq ([] : List Value).toArray }).get? s.heap.objs.size = some { cls := .type "list", data := .seq ([] : List Value).toArray } := Heap.get?_push_size _ rfl
  have keep1 : ∀ b o, s.heap.get? b = some o → (s.heap.push { cls := .type "list", data := .seq ([] : List Value).toArray }).get? b = some o := fun b o e => Heap.get?_push_of_some _ e
  have up : ∀ (h : Heap) (f : Obj → Obj), (∀ b o, s.heap.get? b = some o → h.get? b = some o) → ∀ b o, s.heap.get? b = some o → (h.update s.heap.objs.size f).get? b = some o := fun h f q b o e =>
    (Heap.get?_update_other _ _ (Ne.symm (Nat.ne_of_lt (Heap.lt_size e)))).trans (q b o e)
  have genAt : ∀ {h : Heap}, (∀ b o, s.heap.get? b = some o → h.get? b = some o) → h.IsGen a g := fun {h} q => isGen.keeps q
  show wpAny _ A.in1 (Builtin.List.listExtendWith (.ref s.heap.objs.size) (.ref a) (.ref s.heap.objs.size)) _ _ _
  unfold Builtin.List.listExtendWith
  refine wpAny_bind (wpAny_typeOf (Heap.IsGen.typeIs (s := { s with heap := _ }) (genAt keep1)) ?_)
  have q1 : Builtin.List.listSameRef (.ref s.heap.objs.size) (.ref a) = false := by simp [Builtin.List.listSameRef, unlike]
  have q2 : (Value.type "generator" == Value.type "list") = false := by decide
  have q3 : (Value.type "generator" == Value.type "tuple") = false := by decide
  simp only [q1, q2, q3, Bool.or_false, Bool.false_eq_true, if_false]
  refine wpAny_bind (wpAny_pyIter_gen (s := { s with heap := _ }) (genAt keep1) ?_)
  refine wpAny_bind (wpAny_holding ?_)
  unfold Builtin.List.listLengthHint
  refine wpAny_bind (wpAny_specialOf (Heap.IsGen.typeIs (s := { s with heap := _ }) (genAt keep1)) F.gen_no_len ?_)
  show wpAny _ A.in1 (specialOf (Value.ref a) (Str.ofString "__length_hint__") >>= _) _ _ _
  refine wpAny_bind (wpAny_specialOf (Heap.IsGen.typeIs (s := { s with heap := _ }) (genAt keep1)) F.gen_no_hint ?_)
  refine wpAny_pure ?_
  show wpAny _ A.in1 (rule "list.extend.makes-room" >>= fun _ => Builtin.List.listTouch (.ref s.heap.objs.size) >>= fun _ =>
    again (.builtin "list.extend.loop" ⟨[.ref s.heap.objs.size, .ref a, .ref s.heap.objs.size], []⟩)) _ _ _
  refine wpAny_bind (wpAny_rule ?_)
  refine wpAny_bind ?_
  show wpAny _ A.in1 (updateSeq s.heap.objs.size (·.push .none) >>= fun _ => updateSeq s.heap.objs.size (·.pop)) _ _ _
  refine wpAny_bind (wpAny_updateSeq at1 rfl ?_)
  have at2 := Heap.get?_update_self (Obj.mapSeq (·.push Value.none)) at1 rfl
  refine wpAny_updateSeq (hz := by seq_fits) at2 rfl ?_
  have at3 := Heap.get?_update_self (Obj.mapSeq (·.pop)) at2 rfl
  have keep3 := up _ (Obj.mapSeq (·.pop)) (up _ (Obj.mapSeq (·.push Value.none)) keep1)
  refine wpAny_pure ⟨plainId_quiet F.plain_extend_loop _, ?_⟩
  refine drain (P := P) (w := w) (outer := outer) (H := H) (sc := sc) (ex := ex) (Q := Q) (EX := noEx) (A := A) (g := g) hr.hd (by have := hr.dp; show A.depth < _; omega) unlike noStat
    (fun s' acc c H' ys r1 r2 r3 r4 r5 r6 r7 r8 r9 => ?_) (fun e s' z => (never z).elim) sizeLine _ ?_ ?_ ⟨_, fresh, rfl, ?_⟩
  · show wpAny _ A (load s.heap.objs.size >>= _) _ _ s'
    refine wpAny_bind (wpAny_load r1 ?_)
    exact wpAny_pure (hQ s.heap.objs.size s' acc c H' ys (Nat.le_refl _) r1 r2 r3 r4 r5 r6 r7 r8 r9)
  · exact genAt keep3
  · exact lim.keeps keep3
  · refine wake _ _ _ ⟨hr.hd, ?_, ?_⟩ fr (Nat.le_refl _) keep3 ⟨_, at3⟩ os (allBare_setGen (s := { s with heap := _ }) bare rfl)
    · have := hr.dp
      show A.depth + 3 * k + 5 < _
      omega
    · have := hr.un
      show A.units + 1 + 1 + 16 * k + 200 < _
      omega
end
end Gx

/-! tuple(g), list(g) as expressions. -/
namespace Gx
open PySem PySem.Spec PySem.Calls PyProof.Rows L2 GxR
section
variable {P : Program} {w : World} {outer : List Env} {H : Hp} {sc s : Shared} {ex : List Addr} {Q : List V → Hp → Prop} {A : Around} {k : Nat} {u : Value} {E : Value → Shared → Prop}
theorem new_tuple {Q' : Value → Shared → Prop} (hr : Room (k + 2) A) (fr : A.frames = some outer) (made : GMade P w k outer H sc ex Q noEx u s)
    (hQ : ∀ (s' : Shared) (acc : Array Value) (H' : Hp) (ys : List V), s.heap.objs.size ≤ s'.heap.objs.size → Vals ys acc.toList → ys.length ≤ sizeLine → s'.os = sc.os → AllBare s'.gens → Un (frs outer) ex H H' sc.heap s'.heap → HOk P w H' s'.heap → Q ys H' → Q' (.ref s'.heap.objs.size) { s' with heap := s'.heap.push { cls := .type "tuple", data := .seq acc } }) :
    codeAny (model P w) A (.call (.builtin "tuple.__new__") ⟨[.type "tuple", u], []⟩) (wants Q' E) s := by
  have made' := made
  obtain ⟨a, g, c, rfl, _, _, isGen, _⟩ := made'
  refine codeAny_of_tree ?_
  show wpAny _ A.in1 (do checkBuiltinCall "tuple.__new__" ⟨[.type "tuple", .ref a], []⟩; again (.builtin "tuple.__new__" ⟨[.type "tuple", .ref a], []⟩)) _ _ s
  refine wpAny_bind (wpAny_of_eq (F.newCall_tuple_1 _) (wpAny_pure ⟨plainId_quiet F.plain_tuple_new _, codeAny_builtin F.entry_tuple_new ?_⟩))
  rw [Around.under_plainId F.plain_tuple_new _]
  have q1 := sub_tuple_self
  have q2 := init_tuple_lookup
  have q3 := madeHere_tuple
  have q4 := isGen.typeIs (s := s)
  have fr1 : A.in1.frames = some outer := fr
  wp_walk using wpAny_typeOf q4, gathered (k := k) hr.in1 fr1 made
  intro S s' acc c' H' ys r1 r2 r3 r4 r5 r6 r7 r8 r9 r10
  show wpAny _ _ (Builtin.Tuple.tupleExact acc.toList.toArray >>= fun v => ret v) _ _ _
  have e : acc.toList.toArray = acc := by simp
  have l := r3.length
  have l2 : acc.toList.length = acc.size := by simp
  unfold Builtin.Tuple.tupleExact
  refine wpAny_bind (wpAny_newObj_type ?_ (by show acc.toList.toArray.size ≤ sizeLine; rw [e]; omega))
  refine wpAny_pure ?_
  rw [e]
  exact hQ s' acc H' ys (Nat.le_trans r1 (Nat.le_of_lt (Heap.lt_size r2))) r3 r4 r5 r6 r7 r8 r10
theorem call_tuple_made {Q' : Value → Shared → Prop} (hr : Room (k + 4) A) (fr : A.frames = some outer) (made : GMade P w k outer H sc ex Q noEx u s)
    (hQ : ∀ (s' : Shared) (acc : Array Value) (H' : Hp) (ys : List V), s.heap.objs.size ≤ s'.heap.objs.size → Vals ys acc.toList → ys.length ≤ sizeLine → s'.os = sc.os → AllBare s'.gens → Un (frs outer) ex H H' sc.heap s'.heap → HOk P w H' s'.heap → Q ys H' → Q' (.ref s'.heap.objs.size) { s' with heap := s'.heap.push { cls := .type "tuple", data := .seq acc } }) :
    wpAny (model P w) A (call (.type "tuple") [u]) Q' E s := by
  have fr1 : A.in1.frames = some outer := fr
  refine callType_codes (Q₁ := fun obj s₁ => s₁.TypeIs obj "tuple" ∧ Q' obj s₁) F.called_tuple (F.typeCall_tuple_1 _) F.entry_object_init
    (new_tuple (k := k) (hr.mono (by omega : k + 3 ≤ k + 4)).in1 fr1 made fun s' acc H' ys r1 r2 r3 r4 r5 r6 r7 r8 => ⟨⟨_, Heap.get?_push_size _ rfl, rfl⟩, hQ s' acc H' ys r1 r2 r3 r4 r5 r6 r7 r8⟩) fun obj s₁ h₁ => ?_
  exact ⟨h₁.1, F.args_object_init_2 obj _, object_init_meets F.called_tuple.init.lookup F.called_tuple.made (by decide) P w A.in1 _ s₁ ⟨h₁.1, rfl, h₁.2⟩⟩
end
section
variable {X : Cx} {k : Nat} {e : Expr} {tg : TGen} {p pos : Pos}
def tTupG (tg : TGen) : TE := fun σ H Q => tg σ H fun out H2 => ∀ q, H2 q = none → Q (.ref q) (upd H2 q (.tup out))
/-- tuple(g) -/
theorem pe_tupG (h : PGen X k e tg noEx) (hr : Room (k + 4) X.A) (hg : Gl X "tuple") (hm : X.mg "tuple" = none) (he : starEach [e] X.env = (false, eval e X.env) :: starEach [] X.env := by rfl) : PE X (.Call (.Name "tuple" p) [e] [] pos) (tTupG tg) := by
  refine ⟨fun pins s σ H Q I hq => ?_⟩
  refine wpAny_Call_Name_kw (ld_blt I hg hm boot_tuple ?_)
  refine PyProof.Rows.callWith_type1 ?_ he rfl
  rw [he]
  show wpAny _ _ (spliced ((false, eval e X.env) :: backTo pos (starEach [] X.env))) _ _ s
  refine Calls.spliced_cons (thn (h.run pins s σ H _ I hq) fun u s1 ⟨H1, sc, ex, I1, hex, made⟩ => ?_)
  refine Calls.spliced_nil ?_
  refine call_tuple_made hr I1.ok.frames made fun s' acc H' ys r1 r2 r3 r4 r5 r6 r7 r8 => ?_
  have I2 : Inv X pins σ H' s' := I1.call' (ch := ex) r4 r6 r7 r5 hex
  refine ⟨.ref _, upd H' s'.heap.objs.size (.tup ys), I2.laid (t' := s'.toks) (fun b u z => Heap.get?_push_of_some _ z) (Nat.le_refl _) ?_, rfl, r8 _ (I2.hok.fresh (Nat.le_refl _))⟩
  refine ⟨r3, acc.toList, r2, ?_⟩
  have z : acc.toList.toArray = acc := by simp
  rw [z]
  exact ⟨_, Heap.get?_push_size _ rfl, rfl, _, rfl⟩
/-- tuple(g), its object known -/
def tTupG0 (tg : TGen) : TE := fun σ H Q => tg σ H fun out H2 => ∀ q o, H2 q = none → o.dict = none → Q (.ref q) (upd H2 q (.frz o (.tup out)))
theorem pe_tupG0 (h : PGen X k e tg noEx) (hr : Room (k + 4) X.A) (hg : Gl X "tuple") (hm : X.mg "tuple" = none) (he : starEach [e] X.env = (false, eval e X.env) :: starEach [] X.env := by rfl) : PE X (.Call (.Name "tuple" p) [e] [] pos) (tTupG0 tg) := by
  refine ⟨fun pins s σ H Q I hq => ?_⟩
  refine wpAny_Call_Name_kw (ld_blt I hg hm boot_tuple ?_)
  refine PyProof.Rows.callWith_type1 ?_ he rfl
  rw [he]
  show wpAny _ _ (spliced ((false, eval e X.env) :: backTo pos (starEach [] X.env))) _ _ s
  refine Calls.spliced_cons (thn (h.run pins s σ H _ I hq) fun u s1 ⟨H1, sc, ex, I1, hex, made⟩ => ?_)
  refine Calls.spliced_nil ?_
  refine call_tuple_made hr I1.ok.frames made fun s' acc H' ys r1 r2 r3 r4 r5 r6 r7 r8 => ?_
  have I2 : Inv X pins σ H' s' := I1.call' (ch := ex) r4 r6 r7 r5 hex
  refine ⟨.ref _, _, I2.laid (t' := s'.toks) (o := .frz { cls := .type "tuple", data := .seq acc } (.tup ys)) (fun b u z => Heap.get?_push_of_some _ z) (Nat.le_refl _) ?_, rfl, r8 _ _ (I2.hok.fresh (Nat.le_refl _)) rfl⟩
  refine ⟨Heap.get?_push_size _ rfl, r3, acc.toList, r2, ?_⟩
  have z : acc.toList.toArray = acc := by simp
  rw [z]
  exact ⟨_, Heap.get?_push_size _ rfl, rfl, _, rfl⟩
end
end Gx

/-! Turns over a list, a tuple that stay as they are. -/
namespace Gx
open PySem PySem.Spec PySem.Calls PyProof.Rows L2 GxR
section
variable {K : PySem.W.Frag} {a : Addr} {xs : List V} {g : TG} {tt : TT} {te : TE} {vs : List Nat} {σ : L2.St} {G : Hp} {cont : List V → Hp → Prop}
theorem turns_list (Pv : Nat → List V → Hp → Prop) (first : Pv 0 [] G) (stays : ∀ i ys H, i ≤ xs.length → Pv i ys H → SqL K H a xs)
    (turn : ∀ i x ys H, xs[i]? = some x → Pv i ys H → g x (wipe σ vs) H fun σ2 H2 => wipe σ2 vs = wipe σ vs ∧ tt σ2 H2 fun b H3 => if b = true then te σ2 H3 fun y H4 => ys.length < sizeLine ∧ Pv (i + 1) (ys ++ [y]) H4 else Pv (i + 1) ys H3)
    (after : ∀ ys H, Pv xs.length ys H → cont ys H) : ∃ W : Nat → Nat → List V → Hp → Prop, (∃ m, W 0 m [] G) ∧ Turns (Itl K a) g tt te vs σ cont W := by
  refine ⟨fun i m ys H => m = xs.length - i ∧ i ≤ xs.length ∧ Pv i ys H, ⟨xs.length, (Nat.sub_zero _).symm, Nat.zero_le _, first⟩, ?_⟩
  rintro i m ys H ⟨rfl, le, p⟩
  have seq := stays i ys H le p
  rcases Nat.lt_or_ge i xs.length with lt | ge
  · refine .inr ⟨⟨xs, xs[i], seq, List.getElem?_eq_getElem lt⟩, Pv (i + 1), fun ys' H' p' => ⟨xs.length - (i + 1), by omega, rfl, lt, p'⟩, fun x H' y => ?_⟩
    obtain ⟨rfl, y⟩ := y
    exact turn i x ys _ (y xs seq) p
  · have e : i = xs.length := by omega
    subst e
    exact .inl ⟨⟨xs, seq, Nat.le_refl _⟩, after ys H p⟩
theorem turns_tup (Pv : Nat → List V → Hp → Prop) (first : Pv 0 [] G) (stays : ∀ i ys H, i ≤ xs.length → Pv i ys H → SqT K H a xs)
    (turn : ∀ i x ys H, xs[i]? = some x → Pv i ys H → g x (wipe σ vs) H fun σ2 H2 => wipe σ2 vs = wipe σ vs ∧ tt σ2 H2 fun b H3 => if b = true then te σ2 H3 fun y H4 => ys.length < sizeLine ∧ Pv (i + 1) (ys ++ [y]) H4 else Pv (i + 1) ys H3)
    (after : ∀ ys H, Pv xs.length ys H → cont ys H) : ∃ W : Nat → Nat → List V → Hp → Prop, (∃ m, W 0 m [] G) ∧ Turns (Itt K a) g tt te vs σ cont W := by
  refine ⟨fun i m ys H => m = xs.length - i ∧ i ≤ xs.length ∧ Pv i ys H, ⟨xs.length, (Nat.sub_zero _).symm, Nat.zero_le _, first⟩, ?_⟩
  rintro i m ys H ⟨rfl, le, p⟩
  have seq := stays i ys H le p
  rcases Nat.lt_or_ge i xs.length with lt | ge
  · refine .inr ⟨⟨xs, xs[i], seq, List.getElem?_eq_getElem lt⟩, Pv (i + 1), fun ys' H' p' => ⟨xs.length - (i + 1), by omega, rfl, lt, p'⟩, fun x H' y => ?_⟩
    obtain ⟨rfl, y⟩ := y
    exact turn i x ys _ (y xs seq) p
  · have e : i = xs.length := by omega
    subst e
    exact .inl ⟨⟨xs, seq, Nat.le_refl _⟩, after ys H p⟩
end
end Gx

/-! A table's substitution. -/
namespace Ad
open PySem PySem.Spec PySem.Calls PyProof.Rows L2 GxR
namespace Sb
def pick (tb : Sb) (i : Int) : Option (Int × T) := match look tb i with
  | some t => if t.isVar i = true then none else some (i, t)
  | none => none
def sel (tb : Sb) (ks : List Int) : Sb := ks.filterMap (pick tb)
theorem pick_iff {tb : Sb} {i j : Int} {t : T} : pick tb i = some (j, t) ↔ i = j ∧ look tb i = some t ∧ t.isVar i = false := by
  unfold pick
  cases h : look tb i with
  | none => exact ⟨(fun z => nomatch z), (fun z => nomatch z.2.1)⟩
  | some u =>
    show (if u.isVar i = true then none else some (i, u)) = some (j, t) ↔ _
    cases hv : u.isVar i with
    | true =>
      rw [if_pos rfl]
      refine ⟨(fun z => nomatch z), fun z => ?_⟩
      have e := Option.some.inj z.2.1
      rw [← e, hv] at z
      exact nomatch z.2.2
    | false =>
      rw [if_neg Bool.false_ne_true]
      constructor
      · intro z
        cases z
        exact ⟨rfl, rfl, hv⟩
      · rintro ⟨rfl, z, _⟩
        cases z
        rfl
theorem norm_sel {tb : Sb} {ks : List Int} (rising : ks.Pairwise (· < ·)) (all : ∀ i, i ∈ ks ↔ i ∈ tb.map (·.1)) : Norm tb (sel tb ks) := by
  constructor
  · unfold sel
    have key : ∀ l : List Int, l.Pairwise (· < ·) → ((l.filterMap (pick tb)).map (·.1)).Pairwise (· < ·) ∧ ∀ j ∈ (l.filterMap (pick tb)).map (·.1), j ∈ l := by
      intro l
      induction l with
      | nil => intro _; exact ⟨.nil, fun j hj => nomatch hj⟩
      | cons i l ih =>
        intro h
        obtain ⟨h1, h2⟩ := List.pairwise_cons.mp h
        obtain ⟨r1, r2⟩ := ih h2
        cases hp : pick tb i with
        | none =>
          rw [List.filterMap_cons, hp]
          exact ⟨r1, fun j hj => List.mem_cons_of_mem _ (r2 j hj)⟩
        | some e =>
          obtain ⟨k, t⟩ := e
          have ek := (pick_iff.1 hp).1
          subst ek
          rw [List.filterMap_cons, hp]
          refine ⟨List.pairwise_cons.mpr ⟨fun j hj => h1 j (r2 j hj), r1⟩, fun j hj => ?_⟩
          rcases List.mem_cons.mp hj with z | z
          · rw [z]
            exact List.mem_cons_self
          · exact List.mem_cons_of_mem _ (r2 j z)
    exact (key ks rising).1
  · intro i t
    unfold sel
    rw [List.mem_filterMap]
    constructor
    · rintro ⟨k, _, hp⟩
      obtain ⟨rfl, h1, h2⟩ := pick_iff.1 hp
      exact ⟨h1, h2⟩
    · rintro ⟨h1, h2⟩
      exact ⟨i, (all i).2 ((look_key tb i).1 (by rw [h1]; rfl)), pick_iff.2 ⟨rfl, h1, h2⟩⟩
theorem sel_take {tb : Sb} {ks : List Int} {n : Nat} {i : Int} (h : ks[n]? = some i) : sel tb (ks.take (n + 1)) = sel tb (ks.take n) ++ (match pick tb i with
    | some e => [e]
    | none => []) := by
  unfold sel
  rw [List.take_add_one, h, List.filterMap_append]
  congr 1
  show List.filterMap (pick tb) [i] = _
  cases hp : pick tb i with
  | none => rw [List.filterMap_cons, hp]; rfl
  | some e => rw [List.filterMap_cons, hp]; rfl
end Sb
/-- all in a table can be compared -/
def Good (tb : Sb) : Prop := ∀ e ∈ tb, e.2.named = true ∧ e.2.dep ≤ 60
theorem TV.at {K : PySem.W.Frag} {H : Hp} {tb : Sb} {kvs : List (L2.Key × V)} (h : TV K H tb kvs) {i : Int} (m : i ∈ tb.map (·.1)) : ∃ t v, tb.look i = some t ∧ valV kvs (.inl i) = some v ∧ Tm K H t v := by
  rcases h.val i with ⟨a, _⟩ | z
  · have := (Sb.look_key tb i).2 m
    rw [a] at this
    cases this
  · exact z
theorem int_shaped (i : Int) : SeqAt.shaped (.int i) = true := rfl
theorem tab_same {H H' : Hp} {P : Addr} (s : Same H H') (t : TabG H P) : TabG H' P := by
  obtain ⟨ps, e, ok⟩ := t
  exact ⟨ps, s _ _ e, ok⟩
theorem tab_tk {H H' : Hp} {P : Addr} (t : TabG H P) (k : ∀ b o, b ≠ P → H b = some o → H' b = some o) : TK H H' := by
  obtain ⟨ps, e, ok⟩ := t
  intro b xs
  refine ⟨fun h => k b _ (fun z => ?_) h, fun o h => k b _ (fun z => ?_) h⟩
  · rw [z, e] at h
    cases h
  · rw [z, e] at h
    cases h
section
variable {P : Program} {w : World} {K : PySem.W.Frag} {mg : Str → Option Value} {base : Heap}
theorem tab_upd {H : Hp} {P q : Addr} {o : HO} (t : TabG H P) (n : H q = none) : TabG (upd H q o) P := by
  obtain ⟨ps, e, ok⟩ := t
  exact ⟨ps, by rw [upd_ne (ne_of_none e n)]; exact e, ok⟩
end
def spSubst (K : PySem.W.Frag) (Pt : Addr) : Sp := fun vs H Q _ => ∃ (d : Addr) (tb : Sb) (kvs : List (L2.Key × V)), vs = [.ref d] ∧ H d = some (.dK kvs) ∧ TV K H tb kvs ∧ (tb.map (·.1)).Nodup ∧ tb.length < 64 ∧ Good tb ∧ TabG H Pt ∧
  ∀ su x H', tb.Norm su → Su K H' su x → (∀ b o, b ≠ Pt → H b = some o → H' b = some o) → TabG H' Pt → Q x H'
end Ad

/-! One substitution behind another. -/
namespace Ad
open PySem PySem.Spec PySem.Calls PyProof.Rows L2 GxR
namespace Sb
def beh (one other : Sb) : Sb := one.foldl (fun tb e => put tb e.1 (T.fill (asg other) e.2)) other
theorem beh_take {one other : Sb} {i : Nat} {e : Int × T} (h : one[i]? = some e) : beh (one.take (i + 1)) other = put (beh (one.take i) other) e.1 (T.fill (asg other) e.2) := by
  unfold beh
  rw [List.take_add_one, h, List.foldl_append]
  rfl
theorem fold_look (other : Sb) (s : Int → T) : ∀ (one tb : Sb), (one.map (·.1)).Nodup → ∀ i, look (one.foldl (fun tb e => put tb e.1 (T.fill s e.2)) tb) i = match look one i with
    | some t => some (T.fill s t)
    | none => look tb i
  | [], tb, _, i => rfl
  | e :: one, tb, nd, i => by
    obtain ⟨n1, n2⟩ := List.nodup_cons.mp nd
    rw [List.foldl_cons, fold_look other s one _ n2]
    have e1 : look (e :: one) i = if e.1 = i then some e.2 else look one i := rfl
    rw [e1, look_put]
    by_cases h : e.1 = i
    · rw [if_pos h, if_pos h]
      have out : look one i = none := by
        cases z : look one i with
        | none => rfl
        | some t =>
          have := (look_key one i).1 (by rw [z]; rfl)
          rw [← h] at this
          exact absurd this n1
      rw [out]
    · rw [if_neg h, if_neg h]
theorem beh_look {one other : Sb} (nd : (one.map (·.1)).Nodup) (i : Int) : look (beh one other) i = match look one i with
    | some t => some (T.fill (asg other) t)
    | none => look other i := fold_look other _ one other nd i
/-- putting in by it is putting in by one, then by the other -/
theorem beh_asg {one other : Sb} (nd : (one.map (·.1)).Nodup) (i : Int) : asg (beh one other) i = T.fill (asg other) (asg one i) := by
  show (look (beh one other) i).getD (.v i) = T.fill (asg other) ((look one i).getD (.v i))
  rw [beh_look nd]
  cases look one i <;> rfl
theorem nodup_fold (s : Int → T) : ∀ (one tb : Sb), (tb.map (·.1)).Nodup → ((one.foldl (fun tb e => put tb e.1 (T.fill s e.2)) tb).map (·.1)).Nodup
  | [], tb, h => h
  | e :: one, tb, h => nodup_fold s one _ (nodup_put h _ _)
theorem len_fold (s : Int → T) : ∀ (one tb : Sb), (one.foldl (fun tb e => put tb e.1 (T.fill s e.2)) tb).length ≤ tb.length + one.length
  | [], tb => Nat.le_refl _
  | e :: one, tb => by
    have h1 := len_fold s one (put tb e.1 (T.fill s e.2))
    have h2 := len_put tb e.1 (T.fill s e.2)
    rw [List.foldl_cons, List.length_cons]
    omega
end Sb
section
variable {P : Program} {w : World} {K : PySem.W.Frag} {mg : Str → Option Value} {base : Heap}
theorem dict_of {H : Hp} {a : Addr} {bs : List Addr} {su : Sb} (tup : Dt.Tup0 H a (bs.map V.ref)) (prs : F2 (SP K H) su bs) (nd : (su.map (·.1)).Nodup) : ∃ kvs, Paired (fun p kv => SqT K H p [kV kv.1, kv.2]) bs kvs ∧ TV K H su kvs ∧ mergeK [] kvs = kvs := by
  obtain ⟨kvs, pd, tv⟩ := sp_pairs prs
  refine ⟨kvs, pd, tv, ?_⟩
  have z := merge_all kvs [] (by
    rw [List.nil_append, tv.keys]
    exact List.Pairwise.map Sum.inl (fun a b h e => h (Sum.inl.inj e)) nd)
  rw [z, List.nil_append]
def spBehind (K : PySem.W.Frag) (Pt : Addr) (n : Nat) : Sp := fun vs H Q _ => ∃ (one other : Sb) (x y : V), vs = [x, y] ∧ Su K H one x ∧ Su K H other y ∧ (one.map (·.1)).Nodup ∧ (other.map (·.1)).Nodup ∧ (∀ e ∈ one, e.2.dep < n ∧ e.2.size ≤ 10000) ∧ one.length + other.length < 64 ∧
  Good (Sb.beh one other) ∧ TabG H Pt ∧ ∀ su z H', (Sb.beh one other).Norm su → Su K H' su z → (∀ b o, b ≠ Pt → H b = some o → H' b = some o) → TabG H' Pt → Q z H'
end
end Ad

namespace Ad
open PySem PySem.Spec PySem.Calls PyProof.Rows L2 GxR
def spLPairs (K : PySem.W.Frag) : Sp := fun vs H Q _ => ∃ (d : Addr) (tb : Sb) (kvs : List (L2.Key × V)), vs = [.ref d] ∧ H d = some (.dK kvs) ∧ TV K H tb kvs ∧ (tb.map (·.1)).Nodup ∧ tb.length < 64 ∧ Good tb ∧
  ∀ su x H', tb.Norm su → Su K H' su x → Same H H' → Q x H'
end Ad

/-! The law's own: behind; renamed; drawn pairs. -/
namespace Ad
open PySem PySem.Spec PySem.Calls PyProof.Rows L2 GxR
theorem dk_tk {H : Hp} {d : Addr} {kvs : List (L2.Key × V)} (h : H d = some (.dK kvs)) (o : HO) : TK H (upd H d o) := by
  intro b xs
  refine ⟨fun e => ?_, fun u e => ?_⟩
  · rw [upd_ne (fun z => by rw [z, h] at e; cases e)]
    exact e
  · rw [upd_ne (fun z => by rw [z, h] at e; cases e)]
    exact e
section
variable {P : Program} {w : World} {K : PySem.W.Frag} {mg : Str → Option Value} {base : Heap}
def spLBeh (K : PySem.W.Frag) (n : Nat) : Sp := fun vs H Q _ => ∃ (one other : Sb) (x y : V), vs = [x, y] ∧ Su K H one x ∧ Su K H other y ∧ (one.map (·.1)).Nodup ∧ (other.map (·.1)).Nodup ∧ (∀ e ∈ one, e.2.dep < n ∧ e.2.size ≤ 10000) ∧ one.length + other.length < 64 ∧
  Good (Sb.beh one other) ∧ ∀ su z H', (Sb.beh one other).Norm su → Su K H' su z → Same H H' → Q z H'
end
/-! ### renamed -/
namespace Sb
/-- the variables of a row, in the order in which they come, called first, first + 1, .. -/
def ren (first : Int) (tb : Sb) : List Int → Sb
  | [] => tb
  | i :: l => ren first (if (look tb i).isSome = true then tb else put tb i (.v (first + (tb.length : Int)))) l
theorem ren_app (first : Int) : ∀ (l m : List Int) (tb : Sb), ren first tb (l ++ m) = ren first (ren first tb l) m
  | [], m, tb => rfl
  | i :: l, m, tb => ren_app first l m _
theorem ren_len (first : Int) : ∀ (l : List Int) (tb : Sb), (ren first tb l).length ≤ tb.length + l.length
  | [], tb => Nat.le_refl _
  | i :: l, tb => by
    have h1 := ren_len first l (if (look tb i).isSome = true then tb else put tb i (.v (first + (tb.length : Int))))
    have h2 := len_put tb i (.v (first + (tb.length : Int)))
    show (ren first _ l).length ≤ tb.length + (l.length + 1)
    split at h1
    · rename_i z
      rw [if_pos z]
      omega
    · rename_i z
      rw [if_neg z]
      omega
end Sb
namespace T
def varOf : T → List Int
  | .v i => [i]
  | .f _ _ => []
mutual
theorem parts_vars : ∀ t : T, t.parts.flatMap varOf = t.vars
  | .v i => rfl
  | .f x ts => by
    show (T.f x ts :: partsL ts).flatMap varOf = varsL ts
    rw [List.flatMap_cons, partsL_vars ts]
    rfl
theorem partsL_vars : ∀ ts : List T, (partsL ts).flatMap varOf = varsL ts
  | [] => rfl
  | t :: ts => by
    show (parts t ++ partsL ts).flatMap varOf = vars t ++ varsL ts
    rw [List.flatMap_append, parts_vars t, partsL_vars ts]
end
end T
end Ad

/-! Drawn orders. -/
namespace Ad
open PySem PySem.Spec PySem.Calls PyProof.Rows L2
/-- a name and its number of arguments -/
abbrev Pr := Str × Nat
def PrV (K : PySem.W.Frag) (H : Hp) (r : Pr) (v : V) : Prop := ∃ b, v = .ref b ∧ SqT K H b [.str r.1, .int (r.2 : Int)]
theorem PrV.mono {K : PySem.W.Frag} {H H' : Hp} (k : TK H H') (r : Pr) (v : V) (h : PrV K H r v) : PrV K H' r v := by
  obtain ⟨b, e, s⟩ := h
  exact ⟨b, e, k.sq s⟩
/-- a list of such pairs -/
def LsP (K : PySem.W.Frag) (H : Hp) (R : List Pr) (a : Addr) : Prop := ∃ vs, H a = some (.lst vs) ∧ F2 (PrV K H) R vs
theorem LsP.same {K : PySem.W.Frag} {H H' : Hp} (s : Same H H') {R : List Pr} {a : Addr} (h : LsP K H R a) : LsP K H' R a := by
  obtain ⟨vs, e, f⟩ := h
  exact ⟨vs, s _ _ e, f.mono (PrV.mono (TK.same s))⟩
section
variable {K : PySem.W.Frag} {σ : L2.St} {H : Hp} {Q : VK}
abbrev tPr (x : Str) (n : Int) : TE := tTup (tCons (tC (.str x)) (tCons (tC (.int n)) tNil))
theorem lit_pr (K : PySem.W.Frag) {x : Str} {n : Nat} (h : ∀ v G, Same H G → PrV K G (x, n) v → Q v G) : tPr x (n : Int) σ H Q :=
  ⟨(by show 2 ≤ sizeLine; decide), fun p np => h _ _ (same_new (fun b o e => e) np _) ⟨p, rfl, .inl (.inl upd_same)⟩⟩
theorem lit_ls1 (K : PySem.W.Frag) {x : Str} {n : Nat} (h : ∀ a G, Same H G → H a = none → LsP K G [(x, n)] a → Q (.ref a) G) : tLst (tCons (tPr x (n : Int)) tNil) σ H Q := by
  show tPr x (n : Int) σ H (fun v G => [v].length ≤ sizeLine ∧ ∀ p, G p = none → Q (.ref p) (upd G p (.lst [v])))
  refine lit_pr K fun v G s pv => ⟨(by show 1 ≤ sizeLine; decide), fun p np => h p _ (same_new s np _) ?_ ⟨_, upd_same, F2.one (PrV.mono (TK.new np _) _ _ pv)⟩⟩
  cases z : H p with
  | none => rfl
  | some o =>
    rw [s _ _ z] at np
    cases np
theorem lit_ls2 (K : PySem.W.Frag) {x y : Str} {n m : Nat} (h : ∀ a G, Same H G → H a = none → LsP K G [(x, n), (y, m)] a → Q (.ref a) G) : tLst (tCons (tPr x (n : Int)) (tCons (tPr y (m : Int)) tNil)) σ H Q := by
  show tPr x (n : Int) σ H (fun v G => tPr y (m : Int) σ G (fun v2 G2 => [v, v2].length ≤ sizeLine ∧ ∀ p, G2 p = none → Q (.ref p) (upd G2 p (.lst [v, v2]))))
  refine lit_pr K fun v G s pv => lit_pr K fun v2 G2 s2 pv2 => ⟨(by show 2 ≤ sizeLine; decide), fun p np => h p _ (same_new (show Same H G2 from fun b o e => s2 b o (s b o e)) np _) ?_ ⟨_, upd_same, ⟨_, _, rfl, PrV.mono ((TK.same s2).trans (TK.new np _)) _ _ pv, F2.one (PrV.mono (TK.new np _) _ _ pv2)⟩⟩⟩
  cases z : H p with
  | none => rfl
  | some o =>
    rw [s2 _ _ (s _ _ z)] at np
    cases np
theorem lit_ls0 (K : PySem.W.Frag) (h : ∀ a G, Same H G → H a = none → LsP K G [] a → Q (.ref a) G) : tLst tNil σ H Q :=
  ⟨Nat.zero_le _, fun p np => h p _ (same_new (fun b o e => e) np _) np ⟨_, upd_same, rfl⟩⟩
theorem cat_prs {R S : List Pr} {a b : Addr} (ha : LsP K H R a) (hb : LsP K H S b) (few : R.length + S.length ≤ 1000) (h : ∀ c G, Same H G → H c = none → LsP K G (R ++ S) c → Q (.ref c) G) : rCat (.ref a) (.ref b) H Q := by
  obtain ⟨xs, e1, f1⟩ := ha
  obtain ⟨ys, e2, f2⟩ := hb
  have l1 := f1.len
  have l2 := f2.len
  refine ⟨a, b, xs, ys, rfl, rfl, e1, e2, by rw [sizeLine_eq]; omega, fun p np => h p _ (same_new (fun b o e => e) np _) np ⟨_, upd_same, ?_⟩⟩
  exact (f1.app f2).mono (PrV.mono (TK.new np _))
end
section
variable {K : PySem.W.Frag} {σ : L2.St} {H : Hp}
theorem lit_truths (K : PySem.W.Frag) {Q : List V → Hp → Prop} (h : ∀ a G xs, Same H G → H a = none → G a = some (.lst xs) → xs.length = 3 → (∀ v ∈ xs, ∃ b S, v = .ref b ∧ H b = none ∧ LsP K G S b ∧ S ∈ [[(("q" : Str), 0)], [("r", 2)], [("q", 0), ("r", 2)]]) → Q [.ref a] G) :
    tCons (tLst (tCons (tLst (tCons (tPr "q" 0) tNil)) (tCons (tLst (tCons (tPr "r" 2) tNil)) (tCons (tLst (tCons (tPr "q" 0) (tCons (tPr "r" 2) tNil))) tNil)))) tNil σ H Q := by
  dsimp only [tCons]
  show tLst (tCons (tPr "q" ((0 : Nat) : Int)) tNil) σ H (fun v1 G1 => tLst (tCons (tPr "r" ((2 : Nat) : Int)) tNil) σ G1 (fun v2 G2 => tLst (tCons (tPr "q" ((0 : Nat) : Int)) (tCons (tPr "r" ((2 : Nat) : Int)) tNil)) σ G2 (fun v3 G3 => [v1, v2, v3].length ≤ sizeLine ∧ ∀ p, G3 p = none → Q [.ref p] (upd G3 p (.lst [v1, v2, v3])))))
  refine lit_ls1 K fun a1 G1 s1 n1 L1 => lit_ls1 K fun a2 G2 s2 n2 L2 => lit_ls2 K fun a3 G3 s3 n3 L3 => ⟨(by show 3 ≤ sizeLine; decide), fun p np => ?_⟩
  have sm : Same H G3 := fun b o e => s3 b o (s2 b o (s1 b o e))
  have back : ∀ {q : Addr} {G : Hp}, Same H G → G q = none → H q = none := fun {q G} s n => by
    cases z : H q with
    | none => rfl
    | some o =>
      rw [s _ _ z] at n
      cases n
  have s4 : Same G3 (upd G3 p (.lst [.ref a1, .ref a2, .ref a3])) := same_new (fun b o e => e) np _
  refine h p _ _ (fun b o e => s4 b o (sm b o e)) (back sm np) upd_same rfl ?_
  intro v hv
  rcases List.mem_cons.mp hv with e | hv
  · exact ⟨a1, _, e, n1, ((L1.same s2).same s3).same s4, by simp⟩
  · rcases List.mem_cons.mp hv with e | hv
    · exact ⟨a2, _, e, back s1 n2, (L2.same s3).same s4, by simp⟩
    · exact ⟨a3, _, List.mem_singleton.mp hv, back (show Same H G2 from fun b o e => s2 b o (s1 b o e)) n3, L3.same s4, by simp⟩
end
/-! ### frames of a pen -/
theorem but_on {p d : Addr} {H G : Hp} (b : Pn.But p H G) (n : H d = none) (o : HO) : Pn.But p H (upd G d o) := fun q u nq e => by
  rw [upd_ne (fun z => by rw [z, n] at e; cases e)]
  exact b _ _ nq e
theorem pen_on {H G : Hp} {p l d : Addr} {ns : List Int} {c0 c : Nat} (P0 : Pn.Pen H p l ns c0) (n : H d = none) (P : Pn.Pen G p l ns c) (o : HO) : Pn.Pen (upd G d o) p l ns c := by
  obtain ⟨⟨a0, d0, f0, e0, _⟩, h0⟩ := P0
  obtain ⟨⟨a, d1, f, e, r⟩, h⟩ := P
  have n1 : p ≠ d := fun z => by rw [z, n] at e0; cases e0
  have n2 : l ≠ d := fun z => by rw [z, n] at h0; cases h0
  exact ⟨⟨a, d1, f, by rw [upd_ne n1]; exact e, r⟩, by rw [upd_ne n2]; exact h⟩
theorem fresh_back {H G : Hp} {p l q : Addr} {ns : List Int} {c : Nat} (b : Pn.But p H G) (P : Pn.Pen G p l ns c) (n : G q = none) : H q = none := by
  cases z : H q with
  | none => rfl
  | some o =>
    by_cases e : q = p
    · obtain ⟨⟨_, _, _, e0, _⟩, _⟩ := P
      rw [e, e0] at n
      cases n
    · rw [b _ _ e z] at n
      cases n
theorem pen_kept {H : Hp} {p l d : Addr} {ns : List Int} {c : Nat} (P : Pn.Pen H p l ns c) (n : H d = none) : d ≠ p := fun z => by
  obtain ⟨⟨_, _, _, e0, _⟩, _⟩ := P
  rw [z, e0] at n
  cases n
theorem LsP.but {K : PySem.W.Frag} {H H' : Hp} {p l : Addr} {ns : List Int} {c : Nat} (P : Pn.Pen H p l ns c) (b : Pn.But p H H') {R : List Pr} {a : Addr} (na : a ≠ p) (h : LsP K H R a) : LsP K H' R a := by
  obtain ⟨vs, e, f⟩ := h
  exact ⟨vs, b _ _ na e, f.mono (PrV.mono (pen_tk P b))⟩
/-! ### the order -/
def thingsB : List (List Pr) := [[("a", 0), ("b", 0), ("c", 0), ("f", 1), ("g", 2)], [("a", 0), ("b", 0), ("f", 1), ("g", 2)], [("a", 0), ("b", 0), ("c", 0), ("f", 1)], [("a", 0), ("b", 0), ("f", 1)]]
def truthsB : List (List Pr) := [[("p", 1), ("q", 0)], [("p", 1), ("r", 2)], [("p", 1), ("q", 0), ("r", 2)]]
/-- the same names in some order, with weights of one and two -/
structure Mixed (B : List Pr) (R : List Row) : Prop where
  perm : (R.map fun r => (r.1, r.2.1)).Perm B
  weights : ∀ r ∈ R, r.2.2 = 1 ∨ r.2.2 = 2
def KdV (K : PySem.W.Frag) (H : Hp) (B : List Pr) (v : V) : Prop := ∃ b R vs, v = .ref b ∧ Mixed B R ∧ SqT K H b vs ∧ F2 (RowV K H) R vs
theorem KdV.mono {K : PySem.W.Frag} {H H' : Hp} (k : TK H H') (B : List Pr) (v : V) (h : KdV K H B v) : KdV K H' B v := by
  obtain ⟨b, R, vs, e, m, s, f⟩ := h
  exact ⟨b, R, vs, e, m, k.sq s, f.mono (RowV.mono k)⟩
def OrdAt (K : PySem.W.Frag) (H : Hp) (a : Addr) (R S : List Row) : Prop := ∃ b1 b2 vs1 vs2, SqT K H a [.ref b1, .ref b2] ∧ SqT K H b1 vs1 ∧ SqT K H b2 vs2 ∧ F2 (RowV K H) R vs1 ∧ F2 (RowV K H) S vs2
theorem OrdAt.rows {K : PySem.W.Frag} {H : Hp} {a : Addr} {R S : List Row} (h : OrdAt K H a R S) : RowsAt K H a R := by
  obtain ⟨b1, b2, vs1, vs2, h0, h1, h2, f1, f2⟩ := h
  exact ⟨b1, _, vs1, h0, h1, f1⟩
theorem OrdAt.mono {K : PySem.W.Frag} {H H' : Hp} (k : TK H H') {a : Addr} {R S : List Row} (h : OrdAt K H a R S) : OrdAt K H' a R S := by
  obtain ⟨b1, b2, vs1, vs2, h0, h1, h2, f1, f2⟩ := h
  exact ⟨b1, b2, vs1, vs2, k.sq h0, k.sq h1, k.sq h2, f1.mono (RowV.mono k), f2.mono (RowV.mono k)⟩
theorem mixed_ok {B : List Pr} {R : List Row} (hB : B ∈ thingsB) (m : Mixed B R) : ROk R := by
  have h : (thingsB.all fun B => B.all (fun r => nameOk r.1 && decide (r.2 ≤ 3)) && B.contains ("a", 0) && decide (B.length ≤ 5)) = true := by decide +kernel
  have h1 := List.all_eq_true.mp h B hB
  rw [Bool.and_eq_true, Bool.and_eq_true] at h1
  obtain ⟨⟨h2, h3⟩, h4⟩ := h1
  refine ⟨fun r hr => ?_, ?_, ?_⟩
  · have z : (r.1, r.2.1) ∈ B := m.perm.mem_iff.mp (List.mem_map.mpr ⟨r, hr, rfl⟩)
    have z2 := List.all_eq_true.mp h2 _ z
    rw [Bool.and_eq_true] at z2
    exact ⟨z2.1, of_decide_eq_true z2.2⟩
  · have z : (("a", 0) : Pr) ∈ B := List.contains_iff_mem.mp h3
    obtain ⟨r, hr, e⟩ := List.mem_map.mp (m.perm.mem_iff.mpr z)
    obtain ⟨j, hj⟩ := List.mem_iff_getElem?.mp hr
    exact ⟨j, r, hj, (Prod.mk.inj e).2⟩
  · have e := m.perm.length_eq
    rw [List.length_map] at e
    have := of_decide_eq_true h4
    omega
theorem F2.erase {α β : Type} {R : α → β → Prop} : ∀ {xs : List α} {ys : List β} (k : Nat), F2 R xs ys → F2 R (xs.eraseIdx k) (ys.eraseIdx k)
  | [], ys, k, h => by
    cases (show ys = [] from h)
    exact rfl
  | x :: xs, ys, 0, h => by
    obtain ⟨y, zs, rfl, h1, h2⟩ := h
    exact h2
  | x :: xs, ys, k + 1, h => by
    obtain ⟨y, zs, rfl, h1, h2⟩ := h
    exact ⟨y, _, rfl, h1, F2.erase k h2⟩
theorem erase_perm {α : Type} : ∀ {xs : List α} {k : Nat} {x : α}, xs[k]? = some x → xs.Perm (x :: xs.eraseIdx k)
  | [], k, x, h => by cases h
  | y :: ys, 0, x, h => by
    cases h
    exact List.Perm.refl _
  | y :: ys, k + 1, x, h => ((erase_perm (xs := ys) (k := k) h).cons y).trans (List.Perm.swap x y _)
theorem sx_nat {j n : Nat} (h : j < n) : seqIndex? (j : Int) n = some j := by
  unfold seqIndex?
  have h1 : ¬ ((j : Int) < 0) := by omega
  have h2 : (decide (0 ≤ (j : Int)) && decide ((j : Int) < (n : Int))) = true := by
    rw [decide_eq_true (by omega), decide_eq_true (by omega)]
    rfl
  simp only [if_neg h1, h2, if_true, Int.toNat_natCast]
/-- what stays but for a pen and two lists -/
def Bt (p u v : Addr) (G G' : Hp) : Prop := ∀ b o, b ≠ p → b ≠ u → b ≠ v → G b = some o → G' b = some o
theorem Bt.refl {p u v : Addr} (G : Hp) : Bt p u v G G := fun _ _ _ _ _ e => e
theorem Bt.but {p u v : Addr} {G G1 G2 : Hp} (a : Bt p u v G G1) (b : Pn.But p G1 G2) : Bt p u v G G2 := fun c o n1 n2 n3 e => b _ _ n1 (a _ _ n1 n2 n3 e)
theorem Bt.u {p u v : Addr} {G G1 : Hp} (a : Bt p u v G G1) (o : HO) : Bt p u v G (upd G1 u o) := fun c o n1 n2 n3 e => by
  rw [upd_ne n2]
  exact a _ _ n1 n2 n3 e
theorem Bt.v {p u v : Addr} {G G1 : Hp} (a : Bt p u v G G1) (o : HO) : Bt p u v G (upd G1 v o) := fun c o n1 n2 n3 e => by
  rw [upd_ne n3]
  exact a _ _ n1 n2 n3 e
theorem Bt.tk {p u v l : Addr} {ns : List Int} {c : Nat} {G G1 : Hp} {us vs : List V} (a : Bt p u v G G1) (P : Pn.Pen G p l ns c) (hu : G u = some (.lst us)) (hv : G v = some (.lst vs)) : TK G G1 := by
  obtain ⟨⟨_, _, _, e0, _⟩, _⟩ := P
  have n : ∀ b o, (∀ kvs, o ≠ HO.dK kvs) → (∀ xs, o ≠ HO.lst xs) → G b = some o → b ≠ p ∧ b ≠ u ∧ b ≠ v := fun b o h1 h2 e => by
    refine ⟨fun z => ?_, fun z => ?_, fun z => ?_⟩
    · rw [z, e0] at e
      cases e
      exact h1 _ rfl
    · rw [z, hu] at e
      cases e
      exact h2 _ rfl
    · rw [z, hv] at e
      cases e
      exact h2 _ rfl
  intro b xs
  refine ⟨fun e => ?_, fun o e => ?_⟩
  · obtain ⟨n1, n2, n3⟩ := n b _ (by intro _ z; cases z) (by intro _ z; cases z) e
    exact a _ _ n1 n2 n3 e
  · obtain ⟨n1, n2, n3⟩ := n b _ (by intro _ z; cases z) (by intro _ z; cases z) e
    exact a _ _ n1 n2 n3 e
def spOrder (K : PySem.W.Frag) : Sp := fun vs H Q _ => ∃ (p l : Addr) (ns : List Int) (c : Nat), vs = [.ref p] ∧ Pn.Pen H p l ns c ∧ ns.length ≤ 1000 ∧ c ≤ 900000000 ∧
  ∀ a R S B C H' c', OrdAt K H' a R S → B ∈ thingsB → C ∈ truthsB → Mixed B R → Mixed C S → c' ≤ c + 40 → Pn.Pen H' p l ns c' → Pn.But p H H' → Q (.ref a) H'
end Ad

/-! enumerate(t) of a tuple; walks over a list or a tuple. -/
namespace Et
open PySem PySem.Spec PySem.Calls PyProof.Rows L2 RZ
theorem draws {prog : Program} {w : World} {A : Around} (hh : A.handled = none) (it l : Addr) (hl : l ≠ it) (items : Array Value) :
    Draws prog w A it [it, l] items.size (fun i v => items[i]? = some v) (fun i h => h.IsTupleIter it l i ∧ h.IsTuple l items) where
  live := fun _ _ ⟨⟨o, ho, _⟩, _⟩ => ⟨o, ho⟩
  frame := fun _ _ _ ⟨st, tp⟩ hk => ⟨st.at fun o e => hk it (by simp) o e, by
    obtain ⟨o, e, r⟩ := tp
    exact ⟨o, hk l (by simp) o e, r⟩⟩
  item := fun i s Q E hi ⟨st, tp⟩ hQ => by
    refine nextOf_tuple_item st tp (x := items[i]) (by simp [hi]) fun h' hit' hs' => ?_
    refine hQ _ h' s.toks (by simp [hi]) ⟨hit', ?_⟩ hs'
    obtain ⟨o, e, r⟩ := tp
    exact ⟨o, hs'.extBut _ _ hl e, r⟩
  done := fun s Q E ⟨st, tp⟩ hE => nextOf_tuple_end hh st tp (by simp) hE
theorem meets_newT (l : Addr) (items : Array Value) :
    Meets (Builtin.«enumerate.__new__» ⟨[.type "enumerate", .ref l], []⟩) (fun _ R s => s.heap.IsTuple l items ∧
      R (.ok (.ret (.ref (s.heap.push { cls := .type "tuple_iterator", data := .fields #[.ref l, .int 0 0] }).objs.size)))
        { s with heap := (s.heap.push { cls := .type "tuple_iterator", data := .fields #[.ref l, .int 0 0] }).push { cls := .type "enumerate", data := .fields #[.none, .bool false, .ref s.heap.objs.size, rawInt 0, .none, .none] } }) :=
  .of_wp fun prog w A R s h => by
    obtain ⟨hp, g, d, tk, os⟩ := s; obtain ⟨hL, h⟩ := h
    have hsub := sub_enumerate
    have hL : Heap.IsTuple (Shared.heap ⟨hp, g, d, tk, os⟩) l items := hL
    wp_walk
    refine wpAny_stack_any fun st => wpAny_pure ?_
    split
    · rename_i c _ _ _ _ _
      cases (c == Value.type "enumerate")
      · wp_walk using wpAny_pyIter_tuple hL
        exact ⟨_, rfl, h⟩
      · wp_walk using wpAny_pyIter_tuple hL
        exact ⟨_, rfl, h⟩
    · wp_walk using wpAny_pyIter_tuple hL
      exact ⟨_, rfl, h⟩
section
variable {prog : Program} {w : World} {A : Around} {E : Value → Shared → Prop} {s : Shared}
theorem call_enumT {l : Addr} {items : Array Value} {Q : Value → Shared → Prop} (hL : s.heap.IsTuple l items)
    (h : ∀ h', IsEnum h' (s.heap.objs.size + 1) s.heap.objs.size 0 .none → h'.IsTupleIter s.heap.objs.size l 0 → h'.objs.size = s.heap.objs.size + 2 →
      (∀ b o, s.heap.get? b = some o → h'.get? b = some o) → Q (.ref (s.heap.objs.size + 1)) { s with heap := h' }) :
    wpAny (model prog w) A (call (.type "enumerate") [.ref l]) Q E s := by
  refine callType_new F.called_enumerate (by decide) (F.typeCall_enumerate_1 _) (F.newCall_enumerate_1 _) (fun obj => F.args_object_init_2 obj _) F.entry_enumerate_new
    (meets_newT l items) ⟨hL, ?_⟩
  have hz : (s.heap.push { cls := .type "tuple_iterator", data := .fields #[.ref l, .int 0 0] }).objs.size = s.heap.objs.size + 1 := Heap.size_push ..
  show _ ∧ _
  rw [hz]
  have he : IsEnum ((s.heap.push { cls := .type "tuple_iterator", data := .fields #[.ref l, .int 0 0] }).push
      { cls := .type "enumerate", data := .fields #[.none, .bool false, .ref s.heap.objs.size, rawInt 0, .none, .none] }) (s.heap.objs.size + 1) s.heap.objs.size 0 .none := by
    have := Heap.get?_push_size (s.heap.push { cls := .type "tuple_iterator", data := .fields #[.ref l, .int 0 0] })
      (o := { cls := .type "enumerate", data := .fields #[.none, .bool false, .ref s.heap.objs.size, rawInt 0, .none, .none] }) rfl
    rw [hz] at this; exact this
  refine ⟨⟨_, he, rfl⟩, h _ he ⟨_, Heap.get?_push_of_some _ (Heap.get?_push_size _ rfl), rfl, rfl⟩ (by rw [Heap.size_push, hz]) fun b o x => Heap.get?_push_of_some _ (Heap.get?_push_of_some _ x)⟩
end
/-- the tuple at a, each item in a new pair -/
def IteT (K : PySem.W.Frag) (a : Addr) : It :=
  ⟨fun i H => ∃ (xs : List V) (x : V), SqT K H a xs ∧ xs[i]? = some x, fun i H v H' => ∃ T x, v = .ref T ∧ H T = none ∧ H' = upd H T (.tup [.int (i : Nat), x]) ∧ ∀ xs, SqT K H a xs → xs[i]? = some x, fun i H => ∃ xs : List V, SqT K H a xs ∧ xs.length ≤ i⟩
theorem turn_enumT {P : Program} {w : World} {K : PySem.W.Frag} {elts : List Expr} {kk : Nat} {tpos : Pos} (a e it : Addr) :
    Turn P w K (.Tuple elts kk tpos) (IteT K a) [e, it] e (fun i h => (∃ old, IsEnum h e it ((i : Nat) : Int) old) ∧ h.IsTupleIter it a i ∧ e ≠ it ∧ a ≠ e ∧ a ≠ it) where
  mem := by simp
  obj := fun i h st b hb => by
    obtain ⟨⟨old, he⟩, ⟨o, ho, hc, hd⟩, _⟩ := st
    have e' : b = e ∨ b = it := by simpa using hb
    rcases e' with z | z
    · rw [z]; exact ⟨_, he, fun v q => nomatch q⟩
    · rw [z]; exact ⟨o, ho, fun v q => by rw [hd] at q; cases q⟩
  keep := fun i h h' st k => let ⟨⟨old, he⟩, hi, hne, r⟩ := st; ⟨⟨old, k e (by simp) _ he⟩, hi.at fun o q => k it (by simp) o q, hne, r⟩
  item := by
    intro X hP hw hK hc i pins s σ H E I hf st hg
    subst hP hw hK
    obtain ⟨⟨old, he⟩, hit, hne, ae, ai⟩ := st
    obtain ⟨xs, x, hq, hx⟩ := hg
    obtain ⟨its, rv, p, hz⟩ := I.tuple hq
    obtain ⟨u, hu, ru⟩ := rv.get hx
    have hel : e < s.heap.objs.size := Heap.lt_size he
    have hil : it < s.heap.objs.size := by obtain ⟨_, q, _⟩ := hit; exact Heap.lt_size q
    have lt : i < its.toArray.size := by
      have := (List.getElem?_eq_some_iff.mp hu).1
      simpa using this
    refine wpAny_pyNext_enum_itemD (draws (A := X.A.in1) (show X.A.in1.handled = none from I.ok.hd hc) it a ai its.toArray) he ⟨hit, p⟩ lt hne (by simp [hne, Ne.symm ae]) fun u' h' tk hu' ho hst' hT hsz hk => ?_
    have eu : u' = u := by
      have z : its[i]? = some u' := by simpa using hu'
      rw [hu] at z
      exact (Option.some.inj z).symm
    subst eu
    refine ⟨_, rfl, wpAny_letOwnedTupleGo_enum (s := { s with heap := h', toks := tk + 1 }) ho fun h'' he' sb => ?_⟩
    have hT2 : h''.get? s.heap.objs.size = some { cls := .type "tuple", data := .seq #[.int i tk, u'] } := (sb.2 _ (Nat.ne_of_gt hel)).trans hT
    have new : ObjOk X.prog X.w (upd H s.heap.objs.size (.tup [.int (i : Nat), x])) h'' s.heap.objs.size (.tup [.int (i : Nat), x]) :=
      ⟨by show 2 ≤ sizeLine; decide, [.int i tk, u'], .cons ⟨_, rfl⟩ (.cons ru .nil), ⟨_, hT2, rfl, _, rfl⟩⟩
    have I1 : Inv X pins σ (upd H s.heap.objs.size (.tup [.int (i : Nat), x])) { s with heap := h'', toks := tk + 1 } :=
      I.turnedNew (ch := [e, it]) (fun b ob hb q => (sb.2 b (fun z => hb (by simp [z]))).trans (hk b ob (fun z => hb (by simp [z])) (fun z => hb (by simp [z])) q)) hf (Nat.le_refl _) new
    refine ⟨.ref s.heap.objs.size, _, I1, rfl, ⟨_, x, rfl, I.hok.fresh (Nat.le_refl _), rfl, fun ys hy => by rw [I.tuple_inj hy hq]; exact hx⟩, ⟨⟨u', ?_⟩, hst'.1.at fun o q => (sb.2 it (Ne.symm hne)).trans q, hne, ae, ai⟩, fun b hb => ?_⟩
    · have e1 : ((i + 1 : Nat) : Int) = (i : Int) + 1 := by omega
      rw [e1]; exact he'
    · have hb' : b < s.heap.objs.size := by
        have e' : b = e ∨ b = it := by simpa using hb
        rcases e' with z | z
        · rw [z]; exact hel
        · rw [z]; exact hil
      rw [upd_ne (Nat.ne_of_lt hb')]
      exact (hf b hb).1
  done := by
    intro X hP hw hK hc i pins s σ H E I hf st hg
    subst hP hw hK
    obtain ⟨⟨old, he⟩, hit, hne, ae, ai⟩ := st
    obtain ⟨xs, hq, hx⟩ := hg
    obtain ⟨its, rv, p, hz⟩ := I.tuple hq
    obtain ⟨f0, f1, f2, f3, f4, f5⟩ := hf it (by simp)
    have hl := rv.length
    have key : ∀ (Q : Option Value → Shared → Prop), (∀ h', Heap.ExtBut it s.heap h' → Q none { s with heap := h' }) → wpAny (model X.prog X.w) X.A (pyNext (.ref e)) Q E s := by
      intro Q hQ
      have hT : s.TypeIs (.ref e) "enumerate" := ⟨_, he, rfl⟩
      unfold pyNext
      refine wpAny_bind (wpAny_attempt (wpAny_callSpecial?_slot (name := Str.ofString "__next__") hT F.slot_enumerate_next
        (wpAny_call_entry F.slot_enumerate_next hT F.entry_enumerate_next ?_ (F.args_enumerate_next_1 _))))
      show wpAny _ _ (field (.ref e) 2 >>= _) _ _ _
      refine wpAny_bind (wpAny_field he rfl (x := .ref it) rfl ?_)
      refine wpAny_bind (nextOf_tuple_end (show X.A.in1.handled = none from I.ok.hd hc) hit p (by simp; omega) fun h' x he' hx' => ?_)
      obtain ⟨o, ho, hcx⟩ := hx'
      refine wpAny_bind (wpAny_isInstance (T := "StopIteration") (b := true) ⟨o, ho, hcx⟩ isSubtype_stop ?_)
      exact wpAny_pure (hQ _ he')
    exact key _ fun h' eb => ⟨rfl, I.turned (t' := s.toks) (fun b o hb q => eb b o hb q) f0 f1 f3 f4 f5⟩
  self := fun A i s Q E st h => let ⟨⟨_, he⟩, _⟩ := st; wpAny_pyIter_enum he h
def iEnumT (K : PySem.W.Frag) (ta : TA) : TI := fun σ H R => ta σ H fun vs H1 => ∃ a xs, vs = [.ref a] ∧ SqT K H1 a xs ∧ R (IteT K a) H1
theorem pi_enumT {X : Cx} {e : Expr} {ta : TA} {p pos tpos : Pos} {elts : List Expr} {kk : Nat} (hg : Gl X "enumerate") (hm : X.mg "enumerate" = none) (ha : PA X [e] ta) (hs : starEach [e] X.env = [(false, eval e X.env)] := by rfl) :
    PI X (.Tuple elts kk tpos) (.Call (.Name "enumerate" p) [e] [] pos) (iEnumT X.K ta) := by
  refine ⟨fun pins s σ H R I h => ?_⟩
  refine Call_ (ld_blt I hg hm boot_enumerate (PyProof.Rows.callWith_type1 (thn (ha.run pos pins s σ H _ I h) fun us s1 ⟨vs, H1, I1, r1, q1⟩ => ?_) hs rfl))
  obtain ⟨a, xs, ex, hq, q⟩ := q1
  subst ex
  cases r1 with
  | cons r rr =>
    cases rr
    cases r
    obtain ⟨its, rv, p', hz⟩ := I1.tuple hq
    have la : a < s1.heap.objs.size := p'.lt
    refine call_enumT p' fun h' he hit hsz hk => wpAny_pyIter_enum he ?_
    have I2 : Inv X pins σ H1 { s1 with heap := h' } := I1.kept (t' := s1.toks) hk
    refine ⟨s1.heap.objs.size + 1, [s1.heap.objs.size + 1, s1.heap.objs.size], _, _, H1, rfl, I2, turn_enumT a (s1.heap.objs.size + 1) s1.heap.objs.size, ⟨⟨.none, he⟩, hit, Nat.succ_ne_self _, Nat.ne_of_lt (Nat.lt_succ_of_lt la), Nat.ne_of_lt la⟩, fun b hb => ?_, q⟩
    have e' : b = s1.heap.objs.size + 1 ∨ b = s1.heap.objs.size := by simpa using hb
    have hle : s1.heap.objs.size ≤ b := by
      rcases e' with z | z
      · rw [z]; exact Nat.le_add_right _ _
      · rw [z]; exact Nat.le_refl _
    exact I1.fpOk hle (I1.hok.fresh hle)
/-! ### a list or a tuple -/
def iAny (K : PySem.W.Frag) (tl : TE) : TI := fun σ H R => tl σ H fun x H1 => ∃ a, x = .ref a ∧ ((∃ xs, SqL K H1 a xs ∧ R (Itl K a) H1) ∨ ∃ xs, SqT K H1 a xs ∧ R (Itt K a) H1)
theorem pi_any {X : Cx} {tg l : Expr} {tl : TE} (hl : PE X l tl) : PI X tg l (iAny X.K tl) := by
  refine ⟨fun pins s σ H R I h => ?_⟩
  refine thn (hl.run pins s σ H _ I h) fun v s1 ⟨x, H1, I1, r1, q1⟩ => ?_
  obtain ⟨a, e, q1⟩ := q1
  subst e
  cases r1
  rcases q1 with ⟨xs, hq, q⟩ | ⟨xs, hq, q⟩
  · obtain ⟨its, rv, p, hz⟩ := I1.list hq
    refine wpAny_pyIter_list p.isList ?_
    refine ⟨s1.heap.objs.size, [s1.heap.objs.size], _, _, H1, rfl, I1.kept (t' := s1.toks) fun b o e => Heap.get?_push_of_some _ e, turn_list a _, ⟨_, Heap.get?_push_size _ rfl, rfl, rfl⟩, fun b hb => ?_, q⟩
    have e : b = s1.heap.objs.size := by simpa using hb
    subst e
    exact I1.fpOk (Nat.le_refl _) (I1.hok.fresh (Nat.le_refl _))
  · obtain ⟨its, rv, p, hz⟩ := I1.tuple hq
    refine wpAny_pyIter_tuple (show s1.heap.IsTuple a its.toArray from p) ?_
    refine ⟨s1.heap.objs.size, [s1.heap.objs.size], _, _, H1, rfl, I1.kept (t' := s1.toks) fun b o e => Heap.get?_push_of_some _ e, turn_tuple a _, ⟨_, Heap.get?_push_size _ rfl, rfl, rfl⟩, fun b hb => ?_, q⟩
    have e : b = s1.heap.objs.size := by simpa using hb
    subst e
    exact I1.fpOk (Nat.le_refl _) (I1.hok.fresh (Nat.le_refl _))
end Et

/-! Orders: rows handed in, the object, its dicts. -/
namespace Ad
open PySem PySem.Spec PySem.Calls PyProof.Rows L2
theorem lsq_ty {K : PySem.W.Frag} {H : Hp} {a : Addr} {xs : List V} (h : SqL K H a xs) : TyX K H (.ref a) (.type "list") := by
  rcases h with (h | ⟨o, h⟩) | h
  · exact .base (.lst h)
  · exact .base (.frz h)
  · obtain ⟨o, _, _, e, c, _⟩ := h
    exact .kList e c
theorem kitSS' {K : PySem.W.Frag} : PySem.W.kitOne K (.type "str") (.type "str") = some true := kit_ty (by decide +kernel)
theorem kitIB {K : PySem.W.Frag} : PySem.W.kitOne K (.type "int") (.type "bool") = some false := kit_ty (by decide +kernel)
theorem kitLL {K : PySem.W.Frag} : PySem.W.kitAny K (.type "list") [.type "list", .type "tuple"] = some true := kitAny_cons (b := true) (kit_ty (by decide +kernel)) (fun z => nomatch z) fun _ => rfl
theorem kitTL {K : PySem.W.Frag} : PySem.W.kitAny K (.type "tuple") [.type "list", .type "tuple"] = some true :=
  kitAny_cons (b := false) (kit_ty (by decide +kernel)) (fun _ => kitAny_cons (b := true) (kit_ty (by decide +kernel)) (fun z => nomatch z) fun _ => rfl) (fun z => nomatch z)
/-- a list or a tuple -/
def SqX (K : PySem.W.Frag) (H : Hp) (a : Addr) (xs : List V) : Prop := SqL K H a xs ∨ SqT K H a xs
theorem SqX.same {K : PySem.W.Frag} {H H' : Hp} (s : Same H H') {a : Addr} {xs : List V} (h : SqX K H a xs) : SqX K H' a xs := h.elim (fun q => .inl (s.seq q)) fun q => .inr ((TK.same s).sq q)
theorem sqx_ty {K : PySem.W.Frag} {H : Hp} {a : Addr} {xs : List V} (h : SqX K H a xs) : ∃ t, TyX K H (.ref a) t ∧ PySem.W.kitAny K t [.type "list", .type "tuple"] = some true := by
  rcases h with h | h
  · exact ⟨_, lsq_ty h, kitLL⟩
  · exact ⟨_, sq_ty h, kitTL⟩
/-- a triple, as a list or a tuple -/
def RowX (K : PySem.W.Frag) (H : Hp) (r : Row) (v : V) : Prop := ∃ b, v = .ref b ∧ SqX K H b [.str r.1, .int (r.2.1 : Int), .int r.2.2]
theorem RowX.same {K : PySem.W.Frag} {H H' : Hp} (s : Same H H') (r : Row) (v : V) (h : RowX K H r v) : RowX K H' r v := by
  obtain ⟨b, e, q⟩ := h
  exact ⟨b, e, q.same s⟩
theorem RowV.x {K : PySem.W.Frag} {H : Hp} (r : Row) (v : V) (h : RowV K H r v) : RowX K H r v := by
  obtain ⟨b, e, q⟩ := h
  exact ⟨b, e, .inr q⟩
/-- names in their places -/
def ranked (R S : List Row) : List Row := ("yes", 0, 1) :: (R ++ S)
def wK (rs : List Row) : List (L2.Key × V) := rs.map fun r => (.inr r.1, .int r.2.2)
def pK : Nat → List Row → List (L2.Key × V)
  | _, [] => []
  | n, r :: rs => (.inr r.1, .int (n : Int)) :: pK (n + 1) rs
theorem valV_wK {rs : List Row} (nd : (rs.map (·.1)).Nodup) {r : Row} (h : r ∈ rs) : valV (wK rs) (.inr r.1) = some (.int r.2.2) := by
  induction rs with
  | nil => cases h
  | cons q rs ih =>
    obtain ⟨n1, n2⟩ := List.nodup_cons.mp nd
    rcases List.mem_cons.mp h with e | e
    · rw [e]
      exact valV_pos rfl
    · have ne : ¬ ((.inr q.1 : L2.Key) = .inr r.1) := fun z => n1 (by show q.1 ∈ _; rw [Sum.inr.inj z]; exact List.mem_map.mpr ⟨r, e, rfl⟩)
      show valV ((.inr q.1, .int q.2.2) :: wK rs) _ = _
      rw [valV_neg ne]
      exact ih n2 e
theorem valV_pK {rs : List Row} (nd : (rs.map (·.1)).Nodup) : ∀ (n i : Nat) (r : Row), rs[i]? = some r → valV (pK n rs) (.inr r.1) = some (.int ((n + i : Nat) : Int)) := by
  induction rs with
  | nil => intro n i r h; cases h
  | cons q rs ih =>
    intro n i r h
    obtain ⟨n1, n2⟩ := List.nodup_cons.mp nd
    cases i with
    | zero =>
      cases h
      exact valV_pos rfl
    | succ i =>
      have ne : ¬ ((.inr q.1 : L2.Key) = .inr r.1) := fun z => n1 (by show q.1 ∈ _; rw [Sum.inr.inj z]; exact List.mem_map.mpr ⟨r, List.mem_of_getElem? h, rfl⟩)
      show valV ((.inr q.1, .int (n : Int)) :: pK (n + 1) rs) _ = _
      rw [valV_neg ne, ih n2 (n + 1) i r h]
      have : n + 1 + i = n + (i + 1) := by omega
      rw [this]
theorem wK_app (a b : List Row) : wK (a ++ b) = wK a ++ wK b := List.map_append
theorem pK_app : ∀ (a b : List Row) (n : Nat), pK n (a ++ b) = pK n a ++ pK (n + a.length) b
  | [], b, n => rfl
  | r :: a, b, n => by
    show _ :: pK (n + 1) (a ++ b) = _ :: (pK (n + 1) a ++ pK (n + (a.length + 1)) b)
    rw [pK_app a b (n + 1)]
    have : n + 1 + a.length = n + (a.length + 1) := by omega
    rw [this]
theorem wK_len (rs : List Row) : (wK rs).length = rs.length := List.length_map ..
theorem pK_len : ∀ (rs : List Row) (n : Nat), (pK n rs).length = rs.length
  | [], _ => rfl
  | r :: rs, n => congrArg Nat.succ (pK_len rs (n + 1))
theorem pK_keys : ∀ (rs : List Row) (n : Nat), (pK n rs).map (·.1) = rs.map fun r => Sum.inr r.1
  | [], _ => rfl
  | r :: rs, n => congrArg (Sum.inr r.1 :: ·) (pK_keys rs (n + 1))
theorem wK_put {rs : List Row} {r : Row} (h : r.1 ∉ rs.map (·.1)) : putK (wK rs) (.inr r.1) (.int r.2.2) = wK (rs ++ [r]) := by
  rw [wK_app, putK_new _ (valV_out fun z => ?_)]
  · rfl
  · unfold wK at z
    rw [List.map_map] at z
    obtain ⟨q, hq, e⟩ := List.mem_map.mp z
    exact h (List.mem_map.mpr ⟨q, hq, Sum.inr.inj e⟩)
theorem pK_put {rs : List Row} {r : Row} (h : r.1 ∉ rs.map (·.1)) : putK (pK 0 rs) (.inr r.1) (.int (rs.length : Int)) = pK 0 (rs ++ [r]) := by
  rw [pK_app, putK_new _ (valV_out fun z => ?_), Nat.zero_add]
  · rfl
  · rw [pK_keys] at z
    obtain ⟨q, hq, e⟩ := List.mem_map.mp z
    exact h (List.mem_map.mpr ⟨q, hq, Sum.inr.inj e⟩)
/-- the object's fields -/
def ordF (bt br bw bp : Addr) : List (Str × V) := putF "_places" (.ref bp) (putF "_weights" (.ref bw) (putF "truths" (.ref br) (putF "things" (.ref bt) [])))
theorem nTT : ¬ (("things" : Str) = "truths") := by decide +kernel
theorem nTW : ¬ (("things" : Str) = "_weights") := by decide +kernel
theorem nTP : ¬ (("things" : Str) = "_places") := by decide +kernel
theorem nRW : ¬ (("truths" : Str) = "_weights") := by decide +kernel
theorem nRP : ¬ (("truths" : Str) = "_places") := by decide +kernel
theorem nWP : ¬ (("_weights" : Str) = "_places") := by decide +kernel
section
variable (bt br bw bp : Addr)
theorem ordF_things : (ordF bt br bw bp).lookup ("things" : Str) = some (.ref bt) := by
  unfold ordF
  rw [lookup_putF, if_neg nTP, lookup_putF, if_neg nTW, lookup_putF, if_neg nTT, lookup_putF, if_pos rfl]
theorem ordF_truths : (ordF bt br bw bp).lookup ("truths" : Str) = some (.ref br) := by
  unfold ordF
  rw [lookup_putF, if_neg nRP, lookup_putF, if_neg nRW, lookup_putF, if_pos rfl]
theorem ordF_weights : (ordF bt br bw bp).lookup ("_weights" : Str) = some (.ref bw) := by
  unfold ordF
  rw [lookup_putF, if_neg nWP, lookup_putF, if_pos rfl]
theorem ordF_places : (ordF bt br bw bp).lookup ("_places" : Str) = some (.ref bp) := by
  unfold ordF
  rw [lookup_putF, if_pos rfl]
end
/-- an Order of these rows stands at o -/
structure OrdI (K : PySem.W.Frag) (C : Addr) (H : Hp) (o : Addr) (R S : List Row) : Prop where
  ex : ∃ dx bt br bw bp vs1 vs2, H o = some (.ins C dx (ordF bt br bw bp)) ∧ SqT K H bt vs1 ∧ F2 (RowV K H) R vs1 ∧ SqT K H br vs2 ∧ F2 (RowV K H) S vs2 ∧ H bw = some (.dK (wK (ranked R S))) ∧ H bp = some (.dK (pK 0 (ranked R S)))
theorem OrdI.same {K : PySem.W.Frag} {C : Addr} {H H' : Hp} (s : Same H H') {o : Addr} {R S : List Row} (h : OrdI K C H o R S) : OrdI K C H' o R S := by
  obtain ⟨dx, bt, br, bw, bp, vs1, vs2, e1, e2, e3, e4, e5, e6, e7⟩ := h.ex
  have k := TK.same s
  exact ⟨dx, bt, br, bw, bp, vs1, vs2, s _ _ e1, k.sq e2, e3.mono (RowV.mono k), k.sq e4, e5.mono (RowV.mono k), s _ _ e6, s _ _ e7⟩
theorem OrdI.but {K : PySem.W.Frag} {C : Addr} {H H' : Hp} {p l : Addr} {ns : List Int} {c : Nat} (P : Pn.Pen H p l ns c) (b : Pn.But p H H') {o : Addr} {R S : List Row} (h : OrdI K C H o R S) : OrdI K C H' o R S := by
  obtain ⟨dx, bt, br, bw, bp, vs1, vs2, e1, e2, e3, e4, e5, e6, e7⟩ := h.ex
  have k := pen_tk P b
  obtain ⟨⟨a, d, f, ep, _⟩, _⟩ := P
  have n : ∀ {q : Addr} {ob : HO}, H q = some ob → (∀ f, ob ≠ .dK (Pn.penK l a d (c : Int) f)) → q ≠ p := fun {q ob} e hn z => by
    rw [z, ep] at e
    exact hn f (Option.some.inj e).symm
  have wn : ∀ (kvs : List (L2.Key × V)), (∃ v r, kvs = (.inr "yes", v) :: r) → ∀ f, HO.dK kvs ≠ .dK (Pn.penK l a d (c : Int) f) := by
    rintro kvs ⟨v, r, rfl⟩ f z
    have z' := HO.dK.inj z
    unfold Pn.penK at z'
    have z2 := congrArg (fun x : List (L2.Key × V) => x.head?.map (·.1)) z'
    have z3 : (some (.inr "yes") : Option L2.Key) = some (.inr "cells") := z2
    have z4 : ("yes" : Str) = "cells" := Sum.inr.inj (Option.some.inj z3)
    exact absurd z4 (by decide +kernel)
  exact ⟨dx, bt, br, bw, bp, vs1, vs2, b _ _ (n e1 (fun f z => nomatch z)) e1, k.sq e2, e3.mono (RowV.mono k), k.sq e4, e5.mono (RowV.mono k), b _ _ (n e6 (wn _ ⟨_, _, rfl⟩)) e6, b _ _ (n e7 (wn _ ⟨_, _, rfl⟩)) e7⟩
/-- rows that make an order -/
structure OOk (R S : List Row) : Prop where
  nd : ((ranked R S).map (·.1)).Nodup
  wt : ∀ r ∈ R ++ S, 1 ≤ r.2.2
  const : ∃ r ∈ R, r.2.1 = 0
  few : R.length + S.length ≤ 100
end Ad

namespace Ad
open PySem PySem.Spec PySem.Calls PyProof.Rows L2
namespace T
mutual
/-- the paths of a term, each ahead of those within -/
def paths : T → List (List Int)
  | .v _ => [[]]
  | .f _ ts => [] :: pathsL 0 ts
def pathsL (k : Nat) : List T → List (List Int)
  | [] => []
  | t :: ts => (paths t).map ((k : Int) :: ·) ++ pathsL (k + 1) ts
end
mutual
theorem paths_len : ∀ t : T, t.paths.length = t.size
  | .v _ => rfl
  | .f x ts => by
    show (pathsL 0 ts).length + 1 = 1 + sizeL ts
    rw [pathsL_len 0 ts]
    omega
theorem pathsL_len (k : Nat) : ∀ ts : List T, (pathsL k ts).length = sizeL ts
  | [] => rfl
  | t :: ts => by
    show ((paths t).map ((k : Int) :: ·) ++ pathsL (k + 1) ts).length = size t + sizeL ts
    rw [List.length_append, List.length_map, paths_len t, pathsL_len (k + 1) ts]
end
mutual
theorem paths_dep : ∀ (t : T) (p : List Int), p ∈ t.paths → p.length ≤ t.dep
  | .v _, p, h => by
    cases List.mem_singleton.mp h
    exact Nat.le_refl _
  | .f x ts, p, h => by
    show p.length ≤ 1 + depL ts
    rcases List.mem_cons.mp h with e | e
    · rw [e]
      exact Nat.zero_le _
    · exact pathsL_dep 0 ts p e
theorem pathsL_dep (k : Nat) : ∀ (ts : List T) (p : List Int), p ∈ pathsL k ts → p.length ≤ 1 + depL ts
  | [], p, h => by cases h
  | t :: ts, p, h => by
    show p.length ≤ 1 + max (dep t) (depL ts)
    rcases List.mem_append.mp h with e | e
    · obtain ⟨q, hq, rfl⟩ := List.mem_map.mp e
      have := paths_dep t q hq
      rw [List.length_cons]
      omega
    · have := pathsL_dep (k + 1) ts p e
      omega
end
/-- the part at a path -/
def sub : List Int → T → Option T
  | [], t => some t
  | _ :: _, .v _ => none
  | k :: p, .f _ ts => if 0 ≤ k then (match ts[k.toNat]? with
      | some u => sub p u
      | none => none) else none
/-- a term with another part at a path -/
def put (new : T) : List Int → T → Option T
  | [], _ => some new
  | _ :: _, .v _ => none
  | k :: p, .f x ts => if 0 ≤ k then (match ts[k.toNat]? with
      | some u => (match put new p u with
        | some r => some (.f x (ts.set k.toNat r))
        | none => none)
      | none => none) else none
theorem sub_cons {k : Int} {p : List Int} {t u : T} (h : sub (k :: p) t = some u) : ∃ (j : Nat) (x : Str) (ts : List T) (y : T), k = (j : Int) ∧ t = .f x ts ∧ ts[j]? = some y ∧ sub p y = some u := by
  cases t with
  | v i => cases h
  | f x ts =>
    have h' : (if 0 ≤ k then (match ts[k.toNat]? with | some u => sub p u | none => none) else none) = some u := h
    by_cases k0 : 0 ≤ k
    · rw [if_pos k0] at h'
      cases e : ts[k.toNat]? with
      | none =>
        rw [e] at h'
        cases h'
      | some y =>
        rw [e] at h'
        exact ⟨k.toNat, x, ts, y, by omega, rfl, e, h'⟩
    · rw [if_neg k0] at h'
      cases h'
theorem put_cons {new : T} {k : Int} {p : List Int} {t r : T} (h : put new (k :: p) t = some r) : ∃ (j : Nat) (x : Str) (ts : List T) (y z : T), k = (j : Int) ∧ t = .f x ts ∧ ts[j]? = some y ∧ put new p y = some z ∧ r = .f x (ts.set j z) := by
  cases t with
  | v i => cases h
  | f x ts =>
    have h' : (if 0 ≤ k then (match ts[k.toNat]? with | some u => (match put new p u with | some r => some (T.f x (ts.set k.toNat r)) | none => none) | none => none) else none) = some r := h
    by_cases k0 : 0 ≤ k
    · rw [if_pos k0] at h'
      cases e : ts[k.toNat]? with
      | none =>
        rw [e] at h'
        cases h'
      | some y =>
        rw [e] at h'
        dsimp only at h'
        cases e2 : put new p y with
        | none =>
          rw [e2] at h'
          cases h'
        | some z =>
          rw [e2] at h'
          cases h'
          exact ⟨k.toNat, x, ts, y, z, by omega, rfl, e, e2, rfl⟩
    · rw [if_neg k0] at h'
      cases h'
theorem pathsL_append : ∀ (k : Nat) (as bs : List T), pathsL k (as ++ bs) = pathsL k as ++ pathsL (k + as.length) bs
  | _, [], _ => rfl
  | k, t :: ts, bs => by
    show (paths t).map ((k : Int) :: ·) ++ pathsL (k + 1) (ts ++ bs) = (paths t).map ((k : Int) :: ·) ++ pathsL (k + 1) ts ++ pathsL (k + (ts.length + 1)) bs
    rw [pathsL_append (k + 1) ts bs, List.append_assoc]
    congr 3
    omega
theorem pathsL_next {ts : List T} {i : Nat} {u : T} (h : ts[i]? = some u) : pathsL 0 (ts.take (i + 1)) = pathsL 0 (ts.take i) ++ u.paths.map ((i : Int) :: ·) := by
  have hi := (List.getElem?_eq_some_iff.mp h).1
  rw [List.take_add_one, h, pathsL_append, List.length_take]
  show _ ++ ((paths u).map ((((0 + min i ts.length : Nat)) : Int) :: ·) ++ []) = _
  rw [List.append_nil]
  have e : 0 + min i ts.length = i := by omega
  rw [e]
theorem sizeL_take (ts : List T) (i : Nat) : sizeL (ts.take i) ≤ sizeL ts := by
  have h2 := sizeL_append (ts.take i) (ts.drop i)
  rw [List.take_append_drop] at h2
  omega
theorem sub_f {j : Nat} {p : List Int} {x : Str} {ts : List T} {y u : T} (h : ts[j]? = some y) (e : sub p y = some u) : sub ((j : Int) :: p) (.f x ts) = some u := by
  show (if 0 ≤ (j : Int) then (match ts[((j : Int)).toNat]? with | some u => sub p u | none => none) else none) = _
  rw [if_pos (by omega), Int.toNat_natCast, h]
  exact e
theorem put_f {new : T} {j : Nat} {p : List Int} {x : Str} {ts : List T} {y z : T} (h : ts[j]? = some y) (e : put new p y = some z) : put new ((j : Int) :: p) (.f x ts) = some (.f x (ts.set j z)) := by
  show (if 0 ≤ (j : Int) then (match ts[((j : Int)).toNat]? with | some u => (match put new p u with | some r => some (T.f x (ts.set ((j : Int)).toNat r)) | none => none) | none => none) else none) = _
  rw [if_pos (by omega), Int.toNat_natCast, h]
  show (match put new p y with | some r => some (T.f x (ts.set j r)) | none => none) = _
  rw [e]
mutual
/-- at each path something stands -/
theorem paths_sub : ∀ (t : T) (p : List Int), p ∈ t.paths → ∃ u, sub p t = some u
  | .v i, p, h => by
    cases List.mem_singleton.mp h
    exact ⟨_, rfl⟩
  | .f x ts, p, h => by
    rcases List.mem_cons.mp h with e | e
    · subst e
      exact ⟨_, rfl⟩
    · obtain ⟨j, p', y, u, e1, e2, e3⟩ := pathsL_sub 0 ts p e
      subst e1
      refine ⟨u, ?_⟩
      rw [Nat.zero_add]
      exact sub_f e2 e3
theorem pathsL_sub (k : Nat) : ∀ (ts : List T) (p : List Int), p ∈ pathsL k ts → ∃ (j : Nat) (p' : List Int) (y u : T), p = ((k + j : Nat) : Int) :: p' ∧ ts[j]? = some y ∧ sub p' y = some u
  | [], p, h => by cases h
  | t :: ts, p, h => by
    rcases List.mem_append.mp h with e | e
    · obtain ⟨q, hq, rfl⟩ := List.mem_map.mp e
      obtain ⟨u, hu⟩ := paths_sub t q hq
      exact ⟨0, q, t, u, rfl, rfl, hu⟩
    · obtain ⟨j, p', y, u, e1, e2, e3⟩ := pathsL_sub (k + 1) ts p e
      refine ⟨j + 1, p', y, u, ?_, e2, e3⟩
      rw [e1]
      congr 2
      omega
end
/-- what stands at a path is no larger -/
theorem sub_small : ∀ {p : List Int} {t u : T}, sub p t = some u → (t.named = true → u.named = true) ∧ u.dep ≤ t.dep ∧ u.size ≤ t.size
  | [], t, u, h => by
    cases (show some t = some u from h)
    exact ⟨id, Nat.le_refl _, Nat.le_refl _⟩
  | k :: p, t, u, h => by
    obtain ⟨j, x, ts, y, rfl, rfl, e1, e2⟩ := sub_cons h
    obtain ⟨h1, h2, h3⟩ := sub_small e2
    have m := List.mem_of_getElem? e1
    have d1 := dep_mem m
    have d2 := size_mem m
    refine ⟨fun n => h1 (named_mem m ?_), ?_, ?_⟩
    · have n' : (nameOk x && namedL ts) = true := n
      rw [Bool.and_eq_true] at n'
      exact n'.2
    · show u.dep ≤ 1 + depL ts
      omega
    · show u.size ≤ 1 + sizeL ts
      omega
theorem depL_set : ∀ {ts : List T} {j : Nat} {y z : T}, ts[j]? = some y → ∀ m, depL ts ≤ m → z.dep ≤ m → depL (ts.set j z) ≤ m
  | [], j, y, z, h, m, _, _ => by cases h
  | t :: ts, 0, y, z, h, m, h1, h2 => by
    show max (dep z) (depL ts) ≤ m
    have h1' : max (dep t) (depL ts) ≤ m := h1
    omega
  | t :: ts, j + 1, y, z, h, m, h1, h2 => by
    have h1' : max (dep t) (depL ts) ≤ m := h1
    have := depL_set (ts := ts) (j := j) (y := y) (z := z) h m (by omega) h2
    show max (dep t) (depL (ts.set j z)) ≤ m
    omega
theorem sizeL_set : ∀ {ts : List T} {j : Nat} {y z : T}, ts[j]? = some y → sizeL (ts.set j z) + y.size = sizeL ts + z.size
  | [], j, y, z, h => by cases h
  | t :: ts, 0, y, z, h => by
    cases h
    show size z + sizeL ts + size t = size t + sizeL ts + size z
    omega
  | t :: ts, j + 1, y, z, h => by
    have := sizeL_set (ts := ts) (j := j) (y := y) (z := z) h
    show size t + sizeL (ts.set j z) + y.size = size t + sizeL ts + z.size
    omega
theorem namedL_set : ∀ {ts : List T} {j : Nat} {z : T}, namedL ts = true → z.named = true → namedL (ts.set j z) = true
  | [], j, z, _, _ => rfl
  | t :: ts, 0, z, h, hz => by
    have h' : (named t && namedL ts) = true := h
    rw [Bool.and_eq_true] at h'
    show (named z && namedL ts) = true
    rw [hz, h'.2]
    rfl
  | t :: ts, j + 1, z, h, hz => by
    have h' : (named t && namedL ts) = true := h
    rw [Bool.and_eq_true] at h'
    show (named t && namedL (ts.set j z)) = true
    rw [h'.1, namedL_set h'.2 hz]
    rfl
/-- what is put at a path stands there, and what stood there can be put back -/
theorem put_sub (new : T) : ∀ {p : List Int} {t u : T}, sub p t = some u → ∃ r, put new p t = some r ∧ sub p r = some new ∧ put u p r = some t ∧ r.size ≤ t.size + new.size ∧ r.dep ≤ t.dep + new.dep ∧ (t.named = true → new.named = true → r.named = true)
  | [], t, u, h => by
    cases (show some t = some u from h)
    exact ⟨new, rfl, rfl, rfl, Nat.le_add_left _ _, Nat.le_add_left _ _, fun _ n => n⟩
  | k :: p, t, u, h => by
    obtain ⟨j, x, ts, y, rfl, rfl, e1, e2⟩ := sub_cons h
    obtain ⟨r, h1, h2, h3, h4, h5, h6⟩ := put_sub new e2
    have hj := (List.getElem?_eq_some_iff.mp e1).1
    have at' : (ts.set j r)[j]? = some r := by
      rw [List.getElem?_set_self hj]
    have m := List.mem_of_getElem? e1
    have d1 := dep_mem m
    have d2 := size_mem m
    refine ⟨.f x (ts.set j r), put_f e1 h1, sub_f at' h2, ?_, ?_, ?_, ?_⟩
    · rw [put_f at' h3, List.set_set]
      congr 2
      refine List.ext_getElem? fun i => ?_
      by_cases e : j = i
      · subst e
        rw [List.getElem?_set_self hj, e1]
      · rw [List.getElem?_set_ne e]
    · have := sizeL_set (z := r) e1
      show 1 + sizeL (ts.set j r) ≤ 1 + sizeL ts + new.size
      omega
    · have := depL_set (z := r) e1 (depL ts + new.dep) (by omega) (by omega)
      show 1 + depL (ts.set j r) ≤ 1 + depL ts + new.dep
      omega
    · intro n nn
      have n' : (nameOk x && namedL ts) = true := n
      rw [Bool.and_eq_true] at n'
      show (nameOk x && namedL (ts.set j r)) = true
      rw [n'.1, namedL_set n'.2 (h6 (named_mem m n'.2) nn)]
      rfl
mutual
/-- the steps of a path are small -/
theorem paths_small : ∀ (t : T) (p : List Int), p ∈ t.paths → ∀ k ∈ p, 0 ≤ k ∧ k < t.size
  | .v i, p, h, k, hk => by
    cases List.mem_singleton.mp h
    cases hk
  | .f x ts, p, h, k, hk => by
    have e0 : size (.f x ts) = 1 + sizeL ts := rfl
    rcases List.mem_cons.mp h with e | e
    · rw [e] at hk
      cases hk
    · have := pathsL_small 0 ts p e k hk
      have l := len_sizeL ts
      omega
theorem pathsL_small (n : Nat) : ∀ (ts : List T) (p : List Int), p ∈ pathsL n ts → ∀ k ∈ p, 0 ≤ k ∧ k < n + sizeL ts
  | [], p, h, k, hk => by cases h
  | t :: ts, p, h, k, hk => by
    have s1 := size_pos t
    have e0 : sizeL (t :: ts) = size t + sizeL ts := rfl
    rcases List.mem_append.mp h with e | e
    · obtain ⟨q, hq, rfl⟩ := List.mem_map.mp e
      rcases List.mem_cons.mp hk with z | z
      · omega
      · have := paths_small t q hq k z
        omega
    · have := pathsL_small (n + 1) ts p e k hk
      omega
end
end T
/-- a path's value -/
def PV (K : PySem.W.Frag) (H : Hp) (p : List Int) (v : V) : Prop := ∃ a, v = .ref a ∧ SqT K H a (p.map V.int)
theorem PV.mono {K : PySem.W.Frag} {H H' : Hp} (k : TK H H') (p : List Int) (v : V) (h : PV K H p v) : PV K H' p v := by
  obtain ⟨a, e, s⟩ := h
  exact ⟨a, e, k.sq s⟩
def spLPaths (K : PySem.W.Frag) (n : Nat) : Sp := fun vs H Q _ => ∃ (t : T) (x : V), vs = [x] ∧ Tm K H t x ∧ t.dep < n ∧ t.size ≤ 10000 ∧
  ∀ H' p us, Same H H' → H p = none → H' p = some (.lst us) → F2 (PV K H') t.paths us → Q (.ref p) H'
def spAt (K : PySem.W.Frag) : Sp := fun vs H Q _ => ∃ (t u : T) (x : V) (a : Addr) (p : List Int), vs = [x, .ref a] ∧ Tm K H t x ∧ SqT K H a (p.map V.int) ∧ T.sub p t = some u ∧ ∀ v, Tm K H u v → Q v H
/-- put at a path of fewer than n steps -/
def spPut (K : PySem.W.Frag) (n : Nat) : Sp := fun vs H Q _ => ∃ (t new r : T) (x y : V) (a : Addr) (p : List Int), vs = [x, .ref a, y] ∧ Tm K H t x ∧ Tm K H new y ∧ SqT K H a (p.map V.int) ∧ p.length < n ∧ t.size ≤ 10000 ∧ T.put new p t = some r ∧ ∀ v H', Same H H' → Tm K H' r v → Q v H'
section
variable {K : PySem.W.Frag}
theorem Tms.set {H : Hp} {x : V} {t : T} : ∀ {ts : List T} {xs : List V} (j : Nat), Tms K H ts xs → Tm K H t x → Tms K H (ts.set j t) (xs.take j ++ x :: xs.drop (j + 1)) ∨ ts.length ≤ j
  | [], _, j, _, _ => .inr (Nat.zero_le _)
  | u :: us, xs, j, h, hx => by
    obtain ⟨y, ys, rfl, one, all⟩ := h
    cases j with
    | zero => exact .inl ⟨x, ys, rfl, hx, all⟩
    | succ j =>
      rcases Tms.set (ts := us) (xs := ys) j all hx with z | z
      · exact .inl ⟨y, _, rfl, one, z⟩
      · exact .inr (Nat.succ_le_succ z)
end
theorem cut_low {x : V} {xs : List V} {j : Nat} (h : j < xs.length) : ¬ (HT.sIx (x :: xs).length 0 none = 0 ∧ HT.sIx (x :: xs).length (x :: xs).length (some ((j : Int) + 1)) = (x :: xs).length) ∧ cutV (x :: xs) none (some ((j : Int) + 1)) = x :: xs.take j := by
  have e : ((j : Int) + 1) = ((j + 1 : Nat) : Int) := by omega
  rw [e]
  have e2 : HT.sIx (x :: xs).length (x :: xs).length (some ((j + 1 : Nat) : Int)) = j + 1 := by
    rw [HT.sIx_nat, List.length_cons]
    omega
  constructor
  · rw [e2, List.length_cons]
    omega
  · unfold cutV
    rw [e2, HT.sIx_none, List.drop_zero, Nat.sub_zero, List.take_succ_cons]
theorem cut_high {x : V} {xs : List V} {j : Nat} (h : j < xs.length) : ¬ (HT.sIx (x :: xs).length 0 (some ((j : Int) + 1 + 1)) = 0 ∧ HT.sIx (x :: xs).length (x :: xs).length none = (x :: xs).length) ∧ cutV (x :: xs) (some ((j : Int) + 1 + 1)) none = xs.drop (j + 1) := by
  have e : ((j : Int) + 1 + 1) = ((j + 2 : Nat) : Int) := by omega
  rw [e]
  have e2 : HT.sIx (x :: xs).length 0 (some ((j + 2 : Nat) : Int)) = j + 2 := by
    rw [HT.sIx_nat, List.length_cons]
    omega
  constructor
  · rw [e2]
    omega
  · unfold cutV
    rw [e2, HT.sIx_none]
    show ((xs.drop (j + 1))).take _ = _
    rw [List.take_of_length_le]
    rw [List.length_drop, List.length_cons]
    omega
theorem cut_tail {k : Int} {p : List Int} : ¬ (HT.sIx ((k :: p).map V.int).length 0 (some 1) = 0 ∧ HT.sIx ((k :: p).map V.int).length ((k :: p).map V.int).length none = ((k :: p).map V.int).length) ∧ cutV ((k :: p).map V.int) (some 1) none = p.map V.int := by
  have e2 : HT.sIx ((k :: p).map V.int).length 0 (some ((1 : Nat) : Int)) = 1 := by
    rw [HT.sIx_nat, List.length_map, List.length_cons]
    omega
  have e3 : HT.sIx ((k :: p).map V.int).length 0 (some 1) = 1 := e2
  constructor
  · rw [e3]
    omega
  · unfold cutV
    rw [e3, HT.sIx_none]
    show (p.map V.int).take _ = _
    rw [List.take_of_length_le]
    rw [List.length_map, List.length_map, List.length_cons]
    omega
theorem cut_low' {x : V} {xs : List V} {j : Nat} (h : j < xs.length) : ¬ (HT.sIx (x :: xs).length 0 none = 0 ∧ HT.sIx (x :: xs).length (x :: xs).length (some (1 + (j : Int))) = (x :: xs).length) ∧ cutV (x :: xs) none (some (1 + (j : Int))) = x :: xs.take j := by
  rw [Int.add_comm]
  exact cut_low h
theorem cut_high' {x : V} {xs : List V} {j : Nat} (h : j < xs.length) : ¬ (HT.sIx (x :: xs).length 0 (some (1 + (j : Int) + 1)) = 0 ∧ HT.sIx (x :: xs).length (x :: xs).length none = (x :: xs).length) ∧ cutV (x :: xs) (some (1 + (j : Int) + 1)) none = xs.drop (j + 1) := by
  rw [Int.add_comm 1]
  exact cut_high h
end Ad

/-! Drawn substitutions. -/
namespace Ad
open PySem PySem.Spec PySem.Calls PyProof.Rows L2
theorem sz_mono {a b : Nat} (h : a ≤ b) : sz a ≤ sz b := by
  induction h with
  | refl => exact Nat.le_refl _
  | step h ih =>
    refine Nat.le_trans ih ?_
    show sz _ ≤ 1 + 3 * sz _
    omega
theorem dn_mono {a b : Nat} (h : a ≤ b) : dn a ≤ dn b := by
  induction h with
  | refl => exact Nat.le_refl _
  | step h ih =>
    refine Nat.le_trans ih ?_
    show dn _ ≤ 2 + 3 * dn _
    omega
theorem DT.mono {R : List Row} {d e : Nat} {nv : Int} {t : T} (h : d ≤ e) (x : DT R d nv t) : DT R e nv t := ⟨x.named, Nat.le_trans x.dep (by omega), Nat.le_trans x.size (sz_mono h), x.vars, x.wf⟩
theorem rising_len : ∀ {l : List Int} {lo hi : Int}, l.Pairwise (· < ·) → (∀ i ∈ l, lo ≤ i ∧ i < hi) → lo ≤ hi → (l.length : Int) ≤ hi - lo
  | [], lo, hi, _, _, h => by
    show ((0 : Nat) : Int) ≤ hi - lo
    omega
  | a :: l, lo, hi, h1, h2, h => by
    obtain ⟨p1, p2⟩ := List.pairwise_cons.mp h1
    obtain ⟨q1, q2⟩ := h2 a List.mem_cons_self
    have := rising_len (lo := a + 1) (hi := hi) p2 (fun i hi' => ⟨by have := p1 i hi'; omega, (h2 i (List.mem_cons_of_mem _ hi')).2⟩) (by omega)
    rw [List.length_cons]
    omega
theorem Sb.mem_put {tb : Sb} {i : Int} {t : T} {e : Int × T} (h : e ∈ tb.put i t) : e = (i, t) ∨ e ∈ tb := by
  unfold Sb.put at h
  split at h
  · obtain ⟨e', he, h'⟩ := List.mem_map.mp h
    split at h'
    · rename_i z
      left
      rw [← h', z]
    · right
      rw [← h']
      exact he
  · rcases List.mem_append.mp h with z | z
    · exact .inr z
    · exact .inl (List.mem_singleton.mp z)
/-- a substitution in its one form, drawn -/
structure DSu (R : List Row) (deep : Nat) (nv : Int) (su : Sb) : Prop where
  rising : (su.map (·.1)).Pairwise (· < ·)
  each : ∀ e ∈ su, 0 ≤ e.1 ∧ e.1 < nv ∧ DT R deep nv e.2
theorem DSu.few {R : List Row} {deep : Nat} {nv : Int} {su : Sb} (h : DSu R deep nv su) (n : 0 ≤ nv) : (su.length : Int) ≤ nv := by
  have := rising_len (lo := 0) (hi := nv) h.rising (fun i hi => by
    obtain ⟨e, he, rfl⟩ := List.mem_map.mp hi
    exact ⟨(h.each e he).1, (h.each e he).2.1⟩) n
  rw [List.length_map] at this
  omega
section
variable {P : Program} {w : World} {K : PySem.W.Frag} {mg : Str → Option Value} {base : Heap}
def spDPairs (K : PySem.W.Frag) (n : Nat) : Sp := fun vs H Q _ => ∃ (p l ra : Addr) (ns : List Int) (c deep nv : Nat) (R : List Row), vs = [.ref p, .ref ra, .int (nv : Int), .int (deep : Int)] ∧ Pn.Pen H p l ns c ∧ ns.length ≤ 1000 ∧ c + nv * (2 + dn deep) ≤ 1000000000 ∧ RowsAt K H ra R ∧ ROk R ∧
  deep < n ∧ deep ≤ 50 ∧ nv ≤ 60 ∧ ∀ su x H' c', DSu R deep nv su → Su K H' su x → c' ≤ c + nv * (2 + dn deep) → Pn.Pen H' p l ns c' → Pn.But p H H' → Q x H'
end
end Ad

/-! Texts of terms and substitutions. -/
namespace Ad
open PySem PySem.Spec PySem.Calls PyProof.Rows L2
theorem tuple_piled (ts : List Str) : (tupleText ts).length ≤ 3 + piled ts := by
  unfold tupleText
  rw [strLen_append, strLen_append]
  have e1 : ((("(" : String) : Str)).length = 1 := rfl
  have e3 : (((if ts.length == 1 then ",)" else ")" : String) : Str)).length ≤ 2 := by split <;> decide
  rw [e1]
  by_cases z : ts = []
  · subst z
    have e4 : (Str.join ", " ([] : List Str)).length = 0 := rfl
    rw [e4]
    omega
  · have h2 := join_length_add ts z
    omega
theorem small_text (i : Int) (h0 : 0 ≤ i) (h : i < 64) : (toString i : Str).length ≤ 2 ∧ i.natAbs.log2 < 1920 := by
  have all : ∀ j : Fin 64, (toString ((j.val : Nat) : Int) : Str).length ≤ 2 ∧ (((j.val : Nat) : Int)).natAbs.log2 < 1920 := by decide +kernel
  have := all ⟨i.toNat, by omega⟩
  have e : ((i.toNat : Nat) : Int) = i := Int.toNat_of_nonneg h0
  rw [show (((⟨i.toNat, by omega⟩ : Fin 64).val : Nat) : Int) = i from e] at this
  exact this
namespace T
mutual
theorem text : ∀ t : T, t.named = true → (∀ j ∈ t.vars, 0 ≤ j ∧ j < 64) → t.d.showable = true ∧ t.d.shown.length + 2 ≤ 17 * t.size
  | .v i, _, h => by
    obtain ⟨a, b⟩ := h i List.mem_cons_self
    obtain ⟨s1, s2⟩ := small_text i a b
    refine ⟨decide_eq_true s2, ?_⟩
    show (toString i : Str).length + 2 ≤ 17 * 1
    omega
  | .f x ts, n, h => by
    have n' : (nameOk x && namedL ts) = true := n
    rw [Bool.and_eq_true] at n'
    obtain ⟨a, b⟩ := texts ts n'.2 h
    refine ⟨?_, ?_⟩
    · show (true && PyData.showableAll (ds ts)) = true
      rw [a]
      rfl
    · have l := tuple_piled (PyData.shownAll (.str x :: ds ts))
      have e : piled (PyData.shownAll (.str x :: ds ts)) = ((PyData.shown (.str x)).length + 2) + piled (PyData.shownAll (ds ts)) := piled_cons _ _
      have s := nameOk_short n'.1
      show (tupleText (PyData.shownAll (.str x :: ds ts))).length + 2 ≤ 17 * (1 + sizeL ts)
      omega
theorem texts : ∀ ts : List T, namedL ts = true → (∀ j ∈ varsL ts, 0 ≤ j ∧ j < 64) → PyData.showableAll (ds ts) = true ∧ piled (PyData.shownAll (ds ts)) ≤ 17 * sizeL ts
  | [], _, _ => ⟨rfl, Nat.zero_le _⟩
  | t :: ts, n, h => by
    have n' : (named t && namedL ts) = true := n
    rw [Bool.and_eq_true] at n'
    obtain ⟨a1, a2⟩ := text t n'.1 fun j hj => h j (List.mem_append_left _ hj)
    obtain ⟨b1, b2⟩ := texts ts n'.2 fun j hj => h j (List.mem_append_right _ hj)
    refine ⟨?_, ?_⟩
    · show (PyData.showable (d t) && PyData.showableAll (ds ts)) = true
      rw [a1, b1]
      rfl
    · have e : piled (PyData.shownAll (d t :: ds ts)) = ((PyData.shown (d t)).length + 2) + piled (PyData.shownAll (ds ts)) := piled_cons _ _
      show piled (PyData.shownAll (d t :: ds ts)) ≤ 17 * (size t + sizeL ts)
      rw [e]
      omega
end
mutual
theorem fill_vars {s : Int → T} {j : Int} : ∀ t : T, j ∈ (fill s t).vars → ∃ i ∈ t.vars, j ∈ (s i).vars
  | .v i, h => ⟨i, List.mem_cons_self, h⟩
  | .f x ts, h => fillL_vars ts h
theorem fillL_vars {s : Int → T} {j : Int} : ∀ ts : List T, j ∈ varsL (fillL s ts) → ∃ i ∈ varsL ts, j ∈ (s i).vars
  | [], h => by cases h
  | t :: ts, h => by
    rcases List.mem_append.mp h with z | z
    · obtain ⟨i, a, b⟩ := fill_vars t z
      exact ⟨i, List.mem_append_left _ a, b⟩
    · obtain ⟨i, a, b⟩ := fillL_vars ts z
      exact ⟨i, List.mem_append_right _ a, b⟩
end
end T
/-- a substitution's data -/
def suD (su : Sb) : PyData := .tuple (su.map fun e => .tuple [.int e.1, e.2.d])
theorem sps_dp {K : PySem.W.Frag} {H : Hp} : ∀ {su : Sb} {bs : List Addr}, F2 (SP K H) su bs → DpAll K H (bs.map V.ref) (su.map fun e => PyData.tuple [.int e.1, e.2.d])
  | [], bs, h => by
    cases (show bs = [] from h)
    exact .nil
  | e :: su, bs, h => by
    obtain ⟨b, r, rfl, ⟨v, s, t⟩, rest⟩ := h
    exact .cons (.tup s (.cons (.int _) (.cons (Tm.dp _ _ t) .nil))) (sps_dp rest)
theorem su_dp {K : PySem.W.Frag} {H : Hp} {su : Sb} {x : V} (h : Su K H su x) : Dp K H x (suD su) := by
  obtain ⟨a, bs, rfl, t, f⟩ := h
  exact .tup t.sq (sps_dp f)
/-- terms that can be shown, with few parts -/
structure Sm (m : Nat) (t : T) : Prop where
  named : t.named = true
  dep : t.dep ≤ 40
  size : t.size ≤ m
  vars : ∀ j ∈ t.vars, 0 ≤ j ∧ j < 64
theorem su_lay : ∀ {su : Sb}, (∀ e ∈ su, e.2.named = true) → PyData.canLayAll0 (su.map fun e => PyData.tuple [.int e.1, e.2.d]) = true
  | [], _ => rfl
  | e :: su, h => by
    show (PyData.canLay0 (.tuple [.int e.1, e.2.d]) && PyData.canLayAll0 (su.map _)) = true
    rw [su_lay fun e he => h e (List.mem_cons_of_mem _ he)]
    show (((PyData.canLay0 (.int e.1) && (PyData.canLay0 e.2.d && true))) && true) = true
    rw [T.d_lay _ (h e List.mem_cons_self)]
    rfl
theorem su_depth : ∀ {su : Sb}, (∀ e ∈ su, e.2.dep ≤ 40) → PyData.depthAll (su.map fun e => PyData.tuple [.int e.1, e.2.d]) ≤ 41
  | [], _ => Nat.zero_le _
  | e :: su, h => by
    show max (PyData.depth (.tuple [.int e.1, e.2.d])) (PyData.depthAll (su.map _)) ≤ 41
    have h1 := su_depth (su := su) fun e he => h e (List.mem_cons_of_mem _ he)
    have h2 : PyData.depth (.tuple [.int e.1, e.2.d]) = max 0 (max e.2.d.depth 0) + 1 := rfl
    have h3 := h e List.mem_cons_self
    rw [T.d_depth] at h2
    omega
theorem su_show {m : Nat} : ∀ {su : Sb}, (∀ e ∈ su, 0 ≤ e.1 ∧ e.1 < 64 ∧ Sm m e.2) → PyData.showableAll (su.map fun e => PyData.tuple [.int e.1, e.2.d]) = true ∧ piled (PyData.shownAll (su.map fun e => PyData.tuple [.int e.1, e.2.d])) ≤ su.length * (17 * m + 9)
  | [], _ => ⟨rfl, Nat.zero_le _⟩
  | e :: su, h => by
    obtain ⟨a, b⟩ := su_show (m := m) (su := su) fun e he => h e (List.mem_cons_of_mem _ he)
    obtain ⟨i0, i1, sm⟩ := h e List.mem_cons_self
    obtain ⟨s1, s2⟩ := T.text e.2 sm.named sm.vars
    obtain ⟨t1, t2⟩ := small_text e.1 i0 i1
    have z := sm.size
    refine ⟨?_, ?_⟩
    · show ((decide (e.1.natAbs.log2 < 1920) && (PyData.showable e.2.d && true)) && PyData.showableAll (su.map _)) = true
      rw [a, s1, decide_eq_true t2]
      rfl
    · have l := tuple_piled [PyData.shown (.int e.1), PyData.shown e.2.d]
      have p : piled [PyData.shown (.int e.1), PyData.shown e.2.d] = ((PyData.shown (.int e.1)).length + 2) + ((PyData.shown e.2.d).length + 2) := by
        rw [piled_cons, piled_cons, piled_nil]
      have t1' : (PyData.shown (.int e.1)).length ≤ 2 := t1
      have q : piled (PyData.shownAll ((e :: su).map fun e => PyData.tuple [.int e.1, e.2.d])) = ((tupleText [PyData.shown (.int e.1), PyData.shown e.2.d]).length + 2) + piled (PyData.shownAll (su.map fun e => PyData.tuple [.int e.1, e.2.d])) := piled_cons _ _
      rw [q, List.length_cons, Nat.succ_mul]
      omega
/-- a small substitution can be shown -/
theorem su_text {m : Nat} {su : Sb} (hm : m ≤ 10000) (few : su.length ≤ 64) (h : ∀ e ∈ su, 0 ≤ e.1 ∧ e.1 < 64 ∧ Sm m e.2) : (suD su).showable = true ∧ (suD su).hasDict = false ∧ (suD su).depth ≤ 60 ∧ (suD su).shown.length ≤ sizeLine := by
  obtain ⟨a, b⟩ := su_show h
  refine ⟨a, PyData.hasDict_of_canLay _ ?_, ?_, ?_⟩
  · exact su_lay fun e he => (h e he).2.2.named
  · have := su_depth (su := su) fun e he => (h e he).2.2.dep
    show PyData.depthAll (su.map _) + 1 ≤ 60
    omega
  · have l := tuple_piled (PyData.shownAll (su.map fun e => PyData.tuple [.int e.1, e.2.d]))
    have mm : su.length * (17 * m + 9) ≤ 64 * (17 * 10000 + 9) := Nat.mul_le_mul few (by omega)
    show (tupleText (PyData.shownAll (su.map fun e => PyData.tuple [.int e.1, e.2.d]))).length ≤ sizeLine
    rw [sizeLine_eq]
    omega
theorem su_shaped {su : Sb} (h : ∀ e ∈ su, e.2.named = true ∧ e.2.dep ≤ 40) : SeqAt.shaped (suD su) = true := by
  have d := su_depth (su := su) fun e he => (h e he).2
  have l := su_lay (su := su) fun e he => (h e he).1
  unfold SeqAt.shaped
  rw [Bool.and_eq_true]
  refine ⟨l, decide_eq_true ?_⟩
  show PyData.depthAll (su.map _) + 1 ≤ _
  omega
theorem eqv_one {d : PyData} (h : SeqAt.shaped d = true) : PyData.eqv d d = true := SeqAt.eqv_refl d (SeqAt.canLay_of_shaped h)
end Ad

/-! zip's next, once a pair of its own still stands. -/
namespace Zl
open PySem RZ
abbrev IsZ (h : Heap) (z TI TO : Addr) (f0 : Value) (b : Bool) : Prop :=
  h.get? z = some { cls := .type "zip", dict := none, data := .fields #[f0, .bool b, .bool false, .ref TI, .ref TO], slots := #[] }
section
variable {prog : Program} {w : World} {A : Around} {E : Value → Shared → Prop} {s : Shared}
theorem wpAny_alive {M : Model} {a : Addr} {Q : Option Obj → Shared → Prop} (h : Q (s.heap.get? a) s) : wpAny M A (loadIfAlive a) Q E s := fun _ _ _ => h
theorem not_free {z TI TO a : Addr} {b : Bool} {oa : Obj} {Q : Bool → Shared → Prop} (hz : IsZ s.heap z TI TO (rawInt a) b) (ha : s.heap.get? a = some oa)
    (h : ∀ h', IsZ h' z TI TO (rawInt a) true → Heap.SameBut z s.heap h' → Q false { s with heap := h' }) : wpAny (model prog w) A (Builtin.SmallTypes.ownedTupleIsFree (.ref z)) Q E s := by
  unfold Builtin.SmallTypes.ownedTupleIsFree
  refine wpAny_bind (wpAny_field hz rfl (x := rawInt a) rfl ?_)
  show wpAny _ _ (loadIfAlive ((a : Int)).toNat >>= _) _ _ _
  rw [Int.toNat_natCast]
  refine wpAny_bind (wpAny_alive ?_)
  rw [ha]
  show wpAny _ _ (field (.ref z) 1 >>= _) _ _ _
  refine wpAny_bind (wpAny_field hz rfl (x := .bool b) rfl ?_)
  cases b with
  | true =>
    first
      | exact wpAny_pure (h s.heap hz (Heap.SameBut.refl ..))
      | exact wpAny_bind (wpAny_pure (wpAny_pure (h s.heap hz ⟨rfl, fun _ _ _ e => e⟩)))
  | false =>
    refine wpAny_bind (wpAny_setField_rec hz (by simp) fun h₁ hz₁ hs₁ => wpAny_pure ?_)
    exact h h₁ hz₁ hs₁
theorem next2_item {z TI TO i1 i2 l1 l2 c : Addr} {k1 k2 : Nat} {xs ys : Array Value} {x y : Value} {b : Bool} {oa : Obj} {Q : Value → Shared → Prop} (D : ZipApart z TI TO i1 i2 l1 l2)
    (hz : IsZ s.heap z TI TO (rawInt c) b) (ha : s.heap.get? c = some oa) (hTI : IsPair s.heap TI (.ref i1) (.ref i2))
    (h1 : s.heap.IsTupleIter i1 l1 k1) (h2 : s.heap.IsTupleIter i2 l2 k2) (hl1 : s.heap.IsTuple l1 xs) (hl2 : s.heap.IsTuple l2 ys) (hx : xs[k1]? = some x) (hy : ys[k2]? = some y)
    (hQ : ∀ h', IsZ h' z TI TO (rawInt c) true → h'.IsTupleIter i1 l1 (k1 + 1) → h'.IsTupleIter i2 l2 (k2 + 1) → IsPair h' s.heap.objs.size x y → h'.objs.size = s.heap.objs.size + 1 →
      (∀ c o, c ≠ z → c ≠ i1 → c ≠ i2 → s.heap.get? c = some o → h'.get? c = some o) → Q (.ref s.heap.objs.size) { s with heap := h' }) :
    wpAny (model prog w) A (Builtin.«zip.__next__» ⟨[.ref z], []⟩) (fun fin s' => ∃ v, fin = .done (.ret v) ∧ Q v s') E s := by
  show wpAny _ _ (field (.ref z) 2 >>= _) _ _ _
  refine wpAny_bind (wpAny_field hz rfl (x := .bool false) rfl ?_)
  show wpAny _ _ (field (.ref z) 3 >>= _) _ _ _
  refine wpAny_bind (wpAny_field hz rfl (x := .ref TI) rfl ?_)
  refine wpAny_bind (wpAny_seqItems hTI rfl ?_)
  show wpAny _ _ (Builtin.SmallTypes.ownedTupleIsFree (.ref z) >>= _) _ _ _
  refine wpAny_bind (not_free hz ha fun h₁ hz₁ hs₁ => ?_)
  simp only [Bool.false_eq_true, if_false]
  refine wpAny_bind ?_
  simp only [List.forIn_toArray, List.forIn_cons, List.forIn_nil]
  refine wpAny_bind (wpAny_bind (wpAny_holding ?_))
  show wpAny _ _ (Builtin.SmallTypes.nextOf (.ref i1) >>= _) _ _ _
  refine wpAny_bind (nextOf_tuple_item (h1.extBut hs₁.extBut D.i1z) (hl1.extBut hs₁.extBut D.l1z) hx fun h₂ h1₂ hs₂ => wpAny_pure ?_)
  refine wpAny_pure ?_
  refine wpAny_bind (wpAny_bind (wpAny_holding ?_))
  show wpAny _ _ (Builtin.SmallTypes.nextOf (.ref i2) >>= _) _ _ _
  refine wpAny_bind (nextOf_tuple_item ((h2.extBut hs₁.extBut D.i2z).extBut hs₂.extBut D.i12.symm) ((hl2.extBut hs₁.extBut D.l2z).extBut hs₂.extBut D.l2i1) hy fun h₃ h2₃ hs₃ => wpAny_pure ?_)
  refine wpAny_pure (wpAny_pure ?_)
  refine wpAny_bind (wpAny_newTuple (hsz := by show 2 ≤ sizeLine; decide) ?_)
  have hsz : h₃.objs.size = s.heap.objs.size := by rw [hs₃.1, hs₂.1, hs₁.1]
  refine wpAny_pure ⟨_, rfl, ?_⟩
  show Q (.ref h₃.objs.size) _
  have up : ∀ c o, c ≠ z → c ≠ i1 → c ≠ i2 → s.heap.get? c = some o → h₃.get? c = some o := fun c o c1 c2 c3 e => hs₃.extBut _ _ c3 (hs₂.extBut _ _ c2 (hs₁.extBut _ _ c1 e))
  have hp : IsPair (h₃.push { cls := .type "tuple", data := .seq #[x, y] }) h₃.objs.size x y := Heap.get?_push_size _ rfl
  rw [hsz] at hp ⊢
  refine hQ _ (Heap.get?_push_of_some _ (hs₃.extBut _ _ D.i2z.symm (hs₂.extBut _ _ D.i1z.symm hz₁))) ((h1₂.extBut hs₃.extBut D.i12).at fun o e => Heap.get?_push_of_some _ e) (h2₃.at fun o e => Heap.get?_push_of_some _ e) hp (by rw [Heap.size_push, hsz]) fun c o c1 c2 c3 e => Heap.get?_push_of_some _ (up c o c1 c2 c3 e)
theorem next2_end {z TI TO i1 i2 l1 l2 c : Addr} {k1 : Nat} {xs : Array Value} {b : Bool} {oa : Obj} {Q : Fin → Shared → Prop} (hh : A.handled = none) (D : ZipApart z TI TO i1 i2 l1 l2)
    (hz : IsZ s.heap z TI TO (rawInt c) b) (ha : s.heap.get? c = some oa) (hTI : IsPair s.heap TI (.ref i1) (.ref i2))
    (h1 : s.heap.IsTupleIter i1 l1 k1) (hl1 : s.heap.IsTuple l1 xs) (hx : xs[k1]? = none)
    (hE : ∀ h' e, (∀ c o, c ≠ z → c ≠ i1 → s.heap.get? c = some o → h'.get? c = some o) → (∃ o, h'.get? e = some o ∧ o.cls = .type "StopIteration") → E (.ref e) { s with heap := h' }) :
    wpAny (model prog w) A (Builtin.«zip.__next__» ⟨[.ref z], []⟩) Q E s := by
  show wpAny _ _ (field (.ref z) 2 >>= _) _ _ _
  refine wpAny_bind (wpAny_field hz rfl (x := .bool false) rfl ?_)
  show wpAny _ _ (field (.ref z) 3 >>= _) _ _ _
  refine wpAny_bind (wpAny_field hz rfl (x := .ref TI) rfl ?_)
  refine wpAny_bind (wpAny_seqItems hTI rfl ?_)
  show wpAny _ _ (Builtin.SmallTypes.ownedTupleIsFree (.ref z) >>= _) _ _ _
  refine wpAny_bind (not_free hz ha fun h₁ hz₁ hs₁ => ?_)
  simp only [Bool.false_eq_true, if_false]
  refine wpAny_bind ?_
  simp only [List.forIn_toArray, List.forIn_cons, List.forIn_nil]
  refine wpAny_bind (wpAny_bind (wpAny_holding ?_))
  show wpAny _ _ (Builtin.SmallTypes.nextOf (.ref i1) >>= _) _ _ _
  refine wpAny_bind (nextOf_tuple_end hh (h1.extBut hs₁.extBut D.i1z) (hl1.extBut hs₁.extBut D.l1z) hx fun h₂ e hs₂ he => ?_)
  exact hE h₂ e (fun c o c1 c2 x => hs₂ _ _ c2 (hs₁.extBut _ _ c1 x)) he
theorem pyNext2_item {z TI TO i1 i2 l1 l2 c : Addr} {k1 k2 : Nat} {xs ys : Array Value} {x y : Value} {b : Bool} {oa : Obj} {Q : Option Value → Shared → Prop} (D : ZipApart z TI TO i1 i2 l1 l2)
    (hz : IsZ s.heap z TI TO (rawInt c) b) (ha : s.heap.get? c = some oa) (hTI : IsPair s.heap TI (.ref i1) (.ref i2))
    (h1 : s.heap.IsTupleIter i1 l1 k1) (h2 : s.heap.IsTupleIter i2 l2 k2) (hl1 : s.heap.IsTuple l1 xs) (hl2 : s.heap.IsTuple l2 ys) (hx : xs[k1]? = some x) (hy : ys[k2]? = some y)
    (hQ : ∀ h', IsZ h' z TI TO (rawInt c) true → h'.IsTupleIter i1 l1 (k1 + 1) → h'.IsTupleIter i2 l2 (k2 + 1) → IsPair h' s.heap.objs.size x y → h'.objs.size = s.heap.objs.size + 1 →
      (∀ c o, c ≠ z → c ≠ i1 → c ≠ i2 → s.heap.get? c = some o → h'.get? c = some o) → Q (some (.ref s.heap.objs.size)) { s with heap := h' }) :
    wpAny (model prog w) A (pyNext (.ref z)) Q E s := by
  have hT : s.TypeIs (.ref z) "zip" := ⟨_, hz, rfl⟩
  unfold pyNext
  exact wpAny_bind (wpAny_attempt (wpAny_callSpecial?_slot (name := Str.ofString "__next__") hT F.slot_zip_next
    (wpAny_call_entry F.slot_zip_next hT F.entry_zip_next
      (next2_item D hz ha hTI h1 h2 hl1 hl2 hx hy fun h' a1 a2 a3 a4 a5 a6 => wpAny_pure (hQ h' a1 a2 a3 a4 a5 a6)) (F.args_zip_next_1 _))))
theorem pyNext2_end {z TI TO i1 i2 l1 l2 c : Addr} {k1 : Nat} {xs : Array Value} {b : Bool} {oa : Obj} {Q : Option Value → Shared → Prop} (hh : A.handled = none) (D : ZipApart z TI TO i1 i2 l1 l2)
    (hz : IsZ s.heap z TI TO (rawInt c) b) (ha : s.heap.get? c = some oa) (hTI : IsPair s.heap TI (.ref i1) (.ref i2))
    (h1 : s.heap.IsTupleIter i1 l1 k1) (hl1 : s.heap.IsTuple l1 xs) (hx : xs[k1]? = none)
    (hQ : ∀ h', (∀ c o, c ≠ z → c ≠ i1 → s.heap.get? c = some o → h'.get? c = some o) → Q none { s with heap := h' }) : wpAny (model prog w) A (pyNext (.ref z)) Q E s := by
  have hT : s.TypeIs (.ref z) "zip" := ⟨_, hz, rfl⟩
  unfold pyNext
  refine wpAny_bind (wpAny_attempt (wpAny_callSpecial?_slot (name := Str.ofString "__next__") hT F.slot_zip_next
    (wpAny_call_entry F.slot_zip_next hT F.entry_zip_next (next2_end hh D hz ha hTI h1 hl1 hx fun h' e hk he => ?_) (F.args_zip_next_1 _))))
  obtain ⟨o, ho, hc⟩ := he
  refine wpAny_bind (wpAny_isInstance (T := "StopIteration") (b := true) ⟨o, ho, hc⟩ isSubtype_stop ?_)
  exact wpAny_pure (hQ _ hk)
end
end Zl

/-! list(zip(t, u)) of two tuples of one length. -/
namespace Zl
open PySem PySem.Spec PySem.Calls PyProof.Rows L2 RZ
/-- where the walk stands -/
structure ZSt (h : Heap) (z TI TO i1 i2 a b : Addr) (k : Nat) : Prop where
  zip : (IsZip h z TI TO .none) ∨ ∃ c bb oa, IsZ h z TI TO (rawInt (c : Nat)) bb ∧ h.get? c = some oa ∧ c ≠ z ∧ c ≠ TI ∧ c ≠ TO ∧ c ≠ i1 ∧ c ≠ i2
  ti : IsPair h TI (.ref i1) (.ref i2)
  to : ∃ x y, IsPair h TO x y
  it1 : h.IsTupleIter i1 a k
  it2 : h.IsTupleIter i2 b k
/-- pairs stand at cs -/
def Prs (G : Hp) (xs ys : List V) (cs : List Addr) : Prop := ∀ (i : Nat) (c : Addr), cs[i]? = some c → ∃ x y, xs[i]? = some x ∧ ys[i]? = some y ∧ G c = some (.tup [x, y])
section
variable {X : Cx} {pins : List (Addr × Obj)} {σ : L2.St} {H : Hp}
theorem loop {A : Around} {R : Result → Shared → Prop} {S z TI TO i1 i2 a b : Addr} {xs ys : List V} {res : Value} (hh : A.handled = none) (D : ZipApart z TI TO i1 i2 a b) (len : xs.length = ys.length) (few : xs.length ≤ sizeLine) (nS : H S = none)
    (hR : ∀ s' G' cs, Inv X pins σ G' s' → Same H G' → G' S = some (.lst (cs.map V.ref)) → cs.length = xs.length → Prs G' xs ys cs → R (.ok (.ret res)) s') :
    ∀ (m k : Nat) (s : Shared) (G : Hp) (cs : List Addr), xs.length = k + m → Inv X pins σ G s → Same H G → G S = some (.lst (cs.map V.ref)) → cs.length = k → Prs G xs ys cs → SqT X.K G a xs → SqT X.K G b ys → (∀ c ∈ [z, TI, TO, i1, i2], FpOk X pins G c) → ZSt s.heap z TI TO i1 i2 a b k →
      codeAny (model X.prog X.w) A (.builtin "list.extend.loop" ⟨[.ref S, .ref z, res], []⟩) R s := by
  intro m
  induction m with
  | zero =>
    intro k s G cs hk I sm gS lcs prs sa sb fp st
    obtain ⟨its, rv, p, _⟩ := I.tuple sa
    obtain ⟨its2, rv2, p2, _⟩ := I.tuple sb
    have l1 := rv.length
    have e1 : its.toArray[k]? = none := by simp; omega
    refine codeAny_builtin F.entry_extend_loop ?_
    rw [Around.under_plainId F.plain_extend_loop _]
    show wpAny _ A.in1 (pyNext (.ref z) >>= _) _ _ s
    obtain ⟨zip, ti, ⟨x0, y0, to⟩, it1, it2⟩ := st
    have fin : ∀ h' : Heap, (∀ c o, c ∉ [z, TI, TO, i1, i2] → s.heap.get? c = some o → h'.get? c = some o) → R (.ok (.ret res)) { s with heap := h' } := fun h' hk' =>
      hR _ G cs (I.turnedL (t' := s.toks) (ch := [z, TI, TO, i1, i2]) hk' fp) sm gS (by omega) prs
    rcases zip with zip | ⟨c, bb, oa, zip, alive, _⟩
    · refine wpAny_bind (pyNext_zipT_end (A := A.in1) hh D zip ti to it1 it2 p p2 (.inl e1) fun h' hk' => wpAny_pure (fin h' fun c o hc e => ?_))
      exact hk' c o (fun q => hc (by simp [q])) (fun q => hc (by simp [q])) (fun q => hc (by simp [q])) (fun q => hc (by simp [q])) e
    · refine wpAny_bind (pyNext2_end (A := A.in1) hh D zip alive ti it1 p e1 fun h' hk' => wpAny_pure (fin h' fun c o hc e => ?_))
      exact hk' c o (fun q => hc (by simp [q])) (fun q => hc (by simp [q])) e
  | succ m ih =>
    intro k s G cs hk I sm gS lcs prs sa sb fp st
    obtain ⟨its, rv, p, _⟩ := I.tuple sa
    obtain ⟨its2, rv2, p2, _⟩ := I.tuple sb
    have hx : xs[k]? = some xs[k] := List.getElem?_eq_getElem (by omega)
    have hy : ys[k]? = some ys[k] := List.getElem?_eq_getElem (by omega)
    generalize xs[k] = x at hx
    generalize ys[k] = y at hy
    obtain ⟨u, hu, ru⟩ := rv.get hx
    obtain ⟨u2, hu2, ru2⟩ := rv2.get hy
    refine codeAny_builtin F.entry_extend_loop ?_
    rw [Around.under_plainId F.plain_extend_loop _]
    show wpAny _ A.in1 (pyNext (.ref z) >>= _) _ _ s
    obtain ⟨zip, ti, ⟨x0, y0, to⟩, it1, it2⟩ := st
    have lt : ∀ {c o}, s.heap.get? c = some o → s.heap.objs.size ≠ c := fun e => Nat.ne_of_gt (Heap.lt_size e)
    have nz : s.heap.objs.size ≠ z := by
      rcases zip with q | ⟨_, _, _, q, _⟩
      · exact lt q
      · exact lt q
    have nTI := lt ti
    have nTO := lt to
    have n1 : s.heap.objs.size ≠ i1 := by obtain ⟨_, e, _⟩ := it1; exact lt e
    have n2 : s.heap.objs.size ≠ i2 := by obtain ⟨_, e, _⟩ := it2; exact lt e
    have on : ∀ h' : Heap, (∀ c o, c ∉ [z, TI, TO, i1, i2] → s.heap.get? c = some o → h'.get? c = some o) → IsPair h' s.heap.objs.size u u2 → ZSt h' z TI TO i1 i2 a b (k + 1) →
        wpAny (model X.prog X.w) A.in1 (updateSeq S (·.push (.ref s.heap.objs.size)) >>= fun _ => again (.builtin "list.extend.loop" ⟨[.ref S, .ref z, res], []⟩))
          (fun fin s' => match fin with | .done f => R (.ok f) s' | .again c' => c'.quiet = true ∧ codeAny (model X.prog X.w) A c' R s') (fun e s' => R (.error e) s') { s with heap := h' } := by
      intro h' hk' hp st'
      have new : ObjOk X.prog X.w (upd G s.heap.objs.size (.tup [x, y])) h' s.heap.objs.size (.tup [x, y]) := ⟨by show 2 ≤ sizeLine; decide, [u, u2], .cons ru (.cons ru2 .nil), ⟨_, hp, rfl, _, rfl⟩⟩
      have fr := I.hok.fresh (Nat.le_refl s.heap.objs.size)
      have I1 : Inv X pins σ (upd G s.heap.objs.size (.tup [x, y])) { s with heap := h' } := I.turnedNew (t' := s.toks) (ch := [z, TI, TO, i1, i2]) hk' fp (Nat.le_refl _) new
      have k1 : Same G (upd G s.heap.objs.size (.tup [x, y])) := fun c o e => by
        rw [upd_ne (ne_of_none e fr)]
        exact e
      have gS1 := k1 _ _ gS
      have m1 : (upd G s.heap.objs.size (.tup [x, y])) s.heap.objs.size = some (.tup [x, y]) := upd_same
      have fp1 : ∀ c ∈ [z, TI, TO, i1, i2], FpOk X pins (upd G s.heap.objs.size (.tup [x, y])) c := by
        intro c hc
        obtain ⟨q1, q2⟩ := fp c hc
        refine ⟨?_, q2⟩
        rw [upd_ne (fun q => ?_)]
        · exact q1
        · simp only [List.mem_cons, List.mem_nil_iff, or_false] at hc
          rcases hc with e | e | e | e | e <;> rw [e] at q <;> first | exact nz q.symm | exact nTI q.symm | exact nTO q.symm | exact n1 q.symm | exact n2 q.symm
      have sa1 : SqT X.K (upd G s.heap.objs.size (.tup [x, y])) a xs := by
        rcases sa with (q | ⟨o, q⟩) | q
        · exact .inl (.inl (k1 _ _ q))
        · exact .inl (.inr ⟨o, k1 _ _ q⟩)
        · exact .inr q
      have sb1 : SqT X.K (upd G s.heap.objs.size (.tup [x, y])) b ys := by
        rcases sb with (q | ⟨o, q⟩) | q
        · exact .inl (.inl (k1 _ _ q))
        · exact .inl (.inr ⟨o, k1 _ _ q⟩)
        · exact .inr q
      have prs1 : Prs (upd G s.heap.objs.size (.tup [x, y])) xs ys cs := fun i c e => by
        obtain ⟨x', y', q1, q2, q3⟩ := prs i c e
        exact ⟨x', y', q1, q2, k1 _ _ q3⟩
      have sm1 : Same H (upd G s.heap.objs.size (.tup [x, y])) := fun c o e => k1 _ _ (sm _ _ e)
      generalize upd G s.heap.objs.size (.tup [x, y]) = G1 at I1 gS1 m1 fp1 sa1 sb1 prs1 sm1
      clear new fr k1
      obtain ⟨_, itsS, nn, rS, hlS, eS⟩ := I1.lstM gS1
      have lS := rS.length
      rw [List.length_map] at lS
      have I2 : Inv X pins σ (upd G1 S (.lst (cs.map V.ref ++ [.ref s.heap.objs.size]))) { ({ s with heap := h' } : Shared) with heap := h'.update S (Obj.mapSeq (·.push (.ref s.heap.objs.size))), toks := s.toks } :=
        I1.lset (its' := itsS ++ [Value.ref s.heap.objs.size]) gS1 eS (by simp) (rS.append (.cons (show L2.RelV (V.ref s.heap.objs.size) (Value.ref s.heap.objs.size) from rfl) .nil)) (by rw [List.length_append, List.length_map, List.length_singleton]; omega)
      have offS : ∀ c ∈ [z, TI, TO, i1, i2], c ≠ S := fun c hc q => by
        have := (fp1 c hc).1
        rw [q, gS1] at this
        cases this
      refine wpAny_bind (wpAny_updateSeq eS rfl (wpAny_pure ⟨plainId_quiet F.plain_extend_loop _, ?_⟩) (by rw [List.size_toArray]; omega) (by show (itsS.toArray.push _).size ≤ sizeLine + 1; rw [Array.size_push, List.size_toArray]; omega))
      have other : ∀ {c o}, c ≠ S → h'.get? c = some o → (h'.update S (Obj.mapSeq (·.push (.ref s.heap.objs.size)))).get? c = some o := fun n e => (Heap.get?_update_other _ _ (Ne.symm n)).trans e
      have bS : ∀ {c o}, G1 c = some o → (∀ l, o ≠ .lst l) → c ≠ S := fun e n q => by
        rw [q, gS1] at e
        exact n _ (Option.some.inj e).symm
      have k2 : ∀ {c o}, G1 c = some o → (∀ l, o ≠ .lst l) → (upd G1 S (.lst (cs.map V.ref ++ [.ref s.heap.objs.size]))) c = some o := fun e n => by
        rw [upd_ne (bS e n)]
        exact e
      refine ih (k + 1) _ (upd G1 S (.lst (cs.map V.ref ++ [.ref s.heap.objs.size]))) (cs ++ [s.heap.objs.size]) (by omega) I2 (fun c o e => ?_) (by rw [List.map_append]; exact upd_same) (by rw [List.length_append, List.length_singleton, lcs]) ?_ ?_ ?_ ?_ ?_
      · rw [upd_ne (ne_of_none e nS)]
        exact sm1 _ _ e
      · intro i c e
        rw [List.getElem?_append] at e
        split at e
        · obtain ⟨x', y', q1, q2, q3⟩ := prs1 i c e
          exact ⟨x', y', q1, q2, k2 q3 (by intro l q; cases q)⟩
        · rename_i hlt
          have i0 : i = k := by
            cases hi : i - cs.length with
            | zero => omega
            | succ j =>
              rw [hi] at e
              cases e
          subst i0
          rw [lcs, Nat.sub_self] at e
          cases e
          exact ⟨x, y, hx, hy, k2 m1 (by intro l q; cases q)⟩
      · rcases sa1 with (q | ⟨o, q⟩) | q
        · exact .inl (.inl (k2 q (by intro l q; cases q)))
        · exact .inl (.inr ⟨o, k2 q (by intro l q; cases q)⟩)
        · exact .inr q
      · rcases sb1 with (q | ⟨o, q⟩) | q
        · exact .inl (.inl (k2 q (by intro l q; cases q)))
        · exact .inl (.inr ⟨o, k2 q (by intro l q; cases q)⟩)
        · exact .inr q
      · intro c hc
        obtain ⟨q1, q2⟩ := fp1 c hc
        exact ⟨by rw [upd_ne (offS c hc)]; exact q1, q2⟩
      · obtain ⟨zip', ti', ⟨x1, y1, to'⟩, it1', it2'⟩ := st'
        refine ⟨?_, other (offS TI (by simp)) ti', ⟨x1, y1, other (offS TO (by simp)) to'⟩, it1'.at fun o e => other (offS i1 (by simp)) e, it2'.at fun o e => other (offS i2 (by simp)) e⟩
        rcases zip' with q | ⟨c, bb, oa, q, al, r⟩
        · exact .inl (other (offS z (by simp)) q)
        · by_cases hc : c = S
          · have al' := al
            rw [hc, eS] at al'
            cases al'
            have e5 := Heap.get?_update_self (Obj.mapSeq (·.push (.ref s.heap.objs.size))) eS rfl
            exact .inr ⟨c, bb, _, other (offS z (by simp)) q, by rw [hc]; exact e5, r⟩
          · exact .inr ⟨c, bb, oa, other (offS z (by simp)) q, other hc al, r⟩
    rcases zip with zip | ⟨c, bb, oa, zip, alive, c1, c2, c3, c4, c5⟩
    · refine wpAny_bind (pyNext_zipT_item (A := A.in1) D zip ti to it1 it2 p p2 (x := u) (y := u2) (by simpa using hu) (by simpa using hu2) fun h' z' TO' h1' h2' hT hsz hk' => ?_)
      refine on h' (fun c o hc e => hk' c o (fun q => hc (by simp [q])) (fun q => hc (by simp [q])) (fun q => hc (by simp [q])) (fun q => hc (by simp [q])) e) hT ?_
      exact ⟨.inr ⟨_, false, _, z', hT, nz, nTI, nTO, n1, n2⟩, hk' _ _ D.TIz D.TITO D.TIi1 D.TIi2 ti, ⟨_, _, TO'⟩, h1', h2'⟩
    · refine wpAny_bind (pyNext2_item (A := A.in1) D zip alive ti it1 it2 p p2 (x := u) (y := u2) (by simpa using hu) (by simpa using hu2) fun h' z' h1' h2' hT hsz hk' => ?_)
      refine on h' (fun c o hc e => hk' c o (fun q => hc (by simp [q])) (fun q => hc (by simp [q])) (fun q => hc (by simp [q])) e) hT ?_
      exact ⟨.inr ⟨c, true, oa, z', hk' _ _ c1 c4 c5 alive, c1, c2, c3, c4, c5⟩, hk' _ _ D.TIz D.TIi1 D.TIi2 ti, ⟨_, _, hk' _ _ D.TOz D.TOi1 D.TOi2 to⟩, h1', h2'⟩
end
end Zl

/-! list(zip(t, u)) as an expression. -/
namespace Zl
open PySem PySem.Spec PySem.Calls PyProof.Rows L2 RZ
theorem zip_no_len : typeLookup (.type "zip") "__len__" = pure none := by rw [typeLookup_type, builtinLookup_eq_fast]; kernel_rfl
theorem zip_no_hint : typeLookup (.type "zip") "__length_hint__" = pure none := by rw [typeLookup_type, builtinLookup_eq_fast]; kernel_rfl
section
variable {X : Cx} {pins : List (Addr × Obj)} {σ : L2.St}
theorem extend {A : Around} {R : Result → Shared → Prop} {S z TI TO i1 i2 a b : Addr} {xs ys : List V} {res : Value} {H G : Hp} {s : Shared} (hh : A.handled = none) (D : ZipApart z TI TO i1 i2 a b) (len : xs.length = ys.length) (few : xs.length ≤ sizeLine) (nS : H S = none)
    (I : Inv X pins σ G s) (sm : Same H G) (gS : G S = some (.lst [])) (sa : SqT X.K G a xs) (sb : SqT X.K G b ys) (fp : ∀ c ∈ [z, TI, TO, i1, i2], FpOk X pins G c) (zip : IsZip s.heap z TI TO .none) (ti : IsPair s.heap TI (.ref i1) (.ref i2)) (to : IsPair s.heap TO .none .none) (it1 : s.heap.IsTupleIter i1 a 0) (it2 : s.heap.IsTupleIter i2 b 0)
    (hR : ∀ s' G' cs, Inv X pins σ G' s' → Same H G' → G' S = some (.lst (cs.map V.ref)) → cs.length = xs.length → Prs G' xs ys cs → R (.ok (.ret res)) s') :
    wpAny (model X.prog X.w) A.in1 (Builtin.List.listExtendWith (.ref S) (.ref z) res)
      (fun fin s' => match fin with | .done f => R (.ok f) s' | .again c' => c'.quiet = true ∧ codeAny (model X.prog X.w) A c' R s') (fun e s' => R (.error e) s') s := by
  have offS : ∀ c ∈ [z, TI, TO, i1, i2], c ≠ S := fun c hc q => by
    have := (fp c hc).1
    rw [q, gS] at this
    cases this
  have hT : s.TypeIs (.ref z) "zip" := ⟨_, zip, rfl⟩
  unfold Builtin.List.listExtendWith
  refine wpAny_bind (wpAny_typeOf hT ?_)
  have h1 : Builtin.List.listSameRef (.ref S) (.ref z) = false := by simp [Builtin.List.listSameRef, Ne.symm (offS z (by simp))]
  have h2 : (Value.type "zip" == Value.type "list") = false := by decide
  have h3 : (Value.type "zip" == Value.type "tuple") = false := by decide
  simp only [h1, h2, h3, Bool.or_false, Bool.false_eq_true, if_false]
  refine wpAny_bind (wpAny_pyIter_zip zip ?_)
  refine wpAny_bind (wpAny_holding ?_)
  unfold Builtin.List.listLengthHint
  refine wpAny_bind (wpAny_specialOf hT zip_no_len ?_)
  show wpAny _ A.in1 (specialOf (Value.ref z) (Str.ofString "__length_hint__") >>= _) _ _ _
  refine wpAny_bind (wpAny_specialOf hT zip_no_hint ?_)
  refine wpAny_pure ?_
  show wpAny _ A.in1 (rule "list.extend.makes-room" >>= fun _ => Builtin.List.listTouch (.ref S) >>= fun _ =>
    again (.builtin "list.extend.loop" ⟨[.ref S, .ref z, res], []⟩)) _ _ _
  refine wpAny_bind (wpAny_rule ?_)
  refine wpAny_bind ?_
  show wpAny _ A.in1 (updateSeq S (·.push .none) >>= fun _ => updateSeq S (·.pop)) _ _ _
  obtain ⟨_, its, nn, r0, hl0, e0⟩ := I.lstM gS
  have i0 : its = [] := by cases r0; rfl
  subst i0
  refine wpAny_bind (wpAny_updateSeq e0 rfl ?_)
  have I1 : Inv X pins σ (upd G S (.lst [.non])) { s with heap := s.heap.update S (Obj.mapSeq (·.push .none)), toks := s.toks } := I.lset (its' := [Value.none]) gS e0 (by simp) (.cons (show L2.RelV V.non Value.none from rfl) .nil) (by show 1 ≤ sizeLine; decide)
  have g1 : (upd G S (.lst [.non])) S = some (.lst [.non]) := upd_same
  have e1 := Heap.get?_update_self (Obj.mapSeq (·.push Value.none)) e0 rfl
  refine wpAny_updateSeq (hz := by seq_fits) e1 rfl ?_
  have I2 : Inv X pins σ (upd (upd G S (.lst [.non])) S (.lst [])) { ({ s with heap := s.heap.update S (Obj.mapSeq (·.push .none)) } : Shared) with heap := (s.heap.update S (Obj.mapSeq (·.push .none))).update S (Obj.mapSeq (·.pop)), toks := s.toks } := by
    obtain ⟨_, its2, nn2, r2, hl2, e2⟩ := I1.lstM g1
    obtain ⟨u0, rfl, _⟩ := Vals.one r2
    exact I1.lset (its := [u0]) (its' := []) g1 e2 (by simp) .nil (Nat.zero_le _)
  have other : ∀ {c o}, c ≠ S → s.heap.get? c = some o → ((s.heap.update S (Obj.mapSeq (·.push .none))).update S (Obj.mapSeq (·.pop))).get? c = some o := fun n e => (Heap.get?_update_other _ _ (Ne.symm n)).trans ((Heap.get?_update_other _ _ (Ne.symm n)).trans e)
  have k2 : ∀ {c o}, G c = some o → (∀ l, o ≠ .lst l) → (upd (upd G S (.lst [.non])) S (.lst [])) c = some o := fun {c o} e n => by
    have q : c ≠ S := fun q => by
      rw [q, gS] at e
      exact n _ (Option.some.inj e).symm
    rw [upd_ne q, upd_ne q]
    exact e
  refine wpAny_pure ⟨plainId_quiet F.plain_extend_loop _, loop hh D len few nS hR xs.length 0 _ _ [] (by omega) I2 (fun c o e => ?_) upd_same rfl (fun i c e => nomatch e) ?_ ?_ (fun c hc => ?_) ⟨.inl (other (offS z (by simp)) zip), other (offS TI (by simp)) ti, ⟨_, _, other (offS TO (by simp)) to⟩, it1.at fun o e => other (offS i1 (by simp)) e, it2.at fun o e => other (offS i2 (by simp)) e⟩⟩
  · rw [upd_ne (ne_of_none e nS), upd_ne (ne_of_none e nS)]
    exact sm _ _ e
  · rcases sa with (q | ⟨o, q⟩) | q
    · exact .inl (.inl (k2 q (by intro l q; cases q)))
    · exact .inl (.inr ⟨o, k2 q (by intro l q; cases q)⟩)
    · exact .inr q
  · rcases sb with (q | ⟨o, q⟩) | q
    · exact .inl (.inl (k2 q (by intro l q; cases q)))
    · exact .inl (.inr ⟨o, k2 q (by intro l q; cases q)⟩)
    · exact .inr q
  · obtain ⟨q1, q2⟩ := fp c hc
    exact ⟨by rw [upd_ne (offS c hc), upd_ne (offS c hc)]; exact q1, q2⟩
def tListZip (K : PySem.W.Frag) (ta : TA) : TE := fun σ H Q => ta σ H fun vs H1 => ∃ a b xs ys, vs = [.ref a, .ref b] ∧ SqT K H1 a xs ∧ SqT K H1 b ys ∧ xs.length = ys.length ∧
  ∀ G p cs, Same H1 G → H1 p = none → G p = some (.lst (cs.map V.ref)) → cs.length = xs.length → Prs G xs ys cs → Q (.ref p) G
theorem pe_listZip {e1 e2 : Expr} {ta : TA} {p p2 pos pos2 : Pos} (ha : PA X [e1, e2] ta) (hgl : Gl X "list") (hml : X.mg "list" = none) (hgz : Gl X "zip") (hmz : X.mg "zip" = none) (calm : X.calm = true)
    (hs : starEach [e1, e2] X.env = (false, eval e1 X.env) :: starEach [e2] X.env := by rfl) (hpl : (backTo pos2 (starEach [e2] X.env)).any (·.1) = false := by rfl)
    (he : starEach [.Call (.Name "zip" p2) [e1, e2] [] pos2] X.env = (false, eval (.Call (.Name "zip" p2) [e1, e2] [] pos2) X.env) :: starEach [] X.env := by rfl) :
    PE X (.Call (.Name "list" p) [.Call (.Name "zip" p2) [e1, e2] [] pos2] [] pos) (tListZip X.K ta) := by
  refine ⟨fun pins s σ H Q I h => ?_⟩
  refine wpAny_Call_Name_kw (ld_blt I hgl hml boot_list ?_)
  refine PyProof.Rows.callWith_type1 ?_ he rfl
  rw [he]
  show wpAny _ _ (spliced ((false, eval _ X.env) :: backTo pos (starEach [] X.env))) _ _ s
  refine Calls.spliced_cons ?_
  refine wpAny_Call_Name_kw (ld_blt I hgz hmz PyProof.Rows.boot_zip (PyProof.Rows.callWith_type1 (thn (ha.run pos2 pins s σ H _ I h) fun us s1 ⟨vs, H1, I1, r1, q1⟩ => ?_) hs hpl))
  obtain ⟨a, b, xs, ys, ex, sa, sb, len, q⟩ := q1
  subst ex
  cases r1 with
  | cons r rr =>
    cases rr with
    | cons r' rr =>
      cases rr
      cases r
      cases r'
      obtain ⟨its, rv, p1, few⟩ := I1.tuple sa
      obtain ⟨its2, rv2, p2, _⟩ := I1.tuple sb
      have la : a < s1.heap.objs.size := p1.lt
      have lb : b < s1.heap.objs.size := p2.lt
      refine call_zipT p1 p2 fun h' hz hTI hTO h1 h2 hsz hk => ?_
      refine Calls.spliced_nil ?_
      have I2 : Inv X pins σ H1 { s1 with heap := h' } := I1.kept (t' := s1.toks) hk
      have fp2 : ∀ c ∈ [s1.heap.objs.size + 4, s1.heap.objs.size + 2, s1.heap.objs.size + 3, s1.heap.objs.size, s1.heap.objs.size + 1], FpOk X pins H1 c ∧ c < h'.objs.size := by
        intro c hcm
        have e' : c = s1.heap.objs.size + 4 ∨ c = s1.heap.objs.size + 2 ∨ c = s1.heap.objs.size + 3 ∨ c = s1.heap.objs.size ∨ c = s1.heap.objs.size + 1 := by simpa using hcm
        have hle : s1.heap.objs.size ≤ c := by
          rcases e' with z | z | z | z | z <;> rw [z] <;> omega
        refine ⟨I1.fpOk hle (I1.hok.fresh hle), ?_⟩
        rcases e' with z | z | z | z | z <;> rw [z, hsz] <;> omega
      have nS : H1 h'.objs.size = none := I2.hok.fresh (Nat.le_refl _)
      refine callType_codes (Q₁ := fun obj s₁ => obj = .ref h'.objs.size ∧ s₁ = { ({ s1 with heap := h' } : Shared) with heap := h'.push { cls := .type "list", data := .seq #[] } }) F.called_list (F.typeCall_list_1 _) F.entry_list_init
        (code_list_new _ ⟨rfl, rfl⟩) fun obj s₁ h₁ => ?_
      obtain ⟨rfl, rfl⟩ := h₁
      have hS : (h'.push { cls := .type "list", data := .seq #[] }).get? h'.objs.size = some { cls := .type "list", data := .seq #[] } := Heap.get?_push_size _ rfl
      have I3 : Inv X pins σ (upd H1 h'.objs.size (.lst [])) { ({ s1 with heap := h' } : Shared) with heap := h'.push { cls := .type "list", data := .seq #[] }, toks := s1.toks } := I2.lnew (its := []) .nil (Nat.zero_le _)
      have g3 : (upd H1 h'.objs.size (.lst [])) h'.objs.size = some (.lst []) := upd_same
      refine ⟨⟨_, hS, rfl⟩, F.args_list_init_2 _ _, ?_⟩
      show wpAny _ _ (do let old ← Builtin.List.listItems (.ref h'.objs.size); Builtin.List.listUpdate (.ref h'.objs.size) (fun _ => #[]); letGo old.toList.reverse; Builtin.List.listExtendWith (.ref h'.objs.size) (.ref (s1.heap.objs.size + 4)) .none) _ _ _
      refine wpAny_bind ?_
      unfold Builtin.List.listItems
      refine wpAny_bind (wpAny_seqItems hS rfl (wpAny_pure ?_))
      show wpAny _ _ (updateSeq h'.objs.size (fun _ => #[]) >>= fun _ => letGo (#[] : Array Value).toList.reverse >>= fun _ => Builtin.List.listExtendWith (.ref h'.objs.size) (.ref (s1.heap.objs.size + 4)) .none) _ _ _
      refine wpAny_bind (wpAny_updateSeq hS rfl ?_)
      have I4 : Inv X pins σ (upd (upd H1 h'.objs.size (.lst [])) h'.objs.size (.lst [])) { ({ s1 with heap := h' } : Shared) with heap := (h'.push { cls := .type "list", data := .seq #[] }).update h'.objs.size (Obj.mapSeq (fun _ => (#[] : Array Value))), toks := s1.toks } :=
        I3.lset (its := []) (its' := []) (n := 0) g3 hS rfl .nil (Nat.zero_le _)
      have other : ∀ {c o}, h'.get? c = some o → ((h'.push { cls := .type "list", data := .seq #[] }).update h'.objs.size (Obj.mapSeq (fun _ => (#[] : Array Value)))).get? c = some o := fun e =>
        (Heap.get?_update_other _ _ (Ne.symm (Nat.ne_of_lt (Heap.lt_size e)))).trans (Heap.get?_push_of_some _ e)
      refine wpAny_bind (wpAny_letGo ?_)
      have k4 : Same H1 (upd (upd H1 h'.objs.size (.lst [])) h'.objs.size (.lst [])) := fun c o e => by
        rw [upd_ne (ne_of_none e nS), upd_ne (ne_of_none e nS)]
        exact e
      have sq : ∀ {c : Addr} {zs : List V}, SqT X.K H1 c zs → SqT X.K (upd (upd H1 h'.objs.size (.lst [])) h'.objs.size (.lst [])) c zs := fun h => by
        rcases h with (q | ⟨o, q⟩) | q
        · exact .inl (.inl (k4 _ _ q))
        · exact .inl (.inr ⟨o, k4 _ _ q⟩)
        · exact .inr q
      refine extend (a := a) (b := b) (I.ok.hd calm) (PySem.W.ktu_apart s1.heap.objs.size a b la lb) len few nS I4 k4 upd_same (sq sa) (sq sb) (fun c hc => ?_) (other hz) (other hTI) (other hTO) (h1.at fun o e => other e) (h2.at fun o e => other e) fun s' G' cs J s4 gS lcs prs => ?_
      · obtain ⟨⟨q1, q2⟩, q3⟩ := fp2 c hc
        have n := Nat.ne_of_lt q3
        exact ⟨by rw [upd_ne n, upd_ne n]; exact q1, q2⟩
      · exact ⟨rfl, .ref h'.objs.size, G', J, rfl, q G' _ cs s4 nS gS lcs prs⟩
end
end Zl

/-! Matching, as a plain function. -/
namespace Ad
open PySem PySem.Spec PySem.Calls PyProof.Rows L2
theorem eqvAll_cons (a b : PyData) (as bs : List PyData) : PyData.eqvAll (a :: as) (b :: bs) = (PyData.eqv a b && PyData.eqvAll as bs) := by
  first
    | rfl
    | rw [PyData.eqvAll]
    | simp only [PyData.eqvAll]
namespace T
mutual
theorem eqv_eq : ∀ t u : T, PyData.eqv t.d u.d = true → t = u
  | .v i, .v j, h => by
    have e : PyData.eqv (.int i) (.int j) = (i == j) := by rw [PyData.eqv]
    have h' : (i == j) = true := by rw [← e]; exact h
    rw [eq_of_beq h']
  | .v i, .f x ts, h => by
    have e : PyData.eqv (.int i) (.tuple (.str x :: ds ts)) = false := by rw [PyData.eqv]
    have h' : PyData.eqv (.int i) (.tuple (.str x :: ds ts)) = true := h
    rw [e] at h'
    cases h'
  | .f x ts, .v i, h => by
    have e : PyData.eqv (.tuple (.str x :: ds ts)) (.int i) = false := by rw [PyData.eqv]
    have h' : PyData.eqv (.tuple (.str x :: ds ts)) (.int i) = true := h
    rw [e] at h'
    cases h'
  | .f x ts, .f y us, h => by
    have e : PyData.eqv (.tuple (.str x :: ds ts)) (.tuple (.str y :: ds us)) = (PyData.eqv (.str x) (.str y) && PyData.eqvAll (ds ts) (ds us)) := by
      rw [← eqvAll_cons]
      have e0 : ∀ as bs : List PyData, PyData.eqv (.tuple as) (.tuple bs) = PyData.eqvAll as bs := fun as bs => by rw [PyData.eqv]
      exact e0 _ _
    have h' : PyData.eqv (.tuple (.str x :: ds ts)) (.tuple (.str y :: ds us)) = true := h
    have es : PyData.eqv (.str x) (.str y) = (x == y) := by rw [PyData.eqv]
    rw [e, es, Bool.and_eq_true] at h'
    rw [eq_of_beq h'.1, eqvs_eq ts us h'.2]
theorem eqvs_eq : ∀ ts us : List T, PyData.eqvAll (ds ts) (ds us) = true → ts = us
  | [], [], _ => rfl
  | [], u :: us, h => by
    have e : PyData.eqvAll [] (d u :: ds us) = false := by rw [PyData.eqvAll]
    have h' : PyData.eqvAll [] (d u :: ds us) = true := h
    rw [e] at h'
    cases h'
  | t :: ts, [], h => by
    have e : PyData.eqvAll (d t :: ds ts) [] = false := by rw [PyData.eqvAll]
    have h' : PyData.eqvAll (d t :: ds ts) [] = true := h
    rw [e] at h'
    cases h'
  | t :: ts, u :: us, h => by
    have e : PyData.eqvAll (d t :: ds ts) (d u :: ds us) = (PyData.eqv (d t) (d u) && PyData.eqvAll (ds ts) (ds us)) := eqvAll_cons _ _ _ _
    have h' : PyData.eqvAll (d t :: ds ts) (d u :: ds us) = true := h
    rw [e, Bool.and_eq_true] at h'
    rw [eqv_eq t u h'.1, eqvs_eq ts us h'.2]
end
theorem mem_varsL {p : T} {j : Int} : ∀ {ps : List T}, p ∈ ps → j ∈ p.vars → j ∈ varsL ps
  | q :: ps, h, hj => by
    rcases List.mem_cons.mp h with w | w
    · exact List.mem_append_left _ (by rw [← w]; exact hj)
    · exact List.mem_append_right _ (mem_varsL w hj)
/-- a name and arguments like those of another term -/
def alike (x : Str) (ps : List T) : T → Bool
  | .v _ => false
  | .f y ts => decide (ps.length = ts.length) && decide (x = y)
end T
/-- a row of pairs, how large its first sides are -/
def psz : List (T × T) → Nat
  | [] => 0
  | e :: r => e.1.size + psz r
theorem psz_app : ∀ a b : List (T × T), psz (a ++ b) = psz a + psz b
  | [], b => (Nat.zero_add _).symm
  | e :: a, b => by
    show e.1.size + psz (a ++ b) = e.1.size + psz a + psz b
    rw [psz_app a b, Nat.add_assoc]
theorem psz_rev (a : List (T × T)) : psz a.reverse = psz a := by
  induction a with
  | nil => rfl
  | cons e a ih =>
    rw [List.reverse_cons, psz_app, ih]
    show psz a + (e.1.size + 0) = e.1.size + psz a
    omega
theorem psz_zip : ∀ ps ts : List T, psz (ps.zip ts) ≤ T.sizeL ps
  | [], _ => Nat.zero_le _
  | p :: ps, [] => Nat.zero_le _
  | p :: ps, t :: ts => by
    have := psz_zip ps ts
    show p.size + psz (ps.zip ts) ≤ T.size p + T.sizeL ps
    omega
theorem psz_len : ∀ a : List (T × T), a.length ≤ psz a
  | [] => Nat.le_refl _
  | e :: a => by
    have h1 := psz_len a
    have h2 := e.1.size_pos
    show a.length + 1 ≤ e.1.size + psz a
    omega
/-- matching; the last pair of the row is the first here -/
def mt : Nat → Sb → List (T × T) → Option Sb
  | 0, _, _ => none
  | _ + 1, tb, [] => some tb
  | n + 1, tb, (.v i, t) :: r => match tb.look i with
    | some u => if PyData.eqv u.d t.d = true then mt n tb r else none
    | none => mt n (tb.put i t) r
  | n + 1, tb, (.f x ps, .f y ts) :: r => if T.alike x ps (.f y ts) = true then mt n tb ((ps.zip ts).reverse ++ r) else none
  | _ + 1, _, (.f _ _, .v _) :: _ => none
theorem Sb.put_same {tb : Sb} {i : Int} {t : T} (nd : (tb.map (·.1)).Nodup) (h : tb.look i = some t) : tb.put i t = tb := by
  unfold Sb.put
  rw [h, if_pos (show (some t).isSome = true from rfl)]
  have key : ∀ e ∈ tb, (if e.1 = i then (e.1, t) else e) = e := by
    intro e he
    split
    · rename_i z
      have := (Sb.mem_look nd (i := e.1) (t := e.2)).1 he
      rw [z, h] at this
      rw [Option.some.inj this]
    · rfl
  have := List.map_congr_left key
  rw [this]
  exact List.map_id' _
/-- what holds of all that stands in the result -/
theorem mt_all {P : T → Prop} {Kp : Int → Prop} (hP : ∀ x ts, P (.f x ts) → ∀ u ∈ ts, P u) : ∀ (n : Nat) (tb : Sb) (es : List (T × T)) (tb' : Sb), mt n tb es = some tb' → (∀ e ∈ tb, Kp e.1 ∧ P e.2) → (∀ e ∈ es, (∀ j ∈ e.1.vars, Kp j) ∧ P e.2) → ∀ e ∈ tb', Kp e.1 ∧ P e.2
  | 0, _, _, _, h, _, _ => nomatch h
  | n + 1, tb, [], tb', h, h1, _ => by
    cases (show some tb = some tb' from h)
    exact h1
  | n + 1, tb, (.v i, t) :: r, tb', h, h1, h2 => by
    have h' : (match tb.look i with | some u => if PyData.eqv u.d t.d = true then mt n tb r else none | none => mt n (tb.put i t) r) = some tb' := h
    obtain ⟨k0, p0⟩ := h2 _ List.mem_cons_self
    have hr : ∀ e ∈ r, (∀ j ∈ e.1.vars, Kp j) ∧ P e.2 := fun e he => h2 e (List.mem_cons_of_mem _ he)
    cases lk : tb.look i with
    | some u =>
      rw [lk] at h'
      by_cases z : PyData.eqv u.d t.d = true
      · have h'' : mt n tb r = some tb' := by
          have e := h'
          simp only [z, if_true] at e
          exact e
        exact mt_all hP n tb r tb' h'' h1 hr
      · have e := h'
        simp only [z, if_false] at e
        cases e
    | none =>
      rw [lk] at h'
      refine mt_all hP n _ r tb' h' (fun e he => ?_) hr
      rcases Sb.mem_put he with z | z
      · rw [z]
        exact ⟨k0 i List.mem_cons_self, p0⟩
      · exact h1 e z
  | n + 1, tb, (.f x ps, .f y ts) :: r, tb', h, h1, h2 => by
    have h' : (if T.alike x ps (.f y ts) = true then mt n tb ((ps.zip ts).reverse ++ r) else none) = some tb' := h
    by_cases z : T.alike x ps (.f y ts) = true
    · rw [if_pos z] at h'
      obtain ⟨k0, p0⟩ := h2 _ List.mem_cons_self
      refine mt_all hP n tb _ tb' h' h1 fun e he => ?_
      rcases List.mem_append.mp he with q | q
      · have q' := List.mem_reverse.mp q
        obtain ⟨q1, q2⟩ : e.1 ∈ ps ∧ e.2 ∈ ts := List.of_mem_zip q'
        refine ⟨fun j hj => k0 j ?_, hP y ts p0 _ q2⟩
        exact T.mem_varsL q1 hj
      · exact h2 e (List.mem_cons_of_mem _ q)
    · rw [if_neg z] at h'
      cases h'
  | n + 1, tb, (.f x ps, .v i) :: r, tb', h, _, _ => nomatch (show none = some tb' from h)
end Ad

/-! Chains as data of any kind: what they lead to. -/
namespace Ad
open PySem PySem.Spec PySem.Calls PyProof.Rows L2
def tyD : PyData → Value
  | .none => .type "NoneType"
  | .bool _ => .type "bool"
  | .int _ => .type "int"
  | .str _ => .type "str"
  | .list _ => .type "list"
  | .tuple _ => .type "tuple"
  | .dict _ => .type "dict"
theorem dp_ty {K : PySem.W.Frag} {H : Hp} {v : V} {d : PyData} (h : Dp K H v d) : TyX K H v (tyD d) := by
  cases h with
  | non => exact .base .non
  | bl b => exact .base (.bl b)
  | int i => exact .base (.int i)
  | str x => exact .base (.str x)
  | lst h _ => exact lsq_ty h
  | tup h _ => exact sq_ty h
def isTu : PyData → Bool
  | .tuple _ => true
  | _ => false
def isIn : PyData → Bool
  | .int _ => true
  | .bool _ => true
  | _ => false
def isBo : PyData → Bool
  | .bool _ => true
  | _ => false
theorem kit_tu {K : PySem.W.Frag} : ∀ d : PyData, PySem.W.kitOne K (tyD d) (.type "tuple") = some (isTu d)
  | .none => kit_ty (a := "NoneType") (b := "tuple") (r := false) (by decide +kernel)
  | .bool _ => kit_ty (a := "bool") (b := "tuple") (r := false) (by decide +kernel)
  | .int _ => kit_ty (a := "int") (b := "tuple") (r := false) (by decide +kernel)
  | .str _ => kit_ty (a := "str") (b := "tuple") (r := false) (by decide +kernel)
  | .list _ => kit_ty (a := "list") (b := "tuple") (r := false) (by decide +kernel)
  | .tuple _ => kit_ty (a := "tuple") (b := "tuple") (r := true) (by decide +kernel)
  | .dict _ => kit_ty (a := "dict") (b := "tuple") (r := false) (by decide +kernel)
theorem kit_in {K : PySem.W.Frag} : ∀ d : PyData, PySem.W.kitOne K (tyD d) (.type "int") = some (isIn d)
  | .none => kit_ty (a := "NoneType") (b := "int") (r := false) (by decide +kernel)
  | .bool _ => kit_ty (a := "bool") (b := "int") (r := true) (by decide +kernel)
  | .int _ => kit_ty (a := "int") (b := "int") (r := true) (by decide +kernel)
  | .str _ => kit_ty (a := "str") (b := "int") (r := false) (by decide +kernel)
  | .list _ => kit_ty (a := "list") (b := "int") (r := false) (by decide +kernel)
  | .tuple _ => kit_ty (a := "tuple") (b := "int") (r := false) (by decide +kernel)
  | .dict _ => kit_ty (a := "dict") (b := "int") (r := false) (by decide +kernel)
theorem kit_bo {K : PySem.W.Frag} : ∀ d : PyData, PySem.W.kitOne K (tyD d) (.type "bool") = some (isBo d)
  | .none => kit_ty (a := "NoneType") (b := "bool") (r := false) (by decide +kernel)
  | .bool _ => kit_ty (a := "bool") (b := "bool") (r := true) (by decide +kernel)
  | .int _ => kit_ty (a := "int") (b := "bool") (r := false) (by decide +kernel)
  | .str _ => kit_ty (a := "str") (b := "bool") (r := false) (by decide +kernel)
  | .list _ => kit_ty (a := "list") (b := "bool") (r := false) (by decide +kernel)
  | .tuple _ => kit_ty (a := "tuple") (b := "bool") (r := false) (by decide +kernel)
  | .dict _ => kit_ty (a := "dict") (b := "bool") (r := false) (by decide +kernel)
mutual
theorem dp_mono {K : PySem.W.Frag} {H H' : Hp} (k : ∀ {a : Addr} {xs : List V}, (SqL K H a xs → SqL K H' a xs) ∧ (SqT K H a xs → SqT K H' a xs)) : ∀ {d : PyData} {v : V}, Dp K H v d → Dp K H' v d
  | _, _, .non => .non
  | _, _, .bl b => .bl b
  | _, _, .int i => .int i
  | _, _, .str x => .str x
  | _, _, .lst h a => .lst (k.1 h) (dpAll_mono k a)
  | _, _, .tup h a => .tup (k.2 h) (dpAll_mono k a)
theorem dpAll_mono {K : PySem.W.Frag} {H H' : Hp} (k : ∀ {a : Addr} {xs : List V}, (SqL K H a xs → SqL K H' a xs) ∧ (SqT K H a xs → SqT K H' a xs)) : ∀ {ds : List PyData} {vs : List V}, DpAll K H vs ds → DpAll K H' vs ds
  | _, _, .nil => .nil
  | _, _, .cons h t => .cons (dp_mono k h) (dpAll_mono k t)
end
theorem dp_same {K : PySem.W.Frag} {H H' : Hp} (s : Same H H') {d : PyData} {v : V} (h : Dp K H v d) : Dp K H' v d := dp_mono (fun {_ _} => ⟨fun q => s.seq q, fun q => (TK.same s).sq q⟩) h
theorem dpAll_same {K : PySem.W.Frag} {H H' : Hp} (s : Same H H') {ds : List PyData} {vs : List V} (h : DpAll K H vs ds) : DpAll K H' vs ds := dpAll_mono (fun {_ _} => ⟨fun q => s.seq q, fun q => (TK.same s).sq q⟩) h
theorem dpAll_len {K : PySem.W.Frag} {H : Hp} : ∀ {ds : List PyData} {vs : List V}, DpAll K H vs ds → vs.length = ds.length
  | _, _, .nil => rfl
  | _, _, .cons _ t => by rw [List.length_cons, List.length_cons, dpAll_len t]
theorem dpAll_get {K : PySem.W.Frag} {H : Hp} : ∀ {ds : List PyData} {vs : List V} {i : Nat} {v : V}, DpAll K H vs ds → vs[i]? = some v → ∃ d, ds[i]? = some d ∧ Dp K H v d
  | _, _, _, _, .nil, e => by cases e
  | _, _, i, v, .cons (d := d) h t, e => by
    cases i with
    | zero =>
      cases e
      exact ⟨d, rfl, h⟩
    | succ i => exact dpAll_get (i := i) t e
theorem dpAll_get' {K : PySem.W.Frag} {H : Hp} : ∀ {ds : List PyData} {vs : List V} {i : Nat} {d : PyData}, DpAll K H vs ds → ds[i]? = some d → ∃ v, vs[i]? = some v ∧ Dp K H v d
  | _, _, _, _, .nil, e => by cases e
  | _, _, i, d, .cons (v := v) h t, e => by
    cases i with
    | zero =>
      cases e
      exact ⟨v, rfl, h⟩
    | succ i => exact dpAll_get' (i := i) t e
theorem dpAll_app {K : PySem.W.Frag} {H : Hp} : ∀ {ds es : List PyData} {vs us : List V}, DpAll K H vs ds → DpAll K H us es → DpAll K H (vs ++ us) (ds ++ es)
  | _, _, _, _, .nil, k => k
  | _, _, _, _, .cons h t, k => .cons h (dpAll_app t k)
theorem dpAll_take {K : PySem.W.Frag} {H : Hp} : ∀ {ds : List PyData} {vs : List V} (n : Nat), DpAll K H vs ds → DpAll K H (vs.take n) (ds.take n)
  | _, _, 0, _ => by rw [List.take_zero, List.take_zero]; exact .nil
  | _, _, n + 1, .nil => .nil
  | _, _, n + 1, .cons h t => .cons h (dpAll_take n t)
theorem dpAll_drop {K : PySem.W.Frag} {H : Hp} : ∀ {ds : List PyData} {vs : List V} (n : Nat), DpAll K H vs ds → DpAll K H (vs.drop n) (ds.drop n)
  | _, _, 0, h => h
  | _, _, n + 1, .nil => .nil
  | _, _, n + 1, .cons h t => dpAll_drop n t
/-- whole numbers alone -/
def wAll : List PyData → Option (List Int)
  | [] => some []
  | .int i :: r => (wAll r).map (i :: ·)
  | _ :: _ => none
theorem wAll_ints : ∀ {ds : List PyData} {p : List Int}, wAll ds = some p → ds = p.map .int
  | [], p, h => by cases h; rfl
  | .int i :: r, p, h => by
    have h' : (wAll r).map (i :: ·) = some p := h
    cases e : wAll r with
    | none => rw [e] at h'; cases h'
    | some q =>
      rw [e] at h'
      cases h'
      rw [wAll_ints e]
      rfl
  | .none :: _, _, h => by cases h
  | .bool _ :: _, _, h => by cases h
  | .str _ :: _, _, h => by cases h
  | .list _ :: _, _, h => by cases h
  | .tuple _ :: _, _, h => by cases h
  | .dict _ :: _, _, h => by cases h
theorem ints_wAll : ∀ p : List Int, wAll (p.map .int) = some p
  | [] => rfl
  | i :: p => by
    show (wAll (p.map .int)).map (i :: ·) = _
    rw [ints_wAll p]
    rfl
def subW (o : Option (List Int)) (t : T) : Option T :=
  match o with
  | some p => T.sub p t
  | none => none
/-- the part at any data -/
def partD (t : T) : PyData → Option T
  | .tuple ps => subW (wAll ps) t
  | _ => none
def pathD : PyData → List Int
  | .tuple ps => (wAll ps).getD []
  | _ => []
def stepG (l r t : T) (p : PyData) : Option T :=
  match partD t p with
  | some u => if PyData.eqv u.d l.d = true then T.put r (pathD p) t else none
  | none => none
def wayG (b : Bool) (l r : T) : T := if b = true then l else r
/-- one step of a chain -/
def stepD (eqs : List (T × T)) (t : T) : PyData → Option T
  | .tuple [p, .int n, .bool b] => if 0 ≤ n then (match eqs[n.toNat]? with
      | some e => stepG (wayG b e.1 e.2) (wayG b e.2 e.1) t p
      | none => none) else none
  | _ => none
def chainD (eqs : List (T × T)) : T → List PyData → Option T
  | t, [] => some t
  | t, d :: ds => match stepD eqs t d with
    | some t' => chainD eqs t' ds
    | none => none
def OptTm (K : PySem.W.Frag) (H : Hp) : Option T → V → Prop
  | none, v => v = .non
  | some t, v => Tm K H t v
/-- a ground term, small -/
structure Gt (m z : Nat) (t : T) : Prop where
  named : t.named = true
  vars : t.vars = []
  dep : t.dep ≤ m
  size : t.size ≤ z
theorem Gt.mono {m n y z : Nat} {t : T} (h : Gt m y t) (a : m ≤ n) (b : y ≤ z) : Gt n z t := ⟨h.named, h.vars, Nat.le_trans h.dep a, Nat.le_trans h.size b⟩
theorem Gt.shape {m z : Nat} {t : T} (h : Gt m z t) (hm : m ≤ 64) : SeqAt.shaped t.d = true := T.shaped h.named (Nat.le_trans h.dep hm)
theorem Gt.head {m z : Nat} {t : T} (h : Gt m z t) : ∃ x ts, t = .f x ts := by
  cases t with
  | v i => cases (show [i] = [] from h.vars)
  | f x ts => exact ⟨x, ts, rfl⟩
theorem varsL_mem : ∀ {ts : List T} {u : T}, T.varsL ts = [] → u ∈ ts → u.vars = []
  | t :: ts, u, h, m => by
    have h' : t.vars ++ T.varsL ts = [] := h
    obtain ⟨h1, h2⟩ := List.append_eq_nil_iff.mp h'
    rcases List.mem_cons.mp m with e | e
    · rw [e]; exact h1
    · exact varsL_mem h2 e
theorem varsL_of : ∀ {ts : List T}, (∀ u ∈ ts, u.vars = []) → T.varsL ts = []
  | [], _ => rfl
  | t :: ts, h => by
    show t.vars ++ T.varsL ts = []
    rw [h t List.mem_cons_self, varsL_of fun u m => h u (List.mem_cons_of_mem _ m)]
    rfl
theorem sub_vars : ∀ {p : List Int} {t u : T}, T.sub p t = some u → t.vars = [] → u.vars = []
  | [], t, u, h, g => by
    cases (show some t = some u from h)
    exact g
  | k :: p, t, u, h, g => by
    obtain ⟨j, x, ts, y, rfl, rfl, e1, e2⟩ := T.sub_cons h
    exact sub_vars e2 (varsL_mem (ts := ts) g (List.mem_of_getElem? e1))
theorem put_vars {new : T} (gn : new.vars = []) : ∀ {p : List Int} {t r : T}, T.put new p t = some r → t.vars = [] → r.vars = []
  | [], t, r, h, _ => by
    cases (show some new = some r from h)
    exact gn
  | k :: p, t, r, h, g => by
    obtain ⟨j, x, ts, y, z, rfl, rfl, e1, e2, rfl⟩ := T.put_cons h
    have gz := put_vars gn e2 (varsL_mem (ts := ts) g (List.mem_of_getElem? e1))
    refine varsL_of (ts := ts.set j z) fun u hu => ?_
    rcases List.mem_or_eq_of_mem_set hu with m | m
    · exact varsL_mem (ts := ts) g m
    · rw [m]; exact gz
/-- what stands at a path, what comes when something is put there -/
theorem Gt.sub {m z : Nat} {t u : T} {p : List Int} (h : Gt m z t) (e : T.sub p t = some u) : Gt m z u := by
  obtain ⟨a, b, c⟩ := T.sub_small e
  exact ⟨a h.named, sub_vars e h.vars, Nat.le_trans b h.dep, Nat.le_trans c h.size⟩
theorem Gt.put {m z n y : Nat} {t u new : T} {p : List Int} (h : Gt m z t) (e : T.sub p t = some u) (k : Gt n y new) : ∃ r, T.put new p t = some r ∧ Gt (m + n) (z + y) r := by
  obtain ⟨r, a, _, _, b, c, d⟩ := T.put_sub new e
  have h1 := h.dep
  have h2 := h.size
  have h3 := k.dep
  have h4 := k.size
  exact ⟨r, a, d h.named k.named, put_vars k.vars a h.vars, by omega, by omega⟩
/-- the sides of equations -/
def Egd (eqs : List (T × T)) : Prop := ∀ e ∈ eqs, Gt 4 40 e.1 ∧ Gt 4 40 e.2
theorem partD_some {t u : T} {d : PyData} (h : partD t d = some u) : ∃ p, d = .tuple (p.map .int) ∧ pathD d = p ∧ T.sub p t = some u := by
  cases d with
  | tuple ps =>
    have h' : subW (wAll ps) t = some u := h
    cases e : wAll ps with
    | none => rw [e] at h'; cases h'
    | some p =>
      rw [e] at h'
      refine ⟨p, by rw [wAll_ints e], ?_, h'⟩
      show (wAll ps).getD [] = p
      rw [e]
      rfl
  | _ => cases h
theorem stepG_gt {m z n y : Nat} {l r t t' : T} {p : PyData} (h : Gt m z t) (k : Gt n y r) (e : stepG l r t p = some t') : Gt (m + n) (z + y) t' := by
  unfold stepG at e
  cases q : partD t p with
  | none => rw [q] at e; cases e
  | some u =>
    rw [q] at e
    dsimp only at e
    obtain ⟨p', _, e2, e3⟩ := partD_some q
    obtain ⟨r', h1, h2⟩ := h.put e3 k
    by_cases c : PyData.eqv u.d l.d = true
    · rw [if_pos c, e2, h1] at e
      cases e
      exact h2
    · rw [if_neg c] at e
      cases e
theorem wayG_gt {m z : Nat} {b : Bool} {l r : T} (h : Gt m z l) (k : Gt m z r) : Gt m z (wayG b l r) := by
  unfold wayG
  cases b
  · exact k
  · exact h
/-- triples of a chain: what else can't be one -/
theorem stepD_other (eqs : List (T × T)) (t : T) {d : PyData} (h : ∀ p n b, d ≠ .tuple [p, .int n, .bool b]) : stepD eqs t d = none := by
  unfold stepD
  split
  · rename_i p n b
    exact absurd rfl (h p n b)
  · rfl
theorem stepD_tri (eqs : List (T × T)) (t : T) (p : PyData) {n : Int} {b : Bool} {e : T × T} (h0 : 0 ≤ n) (he : eqs[n.toNat]? = some e) : stepD eqs t (.tuple [p, .int n, .bool b]) = stepG (wayG b e.1 e.2) (wayG b e.2 e.1) t p := by
  show (if 0 ≤ n then (match eqs[n.toNat]? with | some e => stepG (wayG b e.1 e.2) (wayG b e.2 e.1) t p | none => none) else none) = _
  rw [if_pos h0, he]
theorem stepD_far (eqs : List (T × T)) (t : T) (p : PyData) {n : Int} {b : Bool} (h : ¬ (0 ≤ n ∧ n < eqs.length)) : stepD eqs t (.tuple [p, .int n, .bool b]) = none := by
  show (if 0 ≤ n then (match eqs[n.toNat]? with | some e => stepG (wayG b e.1 e.2) (wayG b e.2 e.1) t p | none => none) else none) = none
  by_cases h0 : 0 ≤ n
  · rw [if_pos h0, List.getElem?_eq_none (by omega)]
  · rw [if_neg h0]
theorem stepD_gt {m z : Nat} {eqs : List (T × T)} {t t' : T} {d : PyData} (hE : Egd eqs) (h : Gt m z t) (e : stepD eqs t d = some t') : Gt (m + 4) (z + 40) t' := by
  unfold stepD at e
  split at e
  · rename_i p n b
    by_cases h0 : 0 ≤ n
    · rw [if_pos h0] at e
      cases q : eqs[n.toNat]? with
      | none => rw [q] at e; cases e
      | some x =>
        rw [q] at e
        dsimp only at e
        obtain ⟨g1, g2⟩ := hE x (List.mem_of_getElem? q)
        exact stepG_gt h (wayG_gt g2 g1) e
    · rw [if_neg h0] at e
      cases e
  · cases e
end Ad

/-! What a reading evaluates to, as data, from any heap that keeps what was there. -/
namespace Ad
open PySem PySem.Spec PySem.Calls PyProof.Rows L2
theorem Same.refl (H : Hp) : Same H H := fun _ _ e => e
theorem Same.trans {H H1 H2 : Hp} (a : Same H H1) (b : Same H1 H2) : Same H H2 := fun q o e => b q o (a q o e)
/-- te gives the data d, and keeps what was there -/
def ED (K : PySem.W.Frag) (te : TE) (σ : L2.St) (H : Hp) (d : PyData) : Prop := ∀ H1, Same H H1 → ∀ Q : VK, (∀ v H2, Same H1 H2 → Dp K H2 v d → Q v H2) → te σ H1 Q
def EDs (K : PySem.W.Frag) (ta : TA) (σ : L2.St) (H : Hp) (ds : List PyData) : Prop := ∀ H1, Same H H1 → ∀ Q : List V → Hp → Prop, (∀ vs H2, Same H1 H2 → DpAll K H2 vs ds → Q vs H2) → ta σ H1 Q
/-- te gives a new list of the data ds -/
def EL (K : PySem.W.Frag) (te : TE) (σ : L2.St) (H : Hp) (ds : List PyData) : Prop := ∀ H1, Same H H1 → ∀ Q : VK, (∀ l xs H2, Same H1 H2 → H2 l = none → DpAll K H2 xs ds → Q (.ref l) (upd H2 l (.lst xs))) → te σ H1 Q
theorem none_before {H1 H2 : Hp} (s : Same H1 H2) {p : Addr} (n : H2 p = none) : H1 p = none := by
  cases z : H1 p with
  | none => rfl
  | some o =>
    rw [s _ _ z] at n
    cases n
theorem EL.run {K : PySem.W.Frag} {te : TE} {σ : L2.St} {H : Hp} {ds : List PyData} (h : EL K te σ H ds) (H1 : Hp) (s : Same H H1) (Q : VK) (q : ∀ l xs H2, Same H1 H2 → H1 l = none → H2 l = some (.lst xs) → DpAll K H2 xs ds → Q (.ref l) H2) : te σ H1 Q :=
  h H1 s Q fun l xs H2 s2 n hv => by
    have s3 : Same H2 (upd H2 l (.lst xs)) := same_new (fun b o e => e) n _
    exact q l xs _ (s2.trans s3) (none_before s2 n) upd_same (dpAll_same s3 hv)
section
variable {K : PySem.W.Frag} {σ : L2.St} {H : Hp}
theorem ED.later {te : TE} {d : PyData} {H' : Hp} (h : ED K te σ H d) (s : Same H H') : ED K te σ H' d := fun H1 s1 => h H1 (s.trans s1)
theorem EDs.later {ta : TA} {d : List PyData} {H' : Hp} (h : EDs K ta σ H d) (s : Same H H') : EDs K ta σ H' d := fun H1 s1 => h H1 (s.trans s1)
theorem EL.later {te : TE} {d : List PyData} {H' : Hp} (h : EL K te σ H d) (s : Same H H') : EL K te σ H' d := fun H1 s1 => h H1 (s.trans s1)
theorem ed_var {i : Nat} {v : V} {d : PyData} (e : σ[i]? = some (some v)) (h : Dp K H v d) : ED K (tVar i) σ H d := fun H1 s Q q => ⟨v, e, q v H1 (Same.refl _) (dp_same s h)⟩
theorem ed_int {i : Int} : ED K (tC (.int i)) σ H (.int i) := fun H1 s Q q => q _ H1 (Same.refl _) (.int i)
theorem ed_bl {b : Bool} : ED K (tC (.bl b)) σ H (.bool b) := fun H1 s Q q => q _ H1 (Same.refl _) (.bl b)
theorem ed_str {x : Str} : ED K (tC (.str x)) σ H (.str x) := fun H1 s Q q => q _ H1 (Same.refl _) (.str x)
theorem ed_non : ED K (tC .non) σ H .none := fun H1 s Q q => q _ H1 (Same.refl _) .non
theorem eds_nil : EDs K tNil σ H [] := fun H1 s Q q => q _ H1 (Same.refl _) .nil
theorem eds_cons {te : TE} {ta : TA} {d : PyData} {ds : List PyData} (h : ED K te σ H d) (t : EDs K ta σ H ds) : EDs K (tCons te ta) σ H (d :: ds) := fun H1 s Q q =>
  h H1 s _ fun v H2 s2 hv => t H2 (s.trans s2) _ fun vs H3 s3 hvs => q _ H3 (s2.trans s3) (.cons (dp_same s3 hv) hvs)
theorem ed_tup {ta : TA} {ds : List PyData} (h : EDs K ta σ H ds) (few : ds.length ≤ 1000) : ED K (tTup ta) σ H (.tuple ds) := fun H1 s Q q =>
  h H1 s _ fun vs H2 s2 hv => ⟨by rw [dpAll_len hv, sizeLine_eq]; omega, fun p np => by
    have s3 : Same H2 (upd H2 p (.tup vs)) := same_new (fun b o e => e) np _
    exact q _ _ (s2.trans s3) (.tup (.inl (.inl upd_same)) (dpAll_same s3 hv))⟩
theorem el_lst {ta : TA} {ds : List PyData} (h : EDs K ta σ H ds) (few : ds.length ≤ 1000) : EL K (tLst ta) σ H ds := fun H1 s Q q =>
  h H1 s _ fun vs H2 s2 hv => ⟨by rw [dpAll_len hv, sizeLine_eq]; omega, fun p np => q p vs H2 s2 np hv⟩
theorem ed_lst {ta : TA} {ds : List PyData} (h : EDs K ta σ H ds) (few : ds.length ≤ 1000) : ED K (tLst ta) σ H (.list ds) := fun H1 s Q q =>
  (el_lst h few).run H1 s Q fun l xs H2 s2 _ e hv => q _ H2 s2 (.lst (.inl (.inl e)) hv)
theorem EL.ed {te : TE} {ds : List PyData} (h : EL K te σ H ds) : ED K te σ H (.list ds) := fun H1 s Q q => h.run H1 s Q fun l xs H2 s2 _ e hv => q _ H2 s2 (.lst (.inl (.inl e)) hv)
theorem el_cat {t1 t2 : TE} {d1 d2 : List PyData} (h1 : EL K t1 σ H d1) (h2 : EL K t2 σ H d2) (few : d1.length + d2.length ≤ 1000000) : EL K (tOp rCat t1 t2) σ H (d1 ++ d2) := fun H1 s Q q =>
  h1.run H1 s _ fun l xs H2 s2 nl e hv => h2.run H2 (s.trans s2) _ fun l' xs' H3 s3 nl' e' hv' =>
    ⟨l, l', xs, xs', rfl, rfl, s3 _ _ e, e', by rw [dpAll_len hv, dpAll_len hv', sizeLine_eq]; omega, fun p np => q p _ H3 (s2.trans s3) np (dpAll_app (dpAll_same s3 hv) hv')⟩
/-- a list that stands in a slot -/
theorem el_cat_var {i : Nat} {l : Addr} {xs : List V} {t2 : TE} {d1 d2 : List PyData} (e0 : σ[i]? = some (some (.ref l))) (e : H l = some (.lst xs)) (hv : DpAll K H xs d1) (h2 : EL K t2 σ H d2) (few : d1.length + d2.length ≤ 1000000) : EL K (tOp rCat (tVar i) t2) σ H (d1 ++ d2) := fun H1 s Q q =>
  ⟨.ref l, e0, h2.run H1 s _ fun l' xs' H3 s3 nl' e' hv' =>
    ⟨l, l', xs, xs', rfl, rfl, s3 _ _ (s _ _ e), e', by rw [dpAll_len hv, dpAll_len hv', sizeLine_eq]; omega, fun p np => q p _ H3 s3 np (dpAll_app (dpAll_same (s.trans s3) hv) hv')⟩⟩
theorem ed_neg {t1 : TE} {i : Int} (h1 : ED K t1 σ H (.int i)) : ED K (tUn (rU fun i => .int (-i)) t1) σ H (.int (-i)) := fun H1 s Q q =>
  h1 H1 s _ fun v H2 s2 hv => by
    cases hv
    exact ⟨i, rfl, q _ _ s2 (.int _)⟩
end
theorem pen_lists {K : PySem.W.Frag} {H H' : Hp} {p l : Addr} {ns : List Int} {c : Nat} (P : Pn.Pen H p l ns c) (b : Pn.But p H H') {a : Addr} {xs : List V} (h : SqL K H a xs) : SqL K H' a xs := by
  obtain ⟨⟨a1, d, f, e, _⟩, _⟩ := P
  rcases h with (h | ⟨o, h⟩) | h
  · exact .inl (.inl (b _ _ (fun z => by rw [z, e] at h; cases h) h))
  · exact .inl (.inr ⟨o, b _ _ (fun z => by rw [z, e] at h; cases h) h⟩)
  · exact .inr h
theorem pen_dp {K : PySem.W.Frag} {H H' : Hp} {p l : Addr} {ns : List Int} {c : Nat} (P : Pn.Pen H p l ns c) (b : Pn.But p H H') {d : PyData} {v : V} (h : Dp K H v d) : Dp K H' v d := dp_mono (fun {_ _} => ⟨pen_lists P b, (pen_tk P b).sq⟩) h
theorem pen_dpAll {K : PySem.W.Frag} {H H' : Hp} {p l : Addr} {ns : List Int} {c : Nat} (P : Pn.Pen H p l ns c) (b : Pn.But p H H') {d : List PyData} {v : List V} (h : DpAll K H v d) : DpAll K H' v d := dpAll_mono (fun {_ _} => ⟨pen_lists P b, (pen_tk P b).sq⟩) h
theorem to_set {te : TE} {g : TG} {u : TS} {D : Ends} {σ : L2.St} {H : Hp} (h : te σ H fun v H1 => g v σ H1 fun σ2 H2 => u D σ2 H2) : tSeq (tAsg te g) u D σ H := h
end Ad

/-! The parts of data of any kind, from the left. -/
namespace Ad
open PySem PySem.Spec PySem.Calls PyProof.Rows L2
mutual
def partsD : PyData → List PyData
  | .tuple [] => [.tuple []]
  | .tuple (x :: ds) => .tuple (x :: ds) :: partsDL ds
  | .none => [.none]
  | .bool b => [.bool b]
  | .int i => [.int i]
  | .str x => [.str x]
  | .list ds => [.list ds]
  | .dict ds => [.dict ds]
def partsDL : List PyData → List PyData
  | [] => []
  | d :: ds => partsD d ++ partsDL ds
end
mutual
/-- no empty tuple among its parts -/
def tupOk : PyData → Bool
  | .tuple [] => false
  | .tuple (_ :: ds) => tupOkL ds
  | .none => true
  | .bool _ => true
  | .int _ => true
  | .str _ => true
  | .list _ => true
  | .dict _ => true
def tupOkL : List PyData → Bool
  | [] => true
  | d :: ds => tupOk d && tupOkL ds
end
theorem partsDL_app : ∀ ds es : List PyData, partsDL (ds ++ es) = partsDL ds ++ partsDL es
  | [], _ => rfl
  | d :: ds, es => by
    show partsD d ++ partsDL (ds ++ es) = partsD d ++ partsDL ds ++ partsDL es
    rw [partsDL_app, List.append_assoc]
theorem partsDL_rev_len : ∀ ds : List PyData, (partsDL ds.reverse).length = (partsDL ds).length
  | [] => rfl
  | d :: ds => by
    rw [List.reverse_cons, partsDL_app, List.length_append, partsDL_rev_len]
    show _ + (partsD d ++ []).length = (partsD d ++ partsDL ds).length
    rw [List.append_nil, List.length_append]
    omega
theorem partsD_pos : ∀ d : PyData, 1 ≤ (partsD d).length
  | .tuple [] => Nat.le_refl _
  | .tuple (x :: ds) => by
    show 1 ≤ (PyData.tuple (x :: ds) :: partsDL ds).length
    rw [List.length_cons]
    omega
  | .none => Nat.le_refl _
  | .bool _ => Nat.le_refl _
  | .int _ => Nat.le_refl _
  | .str _ => Nat.le_refl _
  | .list _ => Nat.le_refl _
  | .dict _ => Nat.le_refl _
theorem partsDL_len : ∀ ds : List PyData, ds.length ≤ (partsDL ds).length
  | [] => Nat.le_refl _
  | d :: ds => by
    have h1 := partsD_pos d
    have h2 := partsDL_len ds
    show ds.length + 1 ≤ (partsD d ++ partsDL ds).length
    rw [List.length_append]
    omega
theorem tupOkL_app : ∀ ds es : List PyData, tupOkL (ds ++ es) = (tupOkL ds && tupOkL es)
  | [], _ => rfl
  | d :: ds, es => by
    show (tupOk d && tupOkL (ds ++ es)) = (tupOk d && tupOkL ds && tupOkL es)
    rw [tupOkL_app, Bool.and_assoc]
theorem tupOkL_rev : ∀ ds : List PyData, tupOkL ds.reverse = tupOkL ds
  | [] => rfl
  | d :: ds => by
    rw [List.reverse_cons, tupOkL_app, tupOkL_rev]
    show (tupOkL ds && (tupOk d && true)) = (tupOk d && tupOkL ds)
    rw [Bool.and_true, Bool.and_comm]
theorem dpAll_last {K : PySem.W.Frag} {H : Hp} {ds : List PyData} {vs : List V} (h : DpAll K H vs ds) (n : ds ≠ []) : ∃ es d us v, ds = es ++ [d] ∧ vs = us ++ [v] ∧ DpAll K H us es ∧ Dp K H v d := by
  induction ds generalizing vs with
  | nil => exact absurd rfl n
  | cons d ds ih =>
    cases h with
    | @cons v vs _ _ hv ht =>
      cases ds with
      | nil =>
        cases ht
        exact ⟨[], d, [], v, rfl, rfl, .nil, hv⟩
      | cons e es =>
        obtain ⟨es', d', us, v', e1, e2, h1, h2⟩ := ih ht (by simp)
        exact ⟨d :: es', d', v :: us, v', by rw [e1]; rfl, by rw [e2]; rfl, .cons hv h1, h2⟩
theorem dpAll_rev {K : PySem.W.Frag} {H : Hp} : ∀ {ds : List PyData} {vs : List V}, DpAll K H vs ds → DpAll K H vs.reverse ds.reverse
  | _, _, .nil => .nil
  | _, _, .cons h t => by
    rw [List.reverse_cons, List.reverse_cons]
    exact dpAll_app (dpAll_rev t) (.cons h .nil)
end Ad

/-! A loop with a measure of one's own. -/
namespace Ad
open PySem PySem.Spec PySem.Calls PyProof.Rows L2
theorem while_g {c : TT} {tb : TS} {D : Ends} {σ : L2.St} {H : Hp} (W : Nat → L2.St → Hp → Prop) (start : ∃ m, W m σ H)
    (turn : ∀ m σ H, W m σ H → c σ H fun b G => if b = true then tb { D with nx := fun σ' H' => ∃ m', m' < m ∧ W m' σ' H', ct := fun σ' H' => ∃ m', m' < m ∧ W m' σ' H', bk := D.nx } σ G else D.nx σ G) (mono : ∀ σ H Q Q', (∀ b G, Q b G → Q' b G) → c σ H Q → c σ H Q') : tWhile c tb D σ H := by
  refine ⟨W, start, fun m σ H h => mono σ H _ _ (fun b G q => ?_) (turn m σ H h)⟩
  cases b with
  | true => exact ⟨_, fun σ' H' z => z, q⟩
  | false => exact q
/-- a if t else b, as a test -/
def tIfT (t ta tb : TT) : TT := fun σ H Q => t σ H fun c H1 => if c = true then ta σ H1 Q else tb σ H1 Q
theorem pt_ifExp {X : Cx} {c a b : Expr} {pos : Pos} {tc ta tb : TT} (hc : PT X c tc) (ha : PT X a ta) (hb : PT X b tb) : PT X (.IfExp c a b pos) (tIfT tc ta tb) := by
  refine ⟨fun pins s σ H Q I h => ?_⟩
  refine isTrue_IfExp (wpAny_mono (hc.run pins s σ H _ I h) (fun d s1 r => ?_) fun _ _ x => x)
  obtain ⟨H1, I1, q1⟩ := r
  cases d with
  | true => exact ha.run pins s1 σ H1 Q I1 q1
  | false => exact hb.run pins s1 σ H1 Q I1 q1
end Ad

/-! Sentences as data; a loop with a measure of one's own. -/
namespace Ad
open PySem PySem.Spec PySem.Calls PyProof.Rows L2
inductive Sn where
  | atm (eq : Bool) (as : List PyData)
  | qu (al : Bool) (x : Str) (s : Sn)
  | one (s : Sn)
  | two (w : Str) (a b : Sn)
namespace Sn
def word : Sn → Str
  | .atm eq _ => if eq = true then "equal" else "is"
  | .qu al _ _ => if al = true then "all" else "some"
  | .one _ => "not"
  | .two w _ _ => w
def d : Sn → PyData
  | .atm eq as => .tuple (.str (word (.atm eq as)) :: as)
  | .qu al x s => .tuple [.str (word (.qu al x s)), .str x, d s]
  | .one s => .tuple [.str "not", d s]
  | .two w a b => .tuple [.str w, d a, d b]
def ok : Sn → Bool
  | .atm _ _ => true
  | .qu _ _ s => ok s
  | .one s => ok s
  | .two w a b => decide (w ∈ (["and", "or", "then", "same"] : List Str)) && (ok a && ok b)
def size : Sn → Nat
  | .atm _ _ => 1
  | .qu _ _ s => 1 + size s
  | .one s => 1 + size s
  | .two _ a b => 1 + size a + size b
/-- the atoms from the left, each with the names that bind it -/
def atoms : List Str → Sn → List (PyData × List Str)
  | B, .atm eq as => [(d (.atm eq as), B)]
  | B, .qu _ x s => atoms (B ++ [x]) s
  | B, .one s => atoms B s
  | B, .two _ a b => atoms B a ++ atoms B b
theorem size_pos : ∀ s : Sn, 1 ≤ s.size
  | .atm _ _ => Nat.le_refl _
  | .qu _ _ s => Nat.le_add_right _ _
  | .one s => Nat.le_add_right _ _
  | .two _ a b => by
    show 1 ≤ 1 + a.size + b.size
    omega
theorem atoms_len : ∀ (s : Sn) (B : List Str), (atoms B s).length ≤ s.size
  | .atm _ _, _ => Nat.le_refl _
  | .qu _ x s, B => by
    have := atoms_len s (B ++ [x])
    show (atoms (B ++ [x]) s).length ≤ 1 + s.size
    omega
  | .one s, B => by
    have := atoms_len s B
    show (atoms B s).length ≤ 1 + s.size
    omega
  | .two _ a b, B => by
    have h1 := atoms_len a B
    have h2 := atoms_len b B
    show (atoms B a ++ atoms B b).length ≤ 1 + a.size + b.size
    rw [List.length_append]
    omega
/-- the sentences of a not, and, or, then, same -/
def subs : Sn → List Sn
  | .one s => [s]
  | .two _ a b => [a, b]
  | _ => []
def sizes : List (Sn × List Str) → Nat
  | [] => 0
  | q :: l => q.1.size + sizes l
theorem sizes_app : ∀ l m : List (Sn × List Str), sizes (l ++ m) = sizes l + sizes m
  | [], m => (Nat.zero_add _).symm
  | q :: l, m => by
    show q.1.size + sizes (l ++ m) = q.1.size + sizes l + sizes m
    rw [sizes_app]
    omega
theorem sizes_rev : ∀ l : List (Sn × List Str), sizes l.reverse = sizes l
  | [] => rfl
  | q :: l => by
    rw [List.reverse_cons, sizes_app, sizes_rev]
    show sizes l + (q.1.size + 0) = q.1.size + sizes l
    omega
theorem sizes_len : ∀ l : List (Sn × List Str), l.length ≤ sizes l
  | [] => Nat.le_refl _
  | q :: l => by
    have h1 := sizes_len l
    have h2 := q.1.size_pos
    show l.length + 1 ≤ q.1.size + sizes l
    omega
def all : List (Sn × List Str) → List (PyData × List Str)
  | [] => []
  | q :: l => atoms q.2 q.1 ++ all l
theorem all_app : ∀ l m : List (Sn × List Str), all (l ++ m) = all l ++ all m
  | [], m => rfl
  | q :: l, m => by
    show atoms q.2 q.1 ++ all (l ++ m) = atoms q.2 q.1 ++ all l ++ all m
    rw [all_app, List.append_assoc]
end Sn
/-- a pair of an atom or a sentence and the names that bind it; the data is told of H -/
def ItV (K : PySem.W.Frag) (H G : Hp) (q : PyData × List Str) (v : V) : Prop := ∃ (b : Addr) (pv : V) (c : Addr), v = .ref b ∧ SqT K G b [pv, .ref c] ∧ Dp K H pv q.1 ∧ SqT K G c (q.2.map V.str)
theorem ItV.mono {K : PySem.W.Frag} {H G G' : Hp} (k : TK G G') (q : PyData × List Str) (v : V) (h : ItV K H G q v) : ItV K H G' q v := by
  obtain ⟨b, pv, c, e, h1, h2, h3⟩ := h
  exact ⟨b, pv, c, e, k.sq h1, h2, k.sq h3⟩
theorem F2.last' {α β : Type} {R : α → β → Prop} : ∀ {xs : List α} {ys : List β}, F2 R xs ys → xs ≠ [] → ∃ xs' x ys' y, xs = xs' ++ [x] ∧ ys = ys' ++ [y] ∧ F2 R xs' ys' ∧ R x y
  | [], _, _, n => absurd rfl n
  | [x], _, ⟨y, zs, e, h, t⟩, _ => by
    cases (show zs = [] from t)
    exact ⟨[], x, [], y, rfl, e, rfl, h⟩
  | x :: x2 :: xs, _, ⟨y, zs, e, h, t⟩, _ => by
    obtain ⟨xs', x', ys', y', e1, e2, h1, h2⟩ := F2.last' t (by simp)
    exact ⟨x :: xs', x', y :: ys', y', by rw [e1]; rfl, by rw [e, e2]; rfl, ⟨y, ys', rfl, h, h1⟩, h2⟩
end Ad

/-! dict comprehensions over enumerate of a tuple; tuples set behind each other -/
namespace Ad
open PySem PySem.Spec PySem.Calls PyProof.Rows L2
theorem dc_enumT {K : PySem.W.Frag} {a : Addr} {xs : List V} {g : TG} {tt : TT} {tk tv : TE} {vs : List Nat} {σ : L2.St} {H1 : Hp} {D : Addr} {Qd : Hp → Prop} (Pv : Nat → Hp → Prop) (h0 : Pv 0 (upd H1 D (.dK []))) (hl : ∀ i H, i ≤ xs.length → Pv i H → SqT K H a xs)
    (hs : ∀ i x T H, xs[i]? = some x → Pv i H → H T = none → g (.ref T) (wipe σ vs) (upd H T (.tup [.int (i : Nat), x])) fun σ2 H2 => wipe σ2 vs = wipe σ vs ∧ tt σ2 H2 fun b H3 =>
      if b = true then tk σ2 H3 fun y H4 => tv σ2 H4 fun z H5 => ∃ kvs k, y = kV k ∧ H5 D = some (.dK kvs) ∧ kvs.length < sizeLine ∧ Pv (i + 1) (upd H5 D (.dK (putK kvs k z))) else Pv (i + 1) H3) (hd : ∀ H, Pv xs.length H → Qd H) :
    ∃ W : Nat → Nat → Hp → Prop, (∃ m, W 0 m (upd H1 D (.dK []))) ∧ ∀ i m H, W i m H →
      ((Et.IteT K a).stop i H ∧ Qd H) ∨ ((Et.IteT K a).go i H ∧ ∃ Nx : Hp → Prop, (∀ H', Nx H' → ∃ m', m' < m ∧ W (i + 1) m' H') ∧ ∀ x H', (Et.IteT K a).yld i H x H' → g x (wipe σ vs) H' fun σ2 H2 => wipe σ2 vs = wipe σ vs ∧ tt σ2 H2 fun b H3 =>
        if b = true then tk σ2 H3 fun y H4 => tv σ2 H4 fun z H5 => ∃ kvs k, y = kV k ∧ H5 D = some (.dK kvs) ∧ kvs.length < sizeLine ∧ Nx (upd H5 D (.dK (putK kvs k z))) else Nx H3) := by
  refine ⟨fun i m H => m = xs.length - i ∧ i ≤ xs.length ∧ Pv i H, ⟨xs.length, by simp, Nat.zero_le _, h0⟩, ?_⟩
  rintro i m H ⟨rfl, hi, p⟩
  have q := hl i H hi p
  by_cases hlt : i < xs.length
  · refine .inr ⟨⟨xs, xs[i], q, by simp [hlt]⟩, Pv (i + 1), fun H' p' => ⟨xs.length - (i + 1), by omega, rfl, hlt, p'⟩, fun x H' y => ?_⟩
    obtain ⟨T, x', ex, nT, eH, y⟩ := y
    subst ex
    subst eH
    exact hs i x' T H (y xs q) p nT
  · have e : i = xs.length := by omega
    subst e
    exact .inl ⟨⟨xs, q, Nat.le_refl _⟩, hd H p⟩
theorem catT {K : PySem.W.Frag} {H : Hp} {a b : Addr} {xs ys : List V} {Q : VK} (hx : SqT K H a xs) (hy : SqT K H b ys) (ne : xs ≠ []) (l : xs.length + ys.length ≤ sizeLine) (q : ∀ c G, Same H G → SqT K G c (xs ++ ys) → Q (.ref c) G) : rCatT K (.ref a) (.ref b) H Q :=
  ⟨a, b, xs, ys, rfl, rfl, hx, hy, ne, l, fun e => q a H (fun b o e => e) (by rw [e, List.append_nil]; exact hx), fun _ p np => q p _ (same_new (fun b o e => e) np _) (.inl (.inl upd_same))⟩
theorem inV_here {x : V} {xs : List V} (h : x ∈ xs) (e : eqV x x = true) : inV x xs = true := by
  unfold inV
  exact List.any_eq_true.mpr ⟨x, h, e⟩
theorem TK.ins {H : Hp} {p C dx : Addr} {fs : List (Str × V)} (h : H p = some (.ins C dx fs)) (o : HO) : TK H (upd H p o) := fun b xs => by
  have n : ∀ u, H b = some u → (∀ c d f, u ≠ .ins c d f) → b ≠ p := fun u e z w => by
    rw [w, h] at e
    exact z _ _ _ (Option.some.inj e).symm
  refine ⟨fun e => ?_, fun o e => ?_⟩
  · rw [upd_ne (n _ e (fun c d f z => nomatch z))]
    exact e
  · rw [upd_ne (n _ e (fun c d f z => nomatch z))]
    exact e
theorem take_fresh {rs : List Row} (nd : (rs.map (·.1)).Nodup) {i : Nat} {r : Row} (h : rs[i]? = some r) : r.1 ∉ (rs.take i).map (·.1) := by
  rw [← List.take_append_drop i rs, List.map_append, List.nodup_append] at nd
  refine fun z => nd.2.2 _ z r.1 ?_ rfl
  refine List.mem_map.mpr ⟨r, ?_, rfl⟩
  refine List.mem_of_getElem? (i := 0) ?_
  rw [List.getElem?_drop]
  exact h
theorem take_next {α : Type} {rs : List α} {i : Nat} {r : α} (h : rs[i]? = some r) : rs.take (i + 1) = rs.take i ++ [r] := by
  rw [List.take_add_one, h]
  rfl
end Ad

/-! The law: its parts. -/
namespace Ad
open PySem PySem.Spec PySem.Calls PyProof.Rows L2 GxR
/-- a def of the top, with its promise -/
structure Has (P : Program) (w : World) (K : PySem.W.Frag) (mg : Str → Option Value) (base : Heap) (k : Nat) (x : Str) (ps : List Str) (sp : Sp) (f : Addr) (fd : FuncData) : Prop where
  G : FnOk P w K mg base CX0 k f fd ps sp
  g : mg x = some (.ref f)
  kp : PySem.W.keepIn K (.ref f) = true
  b : Binds K fd ps []
structure HasG (P : Program) (w : World) (K : PySem.W.Frag) (mg : Str → Option Value) (base : Heap) (k : Nat) (x : Str) (ps : List Str) (sp : Sp) (f : Addr) (fd : FuncData) : Prop where
  G : FnG P w K mg base CX0 k f fd ps sp
  g : mg x = some (.ref f)
  kp : PySem.W.keepIn K (.ref f) = true
  b : Binds K fd ps []
theorem iteNE {b : Bool} {A B : Prop} (hb : b = true) (h : B) : if (!b) = true then A else B := by
  rw [hb]
  exact iteF h
theorem iteE {b : Bool} {A B : Prop} (hb : b = true) (h : A) : if b = true then A else B := by
  rw [hb]
  exact iteT h
/-! ### written substitutions -/
/-- a written pair -/
def PLit (K : PySem.W.Frag) (tp : TE) (e : Int × T) : Prop := ∀ (σ : L2.St) (H : Hp) (Q : VK), (∀ b G, Same H G → SP K G e b → Q (.ref b) G) → tp σ H Q
theorem plit_v (K : PySem.W.Frag) (i j : Int) : PLit K (tTup (tCons (tC (.int i)) (tCons (tC (.int j)) tNil))) (i, .v j) := fun σ H Q h =>
  ⟨(by show 2 ≤ sizeLine; decide), fun p np => h p _ (same_new (fun b o e => e) np _) ⟨.int j, .inl (.inl upd_same), rfl⟩⟩
theorem plit_f (K : PySem.W.Frag) (i j : Int) (x : Str) : PLit K (tTup (tCons (tC (.int i)) (tCons (tTup (tCons (tC (.str x)) (tCons (tC (.int j)) tNil))) tNil))) (i, .f x [.v j]) := fun σ H Q h =>
  ⟨(by show 2 ≤ sizeLine; decide), fun p1 n1 => ⟨(by show 2 ≤ sizeLine; decide), fun p np => h p _ (same_new (same_new (fun b o e => e) n1 _) np _)
    ⟨.ref p1, .inl (.inl upd_same), p1, [.int j], rfl, (TK.new np _).sq (.inl (.inl upd_same)), .int j, [], rfl, rfl, rfl⟩⟩⟩
theorem sulit0 (K : PySem.W.Frag) {σ : L2.St} {H : Hp} {Q : VK} (h : ∀ x G, Same H G → Su K G [] x → Q x G) : Dt.tTup0 tNil σ H Q :=
  ⟨Nat.zero_le _, fun p o np od => h (.ref p) _ (same_new (fun b o e => e) np _) ⟨p, [], rfl, ⟨o, upd_same, od⟩, rfl⟩⟩
theorem sulit1 {K : PySem.W.Frag} {σ : L2.St} {H : Hp} {Q : VK} {t1 : TE} {e1 : Int × T} (p1 : PLit K t1 e1) (h : ∀ x G, Same H G → Su K G [e1] x → Q x G) : Dt.tTup0 (tCons t1 tNil) σ H Q := by
  show t1 σ H (fun v G => [v].length ≤ sizeLine ∧ ∀ p o, G p = none → o.dict = none → Q (.ref p) (upd G p (.frz o (.tup [v]))))
  exact p1 σ H _ fun b G s sp => ⟨(by show 1 ≤ sizeLine; decide), fun p o np od => h (.ref p) _ (same_new s np _) ⟨p, [b], rfl, ⟨o, upd_same, od⟩, F2.one (SP.mono (TK.new np _) _ _ sp)⟩⟩
theorem sulit2 {K : PySem.W.Frag} {σ : L2.St} {H : Hp} {Q : VK} {t1 t2 : TE} {e1 e2 : Int × T} (p1 : PLit K t1 e1) (p2 : PLit K t2 e2) (h : ∀ x G, Same H G → Su K G [e1, e2] x → Q x G) : Dt.tTup0 (tCons t1 (tCons t2 tNil)) σ H Q := by
  show t1 σ H (fun v G => t2 σ G (fun v2 G2 => [v, v2].length ≤ sizeLine ∧ ∀ p o, G2 p = none → o.dict = none → Q (.ref p) (upd G2 p (.frz o (.tup [v, v2])))))
  exact p1 σ H _ fun b G s sp => p2 σ G _ fun b2 G2 s2 sp2 => ⟨(by show 2 ≤ sizeLine; decide), fun p o np od => h (.ref p) _ (same_new (show Same H G2 from fun b o e => s2 b o (s b o e)) np _)
    ⟨p, [b, b2], rfl, ⟨o, upd_same, od⟩, _, _, rfl, SP.mono ((TK.same s2).trans (TK.new np _)) _ _ sp, F2.one (SP.mono (TK.new np _) _ _ sp2)⟩⟩
/-! ### the law's substitutions -/
theorem dt_v {R : List Row} {j nv : Int} (h0 : 0 ≤ j) (h1 : j < nv) : DT R 2 nv (.v j) := ⟨rfl, Nat.zero_le _, one_sz _, fun i hi => by
  cases List.mem_singleton.mp hi
  exact ⟨h0, h1⟩, True.intro⟩
theorem dt_f {R : List Row} (hf : ∃ r ∈ R, r.1 = ("f" : Str) ∧ r.2.1 = 1) : DT R 2 4 (.f "f" [.v 0]) := ⟨by decide +kernel, (by show 1 + max 0 0 ≤ 3; decide), (by show 1 + (1 + 0) ≤ 13; decide), fun i hi => by
  cases List.mem_singleton.mp (show i ∈ [(0 : Int)] from hi)
  exact ⟨by decide, by decide⟩, ⟨hf, True.intro, True.intro⟩⟩
theorem dsu_a {R : List Row} : DSu R 2 4 [(0, .v 1), (1, .v 0)] := ⟨by simp, fun e he => by
  rcases List.mem_cons.mp he with z | z
  · rw [z]
    exact ⟨by decide, by decide, dt_v (by decide) (by decide)⟩
  · rw [List.mem_singleton.mp z]
    exact ⟨by decide, by decide, dt_v (by decide) (by decide)⟩⟩
theorem dsu_b {R : List Row} (hf : ∃ r ∈ R, r.1 = ("f" : Str) ∧ r.2.1 = 1) : DSu R 2 4 [(0, .v 1), (1, .f "f" [.v 0])] := ⟨by simp, fun e he => by
  rcases List.mem_cons.mp he with z | z
  · rw [z]
    exact ⟨by decide, by decide, dt_v (by decide) (by decide)⟩
  · rw [List.mem_singleton.mp z]
    exact ⟨by decide, by decide, dt_f hf⟩⟩
theorem dsu_c {R : List Row} : DSu R 2 4 [] := ⟨.nil, fun e he => nomatch he⟩
theorem dsu_one {R : List Row} {i : Int} {t : T} (h0 : 0 ≤ i) (h1 : i < 4) (h : DT R 2 4 t) : DSu R 2 4 [(i, t)] := ⟨List.pairwise_singleton _ _, fun e he => by
  rw [List.mem_singleton.mp he]
  exact ⟨h0, h1, h⟩⟩
theorem DSu.nd {R : List Row} {d : Nat} {nv : Int} {su : Sb} (h : DSu R d nv su) : (su.map (·.1)).Nodup := Sb.rising_nodup h.rising
theorem DSu.asg {R : List Row} {su : Sb} (h : DSu R 2 4 su) {j nv : Int} (h4 : 4 ≤ nv) (h0 : 0 ≤ j) (h1 : j < nv) : DT R 2 nv (su.asg j) := by
  show DT R 2 nv ((su.look j).getD (.v j))
  cases e : su.look j with
  | none => exact dt_v h0 h1
  | some t =>
    obtain ⟨_, _, d⟩ := h.each _ (Sb.look_mem e)
    exact ⟨d.named, d.dep, d.size, fun i hi => ⟨(d.vars i hi).1, by have := (d.vars i hi).2; omega⟩, d.wf⟩
theorem put_small {R : List Row} {su : Sb} (h : DSu R 2 4 su) {t : T} {nv : Int} (h4 : 4 ≤ nv) (n : t.named = true) (v : ∀ j ∈ t.vars, 0 ≤ j ∧ j < nv) :
    (T.fill su.asg t).named = true ∧ (T.fill su.asg t).dep ≤ t.dep + 3 ∧ (T.fill su.asg t).size ≤ t.size * 13 ∧ ∀ j ∈ (T.fill su.asg t).vars, 0 ≤ j ∧ j < nv := by
  have d : ∀ j ∈ t.vars, DT R 2 nv (su.asg j) := fun j hj => h.asg h4 (v j hj).1 (v j hj).2
  refine ⟨T.fill_named t n fun j hj => (d j hj).named, T.fill_dep t fun j hj => (d j hj).dep, T.fill_size (by decide) t fun j hj => (d j hj).size, fun j hj => ?_⟩
  obtain ⟨i, hi, hj'⟩ := T.fill_vars t hj
  exact (d i hi).vars j hj'
theorem beh_small {R : List Row} {one two : Sb} (d1 : DSu R 2 4 one) (d2 : DSu R 2 4 two) : ∀ e ∈ Sb.beh one two, 0 ≤ e.1 ∧ e.1 < 4 ∧ e.2.named = true ∧ e.2.dep ≤ 6 ∧ e.2.size ≤ 169 ∧ ∀ j ∈ e.2.vars, 0 ≤ j ∧ j < 4 := by
  intro e he
  have nd : ((Sb.beh one two).map (·.1)).Nodup := Sb.nodup_fold _ one two d2.nd
  have lk := (Sb.mem_look nd (i := e.1) (t := e.2)).1 he
  rw [Sb.beh_look d1.nd] at lk
  cases h : Sb.look one e.1 with
  | some t =>
    rw [h] at lk
    have e2 : T.fill two.asg t = e.2 := Option.some.inj lk
    obtain ⟨a, b, d⟩ := d1.each _ (Sb.look_mem h)
    have d' : DT R 2 4 t := d
    obtain ⟨p1, p2, p3, p4⟩ := put_small d2 (by decide) d'.named d'.vars
    have z1 := d'.dep
    have z2 : t.size ≤ 13 := d'.size
    rw [e2] at p1 p2 p3 p4
    exact ⟨a, b, p1, by omega, by omega, p4⟩
  | none =>
    rw [h] at lk
    obtain ⟨a, b, d⟩ := d2.each _ (Sb.look_mem lk)
    have z1 : e.2.dep ≤ 3 := d.dep
    have z2 : e.2.size ≤ 13 := d.size
    exact ⟨a, b, d.named, by omega, by omega, d.vars⟩
theorem beh_good {R : List Row} {one two : Sb} (d1 : DSu R 2 4 one) (d2 : DSu R 2 4 two) : Good (Sb.beh one two) := fun e he => by
  obtain ⟨_, _, h1, h2, _⟩ := beh_small d1 d2 e he
  exact ⟨h1, by omega⟩
theorem norm_text {R : List Row} {one two su : Sb} (d1 : DSu R 2 4 one) (d2 : DSu R 2 4 two) (n : (Sb.beh one two).Norm su) : (suD su).showable = true ∧ (suD su).hasDict = false ∧ (suD su).depth ≤ 60 ∧ (suD su).shown.length ≤ sizeLine := by
  have each : ∀ e ∈ su, 0 ≤ e.1 ∧ e.1 < 4 ∧ e.2.named = true ∧ e.2.dep ≤ 6 ∧ e.2.size ≤ 169 ∧ ∀ j ∈ e.2.vars, 0 ≤ j ∧ j < 4 := fun e he => beh_small d1 d2 e (Sb.look_mem ((n.has e.1 e.2).1 he).1)
  refine su_text (m := 169) (by decide) ?_ fun e he => ?_
  · have := rising_len (lo := 0) (hi := 4) n.rising (fun i hi => by
      obtain ⟨e, he, rfl⟩ := List.mem_map.mp hi
      exact ⟨(each e he).1, (each e he).2.1⟩) (by decide)
    rw [List.length_map] at this
    omega
  · obtain ⟨a, b, c, d, f, g⟩ := each e he
    exact ⟨a, by omega, c, by omega, f, fun j hj => ⟨(g j hj).1, by have := (g j hj).2; omega⟩⟩
namespace Sb
theorem ren_vars (first : Int) : ∀ (l : List Int) (tb : Sb), (∀ e ∈ tb, ∃ i, e.2 = T.v i) → ∀ e ∈ ren first tb l, ∃ i, e.2 = T.v i
  | [], tb, h => h
  | i :: l, tb, h => by
    show ∀ e ∈ ren first (if (look tb i).isSome = true then tb else put tb i (.v (first + (tb.length : Int)))) l, ∃ i, e.2 = T.v i
    refine ren_vars first l _ ?_
    split
    · exact h
    · intro e he
      rcases mem_put he with z | z
      · rw [z]
        exact ⟨_, rfl⟩
      · exact h e z
theorem ren_asg (first : Int) (l : List Int) (j : Int) : ∃ i, (ren first [] l).asg j = T.v i := by
  show ∃ i, ((ren first [] l).look j).getD (.v j) = T.v i
  cases e : (ren first [] l).look j with
  | none => exact ⟨j, rfl⟩
  | some t => exact ren_vars first l [] (fun e he => nomatch he) _ (look_mem e)
end Sb
theorem ren_shaped {t : T} (n : t.named = true) (d : t.dep ≤ 60) (first : Int) (l : List Int) : SeqAt.shaped (T.fill (Sb.ren first [] l).asg t).d = true := by
  refine T.shaped (T.fill_named t n fun j _ => ?_) ?_
  · obtain ⟨i, e⟩ := Sb.ren_asg first l j
    rw [e]
    rfl
  · have := T.fill_dep (s := (Sb.ren first [] l).asg) (D := 0) t fun j _ => by
      obtain ⟨i, e⟩ := Sb.ren_asg first l j
      rw [e]
      exact Nat.le_refl _
    omega
/-! ### what a lap knows -/
structure Wk (K : PySem.W.Frag) (Pt p l ra : Addr) (ns : List Int) (c : Nat) (R : List Row) (G : Hp) : Prop where
  pen : Pn.Pen G p l ns c
  rows : RowsAt K G ra R
  tab : TabG G Pt
section
variable {K : PySem.W.Frag} {Pt p l ra : Addr} {ns : List Int} {c c' : Nat} {R : List Row} {G G' : Hp}
theorem Wk.same (h : Wk K Pt p l ra ns c R G) (s : Same G G') : Wk K Pt p l ra ns c R G' := ⟨pen_same h.pen s, h.rows.mono (TK.same s), tab_same s h.tab⟩
theorem Wk.new (h : Wk K Pt p l ra ns c R G) {q : Addr} (n : G q = none) (o : HO) : Wk K Pt p l ra ns c R (upd G q o) := h.same (same_new (fun b o e => e) n _)
theorem tab_ne {l : Addr} {ns : List Int} {c : Nat} (P : Pn.Pen G p l ns c) (t : TabG G Pt) : Pt ≠ p ∧ Pt ≠ l := by
  obtain ⟨ps, e, _⟩ := t
  obtain ⟨⟨_, _, _, e0, _⟩, e1⟩ := P
  refine ⟨fun z => ?_, fun z => ?_⟩
  · rw [← z, e] at e0
    cases e0
  · rw [← z, e] at e1
    cases e1
theorem tab_pen {l : Addr} {ns : List Int} {c : Nat} (P : Pn.Pen G p l ns c) (t : TabG G Pt) (b : Pn.But p G G') : TabG G' Pt := by
  have n := (tab_ne P t).1
  obtain ⟨ps, e, ok⟩ := t
  exact ⟨ps, b _ _ n e, ok⟩
theorem Wk.step (h : Wk K Pt p l ra ns c R G) (P : Pn.Pen G' p l ns c') (b : Pn.But p G G') : Wk K Pt p l ra ns c' R G' := ⟨P, h.rows.mono (pen_tk h.pen b), tab_pen h.pen h.tab b⟩
theorem Wk.but (h : Wk K Pt p l ra ns c R G) (b : ∀ q o, q ≠ Pt → G q = some o → G' q = some o) (t : TabG G' Pt) : Wk K Pt p l ra ns c R G' := by
  refine ⟨?_, h.rows.mono (tab_tk h.tab b), t⟩
  obtain ⟨n1, n2⟩ := tab_ne h.pen h.tab
  obtain ⟨⟨a, d, f, e, r⟩, e1⟩ := h.pen
  exact ⟨⟨a, d, f, b _ _ n1.symm e, r⟩, b _ _ n2.symm e1⟩
end
end Ad

/-! What kind data is of. -/
namespace Ad
open PySem PySem.Spec PySem.Calls PyProof.Rows L2
def isTL : PyData → Bool
  | .list _ => true
  | .tuple _ => true
  | _ => false
def isSt : PyData → Bool
  | .str _ => true
  | _ => false
theorem kit_st {K : PySem.W.Frag} : ∀ d : PyData, PySem.W.kitOne K (tyD d) (.type "str") = some (isSt d)
  | .none => kit_ty (a := "NoneType") (b := "str") (r := false) (by decide +kernel)
  | .bool _ => kit_ty (a := "bool") (b := "str") (r := false) (by decide +kernel)
  | .int _ => kit_ty (a := "int") (b := "str") (r := false) (by decide +kernel)
  | .str _ => kit_ty (a := "str") (b := "str") (r := true) (by decide +kernel)
  | .list _ => kit_ty (a := "list") (b := "str") (r := false) (by decide +kernel)
  | .tuple _ => kit_ty (a := "tuple") (b := "str") (r := false) (by decide +kernel)
  | .dict _ => kit_ty (a := "dict") (b := "str") (r := false) (by decide +kernel)
theorem kit_no {K : PySem.W.Frag} (a : String) (h1 : kitB a "list" = some false) (h2 : kitB a "tuple" = some false) : PySem.W.kitAny K (.type a) [.type "list", .type "tuple"] = some false :=
  kitAny_cons (b := false) (kit_ty (a := a) (b := "list") (r := false) h1) (fun _ => kitAny_cons (b := false) (kit_ty (a := a) (b := "tuple") (r := false) h2) (fun _ => rfl) (fun z => nomatch z)) (fun z => nomatch z)
theorem kit_tl {K : PySem.W.Frag} : ∀ d : PyData, PySem.W.kitAny K (tyD d) [.type "list", .type "tuple"] = some (isTL d)
  | .none => kit_no "NoneType" (by decide +kernel) (by decide +kernel)
  | .bool _ => kit_no "bool" (by decide +kernel) (by decide +kernel)
  | .int _ => kit_no "int" (by decide +kernel) (by decide +kernel)
  | .str _ => kit_no "str" (by decide +kernel) (by decide +kernel)
  | .list _ => kitLL
  | .tuple _ => kitTL
  | .dict _ => kit_no "dict" (by decide +kernel) (by decide +kernel)
end Ad

/-! Names within terms, where they stand: name, how many arguments, whether a truth's. -/
namespace Ad
open PySem PySem.Spec PySem.Calls PyProof.Rows L2
def nameD : PyData → Str
  | .str x => x
  | _ => ""
mutual
/-- a term of names, great names alone among them -/
def wfT : PyData → Bool
  | .str _ => true
  | .tuple [] => false
  | .tuple (x :: ds) => isSt x && wfTL ds
  | .none => false
  | .bool _ => false
  | .int _ => false
  | .list _ => false
  | .dict _ => false
def wfTL : List PyData → Bool
  | [] => true
  | d :: ds => wfT d && wfTL ds
end
mutual
def occ : Bool → PyData → List (Str × Nat × Bool)
  | _, .tuple [] => []
  | b, .tuple (x :: ds) => (nameD x, ds.length, b) :: occL ds
  | _, .str _ => []
  | _, .none => []
  | _, .bool _ => []
  | _, .int _ => []
  | _, .list _ => []
  | _, .dict _ => []
def occL : List PyData → List (Str × Nat × Bool)
  | [] => []
  | d :: ds => occ false d ++ occL ds
end
theorem occL_app : ∀ ds es : List PyData, occL (ds ++ es) = occL ds ++ occL es
  | [], _ => rfl
  | d :: ds, es => by
    show occ false d ++ occL (ds ++ es) = occ false d ++ occL ds ++ occL es
    rw [occL_app, List.append_assoc]
mutual
theorem occ_len : ∀ (b : Bool) (d : PyData), (occ b d).length ≤ (partsD d).length
  | _, .tuple [] => Nat.zero_le _
  | b, .tuple (x :: ds) => by
    have h := occL_len ds
    show ((nameD x, ds.length, b) :: occL ds).length ≤ (PyData.tuple (x :: ds) :: partsDL ds).length
    rw [List.length_cons, List.length_cons]
    omega
  | _, .str _ => Nat.zero_le _
  | _, .none => Nat.zero_le _
  | _, .bool _ => Nat.zero_le _
  | _, .int _ => Nat.zero_le _
  | _, .list _ => Nat.zero_le _
  | _, .dict _ => Nat.zero_le _
theorem occL_len : ∀ ds : List PyData, (occL ds).length ≤ (partsDL ds).length
  | [] => Nat.le_refl _
  | d :: ds => by
    have h1 := occ_len false d
    have h2 := occL_len ds
    show (occ false d ++ occL ds).length ≤ (partsD d ++ partsDL ds).length
    rw [List.length_append, List.length_append]
    omega
end
mutual
theorem wfT_ok : ∀ d : PyData, wfT d = true → tupOk d = true
  | .tuple [], h => by cases h
  | .tuple (x :: ds), h => wfTL_ok ds (Bool.and_eq_true_iff.mp h).2
  | .str _, _ => rfl
  | .none, h => by cases h
  | .bool _, h => by cases h
  | .int _, h => by cases h
  | .list _, h => by cases h
  | .dict _, h => by cases h
theorem wfTL_ok : ∀ ds : List PyData, wfTL ds = true → tupOkL ds = true
  | [], _ => rfl
  | d :: ds, h => by
    obtain ⟨h1, h2⟩ := Bool.and_eq_true_iff.mp h
    show (tupOk d && tupOkL ds) = true
    rw [wfT_ok d h1, wfTL_ok ds h2]
    rfl
end
theorem wfTL_mem {d : PyData} : ∀ {ds : List PyData} {i : Nat}, wfTL ds = true → ds[i]? = some d → wfT d = true ∧ (partsD d).length ≤ (partsDL ds).length
  | [], i, _, h => by cases h
  | e :: l, i, o, h => by
    obtain ⟨o1, o2⟩ := Bool.and_eq_true_iff.mp o
    have ln : (partsDL (e :: l)).length = (partsD e).length + (partsDL l).length := by
      show (partsD e ++ partsDL l).length = _
      rw [List.length_append]
    cases i with
    | zero =>
      cases h
      exact ⟨o1, by omega⟩
    | succ i =>
      obtain ⟨h1, h2⟩ := wfTL_mem (i := i) o2 h
      exact ⟨h1, by omega⟩
theorem parts_take {ds : List PyData} (i : Nat) : (partsDL (ds.take i)).length ≤ (partsDL ds).length := by
  have e : partsDL ds = partsDL (ds.take i) ++ partsDL (ds.drop i) := by rw [← partsDL_app, List.take_append_drop]
  rw [e, List.length_append]
  omega
/-- such a place as the law tells it -/
def OcV (K : PySem.W.Frag) (G : Hp) (q : Str × Nat × Bool) (v : V) : Prop := ∃ a, v = .ref a ∧ SqT K G a [.str q.1, .int (q.2.1 : Int), .bl q.2.2]
theorem OcV.mono {K : PySem.W.Frag} {G G' : Hp} (k : TK G G') (q : Str × Nat × Bool) (v : V) (h : OcV K G q v) : OcV K G' q v := by
  obtain ⟨a, e, s⟩ := h
  exact ⟨a, e, k.sq s⟩
end Ad

/-! Sentences of well-formed terms; the names in them. -/
namespace Ad
open PySem PySem.Spec PySem.Calls PyProof.Rows L2
namespace Sn
/-- a sentence of names: is with one term that is no great name, equal with two -/
def wf : Sn → Bool
  | .atm false as => decide (as.length = 1) && (wfTL as && (isTu (as.getD 0 .none) && decide ((partsDL as).length ≤ 40)))
  | .atm true as => decide (as.length = 2) && (wfTL as && decide ((partsDL as).length ≤ 40))
  | .qu _ _ s => wf s
  | .one s => wf s
  | .two _ a b => wf a && wf b
/-- the names in it, where they stand -/
def occs : Sn → List (Str × Nat × Bool)
  | .atm false as => occ true (as.getD 0 .none)
  | .atm true as => occL as
  | .qu _ _ s => occs s
  | .one s => occs s
  | .two _ a b => occs a ++ occs b
def occsL : List Sn → List (Str × Nat × Bool)
  | [] => []
  | s :: ss => occs s ++ occsL ss
theorem occsL_app : ∀ l m : List Sn, occsL (l ++ m) = occsL l ++ occsL m
  | [], _ => rfl
  | s :: l, m => by
    show occs s ++ occsL (l ++ m) = occs s ++ occsL l ++ occsL m
    rw [occsL_app, List.append_assoc]
theorem occs_len : ∀ s : Sn, s.wf = true → s.occs.length ≤ 40 * s.size
  | .atm false as, h => by
    obtain ⟨h1, h⟩ := Bool.and_eq_true_iff.mp h
    obtain ⟨h2, h⟩ := Bool.and_eq_true_iff.mp h
    obtain ⟨h3, h4⟩ := Bool.and_eq_true_iff.mp h
    have l1 := of_decide_eq_true h1
    have l4 := of_decide_eq_true h4
    match as, l1 with
    | [t], _ =>
      have h5 := occ_len true t
      have h6 : (partsDL [t]).length = (partsD t).length := by
        show (partsD t ++ []).length = _
        rw [List.append_nil]
      show (occ true t).length ≤ 40 * 1
      omega
  | .atm true as, h => by
    obtain ⟨h1, h⟩ := Bool.and_eq_true_iff.mp h
    obtain ⟨h2, h4⟩ := Bool.and_eq_true_iff.mp h
    have l4 := of_decide_eq_true h4
    have h5 := occL_len as
    show (occL as).length ≤ 40 * 1
    omega
  | .qu _ _ s, h => by
    have := occs_len s h
    show s.occs.length ≤ 40 * (1 + s.size)
    omega
  | .one s, h => by
    have := occs_len s h
    show s.occs.length ≤ 40 * (1 + s.size)
    omega
  | .two _ a b, h => by
    obtain ⟨h1, h2⟩ := Bool.and_eq_true_iff.mp h
    have h3 := occs_len a h1
    have h4 := occs_len b h2
    show (a.occs ++ b.occs).length ≤ 40 * (1 + a.size + b.size)
    rw [List.length_append]
    omega
end Sn
end Ad

/-! A def whose code object is told, called anywhere; a generator's turns over any walk. -/
namespace Ad
open PySem PySem.Spec PySem.Calls PyProof.Rows L2 GxR
/-- as Fun.okX, the code object told -/
theorem FunC.okC {CX : CXT} {P : Program} {w : World} {K : PySem.W.Frag} {mg : Str → Option Value} {base : Heap} {k : Nat} {x qual : Str} {st : Stmt} {f : Addr} {cdv : Value} {fd : FuncData} {N ps : List Str} {sp : Sp} (F : FunC K x qual st f cdv fd) (S : FnScope N ps (defScope st))
    (len : ∀ vs H Q E, sp vs H Q E → vs.length = ps.length)
    (body : ∀ (A : Around) (outer : List Env) (s : Shared) (H : Hp) (vs : List V) (Q : VK) (E : XK), Room k (A.deeper (envOfC qual (defScope st) s.heap.objs.size f cdv)) → sp vs H Q E →
      ∃ t, PSs (cxOf CX P w K mg base N qual (defScope st) f cdv A outer s H E) (defBody st) t ∧ t { nx := fun _ H' => Q .non H', rt := Q } (start N vs) H) : FnOk P w K mg base CX (k + 1) f fd ps sp := by
  obtain ⟨oc, od, kV, doc, pm, an, ct, osl, rfl, look, code⟩ := F.ex
  exact fn_of look code S len body
theorem funC_kp {K : PySem.W.Frag} {x qual : Str} {st : Stmt} {f : Addr} {cdv : Value} {fd : FuncData} (F : FunC K x qual st f cdv fd) : PySem.W.keepIn K (.ref f) = true := F.kp
end Ad
namespace Gx
open PySem PySem.Spec PySem.Calls PyProof.Rows L2 GxR
section
variable {g : TG} {tt : TT} {te : TE} {vs : List Nat} {σ : L2.St} {G : Hp} {cont : List V → Hp → Prop}
theorem turns_it {J : It} {n : Nat} {Gd : Hp → Prop} {Y : Nat → Hp → V → Hp → Prop} (w : Walk J n Gd Y) (Pv : Nat → List V → Hp → Prop) (first : Pv 0 [] G) (stays : ∀ i ys H, i ≤ n → Pv i ys H → Gd H)
    (turn : ∀ i x ys H H', i < n → Pv i ys H → Y i H x H' → g x (wipe σ vs) H' fun σ2 H2 => wipe σ2 vs = wipe σ vs ∧ tt σ2 H2 fun b H3 => if b = true then te σ2 H3 fun y H4 => ys.length < sizeLine ∧ Pv (i + 1) (ys ++ [y]) H4 else Pv (i + 1) ys H3)
    (after : ∀ ys H, Pv n ys H → cont ys H) : ∃ W : Nat → Nat → List V → Hp → Prop, (∃ m, W 0 m [] G) ∧ Turns J g tt te vs σ cont W := by
  refine ⟨fun i m ys H => m = n - i ∧ i ≤ n ∧ Pv i ys H, ⟨n, (Nat.sub_zero _).symm, Nat.zero_le _, first⟩, ?_⟩
  rintro i m ys H ⟨rfl, le, p⟩
  have q := stays i ys H le p
  rcases Nat.lt_or_ge i n with lt | ge
  · refine .inr ⟨w.goes i H lt q, Pv (i + 1), fun ys' H' p' => ⟨n - (i + 1), by omega, rfl, lt, p'⟩, fun x H' y => ?_⟩
    exact turn i x ys H H' lt p (w.yields i H x H' lt q y)
  · have e : i = n := by omega
    subst e
    exact .inl ⟨w.stops H q, after ys H p⟩
end
end Gx

/-! Names as they first come, and whether all fit; dicts of them. -/
namespace Ad
open PySem PySem.Spec PySem.Calls PyProof.Rows L2
abbrev Oc := Str × Nat × Bool
namespace Kn
def look : List Oc → Str → Option (Nat × Bool)
  | [], _ => none
  | q :: l, x => if q.1 = x then some q.2 else look l x
def scan : List Oc → List Oc → Sum Str (List Oc)
  | l, [] => .inr l
  | l, q :: qs => match look l q.1 with
    | none => scan (l ++ [q]) qs
    | some z => if z = q.2 then scan l qs else .inl q.1
def cont (r : Sum Str (List Oc)) (qs : List Oc) : Sum Str (List Oc) := match r with
  | .inl x => .inl x
  | .inr l => scan l qs
theorem scan_app : ∀ (as bs l : List Oc), scan l (as ++ bs) = cont (scan l as) bs
  | [], _, _ => rfl
  | q :: as, bs, l => by
    show scan l (q :: (as ++ bs)) = cont (scan l (q :: as)) bs
    unfold scan
    cases look l q.1 with
    | none => exact scan_app as bs _
    | some z =>
      show (if z = q.2 then scan l (as ++ bs) else .inl q.1) = cont (if z = q.2 then scan l as else .inl q.1) bs
      by_cases e : z = q.2
      · rw [if_pos e, if_pos e]
        exact scan_app as bs _
      · rw [if_neg e, if_neg e]
        rfl
theorem scan_new {done : List Oc} {l : List Oc} {q : Oc} (h : scan [] done = .inr l) (n : look l q.1 = none) : scan [] (done ++ [q]) = .inr (l ++ [q]) := by
  rw [scan_app, h]
  show scan l [q] = _
  unfold scan
  rw [n]
  rfl
theorem scan_old {done : List Oc} {l : List Oc} {q : Oc} (h : scan [] done = .inr l) (n : look l q.1 = some q.2) : scan [] (done ++ [q]) = .inr l := by
  rw [scan_app, h]
  show scan l [q] = _
  unfold scan
  rw [n]
  exact if_pos rfl
theorem scan_bad {done : List Oc} {l : List Oc} {q : Oc} {z : Nat × Bool} (h : scan [] done = .inr l) (n : look l q.1 = some z) (e : z ≠ q.2) (rest : List Oc) : scan [] (done ++ q :: rest) = .inl q.1 := by
  rw [scan_app, h]
  show scan l (q :: rest) = _
  unfold scan
  rw [n]
  exact if_neg e
theorem look_app {x : Str} {q : Oc} : ∀ {l : List Oc}, look l x = none → look (l ++ [q]) x = if q.1 = x then some q.2 else none
  | [], _ => rfl
  | p :: l, h => by
    by_cases e : p.1 = x
    · have h' : (if p.1 = x then some p.2 else look l x) = none := h
      rw [if_pos e] at h'
      cases h'
    · have h' : (if p.1 = x then some p.2 else look l x) = none := h
      rw [if_neg e] at h'
      show (if p.1 = x then some p.2 else look (l ++ [q]) x) = _
      rw [if_neg e]
      exact look_app h'
theorem look_none {x : Str} : ∀ {l : List Oc}, look l x = none ↔ x ∉ l.map (·.1)
  | [] => ⟨fun _ => List.not_mem_nil, fun _ => rfl⟩
  | p :: l => by
    show (if p.1 = x then some p.2 else look l x) = none ↔ _
    by_cases e : p.1 = x
    · rw [if_pos e]
      exact ⟨fun h => (nomatch h), fun h => absurd (List.mem_cons.mpr (.inl e.symm)) h⟩
    · rw [if_neg e, look_none (l := l)]
      constructor
      · intro h z
        rcases List.mem_cons.mp z with z | z
        · exact e z.symm
        · exact h z
      · exact fun h z => h (List.mem_cons_of_mem _ z)
theorem look_mem {x : Str} {z : Nat × Bool} : ∀ {l : List Oc}, look l x = some z → (x, z) ∈ l
  | [], h => by cases h
  | p :: l, h => by
    have h' : (if p.1 = x then some p.2 else look l x) = some z := h
    by_cases e : p.1 = x
    · rw [if_pos e] at h'
      cases h'
      rw [← e]
      exact List.mem_cons_self
    · rw [if_neg e] at h'
      exact List.mem_cons_of_mem _ (look_mem h')
theorem look_at {q : Oc} : ∀ {l : List Oc}, (l.map (·.1)).Nodup → q ∈ l → look l q.1 = some q.2
  | p :: l, nd, h => by
    obtain ⟨n1, n2⟩ := List.nodup_cons.mp nd
    show (if p.1 = q.1 then some p.2 else look l q.1) = _
    rcases List.mem_cons.mp h with e | e
    · rw [e, if_pos rfl]
    · rw [if_neg (fun z => n1 (by show p.1 ∈ _; rw [z]; exact List.mem_map.mpr ⟨q, e, rfl⟩))]
      exact look_at n2 e
/-- what a scan tells of names: each once, and all from what was met -/
theorem scan_ok : ∀ (qs : List Oc) {l l' : List Oc}, scan l qs = .inr l' → (l.map (·.1)).Nodup → (l'.map (·.1)).Nodup ∧ ∀ q ∈ l', q ∈ l ∨ q ∈ qs
  | [], l, l', h, nd => by
    cases h
    exact ⟨nd, fun q hq => .inl hq⟩
  | p :: qs, l, l', h, nd => by
    have h' : (match look l p.1 with | none => scan (l ++ [p]) qs | some z => if z = p.2 then scan l qs else .inl p.1) = .inr l' := h
    cases e : look l p.1 with
    | none =>
      rw [e] at h'
      obtain ⟨h1, h2⟩ := scan_ok qs (l := l ++ [p]) h' (by
        rw [List.map_append]
        refine List.nodup_append.mpr ⟨nd, (by simp), fun a ha b hb z => ?_⟩
        cases List.mem_singleton.mp hb
        rw [z] at ha
        exact look_none.mp e ha)
      refine ⟨h1, fun q hq => ?_⟩
      rcases h2 q hq with z | z
      · rcases List.mem_append.mp z with z | z
        · exact .inl z
        · cases List.mem_singleton.mp z
          exact .inr List.mem_cons_self
      · exact .inr (List.mem_cons_of_mem _ z)
    | some z =>
      rw [e] at h'
      have h'' : (if z = p.2 then scan l qs else .inl p.1) = .inr l' := h'
      by_cases zz : z = p.2
      · rw [if_pos zz] at h''
        obtain ⟨h1, h2⟩ := scan_ok qs h'' nd
        refine ⟨h1, fun q hq => ?_⟩
        rcases h2 q hq with z | z
        · exact .inl z
        · exact .inr (List.mem_cons_of_mem _ z)
      · rw [if_neg zz] at h''
        cases h''
theorem scan_err : ∀ (qs : List Oc) {l : List Oc} {x : Str}, scan l qs = .inl x → x ∈ qs.map (·.1)
  | [], l, x, h => by cases h
  | p :: qs, l, x, h => by
    have h' : (match look l p.1 with | none => scan (l ++ [p]) qs | some z => if z = p.2 then scan l qs else .inl p.1) = .inl x := h
    cases e : look l p.1 with
    | none =>
      rw [e] at h'
      exact List.mem_cons_of_mem _ (scan_err qs h')
    | some z =>
      rw [e] at h'
      have h'' : (if z = p.2 then scan l qs else .inl p.1) = .inl x := h'
      by_cases zz : z = p.2
      · rw [if_pos zz] at h''
        exact List.mem_cons_of_mem _ (scan_err qs h'')
      · rw [if_neg zz] at h''
        cases h''
        exact List.mem_cons_self
def things (l : List Oc) : List Pr := (l.filter fun q => !q.2.2).map fun q => (q.1, q.2.1)
def truths (l : List Oc) : List Pr := (l.filter fun q => q.2.2).map fun q => (q.1, q.2.1)
/-- things, or truths -/
def part (b : Bool) (l : List Oc) : List Pr := (l.filter fun q => q.2.2 == b).map fun q => (q.1, q.2.1)
theorem part_app (b : Bool) (l m : List Oc) : part b (l ++ m) = part b l ++ part b m := by
  unfold part
  rw [List.filter_append, List.map_append]
theorem part_one (b : Bool) (q : Oc) : part b [q] = if (q.2.2 == b) = true then [(q.1, q.2.1)] else [] := by
  unfold part
  by_cases h : (q.2.2 == b) = true
  · rw [if_pos h, List.filter_cons_of_pos (p := fun q : Oc => q.2.2 == b) h]
    rfl
  · rw [if_neg h, List.filter_cons_of_neg (p := fun q : Oc => q.2.2 == b) h]
    rfl
theorem part_len (b : Bool) (l : List Oc) : (part b l).length ≤ l.length := by
  unfold part
  rw [List.length_map]
  exact List.length_filter_le _ _
end Kn
theorem TK.any {H : Hp} {p : Addr} {u : HO} (h : H p = some u) (n1 : ∀ xs, u ≠ .tup xs) (n2 : ∀ o xs, u ≠ .frz o (.tup xs)) (o : HO) : TK H (upd H p o) := fun b xs => by
  have ne : ∀ {v : HO}, H b = some v → v ≠ u → b ≠ p := fun {v} e n z => by
    rw [z, h] at e
    exact n (Option.some.inj e).symm
  refine ⟨fun e => ?_, fun o' e => ?_⟩
  · rw [upd_ne (ne e (fun z => n1 xs z.symm))]
    exact e
  · rw [upd_ne (ne e (fun z => n2 o' xs z.symm))]
    exact e
/-- a dict of names: the entry of each by f -/
def KnV (K : PySem.W.Frag) (f : Oc → List V) (H : Hp) (q : Oc) (kv : L2.Key × V) : Prop := kv.1 = .inr q.1 ∧ ∃ b, kv.2 = .ref b ∧ SqT K H b (f q)
theorem KnV.mono {K : PySem.W.Frag} {f : Oc → List V} {H H' : Hp} (k : TK H H') (q : Oc) (kv : L2.Key × V) (h : KnV K f H q kv) : KnV K f H' q kv := by
  obtain ⟨e, b, e2, s⟩ := h
  exact ⟨e, b, e2, k.sq s⟩
theorem kn_none {K : PySem.W.Frag} {f : Oc → List V} {H : Hp} {x : Str} : ∀ {l : List Oc} {kvs : List (L2.Key × V)}, F2 (KnV K f H) l kvs → Kn.look l x = none → valV kvs (.inr x) = none
  | [], _, h, _ => by
    cases (show _ = [] from h)
    rfl
  | q :: l, _, ⟨⟨k, v⟩, kvs, rfl, ⟨e, _⟩, t⟩, n => by
    have e' : k = .inr q.1 := e
    have n' : (if q.1 = x then some q.2 else Kn.look l x) = none := n
    by_cases z : q.1 = x
    · rw [if_pos z] at n'
      cases n'
    · rw [if_neg z] at n'
      rw [valV_neg (by rw [e']; exact fun y => z (Sum.inr.inj y))]
      exact kn_none t n'
theorem kn_some {K : PySem.W.Frag} {f : Oc → List V} {H : Hp} {x : Str} {z : Nat × Bool} : ∀ {l : List Oc} {kvs : List (L2.Key × V)}, F2 (KnV K f H) l kvs → Kn.look l x = some z → ∃ b, valV kvs (.inr x) = some (.ref b) ∧ SqT K H b (f (x, z))
  | [], _, h, n => by cases n
  | q :: l, _, ⟨⟨k, v⟩, kvs, rfl, ⟨e, b, e2, s⟩, t⟩, n => by
    have e' : k = .inr q.1 := e
    have e2' : v = .ref b := e2
    have n' : (if q.1 = x then some q.2 else Kn.look l x) = some z := n
    by_cases zx : q.1 = x
    · rw [if_pos zx] at n'
      cases n'
      subst zx
      exact ⟨b, by rw [e', e2']; exact valV_pos rfl, s⟩
    · rw [if_neg zx] at n'
      rw [valV_neg (by rw [e']; exact fun y => zx (Sum.inr.inj y))]
      exact kn_some t n'
/-! ### parts and places -/
def ocP (isA : Bool) (i : Nat) : PyData → List Oc
  | .tuple (x :: ds) => [(nameD x, ds.length, isA && decide (i = 0))]
  | _ => []
def ocPs (isA : Bool) : Nat → List PyData → List Oc
  | _, [] => []
  | i, p :: ps => ocP isA i p ++ ocPs isA (i + 1) ps
theorem ocPs_app (isA : Bool) : ∀ (as bs : List PyData) (i : Nat), ocPs isA i (as ++ bs) = ocPs isA i as ++ ocPs isA (i + as.length) bs
  | [], _, _ => rfl
  | p :: as, bs, i => by
    show ocP isA i p ++ ocPs isA (i + 1) (as ++ bs) = ocP isA i p ++ ocPs isA (i + 1) as ++ ocPs isA (i + (as.length + 1)) bs
    rw [ocPs_app isA as bs (i + 1), List.append_assoc]
    have : i + 1 + as.length = i + (as.length + 1) := by omega
    rw [this]
theorem ocP_false (i j : Nat) (p : PyData) : ocP false i p = ocP false j p := by
  cases p with
  | tuple ds => cases ds <;> rfl
  | _ => rfl
theorem ocP_late (b : Bool) (i j : Nat) (p : PyData) : ocP b (i + 1) p = ocP false j p := by
  cases p with
  | tuple ds =>
    cases ds with
    | nil => rfl
    | cons x ds =>
      show [(nameD x, ds.length, b && decide (i + 1 = 0))] = [(nameD x, ds.length, false && _)]
      rw [decide_eq_false (Nat.succ_ne_zero i), Bool.and_false, Bool.false_and]
  | _ => rfl
theorem ocPs_late (b : Bool) : ∀ (ps : List PyData) (i j : Nat), ocPs b (i + 1) ps = ocPs false j ps
  | [], _, _ => rfl
  | p :: ps, i, j => by
    show ocP b (i + 1) p ++ ocPs b (i + 1 + 1) ps = ocP false j p ++ ocPs false (j + 1) ps
    rw [ocP_late b i j, ocPs_late b ps (i + 1) (j + 1)]
mutual
theorem oc_parts : ∀ (d : PyData) (i : Nat), ocPs false i (partsD d) = occ false d
  | .tuple [], _ => rfl
  | .tuple (x :: ds), i => by
    show ocP false i (.tuple (x :: ds)) ++ ocPs false (i + 1) (partsDL ds) = (nameD x, ds.length, false) :: occL ds
    rw [oc_partsL ds (i + 1)]
    rfl
  | .none, _ => rfl
  | .bool _, _ => rfl
  | .int _, _ => rfl
  | .str _, _ => rfl
  | .list _, _ => rfl
  | .dict _, _ => rfl
theorem oc_partsL : ∀ (ds : List PyData) (i : Nat), ocPs false i (partsDL ds) = occL ds
  | [], _ => rfl
  | d :: ds, i => by
    show ocPs false i (partsD d ++ partsDL ds) = occ false d ++ occL ds
    rw [ocPs_app, oc_parts d i, oc_partsL ds]
end
theorem oc_atom {eq : Bool} {as : List PyData} (wf : (Sn.atm eq as).wf = true) : ocPs (!eq) 0 (partsDL as) = (Sn.atm eq as).occs := by
  cases eq with
  | true => exact oc_partsL as 0
  | false =>
    obtain ⟨h1, h⟩ := Bool.and_eq_true_iff.mp (show (decide (as.length = 1) && (wfTL as && (isTu (as.getD 0 .none) && decide ((partsDL as).length ≤ 40)))) = true from wf)
    have l1 := of_decide_eq_true h1
    obtain ⟨h2, h⟩ := Bool.and_eq_true_iff.mp h
    obtain ⟨h3, h4⟩ := Bool.and_eq_true_iff.mp h
    obtain ⟨t, rfl⟩ : ∃ t, as = [t] := by
      cases as with
      | nil => cases l1
      | cons t as =>
        cases as with
        | nil => exact ⟨t, rfl⟩
        | cons _ _ => cases l1
    have h3' : isTu t = true := h3
    cases t with
    | tuple ds =>
      cases ds with
      | nil => rfl
      | cons x ds =>
        show ocP true 0 (.tuple (x :: ds)) ++ ocPs true 1 (partsDL ds ++ []) = (nameD x, ds.length, true) :: occL ds
        rw [List.append_nil, ocPs_late true (partsDL ds) 0 0, oc_partsL]
        rfl
    | _ => cases h3'
mutual
theorem wf_parts : ∀ (d : PyData), wfT d = true → ∀ p ∈ partsD d, (∃ x, p = .str x) ∨ ∃ x ds, p = .tuple (.str x :: ds)
  | .tuple [], h => by cases h
  | .tuple (x :: ds), h => by
    obtain ⟨h1, h2⟩ := Bool.and_eq_true_iff.mp (show (isSt x && wfTL ds) = true from h)
    intro p hp
    rcases List.mem_cons.mp (show p ∈ PyData.tuple (x :: ds) :: partsDL ds from hp) with e | e
    · cases x with
      | str x => exact .inr ⟨x, ds, e⟩
      | _ => cases h1
    · exact wf_partsL ds h2 p e
  | .str x, _ => fun p hp => .inl ⟨x, List.mem_singleton.mp hp⟩
  | .none, h => by cases h
  | .bool _, h => by cases h
  | .int _, h => by cases h
  | .list _, h => by cases h
  | .dict _, h => by cases h
theorem wf_partsL : ∀ (ds : List PyData), wfTL ds = true → ∀ p ∈ partsDL ds, (∃ x, p = .str x) ∨ ∃ x es, p = .tuple (.str x :: es)
  | [], _ => fun p hp => absurd hp List.not_mem_nil
  | d :: ds, h => by
    obtain ⟨h1, h2⟩ := Bool.and_eq_true_iff.mp h
    intro p hp
    rcases List.mem_append.mp (show p ∈ partsD d ++ partsDL ds from hp) with e | e
    · exact wf_parts d h1 p e
    · exact wf_partsL ds h2 p e
end
theorem ocPs_take {b : Bool} {ps : List PyData} {i : Nat} {p : PyData} (h : ps[i]? = some p) : ocPs b 0 (ps.take (i + 1)) = ocPs b 0 (ps.take i) ++ ocP b i p := by
  have il := (List.getElem?_eq_some_iff.mp h).1
  rw [List.take_add_one, h, ocPs_app]
  show ocPs b 0 (ps.take i) ++ (ocP b (0 + (ps.take i).length) p ++ []) = _
  rw [List.append_nil, List.length_take, Nat.zero_add, Nat.min_eq_left (Nat.le_of_lt il)]
theorem ocPs_drop {b : Bool} {ps : List PyData} {i : Nat} {p : PyData} (h : ps[i]? = some p) : ∃ r, ocPs b 0 ps = ocPs b 0 (ps.take i) ++ (ocP b i p ++ r) := by
  have il := (List.getElem?_eq_some_iff.mp h).1
  refine ⟨ocPs b (0 + (ps.take (i + 1)).length) (ps.drop (i + 1)), ?_⟩
  rw [← List.append_assoc, ← ocPs_take h, ← ocPs_app, List.take_append_drop]
/-! ### the atoms of a sentence, their places -/
def occA : List (PyData × List Str) → List Oc
  | [] => []
  | q :: l => (match q.1 with
    | .tuple (.str w :: as) => ocPs (decide (w = "is")) 0 (partsDL as)
    | _ => []) ++ occA l
theorem occA_app : ∀ l m : List (PyData × List Str), occA (l ++ m) = occA l ++ occA m
  | [], _ => rfl
  | q :: l, m => by
    show _ ++ occA (l ++ m) = (_ ++ occA l) ++ occA m
    rw [occA_app l m, List.append_assoc]
/-- such an atom -/
def AtmD (d : PyData) : Prop := ∃ (eq : Bool) (as : List PyData), d = (Sn.atm eq as).d ∧ (Sn.atm eq as).wf = true
theorem occ_atm {eq : Bool} {as : List PyData} (wf : (Sn.atm eq as).wf = true) (B : List Str) : occA [((Sn.atm eq as).d, B)] = (Sn.atm eq as).occs := by
  show ocPs (decide (Sn.word (.atm eq as) = "is")) 0 (partsDL as) ++ [] = _
  have e : decide (Sn.word (.atm eq as) = "is") = !eq := by
    cases eq with
    | true => exact (by decide +kernel : decide (("equal" : Str) = "is") = false)
    | false => exact (by decide +kernel : decide (("is" : Str) = "is") = true)
  rw [List.append_nil, e, oc_atom wf]
theorem occ_atoms : ∀ (s : Sn) (B : List Str), s.wf = true → occA (s.atoms B) = s.occs ∧ ∀ q ∈ s.atoms B, AtmD q.1
  | .atm eq as, B, wf => ⟨occ_atm wf B, fun q hq => by
    cases List.mem_singleton.mp hq
    exact ⟨eq, as, rfl, wf⟩⟩
  | .qu _ x s, B, wf => occ_atoms s (B ++ [x]) wf
  | .one s, B, wf => occ_atoms s B wf
  | .two _ a b, B, wf => by
    obtain ⟨w1, w2⟩ := Bool.and_eq_true_iff.mp (show (a.wf && b.wf) = true from wf)
    obtain ⟨h1, h2⟩ := occ_atoms a B w1
    obtain ⟨h3, h4⟩ := occ_atoms b B w2
    refine ⟨?_, fun q hq => ?_⟩
    · show occA (a.atoms B ++ b.atoms B) = a.occs ++ b.occs
      rw [occA_app, h1, h3]
    · rcases List.mem_append.mp (show q ∈ a.atoms B ++ b.atoms B from hq) with z | z
      · exact h2 q z
      · exact h4 q z
theorem occA_take {l : List (PyData × List Str)} {i : Nat} {q : PyData × List Str} (h : l[i]? = some q) : occA (l.take (i + 1)) = occA (l.take i) ++ occA [q] := by
  rw [List.take_add_one, h, occA_app]
  rfl
theorem occA_drop {l : List (PyData × List Str)} {i : Nat} {q : PyData × List Str} (h : l[i]? = some q) : ∃ r, occA l = occA (l.take i) ++ (occA [q] ++ r) :=
  ⟨occA (l.drop (i + 1)), by rw [← List.append_assoc, ← occA_take h, ← occA_app, List.take_append_drop]⟩
theorem occsL_take {l : List Sn} {i : Nat} {s : Sn} (h : l[i]? = some s) : Sn.occsL (l.take (i + 1)) = Sn.occsL (l.take i) ++ s.occs := by
  rw [List.take_add_one, h, Sn.occsL_app]
  show Sn.occsL (l.take i) ++ (s.occs ++ []) = _
  rw [List.append_nil]
theorem occsL_drop {l : List Sn} {i : Nat} {s : Sn} (h : l[i]? = some s) : ∃ r, Sn.occsL l = Sn.occsL (l.take i) ++ (s.occs ++ r) :=
  ⟨Sn.occsL (l.drop (i + 1)), by rw [← List.append_assoc, ← occsL_take h, ← Sn.occsL_app, List.take_append_drop]⟩
end Ad

/-! Pairs of names with their arities, those of ranks last. -/
namespace Ad
open PySem PySem.Spec PySem.Calls PyProof.Rows L2
namespace Rn
def names (R : List Pr) : List Str := R.map (·.1)
def ar : List Pr → Str → Nat
  | [], _ => 0
  | p :: R, x => if p.1 = x then p.2 else ar R x
/-- the names that are not ranked, then the ranked ones -/
def rank (R : List Pr) (T : List Str) : List Str := ((names R).filter fun x => !decide (x ∈ T)) ++ T.filter fun x => decide (x ∈ names R)
def rows (R : List Pr) (T : List Str) : List Row := (rank R T).map fun x => (x, ar R x, 1)
/-- the law's own -/
def pick (R : List Pr) (x : Str) : List Pr := R.filter fun p => decide (p.1 = x)
def lrank (R : List Pr) (T : List Str) : List Pr := (R.filter fun p => !decide (p.1 ∈ T)) ++ T.flatMap (pick R)
def lrows (R : List Pr) (T : List Str) : List Row := (lrank R T).map fun p => (p.1, p.2, 1)
theorem ar_mem {p : Pr} : ∀ {R : List Pr}, (names R).Nodup → p ∈ R → ar R p.1 = p.2
  | q :: R, nd, h => by
    obtain ⟨n1, n2⟩ := List.nodup_cons.mp nd
    show (if q.1 = p.1 then q.2 else ar R p.1) = _
    rcases List.mem_cons.mp h with e | e
    · rw [e, if_pos rfl]
    · rw [if_neg (fun z => n1 (by show q.1 ∈ _; rw [z]; exact List.mem_map.mpr ⟨p, e, rfl⟩))]
      exact ar_mem n2 e
theorem filter_map_first (T : List Str) : ∀ (R R0 : List Pr), (∀ p ∈ R, ar R0 p.1 = p.2) → ((names R).filter fun x => !decide (x ∈ T)).map (fun x => ((x, ar R0 x, 1) : Row)) = (R.filter fun p => !decide (p.1 ∈ T)).map fun p => ((p.1, p.2, 1) : Row)
  | [], _, _ => rfl
  | p :: R, R0, h => by
    have ih := filter_map_first T R R0 (fun q hq => h q (List.mem_cons_of_mem _ hq))
    show ((p.1 :: names R).filter _).map _ = ((p :: R).filter _).map _
    by_cases e : p.1 ∈ T
    · have e1 : (!decide (p.1 ∈ T)) = false := by rw [decide_eq_true e]; rfl
      rw [List.filter_cons_of_neg (by rw [e1]; decide), List.filter_cons_of_neg (by rw [e1]; decide)]
      exact ih
    · have e1 : (!decide (p.1 ∈ T)) = true := by rw [decide_eq_false e]; rfl
      rw [List.filter_cons_of_pos (by rw [e1]), List.filter_cons_of_pos (by rw [e1]), List.map_cons, List.map_cons, ih, h p List.mem_cons_self]
theorem pick_none {x : Str} : ∀ {R : List Pr}, x ∉ names R → pick R x = []
  | [], _ => rfl
  | p :: R, h => by
    unfold pick
    rw [List.filter_cons_of_neg (by
      rw [decide_eq_false (fun z => h (by rw [← z]; exact List.mem_cons_self))]
      decide)]
    exact pick_none fun z => h (List.mem_cons_of_mem _ z)
theorem pick_one {x : Str} : ∀ {R : List Pr}, (names R).Nodup → x ∈ names R → pick R x = [(x, ar R x)]
  | p :: R, nd, h => by
    obtain ⟨n1, n2⟩ := List.nodup_cons.mp nd
    unfold pick ar
    by_cases e : p.1 = x
    · rw [List.filter_cons_of_pos (by rw [decide_eq_true e]), if_pos e]
      have := pick_none (R := R) (x := x) (by rw [← e]; exact n1)
      unfold pick at this
      rw [this, ← e]
    · rw [List.filter_cons_of_neg (by rw [decide_eq_false e]; decide), if_neg e]
      rcases List.mem_cons.mp h with z | z
      · exact absurd z.symm e
      · exact pick_one n2 z
theorem last_map (R : List Pr) (nd : (names R).Nodup) : ∀ T : List Str, (T.filter fun x => decide (x ∈ names R)).map (fun x => ((x, ar R x, 1) : Row)) = (T.flatMap (pick R)).map fun p => ((p.1, p.2, 1) : Row)
  | [] => rfl
  | x :: T => by
    rw [List.flatMap_cons, List.map_append, ← last_map R nd T]
    by_cases e : x ∈ names R
    · rw [List.filter_cons_of_pos (by rw [decide_eq_true e]), pick_one nd e]
      rfl
    · rw [List.filter_cons_of_neg (by rw [decide_eq_false e]; decide), pick_none e]
      rfl
theorem rows_eq {R : List Pr} (nd : (names R).Nodup) (T : List Str) : rows R T = lrows R T := by
  unfold rows lrows rank lrank
  rw [List.map_append, List.map_append, filter_map_first T R R (fun p hp => ar_mem nd hp), last_map R nd T]
theorem rank_mem {R : List Pr} {T : List Str} {x : Str} (h : x ∈ rank R T) : x ∈ names R := by
  rcases List.mem_append.mp h with h | h
  · exact (List.mem_filter.mp h).1
  · exact of_decide_eq_true (List.mem_filter.mp h).2
theorem rank_nodup {R : List Pr} {T : List Str} (nd : (names R).Nodup) (ndT : T.Nodup) : (rank R T).Nodup := by
  refine List.nodup_append.mpr ⟨nd.sublist List.filter_sublist, ndT.sublist List.filter_sublist, fun a ha b hb z => ?_⟩
  have h1 := (List.mem_filter.mp ha).2
  have h2 := (List.mem_filter.mp hb).1
  rw [z, decide_eq_true h2] at h1
  cases h1
theorem mem_rank {R : List Pr} {T : List Str} {x : Str} (h : x ∈ names R) : x ∈ rank R T := by
  by_cases e : x ∈ T
  · exact List.mem_append_right _ (List.mem_filter.mpr ⟨e, decide_eq_true h⟩)
  · exact List.mem_append_left _ (List.mem_filter.mpr ⟨h, by rw [decide_eq_false e]; rfl⟩)
theorem rank_len (R : List Pr) (T : List Str) : (rank R T).length ≤ R.length + T.length := by
  unfold rank
  rw [List.length_append]
  have h1 := List.length_filter_le (fun x => !decide (x ∈ T)) (names R)
  have h2 := List.length_filter_le (fun x => decide (x ∈ names R)) T
  have h3 : (names R).length = R.length := List.length_map _
  omega
/-- the dict of pairs -/
def dK (R : List Pr) : List (L2.Key × V) := R.map fun p => (.inr p.1, .int (p.2 : Int))
theorem dK_val {x : Str} : ∀ {R : List Pr}, x ∈ names R → valV (dK R) (.inr x) = some (.int (ar R x : Int))
  | p :: R, h => by
    show valV ((.inr p.1, .int (p.2 : Int)) :: dK R) _ = some (.int ((if p.1 = x then p.2 else ar R x : Nat) : Int))
    by_cases e : p.1 = x
    · rw [if_pos e]
      exact valV_pos (by rw [e])
    · rw [if_neg e, valV_neg (fun z => e (Sum.inr.inj z))]
      rcases List.mem_cons.mp h with z | z
      · exact absurd z.symm e
      · exact dK_val z
theorem dK_none {x : Str} : ∀ {R : List Pr}, x ∉ names R → valV (dK R) (.inr x) = none
  | [], _ => rfl
  | p :: R, h => by
    show valV ((.inr p.1, .int (p.2 : Int)) :: dK R) _ = none
    rw [valV_neg (fun z => h (by rw [← Sum.inr.inj z]; exact List.mem_cons_self))]
    exact dK_none fun z => h (List.mem_cons_of_mem _ z)
theorem dK_some (R : List Pr) (x : Str) : (valV (dK R) (.inr x)).isSome = decide (x ∈ names R) := by
  by_cases h : x ∈ names R
  · rw [dK_val h, decide_eq_true h]
    rfl
  · rw [dK_none h, decide_eq_false h]
    rfl
theorem dK_merge {R : List Pr} (nd : (names R).Nodup) : mergeK [] (dK R) = dK R := by
  have := merge_all (dK R) [] (by
    rw [List.nil_append]
    unfold dK
    rw [List.map_map]
    have e : ((fun kv : L2.Key × V => kv.1) ∘ fun p : Pr => ((.inr p.1, .int (p.2 : Int)) : L2.Key × V)) = (fun x : Str => (.inr x : L2.Key)) ∘ fun p : Pr => p.1 := rfl
    rw [e, ← List.map_map]
    exact List.Pairwise.map _ (fun a b h z => h (Sum.inr.inj z)) nd)
  rw [this, List.nil_append]
theorem dK_at {R : List Pr} {i : Nat} {k : L2.Key} {v : V} (h : (dK R)[i]? = some (k, v)) : ∃ x, k = .inr x ∧ (names R)[i]? = some x := by
  unfold dK at h
  rw [List.getElem?_map] at h
  obtain ⟨p, hp, e⟩ := Option.map_eq_some_iff.mp h
  cases e
  exact ⟨p.1, rfl, by unfold names; rw [List.getElem?_map, hp]; rfl⟩
end Rn
theorem pr_paired {K : PySem.W.Frag} {H : Hp} : ∀ {R : List Pr} {xs : List V}, F2 (PrV K H) R xs → ∃ ps : List Addr, xs = ps.map V.ref ∧ Paired (fun p kv => SqT K H p [kV kv.1, kv.2]) ps (Rn.dK R)
  | [], _, h => by
    cases (show _ = [] from h)
    exact ⟨[], rfl, .nil⟩
  | p :: R, _, h => by
    obtain ⟨v, vs, rfl, ⟨b, rfl, sq⟩, t⟩ := h
    obtain ⟨ps, rfl, pr⟩ := pr_paired t
    exact ⟨b :: ps, rfl, .cons sq pr⟩
theorem filter_take {α : Type} (f : α → Bool) {xs : List α} {i : Nat} {x : α} (h : xs[i]? = some x) : (xs.take (i + 1)).filter f = (xs.take i).filter f ++ if f x = true then [x] else [] := by
  rw [List.take_add_one, h, List.filter_append]
  by_cases e : f x = true
  · rw [if_pos e]
    show _ ++ [x].filter f = _
    rw [List.filter_cons_of_pos e]
    rfl
  · rw [if_neg e]
    show _ ++ [x].filter f = _
    rw [List.filter_cons_of_neg e]
    rfl
end Ad

/-! is_from, is_below of any data. -/
namespace Ad
open PySem PySem.Spec PySem.Calls PyProof.Rows L2
abbrev sFromD : Stmt := topS 8
theorem scFromD : FnScope ["value", "least"] ["value", "least"] (defScope sFromD) := ⟨rfl, rfl, rfl, by decide +kernel, rfl, by decide +kernel, by decide +kernel⟩
def fromD : PyData → Int → Bool
  | .int i, m => decide (m ≤ i)
  | _, _ => false
section
variable {P : Program} {w : World} {K : PySem.W.Frag} {mg : Str → Option Value} {base : Heap}
def spFromD (K : PySem.W.Frag) : Sp := fun vs H Q _ => ∃ (v : V) (m : Int) (d : PyData), vs = [v, .int m] ∧ Dp K H v d ∧ Q (.bl (fromD d m)) H
theorem ok_fromD {f : Addr} {fd : FuncData} {k : Nat} (F : Fun K "is_from" "is_from" sFromD f fd) (m_isinstance : mg "isinstance" = none) (m_int : mg "int" = none) (m_bool : mg "bool" = none) : FnOk P w K mg base CX0 (k + 1) f fd ["value", "least"] (spFromD K) := by
  refine F.ok scFromD (fun vs H Q E h => ?_) (fun cdv A outer s H vs Q E hr h => ?_)
  · obtain ⟨v, m, d, rfl, _⟩ := h
    rfl
  · obtain ⟨v, m, d, rfl, hd, q⟩ := h
    refine ⟨_, (pss_one (ps_ret (pe_and (pe_callB call_isi (by rfl) m_isinstance (by decide +kernel) (pa_cons (pv 0) (pa_cons (pe_bltn (v := .ty "int") (by rfl) m_int (by decide +kernel) rfl) pa_nil))) (pe_and (pe_not (pe_callB call_isi (by rfl) m_isinstance (by decide +kernel) (pa_cons (pv 0) (pa_cons (pe_bltn (v := .ty "bool") (by rfl) m_bool (by decide +kernel) rfl) pa_nil)))) (pe_one (pe_cmpR op_ge (pv 0) (pv 1) (nomark _))))))), ?_⟩
    refine ⟨v, rfl, v, .ty "int", tyD d, .type "int", isIn d, rfl, .ty "int", dp_ty hd, kit_in d, isIn d, rfl, ?_⟩
    have no : isIn d = false → fromD d m = false := fun e => by cases d <;> first | rfl | cases e
    have no2 : isBo d = true → fromD d m = false := fun e => by cases d <;> first | rfl | cases e
    refine ite2 (fun h1 => ?_) (fun h1 => ?_)
    · refine ⟨v, rfl, v, .ty "bool", tyD d, .type "bool", isBo d, rfl, .ty "bool", dp_ty hd, kit_bo d, isBo d, rfl, !isBo d, rfl, ?_⟩
      refine ite2 (fun h2 => ?_) (fun h2 => ?_)
      · cases hd with
        | int i => exact ⟨.int i, rfl, .int m, rfl, _, _, rfl, rfl, q⟩
        | bl b => cases h2
        | _ => cases h1
      · have e : isBo d = true := by
          cases z : isBo d with
          | true => rfl
          | false => exact absurd (by rw [z]; rfl) h2
        rw [no2 e] at q
        exact q
    · rw [no ((Bool.not_eq_true _).mp h1)] at q
      exact q
end
end Ad

/-! Rows of an order as data of any kind. -/
namespace Ad
open PySem PySem.Spec PySem.Calls PyProof.Rows L2
def itemsD : PyData → List PyData
  | .list ds => ds
  | .tuple ds => ds
  | _ => []
def tri3 : List PyData → Bool
  | [a, b, c] => isSt a && (fromD b 0 && fromD c 1)
  | _ => false
/-- whether it is a triple -/
def tripleB (d : PyData) : Bool := isTL d && tri3 (itemsD d)
def row3 : List PyData → Row
  | [.str x, .int m, .int w] => (x, m.toNat, w)
  | _ => ("", 0, 0)
def rowD (d : PyData) : Row := row3 (itemsD d)
/-- the triples of a row, names being taken -/
def triplesF : List Str → List PyData → Option (List Row)
  | _, [] => some []
  | T, d :: ds => if tripleB d = true ∧ (rowD d).1 ∉ T then (triplesF (T ++ [(rowD d).1]) ds).map (rowD d :: ·) else none
theorem dp_seq {K : PySem.W.Frag} {H : Hp} {v : V} {d : PyData} (h : Dp K H v d) (t : isTL d = true) : ∃ a xs, v = .ref a ∧ SqX K H a xs ∧ DpAll K H xs (itemsD d) := by
  cases h with
  | lst h a => exact ⟨_, _, rfl, .inl h, a⟩
  | tup h a => exact ⟨_, _, rfl, .inr h, a⟩
  | _ => cases t
theorem tri3_row {ds : List PyData} (h : tri3 ds = true) : ∃ (x : Str) (m : Nat) (w : Int), ds = [.str x, .int (m : Int), .int w] ∧ 1 ≤ w ∧ row3 ds = (x, m, w) := by
  match ds, h with
  | [a, b, c], h =>
    have h' : (isSt a && (fromD b 0 && fromD c 1)) = true := h
    rw [Bool.and_eq_true, Bool.and_eq_true] at h'
    obtain ⟨h1, h2, h3⟩ := h'
    cases a with
    | str x =>
      cases b with
      | int i =>
        cases c with
        | int w =>
          have i0 : 0 ≤ i := of_decide_eq_true h2
          have w1 : 1 ≤ w := of_decide_eq_true h3
          refine ⟨x, i.toNat, w, ?_, w1, rfl⟩
          have e : ((i.toNat : Nat) : Int) = i := by omega
          rw [e]
        | _ => cases h3
      | _ => cases h2
    | _ => cases h1
end Ad

namespace Ad
open PySem PySem.Spec PySem.Calls PyProof.Rows L2
abbrev sTripleD : Stmt := topS 12
theorem scTripleD : FnScope ["item"] ["item"] (defScope sTripleD) := ⟨rfl, rfl, rfl, by decide +kernel, rfl, by decide +kernel, by decide +kernel⟩
theorem ixA {K : PySem.W.Frag} {H : Hp} {b : Addr} {xs : List V} {i : Nat} {v : V} {Q : VK} (h : SqX K H b xs) (e : xs[i]? = some v) (q : Q v H) : rIx K (.ref b) (.int (i : Int)) H Q := by
  rcases h with h | h
  · exact .inl ⟨b, xs, (i : Int), v, rfl, rfl, h, atI_nat e, q⟩
  · exact .inr (.inl ⟨b, xs, (i : Int), v, rfl, rfl, h, atI_nat e, q⟩)
section
variable {P : Program} {w : World} {K : PySem.W.Frag} {mg : Str → Option Value} {base : Heap}
def spTripleD (K : PySem.W.Frag) : Sp := fun vs H Q _ => ∃ (v : V) (d : PyData), vs = [v] ∧ Dp K H v d ∧ ∀ H', Same H H' → Q (.bl (tripleB d)) H'
theorem ok_tripleD {f fF : Addr} {fd fdF : FuncData} {k : Nat} (F : Fun K "_is_triple" "_is_triple" sTripleD f fd) (hF : Has P w K mg base k "is_from" ["value", "least"] (spFromD K) fF fdF)
    (m_isinstance : mg "isinstance" = none) (m_list : mg "list" = none) (m_tuple : mg "tuple" = none) (m_len : mg "len" = none) (m_str : mg "str" = none) : FnOk P w K mg base CX0 (k + 1) f fd ["item"] (spTripleD K) := by
  refine F.ok scTripleD (fun vs H Q E h => ?_) (fun cdv A outer s H vs Q E hr h => ?_)
  · obtain ⟨v, d, rfl, _⟩ := h
    rfl
  · obtain ⟨v, d, rfl, hd, q⟩ := h
    refine ⟨_, (pss_cons (ps_if (PW.pt (pw_or (pt_not (pt_val (pe_callB call_isiT (by rfl) m_isinstance (by decide +kernel) (pa_cons (pv 0) (pa_cons (pe_tup (pa_cons (pe_bltn (v := .ty "list") (by rfl) m_list (by decide +kernel) rfl) (pa_cons (pe_bltn (v := .ty "tuple") (by rfl) m_tuple (by decide +kernel) rfl) pa_nil))) pa_nil))))) (pw_or1 (pt_cmpR op_ne (pe_callB call_len_seq (by rfl) m_len PySem.boot_len (pa_cons (pv 0) pa_nil)) pe_int (nomark _)))))
      (pss_one (ps_ret pe_bl)) pss_nil)
    (pss_one (ps_ret (pe_and (pe_callB call_isi (by rfl) m_isinstance (by decide +kernel) (pa_cons (pe_ix ix_seq (pv 0) pe_int (fun _ _ => rfl)) (pa_cons (pe_bltn (v := .ty "str") (by rfl) m_str (by decide +kernel) rfl) pa_nil))) (pe_and (pe_call hF.G hr (by rfl) hF.g hF.kp hF.b .nil pass0 (pa_cons (pe_ix ix_seq (pv 0) pe_int (fun _ _ => rfl)) (pa_cons pe_int pa_nil))) (pe_one (pe_call hF.G hr (by rfl) hF.g hF.kp hF.b .nil pass0 (pa_cons (pe_ix ix_seq (pv 0) pe_int (fun _ _ => rfl)) (pa_cons pe_int pa_nil))))))))), ?_⟩
    refine ⟨v, rfl, (by show 2 ≤ sizeLine; decide), fun tp np => ?_⟩
    have s1 : Same H (upd H tp (.tup [.ty "list", .ty "tuple"])) := same_new (fun b o e => e) np _
    have m1 : (upd H tp (.tup [.ty "list", .ty "tuple"])) tp = some (.tup [.ty "list", .ty "tuple"]) := upd_same
    replace hd := dp_same s1 hd
    generalize upd H tp (.tup [.ty "list", .ty "tuple"]) = H1 at s1 m1 hd
    have no : tripleB d = false → Q (.bl false) H1 := fun e => by
      have z := q H1 s1
      rw [e] at z
      exact z
    refine ⟨v, tp, _, tyD d, [.type "list", .type "tuple"], isTL d, rfl, m1, .cons (.ty "list") (.cons (.ty "tuple") .nil), dp_ty hd, kit_tl d, isTL d, rfl, ?_⟩
    cases ht : isTL d with
    | false => exact iteT (iteT (no (by unfold tripleB; rw [ht]; rfl)))
    | true =>
    refine iteF ?_
    obtain ⟨a, xs, rfl, hx, ha⟩ := dp_seq hd ht
    have lx := dpAll_len ha
    refine ⟨.ref a, rfl, a, _, rfl, hx, rfl, _, rfl, ?_⟩
    by_cases l3 : (itemsD d).length = 3
    · match e3 : itemsD d, l3 with
      | [d1, d2, d3], _ =>
      have tb : tripleB d = (isSt d1 && (fromD d2 0 && fromD d3 1)) := by
        unfold tripleB
        rw [ht, e3]
        rfl
      rw [e3] at ha
      cases ha with
      | @cons w1 _ _ _ hw1 ha =>
      cases ha with
      | @cons w2 _ _ _ hw2 ha =>
      cases ha with
      | @cons w3 _ _ _ hw3 ha =>
      cases ha
      refine iteF ?_
      refine ⟨.ref a, rfl, ixA (i := 0) hx rfl ?_⟩
      refine ⟨w1, .ty "str", tyD d1, .type "str", isSt d1, rfl, .ty "str", dp_ty hw1, kit_st d1, isSt d1, rfl, ?_⟩
      refine ite2 (fun h1 => ?_) (fun h1 => no (by rw [tb, (Bool.not_eq_true _).mp h1]; rfl))
      refine ⟨.ref a, rfl, ixA (i := 1) hx rfl ?_⟩
      refine ⟨w2, 0, d2, rfl, hw2, fromD d2 0, rfl, ?_⟩
      refine ite2 (fun h2 => ?_) (fun h2 => no (by rw [tb, (Bool.not_eq_true _).mp h2, Bool.false_and, Bool.and_false]))
      refine ⟨.ref a, rfl, ixA (i := 2) hx rfl ?_⟩
      refine ⟨w3, 1, d3, rfl, hw3, ?_⟩
      have e : fromD d3 1 = tripleB d := by rw [tb, h1, h2]; rfl
      rw [e]
      exact q H1 s1
    · have tb : tripleB d = false := by
        unfold tripleB
        have z : tri3 (itemsD d) = false := by
          cases h : tri3 (itemsD d) with
          | false => rfl
          | true =>
            obtain ⟨x, m, w, e, _⟩ := tri3_row h
            rw [e] at l3
            exact absurd rfl l3
        rw [z, Bool.and_false]
      have ne : (!decide (V.int (xs.length : Int) = V.int 3)) = true := by
        rw [decide_eq_false (fun z => l3 (by have := V.int.inj z; omega))]
        rfl
      rw [ne]
      exact iteT (no tb)
end
end Ad

namespace Ad
open PySem PySem.Spec PySem.Calls PyProof.Rows L2
abbrev sTriplesD : Stmt := topS 11
theorem scTriplesD : FnScope ["row", "taken", "names", "triples", "item"] ["row", "taken"] (defScope sTriplesD) := ⟨rfl, rfl, rfl, by decide +kernel, rfl, by decide +kernel, by decide +kernel⟩
theorem inV_str (n : Str) (L : List Str) : inV (.str n) (L.map V.str) = decide (n ∈ L) := by
  by_cases h : n ∈ L
  · rw [decide_eq_true h]
    unfold inV
    rw [List.any_eq_true]
    exact ⟨.str n, List.mem_map.mpr ⟨n, h, rfl⟩, by show (n == n) = true; simp⟩
  · rw [decide_eq_false h]
    unfold inV
    rw [List.any_eq_false]
    intro y hy
    obtain ⟨m, hm, rfl⟩ := List.mem_map.mp hy
    show ¬ (m == n) = true
    intro z
    exact h (by rw [← (beq_iff_eq.mp z)]; exact hm)
theorem strs_flat (L : List Str) : (L.map V.str).all flatV = true := by
  rw [List.all_eq_true]
  intro y hy
  obtain ⟨m, hm, rfl⟩ := List.mem_map.mp hy
  rfl
section
variable {P : Program} {w : World} {K : PySem.W.Frag} {mg : Str → Option Value} {base : Heap}
def spTriplesD (K : PySem.W.Frag) : Sp := fun vs H Q _ => ∃ (v : V) (tk : Addr) (T : List Str), vs = [v, .ref tk] ∧ H tk = some (.lst (T.map V.str)) ∧ T.length ≤ 100 ∧
  ((∃ ty, TyX K H v ty ∧ PySem.W.kitAny K ty [.type "list", .type "tuple"] = some false ∧ ∀ H', Same H H' → Q .non H') ∨
   ∃ (ra : Addr) (xs : List V) (ds : List PyData), v = .ref ra ∧ SqX K H ra xs ∧ DpAll K H xs ds ∧ ds.length ≤ 100 ∧ (triplesF T ds = none → ∀ H', Same H H' → Q .non H') ∧
     ∀ R, triplesF T ds = some R → ∀ H' p ys, Same H H' → H p = none → SqT K H' p ys → F2 (RowV K H') R ys → Q (.ref p) H')
theorem ok_triplesD {f fF : Addr} {fd fdF : FuncData} {k : Nat} (F : Fun K "_triples_of" "_triples_of" sTriplesD f fd) (hF : Has P w K mg base k "_is_triple" ["item"] (spTripleD K) fF fdF)
    (m_isinstance : mg "isinstance" = none) (m_list : mg "list" = none) (m_tuple : mg "tuple" = none) : FnOk P w K mg base CX0 (k + 1) f fd ["row", "taken"] (spTriplesD K) := by
  refine F.ok scTriplesD (fun vs H Q E h => ?_) (fun cdv A outer s H vs Q E hr h => ?_)
  · obtain ⟨v, tk, T, rfl, _⟩ := h
    rfl
  · obtain ⟨v, tk, T, rfl, htk, few, h⟩ := h
    refine ⟨_, (pss_cons (ps_if (pt_not (pt_val (pe_callB call_isiT (by rfl) m_isinstance (by decide +kernel) (pa_cons (pv 0) (pa_cons (pe_tup (pa_cons (pe_bltn (v := .ty "list") (by rfl) m_list (by decide +kernel) rfl) (pa_cons (pe_bltn (v := .ty "tuple") (by rfl) m_tuple (by decide +kernel) rfl) pa_nil))) pa_nil)))))
      (pss_one (ps_ret pe_non)) pss_nil)
    (pss_cons (ps_set (i := 2) scTriplesD.nd rfl (.inl rfl) (pe_callTy call_list_of (by rfl) m_list (by decide +kernel) (pa_cons (pv 1) pa_nil)))
    (pss_cons (ps_set (i := 3) scTriplesD.nd rfl (.inl rfl) (pe_lst pa_nil))
    (pss_cons (ps_for PassesOwn.never rfl (Et.pi_any (pv 0)) (pg_name (i := 4) scTriplesD.nd rfl (.inl rfl))
      (pss_cons (ps_if (PW.pt (pw_or (pt_not (pt_val (pe_call hF.G hr (by rfl) hF.g hF.kp hF.b .nil pass0 (pa_cons (pv 4) pa_nil)))) (pw_or1 (pt_cmpR op_in_seq (pe_ix ix_seq (pv 4) pe_int (fun _ _ => rfl)) (pv 2) (by with_unfolding_all rfl)))))
        (pss_one (ps_ret pe_non)) pss_nil)
      (pss_cons (ps_expr (pe_bm PySem.F.plainAttrs_list PySem.F.slot_list_append PySem.F.type_list_append mt_append (pv 2) (pa_cons (pe_ix ix_seq (pv 4) pe_int (fun _ _ => rfl)) pa_nil)))
      (pss_one (ps_expr (pe_bm PySem.F.plainAttrs_list PySem.F.slot_list_append PySem.F.type_list_append mt_append (pv 3) (pa_cons (pe_callTy call_tuple_of (by rfl) m_tuple (by decide +kernel) (pa_cons (pv 4) pa_nil)) pa_nil)))))))
    (pss_one (ps_ret (pe_callTy call_tuple_of (by rfl) m_tuple (by decide +kernel) (pa_cons (pv 3) pa_nil)))))))), ?_⟩
    refine ⟨v, rfl, (by show 2 ≤ sizeLine; decide), fun tp np => ?_⟩
    have s1 : Same H (upd H tp (.tup [.ty "list", .ty "tuple"])) := same_new (fun b o e => e) np _
    have m1 : (upd H tp (.tup [.ty "list", .ty "tuple"])) tp = some (.tup [.ty "list", .ty "tuple"]) := upd_same
    rcases h with ⟨ty, h1, h2, q⟩ | ⟨ra, xs, ds, rfl, hx, ha, many, qn, qs⟩
    · have s1' := s1
      refine ⟨v, tp, _, ty, [.type "list", .type "tuple"], false, rfl, m1, .cons (.ty "list") (.cons (.ty "tuple") .nil), ?_, h2, false, rfl, iteT (q _ s1')⟩
      cases h1 with
      | base b =>
        refine .base ?_
        cases b with
        | non => exact .non
        | bl x => exact .bl x
        | int i => exact .int i
        | str x => exact .str x
        | flt x => exact .flt x
        | lst e => exact .lst (s1 _ _ e)
        | frz e => exact .frz (s1 _ _ e)
        | tup e => exact .tup (s1 _ _ e)
        | dK e => exact .dK (s1 _ _ e)
        | dT e => exact .dT (s1 _ _ e)
        | ins e cl ha hn htk2 hm => exact .ins (s1 _ _ e) cl ha hn htk2 hm
      | byt b => exact .byt b
      | set e => exact .set (s1 _ _ e)
      | kList e c => exact .kList e c
      | kTuple e c => exact .kTuple e c
      | kDict e c => exact .kDict e c
      | fTuple e => exact .fTuple (s1 _ _ e)
      | fDict e => exact .fDict (s1 _ _ e)
    generalize upd H tp (.tup [.ty "list", .ty "tuple"]) = H1 at s1 m1
    obtain ⟨t, ty, kit⟩ := sqx_ty (hx.same s1)
    refine ⟨.ref ra, tp, _, t, [.type "list", .type "tuple"], true, rfl, m1, .cons (.ty "list") (.cons (.ty "tuple") .nil), ty, kit, true, rfl, ?_⟩
    refine iteF ?_
    have lx := dpAll_len ha
    refine ⟨.ref tk, rfl, tk, _, rfl, .inl (.inl (.inl (s1 _ _ htk))), fun dN nN => ?_⟩
    have nNH : H dN = none := by
      cases z : H dN with
      | none => rfl
      | some o =>
        rw [s1 _ _ z] at nN
        cases nN
    have s2 : Same H (upd H1 dN (.lst (T.map V.str))) := same_on s1 nNH _
    have m2 : (upd H1 dN (.lst (T.map V.str))) dN = some (.lst (T.map V.str)) := upd_same
    generalize upd H1 dN (.lst (T.map V.str)) = H2 at s2 m2
    refine ⟨Nat.zero_le _, fun dT nT => ?_⟩
    have nTH : H dT = none := by
      cases z : H dT with
      | none => rfl
      | some o =>
        rw [s2 _ _ z] at nT
        cases nT
    have dne : dN ≠ dT := fun e => by
      rw [← e, m2] at nT
      cases nT
    have s3 : Same H (upd H2 dT (.lst [])) := same_on s2 nTH _
    have m3 : (upd H2 dT (.lst [])) dT = some (.lst []) := upd_same
    have m2' : (upd H2 dT (.lst [])) dN = some (.lst (T.map V.str)) := by rw [upd_ne dne]; exact m2
    generalize upd H2 dT (.lst []) = H3 at s3 m3 m2'
    let Pv : Nat → L2.St → Hp → Prop := fun i σ G => ∃ (v4 : Option V) (ts : List V) (T' : List Str) (R : List Row), σ = [some (.ref ra), some (.ref tk), some (.ref dN), some (.ref dT), v4] ∧ Same H G ∧ G dN = some (.lst (T'.map V.str)) ∧ G dT = some (.lst ts) ∧ F2 (RowV K G) R ts ∧ T'.length = T.length + i ∧ R.length = i ∧
      triplesF T ds = (triplesF T' (ds.drop i)).map (R ++ ·)
    have p0 : Pv 0 [some (.ref ra), some (.ref tk), some (.ref dN), some (.ref dT), none] H3 := ⟨none, [], T, [], rfl, s3, m2', m3, rfl, rfl, rfl, by
      show triplesF T ds = (triplesF T ds).map ([] ++ ·)
      cases triplesF T ds <;> rfl⟩
    have last : ∀ σ G, Pv xs.length σ G → ∃ (ts : List V) (R : List Row), σ[3]? = some (some (.ref dT)) ∧ G dT = some (.lst ts) ∧ Same H G ∧ F2 (RowV K G) R ts ∧ triplesF T ds = some R := by
      rintro σ G ⟨v4, ts, T', R, rfl, sm, gN, gT, fts, lT, lR, eq⟩
      rw [lx, List.drop_length] at eq
      have e : triplesF T ds = some R := by
        rw [eq]
        show some (R ++ []) = some R
        rw [List.append_nil]
      exact ⟨ts, R, rfl, gT, sm, fts, e⟩
    have step : ∀ i x σ G, xs[i]? = some x → Pv i σ G → ∃ (v4 : Option V) (ts : List V) (T' : List Str) (R : List Row) (d : PyData), σ = [some (.ref ra), some (.ref tk), some (.ref dN), some (.ref dT), v4] ∧ Same H G ∧ G dN = some (.lst (T'.map V.str)) ∧ G dT = some (.lst ts) ∧ F2 (RowV K G) R ts ∧ T'.length = T.length + i ∧ R.length = i ∧ i < ds.length ∧ Dp K G x d ∧ Dp K H x d ∧
        (tripleB d = false → triplesF T ds = none) ∧ (tripleB d = true → (rowD d).1 ∈ T' → triplesF T ds = none) ∧ (tripleB d = true → (rowD d).1 ∉ T' → triplesF T ds = (triplesF (T' ++ [(rowD d).1]) (ds.drop (i + 1))).map ((R ++ [rowD d]) ++ ·)) := by
      rintro i x σ G hi ⟨v4, ts, T', R, rfl, sm, gN, gT, fts, lT, lR, eq⟩
      obtain ⟨d, hd, hv⟩ := dpAll_get ha hi
      have ilt := (List.getElem?_eq_some_iff.mp hd).1
      have dr : ds.drop i = d :: ds.drop (i + 1) := by
        rw [List.drop_eq_getElem_cons ilt]
        congr 1
        rw [List.getElem?_eq_getElem ilt] at hd
        exact Option.some.inj hd
      rw [dr] at eq
      have un : triplesF T' (d :: ds.drop (i + 1)) = if tripleB d = true ∧ (rowD d).1 ∉ T' then (triplesF (T' ++ [(rowD d).1]) (ds.drop (i + 1))).map (rowD d :: ·) else none := rfl
      refine ⟨v4, ts, T', R, d, rfl, sm, gN, gT, fts, lT, lR, ilt, dp_same sm hv, hv, fun h => ?_, fun h m => ?_, fun h m => ?_⟩
      · rw [eq, un, if_neg (fun z => by rw [h] at z; exact Bool.noConfusion z.1)]
        rfl
      · rw [eq, un, if_neg (fun z => z.2 m)]
        rfl
      · rw [eq, un, if_pos ⟨h, m⟩]
        cases triplesF (T' ++ [(rowD d).1]) (ds.drop (i + 1)) with
        | none => rfl
        | some z =>
          show some (R ++ rowD d :: z) = some ((R ++ [rowD d]) ++ z)
          rw [List.append_assoc]
          rfl
    refine ⟨.ref ra, rfl, ra, rfl, ?_⟩
    rcases hx with hx | hx
    · refine .inl ⟨xs, s3.seq hx, for_list (K := K) (a := ra) (xs := xs) Pv p0 (fun i σ G _ ⟨_, _, _, _, _, sm, _⟩ => sm.seq hx) ?_ ?_⟩
      · intro i x σ G hi pv
        obtain ⟨v4, ts, T', R, d, rfl, sm, gN, gT, fts, lT, lR, ilt, hv, hv0, c1, c2, c3⟩ := step i x σ G hi pv
        refine ⟨x, rfl, x, d, rfl, hv, fun G1 sm1 => ?_⟩
        refine ⟨tripleB d, rfl, ?_⟩
        cases ht : tripleB d with
        | false => exact iteT (iteT (qn (c1 ht) G1 fun b o e => sm1 _ _ (sm _ _ e)))
        | true =>
        refine iteF ?_
        have ht' := ht
        unfold tripleB at ht'
        rw [Bool.and_eq_true] at ht'
        obtain ⟨a, zs, rfl, hz, hza⟩ := dp_seq (dp_same sm1 hv) ht'.1
        obtain ⟨nm, ar, wt, e3, w1, er⟩ := tri3_row ht'.2
        have er' : rowD d = (nm, ar, wt) := er
        rw [e3] at hza
        have ez : zs = [.str nm, .int (ar : Int), .int wt] := by
          cases hza with
          | cons h1 hza =>
          cases hza with
          | cons h2 hza =>
          cases hza with
          | cons h3 hza =>
          cases hza
          cases h1
          cases h2
          cases h3
          rfl
        subst ez
        replace gN := sm1 _ _ gN
        replace gT := sm1 _ _ gT
        replace fts := fts.mono (RowV.mono (TK.same sm1))
        have sm01 : Same H G1 := fun b o e => sm1 _ _ (sm _ _ e)
        have lts := fts.len
        refine ⟨.ref a, rfl, ixA (i := 0) hz rfl ?_⟩
        refine ⟨.ref dN, rfl, dN, _, rfl, .inl (.inl (.inl gN)), rfl, strs_flat _, decide (nm ∈ T'), congrArg V.bl (inV_str nm T'), ?_⟩
        by_cases hm : nm ∈ T'
        · rw [decide_eq_true hm]
          exact iteT (qn (c2 ht (by rw [er']; exact hm)) G1 sm01)
        rw [decide_eq_false hm]
        refine iteF ?_
        have eqn := c3 ht (by rw [er']; exact hm)
        rw [er'] at eqn
        refine ⟨.ref dN, rfl, .inl ⟨rfl, _, .inl (.inl gN)⟩, .ref a, rfl, ixA (i := 0) hz rfl ?_⟩
        refine ⟨dN, _, .str nm, rfl, rfl, gN, by rw [List.length_map, sizeLine_eq]; omega, ?_⟩
        have nx : Same H (upd G1 dN (.lst (T'.map V.str ++ [.str nm]))) := same_on sm01 nNH _
        have kx : TK G1 (upd G1 dN (.lst (T'.map V.str ++ [.str nm]))) := TK.lst gN _
        have gN2 : (upd G1 dN (.lst (T'.map V.str ++ [.str nm]))) dN = some (.lst ((T' ++ [nm]).map V.str)) := by rw [upd_same, List.map_append]; rfl
        have gT2 : (upd G1 dN (.lst (T'.map V.str ++ [.str nm]))) dT = some (.lst ts) := by rw [upd_ne dne.symm]; exact gT
        have fts2 := fts.mono (RowV.mono kx)
        obtain ⟨a2, zs2, ea, hz2, hza2⟩ := dp_seq (dp_same nx hv0) ht'.1
        cases ea
        rw [e3] at hza2
        have ez2 : zs2 = [.str nm, .int (ar : Int), .int wt] := by
          cases hza2 with
          | cons h1 hza2 =>
          cases hza2 with
          | cons h2 hza2 =>
          cases hza2 with
          | cons h3 hza2 =>
          cases hza2
          cases h1
          cases h2
          cases h3
          rfl
        subst ez2
        generalize upd G1 dN (.lst (T'.map V.str ++ [.str nm])) = G2 at nx kx gN2 gT2 fts2 hz2
        have fin : ∀ (c : Addr) (G3 : Hp), Same G2 G3 → SqT K G3 c [.str nm, .int (ar : Int), .int wt] → ∃ l xs y, V.ref dT = .ref l ∧ [V.ref c] = [y] ∧ G3 l = some (.lst xs) ∧ xs.length < sizeLine ∧ Pv (i + 1) [some (.ref ra), some (.ref tk), some (.ref dN), some (.ref dT), some (.ref a)] (upd G3 l (.lst (xs ++ [y]))) := by
          intro c G3 sm3 hc
          have k3 : TK G3 (upd G3 dT (.lst (ts ++ [.ref c]))) := TK.lst (sm3 _ _ gT2) _
          refine ⟨dT, ts, .ref c, rfl, rfl, sm3 _ _ gT2, by rw [sizeLine_eq]; omega, some (.ref a), ts ++ [.ref c], T' ++ [nm], R ++ [(nm, ar, wt)], rfl, same_on (H := H) (H' := G3) (fun b o e => sm3 _ _ (nx _ _ e)) nTH _, by rw [upd_ne dne]; exact sm3 _ _ gN2, upd_same, F2.app (fts2.mono (RowV.mono ((TK.same sm3).trans k3))) (F2.one ⟨c, rfl, k3.sq hc⟩), by rw [List.length_append, List.length_singleton, lT]; omega, by rw [List.length_append, List.length_singleton, lR], eqn⟩
        refine ⟨.ref dT, rfl, .inl ⟨rfl, _, .inl (.inl gT2)⟩, .ref a, rfl, a, [.str nm, .int (ar : Int), .int wt], rfl, ?_⟩
        rcases hz2 with hz2 | hz2
        · exact .inl ⟨hz2, fun c nc => fin c _ (same_new (fun b o e => e) nc _) (.inl (.inl upd_same))⟩
        · exact .inr ⟨hz2, fin a G2 (fun b o e => e) hz2⟩
      · intro σ G pv
        obtain ⟨ts, R, e3, gT, sm, fts, e⟩ := last σ G pv
        refine ⟨.ref dT, e3, dT, ts, rfl, .inl ⟨.inl (.inl gT), fun p np => ?_⟩⟩
        have npH : H p = none := by
          cases z : H p with
          | none => rfl
          | some o =>
            rw [sm _ _ z] at np
            cases np
        have s4 : Same H (upd G p (.tup ts)) := same_new sm np _
        exact qs R e _ p ts s4 npH (.inl (.inl upd_same)) (fts.mono (RowV.mono (TK.new np _)))
    · refine .inr ⟨xs, (TK.same s3).sq hx, for_tup (K := K) (a := ra) (xs := xs) Pv p0 (fun i σ G _ ⟨_, _, _, _, _, sm, _⟩ => (TK.same sm).sq hx) ?_ ?_⟩
      · intro i x σ G hi pv
        obtain ⟨v4, ts, T', R, d, rfl, sm, gN, gT, fts, lT, lR, ilt, hv, hv0, c1, c2, c3⟩ := step i x σ G hi pv
        refine ⟨x, rfl, x, d, rfl, hv, fun G1 sm1 => ?_⟩
        refine ⟨tripleB d, rfl, ?_⟩
        cases ht : tripleB d with
        | false => exact iteT (iteT (qn (c1 ht) G1 fun b o e => sm1 _ _ (sm _ _ e)))
        | true =>
        refine iteF ?_
        have ht' := ht
        unfold tripleB at ht'
        rw [Bool.and_eq_true] at ht'
        obtain ⟨a, zs, rfl, hz, hza⟩ := dp_seq (dp_same sm1 hv) ht'.1
        obtain ⟨nm, ar, wt, e3, w1, er⟩ := tri3_row ht'.2
        have er' : rowD d = (nm, ar, wt) := er
        rw [e3] at hza
        have ez : zs = [.str nm, .int (ar : Int), .int wt] := by
          cases hza with
          | cons h1 hza =>
          cases hza with
          | cons h2 hza =>
          cases hza with
          | cons h3 hza =>
          cases hza
          cases h1
          cases h2
          cases h3
          rfl
        subst ez
        replace gN := sm1 _ _ gN
        replace gT := sm1 _ _ gT
        replace fts := fts.mono (RowV.mono (TK.same sm1))
        have sm01 : Same H G1 := fun b o e => sm1 _ _ (sm _ _ e)
        have lts := fts.len
        refine ⟨.ref a, rfl, ixA (i := 0) hz rfl ?_⟩
        refine ⟨.ref dN, rfl, dN, _, rfl, .inl (.inl (.inl gN)), rfl, strs_flat _, decide (nm ∈ T'), congrArg V.bl (inV_str nm T'), ?_⟩
        by_cases hm : nm ∈ T'
        · rw [decide_eq_true hm]
          exact iteT (qn (c2 ht (by rw [er']; exact hm)) G1 sm01)
        rw [decide_eq_false hm]
        refine iteF ?_
        have eqn := c3 ht (by rw [er']; exact hm)
        rw [er'] at eqn
        refine ⟨.ref dN, rfl, .inl ⟨rfl, _, .inl (.inl gN)⟩, .ref a, rfl, ixA (i := 0) hz rfl ?_⟩
        refine ⟨dN, _, .str nm, rfl, rfl, gN, by rw [List.length_map, sizeLine_eq]; omega, ?_⟩
        have nx : Same H (upd G1 dN (.lst (T'.map V.str ++ [.str nm]))) := same_on sm01 nNH _
        have kx : TK G1 (upd G1 dN (.lst (T'.map V.str ++ [.str nm]))) := TK.lst gN _
        have gN2 : (upd G1 dN (.lst (T'.map V.str ++ [.str nm]))) dN = some (.lst ((T' ++ [nm]).map V.str)) := by rw [upd_same, List.map_append]; rfl
        have gT2 : (upd G1 dN (.lst (T'.map V.str ++ [.str nm]))) dT = some (.lst ts) := by rw [upd_ne dne.symm]; exact gT
        have fts2 := fts.mono (RowV.mono kx)
        obtain ⟨a2, zs2, ea, hz2, hza2⟩ := dp_seq (dp_same nx hv0) ht'.1
        cases ea
        rw [e3] at hza2
        have ez2 : zs2 = [.str nm, .int (ar : Int), .int wt] := by
          cases hza2 with
          | cons h1 hza2 =>
          cases hza2 with
          | cons h2 hza2 =>
          cases hza2 with
          | cons h3 hza2 =>
          cases hza2
          cases h1
          cases h2
          cases h3
          rfl
        subst ez2
        generalize upd G1 dN (.lst (T'.map V.str ++ [.str nm])) = G2 at nx kx gN2 gT2 fts2 hz2
        have fin : ∀ (c : Addr) (G3 : Hp), Same G2 G3 → SqT K G3 c [.str nm, .int (ar : Int), .int wt] → ∃ l xs y, V.ref dT = .ref l ∧ [V.ref c] = [y] ∧ G3 l = some (.lst xs) ∧ xs.length < sizeLine ∧ Pv (i + 1) [some (.ref ra), some (.ref tk), some (.ref dN), some (.ref dT), some (.ref a)] (upd G3 l (.lst (xs ++ [y]))) := by
          intro c G3 sm3 hc
          have k3 : TK G3 (upd G3 dT (.lst (ts ++ [.ref c]))) := TK.lst (sm3 _ _ gT2) _
          refine ⟨dT, ts, .ref c, rfl, rfl, sm3 _ _ gT2, by rw [sizeLine_eq]; omega, some (.ref a), ts ++ [.ref c], T' ++ [nm], R ++ [(nm, ar, wt)], rfl, same_on (H := H) (H' := G3) (fun b o e => sm3 _ _ (nx _ _ e)) nTH _, by rw [upd_ne dne]; exact sm3 _ _ gN2, upd_same, F2.app (fts2.mono (RowV.mono ((TK.same sm3).trans k3))) (F2.one ⟨c, rfl, k3.sq hc⟩), by rw [List.length_append, List.length_singleton, lT]; omega, by rw [List.length_append, List.length_singleton, lR], eqn⟩
        refine ⟨.ref dT, rfl, .inl ⟨rfl, _, .inl (.inl gT2)⟩, .ref a, rfl, a, [.str nm, .int (ar : Int), .int wt], rfl, ?_⟩
        rcases hz2 with hz2 | hz2
        · exact .inl ⟨hz2, fun c nc => fin c _ (same_new (fun b o e => e) nc _) (.inl (.inl upd_same))⟩
        · exact .inr ⟨hz2, fin a G2 (fun b o e => e) hz2⟩
      · intro σ G pv
        obtain ⟨ts, R, e3, gT, sm, fts, e⟩ := last σ G pv
        refine ⟨.ref dT, e3, dT, ts, rfl, .inl ⟨.inl (.inl gT), fun p np => ?_⟩⟩
        have npH : H p = none := by
          cases z : H p with
          | none => rfl
          | some o =>
            rw [sm _ _ z] at np
            cases np
        have s4 : Same H (upd G p (.tup ts)) := same_new sm np _
        exact qs R e _ p ts s4 npH (.inl (.inl upd_same)) (fts.mono (RowV.mono (TK.new np _)))
end
end Ad

/-! A name that is not there: bars are put behind it. -/
namespace Ad
open PySem PySem.Spec PySem.Calls PyProof.Rows L2
def bars (x : Str) : Nat → Str
  | 0 => x
  | n + 1 => bars x n ++ "_"
abbrev sNewName : Stmt := topS 20
theorem scNewName : FnScope ["name", "names"] ["name", "names"] (defScope sNewName) := ⟨rfl, rfl, rfl, by decide +kernel, rfl, by decide +kernel, by decide +kernel⟩
section
variable {P : Program} {w : World} {K : PySem.W.Frag} {mg : Str → Option Value} {base : Heap}
def spNewName (K : PySem.W.Frag) : Sp := fun vs H Q _ => ∃ (x : Str) (l : Addr) (T : List Str) (m : Nat), vs = [.str x, .ref l] ∧ SqL K H l (T.map V.str) ∧ (∀ j, j < m → bars x j ∈ T ∧ (bars x j).length + 1 ≤ sizeLine) ∧ bars x m ∉ T ∧ Q (.str (bars x m)) H
theorem ok_newname {f : Addr} {fd : FuncData} {k : Nat} (F : Fun K "_new_name" "_new_name" sNewName f fd) : FnOk P w K mg base CX0 (k + 1) f fd ["name", "names"] (spNewName K) := by
  refine F.ok scNewName (fun vs H Q E h => ?_) (fun cdv A outer s H vs Q E hr h => ?_)
  · obtain ⟨x, l, T, m, rfl, _⟩ := h
    rfl
  · obtain ⟨x, l, T, m, rfl, hl, hin, hout, q⟩ := h
    refine ⟨_, (pss_cons (ps_while PassesOwn.never (pt_cmpR op_in_seq (pv 0) (pv 1) (by with_unfolding_all rfl)) (pss_one (ps_set (i := 0) scNewName.nd rfl (.inl rfl) (pe_op op_add_str (pv 0) pe_str))))
      (pss_one (ps_ret (pv 0)))), ?_⟩
    refine while_g (fun n σ G => ∃ j, n = m - j ∧ j ≤ m ∧ G = H ∧ σ = [some (.str (bars x j)), some (.ref l)]) ⟨m, 0, rfl, Nat.zero_le _, rfl, rfl⟩ ?_ ?_
    · rintro n σ G ⟨j, rfl, hj, rfl, rfl⟩
      refine ⟨_, rfl, _, rfl, l, _, rfl, .inl hl, rfl, strs_flat _, decide (bars x j ∈ T), congrArg V.bl (inV_str (bars x j) T), ?_⟩
      by_cases e : j = m
      · subst e
        rw [decide_eq_false hout]
        exact iteF ⟨_, rfl, q⟩
      · have lt : j < m := by omega
        obtain ⟨h1, h2⟩ := hin j lt
        rw [decide_eq_true h1]
        refine iteT ?_
        exact ⟨_, rfl, _, _, rfl, rfl, h2, m - (j + 1), by omega, j + 1, rfl, lt, rfl, rfl⟩
    · rintro σ H Q Q' imp ⟨v, e1, y, e2, p, xs, e3, h1, h2, h3, b, e4, h5⟩
      exact ⟨v, e1, y, e2, p, xs, e3, h1, h2, h3, b, e4, imp _ _ h5⟩
end
end Ad

/-! Ranks: which are taken; the rows of an order of names. -/
namespace Ad
open PySem PySem.Spec PySem.Calls PyProof.Rows L2
namespace Rk
def scan (N : List Str) : List Str → List PyData → Sum PyData (List Str)
  | T, [] => .inr T
  | T, d :: ds => match d with
    | .str x => if x ∈ N ∧ x ∉ T then scan N (T ++ [x]) ds else .inl (.str x)
    | e => .inl e
theorem scan_str {N T : List Str} {x : Str} {ds : List PyData} : scan N T (.str x :: ds) = if x ∈ N ∧ x ∉ T then scan N (T ++ [x]) ds else .inl (.str x) := rfl
theorem scan_odd {N T : List Str} {d : PyData} {ds : List PyData} (h : isSt d = false) : scan N T (d :: ds) = .inl d := by
  cases d with
  | str x => cases h
  | _ => rfl
theorem scan_ok {N : List Str} : ∀ {ds : List PyData} {T T' : List Str}, scan N T ds = .inr T' → T.Nodup → (∀ x ∈ T, x ∈ N) → T'.Nodup ∧ (∀ x ∈ T', x ∈ N) ∧ T'.length = T.length + ds.length
  | [], T, T', h, nd, sub => by
    cases h
    exact ⟨nd, sub, rfl⟩
  | d :: ds, T, T', h, nd, sub => by
    cases hs : isSt d with
    | false => rw [scan_odd hs] at h; cases h
    | true =>
      cases d with
      | str x =>
        rw [scan_str] at h
        by_cases c : x ∈ N ∧ x ∉ T
        · rw [if_pos c] at h
          obtain ⟨h1, h2, h3⟩ := scan_ok h (List.nodup_append.mpr ⟨nd, by simp, fun a ha b hb z => by
            cases List.mem_singleton.mp hb
            rw [z] at ha
            exact c.2 ha⟩) (fun y hy => by
            rcases List.mem_append.mp hy with z | z
            · exact sub y z
            · cases List.mem_singleton.mp z
              exact c.1)
          refine ⟨h1, h2, ?_⟩
          rw [h3]
          simp only [List.length_append, List.length_cons, List.length_nil]
          omega
        · rw [if_neg c] at h
          cases h
      | _ => cases hs
/-- all of it goes by: the names themselves -/
theorem scan_all {N : List Str} : ∀ {xs T : List Str}, (T ++ xs).Nodup → (∀ x ∈ xs, x ∈ N) → scan N T (xs.map .str) = .inr (T ++ xs)
  | [], T, _, _ => by
    rw [List.append_nil]
    rfl
  | x :: xs, T, nd, sub => by
    have c : x ∈ N ∧ x ∉ T := ⟨sub x List.mem_cons_self, fun z => (List.nodup_append.mp nd).2.2 x z x List.mem_cons_self rfl⟩
    rw [List.map_cons, scan_str, if_pos c]
    have e : T ++ x :: xs = (T ++ [x]) ++ xs := by simp
    rw [e] at nd ⊢
    exact scan_all nd fun y hy => sub y (List.mem_cons_of_mem _ hy)
theorem scan_app {N : List Str} : ∀ {as bs : List PyData} {T T' : List Str}, scan N T as = .inr T' → scan N T (as ++ bs) = scan N T' bs
  | [], bs, T, T', h => by
    cases h
    rfl
  | d :: as, bs, T, T', h => by
    cases hs : isSt d with
    | false => rw [scan_odd hs] at h; cases h
    | true =>
      cases d with
      | str x =>
        rw [scan_str] at h
        rw [List.cons_append, scan_str]
        by_cases c : x ∈ N ∧ x ∉ T
        · rw [if_pos c] at h ⊢
          exact scan_app h
        · rw [if_neg c] at h
          cases h
      | _ => cases hs
theorem scan_bad {N : List Str} {T : List Str} {d : PyData} {ds : List PyData} (h : isSt d = false ∨ ∃ x, d = .str x ∧ (x ∉ N ∨ x ∈ T)) : scan N T (d :: ds) = .inl d := by
  rcases h with h | ⟨x, rfl, h⟩
  · exact scan_odd h
  · rw [scan_str, if_neg (fun c => h.elim (fun z => z c.1) fun z => c.2 z)]
end Rk
/-- what is asked of the names that come -/
structure OdC (l : List Oc) (m : Nat) : Prop where
  yes : ("yes" : Str) ∉ l.map (·.1)
  few : l.length ≤ 19
  bars : ∀ j, j < m → bars "nil" j ∈ l.map (·.1)
  out : Ad.bars "nil" m ∉ l.map (·.1)
  ny : Ad.bars "nil" m ≠ "yes"
  short : ∀ j, j < m → (Ad.bars "nil" j).length + 1 ≤ sizeLine
namespace Od
def things (l : List Oc) : List Pr := Kn.part false l
def truths (l : List Oc) : List Pr := Kn.part true l
def names (l : List Oc) : List Str := Rn.names (things l ++ truths l)
def spare (l : List Oc) (m : Nat) : List Row := if (∃ p ∈ things l, p.2 = 0) then [] else [(bars "nil" m, 0, 1)]
def R (l : List Oc) (m : Nat) (T : List Str) : List Row := spare l m ++ Rn.rows (things l) T
def S (l : List Oc) (T : List Str) : List Row := Rn.rows (truths l) T
theorem part_mem {b : Bool} {l : List Oc} {x : Str} (h : x ∈ Rn.names (Kn.part b l)) : ∃ n, (x, n, b) ∈ l := by
  obtain ⟨p, hp, rfl⟩ := List.mem_map.mp h
  obtain ⟨q, hq, rfl⟩ := List.mem_map.mp hp
  obtain ⟨h1, h2⟩ := List.mem_filter.mp hq
  have e : q.2.2 = b := by
    cases hb : b <;> rw [hb] at h2 <;> simpa using h2
  exact ⟨q.2.1, by rw [← e]; exact h1⟩
theorem mem_part {l : List Oc} {q : Oc} (h : q ∈ l) : (q.1, q.2.1) ∈ Kn.part q.2.2 l := List.mem_map.mpr ⟨q, List.mem_filter.mpr ⟨h, by cases q.2.2 <;> rfl⟩, rfl⟩
theorem names_iff {l : List Oc} {x : Str} : x ∈ names l ↔ x ∈ l.map (·.1) := by
  unfold names Rn.names
  rw [List.map_append, List.mem_append]
  constructor
  · rintro (h | h)
    · obtain ⟨n, hn⟩ := part_mem h
      exact List.mem_map.mpr ⟨_, hn, rfl⟩
    · obtain ⟨n, hn⟩ := part_mem h
      exact List.mem_map.mpr ⟨_, hn, rfl⟩
  · intro h
    obtain ⟨q, hq, rfl⟩ := List.mem_map.mp h
    have := mem_part hq
    cases hb : q.2.2 with
    | false => rw [hb] at this; exact .inl (List.mem_map.mpr ⟨_, this, rfl⟩)
    | true => rw [hb] at this; exact .inr (List.mem_map.mpr ⟨_, this, rfl⟩)
theorem part_nodup {l : List Oc} (nd : (l.map (·.1)).Nodup) (b : Bool) : (Rn.names (Kn.part b l)).Nodup := by
  unfold Rn.names Kn.part
  rw [List.map_map]
  exact (List.Sublist.map _ List.filter_sublist).nodup nd
theorem part_apart {l : List Oc} (nd : (l.map (·.1)).Nodup) {x : Str} (h1 : x ∈ Rn.names (things l)) (h2 : x ∈ Rn.names (truths l)) : False := by
  obtain ⟨n1, m1⟩ := part_mem h1
  obtain ⟨n2, m2⟩ := part_mem h2
  have e1 := Kn.look_at nd m1
  have e2 := Kn.look_at nd m2
  have e1' : Kn.look l x = some (n1, false) := e1
  have e2' : Kn.look l x = some (n2, true) := e2
  rw [e1'] at e2'
  cases e2'
theorem spare_names {l : List Oc} {m : Nat} : ∀ r ∈ spare l m, r = (bars "nil" m, 0, 1) := fun r hr => by
  unfold spare at hr
  split at hr
  · cases hr
  · exact List.mem_singleton.mp hr
theorem spare_few (l : List Oc) (m : Nat) : (spare l m).length ≤ 1 := by
  unfold spare
  split
  · exact Nat.zero_le _
  · exact Nat.le_refl _
theorem rows_names (P : List Pr) (T : List Str) : (Rn.rows P T).map (·.1) = Rn.rank P T := by
  unfold Rn.rows
  rw [List.map_map]
  exact List.map_id' _ ▸ rfl
theorem ok {l : List Oc} {m : Nat} {T : List Str} (nd : (l.map (·.1)).Nodup) (c : OdC l m) (ndT : T.Nodup) (few : T.length ≤ 40) : OOk (R l m T) (S l T) := by
  have lt := Kn.part_len false l
  have lu := Kn.part_len true l
  have lr1 := Rn.rank_len (things l) T
  have lr2 := Rn.rank_len (truths l) T
  have sf := spare_few l m
  have c5 := c.few
  refine ⟨?_, fun r hr => ?_, ?_, ?_⟩
  · show (("yes" : Str) :: (R l m T ++ S l T).map (·.1)).Nodup
    have inN : ∀ {P : List Pr} {x : Str}, x ∈ Rn.rank P T → (∀ y ∈ Rn.names P, y ∈ l.map (·.1)) → x ∈ l.map (·.1) := fun h s => s _ (Rn.rank_mem h)
    have t1 : ∀ y ∈ Rn.names (things l), y ∈ l.map (·.1) := fun y hy => names_iff.mp (by unfold names Rn.names; rw [List.map_append]; exact List.mem_append_left _ hy)
    have t2 : ∀ y ∈ Rn.names (truths l), y ∈ l.map (·.1) := fun y hy => names_iff.mp (by unfold names Rn.names; rw [List.map_append]; exact List.mem_append_right _ hy)
    rw [List.map_append]
    unfold R S
    rw [List.map_append, rows_names, rows_names]
    have spn : ∀ y ∈ (spare l m).map (·.1), y = bars "nil" m := fun y hy => by
      obtain ⟨r, hr, rfl⟩ := List.mem_map.mp hy
      rw [spare_names r hr]
    have nds : ((spare l m).map (·.1)).Nodup := by
      unfold spare
      split <;> simp
    refine List.nodup_cons.mpr ⟨fun z => ?_, List.nodup_append.mpr ⟨List.nodup_append.mpr ⟨nds, Rn.rank_nodup (part_nodup nd false) ndT, fun a ha b hb z => ?_⟩, Rn.rank_nodup (part_nodup nd true) ndT, fun a ha b hb z => ?_⟩⟩
    · rcases List.mem_append.mp z with z | z
      · rcases List.mem_append.mp z with z | z
        · exact c.ny (spn _ z).symm
        · exact c.yes (inN z t1)
      · exact c.yes (inN z t2)
    · rw [spn a ha] at z
      exact c.out (by rw [z]; exact inN hb t1)
    · rw [z] at ha
      rcases List.mem_append.mp ha with ha | ha
      · exact c.out (by rw [← spn b ha]; exact inN hb t2)
      · exact part_apart nd (Rn.rank_mem ha) (Rn.rank_mem hb)
  · rcases List.mem_append.mp hr with hr | hr
    · rcases List.mem_append.mp hr with hr | hr
      · rw [spare_names r hr]
        exact Int.le_refl _
      · obtain ⟨x, _, rfl⟩ := List.mem_map.mp hr
        exact Int.le_refl _
    · obtain ⟨x, _, rfl⟩ := List.mem_map.mp hr
      exact Int.le_refl _
  · by_cases h : ∃ p ∈ things l, p.2 = 0
    · obtain ⟨p, hp, p0⟩ := h
      refine ⟨(p.1, Rn.ar (things l) p.1, 1), List.mem_append_right _ (List.mem_map.mpr ⟨p.1, Rn.mem_rank (List.mem_map.mpr ⟨p, hp, rfl⟩), rfl⟩), ?_⟩
      show Rn.ar (things l) p.1 = 0
      exact (Rn.ar_mem (part_nodup nd false) hp).trans p0
    · exact ⟨(bars "nil" m, 0, 1), List.mem_append_left _ (by unfold spare; rw [if_neg h]; exact List.mem_cons_self), rfl⟩
  · unfold R S Rn.rows things truths
    rw [List.length_append, List.length_map, List.length_map]
    unfold things at lr1
    unfold truths at lr2
    -- half of the ranks are of either kind
    have key : (Rn.rank (Kn.part false l) T).length + (Rn.rank (Kn.part true l) T).length ≤ (Kn.part false l).length + (Kn.part true l).length + (T.length + T.length) := by omega
    have half : (Kn.part false l).length + (Kn.part true l).length ≤ l.length := by
      unfold Kn.part
      rw [List.length_map, List.length_map]
      have : ∀ k : List Oc, (k.filter fun q => q.2.2 == false).length + (k.filter fun q => q.2.2 == true).length ≤ k.length := by
        intro k
        induction k with
        | nil => exact Nat.le_refl _
        | cons q k ih =>
          cases hb : q.2.2 with
          | false =>
            rw [List.filter_cons_of_pos (by rw [hb]; rfl), List.filter_cons_of_neg (by rw [hb]; decide), List.length_cons, List.length_cons]
            omega
          | true =>
            rw [List.filter_cons_of_neg (by rw [hb]; decide), List.filter_cons_of_pos (by rw [hb]; rfl), List.length_cons, List.length_cons]
            omega
      exact this l
    omega
end Od
end Ad

/-! Data of rows, pairs, texts: comparable. -/
namespace Ad
open PySem PySem.Spec PySem.Calls PyProof.Rows L2
theorem lay_all : ∀ {ds : List PyData}, (∀ d ∈ ds, d.canLay0 = true) → PyData.canLayAll0 ds = true
  | [], _ => rfl
  | d :: ds, h => by
    show (d.canLay0 && PyData.canLayAll0 ds) = true
    rw [h d List.mem_cons_self, lay_all fun e he => h e (List.mem_cons_of_mem _ he)]
    rfl
theorem depth_all {n : Nat} : ∀ {ds : List PyData}, (∀ d ∈ ds, d.depth ≤ n) → PyData.depthAll ds ≤ n
  | [], _ => Nat.zero_le _
  | d :: ds, h => by
    show max d.depth (PyData.depthAll ds) ≤ n
    have h1 := h d List.mem_cons_self
    have h2 := depth_all fun e he => h e (List.mem_cons_of_mem _ he)
    omega
/-- comparable, of at most a depth -/
def Lay (n : Nat) (d : PyData) : Prop := d.canLay0 = true ∧ d.depth ≤ n
theorem Lay.shaped {n : Nat} {d : PyData} (h : Lay n d) (hn : n ≤ 64) : SeqAt.shaped d = true := Bool.and_eq_true_iff.mpr ⟨h.1, decide_eq_true (Nat.le_trans h.2 hn)⟩
theorem Lay.mono {n m : Nat} {d : PyData} (h : Lay n d) (k : n ≤ m) : Lay m d := ⟨h.1, Nat.le_trans h.2 k⟩
theorem lay_tup {n : Nat} {ds : List PyData} (h : ∀ d ∈ ds, Lay n d) : Lay (n + 1) (.tuple ds) := ⟨lay_all fun d hd => (h d hd).1, by
  show PyData.depthAll ds + 1 ≤ n + 1
  have := depth_all (n := n) fun d hd => (h d hd).2
  omega⟩
theorem lay_lst {n : Nat} {ds : List PyData} (h : ∀ d ∈ ds, Lay n d) : Lay (n + 1) (.list ds) := ⟨lay_all fun d hd => (h d hd).1, by
  show PyData.depthAll ds + 1 ≤ n + 1
  have := depth_all (n := n) fun d hd => (h d hd).2
  omega⟩
theorem lay_int (n : Nat) (i : Int) : Lay n (.int i) := ⟨rfl, Nat.zero_le _⟩
theorem lay_bool (n : Nat) (b : Bool) : Lay n (.bool b) := ⟨rfl, Nat.zero_le _⟩
theorem lay_none (n : Nat) : Lay n .none := ⟨rfl, Nat.zero_le _⟩
theorem lay_str (n : Nat) {x : Str} (h : PyData.strOk x = true) : Lay n (.str x) := ⟨h, Nat.zero_le _⟩
theorem Lay.eqv {n : Nat} {d : PyData} (h : Lay n d) (hn : n ≤ 64) : PyData.eqv d d = true := eqv_one (h.shaped hn)
theorem lay2 {n : Nat} {a b : PyData} (h1 : Lay n a) (h2 : Lay n b) : Lay (n + 1) (.tuple [a, b]) := lay_tup fun d hd => by
  rcases List.mem_cons.mp hd with rfl | hd
  · exact h1
  · cases List.mem_singleton.mp hd
    exact h2
theorem lay3 {n : Nat} {a b c : PyData} (h1 : Lay n a) (h2 : Lay n b) (h3 : Lay n c) : Lay (n + 1) (.tuple [a, b, c]) := lay_tup fun d hd => by
  rcases List.mem_cons.mp hd with rfl | hd
  · exact h1
  · rcases List.mem_cons.mp hd with rfl | hd
    · exact h2
    · cases List.mem_singleton.mp hd
      exact h3
def rowPD (r : Row) : PyData := .tuple [.str r.1, .int (r.2.1 : Int), .int r.2.2]
def prPD (r : Pr) : PyData := .tuple [.str r.1, .int (r.2 : Int)]
theorem rowPD_lay {r : Row} (h : PyData.strOk r.1 = true) : Lay 1 (rowPD r) := lay3 (n := 0) (lay_str 0 h) (lay_int 0 _) (lay_int 0 _)
theorem prPD_lay {r : Pr} (h : PyData.strOk r.1 = true) : Lay 1 (prPD r) := lay2 (n := 0) (lay_str 0 h) (lay_int 0 _)
theorem rowV_pd {K : PySem.W.Frag} {H : Hp} : ∀ {R : List Row} {vs : List V}, F2 (RowV K H) R vs → DpAll K H vs (R.map rowPD)
  | [], _, h => by
    cases (show _ = [] from h)
    exact .nil
  | r :: R, _, h => by
    obtain ⟨v, vs, rfl, ⟨b, rfl, hb⟩, t⟩ := h
    exact .cons (.tup hb (.cons (.str _) (.cons (.int _) (.cons (.int _) .nil)))) (rowV_pd t)
theorem prV_pd {K : PySem.W.Frag} {H : Hp} : ∀ {R : List Pr} {vs : List V}, F2 (PrV K H) R vs → DpAll K H vs (R.map prPD)
  | [], _, h => by
    cases (show _ = [] from h)
    exact .nil
  | r :: R, _, h => by
    obtain ⟨v, vs, rfl, ⟨b, rfl, hb⟩, t⟩ := h
    exact .cons (.tup hb (.cons (.str _) (.cons (.int _) .nil))) (prV_pd t)
theorem strs_pd {K : PySem.W.Frag} {H : Hp} : ∀ T : List Str, DpAll K H (T.map V.str) (T.map .str)
  | [] => .nil
  | x :: T => .cons (.str x) (strs_pd T)
theorem rows_lay {R : List Row} (h : ∀ r ∈ R, PyData.strOk r.1 = true) : ∀ d ∈ R.map rowPD, Lay 1 d := fun d hd => by
  obtain ⟨r, hr, rfl⟩ := List.mem_map.mp hd
  exact rowPD_lay (h r hr)
theorem prs_lay {R : List Pr} (h : ∀ r ∈ R, PyData.strOk r.1 = true) : ∀ d ∈ R.map prPD, Lay 1 d := fun d hd => by
  obtain ⟨r, hr, rfl⟩ := List.mem_map.mp hd
  exact prPD_lay (h r hr)
theorem strs_lay0 {T : List Str} (h : ∀ x ∈ T, PyData.strOk x = true) : ∀ d ∈ T.map PyData.str, Lay 0 d := fun d hd => by
  obtain ⟨r, hr, rfl⟩ := List.mem_map.mp hd
  exact lay_str 0 (h r hr)
theorem eqvT_nil (ds : List PyData) : PyData.eqv (.tuple ds) (.tuple []) = ds.isEmpty := by
  cases ds <;> first | rfl | (simp [PyData.eqv, PyData.eqvAll])
theorem eqvL_nil (ds : List PyData) : PyData.eqv (.list ds) (.list []) = ds.isEmpty := by
  cases ds <;> first | rfl | (simp [PyData.eqv, PyData.eqvAll])
end Ad

/-! Drawn terms with great names. -/
namespace Ad
open PySem PySem.Spec PySem.Calls PyProof.Rows L2
/-! terms of the rows' names with as many arguments as these have, of known great names -/
mutual
def TOk (R : List Row) (kn : List Str) : PyData → Prop
  | .str x => x ∈ kn
  | .tuple [] => False
  | .tuple (x :: ds) => (∃ r ∈ R, x = .str r.1 ∧ r.2.1 = ds.length) ∧ TOkL R kn ds
  | .none => False
  | .bool _ => False
  | .int _ => False
  | .list _ => False
  | .dict _ => False
def TOkL (R : List Row) (kn : List Str) : List PyData → Prop
  | [] => True
  | d :: ds => TOk R kn d ∧ TOkL R kn ds
end
theorem TOkL_of {R : List Row} {kn : List Str} : ∀ {ds : List PyData}, (∀ d ∈ ds, TOk R kn d) → TOkL R kn ds
  | [], _ => True.intro
  | d :: ds, h => ⟨h d List.mem_cons_self, TOkL_of fun e he => h e (List.mem_cons_of_mem _ he)⟩
/-- what is drawn: a term of the rows' names -/
structure DSp (R : List Row) (kn : List Str) (deep : Nat) (d : PyData) : Prop where
  wf : wfT d = true
  size : (partsD d).length ≤ sz deep
  names : ∀ b q, q ∈ occ b d → q.1 ∈ R.map (·.1)
  tok : TOk R kn d
mutual
theorem wf_tk {K : PySem.W.Frag} {H H' : Hp} (k : TK H H') : ∀ (d : PyData) (v : V), wfT d = true → Dp K H v d → Dp K H' v d
  | .str x, _, _, h => by
    cases h
    exact .str x
  | .tuple [], _, w, _ => by cases w
  | .tuple (x :: ds), _, w, h => by
    obtain ⟨w1, w2⟩ := Bool.and_eq_true_iff.mp (show (isSt x && wfTL ds) = true from w)
    cases h with
    | @tup a zs _ sq all =>
    cases all with
    | @cons v vs _ _ hv all =>
    cases x with
    | str y =>
      cases hv
      exact .tup (k.sq sq) (.cons (.str y) (wf_tkL k ds vs w2 all))
    | _ => cases w1
  | .none, _, w, _ => by cases w
  | .bool _, _, w, _ => by cases w
  | .int _, _, w, _ => by cases w
  | .list _, _, w, _ => by cases w
  | .dict _, _, w, _ => by cases w
theorem wf_tkL {K : PySem.W.Frag} {H H' : Hp} (k : TK H H') : ∀ (ds : List PyData) (vs : List V), wfTL ds = true → DpAll K H vs ds → DpAll K H' vs ds
  | [], _, _, h => by
    cases h
    exact .nil
  | d :: ds, _, w, h => by
    obtain ⟨w1, w2⟩ := Bool.and_eq_true_iff.mp (show (wfT d && wfTL ds) = true from w)
    cases h with
    | @cons v vs _ _ hv all => exact .cons (wf_tk k d v w1 hv) (wf_tkL k ds vs w2 all)
end
theorem wfTL_of : ∀ {ds : List PyData}, (∀ d ∈ ds, wfT d = true) → wfTL ds = true
  | [], _ => rfl
  | d :: ds, h => by
    show (wfT d && wfTL ds) = true
    rw [h d List.mem_cons_self, wfTL_of fun e he => h e (List.mem_cons_of_mem _ he)]
    rfl
theorem strs_dp {K : PySem.W.Frag} {H : Hp} : ∀ kn : List Str, DpAll K H (kn.map V.str) (kn.map .str)
  | [] => .nil
  | x :: kn => .cons (.str x) (strs_dp kn)
theorem strs_nil (kn : List Str) : PyData.eqv (.list (kn.map .str)) (.list []) = kn.isEmpty := by
  cases kn <;> rfl
def spDrawnSp (K : PySem.W.Frag) (n : Nat) : Sp := fun vs H Q _ => ∃ (p l ra kl : Addr) (ns : List Int) (c deep : Nat) (kn : List Str) (R : List Row), vs = [.ref p, .ref ra, .int (deep : Int), .ref kl] ∧ Pn.Pen H p l ns c ∧ ns.length ≤ 1000 ∧ c + dn deep ≤ 1000000000 ∧ RowsAt K H ra R ∧ ROk R ∧
  deep < n ∧ SqL K H kl (kn.map V.str) ∧ SeqAt.shaped (.list (kn.map .str)) = true ∧ kn.length ≤ 100 ∧ kl ≠ p ∧ ∀ d v H' c', Dp K H' v d → DSp R kn deep d → c' ≤ c + dn deep → Pn.Pen H' p l ns c' → Pn.But p H H' → Q v H'
abbrev sDrawnSp : Stmt := topS 26
theorem scDrawnSp : FnScope ["_law_pen_here", "_law_rows", "_law_deep", "_law_known", "_law_some", "_law_name", "_law_arity", "_law_weight", "_law_row", "_law_k"] ["_law_pen_here", "_law_rows", "_law_deep", "_law_known"] (defScope sDrawnSp) := ⟨rfl, rfl, rfl, by decide +kernel, rfl, by decide +kernel, by decide +kernel⟩
section
variable {P : Program} {w : World} {K : PySem.W.Frag} {mg : Str → Option Value} {base : Heap}
theorem ok_drawnsp {f fD fP : Addr} {fd fdD fdP : FuncData} {k : Nat} (F : Fun K "_law_drawn_spoken" "_law_drawn_spoken" sDrawnSp f fd) (gF : mg "_law_drawn_spoken" = some (.ref f)) (bF : Binds K fd ["_law_pen_here", "_law_rows", "_law_deep", "_law_known"] [])
    (GD : FnOk P w K mg base CX0 k fD fdD ["_law_pen_here", "_law_many"] Pn.spDraw) (gD : mg "_law_draw" = some (.ref fD)) (kD : PySem.W.keepIn K (.ref fD) = true) (bD : Binds K fdD ["_law_pen_here", "_law_many"] [])
    (GP : FnOk P w K mg base CX0 k fP fdP ["_law_pen_here", "_law_some"] (Pn.spPick K)) (gP : mg "_law_pick" = some (.ref fP)) (kP : PySem.W.keepIn K (.ref fP) = true) (bP : Binds K fdP ["_law_pen_here", "_law_some"] []) (mt : mg "tuple" = none) (mr : mg "range" = none) :
    ∀ n, FnOk P w K mg base CX0 (k + n) f fd ["_law_pen_here", "_law_rows", "_law_deep", "_law_known"] (spDrawnSp K n)
  | 0 => vac fun vs H Q E ⟨p, l, ra, kl, ns, c, deep, kn, R, _, _, _, _, _, _, z, _⟩ => absurd z (Nat.not_lt_zero _)
  | n + 1 => by
    have IH := ok_drawnsp F gF bF GD gD kD bD GP gP kP bP mt mr n
    refine F.ok scDrawnSp (fun vs H Q E h => ?_) (fun cdv A outer s H vs Q E hr h => ?_)
    · obtain ⟨p, l, ra, kl, ns, c, deep, kn, R, rfl, _⟩ := h
      rfl
    · obtain ⟨p, l, ra, kl, ns, c, deep, kn, R, rfl, hP, hlen, hc, hR, ok, hd, hK, shK, fewK, klp, q⟩ := h
      have hr0 := hr.mono (Nat.le_add_right k n)
      refine ⟨_, C8.pss_cut (ps_if (pw_and (pt_cmpR (op_neD (hu64 hr)) (pv 3) (pe_lst pa_nil) (nomark _)) (pw_and1 (pt_cmpR op_eq (pe_call GD hr0 (by rfl) gD kD bD .nil pass0 (pa_cons (pv 0) (pa_cons pe_int pa_nil))) pe_int (nomark _)))).pt
          (pss_one (ps_ret (pe_call GP hr0 (by rfl) gP kP bP .nil pass0 (pa_cons (pv 0) (pa_cons (pv 3) pa_nil))))) pss_nil)
        (pss_cons (ps_setLc (i := 4) (own := [("_law_row", 8)]) (g := gName 8) (tt := tOr (tTest (tOp (rI0 fun i j => .bl (decide (j < i))) (tVar 2) (tC (.int 0)))) (tTest (tOp rEq (tOp (rIxT K) (tVar 8) (tC (.int 1))) (tC (.int 0))))) (te := tVar 8) rfl scDrawnSp.nd rfl rfl (sw_true rfl rfl rfl (by decide +kernel))
            (pi_tup (pe_ix ix_tup (pv 1) pe_int (fun _ _ => rfl)))
            (blkOk_by (N := ["_law_pen_here", "_law_rows", "_law_deep", "_law_known", "_law_some", "_law_name", "_law_arity", "_law_weight", "_law_row", "_law_k"]) (sc := defScope sDrawnSp) (by decide +kernel))
            (fun _ _ _ _ _ => pg_name (i := 8) scDrawnSp.nd rfl (.inl rfl))
            (fun _ _ _ _ _ => pts_one (pw_or (pt_cmpR op_gt (pv 2) pe_int (nomark _)) (pw_or1 (pt_cmpR op_eq (pe_ix (r := rIxT K) ix_tup (pv 8) pe_int (fun _ _ => rfl)) pe_int (nomark _)))).pt)
            (fun _ _ _ _ _ => pv 8))
        (pss_cons (ps_asg (pe_call GP hr0 (by rfl) gP kP bP .nil pass0 (pa_cons (pv 0) (pa_cons (pv 4) pa_nil))) (pg_tup rfl (pgs_cons (pg_name (i := 5) scDrawnSp.nd rfl (.inl rfl)) (pgs_cons (pg_name (i := 6) scDrawnSp.nd rfl (.inl rfl)) (pgs_cons (pg_name (i := 7) scDrawnSp.nd rfl (.inl rfl)) pgs_nil)))))
        (pss_one (ps_ret (pe_op op_catT (pe_tup (pa_cons (pv 5) pa_nil)) (pe_callTy call_tuple_of (by rfl) mt (by decide +kernel) (pa_cons
          (pe_lc (own := [("_law_k", 9)]) (g := gName 9) (tt := tYes) rfl scDrawnSp.nd (pi_range1 (by rfl) mr (pa_cons (pv 6) pa_nil))
            (blkOk_by (N := ["_law_pen_here", "_law_rows", "_law_deep", "_law_known", "_law_some", "_law_name", "_law_arity", "_law_weight", "_law_row", "_law_k"]) (sc := defScope sDrawnSp) (by decide +kernel))
            (fun _ _ _ _ _ => pg_name (i := 9) scDrawnSp.nd rfl (.inl rfl)) (fun _ _ _ _ _ => pts_nil)
            (fun _ _ _ _ _ => pe_call IH hr (by rfl) gF F.kp bF .nil pass0 (pa_cons (pv 0) (pa_cons (pv 1) (pa_cons (pe_op op_sub (pv 2) pe_int) (pa_cons (pv 3) pa_nil)))))) pa_nil))))))), ?_⟩
      refine ⟨fun σ G => ∃ c1, σ = [some (.ref p), some (.ref ra), some (.int (deep : Int)), some (.ref kl), none, none, none, none, none, none] ∧ c1 ≤ c + 1 ∧ Pn.Pen G p l ns c1 ∧ Pn.But p H G, ?_, ?_⟩
      · have d2 := two_dn deep
        refine ⟨.ref kl, rfl, Nat.zero_le _, fun l0 n0 => ?_⟩
        have s0 : Same H (upd H l0 (.lst [])) := same_new (fun b o e => e) n0 _
        have e0 : (upd H l0 (.lst [])) l0 = some (.lst []) := upd_same
        generalize upd H l0 (.lst []) = H0 at s0 e0
        have P0 := pen_same hP s0
        have b0 : Pn.But p H H0 := Pn.But.of s0
        refine ⟨.list (kn.map .str), .list [], .lst (s0.seq hK) (strs_dp kn), .lst (.inl (.inl e0)) .nil, shK, by decide +kernel, _, rfl, ?_⟩
        rw [strs_nil]
        cases hE : kn.isEmpty with
        | true => exact iteF ⟨c, rfl, Nat.le_succ _, P0, b0⟩
        | false =>
          refine iteT ?_
          refine ⟨.ref p, rfl, p, l, ns, c, 2, rfl, P0, hlen, by omega, by decide, by decide, fun r G r0 r1 P1 b1 => ⟨rfl, _, rfl, ?_⟩⟩
          refine ite2 (fun _ => ?_) (fun _ => ⟨c + 1, rfl, Nat.le_refl _, P1, b0.trans b1⟩)
          refine ⟨.ref p, rfl, .ref kl, rfl, p, l, kl, ns, c + 1, kn.map V.str, rfl, P1, hlen, by omega, .inl (Pn.But.sq (b0.trans b1) klp hK), (fun z => ?_), by rw [List.length_map]; omega, klp, fun x G' hx P2 b2 => ?_⟩
          · rw [List.map_eq_nil_iff] at z
            rw [z] at hE
            cases hE
          · obtain ⟨y, hy, rfl⟩ := List.mem_map.mp hx
            refine q (.str y) _ G' (c + 1 + 1) (.str y) ⟨rfl, one_sz _, fun b z hz => (nomatch hz), hy⟩ (by omega) P2 ((b0.trans b1).trans b2)
      · rintro σ G ⟨c1, rfl, hc1, P1, b1⟩
        have hR1 := hR.mono (pen_tk hP b1)
        obtain ⟨rb, ry, rs, q1, q2, rows⟩ := hR1
        refine ⟨.ref ra, rfl, ra, _, 0, .ref rb, rfl, rfl, q1, atI_nat (j := 0) rfl, rb, rfl, ⟨rs, q2⟩, fun D nD => ?_⟩
        have lrs := rows.len
        obtain ⟨jc, rc, hjc, rc0⟩ := ok.const
        refine lc_tup (K := K) (a := rb) (xs := rs) (fun i G2 => ∃ acc, Same G G2 ∧ G2 D = some (.lst acc) ∧ (∀ v ∈ acc, ∃ r ∈ R, RowV K G r v ∧ (0 < deep ∨ r.2.1 = 0)) ∧ acc.length ≤ i ∧ (jc < i → acc ≠ [])) ⟨[], same_new (fun b o e => e) nD _, upd_same, (fun v hv => nomatch hv), Nat.le_refl _, fun z => absurd z (Nat.not_lt_zero _)⟩
          (fun i G2 _ ⟨acc, sm, _⟩ => (TK.same sm).sq q2) ?_ ?_
        · rintro i y G2 hy ⟨acc, sm, gD, mem, few, full⟩
          obtain ⟨r, hri, hrv⟩ := rows.get hy
          have hmem := List.mem_of_getElem? hri
          have hilt := (List.getElem?_eq_some_iff.mp hri).1
          have hfew := ok.few
          have yes : (0 < deep ∨ r.2.1 = 0) → ∃ acc', G2 D = some (.lst acc') ∧ acc'.length < sizeLine ∧ ∃ acc2, Same G (upd G2 D (.lst (acc' ++ [y]))) ∧ (upd G2 D (.lst (acc' ++ [y]))) D = some (.lst acc2) ∧ (∀ v ∈ acc2, ∃ r ∈ R, RowV K G r v ∧ (0 < deep ∨ r.2.1 = 0)) ∧ acc2.length ≤ i + 1 ∧ (jc < i + 1 → acc2 ≠ []) := by
            intro fit
            refine ⟨acc, gD, by rw [sizeLine_eq]; omega, _, same_on sm nD _, upd_same, fun v hv => ?_, ?_, fun _ => by simp⟩
            · rcases List.mem_append.mp hv with z | z
              · exact mem v z
              · cases List.mem_singleton.mp z
                exact ⟨r, hmem, hrv, fit⟩
            · rw [List.length_append, List.length_singleton]
              omega
          refine ⟨rfl, .int (deep : Int), rfl, _, _, rfl, rfl, _, rfl, ?_⟩
          refine ite2 (fun hpos => ?_) (fun hneg => ?_)
          · have hpos' : (0 : Int) < (deep : Int) := of_decide_eq_true hpos
            refine iteT ?_
            exact ⟨y, rfl, yes (.inl (by omega))⟩
          · obtain ⟨b, rfl, sqb⟩ := hrv
            refine ⟨.ref b, rfl, b, _, 1, .int (r.2.1 : Int), rfl, rfl, (TK.same sm).sq sqb, atI_nat (j := 1) rfl, rfl, _, rfl, ?_⟩
            by_cases z : r.2.1 = 0
            · have e : decide (V.int (r.2.1 : Int) = V.int 0) = true := by rw [z]; rfl
              rw [e]
              refine iteT ?_
              exact ⟨.ref b, rfl, yes (.inr z)⟩
            · have e : decide (V.int (r.2.1 : Int) = V.int 0) = false := by
                refine decide_eq_false fun w => z ?_
                have := V.int.inj w
                omega
              rw [e]
              refine iteF ?_
              refine ⟨acc, sm, gD, mem, Nat.le_succ_of_le few, fun lt => ?_⟩
              rcases Nat.lt_succ_iff_lt_or_eq.mp lt with w | w
              · exact full w
              · rw [← w, hjc] at hri
                cases hri
                exact absurd rc0 z
        · rintro G2 ⟨acc, sm, gD, mem, few, full⟩
          have hne : acc ≠ [] := full (by
            rw [lrs]
            exact (List.getElem?_eq_some_iff.mp hjc).1)
          have P2 := pen_same P1 sm
          have pD : D ≠ p := fun z => by
            obtain ⟨⟨_, _, _, e, _⟩, _⟩ := P1
            rw [z, e] at nD
            cases nD
          have d2 := two_dn deep
          have hfew := ok.few
          refine ⟨.ref p, rfl, .ref D, rfl, p, l, D, ns, c1, acc, rfl, P2, hlen, by omega, .inl (.inl (.inl gD)), hne, by omega, pD, fun x G3 hx P3 b3 => ?_⟩
          obtain ⟨r, hrR, ⟨b, rfl, sqb⟩, fit⟩ := mem x hx
          have k3 : TK G G3 := (TK.same sm).trans (pen_tk P2 b3)
          have hR3 := hR.mono ((pen_tk hP b1).trans k3)
          have b13 : Pn.But p H G3 := (b1.trans (Pn.But.of sm)).trans b3
          refine ⟨b, _, rfl, k3.sq sqb, rfl, .str r.1, _, rfl, .int (r.2.1 : Int), _, rfl, .int r.2.2, _, rfl, rfl, ?_⟩
          obtain ⟨strOk, ar3⟩ := ok.names r hrR
          refine ⟨.str r.1, rfl, (by show 1 ≤ sizeLine; decide), fun p4 n4 => ?_⟩
          have m4 : (upd G3 p4 (.tup [.str r.1])) p4 = some (.tup [.str r.1]) := upd_same
          have s4 : Same G3 (upd G3 p4 (.tup [.str r.1])) := same_new (fun b o e => e) n4 _
          have P4 := pen_same P3 s4
          have R4 := hR3.mono (TK.same s4)
          have b14 := b13.trans (Pn.But.of s4)
          generalize upd G3 p4 (.tup [.str r.1]) = G4 at m4 s4 P4 R4 b14
          refine ⟨.int (r.2.1 : Int), rfl, _, rfl, by omega, by omega, fun D2 nD2 => ?_⟩
          have pD2 : D2 ≠ p := fun z => by
            obtain ⟨⟨_, _, _, e, _⟩, _⟩ := P4
            rw [z, e] at nD2
            cases nD2
          have P4' := pen_same P4 (same_new (fun b o e => e) nD2 (.lst []))
          refine lc_range (lo := 0) (n := ((r.2.1 : Int)).toNat) (fun i G5 => ∃ (ts : List PyData) (acc : List V) (c5 : Nat), Pn.But p G4 G5 ∧ G5 D2 = some (.lst acc) ∧ DpAll K G5 acc ts ∧ ts.length = i ∧ Pn.Pen G5 p l ns c5 ∧ c5 ≤ c1 + 1 + i * dn (deep - 1) ∧
            (∀ t ∈ ts, DSp R kn (deep - 1) t)) ⟨[], [], c1 + 1, Pn.But.of (same_new (fun b o e => e) nD2 _), upd_same, .nil, rfl, P4', by omega, fun t ht => nomatch ht⟩ ?_ ?_
          · rintro i G5 hi ⟨ts, acc, c5, b5, gD, all, len, P5, hc5, dts⟩
            have hi' : i < r.2.1 := by omega
            have dpos : 0 < deep := by
              rcases fit with z | z
              · exact z
              · omega
            obtain ⟨d', rfl⟩ : ∃ d', deep = d' + 1 := ⟨deep - 1, by omega⟩
            have ed : d' + 1 - 1 = d' := Nat.add_sub_cancel ..
            rw [ed] at hc5 dts
            have hm : i * dn d' ≤ 2 * dn d' := Nat.mul_le_mul_right _ (by omega)
            have dd : dn (d' + 1) = 2 + 3 * dn d' := rfl
            have ez : (((d' + 1 : Nat)) : Int) - 1 = (d' : Int) := by omega
            have b45 := b14.trans b5
            refine ⟨rfl, .ref p, rfl, .ref ra, rfl, .int ((d' + 1 : Nat) : Int), rfl, _, _, rfl, rfl, .ref kl, rfl, p, l, ra, kl, ns, c5, d', kn, R, ?_, P5, hlen, by omega, hR.mono (pen_tk hP b45), ok, by omega, Pn.But.sq b45 klp hK, shK, fewK, klp, fun t v G6 c6 tv dt hc6 P6 b6 => ?_⟩
            · show [V.ref p, V.ref ra, V.int (((d' + 1 : Nat) : Int) - 1), V.ref kl] = _
              rw [ez]
            · have g6 : G6 D2 = some (.lst acc) := b6 _ _ pD2 gD
              have k6 : TK G5 G6 := pen_tk P5 b6
              have kk : TK G6 (upd G6 D2 (.lst (acc ++ [v]))) := TK.lst g6 _
              have la := dpAll_len all
              have wfs : wfTL ts = true := wfTL_of fun t ht => (dts t ht).wf
              refine ⟨acc, g6, by rw [sizeLine_eq]; omega, ts ++ [t], acc ++ [v], c6, ?_, upd_same, dpAll_app (wf_tkL (k6.trans kk) _ _ wfs all) (.cons (wf_tk kk _ _ dt.wf tv) .nil), by rw [List.length_append, List.length_singleton, len], ?_, ?_, ?_⟩
              · intro b o nb e
                have e2 := b6 _ _ nb (b5 _ _ nb e)
                have nbD : b ≠ D2 := fun z => by rw [z, nD2] at e; cases e
                rw [upd_ne nbD]
                exact e2
              · obtain ⟨⟨a1, a2, a3, a4, a5⟩, a6⟩ := P6
                have lD : l ≠ D2 := fun z => by
                  have e := P4.ls
                  rw [z, nD2] at e
                  cases e
                exact ⟨⟨a1, a2, a3, by rw [upd_ne pD2.symm]; exact a4, a5⟩, by rw [upd_ne lD]; exact a6⟩
              · rw [ed, Nat.succ_mul]
                omega
              · intro t' ht'
                rw [ed]
                rcases List.mem_append.mp ht' with z | z
                · exact dts t' z
                · rw [List.mem_singleton.mp z]
                  exact dt
          · rintro G5 ⟨ts, acc, c5, b5, gD, all, len, P5, hc5, dts⟩
            have b45 := b14.trans b5
            have la := dpAll_len all
            have ar : ts.length = r.2.1 := by omega
            have n4p : p4 ≠ p := fun z => by
              obtain ⟨⟨_, _, _, e, _⟩, _⟩ := P3
              rw [z, e] at n4
              cases n4
            have m4' : G5 p4 = some (.tup [.str r.1]) := b5 _ _ n4p m4
            refine ⟨D2, acc, rfl, .inl ⟨.inl (.inl gD), fun p6 n6 => ?_⟩⟩
            have s6 : Same G5 (upd G5 p6 (.tup acc)) := same_new (fun b o e => e) n6 _
            have m6 : (upd G5 p6 (.tup acc)) p6 = some (.tup acc) := upd_same
            have P6 := pen_same P5 s6
            have b16 := b45.trans (Pn.But.of s6)
            have all6 := dpAll_same s6 all
            have m4'' := s6 _ _ m4'
            generalize upd G5 p6 (.tup acc) = G6 at s6 m6 P6 b16 all6 m4''
            have dt : DSp R kn deep (.tuple (.str r.1 :: ts)) ∧ c5 ≤ c + dn deep := by
              have sizes : ∀ (m : Nat) (us : List PyData), (∀ t ∈ us, (partsD t).length ≤ m) → (partsDL us).length ≤ us.length * m := by
                intro m us
                induction us with
                | nil => intro _; exact Nat.zero_le _
                | cons u us ih =>
                  intro h
                  have h1 := h u List.mem_cons_self
                  have h2 := ih fun t ht => h t (List.mem_cons_of_mem _ ht)
                  show (partsD u ++ partsDL us).length ≤ (us.length + 1) * m
                  rw [List.length_append, Nat.succ_mul]
                  omega
              have nms : ∀ us : List PyData, (∀ t ∈ us, ∀ b q, q ∈ occ b t → q.1 ∈ R.map (·.1)) → ∀ q ∈ occL us, q.1 ∈ R.map (·.1) := by
                intro us
                induction us with
                | nil => intro _ q hq; cases hq
                | cons u us ih =>
                  intro h q hq
                  rcases List.mem_append.mp (show q ∈ occ false u ++ occL us from hq) with z | z
                  · exact h u List.mem_cons_self false q z
                  · exact ih (fun t ht => h t (List.mem_cons_of_mem _ ht)) q z
              have hs := sizes (sz (deep - 1)) ts fun t ht => (dts t ht).size
              have hn := nms ts fun t ht => (dts t ht).names
              have hw : wfT (.tuple (.str r.1 :: ts)) = true := by
                show (true && wfTL ts) = true
                rw [wfTL_of fun t ht => (dts t ht).wf]
                rfl
              have hnm : ∀ b q, q ∈ occ b (.tuple (.str r.1 :: ts)) → q.1 ∈ R.map (·.1) := by
                intro b q hq
                rcases List.mem_cons.mp (show q ∈ (r.1, ts.length, b) :: occL ts from hq) with rfl | z
                · exact List.mem_map.mpr ⟨r, hrR, rfl⟩
                · exact hn q z
              have htk : TOk R kn (.tuple (.str r.1 :: ts)) := ⟨⟨r, hrR, rfl, ar.symm⟩, TOkL_of fun t ht => (dts t ht).tok⟩
              have lp : (partsD (.tuple (.str r.1 :: ts))).length = 1 + (partsDL ts).length := by
                show (PyData.tuple (.str r.1 :: ts) :: partsDL ts).length = _
                rw [List.length_cons]
                omega
              cases deep with
              | zero =>
                have z : r.2.1 = 0 := by
                  rcases fit with y | y
                  · exact absurd y (Nat.lt_irrefl _)
                  · exact y
                have e : ts = [] := List.length_eq_zero_iff.mp (by omega)
                subst e
                have z2 : ((r.2.1 : Int)).toNat = 0 := by omega
                rw [z2] at hc5
                exact ⟨⟨hw, Nat.le_refl _, hnm, htk⟩, by show c5 ≤ c + 2; omega⟩
              | succ d' =>
                have ed : d' + 1 - 1 = d' := Nat.add_sub_cancel ..
                rw [ed] at hs hc5
                have hm : ts.length * sz d' ≤ 3 * sz d' := Nat.mul_le_mul_right _ (by omega)
                have hm2 : ((r.2.1 : Int)).toNat * dn d' ≤ 3 * dn d' := Nat.mul_le_mul_right _ (by omega)
                refine ⟨⟨hw, ?_, hnm, htk⟩, ?_⟩
                · rw [lp]
                  show 1 + (partsDL ts).length ≤ 1 + 3 * sz d'
                  omega
                · show c5 ≤ c + (2 + 3 * dn d')
                  omega
            refine ⟨p4, p6, _, _, rfl, rfl, .inl (.inl m4''), .inl (.inl m6), by simp, by rw [List.length_singleton, sizeLine_eq]; omega, fun e => ?_, fun e p7 n7 => ?_⟩
            · refine q _ _ G6 c5 (.tup (a := p4) (.inl (.inl ?_)) (.cons (.str r.1) all6)) dt.1 dt.2 P6 b16
              rw [e]
              exact m4''
            · have s7 : Same G6 (upd G6 p7 (.tup ([.str r.1] ++ acc))) := same_new (fun b o e => e) n7 _
              exact q _ _ _ c5 (.tup (a := p7) (.inl (.inl upd_same)) (.cons (.str r.1) (dpAll_same s7 all6))) dt.1 dt.2 (pen_same P6 s7) (b16.trans (Pn.But.of s7))
end
end Ad

/-! How deep a sentence is, how many words it has. -/
namespace Ad
open PySem PySem.Spec PySem.Calls PyProof.Rows L2
namespace Sn
/-- how deep -/
def hi : Sn → Nat
  | .atm _ _ => 1
  | .qu _ _ s => 1 + hi s
  | .one s => 1 + hi s
  | .two _ a b => 1 + max (hi a) (hi b)
theorem hi_pos : ∀ s : Sn, 1 ≤ s.hi
  | .atm _ _ => Nat.le_refl _
  | .qu _ _ s => Nat.le_add_right _ _
  | .one s => Nat.le_add_right _ _
  | .two _ a b => Nat.le_add_right _ _
theorem hi_le : ∀ s : Sn, s.hi ≤ s.size
  | .atm _ _ => Nat.le_refl _
  | .qu _ _ s => by
    have := hi_le s
    show 1 + s.hi ≤ 1 + s.size
    omega
  | .one s => by
    have := hi_le s
    show 1 + s.hi ≤ 1 + s.size
    omega
  | .two _ a b => by
    have h1 := hi_le a
    have h2 := hi_le b
    show 1 + max a.hi b.hi ≤ 1 + a.size + b.size
    omega
end Sn
mutual
/-- how many words a term has -/
def spw : PyData → Nat
  | .str _ => 1
  | .tuple [] => 1
  | .tuple (_ :: ds) => 1 + spwL ds
  | .none => 1
  | .bool _ => 1
  | .int _ => 1
  | .list _ => 1
  | .dict _ => 1
def spwL : List PyData → Nat
  | [] => 0
  | d :: ds => spw d + spwL ds
end
theorem spwL_app : ∀ ds es : List PyData, spwL (ds ++ es) = spwL ds + spwL es
  | [], es => (Nat.zero_add _).symm
  | d :: ds, es => by
    show spw d + spwL (ds ++ es) = spw d + spwL ds + spwL es
    rw [spwL_app, Nat.add_assoc]
namespace Sn
def words : Sn → Nat
  | .atm _ as => spwL as + 1
  | .qu _ _ s => 2 + words s
  | .one s => 1 + words s
  | .two _ a b => 1 + (words a + words b)
def sames : Sn → Nat
  | .atm _ _ => 0
  | .qu _ _ s => sames s
  | .one s => sames s
  | .two w a b => (if w = "same" then 1 else 0) + max (sames a) (sames b)
theorem size_words : ∀ s : Sn, s.size ≤ s.words
  | .atm _ as => Nat.le_add_left _ _
  | .qu _ _ s => by
    have := size_words s
    show 1 + s.size ≤ 2 + s.words
    omega
  | .one s => by
    have := size_words s
    show 1 + s.size ≤ 1 + s.words
    omega
  | .two _ a b => by
    have h1 := size_words a
    have h2 := size_words b
    show 1 + a.size + b.size ≤ 1 + (a.words + b.words)
    omega
end Sn
end Ad

/-! picking from a tuple, wherever it stands -/
namespace Ad
open PySem PySem.Spec PySem.Calls PyProof.Rows L2
section
variable {P : Program} {w : World} {K : PySem.W.Frag} {mg : Str → Option Value} {base : Heap}
def spPickT (K : PySem.W.Frag) : Sp := fun vs H Q _ => ∃ (p l s : Addr) (ns : List Int) (c : Nat) (xs : List V), vs = [.ref p, .ref s] ∧ Pn.Pen H p l ns c ∧ ns.length ≤ 1000 ∧ c ≤ 1000000000 ∧ SqT K H s xs ∧ xs ≠ [] ∧ xs.length ≤ 1000000 ∧
  ∀ x H', x ∈ xs → Pn.Pen H' p l ns (c + 1) → Pn.But p H H' → Q x H'
theorem ok_pickT {f fD : Addr} {fd fdD : FuncData} {k : Nat} (F : Fun K "_law_pick" "_law_pick" Pn.sPick f fd) (G : FnOk P w K mg base CX0 (k + 1) fD fdD ["_law_pen_here", "_law_many"] Pn.spDraw) (gD : mg "_law_draw" = some (.ref fD)) (kD : PySem.W.keepIn K (.ref fD) = true) (bD : Binds K fdD ["_law_pen_here", "_law_many"] [])
    (ml : mg "len" = none) : FnOk P w K mg base CX0 (k + 2) f fd ["_law_pen_here", "_law_some"] (spPickT K) := by
  refine F.ok Pn.scPick (fun vs H Q E h => ?_) (fun cdv A outer s H vs Q E hr h => ?_)
  · obtain ⟨p, l, s, ns, c, xs, rfl, _⟩ := h
    rfl
  · obtain ⟨p, l, s, ns, c, xs, rfl, hP, hlen, hc, hS, hne, hx, q⟩ := h
    refine ⟨_, pss_one (ps_ret (pe_ix ix_tup (pv 1) (pe_call G hr (by rfl) gD kD bD .nil pass0 (pa_cons (pv 0) (pa_cons (pe_callB call_len_seq (by rfl) ml PySem.boot_len (pa_cons (pv 1) pa_nil)) pa_nil))) (fun _ _ => rfl))), ?_⟩
    have hpos : 1 ≤ xs.length := by
      cases xs with
      | nil => exact absurd rfl hne
      | cons x r => rw [List.length_cons]; omega
    refine ⟨.ref s, rfl, .ref p, rfl, .ref s, rfl, s, xs, rfl, .inr hS, p, l, ns, c, _, rfl, hP, hlen, hc, by omega, by omega, fun r H' r0 r1 hP' b' => ?_⟩
    obtain ⟨j, rfl⟩ : ∃ j : Nat, r = (j : Int) := ⟨r.toNat, by omega⟩
    have hj : j < xs.length := by omega
    have hg : xs[j]? = some xs[j] := List.getElem?_eq_getElem hj
    exact ⟨s, xs, _, _, rfl, rfl, (pen_tk hP b').sq hS, atI_nat hg, q _ _ (List.getElem_mem hj) hP' b'⟩
end
end Ad

/-! Drawn sentences. -/
namespace Ad
open PySem PySem.Spec PySem.Calls PyProof.Rows L2
abbrev sDS : Stmt := topS 27
theorem scDS : FnScope ["_law_pen_here", "_law_rows", "_law_deep", "_law_known", "_law_way", "_law_name", "_law_arity", "_law_weight", "_law_word", "_law_one", "_law_k"] ["_law_pen_here", "_law_rows", "_law_deep", "_law_known"] (defScope sDS) := ⟨rfl, rfl, rfl, by decide +kernel, rfl, by decide +kernel, by decide +kernel⟩
theorem sn_tk {K : PySem.W.Frag} {H H' : Hp} (k : TK H H') : ∀ (s : Sn) (v : V), s.wf = true → Dp K H v s.d → Dp K H' v s.d
  | .atm eq as, v, w, h => by
    have w2 : wfTL as = true := by
      cases eq with
      | false =>
        obtain ⟨h1, h⟩ := Bool.and_eq_true_iff.mp (show (decide (as.length = 1) && (wfTL as && (isTu (as.getD 0 .none) && decide ((partsDL as).length ≤ 40)))) = true from w)
        exact (Bool.and_eq_true_iff.mp h).1
      | true =>
        obtain ⟨h1, h⟩ := Bool.and_eq_true_iff.mp (show (decide (as.length = 2) && (wfTL as && decide ((partsDL as).length ≤ 40))) = true from w)
        exact (Bool.and_eq_true_iff.mp h).1
    cases h with
    | @tup a zs _ sq all =>
    cases all with
    | @cons v vs _ _ hv all =>
    cases hv
    exact .tup (k.sq sq) (.cons (.str _) (wf_tkL k as vs w2 all))
  | .qu al x s, v, w, h => by
    cases h with
    | @tup a zs _ sq all =>
    cases all with
    | @cons v vs _ _ hv all =>
    cases hv
    cases all with
    | @cons v2 vs2 _ _ hv2 all =>
    cases hv2
    cases all with
    | @cons v3 vs3 _ _ hs all =>
    cases all with
    | nil => exact .tup (k.sq sq) (.cons (.str _) (.cons (.str _) (.cons (sn_tk k s v3 w hs) .nil)))
  | .one s, v, w, h => by
    cases h with
    | @tup a zs _ sq all =>
    cases all with
    | @cons v vs _ _ hv all =>
    cases hv
    cases all with
    | @cons v2 vs2 _ _ hs all =>
    cases all with
    | nil => exact .tup (k.sq sq) (.cons (.str _) (.cons (sn_tk k s v2 w hs) .nil))
  | .two wd a b, v, w, h => by
    obtain ⟨w1, w2⟩ := Bool.and_eq_true_iff.mp (show (a.wf && b.wf) = true from w)
    cases h with
    | @tup ad zs _ sq all =>
    cases all with
    | @cons v vs _ _ hv all =>
    cases hv
    cases all with
    | @cons v2 vs2 _ _ ha all =>
    cases all with
    | @cons v3 vs3 _ _ hb all =>
    cases all with
    | nil => exact .tup (k.sq sq) (.cons (.str _) (.cons (sn_tk k a v2 w1 ha) (.cons (sn_tk k b v3 w2 hb) .nil)))
def xyz : List Str := ["X", "Y", "Z", "V9"]
def xyz3 : List Str := ["X", "Y", "Z"]
theorem xyz3_in {x : Str} (h : x ∈ xyz3) : x ∈ xyz := by
  rcases List.mem_cons.mp h with rfl | h
  · exact List.mem_cons_self
  rcases List.mem_cons.mp h with rfl | h
  · exact List.mem_cons_of_mem _ List.mem_cons_self
  cases List.mem_singleton.mp h
  exact List.mem_cons_of_mem _ (List.mem_cons_of_mem _ List.mem_cons_self)
theorem xyz_strOk {x : Str} (h : x ∈ xyz) : PyData.strOk x = true := by
  rcases List.mem_cons.mp h with rfl | h
  · decide +kernel
  rcases List.mem_cons.mp h with rfl | h
  · decide +kernel
  rcases List.mem_cons.mp h with rfl | h
  · decide +kernel
  cases List.mem_singleton.mp h
  decide +kernel
theorem xyz_lay : ∀ kn : List Str, (∀ x ∈ kn, x ∈ xyz) → PyData.canLayAll0 (kn.map .str) = true
  | [], _ => rfl
  | x :: kn, h => by
    show (PyData.canLay0 (.str x) && PyData.canLayAll0 (kn.map .str)) = true
    rw [xyz_lay kn fun y hy => h y (List.mem_cons_of_mem _ hy), Bool.and_true]
    rcases List.mem_cons.mp (h x List.mem_cons_self) with rfl | z
    · decide +kernel
    rcases List.mem_cons.mp z with rfl | z
    · decide +kernel
    rcases List.mem_cons.mp z with rfl | z
    · decide +kernel
    cases List.mem_singleton.mp z
    decide +kernel
theorem xyz_depth : ∀ kn : List Str, PyData.depthAll (kn.map .str) ≤ 1
  | [] => Nat.zero_le _
  | x :: kn => by
    have h := xyz_depth kn
    show max (PyData.depth (.str x)) (PyData.depthAll (kn.map .str)) ≤ 1
    have e : PyData.depth (.str x) ≤ 1 := by first | exact Nat.le_refl _ | exact Nat.zero_le _
    omega
theorem xyz_shaped {kn : List Str} (h : ∀ x ∈ kn, x ∈ xyz) : SeqAt.shaped (.list (kn.map .str)) = true := by
  unfold SeqAt.shaped
  rw [Bool.and_eq_true]
  refine ⟨xyz_lay kn h, decide_eq_true ?_⟩
  have := xyz_depth kn
  show PyData.depthAll (kn.map .str) + 1 ≤ 64
  omega
def sdn : Nat → Nat
  | 0 => 40
  | d + 1 => 40 + 2 * sdn d
def sns : Nat → Nat
  | 0 => 1
  | d + 1 => 1 + 2 * sns d
/-- a sentence of the rows' names, of known great names -/
def Sn.good (R S : List Row) : List Str → Sn → Prop
  | kn, .atm false as => ∃ (r : Row) (ds : List PyData), as = [.tuple (.str r.1 :: ds)] ∧ r ∈ S ∧ r.2.1 = ds.length ∧ TOkL R kn ds
  | kn, .atm true as => ∃ t u, as = [t, u] ∧ TOk R kn t ∧ TOk R kn u
  | kn, .qu _ x s => PyData.strOk x = true ∧ Sn.good R S (kn ++ [x]) s
  | kn, .one s => Sn.good R S kn s
  | kn, .two _ a b => Sn.good R S kn a ∧ Sn.good R S kn b
structure DSn (R S : List Row) (kn : List Str) (deep : Nat) (s : Sn) : Prop where
  ok : s.ok = true
  wf : s.wf = true
  size : s.size ≤ sns deep
  hi : s.hi ≤ deep + 1
  names : ∀ q ∈ s.occs, q.1 ∈ R.map (·.1) ∨ q.1 ∈ S.map (·.1)
  good : Sn.good R S kn s
structure SOk (S : List Row) : Prop where
  ne : S ≠ []
  few : S.length ≤ 1000
  names : ∀ r ∈ S, r.2.1 ≤ 3
theorem sns_pos : ∀ d, 1 ≤ sns d
  | 0 => Nat.le_refl _
  | _ + 1 => Nat.le_add_right _ _
theorem sdn_pos : ∀ d, 40 ≤ sdn d
  | 0 => Nat.le_refl _
  | _ + 1 => Nat.le_add_right _ _
section
variable {P : Program} {w : World} {K : PySem.W.Frag} {mg : Str → Option Value} {base : Heap}
def spDS (K : PySem.W.Frag) (n : Nat) : Sp := fun vs H Q _ => ∃ (p l ra kl : Addr) (ns : List Int) (c deep : Nat) (kn : List Str) (R S : List Row), vs = [.ref p, .ref ra, .int (deep : Int), .ref kl] ∧ Pn.Pen H p l ns c ∧ ns.length ≤ 1000 ∧ c + sdn deep ≤ 1000000000 ∧ OrdAt K H ra R S ∧ ROk R ∧ SOk S ∧
  deep < n ∧ H kl = some (.lst (kn.map V.str)) ∧ (∀ x ∈ kn, x ∈ xyz) ∧ kn.length + deep ≤ 50 ∧ kl ≠ p ∧ ∀ s v H' c', Dp K H' v s.d → DSn R S kn deep s → c' ≤ c + sdn deep → Pn.Pen H' p l ns c' → Pn.But p H H' → Q v H'
theorem ok_ds {f f1 f2 f3 : Addr} {fd d1 d2 d3 : FuncData} {k : Nat} (F : Fun K "_law_drawn_sentence" "_law_drawn_sentence" sDS f fd) (gF : mg "_law_drawn_sentence" = some (.ref f)) (bF : Binds K fd ["_law_pen_here", "_law_rows", "_law_deep", "_law_known"] [])
    (hDraw0 : Has P w K mg base k "_law_draw" ["_law_pen_here", "_law_many"] Pn.spDraw f1 d1) (hPick0 : Has P w K mg base k "_law_pick" ["_law_pen_here", "_law_some"] (Pn.spPick K) f2 d2) (hPickT0 : Has P w K mg base k "_law_pick" ["_law_pen_here", "_law_some"] (spPickT K) f2 d2) (hSp0 : Has P w K mg base k "_law_drawn_spoken" ["_law_pen_here", "_law_rows", "_law_deep", "_law_known"] (spDrawnSp K 5) f3 d3)
    (m_tuple : mg "tuple" = none) (m_range : mg "range" = none) : ∀ n, FnOk P w K mg base CX0 (k + n) f fd ["_law_pen_here", "_law_rows", "_law_deep", "_law_known"] (spDS K n)
  | 0 => vac fun vs H Q E ⟨_, _, _, _, _, _, _, _, _, _, _, _, _, _, _, _, _, z, _⟩ => absurd z (Nat.not_lt_zero _)
  | n + 1 => by
    have IH : FnOk P w K mg base CX0 (k + n) f fd ["_law_pen_here", "_law_rows", "_law_deep", "_law_known"] (spDS K n) := ok_ds F gF bF hDraw0 hPick0 hPickT0 hSp0 m_tuple m_range n
    have hMe : Has P w K mg base (k + n) "_law_drawn_sentence" ["_law_pen_here", "_law_rows", "_law_deep", "_law_known"] (spDS K n) f fd := ⟨IH, gF, F.kp, bF⟩
    have hDraw : Has P w K mg base (k + n) "_law_draw" ["_law_pen_here", "_law_many"] Pn.spDraw f1 d1 := ⟨hDraw0.G.mono (Nat.le_add_right _ _), hDraw0.g, hDraw0.kp, hDraw0.b⟩
    have hPick : Has P w K mg base (k + n) "_law_pick" ["_law_pen_here", "_law_some"] (Pn.spPick K) f2 d2 := ⟨hPick0.G.mono (Nat.le_add_right _ _), hPick0.g, hPick0.kp, hPick0.b⟩
    have hPickT : Has P w K mg base (k + n) "_law_pick" ["_law_pen_here", "_law_some"] (spPickT K) f2 d2 := ⟨hPickT0.G.mono (Nat.le_add_right _ _), hPickT0.g, hPickT0.kp, hPickT0.b⟩
    have hSp : Has P w K mg base (k + n) "_law_drawn_spoken" ["_law_pen_here", "_law_rows", "_law_deep", "_law_known"] (spDrawnSp K 5) f3 d3 := ⟨hSp0.G.mono (Nat.le_add_right _ _), hSp0.g, hSp0.kp, hSp0.b⟩
    refine F.ok scDS (fun vs H Q E h => ?_) (fun cdv A outer s H vs Q E hr h => ?_)
    · obtain ⟨p, l, ra, kl, ns, c, deep, kn, R, S, rfl, _⟩ := h
      rfl
    · obtain ⟨p, l, ra, kl, ns, c, deep, kn, R, S, rfl, hP, hlen, hc, hO, okR, okS, hd, hK, kx, kfew, klp, q⟩ := h
      refine ⟨_, (C8.pss_cut (ps_set (i := 4) scDS.nd rfl (.inl rfl) (pe_ifExp (pt_cmpR op_gt (pv 2) pe_int (nomark _)) (pe_call hDraw.G hr (by rfl) hDraw.g hDraw.kp hDraw.b .nil pass0 (pa_cons (pv 0) (pa_cons pe_int pa_nil))) (pe_call hDraw.G hr (by rfl) hDraw.g hDraw.kp hDraw.b .nil pass0 (pa_cons (pv 0) (pa_cons pe_int pa_nil)))))
    (pss_cons (ps_if (pt_cmpR op_eq (pv 4) pe_int (nomark _))
      (pss_cons (ps_asg (pe_call hPickT.G hr (by rfl) hPickT.g hPickT.kp hPickT.b .nil pass0 (pa_cons (pv 0) (pa_cons (pe_ix ix_tup (pv 1) pe_int (fun _ _ => rfl)) pa_nil))) (pg_tup rfl (pgs_cons (pg_name (i := 5) scDS.nd rfl (.inl rfl)) (pgs_cons (pg_name (i := 6) scDS.nd rfl (.inl rfl)) (pgs_cons (pg_name (i := 7) scDS.nd rfl (.inl rfl)) pgs_nil)))))
      (pss_one (ps_ret (pe_tup (pa_cons pe_str (pa_cons (pe_op op_catT (pe_tup (pa_cons (pv 5) pa_nil)) (pe_callTy call_tuple_of (by rfl) m_tuple (by decide +kernel) (pa_cons (pe_lc (own := [("_law_k", 10)]) (g := gName 10) (tt := tYes) rfl scDS.nd (pi_range1 (by rfl) m_range (pa_cons (pv 6) pa_nil)) (blkOk_by (N := ["_law_pen_here", "_law_rows", "_law_deep", "_law_known", "_law_way", "_law_name", "_law_arity", "_law_weight", "_law_word", "_law_one", "_law_k"]) (sc := defScope sDS) (by decide +kernel)) (fun _ _ _ _ _ => (pg_name (i := 10) scDS.nd rfl (.inl rfl))) (fun _ _ _ _ _ => pts_nil) (fun _ _ _ _ _ => (pe_call hSp.G hr (by rfl) hSp.g hSp.kp hSp.b .nil pass0 (pa_cons (pv 0) (pa_cons (pv 1) (pa_cons pe_int (pa_cons (pv 3) pa_nil))))))) pa_nil))) pa_nil)))))) pss_nil)
    (pss_cons (ps_if (pt_cmpR op_eq (pv 4) pe_int (nomark _))
      (pss_one (ps_ret (pe_tup (pa_cons pe_str (pa_cons (pe_call hSp.G hr (by rfl) hSp.g hSp.kp hSp.b .nil pass0 (pa_cons (pv 0) (pa_cons (pv 1) (pa_cons pe_int (pa_cons (pv 3) pa_nil))))) (pa_cons (pe_call hSp.G hr (by rfl) hSp.g hSp.kp hSp.b .nil pass0 (pa_cons (pv 0) (pa_cons (pv 1) (pa_cons pe_int (pa_cons (pv 3) pa_nil))))) pa_nil)))))) pss_nil)
    (pss_cons (ps_if (pt_cmpR op_eq (pv 4) pe_int (nomark _))
      (pss_one (ps_ret (pe_tup (pa_cons pe_str (pa_cons (pe_call hMe.G hr (by rfl) hMe.g hMe.kp hMe.b .nil pass0 (pa_cons (pv 0) (pa_cons (pv 1) (pa_cons (pe_op op_sub (pv 2) pe_int) (pa_cons (pv 3) pa_nil))))) pa_nil))))) pss_nil)
    (pss_cons (ps_if (pt_cmpR op_lt (pv 4) pe_int (nomark _))
      (pss_cons (ps_set (i := 8) scDS.nd rfl (.inl rfl) (pe_call hPick.G hr (by rfl) hPick.g hPick.kp hPick.b .nil pass0 (pa_cons (pv 0) (pa_cons (pe_lst (pa_cons pe_str (pa_cons pe_str (pa_cons pe_str (pa_cons pe_str pa_nil))))) pa_nil))))
      (pss_cons (ps_set (i := 9) scDS.nd rfl (.inl rfl) (pe_call hMe.G hr (by rfl) hMe.g hMe.kp hMe.b .nil pass0 (pa_cons (pv 0) (pa_cons (pv 1) (pa_cons (pe_op op_sub (pv 2) pe_int) (pa_cons (pv 3) pa_nil))))))
      (pss_one (ps_ret (pe_tup (pa_cons (pv 8) (pa_cons (pv 9) (pa_cons (pe_call hMe.G hr (by rfl) hMe.g hMe.kp hMe.b .nil pass0 (pa_cons (pv 0) (pa_cons (pv 1) (pa_cons (pe_op op_sub (pv 2) pe_int) (pa_cons (pv 3) pa_nil))))) pa_nil)))))))) pss_nil)
    (pss_cons (ps_set (i := 5) scDS.nd rfl (.inl rfl) (pe_call hPick.G hr (by rfl) hPick.g hPick.kp hPick.b .nil pass0 (pa_cons (pv 0) (pa_cons (pe_lst (pa_cons pe_str (pa_cons pe_str (pa_cons pe_str pa_nil)))) pa_nil))))
    (pss_one (ps_ret (pe_tup (pa_cons (pe_call hPick.G hr (by rfl) hPick.g hPick.kp hPick.b .nil pass0 (pa_cons (pv 0) (pa_cons (pe_lst (pa_cons pe_str (pa_cons pe_str pa_nil))) pa_nil))) (pa_cons (pv 5) (pa_cons (pe_call hMe.G hr (by rfl) hMe.g hMe.kp hMe.b .nil pass0 (pa_cons (pv 0) (pa_cons (pv 1) (pa_cons (pe_op op_sub (pv 2) pe_int) (pa_cons (pe_op op_cat (pv 3) (pe_lst (pa_cons (pv 5) pa_nil))) pa_nil))))) pa_nil)))))))))))), ?_⟩
      have big := sdn_pos deep
      -- the way
      refine ⟨fun σ G => ∃ (m : Int), σ = [some (.ref p), some (.ref ra), some (.int (deep : Int)), some (.ref kl), some (.int m), none, none, none, none, none, none] ∧ 0 ≤ m ∧ (deep = 0 → m < 2) ∧ Pn.Pen G p l ns (c + 1) ∧ Pn.But p H G, ?_, ?_⟩
      · refine ⟨.int (deep : Int), rfl, _, _, rfl, rfl, _, rfl, ?_⟩
        refine ite2 (fun h => ?_) (fun h => ?_)
        · have hp : (0 : Int) < (deep : Int) := of_decide_eq_true h
          exact ⟨.ref p, rfl, p, l, ns, c, 8, rfl, hP, hlen, by omega, by decide, by decide, fun m G m0 m1 P1 b1 => ⟨m, rfl, m0, fun z => by omega, P1, b1⟩⟩
        · exact ⟨.ref p, rfl, p, l, ns, c, 2, rfl, hP, hlen, by omega, by decide, by decide, fun m G m0 m1 P1 b1 => ⟨m, rfl, m0, fun _ => m1, P1, b1⟩⟩
      rintro σ G ⟨m, rfl, m0, mdeep, P1, b1⟩
      have hO1 := hO.mono (pen_tk hP b1)
      have hK1 := b1 _ _ klp hK
      have fresh : ∀ {G : Hp} {c : Nat} {b : Addr}, Pn.Pen G p l ns c → G b = none → b ≠ p := fun P n z => by
        obtain ⟨⟨_, _, _, e, _⟩, _⟩ := P
        rw [z, e] at n
        cases n
      refine ⟨.int m, rfl, rfl, _, rfl, ite2 (fun _ => ?_) (fun n0 => ?_)⟩
      · -- is
        have dn1 : dn 1 = 8 := rfl
        have sz1 : sz 1 = 4 := rfl
        obtain ⟨rb1, rb2, vs1, vs2, q0, q1, q2, f1, f2⟩ := id hO1
        have lS := f2.len
        have fewS := okS.few
        refine ⟨.ref p, rfl, .ref ra, rfl, ra, _, 1, .ref rb2, rfl, rfl, q0, atI_nat (j := 1) rfl, p, l, rb2, ns, c + 1, vs2, rfl, P1, hlen, by omega, q2, (fun z => by rw [z] at lS; exact okS.ne (List.length_eq_zero_iff.mp lS.symm)), by omega, fun x G2 hx P2 b2 => ?_⟩
        obtain ⟨r, hrS, ⟨b, rfl, sqb⟩⟩ := f2.mem hx
        have ar3 := okS.names r hrS
        have b12 := b1.trans b2
        refine ⟨b, _, rfl, (pen_tk P1 b2).sq sqb, rfl, .str r.1, _, rfl, .int (r.2.1 : Int), _, rfl, .int r.2.2, _, rfl, rfl, ?_⟩
        refine ⟨.str r.1, rfl, by show 1 ≤ sizeLine; decide, fun p4 n4 => ?_⟩
        have m4 : (upd G2 p4 (.tup [.str r.1])) p4 = some (.tup [.str r.1]) := upd_same
        have s4 : Same G2 (upd G2 p4 (.tup [.str r.1])) := same_new (fun b o e => e) n4 _
        have P4 := pen_same P2 s4
        have b14 := b12.trans (Pn.But.of s4)
        have n4p := fresh P2 n4
        generalize upd G2 p4 (.tup [.str r.1]) = G4 at m4 s4 P4 b14
        refine ⟨.int (r.2.1 : Int), rfl, _, rfl, by omega, by omega, fun D2 nD2 => ?_⟩
        have pD2 : D2 ≠ p := fresh P4 nD2
        have P4' := pen_same P4 (same_new (fun b o e => e) nD2 (.lst []))
        refine lc_range (lo := 0) (n := ((r.2.1 : Int)).toNat) (fun i G5 => ∃ (ts : List PyData) (acc : List V) (c5 : Nat), Pn.But p G4 G5 ∧ G5 D2 = some (.lst acc) ∧ DpAll K G5 acc ts ∧ ts.length = i ∧ Pn.Pen G5 p l ns c5 ∧ c5 ≤ c + 2 + i * 8 ∧
          (∀ t ∈ ts, DSp R kn 1 t)) ⟨[], [], c + 2, Pn.But.of (same_new (fun b o e => e) nD2 _), upd_same, .nil, rfl, P4', by omega, fun t ht => nomatch ht⟩ ?_ ?_
        · rintro i G5 hi ⟨ts, acc, c5, b5, gD, all, len, P5, hc5, dts⟩
          have hi' : i < r.2.1 := by omega
          have b15 := b14.trans b5
          have lK := b15 _ _ klp hK
          refine ⟨rfl, .ref p, rfl, .ref ra, rfl, .ref kl, rfl, p, l, ra, kl, ns, c5, 1, kn, R, rfl, P5, hlen, by omega, (hO.mono (pen_tk hP b15)).rows, okR, by decide, .inl (.inl lK), xyz_shaped kx, by omega, klp, fun t v G6 c6 tv dt hc6 P6 b6 => ?_⟩
          have g6 : G6 D2 = some (.lst acc) := b6 _ _ pD2 gD
          have k6 : TK G5 G6 := pen_tk P5 b6
          have kk : TK G6 (upd G6 D2 (.lst (acc ++ [v]))) := TK.lst g6 _
          have la := dpAll_len all
          have wfs : wfTL ts = true := wfTL_of fun t ht => (dts t ht).wf
          refine ⟨acc, g6, by rw [sizeLine_eq]; omega, ts ++ [t], acc ++ [v], c6, ?_, upd_same, dpAll_app (wf_tkL (k6.trans kk) _ _ wfs all) (.cons (wf_tk kk _ _ dt.wf tv) .nil), by rw [List.length_append, List.length_singleton, len], ?_, ?_, ?_⟩
          · intro b o nb e
            have e2 := b6 _ _ nb (b5 _ _ nb e)
            have nbD : b ≠ D2 := fun z => by rw [z, nD2] at e; cases e
            rw [upd_ne nbD]
            exact e2
          · obtain ⟨⟨a1, a2, a3, a4, a5⟩, a6⟩ := P6
            have lD : l ≠ D2 := fun z => by
              have e := P4.ls
              rw [z, nD2] at e
              cases e
            exact ⟨⟨a1, a2, a3, by rw [upd_ne pD2.symm]; exact a4, a5⟩, by rw [upd_ne lD]; exact a6⟩
          · rw [Nat.succ_mul]
            omega
          · intro t' ht'
            rcases List.mem_append.mp ht' with z | z
            · exact dts t' z
            · rw [List.mem_singleton.mp z]
              exact dt
        · rintro G5 ⟨ts, acc, c5, b5, gD, all, len, P5, hc5, dts⟩
          have b15 := b14.trans b5
          have la := dpAll_len all
          have m4' : G5 p4 = some (.tup [.str r.1]) := b5 _ _ n4p m4
          refine ⟨D2, acc, rfl, .inl ⟨.inl (.inl gD), fun p6 n6 => ?_⟩⟩
          have s6 : Same G5 (upd G5 p6 (.tup acc)) := same_new (fun b o e => e) n6 _
          have m6 : (upd G5 p6 (.tup acc)) p6 = some (.tup acc) := upd_same
          have P6 := pen_same P5 s6
          have b16 := b15.trans (Pn.But.of s6)
          have all6 := dpAll_same s6 all
          have m4'' := s6 _ _ m4'
          generalize upd G5 p6 (.tup acc) = G6 at s6 m6 P6 b16 all6 m4''
          have sizes : ∀ (us : List PyData), (∀ t ∈ us, (partsD t).length ≤ 4) → (partsDL us).length ≤ us.length * 4 := by
            intro us
            induction us with
            | nil => intro _; exact Nat.zero_le _
            | cons u us ih =>
              intro h
              have h1 := h u List.mem_cons_self
              have h2 := ih fun t ht => h t (List.mem_cons_of_mem _ ht)
              show (partsD u ++ partsDL us).length ≤ (us.length + 1) * 4
              rw [List.length_append, Nat.succ_mul]
              omega
          have nms : ∀ us : List PyData, (∀ t ∈ us, ∀ b q, q ∈ occ b t → q.1 ∈ R.map (·.1)) → ∀ q ∈ occL us, q.1 ∈ R.map (·.1) := by
            intro us
            induction us with
            | nil => intro _ q hq; cases hq
            | cons u us ih =>
              intro h q hq
              rcases List.mem_append.mp (show q ∈ occ false u ++ occL us from hq) with z | z
              · exact h u List.mem_cons_self false q z
              · exact ih (fun t ht => h t (List.mem_cons_of_mem _ ht)) q z
          have hs := sizes ts fun t ht => (dts t ht).size
          have hn := nms ts fun t ht => (dts t ht).names
          have lp : (partsDL [PyData.tuple (.str r.1 :: ts)]).length = 1 + (partsDL ts).length := by
            show ((PyData.tuple (.str r.1 :: ts) :: partsDL ts) ++ []).length = _
            rw [List.append_nil, List.length_cons]
            omega
          have hw : wfTL [PyData.tuple (.str r.1 :: ts)] = true := by
            show ((true && wfTL ts) && true) = true
            rw [wfTL_of fun t ht => (dts t ht).wf]
            rfl
          have hm : ((r.2.1 : Int)).toNat * 8 ≤ 3 * 8 := Nat.mul_le_mul_right _ (by omega)
          have hm2 : ts.length * 4 ≤ 3 * 4 := Nat.mul_le_mul_right _ (by omega)
          have dsn : DSn R S kn deep (.atm false [.tuple (.str r.1 :: ts)]) := by
            refine ⟨rfl, ?_, sns_pos _, Nat.le_add_left 1 _, ?_, ⟨r, ts, rfl, hrS, (show r.2.1 = ts.length by omega), TOkL_of fun t ht => (dts t ht).tok⟩⟩
            · show (decide (1 = 1) && (wfTL [PyData.tuple (.str r.1 :: ts)] && (true && decide ((partsDL [PyData.tuple (.str r.1 :: ts)]).length ≤ 40)))) = true
              rw [hw, decide_eq_true (show (partsDL [PyData.tuple (.str r.1 :: ts)]).length ≤ 40 by omega)]
              rfl
            · intro z hz
              rcases List.mem_cons.mp (show z ∈ (r.1, ts.length, true) :: occL ts from hz) with rfl | y
              · exact .inr (List.mem_map.mpr ⟨r, hrS, rfl⟩)
              · exact .inl (hn z y)
          have fin : ∀ (G7 : Hp) (a7 : Addr), Same G6 G7 → SqT K G7 a7 (.str r.1 :: acc) → 2 ≤ sizeLine ∧ ∀ t, G7 t = none → Q (.ref t) (upd G7 t (.tup [.str "is", .ref a7])) := by
            intro G7 a7 s7 sq7
            refine ⟨by rw [sizeLine_eq]; decide, fun t nt => ?_⟩
            have s8 : Same G7 (upd G7 t (.tup [.str "is", .ref a7])) := same_new (fun b o e => e) nt _
            exact q (.atm false [.tuple (.str r.1 :: ts)]) (.ref t) _ c5 (.tup (.inl (.inl upd_same)) (.cons (.str _) (.cons (.tup ((TK.same s8).sq sq7) (.cons (.str _) (dpAll_same (s7.trans s8) all6))) .nil))) dsn (by omega) (pen_same P6 (s7.trans s8)) (b16.trans (Pn.But.of (s7.trans s8)))
          refine ⟨p4, p6, _, _, rfl, rfl, .inl (.inl m4''), .inl (.inl m6), by simp, by rw [List.length_singleton, sizeLine_eq]; omega, fun e => ?_, fun e p7 n7 => ?_⟩
          · exact fin G6 p4 (Same.refl _) (by rw [e]; exact .inl (.inl m4''))
          · exact fin _ p7 (same_new (fun b o e => e) n7 _) (.inl (.inl upd_same))
      refine ⟨.int m, rfl, rfl, _, rfl, ite2 (fun _ => ?_) (fun n1 => ?_)⟩
      · -- equal
        have dn1 : dn 1 = 8 := rfl
        refine ⟨.ref p, rfl, .ref ra, rfl, .ref kl, rfl, p, l, ra, kl, ns, c + 1, 1, kn, R, rfl, P1, hlen, by omega, hO1.rows, okR, by decide, .inl (.inl hK1), xyz_shaped kx, by omega, klp, fun t1 v1 G2 c2 h1 ds1 hc2 P2 b2 => ?_⟩
        refine ⟨.ref p, rfl, .ref ra, rfl, .ref kl, rfl, p, l, ra, kl, ns, c2, 1, kn, R, rfl, P2, hlen, by omega, (hO1.mono (pen_tk P1 b2)).rows, okR, by decide, .inl (.inl (b2 _ _ klp hK1)), xyz_shaped kx, by omega, klp, fun t2 v2 G3 c3 h2 ds2 hc3 P3 b3 => ⟨by show 3 ≤ sizeLine; rw [sizeLine_eq]; decide, fun t nt => ?_⟩⟩
        have s4 : Same G3 (upd G3 t (.tup [.str "equal", v1, v2])) := same_new (fun b o e => e) nt _
        have z1 := ds1.size
        have z2 := ds2.size
        have sz1 : sz 1 = 4 := rfl
        have lp : (partsDL [t1, t2]).length = (partsD t1).length + (partsD t2).length := by
          show (partsD t1 ++ (partsD t2 ++ [])).length = _
          rw [List.append_nil, List.length_append]
        have hw : wfTL [t1, t2] = true := by
          show (wfT t1 && (wfT t2 && true)) = true
          rw [ds1.wf, ds2.wf]
          rfl
        refine q (.atm true [t1, t2]) (.ref t) _ c3 (.tup (.inl (.inl upd_same)) (.cons (.str _) (.cons (wf_tk ((pen_tk P2 b3).trans (TK.same s4)) _ _ ds1.wf h1) (.cons (dp_same s4 h2) .nil)))) ⟨rfl, ?_, sns_pos _, Nat.le_add_left 1 _, ?_, ⟨t1, t2, rfl, ds1.tok, ds2.tok⟩⟩ (by omega) (pen_same P3 s4) (((b1.trans b2).trans b3).trans (Pn.But.of s4))
        · show (decide (2 = 2) && (wfTL [t1, t2] && decide ((partsDL [t1, t2]).length ≤ 40))) = true
          rw [hw, decide_eq_true (show (partsDL [t1, t2]).length ≤ 40 by omega)]
          rfl
        · intro z hz
          rcases List.mem_append.mp (show z ∈ occ false t1 ++ (occ false t2 ++ []) from hz) with y | y
          · exact .inl (ds1.names false z y)
          · rw [List.append_nil] at y
            exact .inl (ds2.names false z y)
      have dpos : 0 < deep := by
        rcases Nat.eq_zero_or_pos deep with z | z
        · have m2 := mdeep z
          have e0 : m ≠ 0 := fun e => by rw [e] at n0; exact absurd n0 (by decide)
          have e1 : m ≠ 1 := fun e => by rw [e] at n1; exact absurd n1 (by decide)
          omega
        · exact z
      obtain ⟨d', rfl⟩ : ∃ d', deep = d' + 1 := ⟨deep - 1, by omega⟩
      have dd : sdn (d' + 1) = 40 + 2 * sdn d' := rfl
      have ez : (((d' + 1 : Nat)) : Int) - 1 = (d' : Int) := by omega
      refine ⟨.int m, rfl, rfl, _, rfl, ite2 (fun _ => ?_) (fun n2 => ?_)⟩
      · -- not
        refine ⟨.ref p, rfl, .ref ra, rfl, .int ((d' + 1 : Nat) : Int), rfl, _, _, rfl, rfl, .ref kl, rfl, p, l, ra, kl, ns, c + 1, d', kn, R, S, ?_, P1, hlen, by omega, hO1, okR, okS, by omega, hK1, kx, by omega, klp, fun s v G2 c2 hv ds hc2 P2 b2 => ⟨by show 2 ≤ sizeLine; rw [sizeLine_eq]; decide, fun t nt => ?_⟩⟩
        · show [V.ref p, V.ref ra, V.int (((d' + 1 : Nat) : Int) - 1), V.ref kl] = _
          rw [ez]
        · have s3 : Same G2 (upd G2 t (.tup [.str "not", v])) := same_new (fun b o e => e) nt _
          have z1 := ds.size
          have z0 := sns_pos d'
          refine q (.one s) (.ref t) _ c2 (.tup (.inl (.inl upd_same)) (.cons (.str _) (.cons (dp_same s3 hv) .nil))) ⟨ds.ok, ds.wf, ?_, (by have := ds.hi; show 1 + s.hi ≤ d' + 1 + 1; omega), ds.names, ds.good⟩ (by omega) (pen_same P2 s3) ((b1.trans b2).trans (Pn.But.of s3))
          show 1 + s.size ≤ 1 + 2 * sns d'
          omega
      refine ⟨.int m, rfl, _, _, rfl, rfl, _, rfl, ite2 (fun _ => ?_) (fun n3 => ?_)⟩
      · -- and, or, then, same
        refine to_set ?_
        refine ⟨.ref p, rfl, by show 4 ≤ sizeLine; rw [sizeLine_eq]; decide, fun lw nw => ?_⟩
        have s2 : Same G (upd G lw (.lst [.str "and", .str "or", .str "then", .str "same"])) := same_new (fun b o e => e) nw _
        refine ⟨p, l, lw, ns, c + 1, _, rfl, pen_same P1 s2, hlen, by omega, .inl (.inl (.inl upd_same)), by simp, by show 4 ≤ 1000000; decide, fresh P1 nw, fun x G2 hx P2 b2 => ?_⟩
        obtain ⟨wd, hwd, rfl⟩ : ∃ wd, wd ∈ (["and", "or", "then", "same"] : List Str) ∧ V.str wd = x := List.mem_map.mp (show x ∈ (["and", "or", "then", "same"] : List Str).map V.str from hx)
        have b12 := (b1.trans (Pn.But.of s2)).trans b2
        refine to_set ?_
        refine ⟨.ref p, rfl, .ref ra, rfl, .int ((d' + 1 : Nat) : Int), rfl, _, _, rfl, rfl, .ref kl, rfl, p, l, ra, kl, ns, c + 2, d', kn, R, S, ?_, P2, hlen, by omega, hO.mono (pen_tk hP b12), okR, okS, by omega, b12 _ _ klp hK, kx, by omega, klp, fun sa va G3 c3 ha dsa hc3 P3 b3 => ?_⟩
        · show [V.ref p, V.ref ra, V.int (((d' + 1 : Nat) : Int) - 1), V.ref kl] = _
          rw [ez]
        have b13 := b12.trans b3
        refine ⟨.str wd, rfl, va, rfl, .ref p, rfl, .ref ra, rfl, .int ((d' + 1 : Nat) : Int), rfl, _, _, rfl, rfl, .ref kl, rfl, p, l, ra, kl, ns, c3, d', kn, R, S, ?_, P3, hlen, by omega, hO.mono (pen_tk hP b13), okR, okS, by omega, b13 _ _ klp hK, kx, by omega, klp, fun sb vb G4 c4 hvb dsb hc4 P4 b4 => ⟨by show 3 ≤ sizeLine; rw [sizeLine_eq]; decide, fun t nt => ?_⟩⟩
        · show [V.ref p, V.ref ra, V.int (((d' + 1 : Nat) : Int) - 1), V.ref kl] = _
          rw [ez]
        · have s5 : Same G4 (upd G4 t (.tup [.str wd, va, vb])) := same_new (fun b o e => e) nt _
          have z1 := dsa.size
          have z2 := dsb.size
          refine q (.two wd sa sb) (.ref t) _ c4 (.tup (.inl (.inl upd_same)) (.cons (.str _) (.cons (dp_same s5 (sn_tk (pen_tk P3 b4) sa va dsa.wf ha)) (.cons (dp_same s5 hvb) .nil)))) ⟨?_, ?_, ?_, (by have := dsa.hi; have := dsb.hi; show 1 + max sa.hi sb.hi ≤ d' + 1 + 1; omega), ?_, dsa.good, dsb.good⟩ (by omega) (pen_same P4 s5) ((b13.trans b4).trans (Pn.But.of s5))
          · show (decide (wd ∈ (["and", "or", "then", "same"] : List Str)) && (sa.ok && sb.ok)) = true
            rw [decide_eq_true hwd, dsa.ok, dsb.ok]
            rfl
          · show (sa.wf && sb.wf) = true
            rw [dsa.wf, dsb.wf]
            rfl
          · show 1 + sa.size + sb.size ≤ 1 + 2 * sns d'
            omega
          · intro z hz
            rcases List.mem_append.mp (show z ∈ sa.occs ++ sb.occs from hz) with y | y
            · exact dsa.names z y
            · exact dsb.names z y
      -- all, some
      refine ⟨.ref p, rfl, by show 3 ≤ sizeLine; rw [sizeLine_eq]; decide, fun lw nw => ?_⟩
      have s2 : Same G (upd G lw (.lst [.str "X", .str "Y", .str "Z"])) := same_new (fun b o e => e) nw _
      refine ⟨p, l, lw, ns, c + 1, _, rfl, pen_same P1 s2, hlen, by omega, .inl (.inl (.inl upd_same)), by simp, by show 3 ≤ 1000000; decide, fresh P1 nw, fun x G2 hx P2 b2 => ?_⟩
      obtain ⟨gn, hgn3, rfl⟩ : ∃ gn, gn ∈ xyz3 ∧ V.str gn = x := List.mem_map.mp (show x ∈ xyz3.map V.str from hx)
      have hgn := xyz3_in hgn3
      have b12 := (b1.trans (Pn.But.of s2)).trans b2
      refine ⟨.ref p, rfl, by show 2 ≤ sizeLine; rw [sizeLine_eq]; decide, fun lv nv => ?_⟩
      have s3 : Same G2 (upd G2 lv (.lst [.str "all", .str "some"])) := same_new (fun b o e => e) nv _
      refine ⟨p, l, lv, ns, c + 2, _, rfl, pen_same P2 s3, hlen, by omega, .inl (.inl (.inl upd_same)), by simp, by show 2 ≤ 1000000; decide, fresh P2 nv, fun x G3 hx P3 b3 => ?_⟩
      obtain ⟨al, rfl⟩ : ∃ al : Bool, V.str (Sn.word (.qu al "" (.one (.atm true [])))) = x := by
        rcases List.mem_cons.mp hx with rfl | hx
        · exact ⟨true, rfl⟩
        · cases List.mem_singleton.mp hx
          exact ⟨false, rfl⟩
      have b13 := (b12.trans (Pn.But.of s3)).trans b3
      have hK3 := b13 _ _ klp hK
      refine ⟨.str gn, rfl, .ref p, rfl, .ref ra, rfl, .int ((d' + 1 : Nat) : Int), rfl, _, _, rfl, rfl, .ref kl, rfl, .str gn, rfl, by show 1 ≤ sizeLine; decide, fun l4 n4 => ?_⟩
      have s4 : Same G3 (upd G3 l4 (.lst [.str gn])) := same_new (fun b o e => e) n4 _
      refine ⟨kl, l4, _, _, rfl, rfl, s4 _ _ hK3, upd_same, by rw [List.length_map, sizeLine_eq]; show kn.length + 1 ≤ _; omega, fun l5 n5 => ?_⟩
      have s5 : Same (upd G3 l4 (.lst [.str gn])) (upd (upd G3 l4 (.lst [.str gn])) l5 (.lst (kn.map V.str ++ [.str gn]))) := same_new (fun b o e => e) n5 _
      have e5 : (upd (upd G3 l4 (.lst [.str gn])) l5 (.lst (kn.map V.str ++ [.str gn]))) l5 = some (.lst ((kn ++ [gn]).map V.str)) := by
        rw [upd_same, List.map_append]
        rfl
      have P5 := pen_same (pen_same P3 s4) s5
      have b15 := (b13.trans (Pn.But.of s4)).trans (Pn.But.of s5)
      have l5p := fresh (pen_same P3 s4) n5
      generalize upd (upd G3 l4 (.lst [.str gn])) l5 (.lst (kn.map V.str ++ [.str gn])) = G5 at e5 P5 b15
      refine ⟨p, l, ra, l5, ns, c + 3, d', kn ++ [gn], R, S, ?_, P5, hlen, by omega, hO.mono (pen_tk hP b15), okR, okS, by omega, e5, ?_, ?_, l5p, fun s v G6 c6 hv ds hc6 P6 b6 => ⟨by show 3 ≤ sizeLine; rw [sizeLine_eq]; decide, fun t nt => ?_⟩⟩
      · show [V.ref p, V.ref ra, V.int (((d' + 1 : Nat) : Int) - 1), V.ref l5] = _
        rw [ez]
      · intro y hy
        rcases List.mem_append.mp hy with z | z
        · exact kx y z
        · cases List.mem_singleton.mp z
          exact hgn
      · rw [List.length_append]
        show kn.length + 1 + d' ≤ 50
        omega
      · have s7 : Same G6 (upd G6 t (.tup [.str (Sn.word (.qu al "" (.one (.atm true [])))), .str gn, v])) := same_new (fun b o e => e) nt _
        have z1 := ds.size
        have z0 := sns_pos d'
        refine q (.qu al gn s) (.ref t) _ c6 (.tup (.inl (.inl upd_same)) (.cons (.str _) (.cons (.str _) (.cons (dp_same s7 hv) .nil)))) ⟨ds.ok, ds.wf, ?_, (by have := ds.hi; show 1 + s.hi ≤ d' + 1 + 1; omega), ds.names, xyz_strOk hgn, ds.good⟩ (by omega) (pen_same P6 s7) ((b15.trans b6).trans (Pn.But.of s7))
        show 1 + s.size ≤ 1 + 2 * sns d'
        omega
end
end Ad

/-! Structures: what terms and sentences come to in them. -/
namespace Ad
open PySem PySem.Spec PySem.Calls PyProof.Rows L2
/-- a structure: its size, a row of values for each name -/
structure Mo where
  size : Nat
  tab : Str → List V
abbrev En := Str → Option Nat
def En.set (E : En) (x : Str) (n : Nat) : En := fun y => if y = x then some n else E y
def natV : V → Nat
  | .int i => i.toNat
  | _ => 0
def truV : V → Bool
  | .bl b => b
  | _ => false
mutual
def evT (M : Mo) (E : En) : PyData → V
  | .str x => match E x with
    | some n => .int (n : Int)
    | none => .non
  | .tuple [] => .non
  | .tuple (x :: ds) => ((M.tab (nameD x))[ixL M E 0 ds]?).getD .non
  | .none => .non
  | .bool _ => .non
  | .int _ => .non
  | .list _ => .non
  | .dict _ => .non
/-- the place in a table -/
def ixL (M : Mo) (E : En) : Nat → List PyData → Nat
  | p, [] => p
  | p, d :: ds => ixL M E (p * M.size + natV (evT M E d)) ds
end
theorem ixL_app (M : Mo) (E : En) : ∀ (ds es : List PyData) (p : Nat), ixL M E p (ds ++ es) = ixL M E (ixL M E p ds) es
  | [], _, _ => rfl
  | d :: ds, es, p => ixL_app M E ds es _
structure MoOk (M : Mo) (R S : List Row) : Prop where
  pos : 1 ≤ M.size
  few : M.size ≤ 3
  thing : ∀ r ∈ R, (M.tab r.1).length = M.size ^ r.2.1 ∧ ∀ v ∈ M.tab r.1, ∃ n : Nat, n < M.size ∧ v = .int (n : Int)
  truth : ∀ r ∈ S, (M.tab r.1).length = M.size ^ r.2.1 ∧ ∀ v ∈ M.tab r.1, ∃ b, v = .bl b
def EnOk (M : Mo) (E : En) (kn : List Str) : Prop := ∀ x ∈ kn, ∃ n, E x = some n ∧ n < M.size
theorem EnOk.set {M : Mo} {E : En} {kn : List Str} (h : EnOk M E kn) {x : Str} {n : Nat} (hn : n < M.size) : EnOk M (E.set x n) (kn ++ [x]) := by
  intro y hy
  show ∃ m, (if y = x then some n else E y) = some m ∧ m < M.size
  by_cases e : y = x
  · rw [if_pos e]
    exact ⟨n, rfl, hn⟩
  · rw [if_neg e]
    rcases List.mem_append.mp hy with z | z
    · exact h y z
    · exact absurd (List.mem_singleton.mp z) e
section
variable {M : Mo} {R S : List Row} {E : En} {kn : List Str}
mutual
theorem ev_ok (m : MoOk M R S) (e : EnOk M E kn) : ∀ d : PyData, TOk R kn d → ∃ n : Nat, n < M.size ∧ evT M E d = .int (n : Int)
  | .str x, h => by
    obtain ⟨n, e1, e2⟩ := e x h
    refine ⟨n, e2, ?_⟩
    show (match E x with
      | some n => V.int (n : Int)
      | none => .non) = _
    rw [e1]
  | .tuple [], h => h.elim
  | .tuple (x :: ds), h => by
    obtain ⟨⟨r, hr, rfl, ar⟩, hds⟩ := h
    have lt := ix_lt m e ds hds 0
    obtain ⟨l1, l2⟩ := m.thing r hr
    rw [Nat.zero_add, Nat.one_mul, ← ar, ← l1] at lt
    obtain ⟨v, hv⟩ : ∃ v, (M.tab r.1)[ixL M E 0 ds]? = some v := ⟨_, List.getElem?_eq_getElem lt⟩
    obtain ⟨n, n1, rfl⟩ := l2 v (List.mem_of_getElem? hv)
    refine ⟨n, n1, ?_⟩
    show ((M.tab r.1)[ixL M E 0 ds]?).getD .non = _
    rw [hv]
    rfl
  | .none, h => h.elim
  | .bool _, h => h.elim
  | .int _, h => h.elim
  | .list _, h => h.elim
  | .dict _, h => h.elim
theorem ix_lt (m : MoOk M R S) (e : EnOk M E kn) : ∀ ds : List PyData, TOkL R kn ds → ∀ p, ixL M E p ds < (p + 1) * M.size ^ ds.length
  | [], _, p => by
    show p < (p + 1) * M.size ^ 0
    rw [Nat.pow_zero, Nat.mul_one]
    exact Nat.lt_succ_self p
  | d :: ds, h, p => by
    obtain ⟨n, n1, n2⟩ := ev_ok m e d h.1
    have ih := ix_lt m e ds h.2 (p * M.size + natV (evT M E d))
    have z : natV (evT M E d) = n := by
      rw [n2]
      show ((n : Nat) : Int).toNat = n
      omega
    rw [z] at ih
    show ixL M E (p * M.size + natV (evT M E d)) ds < (p + 1) * M.size ^ (ds.length + 1)
    rw [z]
    refine Nat.lt_of_lt_of_le ih ?_
    rw [Nat.pow_succ, Nat.mul_comm (M.size ^ ds.length), ← Nat.mul_assoc]
    refine Nat.mul_le_mul_right _ ?_
    rw [Nat.succ_mul]
    omega
end
/-- a term at the top: a truth's, or a thing's -/
def TopOk (R S : List Row) (kn : List Str) (b : Bool) (d : PyData) : Prop := if b = true then ∃ (r : Row) (ds : List PyData), d = .tuple (.str r.1 :: ds) ∧ r ∈ S ∧ r.2.1 = ds.length ∧ TOkL R kn ds else TOk R kn d
theorem ev_truth (m : MoOk M R S) (e : EnOk M E kn) {d : PyData} (h : TopOk R S kn true d) : ∃ b, evT M E d = .bl b := by
  obtain ⟨r, ds, rfl, hr, ar, hds⟩ := (show ∃ (r : Row) (ds : List PyData), d = .tuple (.str r.1 :: ds) ∧ r ∈ S ∧ r.2.1 = ds.length ∧ TOkL R kn ds from h)
  have lt := ix_lt m e ds hds 0
  obtain ⟨l1, l2⟩ := m.truth r hr
  rw [Nat.zero_add, Nat.one_mul, ← ar, ← l1] at lt
  obtain ⟨v, hv⟩ : ∃ v, (M.tab r.1)[ixL M E 0 ds]? = some v := ⟨_, List.getElem?_eq_getElem lt⟩
  obtain ⟨b, rfl⟩ := l2 v (List.mem_of_getElem? hv)
  refine ⟨b, ?_⟩
  show ((M.tab r.1)[ixL M E 0 ds]?).getD .non = _
  rw [hv]
  rfl
end
/-- what a sentence comes to -/
def mean (M : Mo) : En → Sn → Bool
  | E, .atm false as => truV (evT M E (as.getD 0 .none))
  | E, .atm true as => decide (evT M E (as.getD 0 .none) = evT M E (as.getD 1 .none))
  | E, .qu true x s => (List.range M.size).all fun n => mean M (E.set x n) s
  | E, .qu false x s => (List.range M.size).any fun n => mean M (E.set x n) s
  | E, .one s => !mean M E s
  | E, .two w a b => if w = "and" then mean M E a && mean M E b else if w = "or" then mean M E a || mean M E b else if w = "then" then !mean M E a || mean M E b else mean M E a == mean M E b
/-! ### in the heap -/
/-- a row of names told there, with the values of the structure -/
def TabAt (K : PySem.W.Frag) (H : Hp) (M : Mo) (T : List Row) (td : Addr) : Prop := ∃ kvs, H td = some (.dK kvs) ∧ ∀ r ∈ T, ∃ t, valV kvs (.inr r.1) = some (.ref t) ∧ SqT K H t (M.tab r.1)
theorem TabAt.same {K : PySem.W.Frag} {H H' : Hp} (s : Same H H') {M : Mo} {T : List Row} {td : Addr} (h : TabAt K H M T td) : TabAt K H' M T td := by
  obtain ⟨kvs, e, q⟩ := h
  refine ⟨kvs, s _ _ e, fun r hr => ?_⟩
  obtain ⟨t, t1, t2⟩ := q r hr
  exact ⟨t, t1, (TK.same s).sq t2⟩
def ValAt (H : Hp) (vd : Addr) (E : En) : Prop := ∃ kvs, H vd = some (.dK kvs) ∧ (∀ x, valV kvs (.inr x) = (E x).map fun n => .int ((n : Nat) : Int)) ∧ kvs.length ≤ 1000
theorem ValAt.same {H H' : Hp} (s : Same H H') {vd : Addr} {E : En} (h : ValAt H vd E) : ValAt H' vd E := by
  obtain ⟨kvs, e, q⟩ := h
  exact ⟨kvs, s _ _ e, q⟩
def strF (n : Nat) (td : Addr) : List (Str × V) := putF "tables" (.ref td) (putF "size" (.int (n : Int)) [])
theorem nST : ¬ (("size" : Str) = "tables") := by decide +kernel
theorem strF_size (n : Nat) (td : Addr) : (strF n td).lookup ("size" : Str) = some (.int (n : Int)) := by
  unfold strF
  rw [lookup_putF, if_neg nST, lookup_putF, if_pos rfl]
theorem strF_tables (n : Nat) (td : Addr) : (strF n td).lookup ("tables" : Str) = some (.ref td) := by
  unfold strF
  rw [lookup_putF, if_pos rfl]
/-- a Structure stands at o -/
def StrI (K : PySem.W.Frag) (C : Addr) (H : Hp) (o td : Addr) (M : Mo) (T : List Row) : Prop := (∃ dx, H o = some (.ins C dx (strF M.size td))) ∧ TabAt K H M T td
theorem StrI.same {K : PySem.W.Frag} {C : Addr} {H H' : Hp} (s : Same H H') {o td : Addr} {M : Mo} {T : List Row} (h : StrI K C H o td M T) : StrI K C H' o td M T := by
  obtain ⟨⟨dx, e⟩, t⟩ := h
  exact ⟨⟨dx, s _ _ e⟩, t.same s⟩
/-! ### terms as data -/
section
variable {R S : List Row} {kn : List Str}
mutual
theorem tok_lay (hR : ∀ r ∈ R, PyData.strOk r.1 = true) (hk : ∀ x ∈ kn, PyData.strOk x = true) : ∀ d : PyData, TOk R kn d → d.canLay0 = true
  | .str x, h => hk x h
  | .tuple [], h => h.elim
  | .tuple (x :: ds), h => by
    obtain ⟨⟨r, hr, rfl, _⟩, hds⟩ := h
    show (PyData.strOk r.1 && PyData.canLayAll0 ds) = true
    rw [hR r hr, tok_layL hR hk ds hds]
    rfl
  | .none, h => h.elim
  | .bool _, h => h.elim
  | .int _, h => h.elim
  | .list _, h => h.elim
  | .dict _, h => h.elim
theorem tok_layL (hR : ∀ r ∈ R, PyData.strOk r.1 = true) (hk : ∀ x ∈ kn, PyData.strOk x = true) : ∀ ds : List PyData, TOkL R kn ds → PyData.canLayAll0 ds = true
  | [], _ => rfl
  | d :: ds, h => by
    show (d.canLay0 && PyData.canLayAll0 ds) = true
    rw [tok_lay hR hk d h.1, tok_layL hR hk ds h.2]
    rfl
end
mutual
theorem tok_depth : ∀ d : PyData, TOk R kn d → d.depth ≤ (partsD d).length
  | .str x, _ => Nat.zero_le _
  | .tuple [], h => h.elim
  | .tuple (x :: ds), h => by
    obtain ⟨⟨r, hr, rfl, _⟩, hds⟩ := h
    have ih := tok_depthL ds hds
    show max (PyData.str r.1).depth (PyData.depthAll ds) + 1 ≤ (PyData.tuple (.str r.1 :: ds) :: partsDL ds).length
    have z : (PyData.str r.1).depth = 0 := rfl
    rw [z, List.length_cons]
    omega
  | .none, h => h.elim
  | .bool _, h => h.elim
  | .int _, h => h.elim
  | .list _, h => h.elim
  | .dict _, h => h.elim
theorem tok_depthL : ∀ ds : List PyData, TOkL R kn ds → PyData.depthAll ds ≤ (partsDL ds).length
  | [], _ => Nat.zero_le _
  | d :: ds, h => by
    have h1 := tok_depth d h.1
    have h2 := tok_depthL ds h.2
    show max d.depth (PyData.depthAll ds) ≤ (partsD d ++ partsDL ds).length
    rw [List.length_append]
    omega
end
end
end Ad

/-! repr of a dict with texts as keys, and numbers, bools, or tuples of these as values. -/
namespace Ad
open PySem PySem.Spec PySem.Calls PyProof.Rows L2
def scB : PyData → Bool
  | .int i => decide (0 ≤ i) && decide (i < 64)
  | .bool _ => true
  | _ => false
def flB : PyData → Bool
  | .tuple ds => ds.all scB && decide (ds.length ≤ 100)
  | d => scB d
theorem sc_text {d : PyData} (h : scB d = true) : d.showable = true ∧ d.shown.length ≤ 5 := by
  cases d with
  | int i =>
    obtain ⟨h1, h2⟩ := Bool.and_eq_true_iff.mp h
    obtain ⟨s1, s2⟩ := small_text i (of_decide_eq_true h1) (of_decide_eq_true h2)
    refine ⟨decide_eq_true s2, ?_⟩
    show (toString i : Str).length ≤ 5
    omega
  | bool b =>
    refine ⟨rfl, ?_⟩
    cases b <;> decide
  | _ => cases h
theorem sc_all : ∀ {ds : List PyData}, ds.all scB = true → PyData.showableAll ds = true ∧ piled (PyData.shownAll ds) ≤ 7 * ds.length
  | [], _ => ⟨rfl, Nat.zero_le _⟩
  | d :: ds, h => by
    have h' : (scB d && ds.all scB) = true := h
    obtain ⟨h1, h2⟩ := Bool.and_eq_true_iff.mp h'
    obtain ⟨a1, a2⟩ := sc_text h1
    obtain ⟨b1, b2⟩ := sc_all h2
    refine ⟨?_, ?_⟩
    · show (d.showable && PyData.showableAll ds) = true
      rw [a1, b1]
      rfl
    · have e : piled (PyData.shownAll (d :: ds)) = (d.shown.length + 2) + piled (PyData.shownAll ds) := piled_cons _ _
      rw [e, List.length_cons]
      omega
theorem fl_text {d : PyData} (h : flB d = true) : d.showable = true ∧ d.shown.length ≤ 703 := by
  have one : scB d = true → d.showable = true ∧ d.shown.length ≤ 703 := fun h => by
    obtain ⟨a, b⟩ := sc_text h
    exact ⟨a, by omega⟩
  cases d with
  | tuple ds =>
    obtain ⟨h1, h2⟩ := Bool.and_eq_true_iff.mp h
    obtain ⟨a, b⟩ := sc_all h1
    have l := tuple_piled (PyData.shownAll ds)
    have n := of_decide_eq_true h2
    refine ⟨a, ?_⟩
    show (tupleText (PyData.shownAll ds)).length ≤ 703
    omega
  | _ => exact one h
theorem fl_depth {d : PyData} (h : flB d = true) : d.depth ≤ 2 := by
  have sc : ∀ d : PyData, scB d = true → d.depth = 0 := fun d h => by cases d <;> first | rfl | cases h
  cases d with
  | tuple ds =>
    obtain ⟨h1, h2⟩ := Bool.and_eq_true_iff.mp h
    have : PyData.depthAll ds = 0 := by
      clear h h2
      induction ds with
      | nil => simp [PyData.depthAll]
      | cons d ds ih =>
        have h' : (scB d && ds.all scB) = true := h1
        obtain ⟨h3, h4⟩ := Bool.and_eq_true_iff.mp h'
        have e : PyData.depthAll (d :: ds) = max d.depth (PyData.depthAll ds) := by simp [PyData.depthAll]
        rw [e, sc d h3, ih h4]
        rfl
    have e : (PyData.tuple ds).depth = PyData.depthAll ds + 1 := by simp [PyData.depth]
    omega
  | int i => exact Nat.le_trans (Nat.le_of_eq (sc (.int i) h)) (Nat.zero_le _)
  | bool i => exact Nat.le_trans (Nat.le_of_eq (sc (.bool i) h)) (Nat.zero_le _)
  | _ => cases h
mutual
theorem fl_reads {h : Heap} : ∀ {d : PyData} {u : Value} {as : List Addr}, Reads h u d as → flB d = true → as = []
  | .int _, _, _, .int .., _ => rfl
  | .bool _, _, _, .bool .., _ => rfl
  | .tuple ds, _, _, .tuple _ _ _ r, f => sc_reads r (Bool.and_eq_true_iff.mp f).1
  | .none, _, _, _, f => by cases f
  | .str _, _, _, _, f => by cases f
  | .list _, _, _, _, f => by cases f
  | .dict _, _, _, _, f => by cases f
theorem sc_reads {h : Heap} : ∀ {ds : List PyData} {us : List Value} {as : List Addr}, ReadsAll h us ds as → ds.all scB = true → as = []
  | [], _, _, .nil, _ => rfl
  | d :: ds, _, _, .cons r rs, f => by
    have f' : (scB d && ds.all scB) = true := f
    obtain ⟨f1, f2⟩ := Bool.and_eq_true_iff.mp f'
    have e2 := sc_reads rs f2
    subst e2
    cases d with
    | int i => cases r; rfl
    | bool b => cases r; rfl
    | _ => cases f1
end
/-- a dict of texts to flat data -/
def dicD (ds : List (Str × PyData)) : PyData := .dict (ds.map fun p => (.str p.1, p.2))
structure DicOk (ds : List (Str × PyData)) : Prop where
  keys : ∀ p ∈ ds, nameOk p.1 = true
  vals : ∀ p ∈ ds, flB p.2 = true
  few : ds.length ≤ 100
def DicV (K : PySem.W.Frag) (H : Hp) (kvs : List (L2.Key × V)) (ds : List (Str × PyData)) : Prop := F2 (fun (p : Str × PyData) (q : L2.Key × V) => q.1 = .inr p.1 ∧ Dp K H q.2 p.2) ds kvs
theorem dicD_text : ∀ {ds : List (Str × PyData)}, DicOk ds → (dicD ds).showable = true ∧ (dicD ds).shown.length ≤ sizeLine ∧ (dicD ds).depth ≤ 5 := by
  intro ds ok
  have key : ∀ ds : List (Str × PyData), (∀ p ∈ ds, nameOk p.1 = true) → (∀ p ∈ ds, flB p.2 = true) → PyData.showableKv (ds.map fun p => (.str p.1, p.2)) = true ∧ ((PyData.shownKv (ds.map fun p => (.str p.1, p.2))).map (·.length)).sum ≤ 720 * ds.length ∧ (PyData.shownKv (ds.map fun p => ((.str p.1 : PyData), p.2))).length = ds.length ∧ PyData.depthKv (ds.map fun p => (.str p.1, p.2)) ≤ 2 := by
    intro ds
    induction ds with
    | nil => exact fun _ _ => ⟨rfl, Nat.zero_le _, rfl, by simp [PyData.depthKv]⟩
    | cons p ds ih =>
      intro h1 h2
      obtain ⟨i1, i2, i3, i4⟩ := ih (fun q hq => h1 q (List.mem_cons_of_mem _ hq)) fun q hq => h2 q (List.mem_cons_of_mem _ hq)
      obtain ⟨a, b⟩ := fl_text (h2 p List.mem_cons_self)
      have n := nameOk_short (h1 p List.mem_cons_self)
      refine ⟨?_, ?_, ?_, ?_⟩
      · show (true && p.2.showable && PyData.showableKv _) = true
        rw [a, i1]
        rfl
      · show (PyData.shown (.str p.1) ++ ": " ++ p.2.shown).length + ((PyData.shownKv _).map (·.length)).sum ≤ 720 * (ds.length + 1)
        rw [strLen_append, strLen_append]
        have e : ((": " : String) : Str).length = 2 := rfl
        omega
      · show (PyData.shownKv (ds.map _)).length + 1 = ds.length + 1
        omega
      · have e : PyData.depthKv ((PyData.str p.1, p.2) :: (ds.map fun p => ((.str p.1 : PyData), p.2))) = max (max (PyData.str p.1).depth p.2.depth) (PyData.depthKv (ds.map fun p => ((.str p.1 : PyData), p.2))) := by
          first
            | simp [PyData.depthKv]
            | simp [PyData.depthKv, Nat.max_assoc]
        have d0 : (PyData.str p.1).depth = 0 := by simp [PyData.depth]
        have d2 := fl_depth (h2 p List.mem_cons_self)
        show PyData.depthKv ((PyData.str p.1, p.2) :: (ds.map fun p => ((.str p.1 : PyData), p.2))) ≤ 2
        omega
  obtain ⟨k1, k2, k3, k4⟩ := key ds ok.keys ok.vals
  refine ⟨k1, ?_, ?_⟩
  · have l := dictText_len_le (PyData.shownKv (ds.map fun p => ((.str p.1 : PyData), p.2)))
    have f := ok.few
    show (dictText (PyData.shownKv (ds.map fun p => ((.str p.1 : PyData), p.2)))).length ≤ sizeLine
    rw [sizeLine_eq]
    omega
  · have e : (dicD ds).depth = PyData.depthKv (ds.map fun p => ((.str p.1 : PyData), p.2)) + 1 := by
      unfold dicD
      simp [PyData.depth]
    omega
section
variable {X : Cx} {pins : List (Addr × Obj)} {σ : L2.St} {H : Hp} {s : Shared}
theorem dic_reads (I : Inv X pins σ H s) : ∀ {ds : List (Str × PyData)} {kvs : List (L2.Key × V)} {vs : List (L2.Key × Value)} {l : List DictEntry}, DicV X.K H kvs ds → (∀ p ∈ ds, flB p.2 = true) → KV kvs vs → Pairs (mixKind X.prog X.w) l vs →
    ReadsAll s.heap (l.map (·.key)) (ds.map fun p => .str p.1) [] ∧ ReadsAll s.heap (l.map (·.val)) (ds.map (·.2)) []
  | [], kvs, vs, l, h, _, kv, pr => by
    cases (show kvs = [] from h)
    cases kv
    cases pr
    exact ⟨.nil, .nil⟩
  | p :: ds, _, vs, l, ⟨q, qs, rfl, hq, hr⟩, fl, kv, pr => by
    cases kv with
    | @cons _ r _ rs hr1 hrs =>
      obtain ⟨k, u⟩ := r
      obtain ⟨e1, e2⟩ := hr1
      cases pr with
      | @cons en kv' es' kvs' hk hv ht =>
        obtain ⟨a, b⟩ := dic_reads I hr (fun q hq => fl q (List.mem_cons_of_mem _ hq)) hrs ht
        have hv' : en.val = u := hv
        have ek : k = .inr p.1 := by
          have z : q.1 = k := e1
          rw [← z]
          exact hq.1
        subst ek
        obtain ⟨as, rd⟩ := Dp.reads I p.2 q.2 u hq.2 e2
        have e0 := fl_reads rd (fl p List.mem_cons_self)
        subst e0
        obtain ⟨_, _, z, _⟩ | ⟨x', t, e3, e4⟩ := keyIs_shape (k := .inr p.1) (v := en.key) hk
        · cases z
        · cases e3
          refine ⟨?_, ?_⟩
          · show ReadsAll s.heap (en.key :: es'.map (·.key)) (.str p.1 :: ds.map fun p => .str p.1) []
            rw [e4]
            exact ReadsAll.cons (as := []) (bs := []) (.str p.1 t) a
          · show ReadsAll s.heap (en.val :: es'.map (·.val)) (p.2 :: ds.map (·.2)) []
            rw [hv']
            exact ReadsAll.cons (as := []) (bs := []) rd b
def rReprDic (K : PySem.W.Frag) : List V → Hp → VK → Prop := fun xs H Q => ∃ (a : Addr) (kvs : List (L2.Key × V)) (ds : List (Str × PyData)), xs = [.ref a] ∧ H a = some (.dK kvs) ∧ DicV K H kvs ds ∧ DicOk ds ∧ Q (.str (dicD ds).shown) H
/-- repr(d), where no repr is under way -/
theorem call_reprDic (gd : X.A.guards = some []) (hu : X.A.units + 64 < cLine) : CallR X (.builtin "repr") (rReprDic X.K) := by
  intro pins s σ H xs us Q J rel ask
  obtain ⟨a, kvs, ds, rfl, ha, dv, ok, q⟩ := ask
  match us, rel with
  | [u], .cons r .nil =>
    obtain rfl : u = Value.ref a := r
    obtain ⟨_, ns, vs, kv, o, es, ep, h1, h2, h3, _, h5, _⟩ := dk_of J.hok ha
    obtain ⟨l⟩ := es
    obtain ⟨ra, rb⟩ := dic_reads J dv ok.vals kv h5
    obtain ⟨t1, t2, t3⟩ := dicD_text ok
    have rd : Reads s.heap (.ref a) (dicD ds) [a] := by
      refine Reads.dict (as := []) (bs := []) h1 h2.1 h3 ?_ ?_
      · rw [List.map_map]
        exact ra
      · rw [List.map_map]
        exact rb
    refine repr_of_reads' rd t1 (fun _ m => ?_) gd (by omega) (fun _ _ z => z) (fun h' u tk kp => ⟨.str _, H, J.kept (t' := tk) kp, ⟨_, rfl⟩, q⟩) t2
    rw [List.mem_singleton.mp m] at ns
    simp at ns
end
end Ad

/-! Drawn orders and tables of a drawn structure. -/
namespace Ad
open PySem PySem.Spec PySem.Calls PyProof.Rows L2
/-- rows that were drawn, for sentences -/
structure GenS (R S : List Row) : Prop where
  r : ROk R
  s : SOk S
  nd : ((R ++ S).map (·.1)).Nodup
  names : ∀ r ∈ R ++ S, nameOk r.1 = true ∧ r.1 ≠ "yes" ∧ r.2.1 ≤ 2
  few : R.length + S.length ≤ 10
theorem gens_ok {B D : List Pr} {R S : List Row} (hB : B ∈ thingsB) (hD : D ∈ truthsB) (mR : Mixed B R) (mS : Mixed D S) : GenS R S := by
  have pR := mR.perm
  have pS := mS.perm
  have h : (thingsB.all fun B => B.all (fun r => nameOk r.1 && (decide (r.1 ≠ "yes") && decide (r.2 ≤ 2))) && decide (B.length ≤ 5)) = true := by decide +kernel
  have h1 := List.all_eq_true.mp h B hB
  rw [Bool.and_eq_true] at h1
  obtain ⟨h2, h4⟩ := h1
  have k : (truthsB.all fun B => B.all (fun r => nameOk r.1 && (decide (r.1 ≠ "yes") && decide (r.2 ≤ 2))) && !B.isEmpty && decide (B.length ≤ 5)) = true := by decide +kernel
  have k1 := List.all_eq_true.mp k D hD
  rw [Bool.and_eq_true, Bool.and_eq_true] at k1
  obtain ⟨⟨k2, k3⟩, k4⟩ := k1
  have lR := pR.length_eq
  have lS := pS.length_eq
  rw [List.length_map] at lR lS
  have m4 := of_decide_eq_true h4
  have n4 := of_decide_eq_true k4
  have nm : ∀ r ∈ R ++ S, nameOk r.1 = true ∧ r.1 ≠ "yes" ∧ r.2.1 ≤ 2 := fun r hr => by
    have z2 : (nameOk r.1 && (decide (r.1 ≠ "yes") && decide (r.2.1 ≤ 2))) = true := by
      rcases List.mem_append.mp hr with e | e
      · exact List.all_eq_true.mp h2 _ (pR.mem_iff.mp (List.mem_map.mpr ⟨r, e, rfl⟩))
      · exact List.all_eq_true.mp k2 _ (pS.mem_iff.mp (List.mem_map.mpr ⟨r, e, rfl⟩))
    obtain ⟨a, b⟩ := Bool.and_eq_true_iff.mp z2
    obtain ⟨b, c⟩ := Bool.and_eq_true_iff.mp b
    exact ⟨a, of_decide_eq_true b, of_decide_eq_true c⟩
  refine ⟨mixed_ok hB mR, ⟨fun e => ?_, by omega, fun r hr => ?_⟩, ?_, nm, by omega⟩
  · rw [e] at lS
    have : D = [] := List.length_eq_zero_iff.mp lS.symm
    rw [this] at k3
    cases k3
  · have := (nm r (List.mem_append_right _ hr)).2.2
    omega
  · have n : (thingsB.all fun B => truthsB.all fun D => decide (((B ++ D).map (·.1)).Nodup)) = true := by decide +kernel
    have n1 := of_decide_eq_true (List.all_eq_true.mp (List.all_eq_true.mp n B hB) D hD)
    have pp : ((R ++ S).map (·.1)).Perm ((B ++ D).map (·.1)) := by
      have e : (R ++ S).map (·.1) = ((R ++ S).map fun r => (r.1, r.2.1)).map (·.1) := by rw [List.map_map]; rfl
      rw [e, List.map_append]
      exact (pR.append pS).map _
    exact pp.nodup_iff.mpr n1
/-- a name with its row of values -/
abbrev Tb := Str × List V
def ThRow (n : Nat) (r : Row) (t : Tb) : Prop := t.1 = r.1 ∧ t.2.length = n ^ r.2.1 ∧ ∀ v ∈ t.2, ∃ m : Nat, m < n ∧ v = .int (m : Int)
def TrRow (n : Nat) (r : Row) (t : Tb) : Prop := t.1 = r.1 ∧ t.2.length = n ^ r.2.1 ∧ ∀ v ∈ t.2, ∃ b, v = .bl b
def TblV (K : PySem.W.Frag) (H : Hp) (ts : List Tb) (kvs : List (L2.Key × V)) : Prop := F2 (fun (t : Tb) (q : L2.Key × V) => q.1 = .inr t.1 ∧ ∃ a, q.2 = .ref a ∧ SqT K H a t.2) ts kvs
theorem TblV.mono {K : PySem.W.Frag} {H H' : Hp} (k : TK H H') {ts : List Tb} {kvs : List (L2.Key × V)} (h : TblV K H ts kvs) : TblV K H' ts kvs := F2.mono (fun t q ⟨e, a, e2, s⟩ => ⟨e, a, e2, k.sq s⟩) h
theorem TblV.keys {K : PySem.W.Frag} {H : Hp} : ∀ {ts : List Tb} {kvs : List (L2.Key × V)}, TblV K H ts kvs → kvs.map (·.1) = ts.map fun t => Sum.inr t.1
  | [], kvs, h => by
    cases (show kvs = [] from h)
    rfl
  | t :: ts, _, ⟨q, qs, rfl, ⟨e, _⟩, hr⟩ => by
    rw [List.map_cons, List.map_cons, e, TblV.keys hr]
theorem TblV.put {K : PySem.W.Frag} {H : Hp} {ts : List Tb} {kvs : List (L2.Key × V)} (h : TblV K H ts kvs) {t : Tb} {a : Addr} (new : t.1 ∉ ts.map (·.1)) (s : SqT K H a t.2) : TblV K H (ts ++ [t]) (putK kvs (.inr t.1) (.ref a)) := by
  have out : valV kvs (.inr t.1) = none := valV_out fun z => by
    rw [h.keys] at z
    obtain ⟨u, hu, e⟩ := List.mem_map.mp z
    exact new (List.mem_map.mpr ⟨u, hu, Sum.inr.inj e⟩)
  rw [putK_new _ out]
  exact F2.app h (F2.one ⟨rfl, a, rfl, s⟩)
theorem TblV.val {K : PySem.W.Frag} {H : Hp} : ∀ {ts : List Tb} {kvs : List (L2.Key × V)}, TblV K H ts kvs → ∀ (x : Str) (vs : List V), ts.lookup x = some vs → ∃ a, valV kvs (.inr x) = some (.ref a) ∧ SqT K H a vs
  | [], _, _, x, vs, h => by cases h
  | t :: ts, _, ⟨q, qs, rfl, ⟨e, a, e2, s⟩, hr⟩, x, vs, h => by
    by_cases z : x = t.1
    · subst z
      rw [show (t :: ts).lookup t.1 = some t.2 from by
        obtain ⟨t1, t2⟩ := t
        rw [List.lookup_cons_self]] at h
      cases h
      refine ⟨a, ?_, s⟩
      rw [valV_pos e, e2]
    · rw [show (t :: ts).lookup x = ts.lookup x from by
        obtain ⟨t1, t2⟩ := t
        rw [List.lookup_cons, show (x == t1) = false from by
          rw [beq_eq_false_iff_ne]
          exact z]] at h
      obtain ⟨a', e', s'⟩ := TblV.val hr x vs h
      refine ⟨a', ?_, s'⟩
      rw [valV_neg (fun w => z (by rw [e] at w; exact (Sum.inr.inj w).symm))]
      exact e'
def moOf (n : Nat) (ts : List Tb) : Mo := ⟨n, fun x => (ts.lookup x).getD []⟩
theorem lookup_row {n : Nat} {Rl : Nat → Row → Tb → Prop} (key : ∀ r t, Rl n r t → t.1 = r.1) : ∀ {R : List Row} {ts : List Tb}, F2 (Rl n) R ts → (R.map (·.1)).Nodup → ∀ r ∈ R, ∃ vs, (∀ more, (ts ++ more).lookup r.1 = some vs) ∧ Rl n r (r.1, vs)
  | [], _, _, _, r, hr => by cases hr
  | r0 :: R, _, ⟨t, ts, rfl, h0, h1⟩, nd, r, hr => by
    have e0 := key _ _ h0
    obtain ⟨t1, t2⟩ := t
    cases (show t1 = r0.1 from e0)
    rcases List.mem_cons.mp hr with rfl | hr
    · refine ⟨t2, fun more => ?_, h0⟩
      show ((r.1, t2) :: (ts ++ more)).lookup r.1 = some t2
      rw [List.lookup_cons_self]
    · have nd' := List.nodup_cons.mp (show (r0.1 :: R.map (·.1)).Nodup from nd)
      obtain ⟨vs, hv, h⟩ := lookup_row key h1 nd'.2 r hr
      refine ⟨vs, fun more => ?_, h⟩
      show ((r0.1, t2) :: (ts ++ more)).lookup r.1 = some vs
      rw [List.lookup_cons, show (r.1 == r0.1) = false from by
        rw [beq_eq_false_iff_ne]
        exact fun z => nd'.1 (z ▸ List.mem_map.mpr ⟨r, hr, rfl⟩)]
      exact hv more
theorem lookup_skip {n : Nat} {Rl : Nat → Row → Tb → Prop} (key : ∀ r t, Rl n r t → t.1 = r.1) (x : Str) (us : List Tb) : ∀ {R : List Row} {ts : List Tb}, F2 (Rl n) R ts → x ∉ R.map (·.1) → (ts ++ us).lookup x = us.lookup x
  | [], ts, h, _ => by
    cases (show ts = [] from h)
    rfl
  | r0 :: R, _, ⟨t, ts, rfl, h0, h1⟩, out => by
    have e0 := key _ _ h0
    obtain ⟨t1, t2⟩ := t
    cases (show t1 = r0.1 from e0)
    show ((r0.1, t2) :: (ts ++ us)).lookup x = _
    rw [List.lookup_cons, show (x == r0.1) = false from by
      rw [beq_eq_false_iff_ne]
      exact fun z => out (z ▸ List.mem_cons_self)]
    exact lookup_skip key x us h1 fun z => out (List.mem_cons_of_mem _ z)
structure Tabs (n : Nat) (R S : List Row) (ts us : List Tb) : Prop where
  things : F2 (ThRow n) R ts
  truths : F2 (TrRow n) S us
theorem Tabs.at {n : Nat} {R S : List Row} {ts us : List Tb} (h : Tabs n R S ts us) (nd : ((R ++ S).map (·.1)).Nodup) :
    (∀ r ∈ R, ∃ vs, (ts ++ us).lookup r.1 = some vs ∧ ThRow n r (r.1, vs)) ∧ ∀ r ∈ S, ∃ vs, (ts ++ us).lookup r.1 = some vs ∧ TrRow n r (r.1, vs) := by
  rw [List.map_append] at nd
  obtain ⟨n1, n2, n3⟩ := List.nodup_append.mp nd
  refine ⟨fun r hr => ?_, fun r hr => ?_⟩
  · obtain ⟨vs, e, q⟩ := lookup_row (Rl := ThRow) (fun _ _ h => h.1) h.things n1 r hr
    exact ⟨vs, e us, q⟩
  · obtain ⟨vs, e, q⟩ := lookup_row (Rl := TrRow) (fun _ _ h => h.1) h.truths n2 r hr
    refine ⟨vs, ?_, q⟩
    rw [lookup_skip (Rl := ThRow) (fun _ _ h => h.1) r.1 us h.things fun z => n3 r.1 z r.1 (List.mem_map.mpr ⟨r, hr, rfl⟩) rfl]
    have := e []
    rw [List.append_nil] at this
    exact this
theorem Tabs.mo {n : Nat} {R S : List Row} {ts us : List Tb} (h : Tabs n R S ts us) (nd : ((R ++ S).map (·.1)).Nodup) (n1 : 1 ≤ n) (n3 : n ≤ 3) : MoOk (moOf n (ts ++ us)) R S := by
  obtain ⟨a, b⟩ := h.at nd
  refine ⟨n1, n3, fun r hr => ?_, fun r hr => ?_⟩
  · obtain ⟨vs, e, q⟩ := a r hr
    show ((((ts ++ us).lookup r.1).getD []).length = n ^ r.2.1 ∧ ∀ v ∈ ((ts ++ us).lookup r.1).getD [], ∃ m : Nat, m < n ∧ v = .int (m : Int))
    rw [e]
    exact q.2
  · obtain ⟨vs, e, q⟩ := b r hr
    show ((((ts ++ us).lookup r.1).getD []).length = n ^ r.2.1 ∧ ∀ v ∈ ((ts ++ us).lookup r.1).getD [], ∃ b, v = .bl b)
    rw [e]
    exact q.2
theorem Tabs.tabAt {K : PySem.W.Frag} {H : Hp} {n : Nat} {R S : List Row} {ts us : List Tb} (h : Tabs n R S ts us) (nd : ((R ++ S).map (·.1)).Nodup) {td : Addr} {kvs : List (L2.Key × V)} (e : H td = some (.dK kvs)) (v : TblV K H (ts ++ us) kvs) : TabAt K H (moOf n (ts ++ us)) (R ++ S) td := by
  obtain ⟨a, b⟩ := h.at nd
  refine ⟨kvs, e, fun r hr => ?_⟩
  have key : ∃ vs, (ts ++ us).lookup r.1 = some vs := by
    rcases List.mem_append.mp hr with z | z
    · obtain ⟨vs, e, _⟩ := a r z
      exact ⟨vs, e⟩
    · obtain ⟨vs, e, _⟩ := b r z
      exact ⟨vs, e⟩
  obtain ⟨vs, ev⟩ := key
  obtain ⟨t, e1, e2⟩ := v.val r.1 vs ev
  refine ⟨t, e1, ?_⟩
  show SqT K H t (((ts ++ us).lookup r.1).getD [])
  rw [ev]
  exact e2
/-! as data -/
def scD : V → PyData
  | .int i => .int i
  | .bl b => .bool b
  | _ => .none
def flatB (n : Nat) (v : V) : Prop := (∃ m : Nat, m < n ∧ v = .int (m : Int)) ∨ ∃ b, v = .bl b
theorem flat_dp {K : PySem.W.Frag} {H : Hp} {n : Nat} : ∀ {vs : List V}, (∀ v ∈ vs, flatB n v) → DpAll K H vs (vs.map scD)
  | [], _ => .nil
  | v :: vs, h => by
    refine .cons ?_ (flat_dp fun u hu => h u (List.mem_cons_of_mem _ hu))
    rcases h v List.mem_cons_self with ⟨m, _, rfl⟩ | ⟨b, rfl⟩
    · exact .int _
    · exact .bl _
theorem flat_sc {n : Nat} (hn : n ≤ 64) {v : V} (h : flatB n v) : scB (scD v) = true := by
  rcases h with ⟨m, hm, rfl⟩ | ⟨b, rfl⟩
  · show (decide (0 ≤ (m : Int)) && decide ((m : Int) < 64)) = true
    rw [decide_eq_true (by omega), decide_eq_true (by omega)]
    rfl
  · rfl
def tabD (ts : List Tb) : List (Str × PyData) := ts.map fun t => (t.1, .tuple (t.2.map scD))
theorem tab_dic {K : PySem.W.Frag} {H : Hp} {n : Nat} : ∀ {ts : List Tb} {kvs : List (L2.Key × V)}, TblV K H ts kvs → (∀ t ∈ ts, ∀ v ∈ t.2, flatB n v) → DicV K H kvs (tabD ts)
  | [], kvs, h, _ => by
    cases (show kvs = [] from h)
    exact rfl
  | t :: ts, _, ⟨q, qs, rfl, ⟨e, a, e2, s⟩, hr⟩, fl => by
    refine ⟨q, qs, rfl, ⟨e, ?_⟩, tab_dic hr fun u hu => fl u (List.mem_cons_of_mem _ hu)⟩
    rw [e2]
    exact .tup s (flat_dp (fl t List.mem_cons_self))
theorem F2.right {α β : Type} {R : α → β → Prop} {y : β} : ∀ {xs : List α} {ys : List β}, F2 R xs ys → y ∈ ys → ∃ x ∈ xs, R x y
  | [], ys, h, hy => by
    cases (show ys = [] from h)
    cases hy
  | x :: xs, _, ⟨z, zs, rfl, h1, h2⟩, hy => by
    rcases List.mem_cons.mp hy with rfl | hy
    · exact ⟨x, List.mem_cons_self, h1⟩
    · obtain ⟨u, hu, q⟩ := F2.right h2 hy
      exact ⟨u, List.mem_cons_of_mem _ hu, q⟩
theorem Tabs.flat {n : Nat} {R S : List Row} {ts us : List Tb} (h : Tabs n R S ts us) : ∀ t ∈ ts ++ us, ∀ v ∈ t.2, flatB n v := fun t ht v hv => by
  rcases List.mem_append.mp ht with z | z
  · obtain ⟨r, _, q⟩ := F2.right h.things z
    exact .inl (q.2.2 v hv)
  · obtain ⟨r, _, q⟩ := F2.right h.truths z
    exact .inr (q.2.2 v hv)
theorem Tabs.dicOk {n : Nat} {R S : List Row} {ts us : List Tb} (h : Tabs n R S ts us) (g : GenS R S) (n3 : n ≤ 3) : DicOk (tabD (ts ++ us)) := by
  have fl := h.flat
  have l1 := h.things.len
  have l2 := h.truths.len
  have fw := g.few
  have key : ∀ t ∈ ts ++ us, nameOk t.1 = true ∧ t.2.length ≤ 9 := fun t ht => by
    have pw : ∀ k, k ≤ 2 → n ^ k ≤ 9 := fun k hk => by
      have := Nat.pow_le_pow_left n3 k
      have : 3 ^ k ≤ 3 ^ 2 := Nat.pow_le_pow_right (by decide) hk
      omega
    rcases List.mem_append.mp ht with z | z
    · obtain ⟨r, hr, q⟩ := F2.right h.things z
      obtain ⟨n1, n2, n3⟩ := g.names r (List.mem_append_left _ hr)
      rw [q.1, q.2.1]
      exact ⟨n1, pw _ n3⟩
    · obtain ⟨r, hr, q⟩ := F2.right h.truths z
      obtain ⟨n1, n2, n3⟩ := g.names r (List.mem_append_right _ hr)
      rw [q.1, q.2.1]
      exact ⟨n1, pw _ n3⟩
  refine ⟨fun p hp => ?_, fun p hp => ?_, ?_⟩
  · obtain ⟨t, ht, rfl⟩ := List.mem_map.mp hp
    exact (key t ht).1
  · obtain ⟨t, ht, rfl⟩ := List.mem_map.mp hp
    show ((t.2.map scD).all scB && decide ((t.2.map scD).length ≤ 100)) = true
    rw [List.length_map, decide_eq_true (by have := (key t ht).2; omega), Bool.and_true]
    refine List.all_eq_true.mpr fun d hd => ?_
    obtain ⟨v, hv, rfl⟩ := List.mem_map.mp hd
    exact flat_sc (by omega) (fl t ht v hv)
  · unfold tabD
    rw [List.length_map, List.length_append]
    omega
end Ad

namespace Ad
open PySem PySem.Spec PySem.Calls PyProof.Rows L2
abbrev sInTerm : Stmt := topS 29
theorem scInTerm : FnScope ["_law_term", "_law_is_truth", "_law_found", "_law_part"] ["_law_term", "_law_is_truth"] (defScope sInTerm) := ⟨rfl, rfl, rfl, by decide +kernel, rfl, by decide +kernel, by decide +kernel⟩
section
variable {P : Program} {w : World} {K : PySem.W.Frag} {mg : Str → Option Value} {base : Heap}
def spInTerm (K : PySem.W.Frag) (n : Nat) : Sp := fun vs H Q _ => ∃ (d : PyData) (x : V) (b : Bool) (Hb : Hp), vs = [x, .bl b] ∧ Same Hb H ∧ Dp K Hb x d ∧ wfT d = true ∧ (partsD d).length ≤ n ∧ n ≤ 10000 ∧
  ∀ H' p xs, Same H H' → H p = none → H' p = some (.lst xs) → F2 (OcV K H') (occ b d) xs → Q (.ref p) H'
theorem ok_interm {f : Addr} {fd : FuncData} {k : Nat} (F : Fun K "_law_in_term" "_law_in_term" sInTerm f fd) (gF : mg "_law_in_term" = some (.ref f)) (bF : Binds K fd ["_law_term", "_law_is_truth"] [])
    (m_isinstance : mg "isinstance" = none) (m_str : mg "str" = none) (m_len : mg "len" = none) :
    ∀ n, FnOk P w K mg base CX0 (k + n) f fd ["_law_term", "_law_is_truth"] (spInTerm K n)
  | 0 => vac fun vs H Q E ⟨d, x, b, Hb, _, _, _, _, z, _⟩ => absurd (Nat.le_trans (partsD_pos d) z) (by decide)
  | n + 1 => by
    have IH : FnOk P w K mg base CX0 (k + n) f fd ["_law_term", "_law_is_truth"] (spInTerm K n) := ok_interm F gF bF m_isinstance m_str m_len n
    refine F.ok scInTerm (fun vs H Q E h => ?_) (fun cdv A outer s H vs Q E hr h => ?_)
    · obtain ⟨d, x, b, Hb, rfl, _⟩ := h
      rfl
    · obtain ⟨d, x, b, Hb, rfl, hb, hd, wf, shallow, small, q⟩ := h
      refine ⟨_, (pss_cons (ps_if (pt_val (pe_callB call_isi (by rfl) m_isinstance (by decide +kernel) (pa_cons (pv 0) (pa_cons (pe_bltn (v := .ty "str") (by rfl) m_str (by decide +kernel) rfl) pa_nil))))
      (pss_one (ps_ret (pe_lst pa_nil))) pss_nil)
    (pss_cons (ps_set (i := 2) scInTerm.nd rfl (.inl rfl) (pe_lst (pa_cons (pe_tup (pa_cons (pe_ix ix_tup (pv 0) pe_int (fun _ _ => rfl)) (pa_cons (pe_op op_sub (pe_callB call_len_seq (by rfl) m_len PySem.boot_len (pa_cons (pv 0) pa_nil)) pe_int) (pa_cons (pv 1) pa_nil)))) pa_nil)))
    (pss_cons (ps_for PassesOwn.never rfl (pi_tup (pe_slice sl_tup (pv 0) (po_some pe_int) po_none)) (pg_name (i := 3) scInTerm.nd rfl (.inl rfl))
      (pss_one (ps_set (i := 2) scInTerm.nd rfl (.inl rfl) (pe_op op_cat (pv 2) (pe_call IH hr (by rfl) gF F.kp bF .nil pass0 (pa_cons (pv 3) (pa_cons pe_bl pa_nil)))))))
    (pss_one (ps_ret (pv 2)))))), ?_⟩
      have ty := dp_ty (dp_same hb hd)
      cases d with
      | str z =>
        refine ⟨x, rfl, _, .ty "str", _, .type "str", true, rfl, .ty "str", ty, kit_st (K := K) (.str z), true, rfl, ?_⟩
        refine iteT ⟨Nat.zero_le _, fun p n1 => q _ p [] (same_new (fun b o e => e) n1 _) n1 upd_same rfl⟩
      | tuple ds =>
        cases ds with
        | nil => cases wf
        | cons z ds =>
        obtain ⟨w1, w2⟩ := Bool.and_eq_true_iff.mp (show (isSt z && wfTL ds) = true from wf)
        cases z with
        | str z =>
          refine ⟨x, rfl, _, .ty "str", _, .type "str", false, rfl, .ty "str", ty, kit_st (K := K) (.tuple (.str z :: ds)), false, rfl, ?_⟩
          refine iteF ?_
          cases hd with
          | @tup a zs _ sq all =>
          cases all with
          | @cons v vs _ _ hv all =>
          cases hv
          have sq0 := (TK.same hb).sq sq
          have lv := dpAll_len all
          have szd : (partsD (.tuple (.str z :: ds))).length = 1 + (partsDL ds).length := by
            show (PyData.tuple (.str z :: ds) :: partsDL ds).length = _
            rw [List.length_cons]
            omega
          refine ⟨.ref a, rfl, a, _, 0, .str z, rfl, rfl, sq0, atI_nat (j := 0) rfl, .ref a, rfl, a, _, rfl, .inr sq0, _, _, rfl, rfl, .bl b, rfl, by show 3 ≤ sizeLine; rw [sizeLine_eq]; decide, fun t1 nt => ⟨by show 1 ≤ sizeLine; decide, fun l1 nl => ?_⟩⟩
          have ev : (((V.str z :: vs).length : Nat) : Int) - 1 = ((ds.length : Nat) : Int) := by
            rw [List.length_cons, lv]
            omega
          replace nl : upd H t1 (.tup [.str z, .int ((((V.str z :: vs).length : Nat) : Int) - 1), .bl b]) l1 = none := nl
          show gName 2 (V.ref l1) _ (upd (upd H t1 (.tup [.str z, .int ((((V.str z :: vs).length : Nat) : Int) - 1), .bl b])) l1 (.lst [.ref t1])) _
          rw [ev]
          rw [ev] at nl
          have s1 : Same H (upd H t1 (.tup [.str z, .int (ds.length : Nat), .bl b])) := same_new (fun b o e => e) nt _
          have e1 : (upd H t1 (.tup [.str z, .int (ds.length : Nat), .bl b])) t1 = some (.tup [.str z, .int (ds.length : Nat), .bl b]) := upd_same
          generalize upd H t1 (.tup [.str z, .int (ds.length : Nat), .bl b]) = G1 at s1 e1 nl
          have s2 : Same G1 (upd G1 l1 (.lst [.ref t1])) := same_new (fun b o e => e) nl _
          have e2 : (upd G1 l1 (.lst [.ref t1])) l1 = some (.lst [.ref t1]) := upd_same
          replace e1 := s2 _ _ e1
          have nl' := none_before s1 nl
          replace s1 := s1.trans s2
          generalize upd G1 l1 (.lst [.ref t1]) = G2 at s1 e1 e2
          clear s2 nl
          refine ⟨.ref a, rfl, 1, rfl, a, _, rfl, (TK.same s1).sq sq0, cut_args.1, fun p1 n1 => ?_⟩
          rw [cut_args.2]
          have s3 : Same G2 (upd G2 p1 (.tup vs)) := same_new (fun b o e => e) n1 _
          have e3 : (upd G2 p1 (.tup vs)) p1 = some (.tup vs) := upd_same
          replace e1 := s3 _ _ e1
          replace e2 := s3 _ _ e2
          replace s1 := s1.trans s3
          generalize upd G2 p1 (.tup vs) = G3 at s1 e1 e2 e3
          clear s3 n1
          refine ⟨p1, rfl, ⟨_, .inl (.inl e3)⟩, for_tup (K := K) (a := p1) (xs := vs) (fun i σ G => ∃ (l : Addr) (v3 : Option V) (acc : List V), σ = [some (.ref a), some (.bl b), some (.ref l), v3] ∧ Same H G ∧ H l = none ∧ G p1 = some (.tup vs) ∧ G l = some (.lst acc) ∧ F2 (OcV K G) ((z, ds.length, b) :: occL (ds.take i)) acc)
            ⟨l1, none, _, rfl, s1, nl', e3, e2, F2.one ⟨t1, rfl, .inl (.inl e1)⟩⟩ (fun i σ G _ ⟨_, _, _, _, _, _, h, _⟩ => .inl (.inl h)) ?_ ?_⟩
          · rintro i y σ G hy ⟨l, v3, acc, rfl, sm, nl, g1, gl, fo⟩
            obtain ⟨d', hd', hdy⟩ := dpAll_get all hy
            obtain ⟨wf', sz'⟩ := wfTL_mem w2 hd'
            have la := fo.len
            refine ⟨.ref l, rfl, y, rfl, d', y, false, Hb, rfl, hb.trans sm, hdy, wf', by omega, by omega, fun G4 p2 xs2 s4 n2 e4 f2 => ⟨l, p2, acc, xs2, rfl, rfl, s4 _ _ gl, e4, ?_, fun l3 n3 => ?_⟩⟩
            · have h1 := occL_len (ds.take i)
              have h2 := parts_take (ds := ds) i
              have h3 := occ_len false d'
              rw [la, f2.len, List.length_cons, sizeLine_eq]
              omega
            · have s5 : Same G4 (upd G4 l3 (.lst (acc ++ xs2))) := same_new (fun b o e => e) n3 _
              refine ⟨l3, some y, acc ++ xs2, rfl, (sm.trans s4).trans s5, none_before (sm.trans s4) n3, s5 _ _ (s4 _ _ g1), upd_same, ?_⟩
              have ot : occL (ds.take (i + 1)) = occL (ds.take i) ++ occ false d' := by
                rw [List.take_add_one, hd', occL_app]
                show occL (ds.take i) ++ (occ false d' ++ []) = _
                rw [List.append_nil]
              rw [ot]
              exact F2.app (fo.mono (OcV.mono (TK.same (s4.trans s5)))) (f2.mono (OcV.mono (TK.same s5)))
          · rintro σ G ⟨l, v3, acc, rfl, sm, nl, g1, gl, fo⟩
            rw [lv, List.take_length] at fo
            exact ⟨_, rfl, q G l acc sm nl gl fo⟩
        | _ => cases w1
      | _ => cases wf
end
end Ad

/-! x in [..] of texts. -/
namespace Ad
open PySem PySem.Spec PySem.Calls PyProof.Rows L2
theorem inV_two (wd : Str) : inV (.str wd) [.str "all", .str "some"] = (decide (wd = "all") || decide (wd = "some")) := by
  by_cases h1 : wd = "all"
  · subst h1
    decide +kernel
  · by_cases h2 : wd = "some"
    · subst h2
      decide +kernel
    · rw [decide_eq_false h1, decide_eq_false h2]
      unfold inV
      rw [Bool.or_false, List.any_eq_false]
      intro y hy z
      rcases List.mem_cons.mp hy with rfl | hy
      · have e : wd = "all" := by
          first
            | exact beq_iff_eq.mp z
            | exact (beq_iff_eq.mp z).symm
        exact h1 e
      · cases List.mem_singleton.mp hy
        have e : wd = "some" := by
          first
            | exact beq_iff_eq.mp z
            | exact (beq_iff_eq.mp z).symm
        exact h2 e
theorem inV_mem (x : Str) (T : List Str) : inV (.str x) (T.map V.str) = decide (x ∈ T) := by
  by_cases h : x ∈ T
  · rw [decide_eq_true h]
    unfold inV
    refine List.any_eq_true.mpr ⟨.str x, List.mem_map.mpr ⟨x, h, rfl⟩, ?_⟩
    show (x == x) = true
    exact beq_self_eq_true x
  · rw [decide_eq_false h]
    unfold inV
    rw [List.any_eq_false]
    intro y hy z
    obtain ⟨t, ht, rfl⟩ := List.mem_map.mp hy
    have e : x = t := by
      first
        | exact beq_iff_eq.mp z
        | exact (beq_iff_eq.mp z).symm
    rw [e] at h
    exact h ht
theorem flat_texts (T : List Str) : (T.map V.str).all flatV = true := by
  rw [List.all_eq_true]
  intro y hy
  obtain ⟨t, _, rfl⟩ := List.mem_map.mp hy
  rfl
theorem go_out {b : Bool} (h : b = false) {A B : Prop} (q : B) : if b = true then A else B := by
  rw [h]
  exact iteF q
theorem go_in {b : Bool} (h : b = true) {A B : Prop} (q : A) : if b = true then A else B := by
  rw [h]
  exact iteT q
end Ad

/-! Words of sentences, compared. -/
namespace Ad
open PySem PySem.Spec PySem.Calls PyProof.Rows L2
theorem wne {x y : Str} (h : x ≠ y) : V.bl (decide (V.str x = V.str y)) = .bl false := congrArg V.bl (decide_eq_false fun z => h (V.str.inj z))
theorem weq (x : Str) : V.bl (decide (V.str x = V.str x)) = .bl true := congrArg V.bl (decide_eq_true rfl)
theorem word_two {w : Str} (h : w ∈ (["and", "or", "then", "same"] : List Str)) : w ≠ "is" ∧ w ≠ "equal" ∧ w ≠ "all" ∧ w ≠ "some" := by
  rcases List.mem_cons.mp h with rfl | h
  · decide +kernel
  rcases List.mem_cons.mp h with rfl | h
  · decide +kernel
  rcases List.mem_cons.mp h with rfl | h
  · decide +kernel
  rcases List.mem_cons.mp h with rfl | h
  · decide +kernel
  cases h
theorem word_at (eq : Bool) (as : List PyData) : (decide (Sn.word (.atm eq as) = "is") || decide (Sn.word (.atm eq as) = "equal")) = true := by
  cases eq
  · show (decide (("is" : Str) = "is") || decide (("is" : Str) = "equal")) = true
    decide +kernel
  · show (decide (("equal" : Str) = "is") || decide (("equal" : Str) = "equal")) = true
    decide +kernel
theorem word_qu (al : Bool) (z : Str) (s : Sn) : (decide (Sn.word (.qu al z s) = "is") || decide (Sn.word (.qu al z s) = "equal")) = false := by
  cases al
  · show (decide (("some" : Str) = "is") || decide (("some" : Str) = "equal")) = false
    decide +kernel
  · show (decide (("all" : Str) = "is") || decide (("all" : Str) = "equal")) = false
    decide +kernel
theorem word_qu2 (al : Bool) (z : Str) (s : Sn) : (decide (Sn.word (.qu al z s) = "all") || decide (Sn.word (.qu al z s) = "some")) = true := by
  cases al
  · show (decide (("some" : Str) = "all") || decide (("some" : Str) = "some")) = true
    decide +kernel
  · show (decide (("all" : Str) = "all") || decide (("all" : Str) = "some")) = true
    decide +kernel
theorem hd_test {K : PySem.W.Frag} {σ : L2.St} {G : Hp} {i : Nat} {a : Addr} {w y : Str} {vs : List V} {f : Bool → Hp → Prop} (e : σ[i]? = some (some (.ref a))) (sq : SqT K G a (.str w :: vs)) (h : f (decide (w = y)) G) :
    tTest (tOp rEq (tOp (rIxT K) (tVar i) (tC (.int 0))) (tC (.str y))) σ G f := by
  refine ⟨.ref a, e, a, _, 0, .str w, rfl, rfl, sq, atI_nat (j := 0) rfl, rfl, decide (w = y), ?_, h⟩
  by_cases z : w = y
  · subst z
    rw [weq, decide_eq_true rfl]
  · rw [wne z, decide_eq_false z]
theorem hd_or {K : PySem.W.Frag} {σ : L2.St} {G : Hp} {i : Nat} {a : Addr} {w y z : Str} {vs : List V} {f : Bool → Hp → Prop} (e : σ[i]? = some (some (.ref a))) (sq : SqT K G a (.str w :: vs)) (h : f (decide (w = y) || decide (w = z)) G) :
    tOr (tTest (tOp rEq (tOp (rIxT K) (tVar i) (tC (.int 0))) (tC (.str y)))) (tTest (tOp rEq (tOp (rIxT K) (tVar i) (tC (.int 0))) (tC (.str z)))) σ G f := by
  refine hd_test e sq ?_
  cases q : decide (w = y) with
  | true =>
    rw [q] at h
    exact iteT h
  | false =>
    rw [q] at h
    exact iteF (hd_test e sq h)
theorem catA_run {K : PySem.W.Frag} {G : Hp} {c z : Addr} {xs ys : List V} {Q : VK} (hc : SqT K G c xs) (hz : SqT K G z ys) (ny : ys ≠ []) (few : xs.length + ys.length ≤ sizeLine) (q : ∀ r G', Same G G' → SqT K G' r (xs ++ ys) → Q (.ref r) G') : rCatA K (.ref c) (.ref z) G Q := by
  refine ⟨c, z, xs, ys, rfl, rfl, hc, hz, few, fun e => ?_, fun _ e => absurd e ny, fun _ _ p np => ?_⟩
  · subst e
    exact q z G (Same.refl _) hz
  · exact q p _ (same_new (fun b o e => e) np _) (.inl (.inl upd_same))
end Ad

/-! The atoms of a sentence, from the left, each with the names that bind it. -/
namespace Ad
open PySem PySem.Spec PySem.Calls PyProof.Rows L2
abbrev sAtoms : Stmt := topS 14
theorem scAtoms : FnScope ["sentence", "found", "waiting", "part", "bound", "inner"] ["sentence"] (defScope sAtoms) := ⟨rfl, rfl, rfl, by decide +kernel, rfl, by decide +kernel, by decide +kernel⟩
def ItS (K : PySem.W.Frag) (H G : Hp) (q : Sn × List Str) (v : V) : Prop := ItV K H G (q.1.d, q.2) v
section
variable {P : Program} {w : World} {K : PySem.W.Frag} {mg : Str → Option Value} {base : Heap}
def spAtoms (K : PySem.W.Frag) : Sp := fun vs H Q _ => ∃ (s : Sn) (x : V) (Hb : Hp), vs = [x] ∧ Same Hb H ∧ Dp K Hb x s.d ∧ s.ok = true ∧ s.size ≤ 10000 ∧
  ∀ H' p xs, Same H H' → H p = none → H' p = some (.lst xs) → F2 (ItV K Hb H') (s.atoms []) xs → Q (.ref p) H'
theorem ok_atoms {f : Addr} {fd : FuncData} {k : Nat} (F : Fun K "atoms_of" "atoms_of" sAtoms f fd) (m_reversed : mg "reversed" = none) : FnOk P w K mg base CX0 (k + 1) f fd ["sentence"] (spAtoms K) := by
  refine F.ok scAtoms (fun vs H Q E h => ?_) (fun cdv A outer s H vs Q E hr h => ?_)
  · obtain ⟨t, x, _, rfl, _⟩ := h
    rfl
  · obtain ⟨t, x, Hb, rfl, hb, ht, ok, small, q⟩ := h
    refine ⟨_, (pss_cons (ps_set (i := 1) scAtoms.nd rfl (.inl rfl) (pe_lst pa_nil))
    (pss_cons (ps_set (i := 2) scAtoms.nd rfl (.inl rfl) (pe_lst (pa_cons (pe_tup (pa_cons (pv 0) (pa_cons (pe_tup pa_nil) pa_nil))) pa_nil)))
    (pss_cons (ps_while PassesOwn.never (pt_true (pv 2)) (pss_cons (ps_asg (pe_bm0 PySem.F.plainAttrs_list PySem.F.slot_list_pop PySem.F.type_list_pop mt_pop (pv 2)) (pg_tup rfl (pgs_cons (pg_name (i := 3) scAtoms.nd rfl (.inl rfl)) (pgs_cons (pg_name (i := 4) scAtoms.nd rfl (.inl rfl)) pgs_nil))))
      (pss_one (ps_if (PW.pt (pw_or (pt_cmpR op_eq (pe_ix ix_tup (pv 3) pe_int (fun _ _ => rfl)) pe_str (nomark _)) (pw_or1 (pt_cmpR op_eq (pe_ix ix_tup (pv 3) pe_int (fun _ _ => rfl)) pe_str (nomark _)))))
        (pss_one (ps_expr (pe_bm PySem.F.plainAttrs_list PySem.F.slot_list_append PySem.F.type_list_append mt_append (pv 1) (pa_cons (pe_tup (pa_cons (pv 3) (pa_cons (pv 4) pa_nil))) pa_nil)))) (pss_one (ps_if (PW.pt (pw_or (pt_cmpR op_eq (pe_ix ix_tup (pv 3) pe_int (fun _ _ => rfl)) pe_str (nomark _)) (pw_or1 (pt_cmpR op_eq (pe_ix ix_tup (pv 3) pe_int (fun _ _ => rfl)) pe_str (nomark _)))))
          (pss_one (ps_expr (pe_bm PySem.F.plainAttrs_list PySem.F.slot_list_append PySem.F.type_list_append mt_append (pv 2) (pa_cons (pe_tup (pa_cons (pe_ix ix_tup (pv 3) pe_int (fun _ _ => rfl)) (pa_cons (pe_op op_catA (pv 4) (pe_tup (pa_cons (pe_ix ix_tup (pv 3) pe_int (fun _ _ => rfl)) pa_nil))) pa_nil))) pa_nil)))) (pss_one (ps_for PassesOwn.never rfl (RT.pi_revA (by rfl) m_reversed (pe_slice sl_tup (pv 3) (po_some pe_int) po_none)) (pg_name (i := 5) scAtoms.nd rfl (.inl rfl))
            (pss_one (ps_expr (pe_bm PySem.F.plainAttrs_list PySem.F.slot_list_append PySem.F.type_list_append mt_append (pv 2) (pa_cons (pe_tup (pa_cons (pv 5) (pa_cons (pv 4) pa_nil))) pa_nil))))))))))))
    (pss_one (ps_ret (pv 1)))))), ?_⟩
    refine ⟨by decide, fun p1 n1 => ?_⟩
    have s1 : Same H (upd H p1 (.lst [])) := same_new (fun b o e => e) n1 _
    have e1 : (upd H p1 (.lst [])) p1 = some (.lst []) := upd_same
    generalize upd H p1 (.lst []) = G1 at s1 e1
    refine ⟨x, rfl, Nat.zero_le _, fun c nc => ⟨by show 2 ≤ sizeLine; rw [sizeLine_eq]; decide, fun b nb => ⟨by show 1 ≤ sizeLine; decide, fun p2 n2 => ?_⟩⟩⟩
    have s2 : Same G1 (upd G1 c (.tup [])) := same_new (fun b o e => e) nc _
    have ec : (upd G1 c (.tup [])) c = some (.tup []) := upd_same
    generalize upd G1 c (.tup []) = G2 at s2 ec nb n2
    have s3 : Same G2 (upd G2 b (.tup [x, .ref c])) := same_new (fun b o e => e) nb _
    have eb : (upd G2 b (.tup [x, .ref c])) b = some (.tup [x, .ref c]) := upd_same
    generalize upd G2 b (.tup [x, .ref c]) = G3 at s3 eb n2
    have s4 : Same G3 (upd G3 p2 (.lst [.ref b])) := same_new (fun b o e => e) n2 _
    have e4 : (upd G3 p2 (.lst [.ref b])) p2 = some (.lst [.ref b]) := upd_same
    generalize upd G3 p2 (.lst [.ref b]) = G4 at s4 e4
    have s13 := (s1.trans s2).trans s3
    have n2' : H p2 = none := none_before s13 n2
    have ne : p2 ≠ p1 := fun e => by
      rw [e, s3 _ _ (s2 _ _ e1)] at n2
      cases n2
    have s14 : Same H G4 := s13.trans s4
    have g1 : G4 p1 = some (.lst []) := s4 _ _ (s3 _ _ (s2 _ _ e1))
    have it0 : ItV K Hb G4 (t.d, []) (.ref b) := ⟨b, x, c, rfl, .inl (.inl (s4 _ _ eb)), ht, .inl (.inl (s4 _ _ (s3 _ _ ec)))⟩
    clear s1 s2 s3 s4 s13 e1 ec eb nc nb n2
    refine while_g (fun m σ G => ∃ (v3 v4 v5 : Option V) (fin : List (PyData × List Str)) (todo : List (Sn × List Str)) (xs ws : List V), σ = [some x, some (.ref p1), some (.ref p2), v3, v4, v5] ∧ G p1 = some (.lst xs) ∧ G p2 = some (.lst ws) ∧ Same H G ∧
      F2 (ItV K Hb G) fin xs ∧ F2 (ItS K Hb G) todo ws ∧ fin ++ Sn.all todo.reverse = t.atoms [] ∧ (∀ q ∈ todo, q.1.ok = true ∧ q.2.length + q.1.size ≤ t.size) ∧ Sn.sizes todo ≤ t.size ∧ m = Sn.sizes todo) ?_ ?_ ?_
    · refine ⟨_, none, none, none, [], [(t, [])], [], [.ref b], rfl, g1, e4, s14, rfl, F2.one it0, ?_, ?_, ?_, rfl⟩
      · show t.atoms [] ++ [] = _
        rw [List.append_nil]
      · intro z hz
        cases List.mem_singleton.mp hz
        exact ⟨ok, by show 0 + t.size ≤ t.size; omega⟩
      · show t.size + 0 ≤ t.size
        omega
    · clear g1 e4 s14 it0
      rintro m σ G ⟨v3, v4, v5, fin, todo, xs, ws, rfl, g1, g2, sm, a1, a2, sum, good, few, rfl⟩
      have fl : xs.length ≤ t.size := by
        have h1 := a1.len
        have h2 := t.atoms_len []
        rw [← sum, List.length_append] at h2
        omega
      have wl : ws.length ≤ t.size := by
        have h1 := a2.len
        have h2 := Sn.sizes_len todo
        omega
      refine ⟨_, rfl, !ws.isEmpty, .inl ⟨ws, .inl (.inl g2), rfl⟩, ?_⟩
      by_cases em : todo = []
      · subst em
        cases (show ws = [] from a2)
        refine iteF ?_
        refine ⟨_, rfl, q G p1 xs sm n1 g1 ?_⟩
        have e : fin = t.atoms [] := by rw [← sum]; exact (List.append_nil _).symm
        rw [← e]
        exact a1
      · obtain ⟨us, u, ys, y, rfl, rfl, b1, b2⟩ := F2.last' a2 em
        have isT : (!(ys ++ [y]).isEmpty) = true := by cases ys <;> rfl
        rw [isT]
        refine iteT ?_
        have dl : (ys ++ [y]).dropLast = ys := List.dropLast_concat
        have rv : (us ++ [u]).reverse = u :: us.reverse := by rw [List.reverse_append]; rfl
        rw [rv] at sum
        rw [Sn.sizes_app] at few
        obtain ⟨oku, deep⟩ := good u (List.mem_append_right _ (List.mem_singleton_self u))
        have good' : ∀ q ∈ us, q.1.ok = true ∧ q.2.length + q.1.size ≤ t.size := fun q hq => good q (List.mem_append_left _ hq)
        obtain ⟨u, B⟩ := u
        have few' : Sn.sizes us + (u.size + 0) ≤ t.size := few
        have sum' : fin ++ (u.atoms B ++ Sn.all us.reverse) = t.atoms [] := sum
        obtain ⟨b, pv, c, rfl, sb, dp, sc⟩ := b2
        refine ⟨_, rfl, .inl ⟨rfl, _, .inl (.inl g2)⟩, p2, ys ++ [.ref b], .ref b, rfl, rfl, g2, (by rw [List.length_append, List.length_singleton, Nat.add_sub_cancel, List.getElem?_append_right (Nat.le_refl _), Nat.sub_self]; rfl), ?_⟩
        rw [dl]
        have k2 : TK G (upd G p2 (.lst ys)) := TK.lst g2 _
        have h1 : (upd G p2 (.lst ys)) p1 = some (.lst xs) := by rw [upd_ne ne.symm]; exact g1
        have h2 : (upd G p2 (.lst ys)) p2 = some (.lst ys) := upd_same
        have sm2 : Same H (upd G p2 (.lst ys)) := same_on sm n2' _
        replace a1 := a1.mono (ItV.mono k2)
        replace b1 : F2 (ItS K Hb (upd G p2 (.lst ys))) us ys := b1.mono (fun q v h => ItV.mono k2 _ v h)
        replace sb := k2.sq sb
        replace sc := k2.sq sc
        generalize upd G p2 (.lst ys) = G2 at h1 h2 sm2 a1 b1 sb sc
        refine ⟨b, _, rfl, sb, rfl, _, _, rfl, _, _, rfl, rfl, ?_⟩
        clear a2 g1 g2 sm isT dl rv em k2 good sum few
        have three : (∃ eq as, u = .atm eq as) ∨ (∃ al z s, u = .qu al z s) ∨ ∃ (w : Str) (ss : List Sn) (vs : List V) (a : Addr), pv = .ref a ∧ SqT K Hb a (.str w :: vs) ∧ F2 (fun (s : Sn) v => Dp K Hb v s.d) ss vs ∧ (w ≠ "is" ∧ w ≠ "equal" ∧ w ≠ "all" ∧ w ≠ "some") ∧
            u.atoms B = Sn.all (ss.map fun s => (s, B)) ∧ u.size = 1 + Sn.sizes (ss.map fun s => (s, B)) ∧ (∀ s ∈ ss, s.ok = true ∧ s.size ≤ u.size) ∧ vs.length ≤ 2 := by
          cases u with
          | atm eq as => exact .inl ⟨eq, as, rfl⟩
          | qu al z s => exact .inr (.inl ⟨al, z, s, rfl⟩)
          | one s =>
            cases dp with
            | @tup a zs _ sq all =>
            cases all with
            | @cons v vs _ _ hv all =>
            cases hv
            cases all with
            | @cons v2 vs2 _ _ hs all =>
            cases all
            refine .inr (.inr ⟨"not", [s], [v2], a, rfl, sq, F2.one hs, by decide +kernel, (List.append_nil _).symm, ?_, ?_, by show 1 ≤ 2; decide⟩)
            · show 1 + s.size = 1 + (s.size + 0)
              omega
            · intro z hz
              cases List.mem_singleton.mp hz
              exact ⟨oku, by show s.size ≤ 1 + s.size; omega⟩
          | two w a b =>
            cases dp with
            | @tup ad zs _ sq all =>
            cases all with
            | @cons v vs _ _ hv all =>
            cases hv
            cases all with
            | @cons v2 vs2 _ _ ha all =>
            cases all with
            | @cons v3 vs3 _ _ hb all =>
            cases all
            have o : (decide (w ∈ (["and", "or", "then", "same"] : List Str)) && (a.ok && b.ok)) = true := oku
            rw [Bool.and_eq_true, Bool.and_eq_true] at o
            refine .inr (.inr ⟨w, [a, b], [v2, v3], ad, rfl, sq, ⟨_, _, rfl, ha, F2.one hb⟩, word_two (of_decide_eq_true o.1), ?_, ?_, ?_, Nat.le_refl 2⟩)
            · show a.atoms B ++ b.atoms B = a.atoms B ++ (b.atoms B ++ [])
              rw [List.append_nil]
            · show 1 + a.size + b.size = 1 + (a.size + (b.size + 0))
              omega
            · intro z hz
              rcases List.mem_cons.mp hz with rfl | hz
              · exact ⟨o.2.1, by show z.size ≤ 1 + z.size + b.size; omega⟩
              · cases List.mem_singleton.mp hz
                exact ⟨o.2.2, by show b.size ≤ 1 + a.size + b.size; omega⟩
        rcases three with ⟨eq, as, rfl⟩ | ⟨al, z, s, rfl⟩ | ⟨w, ss, vs, a, rfl, sq, fs, ⟨w1, w2, w3, w4⟩, eqA, eqS, oks, short⟩
        · cases dp with
          | @tup a zs _ sq all =>
          cases all with
          | @cons v vs _ _ hv all =>
          cases hv
          have sq2 := (TK.same (hb.trans sm2)).sq sq
          refine hd_or rfl sq2 ?_
          have hw : (decide (Sn.word (.atm eq as) = "is") || decide (Sn.word (.atm eq as) = "equal")) = true := word_at eq as
          rw [hw]
          refine iteT ?_
          refine ⟨.ref p1, rfl, .inl ⟨rfl, _, .inl (.inl h1)⟩, .ref a, rfl, .ref c, rfl, by show 2 ≤ sizeLine; rw [sizeLine_eq]; decide, fun b' nb => ?_⟩
          have s3 : Same G2 (upd G2 b' (.tup [.ref a, .ref c])) := same_new (fun b o e => e) nb _
          have eb : (upd G2 b' (.tup [.ref a, .ref c])) b' = some (.tup [.ref a, .ref c]) := upd_same
          replace h1 := s3 _ _ h1
          replace h2 := s3 _ _ h2
          replace sm2 := sm2.trans s3
          replace a1 := a1.mono (ItV.mono (TK.same s3))
          replace b1 : F2 (ItS K Hb (upd G2 b' (.tup [.ref a, .ref c]))) us ys := b1.mono (fun q v h => ItV.mono (TK.same s3) _ v h)
          replace sc := (TK.same s3).sq sc
          generalize upd G2 b' (.tup [.ref a, .ref c]) = G3 at h1 h2 sm2 a1 b1 sc eb
          refine ⟨p1, xs, .ref b', rfl, rfl, h1, by rw [sizeLine_eq]; omega, ?_⟩
          have k5 : TK G3 (upd G3 p1 (.lst (xs ++ [.ref b']))) := TK.lst h1 _
          refine ⟨_, ?_, some (.ref a), some (.ref c), v5, fin ++ [(Sn.d (.atm eq as), B)], us, xs ++ [.ref b'], ys, rfl, upd_same, by rw [upd_ne ne]; exact h2, same_on sm2 n1 _, F2.app (a1.mono (ItV.mono k5)) (F2.one ⟨b', .ref a, c, rfl, k5.sq (.inl (.inl eb)), .tup sq (.cons (.str _) all), k5.sq sc⟩), b1.mono (fun q v h => ItV.mono k5 _ v h), ?_, good', by omega, rfl⟩
          · rw [Sn.sizes_app]
            show Sn.sizes us < Sn.sizes us + (1 + 0)
            omega
          · rw [List.append_assoc]
            exact sum'
        · cases dp with
          | @tup a zs _ sq all =>
          cases all with
          | @cons v vs _ _ hv all =>
          cases hv
          cases all with
          | @cons v2 vs2 _ _ hv2 all =>
          cases hv2
          cases all with
          | @cons v3' vs3 _ _ hs all =>
          cases all
          have sq2 := (TK.same (hb.trans sm2)).sq sq
          refine hd_or rfl sq2 ?_
          have hw : (decide (Sn.word (.qu al z s) = "is") || decide (Sn.word (.qu al z s) = "equal")) = false := word_qu al z s
          rw [hw]
          refine iteF ?_
          refine hd_or rfl sq2 ?_
          have hw2 : (decide (Sn.word (.qu al z s) = "all") || decide (Sn.word (.qu al z s) = "some")) = true := word_qu2 al z s
          rw [hw2]
          refine iteT ?_
          have szs : (Sn.qu al z s).size = 1 + s.size := rfl
          have deep' : B.length + (1 + s.size) ≤ t.size := deep
          refine ⟨.ref p2, rfl, .inl ⟨rfl, _, .inl (.inl h2)⟩, .ref a, rfl, a, _, 2, v3', rfl, rfl, sq2, atI_nat (j := 2) rfl, .ref c, rfl, .ref a, rfl, a, _, 1, .str z, rfl, rfl, sq2, atI_nat (j := 1) rfl, by show 1 ≤ sizeLine; decide, fun z1 nz1 => ?_⟩
          have s3 : Same G2 (upd G2 z1 (.tup [.str z])) := same_new (fun b o e => e) nz1 _
          refine catA_run ((TK.same s3).sq sc) (.inl (.inl upd_same)) (by simp) (by rw [List.length_map, sizeLine_eq]; show B.length + 1 ≤ _; omega) fun c' G3 s4 sc' => ⟨by show 2 ≤ sizeLine; rw [sizeLine_eq]; decide, fun b' nb => ?_⟩
          have s5 : Same G3 (upd G3 b' (.tup [v3', .ref c'])) := same_new (fun b o e => e) nb _
          have eb : (upd G3 b' (.tup [v3', .ref c'])) b' = some (.tup [v3', .ref c']) := upd_same
          have s25 := (s3.trans s4).trans s5
          replace h1 := s25 _ _ h1
          replace h2 := s25 _ _ h2
          replace sm2 := sm2.trans s25
          replace a1 := a1.mono (ItV.mono (TK.same s25))
          replace b1 : F2 (ItS K Hb (upd G3 b' (.tup [v3', .ref c']))) us ys := b1.mono (fun q v h => ItV.mono (TK.same s25) _ v h)
          replace sc' := (TK.same s5).sq sc'
          generalize upd G3 b' (.tup [v3', .ref c']) = G4 at h1 h2 sm2 a1 b1 sc' eb
          clear s3 s4 s5 s25
          rw [List.length_append] at wl
          refine ⟨p2, ys, .ref b', rfl, rfl, h2, by rw [sizeLine_eq]; omega, ?_⟩
          have k5 : TK G4 (upd G4 p2 (.lst (ys ++ [.ref b']))) := TK.lst h2 _
          refine ⟨_, ?_, some (.ref a), some (.ref c), v5, fin, us ++ [(s, B ++ [z])], xs, ys ++ [.ref b'], rfl, by rw [upd_ne ne.symm]; exact h1, upd_same, same_on sm2 n2' _, a1.mono (ItV.mono k5), F2.app (b1.mono (fun q v h => ItV.mono k5 _ v h)) (F2.one ⟨b', v3', c', rfl, k5.sq (.inl (.inl eb)), hs, k5.sq (by
            have e : (B ++ [z]).map V.str = B.map V.str ++ [.str z] := List.map_append
            show SqT K G4 c' ((B ++ [z]).map V.str)
            rw [e]
            exact sc')⟩), ?_, ?_, ?_, rfl⟩
          · rw [Sn.sizes_app, Sn.sizes_app]
            show Sn.sizes us + (s.size + 0) < Sn.sizes us + (1 + s.size + 0)
            omega
          · rw [List.reverse_append]
            exact sum'
          · intro q hq
            rcases List.mem_append.mp hq with h | h
            · exact good' q h
            · cases List.mem_singleton.mp h
              refine ⟨oku, ?_⟩
              show (B ++ [z]).length + s.size ≤ t.size
              rw [List.length_append]
              show B.length + 1 + s.size ≤ t.size
              omega
          · rw [Sn.sizes_app]
            show Sn.sizes us + (s.size + 0) ≤ t.size
            omega
        · have sq2 := (TK.same (hb.trans sm2)).sq sq
          refine hd_or rfl sq2 ?_
          rw [decide_eq_false w1, decide_eq_false w2]
          refine iteF ?_
          refine hd_or rfl sq2 ?_
          rw [decide_eq_false w3, decide_eq_false w4]
          refine iteF ?_
          have lss := fs.len
          have deep' : B.length + u.size ≤ t.size := deep
          refine ⟨.ref a, rfl, 1, rfl, a, _, rfl, sq2, cut_args.1, fun p3 n3 => ?_⟩
          rw [cut_args.2]
          have s3 : Same G2 (upd G2 p3 (.tup vs)) := same_new (fun b o e => e) n3 _
          have e3 : (upd G2 p3 (.tup vs)) p3 = some (.tup vs) := upd_same
          replace h1 := s3 _ _ h1
          replace h2 := s3 _ _ h2
          replace sm2 := sm2.trans s3
          replace a1 := a1.mono (ItV.mono (TK.same s3))
          replace b1 : F2 (ItS K Hb (upd G2 p3 (.tup vs))) us ys := b1.mono (fun q v h => ItV.mono (TK.same s3) _ v h)
          replace sc := (TK.same s3).sq sc
          generalize upd G2 p3 (.tup vs) = G3 at h1 h2 sm2 a1 b1 sc e3
          clear s3 n3 sb sq2 dp
          have yl : ys.length + 1 ≤ t.size := by
            rw [List.length_append] at wl
            exact wl
          refine ⟨p3, vs, rfl, .inr ⟨.inl (.inl e3), RT.for_ItvT (K := K) (a := p3) (xs := vs) (fun i σ G => ∃ (v5 : Option V) (zs : List V), σ = [some x, some (.ref p1), some (.ref p2), some (.ref a), some (.ref c), v5] ∧ G p1 = some (.lst xs) ∧ G p2 = some (.lst (ys ++ zs)) ∧ Same H G ∧ SqT K G p3 vs ∧
            F2 (ItV K Hb G) fin xs ∧ F2 (ItS K Hb G) us ys ∧ F2 (ItS K Hb G) ((ss.drop (ss.length - i)).reverse.map fun s => (s, B)) zs ∧ SqT K G c (B.map V.str) ∧ zs.length = i ∧ i ≤ vs.length) ?_ ?_ ?_ ?_⟩⟩
          · refine ⟨v5, [], rfl, h1, by rw [List.append_nil]; exact h2, sm2, .inl (.inl e3), a1, b1, ?_, sc, rfl, Nat.zero_le _⟩
            rw [Nat.sub_zero, List.drop_length]
            rfl
          · rintro i σ G ⟨v5, zs, _, _, _, _, h, _⟩
            exact h
          · rintro i y σ G hi hy ⟨v5, zs, rfl, h1, h2, sm2, hp3, a1, b1, b2, sc, lz, il⟩
            obtain ⟨sn, hsn, dsn⟩ := fs.get hy
            have lt : vs.length - 1 - i < ss.length := (List.getElem?_eq_some_iff.mp hsn).1
            have dr : (ss.drop (ss.length - (i + 1))) = sn :: ss.drop (ss.length - i) := by
              have e1 : ss.length - (i + 1) = vs.length - 1 - i := by omega
              have e2 : ss.length - i = vs.length - 1 - i + 1 := by omega
              rw [e1, e2, List.drop_eq_getElem_cons lt]
              have e3 : ss[vs.length - 1 - i] = sn := by
                have := List.getElem?_eq_getElem lt
                rw [this] at hsn
                exact Option.some.inj hsn
              rw [e3]
            refine ⟨.ref p2, rfl, .inl ⟨rfl, _, .inl (.inl h2)⟩, y, rfl, .ref c, rfl, by show 2 ≤ sizeLine; rw [sizeLine_eq]; decide, fun b' nb => ?_⟩
            have s3 : Same G (upd G b' (.tup [y, .ref c])) := same_new (fun b o e => e) nb _
            have eb : (upd G b' (.tup [y, .ref c])) b' = some (.tup [y, .ref c]) := upd_same
            replace h1 := s3 _ _ h1
            replace h2 := s3 _ _ h2
            replace sm2 := sm2.trans s3
            replace a1 := a1.mono (ItV.mono (TK.same s3))
            replace b1 : F2 (ItS K Hb (upd G b' (.tup [y, .ref c]))) us ys := b1.mono (fun q v h => ItV.mono (TK.same s3) _ v h)
            replace b2 : F2 (ItS K Hb (upd G b' (.tup [y, .ref c]))) ((ss.drop (ss.length - i)).reverse.map fun s => (s, B)) zs := b2.mono (fun q v h => ItV.mono (TK.same s3) _ v h)
            replace sc := (TK.same s3).sq sc
            replace hp3 := (TK.same s3).sq hp3
            generalize upd G b' (.tup [y, .ref c]) = G4 at h1 h2 sm2 a1 b1 b2 sc hp3 eb
            refine ⟨p2, ys ++ zs, .ref b', rfl, rfl, h2, by rw [List.length_append, sizeLine_eq]; omega, ?_⟩
            have k5 : TK G4 (upd G4 p2 (.lst (ys ++ zs ++ [.ref b']))) := TK.lst h2 _
            refine ⟨some y, zs ++ [.ref b'], rfl, by rw [upd_ne ne.symm]; exact h1, by rw [← List.append_assoc]; exact upd_same, same_on sm2 n2' _, k5.sq hp3, a1.mono (ItV.mono k5), b1.mono (fun q v h => ItV.mono k5 _ v h), ?_, k5.sq sc, by rw [List.length_append, lz]; rfl, hi⟩
            rw [dr, List.reverse_cons, List.map_append]
            exact F2.app (b2.mono (fun q v h => ItV.mono k5 _ v h)) (F2.one ⟨b', y, c, rfl, k5.sq (.inl (.inl eb)), dsn, k5.sq sc⟩)
          · rintro σ G ⟨v5, zs, rfl, h1, h2, sm2, hp3, a1, b1, b2, sc, lz, il⟩
            have z0 : ss.length - vs.length = 0 := by omega
            rw [z0, List.drop_zero] at b2
            refine ⟨_, ?_, _, _, v5, fin, us ++ (ss.reverse.map fun s => (s, B)), xs, ys ++ zs, rfl, h1, h2, sm2, a1, F2.app b1 b2, ?_, ?_, ?_, rfl⟩
            · rw [Sn.sizes_app, Sn.sizes_app, List.map_reverse, Sn.sizes_rev]
              show Sn.sizes us + _ < Sn.sizes us + (u.size + 0)
              omega
            · rw [List.reverse_append, List.map_reverse, List.reverse_reverse, Sn.all_app, ← eqA]
              exact sum'
            · intro q hq
              rcases List.mem_append.mp hq with h | h
              · exact good' q h
              · obtain ⟨s', hs', rfl⟩ := List.mem_map.mp h
                obtain ⟨o1, o2⟩ := oks s' (List.mem_reverse.mp hs')
                refine ⟨o1, ?_⟩
                show B.length + s'.size ≤ t.size
                omega
            · rw [Sn.sizes_app, List.map_reverse, Sn.sizes_rev]
              omega
    · exact mono_true mono_var
end
end Ad

namespace Ad
open PySem PySem.Spec PySem.Calls PyProof.Rows L2
abbrev sLIn : Stmt := topS 30
theorem scLIn : FnScope ["_law_sentence", "_law_found", "_law_part"] ["_law_sentence"] (defScope sLIn) := ⟨rfl, rfl, rfl, by decide +kernel, rfl, by decide +kernel, by decide +kernel⟩
theorem lo_part {K : PySem.W.Frag} {σ : L2.St} {G : Hp} {a : Addr} {wd : Str} {ys : List V} {Q : Option Int → Hp → Prop} (e : σ[0]? = some (some (.ref a))) (sq : SqT K G a (.str wd :: ys))
    (q : ∀ G', Same G G' → Q (some (if (decide (wd = "all") || decide (wd = "some")) = true then 2 else 1)) G') :
    tPart (tIf (tTest (tOp (rIn K false) (tOp (rIxT K) (tVar 0) (tC (.int 0))) (tLst (tCons (tC (.str "all")) (tCons (tC (.str "some")) tNil))))) (tC (.int 2)) (tC (.int 1))) σ G Q := by
  refine ⟨.ref a, e, a, _, 0, .str wd, rfl, rfl, sq, atI_nat (j := 0) rfl, by show 2 ≤ sizeLine; rw [sizeLine_eq]; decide, fun l nl => ⟨l, _, rfl, .inl (.inl (.inl upd_same)), rfl, rfl, inV (.str wd) [.str "all", .str "some"], rfl, ?_⟩⟩
  have h := q (upd G l (.lst [.str "all", .str "some"])) (same_new (fun b o e => e) nl _)
  rw [inV_two]
  cases hB : (decide (wd = "all") || decide (wd = "some")) with
  | true =>
    rw [hB, if_pos rfl] at h
    exact iteT ⟨2, rfl, h⟩
  | false =>
    rw [hB, if_neg (by decide)] at h
    exact iteF ⟨1, rfl, h⟩
section
variable {P : Program} {w : World} {K : PySem.W.Frag} {mg : Str → Option Value} {base : Heap}
def spLIn (K : PySem.W.Frag) (n : Nat) : Sp := fun vs H Q _ => ∃ (s : Sn) (x : V) (Hb : Hp), vs = [x] ∧ Same Hb H ∧ Dp K Hb x s.d ∧ s.ok = true ∧ s.wf = true ∧ s.size ≤ n ∧ n ≤ 1000 ∧
  ∀ H' p xs, Same H H' → H p = none → H' p = some (.lst xs) → F2 (OcV K H') s.occs xs → Q (.ref p) H'
theorem ok_lin {f fT : Addr} {fd fdT : FuncData} {k : Nat} (F : Fun K "_law_in" "_law_in" sLIn f fd) (gF : mg "_law_in" = some (.ref f)) (bF : Binds K fd ["_law_sentence"] []) (hT : Has P w K mg base k "_law_in_term" ["_law_term", "_law_is_truth"] (spInTerm K 40) fT fdT) :
    ∀ n, FnOk P w K mg base CX0 (k + n) f fd ["_law_sentence"] (spLIn K n)
  | 0 => vac fun vs H Q E ⟨s, x, Hb, _, _, _, _, _, z, _⟩ => absurd (Nat.le_trans s.size_pos z) (by decide)
  | n + 1 => by
    have IH : FnOk P w K mg base CX0 (k + n) f fd ["_law_sentence"] (spLIn K n) := ok_lin F gF bF hT n
    refine F.ok scLIn (fun vs H Q E h => ?_) (fun cdv A outer s H vs Q E hr h => ?_)
    · obtain ⟨d, x, Hb, rfl, _⟩ := h
      rfl
    · obtain ⟨t, x, Hb, rfl, hb, hd, ok, wf, shallow, small, q⟩ := h
      have hr0 := hr.mono (Nat.le_add_right k n)
      refine ⟨_, (pss_cons (ps_if (pt_cmpR op_eq (pe_ix ix_tup (pv 0) pe_int (fun _ _ => rfl)) pe_str (nomark _))
      (pss_one (ps_ret (pe_call hT.G hr0 (by rfl) hT.g hT.kp hT.b .nil pass0 (pa_cons (pe_ix ix_tup (pv 0) pe_int (fun _ _ => rfl)) (pa_cons pe_bl pa_nil))))) pss_nil)
    (pss_cons (ps_if (pt_cmpR op_eq (pe_ix ix_tup (pv 0) pe_int (fun _ _ => rfl)) pe_str (nomark _))
      (pss_one (ps_ret (pe_op op_cat (pe_call hT.G hr0 (by rfl) hT.g hT.kp hT.b .nil pass0 (pa_cons (pe_ix ix_tup (pv 0) pe_int (fun _ _ => rfl)) (pa_cons pe_bl pa_nil))) (pe_call hT.G hr0 (by rfl) hT.g hT.kp hT.b .nil pass0 (pa_cons (pe_ix ix_tup (pv 0) pe_int (fun _ _ => rfl)) (pa_cons pe_bl pa_nil)))))) pss_nil)
    (pss_cons (ps_set (i := 1) scLIn.nd rfl (.inl rfl) (pe_lst pa_nil))
    (pss_cons (ps_for PassesOwn.never rfl (pi_tup (pe_slice sl_tup (pv 0) (po_some (pe_ifExp (pt_cmpR op_in_seq (pe_ix ix_tup (pv 0) pe_int (fun _ _ => rfl)) (pe_lst (pa_cons pe_str (pa_cons pe_str pa_nil))) (by with_unfolding_all rfl)) pe_int pe_int)) po_none)) (pg_name (i := 2) scLIn.nd rfl (.inl rfl))
      (pss_one (ps_set (i := 1) scLIn.nd rfl (.inl rfl) (pe_op op_cat (pv 1) (pe_call IH hr (by rfl) gF F.kp bF .nil pass0 (pa_cons (pv 2) pa_nil))))))
    (pss_one (ps_ret (pv 1))))))), ?_⟩
      have three : (∃ eq as, t = .atm eq as) ∨ ∃ (wd : Str) (lo : Int) (ys : List V) (ss : List Sn) (vs : List V) (a : Addr), x = .ref a ∧ SqT K Hb a (.str wd :: ys) ∧ F2 (fun (s : Sn) v => Dp K Hb v s.d) ss vs ∧ decide (wd = "is") = false ∧ decide (wd = "equal") = false ∧
          lo = (if (decide (wd = "all") || decide (wd = "some")) = true then 2 else 1) ∧ (¬ (HT.sIx (V.str wd :: ys).length 0 (some lo) = 0 ∧ HT.sIx (V.str wd :: ys).length (V.str wd :: ys).length none = (V.str wd :: ys).length) ∧ cutV (V.str wd :: ys) (some lo) none = vs) ∧
          t.occs = Sn.occsL ss ∧ (∀ s ∈ ss, s.ok = true ∧ s.wf = true ∧ s.size < t.size) := by
        cases t with
        | atm eq as => exact .inl ⟨eq, as, rfl⟩
        | qu al z s =>
          cases hd with
          | @tup a zs _ sq all =>
          cases all with
          | @cons v vs _ _ hv all =>
          cases hv
          cases all with
          | @cons v2 vs2 _ _ hv2 all =>
          cases hv2
          cases all with
          | @cons v3 vs3 _ _ hs all =>
          cases all with
          | nil =>
            have hq := word_qu al z s
            rw [Bool.or_eq_false_iff] at hq
            refine .inr ⟨Sn.word (.qu al z s), 2, [.str z, v3], [s], [v3], a, rfl, sq, F2.one hs, hq.1, hq.2, ?_, ⟨?_, ?_⟩, (List.append_nil _).symm, ?_⟩
            · rw [word_qu2 al z s, if_pos rfl]
            · intro h
              exact absurd h.1 (by show ¬ (HT.sIx 3 0 (some 2) = 0); decide +kernel)
            · have e1 : HT.sIx 3 0 (some 2) = 2 := by decide +kernel
              have e2 : HT.sIx 3 3 none = 3 := by decide +kernel
              show (List.drop (HT.sIx 3 0 (some 2)) _).take (HT.sIx 3 3 none - HT.sIx 3 0 (some 2)) = _
              rw [e1, e2]
              rfl
            · intro z' hz
              cases List.mem_singleton.mp hz
              exact ⟨ok, wf, by show s.size < 1 + s.size; omega⟩
        | one s =>
          cases hd with
          | @tup a zs _ sq all =>
          cases all with
          | @cons v vs _ _ hv all =>
          cases hv
          cases all with
          | @cons v2 vs2 _ _ hs all =>
          cases all with
          | nil =>
            refine .inr ⟨"not", 1, [v2], [s], [v2], a, rfl, sq, F2.one hs, by decide +kernel, by decide +kernel, ?_, cut_args, (List.append_nil _).symm, ?_⟩
            · have e : (decide (("not" : Str) = "all") || decide (("not" : Str) = "some")) = false := by decide +kernel
              rw [e, if_neg (by decide)]
            · intro z' hz
              cases List.mem_singleton.mp hz
              exact ⟨ok, wf, by show s.size < 1 + s.size; omega⟩
        | two wd a b =>
          cases hd with
          | @tup ad zs _ sq all =>
          cases all with
          | @cons v vs _ _ hv all =>
          cases hv
          cases all with
          | @cons v2 vs2 _ _ ha all =>
          cases all with
          | @cons v3 vs3 _ _ hb' all =>
          cases all with
          | nil =>
            obtain ⟨o1, o2⟩ := Bool.and_eq_true_iff.mp (show (decide (wd ∈ (["and", "or", "then", "same"] : List Str)) && (a.ok && b.ok)) = true from ok)
            obtain ⟨o2, o3⟩ := Bool.and_eq_true_iff.mp o2
            obtain ⟨f1, f2⟩ := Bool.and_eq_true_iff.mp (show (a.wf && b.wf) = true from wf)
            obtain ⟨w1, w2, w3, w4⟩ := word_two (of_decide_eq_true o1)
            refine .inr ⟨wd, 1, [v2, v3], [a, b], [v2, v3], ad, rfl, sq, ⟨_, _, rfl, ha, F2.one hb'⟩, decide_eq_false w1, decide_eq_false w2, ?_, cut_args, ?_, ?_⟩
            · rw [decide_eq_false w3, decide_eq_false w4]
              rfl
            · show a.occs ++ b.occs = a.occs ++ (b.occs ++ [])
              rw [List.append_nil]
            · intro z' hz
              rcases List.mem_cons.mp hz with rfl | hz
              · exact ⟨o2, f1, by show z'.size < 1 + z'.size + b.size; omega⟩
              · cases List.mem_singleton.mp hz
                exact ⟨o3, f2, by show b.size < 1 + a.size + b.size; omega⟩
      rcases three with ⟨eq, as, rfl⟩ | ⟨wd, lo, ys, ss, vs, a, rfl, sq, fs, ni, ne, hlo, cut, eqO, oks⟩
      · cases hd with
        | @tup a zs _ sq all =>
        cases all with
        | @cons v vs _ _ hv all =>
        cases hv
        have sq0 := (TK.same hb).sq sq
        cases eq with
        | false =>
          obtain ⟨h1, h⟩ := Bool.and_eq_true_iff.mp (show (decide (as.length = 1) && (wfTL as && (isTu (as.getD 0 .none) && decide ((partsDL as).length ≤ 40)))) = true from wf)
          obtain ⟨h2, h⟩ := Bool.and_eq_true_iff.mp h
          obtain ⟨h3, h4⟩ := Bool.and_eq_true_iff.mp h
          have l1 := of_decide_eq_true h1
          have l4 := of_decide_eq_true h4
          obtain ⟨t, rfl⟩ : ∃ t, as = [t] := by
            cases as with
            | nil => cases l1
            | cons t as =>
              cases as with
              | nil => exact ⟨t, rfl⟩
              | cons t2 as => cases l1
          cases all with
          | @cons v1 vs1 _ _ ht all =>
          cases all with
          | nil =>
            have h6 : (partsDL [t]).length = (partsD t).length := by
              show (partsD t ++ []).length = _
              rw [List.append_nil]
            have wt : wfT t = true := (Bool.and_eq_true_iff.mp h2).1
            refine hd_test rfl sq0 ?_
            have e : decide (Sn.word (.atm false [t]) = "is") = true := by
              show decide (("is" : Str) = "is") = true
              decide +kernel
            rw [e]
            refine iteT ?_
            exact ⟨.ref a, rfl, a, _, 1, _, rfl, rfl, sq0, atI_nat (j := 1) rfl, t, _, true, Hb, rfl, hb, ht, wt, by omega, by decide, fun H' p xs s2 np e f2 => q H' p xs s2 np e f2⟩
        | true =>
          obtain ⟨h1, h⟩ := Bool.and_eq_true_iff.mp (show (decide (as.length = 2) && (wfTL as && decide ((partsDL as).length ≤ 40))) = true from wf)
          obtain ⟨h2, h4⟩ := Bool.and_eq_true_iff.mp h
          have l1 := of_decide_eq_true h1
          have l4 := of_decide_eq_true h4
          obtain ⟨t1, t2, rfl⟩ : ∃ t1 t2, as = [t1, t2] := by
            cases as with
            | nil => cases l1
            | cons t1 as =>
              cases as with
              | nil => cases l1
              | cons t2 as =>
                cases as with
                | nil => exact ⟨t1, t2, rfl⟩
                | cons t3 as => cases l1
          cases all with
          | @cons v1 vs1 _ _ ht1 all =>
          cases all with
          | @cons v2 vs2 _ _ ht2 all =>
          cases all with
          | nil =>
            obtain ⟨w1, z1⟩ := wfTL_mem (i := 0) h2 rfl
            obtain ⟨w2, z2⟩ := wfTL_mem (i := 1) h2 rfl
            refine hd_test rfl sq0 ?_
            have e : decide (Sn.word (.atm true [t1, t2]) = "is") = false := by
              show decide (("equal" : Str) = "is") = false
              decide +kernel
            rw [e]
            refine iteF (hd_test rfl sq0 ?_)
            have e : decide (Sn.word (.atm true [t1, t2]) = "equal") = true := by
              show decide (("equal" : Str) = "equal") = true
              decide +kernel
            rw [e]
            refine iteT ?_
            refine ⟨.ref a, rfl, a, _, 1, _, rfl, rfl, sq0, atI_nat (j := 1) rfl, t1, _, false, Hb, rfl, hb, ht1, w1, by omega, by decide, fun G1 p1 xs1 s1 n1 e1 f1 => ⟨.ref a, rfl, a, _, 2, _, rfl, rfl, (TK.same s1).sq sq0, atI_nat (j := 2) rfl, t2, _, false, Hb, rfl, hb.trans s1, ht2, w2, by omega, by decide, fun G2 p2 xs2 s2 n2 e2 f2 => ⟨p1, p2, xs1, xs2, rfl, rfl, s2 _ _ e1, e2, ?_, fun p3 n3 => ?_⟩⟩⟩
            · have h5 := occ_len false t1
              have h6 := occ_len false t2
              rw [f1.len, f2.len, sizeLine_eq]
              omega
            · have s3 : Same G2 (upd G2 p3 (.lst (xs1 ++ xs2))) := same_new (fun b o e => e) n3 _
              refine q _ p3 _ ((s1.trans s2).trans s3) (none_before (s1.trans s2) n3) upd_same ?_
              show F2 _ (occ false t1 ++ (occ false t2 ++ [])) _
              rw [List.append_nil]
              exact F2.app (f1.mono (OcV.mono (TK.same (s2.trans s3)))) (f2.mono (OcV.mono (TK.same s3)))
      · have sq0 := (TK.same hb).sq sq
        have lss := fs.len
        have tl := t.occs_len wf
        refine hd_test rfl sq0 ?_
        rw [ni]
        refine iteF (hd_test rfl sq0 ?_)
        rw [ne]
        refine iteF ?_
        refine ⟨Nat.zero_le _, fun l0 n0 => ?_⟩
        have s1 : Same H (upd H l0 (.lst [])) := same_new (fun b o e => e) n0 _
        have e1 : (upd H l0 (.lst [])) l0 = some (.lst []) := upd_same
        generalize upd H l0 (.lst []) = G1 at s1 e1
        refine ⟨.ref a, rfl, lo_part rfl ((TK.same s1).sq sq0) fun G2 s2 => ?_⟩
        rw [← hlo]
        replace e1 := s2 _ _ e1
        replace s1 := s1.trans s2
        clear s2
        refine ⟨a, _, rfl, (TK.same s1).sq sq0, cut.1, fun p1 n1 => ?_⟩
        rw [cut.2]
        have s3 : Same G2 (upd G2 p1 (.tup vs)) := same_new (fun b o e => e) n1 _
        have e3 : (upd G2 p1 (.tup vs)) p1 = some (.tup vs) := upd_same
        replace e1 := s3 _ _ e1
        replace s1 := s1.trans s3
        generalize upd G2 p1 (.tup vs) = G3 at s1 e1 e3
        clear s3 n1
        have tot : (Sn.occsL ss).length ≤ 40 * t.size := by rw [← eqO]; exact tl
        refine ⟨p1, rfl, ⟨_, .inl (.inl e3)⟩, for_tup (K := K) (a := p1) (xs := vs) (fun i σ G => ∃ (l : Addr) (v2 : Option V) (acc : List V), σ = [some (.ref a), some (.ref l), v2] ∧ Same H G ∧ H l = none ∧ G p1 = some (.tup vs) ∧ G l = some (.lst acc) ∧ F2 (OcV K G) (Sn.occsL (ss.take i)) acc)
          ⟨l0, none, _, rfl, s1, n0, e3, e1, rfl⟩ (fun i σ G _ ⟨_, _, _, _, _, _, h, _⟩ => .inl (.inl h)) ?_ ?_⟩
        · rintro i y σ G hy ⟨l, v2, acc, rfl, sm, nl, g1, gl, fo⟩
          obtain ⟨d', hd', hdy⟩ := fs.get hy
          obtain ⟨o1, o2, o3⟩ := oks d' (List.mem_of_getElem? hd')
          have la := fo.len
          have ot : Sn.occsL (ss.take (i + 1)) = Sn.occsL (ss.take i) ++ d'.occs := by
            rw [List.take_add_one, hd', Sn.occsL_app]
            show Sn.occsL (ss.take i) ++ (d'.occs ++ []) = _
            rw [List.append_nil]
          have h2 : (Sn.occsL (ss.take (i + 1))).length ≤ (Sn.occsL ss).length := by
            have e : Sn.occsL ss = Sn.occsL (ss.take (i + 1)) ++ Sn.occsL (ss.drop (i + 1)) := by rw [← Sn.occsL_app, List.take_append_drop]
            rw [e, List.length_append]
            omega
          rw [ot, List.length_append] at h2
          refine ⟨.ref l, rfl, y, rfl, d', y, Hb, rfl, hb.trans sm, hdy, o1, o2, by omega, by omega, fun G4 p2 xs2 s4 n2 e4 f2 => ⟨l, p2, acc, xs2, rfl, rfl, s4 _ _ gl, e4, ?_, fun l3 n3 => ?_⟩⟩
          · rw [la, f2.len, sizeLine_eq]
            omega
          · have s5 : Same G4 (upd G4 l3 (.lst (acc ++ xs2))) := same_new (fun b o e => e) n3 _
            refine ⟨l3, some y, acc ++ xs2, rfl, (sm.trans s4).trans s5, none_before (sm.trans s4) n3, s5 _ _ (s4 _ _ g1), upd_same, ?_⟩
            rw [ot]
            exact F2.app (fo.mono (OcV.mono (TK.same (s4.trans s5)))) (f2.mono (OcV.mono (TK.same s5)))
        · rintro σ G ⟨l, v2, acc, rfl, sm, nl, g1, gl, fo⟩
          rw [lss, List.take_length, ← eqO] at fo
          exact ⟨_, rfl, q G l acc sm nl gl fo⟩
end
end Ad

/-! Odd sentences. -/
namespace Ad
open PySem PySem.Spec PySem.Calls PyProof.Rows L2
abbrev sLOdd : Stmt := topS 32
theorem scLOdd : FnScope ["_law_pen_here", "_law_a", "_law_f", "_law_ways"] ["_law_pen_here"] (defScope sLOdd) := ⟨rfl, rfl, rfl, by decide +kernel, rfl, by decide +kernel, by decide +kernel⟩
def aD : PyData := .tuple [.str "a"]
def fD : PyData := .tuple [.str "f", aD]
def oddA : List Sn := [.atm false [.tuple [.str "p"]], .atm false [.tuple [.str "p", aD, aD]], .atm true [fD, .tuple [.str "f", aD, aD]], .atm true [.tuple [.str "p", aD], aD]]
def oddB : List Sn := [.atm false [.tuple [.str "f", aD]], .atm false [.tuple [.str "a"]], .atm true [.tuple [.str "g", aD], .tuple [.str "g", aD, aD]]]
def oddC : List Sn := [.qu true "X" (.atm true [.tuple [.str "h", .str "X"], .str "X"]), .atm false [.tuple [.str "q", .tuple [.str "q"]]]]
def oddD : List Sn := [.qu false "Y" (.atm false [.tuple [.str "m", .str "Y", .str "Y"]])]
def oddS : List Sn := ((oddA ++ oddB) ++ oddC) ++ oddD
theorem odd_all : oddS.all (fun s => s.ok && (s.wf && decide (s.size ≤ 3))) = true := by decide +kernel
section
variable {P : Program} {w : World} {K : PySem.W.Frag} {mg : Str → Option Value} {base : Heap}
def spLOdd (K : PySem.W.Frag) : Sp := fun vs H Q _ => ∃ (p l : Addr) (ns : List Int) (c : Nat), vs = [.ref p] ∧ Pn.Pen H p l ns c ∧ ns.length ≤ 1000 ∧ c ≤ 1000000000 ∧
  ∀ H' x s, s ∈ oddS → Dp K H' x s.d → Pn.Pen H' p l ns (c + 1) → Pn.But p H H' → Q x H'
theorem ok_lodd {f fP : Addr} {fd fdP : FuncData} {k : Nat} (F : Fun K "_law_odd" "_law_odd" sLOdd f fd) (hPick : Has P w K mg base k "_law_pick" ["_law_pen_here", "_law_some"] (Pn.spPick K) fP fdP) : FnOk P w K mg base CX0 (k + 1) f fd ["_law_pen_here"] (spLOdd K) := by
  refine F.ok scLOdd (fun vs H Q E h => ?_) (fun cdv A outer s H vs Q E hr h => ?_)
  · obtain ⟨p, l, ns, c, rfl, _⟩ := h
    rfl
  · obtain ⟨p, l, ns, c, rfl, hP, few, hc, q⟩ := h
    refine ⟨_, (pss_cons (ps_asg (pe_tup (pa_cons (pe_tup (pa_cons pe_str pa_nil)) (pa_cons (pe_tup (pa_cons pe_str (pa_cons (pe_tup (pa_cons pe_str pa_nil)) pa_nil))) pa_nil))) (pg_tup rfl (pgs_cons (pg_name (i := 1) scLOdd.nd rfl (.inl rfl)) (pgs_cons (pg_name (i := 2) scLOdd.nd rfl (.inl rfl)) pgs_nil))))
    (pss_cons (ps_set (i := 3) scLOdd.nd rfl (.inl rfl) (pe_lst (pa_cons (pe_tup (pa_cons pe_str (pa_cons (pe_tup (pa_cons pe_str pa_nil)) pa_nil))) (pa_cons (pe_tup (pa_cons pe_str (pa_cons (pe_tup (pa_cons pe_str (pa_cons (pv 1) (pa_cons (pv 1) pa_nil)))) pa_nil))) (pa_cons (pe_tup (pa_cons pe_str (pa_cons (pv 2) (pa_cons (pe_tup (pa_cons pe_str (pa_cons (pv 1) (pa_cons (pv 1) pa_nil)))) pa_nil)))) (pa_cons (pe_tup (pa_cons pe_str (pa_cons (pe_tup (pa_cons pe_str (pa_cons (pv 1) pa_nil))) (pa_cons (pv 1) pa_nil)))) pa_nil))))))
    (pss_cons (ps_set (i := 3) scLOdd.nd rfl (.inl rfl) (pe_op op_cat (pv 3) (pe_lst (pa_cons (pe_tup (pa_cons pe_str (pa_cons (pe_tup (pa_cons pe_str (pa_cons (pv 1) pa_nil))) pa_nil))) (pa_cons (pe_tup (pa_cons pe_str (pa_cons (pe_tup (pa_cons pe_str pa_nil)) pa_nil))) (pa_cons (pe_tup (pa_cons pe_str (pa_cons (pe_tup (pa_cons pe_str (pa_cons (pv 1) pa_nil))) (pa_cons (pe_tup (pa_cons pe_str (pa_cons (pv 1) (pa_cons (pv 1) pa_nil)))) pa_nil)))) pa_nil))))))
    (pss_cons (ps_set (i := 3) scLOdd.nd rfl (.inl rfl) (pe_op op_cat (pv 3) (pe_lst (pa_cons (pe_tup (pa_cons pe_str (pa_cons pe_str (pa_cons (pe_tup (pa_cons pe_str (pa_cons (pe_tup (pa_cons pe_str (pa_cons pe_str pa_nil))) (pa_cons pe_str pa_nil)))) pa_nil)))) (pa_cons (pe_tup (pa_cons pe_str (pa_cons (pe_tup (pa_cons pe_str (pa_cons (pe_tup (pa_cons pe_str pa_nil)) pa_nil))) pa_nil))) pa_nil)))))
    (pss_cons (ps_set (i := 3) scLOdd.nd rfl (.inl rfl) (pe_op op_cat (pv 3) (pe_lst (pa_cons (pe_tup (pa_cons pe_str (pa_cons pe_str (pa_cons (pe_tup (pa_cons pe_str (pa_cons (pe_tup (pa_cons pe_str (pa_cons pe_str (pa_cons pe_str pa_nil)))) pa_nil))) pa_nil)))) pa_nil))))
    (pss_one (ps_ret (pe_call hPick.G hr (by rfl) hPick.g hPick.kp hPick.b .nil pass0 (pa_cons (pv 0) (pa_cons (pv 3) pa_nil)))))))))), ?_⟩
    refine to_set ((show ED K _ _ H (.tuple [aD, fD]) from ed_tup (eds_cons (ed_tup (eds_cons ed_str eds_nil) (by decide)) (eds_cons (ed_tup (eds_cons ed_str (eds_cons (ed_tup (eds_cons ed_str eds_nil) (by decide)) eds_nil)) (by decide)) eds_nil)) (by decide)) H (Same.refl _) _ fun v0 G1 s1 hv => ?_)
    cases hv with
    | @tup a0 zs0 _ sq0 hv =>
    refine ⟨a0, zs0, rfl, sq0, dpAll_len hv, ?_⟩
    cases hv with
    | @cons va' vs1 _ _ ha hv =>
    cases hv with
    | @cons vf' vs2 _ _ hf hv =>
    cases hv with
    | nil =>
    refine ⟨_, _, rfl, _, _, rfl, rfl, ?_⟩
    have va : ED K (tVar 1) [some (.ref p), some va', some vf', none] G1 aD := ed_var rfl ha
    have vf : ED K (tVar 2) [some (.ref p), some va', some vf', none] G1 fD := ed_var rfl hf
    refine to_set ((show EL K _ _ G1 (oddA.map Sn.d) from (el_lst (eds_cons (ed_tup (eds_cons ed_str (eds_cons (ed_tup (eds_cons ed_str eds_nil) (by decide)) eds_nil)) (by decide)) (eds_cons (ed_tup (eds_cons ed_str (eds_cons (ed_tup (eds_cons ed_str (eds_cons va (eds_cons va eds_nil))) (by decide)) eds_nil)) (by decide)) (eds_cons (ed_tup (eds_cons ed_str (eds_cons vf (eds_cons (ed_tup (eds_cons ed_str (eds_cons va (eds_cons va eds_nil))) (by decide)) eds_nil))) (by decide)) (eds_cons (ed_tup (eds_cons ed_str (eds_cons (ed_tup (eds_cons ed_str (eds_cons va eds_nil)) (by decide)) (eds_cons va eds_nil))) (by decide)) eds_nil)))) (by decide))).run G1 (Same.refl _) _ fun l1 xs1 G2 s2 nl1 e1 h1 => ?_)
    replace va : ED K (tVar 1) [some (.ref p), some va', some vf', some (.ref l1)] G2 aD := ed_var rfl (dp_same s2 ha)
    replace vf : ED K (tVar 2) [some (.ref p), some va', some vf', some (.ref l1)] G2 fD := ed_var rfl (dp_same s2 hf)
    refine to_set ((el_cat_var (i := 3) rfl e1 h1 (show EL K _ _ G2 (oddB.map Sn.d) from (el_lst (eds_cons (ed_tup (eds_cons ed_str (eds_cons (ed_tup (eds_cons ed_str (eds_cons va eds_nil)) (by decide)) eds_nil)) (by decide)) (eds_cons (ed_tup (eds_cons ed_str (eds_cons (ed_tup (eds_cons ed_str eds_nil) (by decide)) eds_nil)) (by decide)) (eds_cons (ed_tup (eds_cons ed_str (eds_cons (ed_tup (eds_cons ed_str (eds_cons va eds_nil)) (by decide)) (eds_cons (ed_tup (eds_cons ed_str (eds_cons va (eds_cons va eds_nil))) (by decide)) eds_nil))) (by decide)) eds_nil))) (by decide))) (by decide)).run G2 (Same.refl _) _ fun l2 xs2 G3 s3 nl2 e2 h2 => ?_)
    replace va : ED K (tVar 1) [some (.ref p), some va', some vf', some (.ref l2)] G3 aD := ed_var rfl (dp_same (s2.trans s3) ha)
    replace vf : ED K (tVar 2) [some (.ref p), some va', some vf', some (.ref l2)] G3 fD := ed_var rfl (dp_same (s2.trans s3) hf)
    refine to_set ((el_cat_var (i := 3) rfl e2 h2 (show EL K _ _ G3 (oddC.map Sn.d) from (el_lst (eds_cons (ed_tup (eds_cons ed_str (eds_cons ed_str (eds_cons (ed_tup (eds_cons ed_str (eds_cons (ed_tup (eds_cons ed_str (eds_cons ed_str eds_nil)) (by decide)) (eds_cons ed_str eds_nil))) (by decide)) eds_nil))) (by decide)) (eds_cons (ed_tup (eds_cons ed_str (eds_cons (ed_tup (eds_cons ed_str (eds_cons (ed_tup (eds_cons ed_str eds_nil) (by decide)) eds_nil)) (by decide)) eds_nil)) (by decide)) eds_nil)) (by decide))) (by decide)).run G3 (Same.refl _) _ fun l3 xs3 G4 s4 nl3 e3 h3 => ?_)
    replace va : ED K (tVar 1) [some (.ref p), some va', some vf', some (.ref l3)] G4 aD := ed_var rfl (dp_same ((s2.trans s3).trans s4) ha)
    replace vf : ED K (tVar 2) [some (.ref p), some va', some vf', some (.ref l3)] G4 fD := ed_var rfl (dp_same ((s2.trans s3).trans s4) hf)
    refine to_set ((el_cat_var (i := 3) rfl e3 h3 (show EL K _ _ G4 (oddD.map Sn.d) from (el_lst (eds_cons (ed_tup (eds_cons ed_str (eds_cons ed_str (eds_cons (ed_tup (eds_cons ed_str (eds_cons (ed_tup (eds_cons ed_str (eds_cons ed_str (eds_cons ed_str eds_nil))) (by decide)) eds_nil)) (by decide)) eds_nil))) (by decide)) eds_nil) (by decide))) (by decide)).run G4 (Same.refl _) _ fun l4 xs4 G5 s5 nl4 e4 h4 => ?_)
    have s14 : Same H G5 := ((s1.trans s2).trans (s3.trans s4)).trans s5
    have hP4 := pen_same hP s14
    have ln := dpAll_len h4
    have l4p : l4 ≠ p := fun z => by
      obtain ⟨⟨_, _, _, e, _⟩, _⟩ := hP4
      rw [z, e] at e4
      cases e4
    refine ⟨.ref p, rfl, .ref l4, rfl, p, l, l4, ns, c, xs4, rfl, hP4, few, hc, .inl (.inl (.inl e4)), (fun z => by rw [z] at ln; cases ln), by rw [ln]; decide, l4p, fun x G6 hx P5 b5 => ?_⟩
    obtain ⟨i, hi⟩ := List.getElem?_of_mem hx
    obtain ⟨dd, hdd, hdx⟩ := dpAll_get h4 hi
    have e : ((oddA.map Sn.d ++ oddB.map Sn.d) ++ oddC.map Sn.d) ++ oddD.map Sn.d = oddS.map Sn.d := by
      unfold oddS
      rw [List.map_append, List.map_append, List.map_append]
    rw [e] at hdd
    obtain ⟨sx, hsx, rfl⟩ := List.mem_map.mp (List.mem_of_getElem? hdd)
    exact q G6 x sx hsx (pen_dp hP4 b5 hdx) P5 fun b o n e => b5 b o n (s14 _ _ e)
end
end Ad

/-! parts_of. -/
namespace Ad
open PySem PySem.Spec PySem.Calls PyProof.Rows L2
abbrev sPartsD : Stmt := topS 6
theorem scPartsD : FnScope ["term", "found", "waiting", "part"] ["term"] (defScope sPartsD) := ⟨rfl, rfl, rfl, by decide +kernel, rfl, by decide +kernel, by decide +kernel⟩
section
variable {P : Program} {w : World} {K : PySem.W.Frag} {mg : Str → Option Value} {base : Heap}
def spPartsD (K : PySem.W.Frag) : Sp := fun vs H Q _ => ∃ (t : PyData) (x : V) (Hb : Hp), vs = [x] ∧ Same Hb H ∧ Dp K Hb x t ∧ tupOk t = true ∧ (partsD t).length ≤ 10000 ∧
  ∀ H' p xs, Same H H' → H p = none → H' p = some (.lst xs) → DpAll K Hb xs (partsD t) → Q (.ref p) H'
theorem ok_partsD {f : Addr} {fd : FuncData} {k : Nat} (F : Fun K "parts_of" "parts_of" sPartsD f fd) (mi : mg "isinstance" = none) (mt : mg "tuple" = none) : FnOk P w K mg base CX0 (k + 1) f fd ["term"] (spPartsD K) := by
  refine F.ok scPartsD (fun vs H Q E h => ?_) (fun cdv A outer s H vs Q E hr h => ?_)
  · obtain ⟨t, x, _, rfl, _⟩ := h
    rfl
  · obtain ⟨t, x, Hb, rfl, hb, ht, ok, small, q⟩ := h
    refine ⟨_, pss_cons (ps_set (i := 1) scPartsD.nd rfl (.inl rfl) (pe_lst pa_nil))
      (pss_cons (ps_set (i := 2) scPartsD.nd rfl (.inl rfl) (pe_lst (pa_cons (pv 0) pa_nil)))
      (pss_cons (ps_while PassesOwn.never (pt_true (pv 2))
        (pss_cons (ps_set (i := 3) scPartsD.nd rfl (.inl rfl) (pe_bm0 PySem.F.plainAttrs_list PySem.F.slot_list_pop PySem.F.type_list_pop mt_pop (pv 2)))
        (pss_cons (ps_expr (pe_bm PySem.F.plainAttrs_list PySem.F.slot_list_append PySem.F.type_list_append mt_append (pv 1) (pa_cons (pv 3) pa_nil)))
        (pss_one (ps_if (pt_val (pe_callB call_isi (by rfl) mi (by decide +kernel) (pa_cons (pv 3) (pa_cons (pe_bltn (v := .ty "tuple") (by rfl) mt (by decide +kernel) rfl) pa_nil))))
          (pss_one (ps_expr (pe_bm PySem.F.plainAttrs_list PySem.F.slot_list_extend PySem.F.type_list_extend mt_extT (pv 2) (pa_cons (pe_back (pv 3)) pa_nil))))
          pss_nil)))))
      (pss_one (ps_ret (pv 1))))), ?_⟩
    refine ⟨by decide, fun p1 n1 => ?_⟩
    refine ⟨_, rfl, (by show 1 ≤ sizeLine; decide), fun p2 n2 => ?_⟩
    have n2' : H p2 = none := by
      by_cases e : p2 = p1
      · rw [e]; exact n1
      · rwa [upd_ne e] at n2
    have ne : p2 ≠ p1 := fun e => by
      rw [e, upd_same] at n2
      cases n2
    refine while_m (fun σ G => ∃ (v3 : Option V) (fin todo : List PyData) (xs ws : List V), σ = [some x, some (.ref p1), some (.ref p2), v3] ∧ G p1 = some (.lst xs) ∧ G p2 = some (.lst ws) ∧ Same H G ∧ DpAll K Hb xs fin ∧ DpAll K Hb ws todo ∧
      fin ++ partsDL todo.reverse = partsD t ∧ tupOkL todo = true) (fun _ G => (partsD t).length - lenAt G p1) ?_ ?_ ?_
    · refine ⟨none, [], [t], [], [x], rfl, by rw [upd_ne ne.symm]; exact upd_same, upd_same, same_on (same_on (fun b o e => e) n1 _) n2' _, .nil, .cons ht .nil, ?_, ?_⟩
      · show partsD t ++ [] = _
        rw [List.append_nil]
      · show (tupOk t && true) = true
        rw [ok]
        rfl
    · rintro σ G ⟨v3, fin, todo, xs, ws, rfl, g1, g2, sm, a1, a2, sum, oks⟩
      have total : xs.length + (partsDL todo).length = (partsD t).length := by
        rw [dpAll_len a1, ← partsDL_rev_len, ← List.length_append, sum]
      refine ⟨_, rfl, !ws.isEmpty, .inl ⟨ws, .inl (.inl g2), rfl⟩, ?_⟩
      by_cases em : todo = []
      · subst em
        cases a2
        refine iteF ?_
        refine ⟨_, rfl, q G p1 xs sm n1 g1 ?_⟩
        have e : fin = partsD t := by rw [← sum]; exact (List.append_nil _).symm
        rw [← e]
        exact a1
      · obtain ⟨us, u, ys, y, rfl, rfl, b1, b2⟩ := dpAll_last a2 em
        have isT : (!(ys ++ [y]).isEmpty) = true := by cases ys <;> rfl
        rw [isT]
        refine iteT ?_
        rw [partsDL_app, List.length_append] at total
        have total' : xs.length + ((partsDL us).length + (partsD u ++ []).length) = (partsD t).length := total
        rw [List.append_nil] at total'
        have up := partsD_pos u
        have dl : (ys ++ [y]).dropLast = ys := List.dropLast_concat
        have rv : (us ++ [u]).reverse = u :: us.reverse := by rw [List.reverse_append]; rfl
        rw [rv] at sum
        rw [tupOkL_app, Bool.and_eq_true] at oks
        have oku : tupOk u = true := by
          have z : (tupOk u && true) = true := oks.2
          rwa [Bool.and_true] at z
        refine ⟨_, rfl, .inl ⟨rfl, _, .inl (.inl g2)⟩, p2, ys ++ [y], y, rfl, rfl, g2, (by rw [List.length_append, List.length_singleton, Nat.add_sub_cancel, List.getElem?_append_right (Nat.le_refl _), Nat.sub_self]; rfl), ?_⟩
        rw [dl]
        have h1 : (upd G p2 (.lst ys)) p1 = some (.lst xs) := by rw [upd_ne ne.symm]; exact g1
        have h2 : (upd G p2 (.lst ys)) p2 = some (.lst ys) := upd_same
        have sm2 : Same H (upd G p2 (.lst ys)) := same_on sm n2' _
        generalize upd G p2 (.lst ys) = G2 at h1 h2 sm2
        refine ⟨_, rfl, .inl ⟨rfl, _, .inl (.inl h1)⟩, y, rfl, p1, xs, y, rfl, rfl, h1, (by rw [sizeLine_eq]; omega), ?_⟩
        have i1 : (upd G2 p1 (.lst (xs ++ [y]))) p1 = some (.lst (xs ++ [y])) := upd_same
        have i2 : (upd G2 p1 (.lst (xs ++ [y]))) p2 = some (.lst ys) := by rw [upd_ne ne]; exact h2
        have sm3 : Same H (upd G2 p1 (.lst (xs ++ [y]))) := same_on sm2 n1 _
        have d1 := dpAll_app a1 (.cons b2 .nil)
        generalize upd G2 p1 (.lst (xs ++ [y])) = G3 at i1 i2 sm3
        have less : (partsD t).length - (xs ++ [y]).length < (partsD t).length - lenAt G p1 := by
          rw [lenAt_of g1, List.length_append, List.length_singleton]
          omega
        have ty := dp_ty (dp_same (hb.trans sm3) b2)
        by_cases tu : isTu u = true
        · match u, tu, oku with
          | .tuple (z :: ts), _, oku =>
            cases b2 with
            | @tup a zs _ sq all =>
            cases all with
            | @cons v vs _ _ hv all =>
            refine ⟨.ref a, rfl, _, .ty "tuple", .type "tuple", .type "tuple", true, rfl, .ty "tuple", ty, kitTT, true, rfl, ?_⟩
            refine iteT ?_
            have szu : (partsD (.tuple (z :: ts))).length = 1 + (partsDL ts).length := by
              show (PyData.tuple (z :: ts) :: partsDL ts).length = _
              rw [List.length_cons]
              omega
            have l1 := partsDL_len ts
            have l2 := partsDL_len us
            refine ⟨.ref p2, rfl, .inl ⟨rfl, _, .inl (.inl i2)⟩, .ref a, rfl, a, _, rfl, (TK.same (hb.trans sm3)).sq sq, by rw [List.length_cons]; omega, fun p3 n3 => ?_⟩
            have ne31 : p1 ≠ p3 := ne_of_none i1 n3
            have ne32 : p2 ≠ p3 := ne_of_none i2 n3
            have j1 : (upd G3 p3 (.tup ((v :: vs).drop 1).reverse)) p1 = some (.lst (xs ++ [V.ref a])) := by rw [upd_ne ne31]; exact i1
            have j2 : (upd G3 p3 (.tup ((v :: vs).drop 1).reverse)) p2 = some (.lst ys) := by rw [upd_ne ne32]; exact i2
            have j3 : (upd G3 p3 (.tup ((v :: vs).drop 1).reverse)) p3 = some (.tup vs.reverse) := upd_same
            have sm4 : Same H (upd G3 p3 (.tup ((v :: vs).drop 1).reverse)) := fun b o e => by
              rw [upd_ne (ne_of_none (sm3 b o e) n3)]
              exact sm3 b o e
            generalize upd G3 p3 (.tup ((v :: vs).drop 1).reverse) = G4 at j1 j2 j3 sm4
            refine ⟨p2, p3, ys, vs.reverse, rfl, rfl, j2, .inl (.inl j3), (by rw [List.length_reverse, sizeLine_eq, dpAll_len b1, dpAll_len all]; omega), ?_⟩
            refine ⟨⟨_, fin ++ [.tuple (z :: ts)], us ++ ts.reverse, xs ++ [.ref a], ys ++ vs.reverse, rfl, by rw [upd_ne ne.symm]; exact j1, upd_same, same_on sm4 n2' _, d1, dpAll_app b1 (dpAll_rev all), ?_, ?_⟩, ?_⟩
            · rw [← sum, List.append_assoc, List.reverse_append, List.reverse_reverse, partsDL_app]
              rfl
            · rw [tupOkL_app, tupOkL_rev, oks.1]
              exact oku
            · rw [lenAt_of (xs := xs ++ [.ref a]) (by rw [upd_ne ne.symm]; exact j1)]
              exact less
        · have tf : isTu u = false := by
            cases h : isTu u with
            | true => exact absurd h tu
            | false => rfl
          have kt := kit_tu (K := K) u
          rw [tf] at kt
          have pu : partsD u = [u] := by
            cases u with
            | tuple ds => cases tf
            | _ => rfl
          refine ⟨y, rfl, _, .ty "tuple", _, .type "tuple", false, rfl, .ty "tuple", ty, kt, false, rfl, ?_⟩
          refine iteF ?_
          refine ⟨⟨_, fin ++ [u], us, _, _, rfl, i1, i2, sm3, d1, b1, ?_, oks.1⟩, by rw [lenAt_of i1]; exact less⟩
          have sum' : fin ++ (partsD u ++ partsDL us.reverse) = partsD t := sum
          rw [pu] at sum'
          rw [List.append_assoc]
          exact sum'
    · exact mono_true mono_var
end
end Ad

/-! A walk within a comprehension, whatever its body. -/
namespace Ad
open PySem PySem.Spec PySem.Calls PyProof.Rows L2
theorem comp_it {J : It} {n : Nat} {Gd : Hp → Prop} {Y : Nat → Hp → V → Hp → Prop} (w : Walk J n Gd Y) {body : V → Hp → (Hp → Prop) → Prop} {H0 : Hp} {Qd : Hp → Prop} (Pv : Nat → Hp → Prop) (h0 : Pv 0 H0) (hG : ∀ i H, i ≤ n → Pv i H → Gd H)
    (hs : ∀ i x H H', i < n → Pv i H → Y i H x H' → body x H' (Pv (i + 1))) (hd : ∀ H, Pv n H → Qd H) :
    ∃ W : Nat → Nat → Hp → Prop, (∃ m, W 0 m H0) ∧ ∀ i m H, W i m H → (J.stop i H ∧ Qd H) ∨ (J.go i H ∧ ∃ Nx : Hp → Prop, (∀ H', Nx H' → ∃ m', m' < m ∧ W (i + 1) m' H') ∧ ∀ x H', J.yld i H x H' → body x H' Nx) := by
  refine ⟨fun i m H => m = n - i ∧ i ≤ n ∧ Pv i H, ⟨n, by simp, Nat.zero_le _, h0⟩, ?_⟩
  rintro i m H ⟨rfl, hi, p⟩
  have q := hG i H hi p
  by_cases hlt : i < n
  · exact .inr ⟨w.goes i H hlt q, Pv (i + 1), fun H' p' => ⟨n - (i + 1), by omega, rfl, hlt, p'⟩, fun x H' y => hs i x H H' hlt p (w.yields i H x H' hlt q y)⟩
  · have e : i = n := by omega
    subst e
    exact .inl ⟨w.stops H q, hd H p⟩
end Ad

/-! All parts of an atom's terms. -/
namespace Ad
open PySem PySem.Spec PySem.Calls PyProof.Rows L2
abbrev sSpoken : Stmt := topS 15
theorem scSpoken : FnScope ["atom", "term", "part"] ["atom"] (defScope sSpoken) := ⟨rfl, rfl, rfl, by decide +kernel, rfl, by decide +kernel, by decide +kernel⟩
section
variable {P : Program} {w : World} {K : PySem.W.Frag} {mg : Str → Option Value} {base : Heap}
def spSpoken (K : PySem.W.Frag) : Sp := fun vs H Q _ => ∃ (y : Str) (as : List PyData) (x : V) (Hb : Hp), vs = [x] ∧ Same Hb H ∧ Dp K Hb x (.tuple (.str y :: as)) ∧ tupOkL as = true ∧ (partsDL as).length ≤ 10000 ∧
  ∀ H' p xs, Same H H' → H p = none → H' p = some (.lst xs) → DpAll K Hb xs (partsDL as) → Q (.ref p) H'
theorem ok_spoken {f fP : Addr} {fd fdP : FuncData} {k : Nat} (F : Fun K "spoken_in" "spoken_in" sSpoken f fd) (hP : Has P w K mg base k "parts_of" ["term"] (spPartsD K) fP fdP) : FnOk P w K mg base CX0 (k + 1) f fd ["atom"] (spSpoken K) := by
  refine F.ok scSpoken (fun vs H Q E h => ?_) (fun cdv A outer s H vs Q E hr h => ?_)
  · obtain ⟨y, as, x, _, rfl, _⟩ := h
    rfl
  · obtain ⟨y, as, x, Hb, rfl, hb, hd, ok, small, q⟩ := h
    refine ⟨_, (pss_one (ps_ret (pe_lc2 (own := [("term", 1), ("part", 2)]) (vs1 := [2]) (g := gName 1) (g1 := gName 2) (tt := tYes) (tt1 := tYes) (te := tVar 2) (wi1 := iList K (tCall (spPartsD K) [] E0 (tCons (tVar 1) tNil))) rfl scSpoken.nd (pi_tup (pe_slice sl_tup (pv 0) (po_some pe_int) po_none))
      (blkOk_by (N := ["atom", "term", "part"]) (sc := defScope sSpoken) (by decide +kernel)) (by simp) (fun _ _ _ _ _ => (pg_name (i := 1) scSpoken.nd rfl (.inl rfl))) (fun _ _ _ _ _ => pts_nil)
      (fun _ _ _ _ _ => pi_list (pe_call hP.G hr (by rfl) hP.g hP.kp hP.b .nil pass0 (pa_cons (pv 1) pa_nil))) (fun _ _ _ _ _ => (pg_name (i := 2) scSpoken.nd rfl (.inl rfl))) (fun _ _ _ _ _ => pts_nil) (fun _ _ _ _ _ => (pv 2))))), ?_⟩
    cases hd with
    | @tup a zs _ sq all =>
    cases all with
    | @cons v vs _ _ hv all =>
    cases hv
    refine ⟨.ref a, rfl, 1, rfl, a, _, rfl, (TK.same hb).sq sq, cut_args.1, fun p3 n3 => ?_⟩
    rw [cut_args.2]
    have s3 : Same H (upd H p3 (.tup vs)) := same_new (fun b o e => e) n3 _
    have e3 : (upd H p3 (.tup vs)) p3 = some (.tup vs) := upd_same
    generalize upd H p3 (.tup vs) = G1 at s3 e3
    have la := dpAll_len all
    refine ⟨p3, rfl, ⟨_, .inl (.inl e3)⟩, fun D nD => comp_it (walk_tup (K := K) (a := p3) (xs := vs)) (fun i G => Same H G ∧ G p3 = some (.tup vs) ∧ ∃ acc, G D = some (.lst acc) ∧ DpAll K Hb acc (partsDL (as.take i))) ?_ ?_ ?_ ?_⟩
    · exact ⟨s3.trans (same_new (fun b o e => e) nD _), (same_new (fun b o e => e) nD _) _ _ e3, [], upd_same, .nil⟩
    · rintro i G _ ⟨_, h, _⟩
      exact .inl (.inl h)
    · rintro i y G G' hi ⟨sm, e3, acc, gD, hacc⟩ ⟨rfl, hy⟩
      have hlt : i < as.length := by omega
      obtain ⟨d, hd', hdy⟩ := dpAll_get all hy
      have okd : tupOk d = true ∧ (partsD d).length ≤ (partsDL as).length := by
        have key : ∀ (l : List PyData) (i : Nat), l[i]? = some d → tupOkL l = true → tupOk d = true ∧ (partsD d).length ≤ (partsDL l).length := by
          intro l
          induction l with
          | nil => intro i h; cases h
          | cons e l ih =>
            intro i h o
            have o' : (tupOk e && tupOkL l) = true := o
            rw [Bool.and_eq_true] at o'
            have ln : (partsDL (e :: l)).length = (partsD e).length + (partsDL l).length := by
              show (partsD e ++ partsDL l).length = _
              rw [List.length_append]
            cases i with
            | zero =>
              cases h
              exact ⟨o'.1, by omega⟩
            | succ i =>
              obtain ⟨h1, h2⟩ := ih i h o'.2
              exact ⟨h1, by omega⟩
        exact key as i hd' ok
      have tk : partsDL (as.take (i + 1)) = partsDL (as.take i) ++ partsD d := by
        rw [List.take_add_one, hd', partsDL_app]
        show partsDL (as.take i) ++ (partsD d ++ []) = _
        rw [List.append_nil]
      have room : (partsDL (as.take (i + 1))).length ≤ (partsDL as).length := by
        have e : partsDL as = partsDL (as.take (i + 1)) ++ partsDL (as.drop (i + 1)) := by rw [← partsDL_app, List.take_append_drop]
        rw [e, List.length_append]
        omega
      refine ⟨rfl, ?_⟩
      unfold tYes
      show (if true = true then _ else _)
      rw [if_pos rfl]
      refine ⟨y, rfl, d, y, Hb, rfl, hb.trans sm, hdy, okd.1, by omega, fun G2 ql xs2 s2 nq eq2 hx => ?_⟩
      refine ⟨ql, rfl, ⟨_, .inl (.inl eq2)⟩, comp_it (walk_list (K := K) (a := ql) (xs := xs2)) (fun j G => Same H G ∧ G p3 = some (.tup vs) ∧ G ql = some (.lst xs2) ∧ G D = some (.lst (acc ++ xs2.take j))) ?_ ?_ ?_ ?_⟩
      · exact ⟨sm.trans s2, s2 _ _ e3, eq2, by rw [List.take_zero, List.append_nil]; exact s2 _ _ gD⟩
      · rintro j G _ ⟨_, _, h, _⟩
        exact .inl (.inl h)
      · rintro j z G G' hj ⟨sm', e3', eq', gD'⟩ ⟨rfl, hz⟩
        have qD : ql ≠ D := fun e => by
          rw [e, gD] at nq
          cases nq
        have pD : p3 ≠ D := fun e => by
          rw [e, gD'] at e3'
          cases e3'
        have l1 := dpAll_len hacc
        have l2 := dpAll_len hx
        rw [tk, List.length_append] at room
        refine ⟨rfl, ?_⟩
        show (if true = true then _ else _)
        rw [if_pos rfl]
        refine ⟨z, rfl, _, gD', ?_, ?_⟩
        · rw [List.length_append, List.length_take, sizeLine_eq]
          omega
        · have tz : xs2.take (j + 1) = xs2.take j ++ [z] := by
            rw [List.take_add_one, hz]
            rfl
          refine ⟨same_on sm' (none_before s3 nD) _, (upd_ne pD).trans e3', (upd_ne qD).trans eq', ?_⟩
          rw [tz, ← List.append_assoc]
          exact upd_same
      · rintro G ⟨sm', e3', _, gD'⟩
        rw [List.take_length] at gD'
        exact ⟨sm', e3', _, gD', by rw [tk]; exact dpAll_app hacc hx⟩
    · rintro G ⟨sm, _, acc, gD, hacc⟩
      rw [la, List.take_length] at hacc
      exact q G D acc sm (none_before s3 nD) gD hacc
end
end Ad

/-! Own errors with one field: their class's facts, their making. -/
namespace Ad
open PySem PySem.Spec PySem.Calls PyProof.Rows L2
/-- the class object of an own error with a dict, in one look -/
def oexO (K : PySem.W.Frag) (C : Addr) : Bool := match K.lookup C with
  | some ⟨.type "type", _, .cls cd, sl⟩ => (match cd.mro, sl.toList with
    | .ref D :: bm, [_, _, _, _, some (.builtin n), _] => D == C && (n == "ValueError.__new__" && (!cd.hasDel && (cd.hasDict && PySem.HandSPX.refsVE bm)))
    | _, _ => false)
  | _ => false
theorem oexO_ok {K : PySem.W.Frag} {C : Addr} (q : oexO K C = true) : ∃ nm qn N bs bm sn sub ab col dd k0 k1 k2 k3 k5, K.lookup C = some (excClassObj nm qn C N bs bm true sn sub ab col dd k0 k1 k2 k3 k5 "ValueError.__new__") ∧ PySem.HandSPX.refsVE bm = true := by
  unfold oexO at q
  split at q
  · rename_i dd cd sl look
    split at q
    · rename_i D bm k0 k1 k2 k3 n k5 em es
      rw [Bool.and_eq_true, Bool.and_eq_true, Bool.and_eq_true, Bool.and_eq_true] at q
      obtain ⟨q1, q2, q3, q4, q5⟩ := q
      have eD : D = C := beq_iff_eq.mp q1
      have en : n = "ValueError.__new__" := beq_iff_eq.mp q2
      subst eD en
      obtain ⟨nm, bs, mro, ns, qn, hd, sn, sub, ab, col, del⟩ := cd
      have em' : mro = .ref D :: bm := em
      have e3 : del = false := by
        have z : (!del) = true := q3
        cases del
        · rfl
        · cases z
      have e4 : hd = true := q4
      subst em' e3 e4
      have esl : sl = #[k0, k1, k2, k3, some (.builtin "ValueError.__new__"), k5] := by
        obtain ⟨l⟩ := sl
        have es' : l = _ := es
        rw [es']
      subst esl
      exact ⟨nm, qn, ns, bs, bm, sn, sub, ab, col, dd, k0, k1, k2, k3, k5, look, q5⟩
    · cases q
  · cases q
/-- what is asked of an own error's class -/
structure Er (K : PySem.W.Frag) (C f : Addr) (x : Str) : Prop where
  ox : OexC K C
  xf : XfC K C
  ini : PySem.W.findIn K (.ref C) "__init__" = some (some (.ref f))
  tI : PySem.W.typeIn K (.ref f) = some (.type "function")
  no : PySem.W.findIn K (.ref C) x = some none
def erB (K : PySem.W.Frag) (C f : Addr) (x : Str) : Bool :=
  oexO K C && (decide (PySem.W.findIn K (.ref C) "__setattr__" = some (some (.builtin "object.__setattr__"))) && (decide (PySem.W.subIn K (.ref C) (.type "BaseException") = some true) && (decide (PySem.W.typeIn K (.ref C) = some (.type "type")) && (PySem.W.keepIn K (.ref C) &&
  (xfB K C && (decide (PySem.W.findIn K (.ref C) "__init__" = some (some (.ref f))) && (decide (PySem.W.typeIn K (.ref f) = some (.type "function")) && decide (PySem.W.findIn K (.ref C) x = some none))))))))
theorem erB_ok {K : PySem.W.Frag} {C f : Addr} {x : Str} (h : erB K C f x = true) : Er K C f x := by
  unfold erB at h
  simp only [Bool.and_eq_true, decide_eq_true_eq] at h
  obtain ⟨h1, h2, h3, h4, h5, h6, h7, h8, h9⟩ := h
  exact ⟨⟨oexO_ok h1, h2, h3, h4, h5⟩, xfB_ok h6, h7, h8, h9⟩
/-- __init__(self, v): the field's dict stands, all else as it was -/
def spEr (C : Addr) (x : Str) : Sp := fun vs H Q _ => ∃ (a : Addr) (v : V), vs = [.ref a, v] ∧ H a = some (exo a C none) ∧
  ∀ (d : Addr) (H' : Hp), H d = none → d ≠ a → (∀ b, b ≠ d → b ≠ a → H' b = H b) → H' a = some (exo a C (some d)) → H' d = some (exd d [(x, v)]) → Q .non H'
/-- raise C(v): what is told of the heap -/
theorem mk_row {C : Addr} {x : Str} {H : Hp} {σ : L2.St} {ta : TA} {Q : XK} {v : V} (h : ta σ H fun vs H1 => vs = [v] ∧ H1 = H) (q : ∀ d H', Same H H' → H d = none → H' d = some (.xd [(x, v)]) → Q (.ref C) (some d) H') (mono : ∀ {Q1 Q2 : List V → Hp → Prop}, (∀ vs H1, Q1 vs H1 → Q2 vs H1) → ta σ H Q1 → ta σ H Q2) :
    tMkO C (spEr C x) [] ta σ H Q := by
  refine mono (fun vs H1 e => ?_) h
  obtain ⟨rfl, rfl⟩ := e
  refine ⟨by show 1 ≤ 1000; decide, fun a na => ⟨a, v, rfl, upd_same, fun d H' nd da kp ea ed => ⟨rfl, d, [(x, v)], ea, ed, ?_, ?_⟩⟩⟩
  · rw [upd_ne da] at nd
    exact nd
  · rw [upd_ne da] at nd
    refine q d _ (fun b o e => ?_) nd upd_same
    have h1 : b ≠ a := ne_of_none e na
    have h2 : b ≠ d := ne_of_none e nd
    rw [upd_ne h2, del_ne h1, kp b h2 h1, upd_ne h1]
    exact e
end Ad

/-! kinds. -/
namespace Ad
open PySem PySem.Spec PySem.Calls PyProof.Rows L2 GxR
abbrev sKinds : Stmt := topS 17
theorem scKinds : FnScope ["sentences", "sentence", "atom", "_", "index", "part", "is_truth", "kind", "things", "truths", "known", "name"] ["sentences"] (defScope sKinds) := ⟨rfl, rfl, rfl, by decide +kernel, rfl, by decide +kernel, by decide +kernel⟩
abbrev fKn : Oc → List V := fun q => [.bl q.2.2, .int (q.2.1 : Int)]
theorem scan_len : ∀ (qs : List Oc) {l l' : List Oc}, Kn.scan l qs = .inr l' → l'.length ≤ l.length + qs.length
  | [], l, l', h => by
    cases h
    exact Nat.le_refl _
  | p :: qs, l, l', h => by
    have h' : (match Kn.look l p.1 with | none => Kn.scan (l ++ [p]) qs | some z => if z = p.2 then Kn.scan l qs else .inl p.1) = .inr l' := h
    rw [List.length_cons]
    cases e : Kn.look l p.1 with
    | none =>
      rw [e] at h'
      have := scan_len qs (l := l ++ [p]) h'
      rw [List.length_append, List.length_singleton] at this
      omega
    | some z =>
      rw [e] at h'
      have h'' : (if z = p.2 then Kn.scan l qs else .inl p.1) = .inr l' := h'
      by_cases zz : z = p.2
      · rw [if_pos zz] at h''
        have := scan_len qs h''
        omega
      · rw [if_neg zz] at h''
        cases h''
theorem for_any {K : PySem.W.Frag} {a : Addr} {xs : List V} {g : TG} {tb : TS} {D : Ends} {σ0 : L2.St} {H0 Hr : Hp} {j : Nat} (e : σ0[j]? = some (some (.ref a))) (hx : SqX K Hr a xs) (Pv : Nat → L2.St → Hp → Prop) (h0 : Pv 0 σ0 H0) (st : ∀ i σ G, i ≤ xs.length → Pv i σ G → Same Hr G)
    (turn : ∀ i x σ G, xs[i]? = some x → Pv i σ G → g x σ G fun σ2 H2 => tb { D with nx := Pv (i + 1), ct := Pv (i + 1), bk := D.nx } σ2 H2) (after : ∀ σ G, Pv xs.length σ G → D.nx σ G) : tFor (Et.iAny K (tVar j)) g tb D σ0 H0 := by
  rcases hx with hx | hx
  · exact ⟨.ref a, e, a, rfl, .inl ⟨xs, (st 0 σ0 H0 (Nat.zero_le _) h0).seq hx, for_list Pv h0 (fun i σ G le p => (st i σ G le p).seq hx) turn after⟩⟩
  · exact ⟨.ref a, e, a, rfl, .inr ⟨xs, (TK.same (st 0 σ0 H0 (Nat.zero_le _) h0)).sq hx, for_tup Pv h0 (fun i σ G le p => (TK.same (st i σ G le p)).sq hx) turn after⟩⟩
theorem and_is {K : PySem.W.Frag} {σ : L2.St} {G : Hp} {i j : Nat} {b : Addr} {wd : Str} {ys : List V} {m : Nat} {Q : VK} (e1 : σ[i]? = some (some (.ref b))) (sq : SqT K G b (.str wd :: ys)) (e2 : σ[j]? = some (some (.int (m : Int)))) (q : Q (.bl (decide (wd = "is") && decide (m = 0))) G) :
    tAndV (tOp rEq (tOp (rIxT K) (tVar i) (tC (.int 0))) (tC (.str "is"))) (tOp rEq (tVar j) (tC (.int 0))) σ G Q := by
  refine ⟨.ref b, e1, b, _, 0, _, rfl, rfl, sq, atI_nat (j := 0) rfl, rfl, _, rfl, ?_⟩
  by_cases h : wd = "is"
  · rw [decide_eq_true h, Bool.true_and] at q
    rw [decide_eq_true (congrArg V.str h)]
    refine iteT ⟨_, e2, rfl, ?_⟩
    have e : decide (V.int (m : Int) = V.int 0) = decide (m = 0) := by
      by_cases z : m = 0
      · rw [decide_eq_true z, z]
        rfl
      · rw [decide_eq_false z]
        exact decide_eq_false (fun y => z (by have := V.int.inj y; omega))
    rw [e]
    exact q
  · rw [decide_eq_false h, Bool.false_and] at q
    rw [decide_eq_false (fun y => h (V.str.inj y))]
    exact iteF q
theorem kd_eqv (b c : Bool) (i j : Int) : PyData.eqv (.tuple [.bool b, .int i]) (.tuple [.bool c, .int j]) = (decide (b = c) && decide (i = j)) := by
  cases b <;> cases c <;> simp [PyData.eqv, PyData.eqvAll] <;> first | rfl | exact Bool.beq_eq_decide_eq _ _ | skip
theorem beqs (b : Bool) : (b == true) = b ∧ (b == false) = !b := by cases b <;> exact ⟨rfl, rfl⟩
theorem gen_part {K : PySem.W.Frag} {Pt d : Addr} {l : List Oc} {kvs : List (L2.Key × V)} {b : Bool} {s0 s1 s2 s3 s4 s5 s6 s7 s8 s9 : Option V} {G : Hp} {tt : TT} {Q : VK} (eG : G d = some (.dK kvs)) (tab : TabG G Pt) (dP : d ≠ Pt) (fk : F2 (KnV K fKn G) l kvs) (nodup : (l.map (·.1)).Nodup) (few : l.length ≤ 100000)
    (htt : ∀ (G' : Hp) (x : Str) (bq : Addr) (q : Oc) (Qt : Bool → Hp → Prop), DGet G' d (.str x) (some (.ref bq)) → SqT K G' bq (fKn q) → Qt (q.2.2 == b) G' → tt [s0, s1, s2, s3, s4, s5, s6, s7, s8, s9, some (.ref d), some (.str x)] G' Qt)
    (q : ∀ t xs G', Pn.But Pt G G' → TabG G' Pt → G' d = some (.dK kvs) → F2 (KnV K fKn G') l kvs → Dt.Tup0 G' t xs → F2 (PrV K G') (Kn.part b l) xs → Q (.ref t) G') :
    tLockE (Gx.tTupG0 (Gx.tGen Pt (iKeys (tVar 10)) (gName 11) tt (tTup (tCons (tVar 11) (tCons (tOp (rIxT K) (tDGet (tVar 10) (tVar 11)) (tC (.int 1))) tNil))) [11])) [s0, s1, s2, s3, s4, s5, s6, s7, s8, s9, some (.ref d), none] G Q := by
  refine ⟨d, .dK kvs, eG, True.intro, fun od => ?_⟩
  have kl : TK G (upd G d (.frz od (.dK kvs))) := TK.any eG (fun _ z => nomatch z) (fun _ _ z => nomatch z) _
  have e1 : (upd G d (.frz od (.dK kvs))) d = some (.frz od (.dK kvs)) := upd_same
  have tab1 : TabG (upd G d (.frz od (.dK kvs))) Pt := by
    obtain ⟨ps, e, h⟩ := tab
    exact ⟨ps, by rw [upd_ne dP.symm]; exact e, h⟩
  have fk1 := fk.mono (KnV.mono kl)
  have o1 : ∀ o u, o ≠ d → G o = some u → (upd G d (.frz od (.dK kvs))) o = some u := fun o u n e => by rw [upd_ne n]; exact e
  generalize upd G d (.frz od (.dK kvs)) = G1 at e1 tab1 fk1 o1
  have lk := fk.len
  refine ⟨.ref d, rfl, d, od, rfl, .inl ⟨kvs, e1, tab1, fun G2 tb => ?_⟩⟩
  have b12 : Pn.But Pt G1 G2 := fun o u n e => by rw [tb.2 o n]; exact e
  refine Gx.turns_it walk_keys (fun i ys G3 => Pn.But Pt G1 G3 ∧ TabG G3 Pt ∧ F2 (PrV K G3) (Kn.part b (l.take i)) ys) ⟨b12, tb.1, rfl⟩ (fun i ys G3 _ h => h.1 _ _ dP e1) ?_ ?_
  · rintro i x ys G9 G3 hi ⟨b13, tab3, pr⟩ ⟨rfl, k, v, hk, rfl⟩
    have k13 : TK G1 G3 := tab_tk tab1 b13
    obtain ⟨qq, hq, ek, bq, ev, sq⟩ := fk1.get hk
    have ek' : k = .inr qq.1 := ek
    have ev' : v = .ref bq := ev
    subst ek'
    subst ev'
    have fk3 := fk1.mono (KnV.mono k13)
    obtain ⟨bq', val, sq'⟩ := kn_some fk3 (Kn.look_at nodup (List.mem_of_getElem? hq))
    have get : DGet G3 d (.str qq.1) (some (.ref bq')) := .inl ⟨kvs, .inr qq.1, .inr ⟨od, b13 _ _ dP e1⟩, rfl, val.symm⟩
    refine ⟨rfl, htt G3 qq.1 bq' qq _ get sq' ?_⟩
    have tk := take_next hq
    have lys := pr.len
    have pl := Kn.part_len b (l.take i)
    have li : (l.take i).length ≤ l.length := by rw [List.length_take]; exact Nat.min_le_right _ _
    cases hb : (qq.2.2 == b) with
    | false =>
      refine iteF ⟨b13, tab3, ?_⟩
      rw [tk, Kn.part_app, Kn.part_one, hb, if_neg (by decide), List.append_nil]
      exact pr
    | true =>
      refine iteT ⟨.str qq.1, rfl, .ref d, rfl, .str qq.1, rfl, d, .ref bq', rfl, get, bq', _, 1, _, rfl, rfl, sq', atI_nat (j := 1) rfl, (by show 2 ≤ sizeLine; rw [sizeLine_eq]; decide), fun t nt => ⟨by rw [sizeLine_eq]; omega, ?_⟩⟩
      have s4 : Same G3 (upd G3 t (.tup [.str qq.1, .int (qq.2.1 : Int)])) := same_new (fun b o e => e) nt _
      refine ⟨fun o u n e => s4 _ _ (b13 o u n e), tab_upd tab3 nt, ?_⟩
      rw [tk, Kn.part_app, Kn.part_one, hb, if_pos rfl]
      exact F2.app (pr.mono (PrV.mono (TK.same s4))) (F2.one ⟨t, rfl, .inl (.inl upd_same)⟩)
  · rintro ys G3 ⟨b13, tab3, pr⟩ t ot nt odt
    rw [lk, List.take_length] at pr
    have e3 : G3 d = some (.frz od (.dK kvs)) := b13 _ _ dP e1
    have td : t ≠ d := fun z => by rw [z, e3] at nt; cases nt
    have s4 : Same G3 (upd G3 t (.frz ot (.tup ys))) := same_new (fun b o e => e) nt _
    have e4 : (upd G3 t (.frz ot (.tup ys))) d = some (.frz od (.dK kvs)) := s4 _ _ e3
    have k5 : TK (upd G3 t (.frz ot (.tup ys))) (upd (upd G3 t (.frz ot (.tup ys))) d (.dK kvs)) := TK.any e4 (fun _ z => nomatch z) (fun _ _ z => nomatch z) _
    have k35 : TK G3 (upd (upd G3 t (.frz ot (.tup ys))) d (.dK kvs)) := (TK.same s4).trans k5
    refine ⟨e4, q t ys _ (fun o u n e => ?_) ?_ upd_same ?_ ⟨ot, ?_, odt⟩ (pr.mono (PrV.mono k35))⟩
    · by_cases z : o = d
      · rw [z] at e ⊢
        rw [eG] at e
        rw [upd_same]
        exact e
      · rw [upd_ne z]
        exact s4 _ _ (b13 o u n (o1 o u z e))
    · obtain ⟨ps, e, h⟩ := tab_upd (o := .frz ot (.tup ys)) tab3 nt
      exact ⟨ps, by rw [upd_ne dP.symm]; exact e, h⟩
    · exact fk1.mono (KnV.mono ((tab_tk tab1 b13).trans k35))
    · rw [upd_ne td]
      exact upd_same
section
variable {P : Program} {w : World} {K : PySem.W.Frag} {mg : Str → Option Value} {base : Heap}
def spKinds (K : PySem.W.Frag) (CU Pt : Addr) : Sp := fun vs H Q E => ∃ (a : Addr) (xs : List V) (ss : List Sn) (Hb : Hp), vs = [.ref a] ∧ SqX K H a xs ∧ Same Hb H ∧ DpAll K Hb xs (ss.map Sn.d) ∧ (∀ s ∈ ss, s.ok = true ∧ s.wf = true ∧ s.size ≤ 1000) ∧ (Sn.occsL ss).length ≤ 100000 ∧ TabG H Pt ∧
  (∀ x, Kn.scan [] (Sn.occsL ss) = .inl x → ∀ d H', Same H H' → H d = none → H' d = some (.xd [(("what" : Str), .str x)]) → E (.ref CU) (some d) H') ∧
  ∀ l, Kn.scan [] (Sn.occsL ss) = .inr l → ∀ H' p t u xs ys, Pn.But Pt H H' → TabG H' Pt → SqT K H' p [.ref t, .ref u] → Dt.Tup0 H' t xs → F2 (PrV K H') (Kn.part false l) xs → Dt.Tup0 H' u ys → F2 (PrV K H') (Kn.part true l) ys → Q (.ref p) H'
theorem ok_kinds {C f c Pt fA fS fE : Addr} {fd fdA fdS fdE : FuncData} {k : Nat} (F : FunC K "kinds" "kinds" sKinds f (.ref c) fd) (TB : TabB base mg c Pt)
    (hA : Has P w K mg base (k + 5) "atoms_of" ["sentence"] (spAtoms K) fA fdA) (hS : Has P w K mg base (k + 5) "spoken_in" ["atom"] (spSpoken K) fS fdS)
    (T : Er K C fE "what") (GE : FnOk P w K mg base CX0 (k + 4) fE fdE ["self", "what"] (spEr C "what")) (gE : mg "Unlike" = some (.ref C)) (bE : Binds K fdE ["self", "what"] [])
    (m_enumerate : mg "enumerate" = none) (m_isinstance : mg "isinstance" = none) (m_tuple : mg "tuple" = none) (m_len : mg "len" = none) : FnOk P w K mg base (L2.CX P w) (k + 6) f fd ["sentences"] (spKinds K C Pt) := by
  refine FunC.okC F scKinds (fun vs H Q E h => ?_) (fun A outer s H vs Q E hr h => ?_)
  · obtain ⟨a, xs, ss, Hb, rfl, _⟩ := h
    rfl
  · obtain ⟨a, xs, ss, Hb, rfl, hx, hb, hd, each, few, tab, hbad, hgood⟩ := h
    refine' ⟨_, pss_cons ?s1 (pss_cons ?s2 (pss_cons ?s3 (pss_cons ?s4 (pss_one ?s5)))), ?_⟩
    case s1 => exact (ps_set (i := 10) scKinds.nd rfl (.inr rfl) pe_dnewK)
    case s2 => exact (ps_for (passes_of rfl) rfl (Et.pi_any (pv 0)) (pg_name (i := 1) scKinds.nd rfl (.inl rfl))
      (pss_one (ps_for (passes_of rfl) rfl (pi_list (pe_call hA.G hr (by rfl) hA.g hA.kp hA.b .nil pass0 (pa_cons (pv 1) pa_nil))) (pg_tup rfl (pgs_cons (pg_name (i := 2) scKinds.nd rfl (.inl rfl)) (pgs_cons (pg_name (i := 3) scKinds.nd rfl (.inl rfl)) pgs_nil)))
        (pss_one (ps_for (passes_of rfl) rfl (pi_enum (by rfl) m_enumerate (pa_cons (pe_call hS.G hr (by rfl) hS.g hS.kp hS.b .nil pass0 (pa_cons (pv 2) pa_nil)) pa_nil)) (pg_tup rfl (pgs_cons (pg_name (i := 4) scKinds.nd rfl (.inl rfl)) (pgs_cons (pg_name (i := 5) scKinds.nd rfl (.inl rfl)) pgs_nil)))
          (pss_one (ps_if (pt_val (pe_callB call_isi (by rfl) m_isinstance (by decide +kernel) (pa_cons (pv 5) (pa_cons (pe_bltn (v := .ty "tuple") (by rfl) m_tuple (by decide +kernel) rfl) pa_nil))))
            (pss_cons (ps_set (i := 6) scKinds.nd rfl (.inl rfl) (pe_and (pe_cmpR op_eq (pe_ix ix_tup (pv 2) pe_int (fun _ _ => rfl)) pe_str (nomark _)) (pe_one (pe_cmpR op_eq (pv 4) pe_int (nomark _)))))
            (pss_cons (ps_set (i := 7) scKinds.nd rfl (.inl rfl) (pe_tup (pa_cons (pv 6) (pa_cons (pe_op op_sub (pe_callB call_len_seq (by rfl) m_len PySem.boot_len (pa_cons (pv 5) pa_nil)) pe_int) pa_nil))))
            (pss_one (ps_if (pt_cmpR (op_neD (hu64 hr)) (pe_dsetd (pv 10) (pe_ix ix_tup (pv 5) pe_int (fun _ _ => rfl)) (pv 7) ⟨rfl, rfl, rfl, rfl⟩) (pv 7) (nomark _))
              (pss_one (ps_raise rfl (takes_of rfl rfl rfl rfl) (pmk_oex T.ox T.ini T.tI GE hr bE .nil pass0 (by rfl) gE (pa_cons (pe_ix ix_tup (pv 5) pe_int (fun _ _ => rfl)) pa_nil)))) pss_nil)))) pss_nil)))))))
    case s3 => exact (ps_set (i := 8) scKinds.nd rfl (.inl rfl) (pe_lock (Gx.pe_tupG0 (k := 1) (Gx.pgen (k := 0) (own := [("name", 11)]) (g := gName 11) (tt := tNot (tB (tOp (rIxT K) (tDGet (tVar 10) (tVar 11)) (tC (.int 0))))) (te := tTup (tCons (tVar 11) (tCons (tOp (rIxT K) (tDGet (tVar 10) (tVar 11)) (tC (.int 1))) tNil)))
        (hr.mono (by omega)) TB rfl scKinds.nd (pi_keys (pv 10)) (blkOk_by (N := ["sentences", "sentence", "atom", "_", "index", "part", "is_truth", "kind", "things", "truths", "known", "name"]) (sc := defScope sKinds) (by decide +kernel)) (by decide +kernel) (by decide +kernel) rfl
        (fun _ _ _ _ _ _ _ => pg_name (i := 11) scKinds.nd rfl (.inl rfl))
        (fun _ _ _ _ _ _ _ room => pts_one (pt_not (pt_val (pe_ix ix_tup (pe_dget (hu1 room) (pv 10) (pv 11) (fun _ _ => rfl)) pe_int (fun _ _ => rfl)))))
        (fun _ _ _ _ _ _ _ room => pe_tup (pa_cons (pv 11) (pa_cons (pe_ix ix_tup (pe_dget (hu1 room) (pv 10) (pv 11) (fun _ _ => rfl)) pe_int (fun _ _ => rfl)) pa_nil)))) (hr.mono (by omega)) (by rfl) m_tuple)))
    case s4 => exact (ps_set (i := 9) scKinds.nd rfl (.inl rfl) (pe_lock (Gx.pe_tupG0 (k := 1) (Gx.pgen (k := 0) (own := [("name", 11)]) (g := gName 11) (tt := tB (tOp (rIxT K) (tDGet (tVar 10) (tVar 11)) (tC (.int 0)))) (te := tTup (tCons (tVar 11) (tCons (tOp (rIxT K) (tDGet (tVar 10) (tVar 11)) (tC (.int 1))) tNil)))
        (hr.mono (by omega)) TB rfl scKinds.nd (pi_keys (pv 10)) (blkOk_by (N := ["sentences", "sentence", "atom", "_", "index", "part", "is_truth", "kind", "things", "truths", "known", "name"]) (sc := defScope sKinds) (by decide +kernel)) (by decide +kernel) (by decide +kernel) rfl
        (fun _ _ _ _ _ _ _ => pg_name (i := 11) scKinds.nd rfl (.inl rfl))
        (fun _ _ _ _ _ _ _ room => pts_one (pt_val (pe_ix ix_tup (pe_dget (hu1 room) (pv 10) (pv 11) (fun _ _ => rfl)) pe_int (fun _ _ => rfl))))
        (fun _ _ _ _ _ _ _ room => pe_tup (pa_cons (pv 11) (pa_cons (pe_ix ix_tup (pe_dget (hu1 room) (pv 10) (pv 11) (fun _ _ => rfl)) pe_int (fun _ _ => rfl)) pa_nil)))) (hr.mono (by omega)) (by rfl) m_tuple)))
    case s5 => exact (ps_ret (pe_tup (pa_cons (pv 8) (pa_cons (pv 9) pa_nil))))
    intro d nd
    have s0 : Same H (upd H d (.dK [])) := same_new (fun b o e => e) nd _
    have e0 : (upd H d (.dK [])) d = some (.dK []) := upd_same
    generalize upd H d (.dK []) = G0 at s0 e0
    have ld := dpAll_len hd
    rw [List.length_map] at ld
    refine for_any (j := 0) (Hr := H) rfl hx (fun i σ G => ∃ (v1 v2 v3 v4 v5 v6 v7 : Option V) (l : List Oc) (kvs : List (L2.Key × V)), σ = [some (.ref a), v1, v2, v3, v4, v5, v6, v7, none, none, some (.ref d), none] ∧ Same H G ∧ G d = some (.dK kvs) ∧ F2 (KnV K fKn G) l kvs ∧ Kn.scan [] (Sn.occsL (ss.take i)) = .inr l)
      ⟨none, none, none, none, none, none, none, [], [], rfl, s0, e0, rfl, rfl⟩ (fun i σ G _ ⟨_, _, _, _, _, _, _, _, _, _, sm, _⟩ => sm) ?_ ?_
    · rintro i x σ G hx' ⟨v1, v2, v3, v4, v5, v6, v7, l, kvs, rfl, sm, eG, fk, sc⟩
      obtain ⟨u, hu, hdx⟩ := dpAll_get hd hx'
      rw [List.getElem?_map] at hu
      obtain ⟨t, ht, rfl⟩ := Option.map_eq_some_iff.mp hu
      obtain ⟨ok, wf, size⟩ := each t (List.mem_of_getElem? ht)
      obtain ⟨rest, hrest⟩ := occsL_drop ht
      obtain ⟨oa, atms⟩ := occ_atoms t [] wf
      refine ⟨x, rfl, t, x, Hb, rfl, hb.trans sm, hdx, ok, by omega, fun G1 ap ys s1 np eap fa => ?_⟩
      have la := fa.len
      have nap : ap ≠ d := fun z => by rw [z, eG] at np; cases np
      refine ⟨ap, rfl, ⟨_, .inl (.inl eap)⟩, for_list (K := K) (a := ap) (xs := ys) (fun j σ G => ∃ (v2 v3 v4 v5 v6 v7 : Option V) (l : List Oc) (kvs : List (L2.Key × V)), σ = [some (.ref a), some x, v2, v3, v4, v5, v6, v7, none, none, some (.ref d), none] ∧ Same H G ∧ G d = some (.dK kvs) ∧ F2 (KnV K fKn G) l kvs ∧ G ap = some (.lst ys) ∧ F2 (ItV K Hb G) (t.atoms []) ys ∧ Kn.scan [] (Sn.occsL (ss.take i) ++ occA ((t.atoms []).take j)) = .inr l)
        ⟨v2, v3, v4, v5, v6, v7, l, kvs, rfl, sm.trans s1, s1 _ _ eG, fk.mono (KnV.mono (TK.same s1)), eap, fa, ?_⟩ (fun j σ G _ ⟨_, _, _, _, _, _, _, _, _, _, _, _, h, _⟩ => .inl (.inl h)) ?_ ?_⟩
      · show Kn.scan [] (Sn.occsL (ss.take i) ++ []) = _
        rw [List.append_nil]
        exact sc
      · clear fa eap fk eG sm sc s1 np
        rintro j y σ G hy ⟨v2, v3, v4, v5, v6, v7, l, kvs, rfl, sm, eG, fk, eap, fa, sc⟩
        obtain ⟨⟨ad, B⟩, hq, b, pv', cB, rfl, sb, dpv, scB⟩ := fa.get hy
        obtain ⟨eq, as, had, wfa⟩ := atms _ (List.mem_of_getElem? hq)
        have had' : ad = (Sn.atm eq as).d := had
        subst had'
        obtain ⟨rest2, hrest2⟩ := occA_drop hq
        have wfL : wfTL as = true ∧ (partsDL as).length ≤ 40 := by
          cases eq with
          | true =>
            obtain ⟨_, h2⟩ := Bool.and_eq_true_iff.mp (show (decide (as.length = 2) && (wfTL as && decide ((partsDL as).length ≤ 40))) = true from wfa)
            obtain ⟨h2, h3⟩ := Bool.and_eq_true_iff.mp h2
            exact ⟨h2, of_decide_eq_true h3⟩
          | false =>
            obtain ⟨_, h2⟩ := Bool.and_eq_true_iff.mp (show (decide (as.length = 1) && (wfTL as && (isTu (as.getD 0 .none) && decide ((partsDL as).length ≤ 40)))) = true from wfa)
            obtain ⟨h2, h3⟩ := Bool.and_eq_true_iff.mp h2
            obtain ⟨_, h4⟩ := Bool.and_eq_true_iff.mp h3
            exact ⟨h2, of_decide_eq_true h4⟩
        refine ⟨b, _, rfl, sb, rfl, _, _, rfl, _, _, rfl, rfl, ?_⟩
        refine ⟨pv', rfl, Sn.word (.atm eq as), as, pv', Hb, rfl, hb.trans sm, dpv, wfTL_ok as wfL.1, by omega, fun G1 qa zs s1 nq eqa hz => ?_⟩
        have nqd : qa ≠ d := fun z => by rw [z, eG] at nq; cases nq
        have nqap : qa ≠ ap := fun z => by rw [z, eap] at nq; cases nq
        have lz := dpAll_len hz
        have dpv' : Dp K Hb pv' (.tuple (.str (Sn.word (.atm eq as)) :: as)) := dpv
        cases dpv' with
        | @tup pa zs' _ spa all =>
        cases all with
        | @cons vw vs' _ _ hvw all =>
        cases hvw
        refine ⟨qa, zs, rfl, .inl (.inl eqa), for_it walk_enum (fun m σ G => ∃ (v4 v5 v6 v7 : Option V) (l : List Oc) (kvs : List (L2.Key × V)), σ = [some (.ref a), some x, some (.ref pa), some (.ref cB), v4, v5, v6, v7, none, none, some (.ref d), none] ∧ Same H G ∧ G d = some (.dK kvs) ∧ F2 (KnV K fKn G) l kvs ∧ G ap = some (.lst ys) ∧ F2 (ItV K Hb G) (t.atoms []) ys ∧ G qa = some (.lst zs) ∧
            Kn.scan [] ((Sn.occsL (ss.take i) ++ occA ((t.atoms []).take j)) ++ ocPs (decide (Sn.word (.atm eq as) = "is")) 0 ((partsDL as).take m)) = .inr l)
          ⟨v4, v5, v6, v7, l, kvs, rfl, sm.trans s1, s1 _ _ eG, fk.mono (KnV.mono (TK.same s1)), s1 _ _ eap, fa.mono (ItV.mono (TK.same s1)), eqa, ?_⟩ (fun m σ G _ ⟨_, _, _, _, _, _, _, _, _, _, _, _, h, _⟩ => .inl (.inl h)) ?_ ?_⟩
        · show Kn.scan [] ((Sn.occsL (ss.take i) ++ occA ((t.atoms []).take j)) ++ []) = _
          rw [List.append_nil]
          exact sc
        · clear fa eap fk eG sm sc s1 nq eqa sb scB
          rintro m z σ G G' hm ⟨v4, v5, v6, v7, l, kvs, rfl, sm, eG, fk, eap, fa, eqa, sc⟩ ⟨Tt, zi, zy, rfl, nT, rfl, ezi, hzy⟩
          cases ezi
          obtain ⟨p, hp, hpy⟩ := dpAll_get hz hzy
          obtain ⟨rest3, hrest3⟩ := ocPs_drop (b := decide (Sn.word (.atm eq as) = "is")) hp
          have tkp := ocPs_take (b := decide (Sn.word (.atm eq as) = "is")) hp
          have s1 : Same G (upd G Tt (.tup [.int (m : Nat), zy])) := same_new (fun b o e => e) nT _
          refine ⟨Tt, _, rfl, .inl (.inl upd_same), rfl, _, _, rfl, _, _, rfl, rfl, ?_⟩
          replace sm := sm.trans s1
          replace eG := s1 _ _ eG
          replace fk := fk.mono (KnV.mono (TK.same s1))
          replace eap := s1 _ _ eap
          replace fa := fa.mono (ItV.mono (TK.same s1))
          replace eqa := s1 _ _ eqa
          generalize upd G Tt (.tup [.int (m : Nat), zy]) = G1 at sm eG fk eap fa eqa
          clear s1 nT
          have ty := dp_ty (dp_same (hb.trans sm) hpy)
          rcases wf_partsL as wfL.1 p (List.mem_of_getElem? hp) with ⟨w0, rfl⟩ | ⟨w0, es, rfl⟩
          · refine ⟨zy, rfl, _, .ty "tuple", _, .type "tuple", false, rfl, .ty "tuple", ty, kit_tu (.str w0), false, rfl, iteF ?_⟩
            refine ⟨_, _, _, _, l, kvs, rfl, sm, eG, fk, eap, fa, eqa, ?_⟩
            rw [tkp]
            show Kn.scan [] ((Sn.occsL (ss.take i) ++ occA ((t.atoms []).take j)) ++ (ocPs _ 0 _ ++ [])) = _
            rw [List.append_nil]
            exact sc
          · refine ⟨zy, rfl, _, .ty "tuple", _, .type "tuple", true, rfl, .ty "tuple", ty, kit_tu (.tuple (.str w0 :: es)), true, rfl, iteT ?_⟩
            have spa1 : SqT K G1 pa (.str (Sn.word (.atm eq as)) :: vs') := (TK.same (hb.trans sm)).sq spa
            refine and_is rfl spa1 rfl ?_
            cases hpy with
            | @tup az xz _ saz allz =>
            cases allz with
            | @cons v0 vz _ _ hv0 allz =>
            cases hv0
            have saz1 : SqT K G1 az (.str w0 :: vz) := (TK.same (hb.trans sm)).sq saz
            have lvz := dpAll_len allz
            generalize hbb : (decide (Sn.word (.atm eq as) = "is") && decide (m = 0)) = bb
            refine ⟨.bl bb, rfl, .ref az, rfl, az, _, rfl, .inr saz1, _, _, rfl, rfl, (by show 2 ≤ sizeLine; rw [sizeLine_eq]; decide), fun tk ntk => ?_⟩
            have elen : ((V.str w0 :: vz).length : Int) - 1 = (es.length : Int) := by
              rw [List.length_cons]
              omega
            replace ntk : G1 tk = none := ntk
            show gName 7 (V.ref tk) _ (upd G1 tk (.tup [.bl bb, .int (((V.str w0 :: vz).length : Int) - 1)])) _
            rw [elen]
            have s2 : Same G1 (upd G1 tk (.tup [.bl bb, .int (es.length : Int)])) := same_new (fun b o e => e) ntk _
            have etk : (upd G1 tk (.tup [.bl bb, .int (es.length : Int)])) tk = some (.tup [.bl bb, .int (es.length : Int)]) := upd_same
            replace sm := sm.trans s2
            replace eG := s2 _ _ eG
            replace fk := fk.mono (KnV.mono (TK.same s2))
            replace eap := s2 _ _ eap
            replace fa := fa.mono (ItV.mono (TK.same s2))
            replace eqa := s2 _ _ eqa
            have ndk : tk ≠ d := fun z => by rw [← z, etk] at eG; cases eG
            replace saz1 := (TK.same s2).sq saz1
            generalize upd G1 tk (.tup [.bl bb, .int (es.length : Int)]) = G2 at sm eG fk eap fa eqa etk saz1
            clear s2 ntk spa1
            have oc : ocP (decide (Sn.word (.atm eq as) = "is")) m (.tuple (.str w0 :: es)) = [(w0, es.length, bb)] := by
              show [(nameD (.str w0), es.length, _)] = _
              rw [hbb]
              rfl
            rw [oc] at tkp hrest3
            have total : Sn.occsL ss = ((Sn.occsL (ss.take i) ++ occA ((t.atoms []).take j)) ++ ocPs (decide (Sn.word (.atm eq as) = "is")) 0 ((partsDL as).take m)) ++ (w0, es.length, bb) :: (rest3 ++ rest2 ++ rest) := by
              have e : occA [((Sn.atm eq as).d, B)] = ocPs (decide (Sn.word (.atm eq as) = "is")) 0 (partsDL as) := List.append_nil _
              rw [hrest, ← oa, hrest2, e, hrest3]
              simp only [List.append_assoc, List.cons_append, List.nil_append]
            have lfew := scan_len _ sc
            have lk := fk.len
            have lt : kvs.length < 1000000 := by
              have := few
              rw [total, List.length_append, List.length_cons] at this
              rw [lk]
              rw [List.length_nil] at lfew
              omega
            have dK : ∀ {b : Addr} {q : Oc}, SqT K G2 b (fKn q) → Dp K G2 (.ref b) (.tuple [.bool q.2.2, .int (q.2.1 : Int)]) := fun sq => .tup sq (.cons (.bl _) (.cons (.int _) .nil))
            refine ⟨.ref d, rfl, d, rfl, .inl ⟨kvs, .inl eG⟩, .ref az, rfl, az, _, 0, _, rfl, rfl, saz1, atI_nat (j := 0) rfl, .ref tk, rfl, kvs, .inr w0, eG, rfl, by rw [sizeLine_eq]; omega, fun v hv => ?_, fun hv => ?_⟩
            · cases hl : Kn.look l w0 with
              | none => rw [kn_none fk hl] at hv; cases hv
              | some zz =>
                obtain ⟨bk, ev, sk⟩ := kn_some fk hl
                rw [ev] at hv
                cases hv
                refine ⟨.ref tk, rfl, _, _, dK sk, dK (q := (w0, es.length, bb)) (.inl (.inl etk)), rfl, rfl, _, rfl, ?_⟩
                rw [kd_eqv]
                by_cases same : zz = (es.length, bb)
                · subst same
                  rw [decide_eq_true rfl, decide_eq_true rfl]
                  refine iteF ⟨_, _, _, _, l, kvs, rfl, sm, eG, fk, eap, fa, eqa, ?_⟩
                  rw [tkp, ← List.append_assoc]
                  exact Kn.scan_old sc hl
                · have ne : (decide ((w0, zz).2.2 = (w0, es.length, bb).2.2) && decide (((w0, zz).2.1 : Int) = ((w0, es.length, bb).2.1 : Int))) = false := by
                    rw [Bool.and_eq_false_iff]
                    by_cases h1 : zz.2 = bb
                    · refine .inr (decide_eq_false (fun z => same ?_))
                      have z' : zz.1 = es.length := by
                        have z2 : (zz.1 : Int) = (es.length : Int) := z
                        omega
                      rw [← z', ← h1]
                    · exact .inl (decide_eq_false h1)
                  rw [ne]
                  refine iteT ?_
                  have bad := hbad w0 (by rw [total]; exact Kn.scan_bad sc hl same _)
                  refine mk_row (x := "what") (v := .str w0) ⟨.ref az, rfl, az, _, 0, _, rfl, rfl, saz1, atI_nat (j := 0) rfl, rfl, rfl⟩ (fun dd H' s3 nd' ed => ?_) (fun m ⟨v, e, p, xs, i, u, e1, e2, sq, at', q⟩ => ⟨v, e, p, xs, i, u, e1, e2, sq, at', m _ _ q⟩)
                  exact bad dd H' (sm.trans s3) (none_before sm nd') ed
            · cases hl : Kn.look l w0 with
              | some zz =>
                obtain ⟨bk, ev, sk⟩ := kn_some fk hl
                rw [ev] at hv
                cases hv
              | none =>
                have put : putK kvs (.inr w0) (.ref tk) = kvs ++ [(.inr w0, .ref tk)] := putK_new _ hv
                have k3 : TK G2 (upd G2 d (.dK (kvs ++ [(.inr w0, .ref tk)]))) := TK.any eG (fun _ z => nomatch z) (fun _ _ z => nomatch z) _
                rw [put]
                have etk3 : (upd G2 d (.dK (kvs ++ [(.inr w0, .ref tk)]))) tk = some (.tup [.bl bb, .int (es.length : Int)]) := by rw [upd_ne ndk]; exact etk
                have dt : Dp K (upd G2 d (.dK (kvs ++ [(.inr w0, .ref tk)]))) (.ref tk) (.tuple [.bool bb, .int (es.length : Int)]) := .tup (.inl (.inl etk3)) (.cons (.bl _) (.cons (.int _) .nil))
                refine ⟨.ref tk, rfl, _, _, dt, dt, rfl, rfl, _, rfl, ?_⟩
                rw [kd_eqv, decide_eq_true rfl, decide_eq_true rfl]
                refine iteF ⟨_, _, _, _, l ++ [(w0, es.length, bb)], _, rfl, same_on sm nd _, upd_same, F2.app (fk.mono (KnV.mono k3)) (F2.one ⟨rfl, tk, rfl, .inl (.inl etk3)⟩), ?_, fa.mono (ItV.mono k3), ?_, ?_⟩
                · rw [upd_ne nap]; exact eap
                · rw [upd_ne nqd]; exact eqa
                · rw [tkp, ← List.append_assoc]
                  exact Kn.scan_new sc hl
        · rintro σ G ⟨v4, v5, v6, v7, l, kvs, rfl, sm, eG, fk, eap, fa, eqa, sc⟩
          refine ⟨_, _, _, _, _, _, l, kvs, rfl, sm, eG, fk, eap, fa, ?_⟩
          rw [lz, List.take_length] at sc
          rw [occA_take hq, ← List.append_assoc]
          have e : occA [((Sn.atm eq as).d, B)] = ocPs (decide (Sn.word (.atm eq as) = "is")) 0 (partsDL as) := List.append_nil _
          rw [e]
          exact sc
      · rintro σ G ⟨v2, v3, v4, v5, v6, v7, l, kvs, rfl, sm, eG, fk, eap, fa, sc⟩
        refine ⟨_, _, _, _, _, _, _, l, kvs, rfl, sm, eG, fk, ?_⟩
        rw [la, List.take_length, oa] at sc
        rw [occsL_take ht]
        exact sc
    · rintro σ G ⟨v1, v2, v3, v4, v5, v6, v7, l, kvs, rfl, sm, eG, fk, sc⟩
      rw [ld, List.take_length] at sc
      have good := hgood l sc
      obtain ⟨nodup, _⟩ := Kn.scan_ok _ sc (by simp)
      have lk := fk.len
      have lfew := scan_len _ sc
      rw [List.length_nil] at lfew
      have tabd : d ≠ Pt := fun z => by
        obtain ⟨_, e, _⟩ := tab
        rw [z, e] at nd
        cases nd
      replace tab := tab_same sm tab
      clear hx hd each e0 s0 hbad
      refine to_set (gen_part (b := false) eG tab tabd fk nodup (by omega) (fun G' x bq q Qt get sq h => ?_) fun t1 ys1 G1 b1 tab1 eG1 fk1 et1 pr1 => ?_)
      · refine ⟨.ref d, rfl, .str x, rfl, d, .ref bq, rfl, get, bq, _, 0, .bl q.2.2, rfl, rfl, sq, atI_nat (j := 0) rfl, _, rfl, ?_⟩
        rw [(beqs _).2] at h
        exact h
      refine to_set (gen_part (b := true) eG1 tab1 tabd fk1 nodup (by omega) (fun G' x bq q Qt get sq h => ?_) fun t2 ys2 G2 b2 tab2 eG2 fk2 et2 pr2 => ?_)
      · refine ⟨.ref d, rfl, .str x, rfl, d, .ref bq, rfl, get, bq, _, 0, .bl q.2.2, rfl, rfl, sq, atI_nat (j := 0) rfl, _, rfl, ?_⟩
        rw [(beqs _).1] at h
        exact h
      refine ⟨.ref t1, rfl, .ref t2, rfl, (by show 2 ≤ sizeLine; rw [sizeLine_eq]; decide), fun r nr => ?_⟩
      have s3 : Same G2 (upd G2 r (.tup [.ref t1, .ref t2])) := same_new (fun b o e => e) nr _
      have k2 : TK G1 G2 := tab_tk tab1 b2
      refine good _ r t1 t2 ys1 ys2 (fun o u n e => s3 _ _ (b2 _ _ n (b1 _ _ n (sm _ _ e)))) (tab_upd tab2 nr) (.inl (.inl upd_same)) (tup0_mono (TK.same s3) (tup0_mono k2 et1)) ((pr1.mono (PrV.mono k2)).mono (PrV.mono (TK.same s3))) (tup0_mono (TK.same s3) et2) (pr2.mono (PrV.mono (TK.same s3)))
end
end Ad

/-! _ranked_triples. -/
namespace Ad
open PySem PySem.Spec PySem.Calls PyProof.Rows L2
abbrev sRanked : Stmt := topS 19
theorem scRanked : FnScope ["pairs", "ranked", "arities", "first", "last", "name"] ["pairs", "ranked"] (defScope sRanked) := ⟨rfl, rfl, rfl, by decide +kernel, rfl, by decide +kernel, by decide +kernel⟩
section
variable {P : Program} {w : World} {K : PySem.W.Frag} {mg : Str → Option Value} {base : Heap}
def spRanked (K : PySem.W.Frag) : Sp := fun vs H Q _ => ∃ (a r : Addr) (xs : List V) (R : List Pr) (T : List Str), vs = [.ref a, .ref r] ∧ Dt.Tup0 H a xs ∧ F2 (PrV K H) R xs ∧ (Rn.names R).Nodup ∧ R.length ≤ 1000 ∧ T.length ≤ 1000 ∧ H r = some (.lst (T.map V.str)) ∧
  ∀ H' p ys, Same H H' → H p = none → H' p = some (.lst ys) → F2 (RowV K H') (Rn.rows R T) ys → Q (.ref p) H'
theorem ok_ranked {f : Addr} {fd : FuncData} {k : Nat} (F : Fun K "_ranked_triples" "_ranked_triples" sRanked f fd) (m_dict : mg "dict" = none) : FnOk P w K mg base CX0 (k + 1) f fd ["pairs", "ranked"] (spRanked K) := by
  refine F.ok scRanked (fun vs H Q E h => ?_) (fun cdv A outer s H vs Q E hr h => ?_)
  · obtain ⟨a, r, xs, R, T, rfl, _⟩ := h
    rfl
  · obtain ⟨a, r, xs, R, T, rfl, ta, fR, nd, few, fewT, er, q⟩ := h
    refine' ⟨_, pss_cons ?s1 (pss_cons ?s2 (pss_cons ?s3 (pss_one ?s4))), ?_⟩
    case s1 => exact (ps_set (i := 2) scRanked.nd rfl (.inr rfl) (pe_callTy (Dt.call_dictT rfl) (by rfl) m_dict (by decide +kernel) (pa_cons (pv 0) pa_nil)))
    case s2 => exact ps_lock (ps_setLc (i := 3) (own := [("name", 5)]) (g := gName 5) (tt := tTest (tOp (rIn K true) (tVar 5) (tVar 1))) (te := tVar 5) rfl scRanked.nd rfl rfl (sw_true rfl rfl rfl (by decide +kernel)) (pi_keys (pv 2)) (blkOk_by (N := ["pairs", "ranked", "arities", "first", "last", "name"]) (sc := defScope sRanked) (by decide +kernel)) (fun _ _ _ _ _ => (pg_name (i := 5) scRanked.nd rfl (.inl rfl))) (fun _ _ _ _ _ => pts_one (pt_cmpR op_notIn_seq (pv 5) (pv 1) (by with_unfolding_all rfl))) (fun _ _ _ _ _ => (pv 5)))
    case s3 => exact (ps_setLc (i := 4) (own := [("name", 5)]) (g := gName 5) (tt := tB (tDIn (tVar 5) (tVar 2))) (te := tVar 5) rfl scRanked.nd rfl rfl (sw_true rfl rfl rfl (by decide +kernel)) (pi_list (pv 1)) (blkOk_by (N := ["pairs", "ranked", "arities", "first", "last", "name"]) (sc := defScope sRanked) (by decide +kernel)) (fun _ _ _ _ _ => (pg_name (i := 5) scRanked.nd rfl (.inl rfl))) (fun _ _ _ _ _ => pts_one (pt_cmp (pc_din (hu1 hr) (pv 5) (pv 2)))) (fun _ _ _ _ _ => (pv 5)))
    case s4 => exact (ps_ret (pe_lc (own := [("name", 5)]) (g := gName 5) (tt := tYes) (te := tTup (tCons (tVar 5) (tCons (tDGet (tVar 2) (tVar 5)) (tCons (tC (.int 1)) tNil)))) rfl scRanked.nd (pi_list (pe_op op_cat (pv 3) (pv 4))) (blkOk_by (N := ["pairs", "ranked", "arities", "first", "last", "name"]) (sc := defScope sRanked) (by decide +kernel)) (fun _ _ _ _ _ => (pg_name (i := 5) scRanked.nd rfl (.inl rfl))) (fun _ _ _ _ _ => pts_nil) (fun _ _ _ _ _ => (pe_tup (pa_cons (pv 5) (pa_cons (pe_dget (hu1 hr) (pv 2) (pv 5) (fun _ _ => rfl)) (pa_cons pe_int pa_nil)))))))
    obtain ⟨ps, rfl, prs⟩ := pr_paired fR
    have lnm : (Rn.names R).length = R.length := List.length_map _
    have ldk : (Rn.dK R).length = R.length := List.length_map _
    refine ⟨.ref a, rfl, a, ps, Rn.dK R, rfl, ta, prs, fun d nd' => ?_⟩
    rw [Rn.dK_merge nd]
    have s0 : Same H (upd H d (.dK (Rn.dK R))) := same_new (fun b o e => e) nd' _
    have e0 : (upd H d (.dK (Rn.dK R))) d = some (.dK (Rn.dK R)) := upd_same
    generalize upd H d (.dK (Rn.dK R)) = G0 at s0 e0
    refine ⟨d, .dK (Rn.dK R), e0, True.intro, fun od => ?_⟩
    have er0 := s0 _ _ er
    have rd : r ≠ d := fun z => by rw [z, e0] at er0; cases er0
    have e1 : (upd G0 d (.frz od (.dK (Rn.dK R)))) d = some (.frz od (.dK (Rn.dK R))) := upd_same
    have er1 : (upd G0 d (.frz od (.dK (Rn.dK R)))) r = some (.lst (T.map V.str)) := by rw [upd_ne rd]; exact er0
    have o1 : ∀ b u, b ≠ d → H b = some u → (upd G0 d (.frz od (.dK (Rn.dK R)))) b = some u := fun b u n e => by rw [upd_ne n]; exact s0 _ _ e
    generalize upd G0 d (.frz od (.dK (Rn.dK R))) = G1 at e1 er1 o1
    refine ⟨.ref d, rfl, d, od, rfl, .inl ⟨Rn.dK R, e1, fun D nD => lc_it walk_keys (fun i G => Same G1 G ∧ G D = some (.lst ((((Rn.names R).take i).filter fun x => !decide (x ∈ T)).map V.str))) ⟨same_new (fun b o e => e) nD _, upd_same⟩ (fun i G _ h => h.1 _ _ e1) ?_ ?_⟩⟩
    · rintro i x G9 G hi ⟨sm, gD⟩ ⟨rfl, kk, v, hk, rfl⟩
      obtain ⟨x, rfl, hx⟩ := Rn.dK_at hk
      have ft := filter_take (fun x => !decide (x ∈ T)) hx
      have fl := List.length_filter_le (fun x => !decide (x ∈ T)) ((Rn.names R).take i)
      rw [List.length_take] at fl
      refine ⟨rfl, .str x, rfl, .ref r, rfl, r, _, rfl, .inl (.inl (.inl (sm _ _ er1))), rfl, flat_texts T, !decide (x ∈ T), congrArg (fun z => V.bl (!z)) (inV_mem x T), ?_⟩
      cases hb : (!decide (x ∈ T)) with
      | false =>
        refine iteF ⟨sm, ?_⟩
        rw [ft, hb, if_neg (by decide), List.append_nil]
        exact gD
      | true =>
        refine iteT ⟨.str x, rfl, _, gD, (by rw [List.length_map, sizeLine_eq]; omega), same_on sm nD _, ?_⟩
        rw [ft, hb, if_pos rfl, List.map_append, upd_same]
        rfl
    · rintro G ⟨sm, gD⟩
      rw [ldk, ← lnm, List.take_length] at gD
      refine ⟨sm _ _ e1, ?_⟩
      have g1 := sm _ _ e1
      have Dd : D ≠ d := fun z => by rw [z, e1] at nD; cases nD
      have sH : Same H (upd G d (.dK (Rn.dK R))) := fun b u e => by
        have n : b ≠ d := ne_of_none e nd'
        rw [upd_ne n]
        exact sm _ _ (o1 _ _ n e)
      have e2 : (upd G d (.dK (Rn.dK R))) d = some (.dK (Rn.dK R)) := upd_same
      have eD : (upd G d (.dK (Rn.dK R))) D = some (.lst (((Rn.names R).filter fun x => !decide (x ∈ T)).map V.str)) := by rw [upd_ne Dd]; exact gD
      generalize upd G d (.dK (Rn.dK R)) = G2 at sH e2 eD
      have er2 := sH _ _ er
      clear o1 er1 e1 g1 sm gD er0 e0 s0
      refine ⟨.ref r, rfl, r, rfl, ⟨_, .inl (.inl er2)⟩, fun D2 nD2 => lc_list (K := K) (a := r) (xs := T.map V.str) (fun i G => Same G2 G ∧ G D2 = some (.lst (((T.take i).filter fun x => decide (x ∈ Rn.names R)).map V.str))) ⟨same_new (fun b o e => e) nD2 _, upd_same⟩ (fun i G _ h => .inl (.inl (h.1 _ _ er2))) ?_ ?_⟩
      · rintro i x G hx ⟨sm, gD⟩
        rw [List.getElem?_map] at hx
        obtain ⟨x, hx2, rfl⟩ := Option.map_eq_some_iff.mp hx
        have ft := filter_take (fun x => decide (x ∈ Rn.names R)) hx2
        have fl := List.length_filter_le (fun x => decide (x ∈ Rn.names R)) (T.take i)
        rw [List.length_take] at fl
        refine ⟨rfl, .str x, rfl, .ref d, rfl, d, _, rfl, DGet.k (k := Sum.inr x) (sm _ _ e2), decide (x ∈ Rn.names R), congrArg V.bl (Rn.dK_some R x), ?_⟩
        cases hb : decide (x ∈ Rn.names R) with
        | false =>
          refine iteF ⟨sm, ?_⟩
          rw [ft, hb, if_neg (by decide), List.append_nil]
          exact gD
        | true =>
          refine iteT ⟨.str x, rfl, _, gD, (by rw [List.length_map, sizeLine_eq]; omega), same_on sm nD2 _, ?_⟩
          rw [ft, hb, if_pos rfl, List.map_append, upd_same]
          rfl
      · rintro G3 ⟨sm, gD⟩
        rw [List.length_map, List.take_length] at gD
        have sH3 := sH.trans sm
        have eD3 := sm _ _ eD
        have e3 := sm _ _ e2
        have rl := Rn.rank_len R T
        refine ⟨.ref D, rfl, .ref D2, rfl, D, D2, _, _, rfl, rfl, eD3, gD, ?_, fun L nL => ?_⟩
        · have h1 := List.length_filter_le (fun x => !decide (x ∈ T)) (Rn.names R)
          have h2 := List.length_filter_le (fun x => decide (x ∈ Rn.names R)) T
          rw [List.length_map, List.length_map, sizeLine_eq]
          omega
        rw [← List.map_append, show ((Rn.names R).filter fun x => !decide (x ∈ T)) ++ (T.filter fun x => decide (x ∈ Rn.names R)) = Rn.rank R T from rfl]
        have s4 : Same G3 (upd G3 L (.lst ((Rn.rank R T).map V.str))) := same_new (fun b o e => e) nL _
        have eL : (upd G3 L (.lst ((Rn.rank R T).map V.str))) L = some (.lst ((Rn.rank R T).map V.str)) := upd_same
        have e4 := s4 _ _ e3
        have s14 := sH3.trans s4
        clear sH sm sH3 s4 eD eD3 e3 e2 gD er2
        generalize upd G3 L (.lst ((Rn.rank R T).map V.str)) = G4 at s14 eL e4
        refine ⟨L, rfl, ⟨_, .inl (.inl eL)⟩, fun D3 nD3 => lc_list (K := K) (a := L) (xs := (Rn.rank R T).map V.str) (fun i G => Same G4 G ∧ ∃ acc, G D3 = some (.lst acc) ∧ F2 (RowV K G) (((Rn.rank R T).take i).map fun x => ((x, Rn.ar R x, 1) : Row)) acc) ⟨same_new (fun b o e => e) nD3 _, [], upd_same, rfl⟩ (fun i G _ h => .inl (.inl (h.1 _ _ eL))) ?_ ?_⟩
        · rintro i x G hx ⟨sm, acc, gD, fa⟩
          rw [List.getElem?_map] at hx
          obtain ⟨x, hx2, rfl⟩ := Option.map_eq_some_iff.mp hx
          have mem := Rn.rank_mem (List.mem_of_getElem? hx2)
          have la := fa.len
          rw [List.length_map, List.length_take] at la
          refine ⟨rfl, .str x, rfl, .ref d, rfl, .str x, rfl, d, _, rfl, .inl ⟨_, .inr x, .inl (sm _ _ e4), rfl, (Rn.dK_val mem).symm⟩, (by show 3 ≤ sizeLine; rw [sizeLine_eq]; decide), fun t nt => ?_⟩
          have s5 : Same G (upd G t (.tup [.str x, .int (Rn.ar R x : Int), .int 1])) := same_new (fun b o e => e) nt _
          have e5 : (upd G t (.tup [.str x, .int (Rn.ar R x : Int), .int 1])) t = some (.tup [.str x, .int (Rn.ar R x : Int), .int 1]) := upd_same
          generalize upd G t (.tup [.str x, .int (Rn.ar R x : Int), .int 1]) = G5 at s5 e5
          have g5 := s5 _ _ gD
          have k6 : TK G5 (upd G5 D3 (.lst (acc ++ [.ref t]))) := TK.lst g5 _
          refine ⟨acc, g5, by rw [sizeLine_eq]; omega, same_on (sm.trans s5) nD3 _, _, upd_same, ?_⟩
          rw [take_next hx2, List.map_append]
          exact F2.app ((fa.mono (RowV.mono (TK.same s5))).mono (RowV.mono k6)) (F2.one ⟨t, rfl, k6.sq (.inl (.inl e5))⟩)
        · rintro G ⟨sm, acc, gD, fa⟩
          rw [List.length_map, List.take_length] at fa
          exact q G D3 acc (s14.trans sm) (none_before s14 nD3) gD fa
end
end Ad

namespace Ad
open PySem PySem.Spec PySem.Calls PyProof.Rows L2
abbrev sFrom : Stmt := topS 8
theorem scFrom : FnScope ["value", "least"] ["value", "least"] (defScope sFrom) := ⟨rfl, rfl, rfl, by decide +kernel, rfl, by decide +kernel, by decide +kernel⟩
section
variable {P : Program} {w : World} {K : PySem.W.Frag} {mg : Str → Option Value} {base : Heap}
def spFrom : Sp := fun vs H Q _ => ∃ i m : Int, vs = [.int i, .int m] ∧ Q (.bl (decide (m ≤ i))) H
theorem ok_from {f : Addr} {fd : FuncData} {k : Nat} (F : Fun K "is_from" "is_from" sFrom f fd) (m_isinstance : mg "isinstance" = none) (m_int : mg "int" = none) (m_bool : mg "bool" = none) : FnOk P w K mg base CX0 (k + 1) f fd ["value", "least"] spFrom := by
  refine F.ok scFrom (fun vs H Q E h => ?_) (fun cdv A outer s H vs Q E hr h => ?_)
  · obtain ⟨i, m, rfl, _⟩ := h
    rfl
  · obtain ⟨i, m, rfl, q⟩ := h
    refine ⟨_, (pss_one (ps_ret (pe_and (pe_callB call_isi (by rfl) m_isinstance (by decide +kernel) (pa_cons (pv 0) (pa_cons (pe_bltn (v := .ty "int") (by rfl) m_int (by decide +kernel) rfl) pa_nil))) (pe_and (pe_not (pe_callB call_isi (by rfl) m_isinstance (by decide +kernel) (pa_cons (pv 0) (pa_cons (pe_bltn (v := .ty "bool") (by rfl) m_bool (by decide +kernel) rfl) pa_nil)))) (pe_one (pe_cmpR op_ge (pv 0) (pv 1) (nomark _))))))), ?_⟩
    refine ⟨.int i, rfl, _, .ty "int", .type "int", .type "int", true, rfl, .ty "int", .base (.int i), kitII, true, rfl, ?_⟩
    refine iteT ?_
    refine ⟨.int i, rfl, _, .ty "bool", .type "int", .type "bool", false, rfl, .ty "bool", .base (.int i), kitIB, false, rfl, _, rfl, ?_⟩
    refine iteT ?_
    exact ⟨.int i, rfl, .int m, rfl, _, _, rfl, rfl, q⟩
end
end Ad

namespace Ad
open PySem PySem.Spec PySem.Calls PyProof.Rows L2
abbrev sTriple : Stmt := topS 12
theorem scTriple : FnScope ["item"] ["item"] (defScope sTriple) := ⟨rfl, rfl, rfl, by decide +kernel, rfl, by decide +kernel, by decide +kernel⟩
theorem ix_x {K : PySem.W.Frag} {H : Hp} {b : Addr} {xs : List V} {i : Nat} {v : V} {Q : VK} (h : SqX K H b xs) (e : xs[i]? = some v) (q : Q v H) : rIx K (.ref b) (.int (i : Int)) H Q := by
  rcases h with h | h
  · exact .inl ⟨b, xs, (i : Int), v, rfl, rfl, h, atI_nat e, q⟩
  · exact .inr (.inl ⟨b, xs, (i : Int), v, rfl, rfl, h, atI_nat e, q⟩)
section
variable {P : Program} {w : World} {K : PySem.W.Frag} {mg : Str → Option Value} {base : Heap}
def spTriple (K : PySem.W.Frag) : Sp := fun vs H Q _ => ∃ (r : Row) (v : V), vs = [v] ∧ RowX K H r v ∧ 1 ≤ r.2.2 ∧ ∀ H', Same H H' → Q (.bl true) H'
theorem ok_triple {f fF : Addr} {fd fdF : FuncData} {k : Nat} (F : Fun K "_is_triple" "_is_triple" sTriple f fd) (GF : FnOk P w K mg base CX0 k fF fdF ["value", "least"] spFrom) (gF : mg "is_from" = some (.ref fF)) (kF : PySem.W.keepIn K (.ref fF) = true) (bF : Binds K fdF ["value", "least"] [])
    (m_isinstance : mg "isinstance" = none) (m_list : mg "list" = none) (m_tuple : mg "tuple" = none) (m_len : mg "len" = none) (m_str : mg "str" = none) : FnOk P w K mg base CX0 (k + 1) f fd ["item"] (spTriple K) := by
  refine F.ok scTriple (fun vs H Q E h => ?_) (fun cdv A outer s H vs Q E hr h => ?_)
  · obtain ⟨r, v, rfl, _⟩ := h
    rfl
  · obtain ⟨r, v, rfl, ⟨b, rfl, hx⟩, hw, q⟩ := h
    refine ⟨_, (pss_cons (ps_if (PW.pt (pw_or (pt_not (pt_val (pe_callB call_isiT (by rfl) m_isinstance (by decide +kernel) (pa_cons (pv 0) (pa_cons (pe_tup (pa_cons (pe_bltn (v := .ty "list") (by rfl) m_list (by decide +kernel) rfl) (pa_cons (pe_bltn (v := .ty "tuple") (by rfl) m_tuple (by decide +kernel) rfl) pa_nil))) pa_nil))))) (pw_or1 (pt_cmpR op_ne (pe_callB call_len_seq (by rfl) m_len PySem.boot_len (pa_cons (pv 0) pa_nil)) pe_int (nomark _)))))
      (pss_one (ps_ret pe_bl)) pss_nil)
    (pss_one (ps_ret (pe_and (pe_callB call_isi (by rfl) m_isinstance (by decide +kernel) (pa_cons (pe_ix ix_seq (pv 0) pe_int (fun _ _ => rfl)) (pa_cons (pe_bltn (v := .ty "str") (by rfl) m_str (by decide +kernel) rfl) pa_nil))) (pe_and (pe_call GF hr (by rfl) gF kF bF .nil pass0 (pa_cons (pe_ix ix_seq (pv 0) pe_int (fun _ _ => rfl)) (pa_cons pe_int pa_nil))) (pe_one (pe_call GF hr (by rfl) gF kF bF .nil pass0 (pa_cons (pe_ix ix_seq (pv 0) pe_int (fun _ _ => rfl)) (pa_cons pe_int pa_nil))))))))), ?_⟩
    refine ⟨.ref b, rfl, (by show 2 ≤ sizeLine; decide), fun tp np => ?_⟩
    have s1 : Same H (upd H tp (.tup [.ty "list", .ty "tuple"])) := same_new (fun b o e => e) np _
    have m1 : (upd H tp (.tup [.ty "list", .ty "tuple"])) tp = some (.tup [.ty "list", .ty "tuple"]) := upd_same
    replace hx := hx.same s1
    generalize upd H tp (.tup [.ty "list", .ty "tuple"]) = H1 at s1 m1 hx
    obtain ⟨t, ty, kit⟩ := sqx_ty hx
    refine ⟨.ref b, tp, _, t, [.type "list", .type "tuple"], true, rfl, m1, .cons (.ty "list") (.cons (.ty "tuple") .nil), ty, kit, true, rfl, ?_⟩
    refine iteF ?_
    refine ⟨.ref b, rfl, b, _, rfl, hx, rfl, _, rfl, ?_⟩
    refine iteF ?_
    refine ⟨.ref b, rfl, ix_x (i := 0) hx rfl ?_⟩
    refine ⟨_, .ty "str", .type "str", .type "str", true, rfl, .ty "str", .base (.str r.1), kitSS', true, rfl, ?_⟩
    refine iteT ?_
    refine ⟨.ref b, rfl, ix_x (i := 1) hx rfl ?_⟩
    refine ⟨(r.2.1 : Int), 0, rfl, true, ?_, ?_⟩
    · rw [decide_eq_true (show (0 : Int) ≤ (r.2.1 : Int) by omega)]
    refine iteT ?_
    refine ⟨.ref b, rfl, ix_x (i := 2) hx rfl ?_⟩
    refine ⟨r.2.2, 1, rfl, ?_⟩
    rw [decide_eq_true hw]
    exact q H1 s1
end
end Ad

namespace Ad
open PySem PySem.Spec PySem.Calls PyProof.Rows L2
abbrev sTriples : Stmt := topS 11
theorem scTriples : FnScope ["row", "taken", "names", "triples", "item"] ["row", "taken"] (defScope sTriples) := ⟨rfl, rfl, rfl, by decide +kernel, rfl, by decide +kernel, by decide +kernel⟩
theorem inV_strs {n : Str} {L : List Str} (h : n ∉ L) : inV (.str n) (L.map V.str) = false := by
  unfold inV
  rw [List.any_eq_false]
  intro y hy
  obtain ⟨m, hm, rfl⟩ := List.mem_map.mp hy
  show ¬ (m == n) = true
  intro z
  exact h (by rw [← (beq_iff_eq.mp z)]; exact hm)
theorem flat_strs (L : List Str) : (L.map V.str).all flatV = true := by
  rw [List.all_eq_true]
  intro y hy
  obtain ⟨m, hm, rfl⟩ := List.mem_map.mp hy
  rfl
section
variable {P : Program} {w : World} {K : PySem.W.Frag} {mg : Str → Option Value} {base : Heap}
def spTriples (K : PySem.W.Frag) : Sp := fun vs H Q _ => ∃ (ra tk : Addr) (R : List Row) (T : List Str) (xs : List V), vs = [.ref ra, .ref tk] ∧ SqX K H ra xs ∧ F2 (RowX K H) R xs ∧ H tk = some (.lst (T.map V.str)) ∧
  (T ++ R.map (·.1)).Nodup ∧ (∀ r ∈ R, 1 ≤ r.2.2) ∧ T.length + R.length ≤ 1000 ∧ ∀ H' p ys, Same H H' → H p = none → SqT K H' p ys → F2 (RowV K H') R ys → Q (.ref p) H'
theorem ok_triples {f fF : Addr} {fd fdF : FuncData} {k : Nat} (F : Fun K "_triples_of" "_triples_of" sTriples f fd) (GF : FnOk P w K mg base CX0 k fF fdF ["item"] (spTriple K)) (gF : mg "_is_triple" = some (.ref fF)) (kF : PySem.W.keepIn K (.ref fF) = true) (bF : Binds K fdF ["item"] [])
    (m_isinstance : mg "isinstance" = none) (m_list : mg "list" = none) (m_tuple : mg "tuple" = none) : FnOk P w K mg base CX0 (k + 1) f fd ["row", "taken"] (spTriples K) := by
  refine F.ok scTriples (fun vs H Q E h => ?_) (fun cdv A outer s H vs Q E hr h => ?_)
  · obtain ⟨ra, tk, R, T, xs, rfl, _⟩ := h
    rfl
  · obtain ⟨ra, tk, R, T, xs, rfl, hx, fx, htk, nd, wt, many, q⟩ := h
    refine ⟨_, (pss_cons (ps_if (pt_not (pt_val (pe_callB call_isiT (by rfl) m_isinstance (by decide +kernel) (pa_cons (pv 0) (pa_cons (pe_tup (pa_cons (pe_bltn (v := .ty "list") (by rfl) m_list (by decide +kernel) rfl) (pa_cons (pe_bltn (v := .ty "tuple") (by rfl) m_tuple (by decide +kernel) rfl) pa_nil))) pa_nil)))))
      (pss_one (ps_ret pe_non)) pss_nil)
    (pss_cons (ps_set (i := 2) scTriples.nd rfl (.inl rfl) (pe_callTy call_list_of (by rfl) m_list (by decide +kernel) (pa_cons (pv 1) pa_nil)))
    (pss_cons (ps_set (i := 3) scTriples.nd rfl (.inl rfl) (pe_lst pa_nil))
    (pss_cons (ps_for PassesOwn.never rfl (Et.pi_any (pv 0)) (pg_name (i := 4) scTriples.nd rfl (.inl rfl))
      (pss_cons (ps_if (PW.pt (pw_or (pt_not (pt_val (pe_call GF hr (by rfl) gF kF bF .nil pass0 (pa_cons (pv 4) pa_nil)))) (pw_or1 (pt_cmpR op_in_seq (pe_ix ix_seq (pv 4) pe_int (fun _ _ => rfl)) (pv 2) (by with_unfolding_all rfl)))))
        (pss_one (ps_ret pe_non)) pss_nil)
      (pss_cons (ps_expr (pe_bm PySem.F.plainAttrs_list PySem.F.slot_list_append PySem.F.type_list_append mt_append (pv 2) (pa_cons (pe_ix ix_seq (pv 4) pe_int (fun _ _ => rfl)) pa_nil)))
      (pss_one (ps_expr (pe_bm PySem.F.plainAttrs_list PySem.F.slot_list_append PySem.F.type_list_append mt_append (pv 3) (pa_cons (pe_callTy call_tuple_of (by rfl) m_tuple (by decide +kernel) (pa_cons (pv 4) pa_nil)) pa_nil)))))))
    (pss_one (ps_ret (pe_callTy call_tuple_of (by rfl) m_tuple (by decide +kernel) (pa_cons (pv 3) pa_nil)))))))), ?_⟩
    have lx := fx.len
    refine ⟨.ref ra, rfl, (by show 2 ≤ sizeLine; decide), fun tp np => ?_⟩
    have s1 : Same H (upd H tp (.tup [.ty "list", .ty "tuple"])) := same_new (fun b o e => e) np _
    have m1 : (upd H tp (.tup [.ty "list", .ty "tuple"])) tp = some (.tup [.ty "list", .ty "tuple"]) := upd_same
    generalize upd H tp (.tup [.ty "list", .ty "tuple"]) = H1 at s1 m1
    obtain ⟨t, ty, kit⟩ := sqx_ty (hx.same s1)
    refine ⟨.ref ra, tp, _, t, [.type "list", .type "tuple"], true, rfl, m1, .cons (.ty "list") (.cons (.ty "tuple") .nil), ty, kit, true, rfl, ?_⟩
    refine iteF ?_
    refine ⟨.ref tk, rfl, tk, _, rfl, .inl (.inl (.inl (s1 _ _ htk))), fun dN nN => ?_⟩
    have nNH : H dN = none := by
      cases z : H dN with
      | none => rfl
      | some o =>
        rw [s1 _ _ z] at nN
        cases nN
    have s2 : Same H (upd H1 dN (.lst (T.map V.str))) := same_on s1 nNH _
    have m2 : (upd H1 dN (.lst (T.map V.str))) dN = some (.lst (T.map V.str)) := upd_same
    generalize upd H1 dN (.lst (T.map V.str)) = H2 at s2 m2
    refine ⟨Nat.zero_le _, fun dT nT => ?_⟩
    have nTH : H dT = none := by
      cases z : H dT with
      | none => rfl
      | some o =>
        rw [s2 _ _ z] at nT
        cases nT
    have dne : dN ≠ dT := fun e => by
      rw [← e, m2] at nT
      cases nT
    have s3 : Same H (upd H2 dT (.lst [])) := same_on s2 nTH _
    have m3 : (upd H2 dT (.lst [])) dT = some (.lst []) := upd_same
    have m2' : (upd H2 dT (.lst [])) dN = some (.lst (T.map V.str)) := by rw [upd_ne dne]; exact m2
    generalize upd H2 dT (.lst []) = H3 at s3 m3 m2'
    refine ⟨.ref ra, rfl, ra, rfl, ?_⟩
    let Pv : Nat → L2.St → Hp → Prop := fun i σ G => ∃ (v4 : Option V) (ts : List V), σ = [some (.ref ra), some (.ref tk), some (.ref dN), some (.ref dT), v4] ∧ Same H G ∧ G dN = some (.lst ((T ++ (R.take i).map (·.1)).map V.str)) ∧ G dT = some (.lst ts) ∧ F2 (RowV K G) (R.take i) ts
    have p0 : Pv 0 [some (.ref ra), some (.ref tk), some (.ref dN), some (.ref dT), none] H3 := ⟨none, [], rfl, s3, by rw [List.take_zero, List.map_nil, List.append_nil]; exact m2', m3, by rw [List.take_zero]; exact rfl⟩
    rcases hx with hx | hx
    · refine .inl ⟨xs, s3.seq hx, for_list (K := K) (a := ra) (xs := xs) Pv p0 (fun i σ G _ ⟨_, _, _, sm, _⟩ => sm.seq hx) ?_ ?_⟩
      · rintro i x σ G hi ⟨v4, ts, rfl, sm, gN, gT, fts⟩
        obtain ⟨r, hr', rx⟩ := fx.get hi
        have rx1 := RowX.same sm _ _ rx
        obtain ⟨b, rfl, hb⟩ := rx1
        have ilt := (List.getElem?_eq_some_iff.mp hr').1
        have rin := List.mem_of_getElem? hr'
        have lt := fts.len
        rw [List.length_take] at lt
        refine ⟨.ref b, rfl, r, .ref b, rfl, ⟨b, rfl, hb⟩, wt r rin, fun G1 sm1 => ?_⟩
        replace gN := sm1 _ _ gN
        replace gT := sm1 _ _ gT
        replace hb := hb.same sm1
        replace fts := fts.mono (RowV.mono (TK.same sm1))
        have sm01 : Same H G1 := fun b o e => sm1 _ _ (sm _ _ e)
        clear sm sm1
        refine ⟨true, rfl, iteF ?_⟩
        have fresh : r.1 ∉ T ++ (R.take i).map (·.1) := by
          rw [← List.take_append_drop i R, List.map_append, ← List.append_assoc, List.nodup_append] at nd
          refine fun z => nd.2.2 _ z r.1 ?_ rfl
          refine List.mem_map.mpr ⟨r, ?_, rfl⟩
          refine List.mem_of_getElem? (i := 0) ?_
          rw [List.getElem?_drop]
          exact hr'
        refine ⟨.ref b, rfl, ix_x (i := 0) hb rfl ?_⟩
        refine ⟨.ref dN, rfl, dN, _, rfl, .inl (.inl (.inl gN)), rfl, flat_strs _, false, congrArg V.bl (inV_strs fresh), ?_⟩
        refine iteF ?_
        have nx : Same H (upd G1 dN (.lst ((T ++ (R.take i).map (·.1)).map V.str ++ [.str r.1]))) := same_on sm01 nNH _
        have kx : TK G1 (upd G1 dN (.lst ((T ++ (R.take i).map (·.1)).map V.str ++ [.str r.1]))) := TK.lst gN _
        refine ⟨.ref dN, rfl, .inl ⟨rfl, _, .inl (.inl gN)⟩, .ref b, rfl, ix_x (i := 0) hb rfl ?_⟩
        refine ⟨dN, _, .str r.1, rfl, rfl, gN, ?_, ?_⟩
        · rw [List.length_map, List.length_append, List.length_map, List.length_take, sizeLine_eq]
          omega
        have gN2 : (upd G1 dN (.lst ((T ++ (R.take i).map (·.1)).map V.str ++ [.str r.1]))) dN = some (.lst ((T ++ (R.take (i + 1)).map (·.1)).map V.str)) := by
          rw [upd_same, List.take_add_one, hr']
          simp
        have gT2 : (upd G1 dN (.lst ((T ++ (R.take i).map (·.1)).map V.str ++ [.str r.1]))) dT = some (.lst ts) := by rw [upd_ne dne.symm]; exact gT
        have hb2 : SqX K (upd G1 dN (.lst ((T ++ (R.take i).map (·.1)).map V.str ++ [.str r.1]))) b [.str r.1, .int (r.2.1 : Int), .int r.2.2] := by
          obtain ⟨b', eb, hb'⟩ := RowX.same nx _ _ rx
          cases eb
          exact hb'
        have fts2 := fts.mono (RowV.mono kx)
        generalize upd G1 dN (.lst ((T ++ (R.take i).map (·.1)).map V.str ++ [.str r.1])) = G2 at nx gN2 gT2 hb2 fts2
        have fin : ∀ (c : Addr) (G3 : Hp), Same G2 G3 → SqT K G3 c [.str r.1, .int (r.2.1 : Int), .int r.2.2] → ∃ l xs y, V.ref dT = .ref l ∧ [V.ref c] = [y] ∧ G3 l = some (.lst xs) ∧ xs.length < sizeLine ∧ Pv (i + 1) [some (.ref ra), some (.ref tk), some (.ref dN), some (.ref dT), some (.ref b)] (upd G3 l (.lst (xs ++ [y]))) := by
          intro c G3 sm3 hc
          refine ⟨dT, ts, .ref c, rfl, rfl, sm3 _ _ gT2, by rw [sizeLine_eq]; omega, some (.ref b), ts ++ [.ref c], rfl, same_on (H := H) (H' := G3) (fun b o e => sm3 _ _ (nx _ _ e)) nTH _, by rw [upd_ne dne]; exact sm3 _ _ gN2, upd_same, ?_⟩
          have k3 : TK G3 (upd G3 dT (.lst (ts ++ [.ref c]))) := TK.lst (sm3 _ _ gT2) _
          rw [List.take_add_one, hr']
          exact F2.app (fts2.mono (RowV.mono ((TK.same sm3).trans k3))) (F2.one ⟨c, rfl, k3.sq hc⟩)
        refine ⟨.ref dT, rfl, .inl ⟨rfl, _, .inl (.inl gT2)⟩, .ref b, rfl, b, [.str r.1, .int (r.2.1 : Int), .int r.2.2], rfl, ?_⟩
        rcases hb2 with hb2 | hb2
        · exact .inl ⟨hb2, fun c nc => fin c _ (same_new (fun b o e => e) nc _) (.inl (.inl upd_same))⟩
        · exact .inr ⟨hb2, fin b G2 (fun b o e => e) hb2⟩
      · rintro σ G ⟨v4, ts, rfl, sm, gN, gT, fts⟩
        rw [lx, List.take_length] at fts
        refine ⟨.ref dT, rfl, dT, ts, rfl, .inl ⟨.inl (.inl gT), fun p np => ?_⟩⟩
        have npH : H p = none := by
          cases z : H p with
          | none => rfl
          | some o =>
            rw [sm _ _ z] at np
            cases np
        have s4 : Same H (upd G p (.tup ts)) := same_new sm np _
        exact q _ p ts s4 npH (.inl (.inl upd_same)) (fts.mono (RowV.mono (TK.new np _)))
    · refine .inr ⟨xs, (TK.same s3).sq hx, for_tup (K := K) (a := ra) (xs := xs) Pv p0 (fun i σ G _ ⟨_, _, _, sm, _⟩ => (TK.same sm).sq hx) ?_ ?_⟩
      · rintro i x σ G hi ⟨v4, ts, rfl, sm, gN, gT, fts⟩
        obtain ⟨r, hr', rx⟩ := fx.get hi
        have rx1 := RowX.same sm _ _ rx
        obtain ⟨b, rfl, hb⟩ := rx1
        have ilt := (List.getElem?_eq_some_iff.mp hr').1
        have rin := List.mem_of_getElem? hr'
        have lt := fts.len
        rw [List.length_take] at lt
        refine ⟨.ref b, rfl, r, .ref b, rfl, ⟨b, rfl, hb⟩, wt r rin, fun G1 sm1 => ?_⟩
        replace gN := sm1 _ _ gN
        replace gT := sm1 _ _ gT
        replace hb := hb.same sm1
        replace fts := fts.mono (RowV.mono (TK.same sm1))
        have sm01 : Same H G1 := fun b o e => sm1 _ _ (sm _ _ e)
        clear sm sm1
        refine ⟨true, rfl, iteF ?_⟩
        have fresh : r.1 ∉ T ++ (R.take i).map (·.1) := by
          rw [← List.take_append_drop i R, List.map_append, ← List.append_assoc, List.nodup_append] at nd
          refine fun z => nd.2.2 _ z r.1 ?_ rfl
          refine List.mem_map.mpr ⟨r, ?_, rfl⟩
          refine List.mem_of_getElem? (i := 0) ?_
          rw [List.getElem?_drop]
          exact hr'
        refine ⟨.ref b, rfl, ix_x (i := 0) hb rfl ?_⟩
        refine ⟨.ref dN, rfl, dN, _, rfl, .inl (.inl (.inl gN)), rfl, flat_strs _, false, congrArg V.bl (inV_strs fresh), ?_⟩
        refine iteF ?_
        have nx : Same H (upd G1 dN (.lst ((T ++ (R.take i).map (·.1)).map V.str ++ [.str r.1]))) := same_on sm01 nNH _
        have kx : TK G1 (upd G1 dN (.lst ((T ++ (R.take i).map (·.1)).map V.str ++ [.str r.1]))) := TK.lst gN _
        refine ⟨.ref dN, rfl, .inl ⟨rfl, _, .inl (.inl gN)⟩, .ref b, rfl, ix_x (i := 0) hb rfl ?_⟩
        refine ⟨dN, _, .str r.1, rfl, rfl, gN, ?_, ?_⟩
        · rw [List.length_map, List.length_append, List.length_map, List.length_take, sizeLine_eq]
          omega
        have gN2 : (upd G1 dN (.lst ((T ++ (R.take i).map (·.1)).map V.str ++ [.str r.1]))) dN = some (.lst ((T ++ (R.take (i + 1)).map (·.1)).map V.str)) := by
          rw [upd_same, List.take_add_one, hr']
          simp
        have gT2 : (upd G1 dN (.lst ((T ++ (R.take i).map (·.1)).map V.str ++ [.str r.1]))) dT = some (.lst ts) := by rw [upd_ne dne.symm]; exact gT
        have hb2 : SqX K (upd G1 dN (.lst ((T ++ (R.take i).map (·.1)).map V.str ++ [.str r.1]))) b [.str r.1, .int (r.2.1 : Int), .int r.2.2] := by
          obtain ⟨b', eb, hb'⟩ := RowX.same nx _ _ rx
          cases eb
          exact hb'
        have fts2 := fts.mono (RowV.mono kx)
        generalize upd G1 dN (.lst ((T ++ (R.take i).map (·.1)).map V.str ++ [.str r.1])) = G2 at nx gN2 gT2 hb2 fts2
        have fin : ∀ (c : Addr) (G3 : Hp), Same G2 G3 → SqT K G3 c [.str r.1, .int (r.2.1 : Int), .int r.2.2] → ∃ l xs y, V.ref dT = .ref l ∧ [V.ref c] = [y] ∧ G3 l = some (.lst xs) ∧ xs.length < sizeLine ∧ Pv (i + 1) [some (.ref ra), some (.ref tk), some (.ref dN), some (.ref dT), some (.ref b)] (upd G3 l (.lst (xs ++ [y]))) := by
          intro c G3 sm3 hc
          refine ⟨dT, ts, .ref c, rfl, rfl, sm3 _ _ gT2, by rw [sizeLine_eq]; omega, some (.ref b), ts ++ [.ref c], rfl, same_on (H := H) (H' := G3) (fun b o e => sm3 _ _ (nx _ _ e)) nTH _, by rw [upd_ne dne]; exact sm3 _ _ gN2, upd_same, ?_⟩
          have k3 : TK G3 (upd G3 dT (.lst (ts ++ [.ref c]))) := TK.lst (sm3 _ _ gT2) _
          rw [List.take_add_one, hr']
          exact F2.app (fts2.mono (RowV.mono ((TK.same sm3).trans k3))) (F2.one ⟨c, rfl, k3.sq hc⟩)
        refine ⟨.ref dT, rfl, .inl ⟨rfl, _, .inl (.inl gT2)⟩, .ref b, rfl, b, [.str r.1, .int (r.2.1 : Int), .int r.2.2], rfl, ?_⟩
        rcases hb2 with hb2 | hb2
        · exact .inl ⟨hb2, fun c nc => fin c _ (same_new (fun b o e => e) nc _) (.inl (.inl upd_same))⟩
        · exact .inr ⟨hb2, fin b G2 (fun b o e => e) hb2⟩
      · rintro σ G ⟨v4, ts, rfl, sm, gN, gT, fts⟩
        rw [lx, List.take_length] at fts
        refine ⟨.ref dT, rfl, dT, ts, rfl, .inl ⟨.inl (.inl gT), fun p np => ?_⟩⟩
        have npH : H p = none := by
          cases z : H p with
          | none => rfl
          | some o =>
            rw [sm _ _ z] at np
            cases np
        have s4 : Same H (upd G p (.tup ts)) := same_new sm np _
        exact q _ p ts s4 npH (.inl (.inl upd_same)) (fts.mono (RowV.mono (TK.new np _)))
end
end Ad

namespace Ad
open PySem PySem.Spec PySem.Calls PyProof.Rows L2
abbrev sOInit : Stmt := inClass (topS 10) 0
theorem scOInit : FnScope ["self", "things", "truths", "things_read", "truths_read", "ranked", "name", "_", "weight", "place", "arity"] ["self", "things", "truths"] (defScope sOInit) := ⟨rfl, rfl, rfl, by decide +kernel, rfl, by decide +kernel, by decide +kernel⟩
section
variable {P : Program} {w : World} {K : PySem.W.Frag} {mg : Str → Option Value} {base : Heap}
def spOInit (K : PySem.W.Frag) (C : Addr) : Sp := fun vs H Q _ => ∃ (o ra sa dx : Addr) (R S : List Row) (xs ys : List V), vs = [.ref o, .ref ra, .ref sa] ∧ H o = some (.ins C dx []) ∧ SqX K H ra xs ∧ F2 (RowX K H) R xs ∧ SqX K H sa ys ∧ F2 (RowX K H) S ys ∧ OOk R S ∧
  ∀ H', Pn.But o H H' → OrdI K C H' o R S → Q .non H'
theorem ok_oinit {C f fT : Addr} {fd fdT : FuncData} {k : Nat} (F : Fun K "__init__" "Order.__init__" sOInit f fd) (GT : FnOk P w K mg base CX0 k fT fdT ["row", "taken"] (spTriples K)) (gT : mg "_triples_of" = some (.ref fT)) (kT : PySem.W.keepIn K (.ref fT) = true) (bT : Binds K fdT ["row", "taken"] [])
    (m_enumerate : mg "enumerate" = none) (cls : Cls K C) (na1 : NoAttr K C "things") (na2 : NoAttr K C "truths") (na3 : NoAttr K C "_weights") (na4 : NoAttr K C "_places") : FnOk P w K mg base CX0 (k + 1) f fd ["self", "things", "truths"] (spOInit K C) := by
  refine F.ok scOInit (fun vs H Q E h => ?_) (fun cdv A outer s H vs Q E hr h => ?_)
  · obtain ⟨o, ra, sa, dx, R, S, xs, ys, rfl, _⟩ := h
    rfl
  · obtain ⟨o, ra, sa, dx, R, S, xs, ys, rfl, ho, hx, fx, hy, fy, ok, q⟩ := h
    refine' ⟨_, pss_cons ?s1 (pss_cons ?s2 (pss_cons ?s3 (pss_cons ?s4 (pss_cons ?s5 (pss_cons ?s6 (pss_cons ?s7 (pss_cons ?s8 (pss_one ?s9)))))))), ?_⟩
    case s1 => exact (ps_set (i := 3) scOInit.nd rfl (.inl rfl) (pe_call GT hr (by rfl) gT kT bT .nil pass0 (pa_cons (pv 1) (pa_cons (pe_lst (pa_cons pe_str pa_nil)) pa_nil))))
    case s2 => exact (ps_if (PW.pt (pw_or (pt_cmpR op_isN (pv 3) pe_non (nomark _)) (pw_or1 (pt_cmpR op_notIn_seq pe_int (pe_lc (own := [("_", 7), ("arity", 10)]) (g := gTup K 3 (gCons (gName 7) (gCons (gName 10) (gCons (gName 7) gNil)))) (tt := tYes) (te := tVar 10) rfl scOInit.nd (pi_tup (pv 3)) (blkOk_by (N := ["self", "things", "truths", "things_read", "truths_read", "ranked", "name", "_", "weight", "place", "arity"]) (sc := defScope sOInit) (by decide +kernel)) (fun _ _ _ _ _ => (pg_tup rfl (pgs_cons (pg_name (i := 7) scOInit.nd rfl (.inl rfl)) (pgs_cons (pg_name (i := 10) scOInit.nd rfl (.inl rfl)) (pgs_cons (pg_name (i := 7) scOInit.nd rfl (.inl rfl)) pgs_nil))))) (fun _ _ _ _ _ => pts_nil) (fun _ _ _ _ _ => (pv 10))) (by with_unfolding_all rfl)))))
      (pss_one ps_never) pss_nil)
    case s3 => exact (ps_set (i := 4) scOInit.nd rfl (.inl rfl) (pe_call GT hr (by rfl) gT kT bT .nil pass0 (pa_cons (pv 2) (pa_cons (pe_op op_cat (pe_lst (pa_cons pe_str pa_nil)) (pe_lc (own := [("name", 6), ("_", 7)]) (g := gTup K 3 (gCons (gName 6) (gCons (gName 7) (gCons (gName 7) gNil)))) (tt := tYes) (te := tVar 6) rfl scOInit.nd (pi_tup (pv 3)) (blkOk_by (N := ["self", "things", "truths", "things_read", "truths_read", "ranked", "name", "_", "weight", "place", "arity"]) (sc := defScope sOInit) (by decide +kernel)) (fun _ _ _ _ _ => (pg_tup rfl (pgs_cons (pg_name (i := 6) scOInit.nd rfl (.inl rfl)) (pgs_cons (pg_name (i := 7) scOInit.nd rfl (.inl rfl)) (pgs_cons (pg_name (i := 7) scOInit.nd rfl (.inl rfl)) pgs_nil))))) (fun _ _ _ _ _ => pts_nil) (fun _ _ _ _ _ => (pv 6)))) pa_nil))))
    case s4 => exact (ps_if (pt_cmpR op_isN (pv 4) pe_non (nomark _))
      (pss_one ps_never) pss_nil)
    case s5 => exact (ps_fld (pv 0) (pv 3) rfl)
    case s6 => exact (ps_fld (pv 0) (pv 4) rfl)
    case s7 => exact (ps_set (i := 5) scOInit.nd rfl (.inl rfl) (pe_op (r := rCatT K) op_catT (pe_op (r := rCatT K) op_catT (pe_tup (pa_cons (pe_tup (pa_cons pe_str (pa_cons pe_int (pa_cons pe_int pa_nil)))) pa_nil)) (pv 3)) (pv 4)))
    case s8 => exact (ps_fld (pv 0) (pe_dc (own := [("name", 6), ("_", 7), ("weight", 8)]) (g := gTup K 3 (gCons (gName 6) (gCons (gName 7) (gCons (gName 8) gNil)))) (tt := tYes) (tk := tVar 6) (tv := tVar 8) rfl scOInit.nd (pi_tup (pv 5)) (blkOk_by (N := ["self", "things", "truths", "things_read", "truths_read", "ranked", "name", "_", "weight", "place", "arity"]) (sc := defScope sOInit) (by decide +kernel)) (fun _ _ _ _ _ => (pg_tup rfl (pgs_cons (pg_name (i := 6) scOInit.nd rfl (.inl rfl)) (pgs_cons (pg_name (i := 7) scOInit.nd rfl (.inl rfl)) (pgs_cons (pg_name (i := 8) scOInit.nd rfl (.inl rfl)) pgs_nil))))) (fun _ _ _ _ _ => pts_nil) (fun _ _ _ _ _ => (pv 6)) (fun _ _ _ _ _ => (pv 8))) rfl)
    case s9 => exact (ps_fld (pv 0) (pe_dc (own := [("place", 9), ("name", 6), ("_", 7)]) (g := gTup K 2 (gCons (gName 9) (gCons (gTup K 3 (gCons (gName 6) (gCons (gName 7) (gCons (gName 7) gNil)))) gNil))) (tt := tYes) (tk := tVar 6) (tv := tVar 9) rfl scOInit.nd (Et.pi_enumT (by rfl) m_enumerate (pa_cons (pv 5) pa_nil)) (blkOk_by (N := ["self", "things", "truths", "things_read", "truths_read", "ranked", "name", "_", "weight", "place", "arity"]) (sc := defScope sOInit) (by decide +kernel)) (fun _ _ _ _ _ => (pg_tup rfl (pgs_cons (pg_name (i := 9) scOInit.nd rfl (.inl rfl)) (pgs_cons (pg_tup rfl (pgs_cons (pg_name (i := 6) scOInit.nd rfl (.inl rfl)) (pgs_cons (pg_name (i := 7) scOInit.nd rfl (.inl rfl)) (pgs_cons (pg_name (i := 7) scOInit.nd rfl (.inl rfl)) pgs_nil)))) pgs_nil)))) (fun _ _ _ _ _ => pts_nil) (fun _ _ _ _ _ => (pv 6)) (fun _ _ _ _ _ => (pv 9))) rfl)
    have lx := fx.len
    have ly := fy.len
    have few := ok.few
    have ndr : (("yes" : Str) :: (R ++ S).map (·.1)).Nodup := ok.nd
    have ndR : ((["yes"] : List Str) ++ R.map (·.1)).Nodup := by
      rw [List.map_append] at ndr
      exact ndr.sublist (List.Sublist.cons₂ _ (List.sublist_append_left _ _))
    have ndS : ((("yes" : Str) :: R.map (·.1)) ++ S.map (·.1)).Nodup := by
      rw [List.map_append] at ndr
      exact ndr
    refine ⟨.ref ra, rfl, (by show 1 ≤ sizeLine; decide), fun l1 n1 => ?_⟩
    have s1 : Same H (upd H l1 (.lst [.str "yes"])) := same_new (fun b o e => e) n1 _
    have m1 : (upd H l1 (.lst [.str "yes"])) l1 = some (.lst [.str "yes"]) := upd_same
    generalize upd H l1 (.lst [.str "yes"]) = H1 at s1 m1
    refine ⟨ra, l1, R, [("yes" : Str)], xs, rfl, hx.same s1, fx.mono (RowX.same s1), m1, ndR, fun r hr => ok.wt r (List.mem_append_left _ hr), by show 1 + R.length ≤ 1000; omega, fun H2 p1 vs1 s2 np1 sq1 f1 => ?_⟩
    have s02 : Same H H2 := fun b o e => s2 _ _ (s1 _ _ e)
    have l1s := f1.len
    clear s1 s2 m1 np1
    refine ⟨.ref p1, rfl, rfl, false, congrArg V.bl (decide_eq_false (fun z => nomatch z)), iteF ?_⟩
    refine ⟨.ref p1, rfl, p1, rfl, ⟨_, sq1⟩, fun D nD => lc_tup (K := K) (a := p1) (xs := vs1) (fun i G => ∃ acc, Same H2 G ∧ G D = some (.lst acc) ∧ acc = (R.take i).map (fun r => V.int (r.2.1 : Int))) ⟨[], same_new (fun b o e => e) nD _, upd_same, rfl⟩ (fun i G _ ⟨_, sm, _⟩ => (TK.same sm).sq sq1) ?_ ?_⟩
    · rintro i x G hi ⟨acc, sm, gD, rfl⟩
      obtain ⟨r, hr', ⟨b, rfl, hb⟩⟩ := f1.get hi
      have ilt := (List.getElem?_eq_some_iff.mp hr').1
      refine ⟨b, _, rfl, (TK.same sm).sq hb, rfl, _, _, rfl, _, _, rfl, _, _, rfl, rfl, rfl, _, rfl, _, gD, ?_, _, same_on sm nD _, upd_same, ?_⟩
      · rw [List.length_map, List.length_take, sizeLine_eq]
        omega
      · rw [take_next hr', List.map_append]
        rfl
    rintro G ⟨acc, sm, gD, rfl⟩
    have fl : ((R.take vs1.length).map fun r => V.int (r.2.1 : Int)).all flatV = true := by
      rw [List.all_eq_true]
      intro y hy
      obtain ⟨r, _, rfl⟩ := List.mem_map.mp hy
      rfl
    have here : inV (.int 0) ((R.take vs1.length).map fun r => V.int (r.2.1 : Int)) = true := by
      obtain ⟨r, hr', r0⟩ := ok.const
      rw [l1s, List.take_length]
      exact inV_here (List.mem_map.mpr ⟨r, hr', by rw [r0]; rfl⟩) rfl
    refine ⟨D, _, rfl, .inl (.inl (.inl gD)), rfl, fl, false, congrArg (fun z => V.bl (!z)) here, iteF ?_⟩
    have s03 : Same H G := fun b o e => sm _ _ (s02 _ _ e)
    have sq1' := (TK.same sm).sq sq1
    have f1' := f1.mono (RowV.mono (TK.same sm))
    clear sq1 f1 fl here gD sm s02 nD
    clear lx
    refine ⟨.ref sa, rfl, (by show 1 ≤ sizeLine; decide), fun l2 n2 => ?_⟩
    have s4 : Same G (upd G l2 (.lst [.str "yes"])) := same_new (fun b o e => e) n2 _
    have m2 : (upd G l2 (.lst [.str "yes"])) l2 = some (.lst [.str "yes"]) := upd_same
    generalize upd G l2 (.lst [.str "yes"]) = G1 at s4 m2
    have sq1 := (TK.same s4).sq sq1'
    have f1 := f1'.mono (RowV.mono (TK.same s4))
    refine ⟨.ref p1, rfl, p1, rfl, ⟨_, sq1⟩, fun D2 nD2 => lc_tup (K := K) (a := p1) (xs := vs1) (fun i G => ∃ acc, Same G1 G ∧ G D2 = some (.lst acc) ∧ acc = ((R.take i).map (·.1)).map V.str) ⟨[], same_new (fun b o e => e) nD2 _, upd_same, rfl⟩ (fun i G _ ⟨_, sm, _⟩ => (TK.same sm).sq sq1) ?_ ?_⟩
    · rintro i x G hi ⟨acc, sm, gD, rfl⟩
      obtain ⟨r, hr', ⟨b, rfl, hb⟩⟩ := f1.get hi
      have ilt := (List.getElem?_eq_some_iff.mp hr').1
      refine ⟨b, _, rfl, (TK.same sm).sq hb, rfl, _, _, rfl, _, _, rfl, _, _, rfl, rfl, rfl, _, rfl, _, gD, ?_, _, same_on sm nD2 _, upd_same, ?_⟩
      · rw [List.length_map, List.length_map, List.length_take, sizeLine_eq]
        omega
      · rw [take_next hr', List.map_append, List.map_append]
        rfl
    rintro G2 ⟨acc, sm, gD, rfl⟩
    rw [l1s, List.take_length] at gD
    refine ⟨l2, D2, _, _, rfl, rfl, sm _ _ m2, gD, ?_, fun l3 n3 => ?_⟩
    · rw [List.length_map, List.length_map, List.length_singleton, sizeLine_eq]
      omega
    have sH2 : Same H G2 := fun b o e => sm _ _ (s4 _ _ (s03 _ _ e))
    have s5 : Same G2 (upd G2 l3 (.lst ([.str "yes"] ++ (R.map (·.1)).map V.str))) := same_new (fun b o e => e) n3 _
    have m3 : (upd G2 l3 (.lst ([.str "yes"] ++ (R.map (·.1)).map V.str))) l3 = some (.lst ((("yes" : Str) :: R.map (·.1)).map V.str)) := upd_same
    generalize upd G2 l3 (.lst ([.str "yes"] ++ (R.map (·.1)).map V.str)) = G3 at s5 m3
    have sH3 : Same H G3 := fun b o e => s5 _ _ (sH2 _ _ e)
    have s13 : Same G1 G3 := fun b o e => s5 _ _ (sm _ _ e)
    refine ⟨sa, l3, S, ("yes" : Str) :: R.map (·.1), ys, rfl, hy.same sH3, fy.mono (RowX.same sH3), m3, ndS, fun r hr => ok.wt r (List.mem_append_right _ hr), by rw [List.length_cons, List.length_map]; omega, fun G4 p2 vs2 s6 np2 sq2 f2 => ?_⟩
    have sH4 : Same H G4 := fun b o e => s6 _ _ (sH3 _ _ e)
    have s14 : Same G1 G4 := fun b o e => s6 _ _ (s13 _ _ e)
    have l2s := f2.len
    replace sq1 := (TK.same s14).sq sq1
    replace f1 := f1.mono (RowV.mono (TK.same s14))
    replace ho := sH4 _ _ ho
    clear sq1' f1' s03 s4 m2 n2 nD2 sm gD n3 s5 m3 s13 sH2 sH3 s6 np2 s14 hx fx hy fy ndR ndS ly n1
    refine ⟨.ref p2, rfl, rfl, false, congrArg V.bl (decide_eq_false (fun z => nomatch z)), iteF ?_⟩
    have b4 : Pn.But o H G4 := Pn.But.of sH4
    clear sH4
    refine ⟨.ref p1, rfl, .ref o, rfl, o, C, dx, _, rfl, ho, cls, na1, (by show 0 < 1000; omega), ?_⟩
    have k5 := TK.ins ho (.ins C dx (putF "things" (.ref p1) []))
    have ho5 : (upd G4 o (.ins C dx (putF "things" (.ref p1) []))) o = some (.ins C dx (putF "things" (.ref p1) [])) := upd_same
    have b5 := b4.trans (Pn.But.upd G4 (.ins C dx (putF "things" (.ref p1) [])))
    generalize upd G4 o (.ins C dx (putF "things" (.ref p1) [])) = G5 at k5 ho5 b5
    refine ⟨.ref p2, rfl, .ref o, rfl, o, C, dx, _, rfl, ho5, cls, na2, (by show 1 < 1000; omega), ?_⟩
    have k6 := k5.trans (TK.ins ho5 (.ins C dx (putF "truths" (.ref p2) (putF "things" (.ref p1) []))))
    have ho6 : (upd G5 o (.ins C dx (putF "truths" (.ref p2) (putF "things" (.ref p1) [])))) o = some (.ins C dx (putF "truths" (.ref p2) (putF "things" (.ref p1) []))) := upd_same
    have b6 := b5.trans (Pn.But.upd G5 (.ins C dx (putF "truths" (.ref p2) (putF "things" (.ref p1) []))))
    generalize upd G5 o (.ins C dx (putF "truths" (.ref p2) (putF "things" (.ref p1) []))) = G6 at k6 ho6 b6
    replace sq1 := k6.sq sq1
    replace sq2 := k6.sq sq2
    replace f1 := f1.mono (RowV.mono k6)
    replace f2 := f2.mono (RowV.mono k6)
    clear k5 ho5 b5 ho b4 k6
    refine ⟨(by show 3 ≤ sizeLine; decide), fun y ny => ⟨(by show 1 ≤ sizeLine; decide), fun z nz => ⟨.ref p1, rfl, ?_⟩⟩⟩
    have s7 : Same G6 (upd G6 y (.tup [.str "yes", .int 0, .int 1])) := same_new (fun b o e => e) ny _
    have e7 : (upd G6 y (.tup [.str "yes", .int 0, .int 1])) y = some (.tup [.str "yes", .int 0, .int 1]) := upd_same
    generalize upd G6 y (.tup [.str "yes", .int 0, .int 1]) = G7 at s7 e7 nz
    have s8 : Same G7 (upd G7 z (.tup [.ref y])) := same_new (fun b o e => e) nz _
    have e8 : (upd G7 z (.tup [.ref y])) z = some (.tup [.ref y]) := upd_same
    replace e7 := s8 _ _ e7
    generalize upd G7 z (.tup [.ref y]) = G8 at s8 e8 e7
    have s68 : Same G6 G8 := fun b o e => s8 _ _ (s7 _ _ e)
    clear s7 s8 ny nz
    refine catT (xs := [.ref y]) (ys := vs1) (.inl (.inl e8)) ((TK.same s68).sq sq1) (by simp) (by rw [List.length_singleton, sizeLine_eq]; omega) fun c1 G9 s9 hc1 => ?_
    have s69 : Same G6 G9 := fun b o e => s9 _ _ (s68 _ _ e)
    replace e7 := s9 _ _ e7
    clear s68 s9 e8
    refine ⟨.ref p2, rfl, catT hc1 ((TK.same s69).sq sq2) (by simp) (by rw [List.length_append, List.length_singleton, sizeLine_eq]; omega) fun c2 GA sA hc2 => ?_⟩
    have s6A : Same G6 GA := fun b o e => sA _ _ (s69 _ _ e)
    replace e7 := sA _ _ e7
    replace sq1 := (TK.same s6A).sq sq1
    replace sq2 := (TK.same s6A).sq sq2
    replace f1 := f1.mono (RowV.mono (TK.same s6A))
    replace f2 := f2.mono (RowV.mono (TK.same s6A))
    have hoA := s6A _ _ ho6
    have bA := b6.trans (Pn.But.of s6A)
    clear s69 sA s6A hc1 ho6 b6
    have fr : F2 (RowV K GA) (ranked R S) (([.ref y] ++ vs1) ++ vs2) := by
      rw [List.append_assoc]
      exact F2.app (xs := [(("yes" : Str), 0, 1)]) (F2.one ⟨y, rfl, .inl (.inl e7)⟩) (F2.app f1 f2)
    have nd : ((ranked R S).map (·.1)).Nodup := ok.nd
    have lr : (ranked R S).length ≤ 200 := by
      show (R ++ S).length + 1 ≤ 200
      rw [List.length_append]
      omega
    generalize erk : ranked R S = rk at fr nd lr
    clear e7
    generalize ([V.ref y] ++ vs1) ++ vs2 = vr at fr hc2
    have lf := fr.len
    refine ⟨.ref c2, rfl, c2, rfl, ⟨_, hc2⟩, fun D nD => dc_tup (K := K) (a := c2) (xs := vr) (fun i G => Same GA G ∧ G D = some (.dK (wK (rk.take i)))) ⟨same_new (fun b o e => e) nD _, upd_same⟩ (fun i G _ ⟨sm, _⟩ => (TK.same sm).sq hc2) ?_ ?_⟩
    · rintro i x G hi ⟨sm, gD⟩
      obtain ⟨r, hr', ⟨b, rfl, hb⟩⟩ := fr.get hi
      have ilt := (List.getElem?_eq_some_iff.mp hr').1
      refine ⟨b, _, rfl, (TK.same sm).sq hb, rfl, _, _, rfl, _, _, rfl, _, _, rfl, rfl, rfl, _, rfl, _, rfl, _, .inr r.1, rfl, gD, ?_, same_on sm nD _, ?_⟩
      · rw [wK_len, List.length_take, sizeLine_eq]
        omega
      · rw [upd_same, wK_put (take_fresh nd hr'), take_next hr']
    rintro GB ⟨sB, gW⟩
    rw [lf, List.take_length] at gW
    replace hoA := sB _ _ hoA
    refine ⟨.ref o, rfl, o, C, dx, _, rfl, hoA, cls, na3, (by show 2 < 1000; omega), ?_⟩
    have kB := (TK.same sB).trans (TK.ins hoA (.ins C dx (putF "_weights" (.ref D) (putF "truths" (.ref p2) (putF "things" (.ref p1) [])))))
    have hoB : (upd GB o (.ins C dx (putF "_weights" (.ref D) (putF "truths" (.ref p2) (putF "things" (.ref p1) []))))) o = some (.ins C dx (putF "_weights" (.ref D) (putF "truths" (.ref p2) (putF "things" (.ref p1) [])))) := upd_same
    have bB := (bA.trans (Pn.But.of sB)).trans (Pn.But.upd GB (.ins C dx (putF "_weights" (.ref D) (putF "truths" (.ref p2) (putF "things" (.ref p1) [])))))
    have oD : D ≠ o := fun e => by
      rw [e, hoA] at gW
      cases gW
    have gW2 : (upd GB o (.ins C dx (putF "_weights" (.ref D) (putF "truths" (.ref p2) (putF "things" (.ref p1) []))))) D = some (.dK (wK rk)) := by rw [upd_ne oD]; exact gW
    generalize upd GB o (.ins C dx (putF "_weights" (.ref D) (putF "truths" (.ref p2) (putF "things" (.ref p1) [])))) = GC at kB hoB bB gW2
    replace sq1 := kB.sq sq1
    replace sq2 := kB.sq sq2
    replace f1 := f1.mono (RowV.mono kB)
    replace f2 := f2.mono (RowV.mono kB)
    replace fr := fr.mono (RowV.mono kB)
    replace hc2 := kB.sq hc2
    clear kB gW hoA sB nD bA
    refine ⟨.ref c2, rfl, c2, _, rfl, hc2, fun D2 nD2 => dc_enumT (K := K) (a := c2) (xs := vr) (fun i G => Same GC G ∧ G D2 = some (.dK (pK 0 (rk.take i)))) ⟨same_new (fun b o e => e) nD2 _, upd_same⟩ (fun i G _ ⟨sm, _⟩ => (TK.same sm).sq hc2) ?_ ?_⟩
    · rintro i x T G hi ⟨sm, gD⟩ nT
      obtain ⟨r, hr', ⟨b, rfl, hb⟩⟩ := fr.get hi
      have ilt := (List.getElem?_eq_some_iff.mp hr').1
      have smT : Same GC (upd G T (.tup [.int (i : Nat), .ref b])) := same_new sm nT _
      have DT : D2 ≠ T := fun e => by
        rw [← e, gD] at nT
        cases nT
      refine ⟨T, _, rfl, .inl (.inl upd_same), rfl, _, _, rfl, _, _, rfl, ⟨b, _, rfl, (TK.same smT).sq hb, rfl, _, _, rfl, _, _, rfl, _, _, rfl, rfl, rfl, rfl, _, rfl, _, rfl, _, .inr r.1, rfl, by rw [upd_ne DT]; exact gD, ?_, same_on smT nD2 _, ?_⟩⟩
      · rw [pK_len, List.length_take, sizeLine_eq]
        omega
      · have e : (i : Int) = ((rk.take i).length : Int) := by rw [List.length_take]; omega
        rw [upd_same, e, pK_put (take_fresh nd hr'), take_next hr']
    rintro GD ⟨sD, gP⟩
    rw [lf, List.take_length] at gP
    replace hoB := sD _ _ hoB
    refine ⟨.ref o, rfl, o, C, dx, _, rfl, hoB, cls, na4, (by show 3 < 1000; omega), ?_⟩
    have kD := (TK.same sD).trans (TK.ins hoB (.ins C dx (ordF p1 p2 D D2)))
    have oD2 : D2 ≠ o := fun e => by
      rw [e, hoB] at gP
      cases gP
    refine q _ ((bB.trans (Pn.But.of sD)).trans (Pn.But.upd GD _)) ⟨⟨dx, p1, p2, D, D2, vs1, vs2, upd_same, kD.sq sq1, f1.mono (RowV.mono kD), kD.sq sq2, f2.mono (RowV.mono kD), ?_, ?_⟩⟩
    · rw [upd_ne oD, erk]
      exact sD _ _ gW2
    · rw [upd_ne oD2, erk]
      exact gP
end
end Ad

/-! Slices and sums of tuples, whole or not, told at once. -/
namespace Ad
open PySem PySem.Spec PySem.Calls PyProof.Rows L2
section
variable {K : PySem.W.Frag} {H : Hp}
theorem sqT_new {H : Hp} {p : Addr} {xs : List V} : SqT K (upd H p (.tup xs)) p xs := .inl (.inl upd_same)
theorem rSlA_of {a : Addr} {xs : List V} {lo hi : Option Int} {Q : VK} (sq : SqT K H a xs) (h : ∀ p H', Same H H' → SqT K H' p (cutV xs lo hi) → Q (.ref p) H') : rSlA K (.ref a) lo hi H Q := by
  refine ⟨a, xs, rfl, sq, fun e => h a H (fun b o e => e) ?_, fun _ p n => h p _ (same_new (fun b o e => e) n _) sqT_new⟩
  have z : cutV xs lo hi = xs := by
    unfold cutV
    rw [e.1, e.2, List.drop_zero, Nat.sub_zero, List.take_length]
  rw [z]
  exact sq
theorem rCatA_of {a b : Addr} {xs ys : List V} {Q : VK} (ha : SqT K H a xs) (hb : SqT K H b ys) (few : xs.length + ys.length ≤ sizeLine) (h : ∀ p H', Same H H' → SqT K H' p (xs ++ ys) → Q (.ref p) H') : rCatA K (.ref a) (.ref b) H Q := by
  refine ⟨a, b, xs, ys, rfl, rfl, ha, hb, few, fun e => h b H (fun b o e => e) ?_, fun _ e => h a H (fun b o e => e) ?_, fun _ _ p n => h p _ (same_new (fun b o e => e) n _) sqT_new⟩
  · subst e
    exact hb
  · subst e
    rw [List.append_nil]
    exact ha
theorem cut_one {x : V} {xs : List V} : cutV (x :: xs) none (some 1) = [x] := by
  have e3 : HT.sIx (x :: xs).length (x :: xs).length (some 1) = 1 := by
    have e2 : HT.sIx (x :: xs).length (x :: xs).length (some ((1 : Nat) : Int)) = 1 := by
      rw [HT.sIx_nat, List.length_cons]
      omega
    exact e2
  unfold cutV
  rw [e3, HT.sIx_none]
  rfl
end
end Ad

namespace Ad
open PySem PySem.Spec PySem.Calls PyProof.Rows L2
abbrev sErName : Stmt := inClass (topS 3) 0
theorem scErName : FnScope ["self", "name"] ["self", "name"] (defScope sErName) := ⟨rfl, rfl, rfl, by decide +kernel, rfl, by decide +kernel, by decide +kernel⟩
section
variable {P : Program} {w : World} {K : PySem.W.Frag} {mg : Str → Option Value} {base : Heap}
theorem ok_ername {f C : Addr} {fd : FuncData} (F : Fun K "__init__" "BadName.__init__" sErName f fd) (T : Er K C f "name") : FnOk P w K mg base CX0 1 f fd ["self", "name"] (spEr C "name") := by
  refine F.ok scErName (fun vs H Q E h => ?_) (fun cdv A outer s H vs Q E hr h => ?_)
  · obtain ⟨a, v, rfl, _⟩ := h
    rfl
  · obtain ⟨a, v, rfl, ea, q⟩ := h
    refine ⟨_, pss_one (ps_ost (pv 0) (pv 1)), ?_⟩
    refine ⟨v, rfl, .ref a, rfl, a, C, rfl, T.ox, T.no, .inl ⟨ea, fun d nd ne => ?_⟩⟩
    exact q d _ nd ne (fun b h1 h2 => by rw [upd_ne h2, upd_ne h1]) upd_same (by rw [upd_ne ne, upd_same])
end
end Ad

/-! order_of. -/
namespace Ad
open PySem PySem.Spec PySem.Calls PyProof.Rows L2 GxR
abbrev sOrderOf : Stmt := topS 18
theorem scOrderOf : FnScope ["sentences", "ranks", "things", "truths", "name", "names", "ranked", "triples", "_", "arity"] ["sentences", "ranks"] (defScope sOrderOf) := ⟨rfl, rfl, rfl, by decide +kernel, rfl, by decide +kernel, by decide +kernel⟩
section
variable {P : Program} {w : World} {K : PySem.W.Frag} {mg : Str → Option Value} {base : Heap}
def spOrderOf (K : PySem.W.Frag) (C CU CN Pt : Addr) : Sp := fun vs H Q E => ∃ (a rk : Addr) (xs rs : List V) (ss : List Sn) (ds : List PyData) (Hb : Hp), vs = [.ref a, .ref rk] ∧ SqX K H a xs ∧ Same Hb H ∧ DpAll K Hb xs (ss.map Sn.d) ∧ (∀ s ∈ ss, s.ok = true ∧ s.wf = true ∧ s.size ≤ 1000) ∧ (Sn.occsL ss).length ≤ 100000 ∧ TabG H Pt ∧
  SqX K H rk rs ∧ DpAll K H rs ds ∧ ds.length ≤ 40 ∧
  (∀ x, Kn.scan [] (Sn.occsL ss) = .inl x → ∀ d H', Same H H' → H d = none → H' d = some (.xd [(("what" : Str), .str x)]) → E (.ref CU) (some d) H') ∧
  ∀ l, Kn.scan [] (Sn.occsL ss) = .inr l → ∃ m, OdC l m ∧
    (∀ d, Rk.scan (Od.names l) [] ds = .inl d → ∀ dd v H', Pn.But Pt H H' → TabG H' Pt → Dp K H' v d → H' dd = some (.xd [(("name" : Str), v)]) → E (.ref CN) (some dd) H') ∧
    ∀ T, Rk.scan (Od.names l) [] ds = .inr T → ∀ H' o, Pn.But Pt H H' → TabG H' Pt → OrdI K C H' o (Od.R l m T) (Od.S l T) → Q (.ref o) H'
theorem tab_lists {K : PySem.W.Frag} {H H' : Hp} {Pt : Addr} (t : TabG H Pt) (b : Pn.But Pt H H') {a : Addr} {xs : List V} (h : SqL K H a xs) : SqL K H' a xs := by
  obtain ⟨ps, et, _⟩ := t
  rcases h with (h | ⟨o, h⟩) | h
  · exact .inl (.inl (b _ _ (fun z => by rw [z, et] at h; cases h) h))
  · exact .inl (.inr ⟨o, b _ _ (fun z => by rw [z, et] at h; cases h) h⟩)
  · exact .inr h
theorem tab_sqx {K : PySem.W.Frag} {H H' : Hp} {Pt : Addr} (t : TabG H Pt) (b : Pn.But Pt H H') {a : Addr} {xs : List V} (h : SqX K H a xs) : SqX K H' a xs := h.elim (fun q => .inl (tab_lists t b q)) fun q => .inr ((tab_tk t b).sq q)
theorem tab_dp {K : PySem.W.Frag} {H H' : Hp} {Pt : Addr} (t : TabG H Pt) (b : Pn.But Pt H H') {d : PyData} {v : V} (h : Dp K H v d) : Dp K H' v d := dp_mono (fun {_ _} => ⟨tab_lists t b, (tab_tk t b).sq⟩) h
theorem tab_dpAll {K : PySem.W.Frag} {H H' : Hp} {Pt : Addr} (t : TabG H Pt) (b : Pn.But Pt H H') {d : List PyData} {v : List V} (h : DpAll K H v d) : DpAll K H' v d := dpAll_mono (fun {_ _} => ⟨tab_lists t b, (tab_tk t b).sq⟩) h
theorem part_nodup' {l : List Oc} (nd : (l.map (·.1)).Nodup) (b : Bool) : (Rn.names (Kn.part b l)).Nodup := Od.part_nodup nd b
theorem but_same {Pt : Addr} {H H1 H2 : Hp} (b : Pn.But Pt H H1) (s : Same H1 H2) : Pn.But Pt H H2 := fun o u n e => s _ _ (b o u n e)
theorem ok_orderof {C CU CN f fK fR fW fO fE Pt : Addr} {fd fdK fdR fdW fdO fdE : FuncData} {k : Nat} {dvs : List V} (F : FunD K "order_of" "order_of" (defArgs sOrderOf) (defBody sOrderOf) (defScope sOrderOf) dvs [] f fd)
    (GK : FnOk P w K mg base (L2.CX P w) (k + 2) fK fdK ["sentences"] (spKinds K CU Pt)) (gK : mg "kinds" = some (.ref fK)) (kK : PySem.W.keepIn K (.ref fK) = true) (bK : Binds K fdK ["sentences"] [])
    (hR : Has P w K mg base (k + 2) "_ranked_triples" ["pairs", "ranked"] (spRanked K) fR fdR) (hW : Has P w K mg base (k + 2) "_new_name" ["name", "names"] (spNewName K) fW fdW)
    (M : Mk K C fO) (GO : FnOk P w K mg base CX0 (k + 1) fO fdO ["self", "things", "truths"] (spOInit K C)) (gO : mg "Order" = some (.ref C)) (bO : Binds K fdO ["self", "things", "truths"] [])
    (T : Er K CN fE "name") (GE : FnOk P w K mg base CX0 (k + 1) fE fdE ["self", "name"] (spEr CN "name")) (gE : mg "BadName" = some (.ref CN)) (bE : Binds K fdE ["self", "name"] [])
    (m_isinstance : mg "isinstance" = none) (m_str : mg "str" = none) : FnOk P w K mg base (L2.CX P w) (k + 3) f fd ["sentences", "ranks"] (spOrderOf K C CU CN Pt) := by
  refine FunD.ok F scOrderOf (fun vs H Q E h => ?_) (fun cdv A outer s H vs Q E hr h => ?_)
  · obtain ⟨a, rk, xs, rs, ss, ds, Hb, rfl, _⟩ := h
    rfl
  · obtain ⟨a, rk, xs, rs, ss, ds, Hb, rfl, hx, hb, hd, each, few, tab, hrk, hds, fewd, hbad, hgood⟩ := h
    refine' ⟨_, pss_cons ?s1 (pss_cons ?s2 (pss_cons ?s3 (pss_cons ?s4 (pss_cons ?s5 (C8.pss_cut ?s6 (pss_one ?s7)))))), ?_⟩
    case s1 => exact (ps_asg (pe_call GK hr (by rfl) gK kK bK .nil (passes_call (takes_of rfl rfl rfl rfl) (fun _ _ _ _ h => h)) (pa_cons (pv 0) pa_nil)) (pg_tup rfl (pgs_cons (pg_name (i := 2) scOrderOf.nd rfl (.inl rfl)) (pgs_cons (pg_name (i := 3) scOrderOf.nd rfl (.inl rfl)) pgs_nil))))
    case s2 => exact (ps_setLc (i := 5) (own := [("name", 4), ("_", 8)]) (g := gTup K 2 (gCons (gName 4) (gCons (gName 8) gNil))) (tt := tYes) (te := tVar 4) rfl scOrderOf.nd rfl rfl (sw_true rfl rfl rfl (by decide +kernel)) (pi_tup (pe_op op_catA (pv 2) (pv 3))) (blkOk_by (N := ["sentences", "ranks", "things", "truths", "name", "names", "ranked", "triples", "_", "arity"]) (sc := defScope sOrderOf) (by decide +kernel)) (fun _ _ _ _ _ => (pg_tup rfl (pgs_cons (pg_name (i := 4) scOrderOf.nd rfl (.inl rfl)) (pgs_cons (pg_name (i := 8) scOrderOf.nd rfl (.inl rfl)) pgs_nil)))) (fun _ _ _ _ _ => pts_nil) (fun _ _ _ _ _ => (pv 4)))
    case s3 => exact (ps_set (i := 6) scOrderOf.nd rfl (.inl rfl) (pe_lst pa_nil))
    case s4 => exact (ps_for (passes_of rfl) rfl (Et.pi_any (pv 1)) (pg_name (i := 4) scOrderOf.nd rfl (.inl rfl))
      (pss_cons (ps_if (PW.pt (pw_or (pt_not (pt_val (pe_callB call_isi (by rfl) m_isinstance (by decide +kernel) (pa_cons (pv 4) (pa_cons (pe_bltn (v := .ty "str") (by rfl) m_str (by decide +kernel) rfl) pa_nil))))) (pw_or (pt_cmpR op_notIn_seq (pv 4) (pv 5) (by with_unfolding_all rfl)) (pw_or1 (pt_cmpR op_in_seq (pv 4) (pv 6) (by with_unfolding_all rfl))))))
        (pss_one (ps_raise rfl (takes_of rfl rfl rfl rfl) (pmk_oex T.ox T.ini T.tI GE hr bE .nil pass0 (by rfl) gE (pa_cons (pv 4) pa_nil)))) pss_nil)
      (pss_one (ps_expr (pe_bm PySem.F.plainAttrs_list PySem.F.slot_list_append PySem.F.type_list_append mt_append (pv 6) (pa_cons (pv 4) pa_nil))))))
    case s5 => exact (ps_set (i := 7) scOrderOf.nd rfl (.inl rfl) (pe_call hR.G hr (by rfl) hR.g hR.kp hR.b .nil pass0 (pa_cons (pv 2) (pa_cons (pv 6) pa_nil))))
    case s6 => exact (ps_if (pt_cmpR op_notIn_seq pe_int (pe_lc (own := [("_", 8), ("arity", 9)]) (g := gTup K 2 (gCons (gName 8) (gCons (gName 9) gNil))) (tt := tYes) (te := tVar 9) rfl scOrderOf.nd (pi_tup (pv 2)) (blkOk_by (N := ["sentences", "ranks", "things", "truths", "name", "names", "ranked", "triples", "_", "arity"]) (sc := defScope sOrderOf) (by decide +kernel)) (fun _ _ _ _ _ => (pg_tup rfl (pgs_cons (pg_name (i := 8) scOrderOf.nd rfl (.inl rfl)) (pgs_cons (pg_name (i := 9) scOrderOf.nd rfl (.inl rfl)) pgs_nil)))) (fun _ _ _ _ _ => pts_nil) (fun _ _ _ _ _ => (pv 9))) (by with_unfolding_all rfl))
      (pss_one (ps_set (i := 7) scOrderOf.nd rfl (.inl rfl) (pe_op op_cat (pe_lst (pa_cons (pe_tup (pa_cons (pe_call hW.G hr (by rfl) hW.g hW.kp hW.b .nil pass0 (pa_cons pe_str (pa_cons (pv 5) pa_nil))) (pa_cons pe_int (pa_cons pe_int pa_nil)))) pa_nil)) (pv 7)))) pss_nil)
    case s7 => exact (ps_ret (pe_make M GO hr (by rfl) gO bO .nil pass0 (pa_cons (pv 7) (pa_cons (pe_call hR.G hr (by rfl) hR.g hR.kp hR.b .nil pass0 (pa_cons (pv 3) (pa_cons (pv 6) pa_nil))) pa_nil))))
    refine ⟨.ref a, rfl, a, xs, ss, Hb, rfl, hx, hb, hd, each, few, tab, hbad, fun l sc H1 p t u ys zs b1 tab1 sp tt fT tu fU => ?_⟩
    obtain ⟨m, oc, hb2, hg2⟩ := hgood l sc
    obtain ⟨nodup, _⟩ := Kn.scan_ok _ sc (by simp)
    replace fT : F2 (PrV K H1) (Od.things l) ys := fT
    replace fU : F2 (PrV K H1) (Od.truths l) zs := fU
    have lT : (Od.things l).length ≤ 19 := Nat.le_trans (Kn.part_len false l) oc.few
    have lU : (Od.truths l).length ≤ 19 := Nat.le_trans (Kn.part_len true l) oc.few
    have ly := fT.len
    have lz := fU.len
    have k1 : TK H H1 := tab_tk tab b1
    clear hbad hgood
    refine ⟨p, _, rfl, sp, rfl, _, _, rfl, _, _, rfl, rfl, ?_⟩
    refine ⟨.ref t, rfl, .ref u, rfl, rCatA_of tt.sq tu.sq (by rw [sizeLine_eq]; omega) fun c1 G1 s1 sqc => ?_⟩
    refine ⟨c1, rfl, ⟨_, sqc⟩, fun D nD => lc_tup (K := K) (a := c1) (xs := ys ++ zs) (fun i G => Same G1 G ∧ G D = some (.lst (((Od.names l).take i).map V.str))) ⟨same_new (fun b o e => e) nD _, upd_same⟩ (fun i G _ ⟨sm, _⟩ => (TK.same sm).sq sqc) ?_ ?_⟩
    · rintro i x G hxi ⟨sm, gD⟩
      obtain ⟨pr, hpr, bq, rfl, sqb⟩ := (F2.app fT fU).get hxi
      have hn : (Od.names l)[i]? = some pr.1 := by
        unfold Od.names Rn.names
        rw [List.getElem?_map, hpr]
        rfl
      have il := (List.getElem?_eq_some_iff.mp hpr).1
      rw [List.length_append] at il
      refine ⟨bq, _, rfl, (TK.same (s1.trans sm)).sq sqb, rfl, _, _, rfl, _, _, rfl, rfl, rfl, _, rfl, _, gD, ?_, same_on sm nD _, ?_⟩
      · rw [List.length_map, List.length_take, sizeLine_eq]
        omega
      · rw [take_next hn, List.map_append, upd_same]
        rfl
    rintro G2 ⟨sm2, gD⟩
    have ln : (Od.names l).length = (ys ++ zs).length := by
      unfold Od.names Rn.names
      rw [List.length_map, List.length_append, List.length_append]
      omega
    rw [← ln, List.take_length] at gD
    refine ⟨Nat.zero_le _, fun rd nrd => ?_⟩
    have s3 : Same G2 (upd G2 rd (.lst [])) := same_new (fun b o e => e) nrd _
    have e3 : (upd G2 rd (.lst [])) rd = some (.lst []) := upd_same
    have s13 : Same H1 (upd G2 rd (.lst [])) := (s1.trans sm2).trans s3
    have gD3 := s3 _ _ gD
    have nrd1 : H1 rd = none := none_before (s1.trans sm2) nrd
    generalize upd G2 rd (.lst []) = G3 at s3 e3 s13 gD3
    have Drd : D ≠ rd := fun z => by rw [z, nrd] at gD; cases gD
    have hrk1 := tab_sqx tab b1 hrk
    have hds1 := tab_dpAll tab b1 hds
    have lds := dpAll_len hds
    refine for_any (j := 1) (Hr := H1) rfl hrk1 (fun i σ G => ∃ (v4 : Option V) (T : List Str), σ = [some (.ref a), some (.ref rk), some (.ref t), some (.ref u), v4, some (.ref D), some (.ref rd), none, none, none] ∧ Same H1 G ∧ G D = some (.lst ((Od.names l).map V.str)) ∧ G rd = some (.lst (T.map V.str)) ∧ Rk.scan (Od.names l) [] (ds.take i) = .inr T)
      ⟨none, [], rfl, s13, gD3, e3, rfl⟩ (fun i σ G _ ⟨_, _, _, sm, _⟩ => sm) ?_ ?_
    · clear gD3 e3 s13 s3 gD sm2 nrd
      rintro i x σ G hxi ⟨v4, T', rfl, sm, gD, gr, sct⟩
      obtain ⟨d, hd', hdx⟩ := dpAll_get hds1 hxi
      have ty := dp_ty (dp_same sm hdx)
      obtain ⟨ndT, subT, lT'⟩ := Rk.scan_ok sct (by simp) (fun y hy => absurd hy List.not_mem_nil)
      rw [List.length_take] at lT'
      have stk := take_next hd'
      have throw : (isSt d = false ∨ ∃ y, d = .str y ∧ (y ∉ Od.names l ∨ y ∈ T')) → tMkO CN (spEr CN "name") [] (tCons (tVar 4) tNil) [some (.ref a), some (.ref rk), some (.ref t), some (.ref u), some x, some (.ref D), some (.ref rd), none, none, none] G (fun cls d H' => E cls d H') := fun bad => by
        have sc2 : Rk.scan (Od.names l) [] ds = .inl d := by
          have e : ds = ds.take i ++ d :: ds.drop (i + 1) := by
            obtain ⟨il, e2⟩ := List.getElem?_eq_some_iff.mp hd'
            have e3 : ds.drop i = d :: ds.drop (i + 1) := by rw [List.drop_eq_getElem_cons il, e2]
            rw [← e3, List.take_append_drop]
          rw [e, Rk.scan_app sct]
          exact Rk.scan_bad bad
        refine mk_row (x := "name") (v := x) ⟨x, rfl, rfl, rfl⟩ (fun dd H' s4 nd4 ed => ?_) (fun m ⟨v', e', q⟩ => ⟨v', e', m _ _ q⟩)
        have s14 := sm.trans s4
        exact hb2 d sc2 dd x H' (but_same b1 s14) (tab_same s14 tab1) (dp_same s14 hdx) ed
      cases hs : isSt d with
      | false =>
        refine ⟨x, rfl, _, .ty "str", _, .type "str", false, rfl, .ty "str", ty, by rw [← hs]; exact kit_st d, false, rfl, ?_⟩
        exact iteT (iteT (throw (.inl hs)))
      | true =>
        cases d with
        | str y =>
          cases hdx
          refine ⟨.str y, rfl, _, .ty "str", _, .type "str", true, rfl, .ty "str", ty, kit_st (.str y), true, rfl, ?_⟩
          refine iteF ⟨.str y, rfl, .ref D, rfl, D, _, rfl, .inl (.inl (.inl gD)), rfl, flat_texts _, !decide (y ∈ Od.names l), congrArg (fun z => V.bl (!z)) (inV_mem y (Od.names l)), ?_⟩
          by_cases c1 : y ∈ Od.names l
          · rw [decide_eq_true c1]
            refine iteF ⟨.str y, rfl, .ref rd, rfl, rd, _, rfl, .inl (.inl (.inl gr)), rfl, flat_texts _, decide (y ∈ T'), congrArg V.bl (inV_mem y T'), ?_⟩
            by_cases c2 : y ∈ T'
            · rw [decide_eq_true c2]
              exact iteT (throw (.inr ⟨y, rfl, .inr c2⟩))
            · rw [decide_eq_false c2]
              refine iteF ⟨.ref rd, rfl, .inl ⟨rfl, _, .inl (.inl gr)⟩, .str y, rfl, rd, _, .str y, rfl, rfl, gr, (by rw [List.length_map, sizeLine_eq, lT']; rw [List.length_nil]; omega), some (.str y), T' ++ [y], rfl, same_on sm nrd1 _, ?_, ?_, ?_⟩
              · rw [upd_ne Drd]
                exact gD
              · rw [upd_same, List.map_append]
                rfl
              · rw [stk, Rk.scan_app sct, Rk.scan_str, if_pos ⟨c1, c2⟩]
                rfl
          · rw [decide_eq_false c1]
            exact iteT (iteT (throw (.inr ⟨y, rfl, .inl c1⟩)))
        | _ => cases hs
    · clear gD3 e3 s13 s3 gD sm2 nrd s1 sqc nD
      rintro σ G ⟨v4, T', rfl, sm, gD, gr, sct⟩
      rw [lds, List.take_length] at sct
      obtain ⟨ndT, subT, lT'⟩ := Rk.scan_ok sct (by simp) (fun y hy => absurd hy List.not_mem_nil)
      rw [List.length_nil, Nat.zero_add] at lT'
      have good := hg2 T' sct
      clear hb2 hg2 hds hds1 hrk hrk1
      have kG : TK H1 G := TK.same sm
      refine ⟨.ref t, rfl, .ref rd, rfl, t, rd, ys, Od.things l, T', rfl, tup0_mono kG tt, fT.mono (PrV.mono kG), part_nodup' nodup false, by omega, by omega, gr, fun G5 tr yr s5 ntr etr ftr => ?_⟩
      have gr5 := s5 _ _ gr
      have gD5 := s5 _ _ gD
      have kG5 : TK H1 G5 := kG.trans (TK.same s5)
      have tt5 := tup0_mono kG5 tt
      have tu5 := tup0_mono kG5 tu
      have fT5 := fT.mono (PrV.mono kG5)
      have fU5 := fU.mono (PrV.mono kG5)
      have bG5 : Pn.But Pt H G5 := but_same b1 (sm.trans s5)
      have tab5 : TabG G5 Pt := tab_same (sm.trans s5) tab1
      clear gr gD sm kG kG5 k1 tt tu fT fU s5 ntr
      refine ⟨fun σ G => ∃ (q : Addr) (qs : List V), σ = [some (.ref a), some (.ref rk), some (.ref t), some (.ref u), v4, some (.ref D), some (.ref rd), some (.ref q), none, none] ∧ Same G5 G ∧ G q = some (.lst qs) ∧ F2 (RowV K G) (Od.R l m T') qs, ?_, ?_⟩
      · refine ⟨.ref t, rfl, t, rfl, ⟨_, tt5.sq⟩, fun D2 nD2 => lc_tup (K := K) (a := t) (xs := ys) (fun i G => Same G5 G ∧ G D2 = some (.lst (((Od.things l).take i).map fun p => V.int (p.2 : Int)))) ⟨same_new (fun b o e => e) nD2 _, upd_same⟩ (fun i G _ ⟨sm, _⟩ => (TK.same sm).sq tt5.sq) ?_ ?_⟩
        · rintro i x G hxi ⟨sm, gD⟩
          obtain ⟨pr, hpr, bq, rfl, sqb⟩ := fT5.get hxi
          have il := (List.getElem?_eq_some_iff.mp hpr).1
          refine ⟨bq, _, rfl, (TK.same sm).sq sqb, rfl, _, _, rfl, _, _, rfl, rfl, rfl, _, rfl, _, gD, ?_, same_on sm nD2 _, ?_⟩
          · rw [List.length_map, List.length_take, sizeLine_eq]
            omega
          · rw [take_next hpr, List.map_append, upd_same]
            rfl
        rintro G6 ⟨sm, gD2⟩
        rw [ly, List.take_length] at gD2
        have fl : ((Od.things l).map fun p => V.int (p.2 : Int)).all flatV = true := by
          rw [List.all_eq_true]
          intro y hy
          obtain ⟨p, _, rfl⟩ := List.mem_map.mp hy
          rfl
        by_cases h0 : ∃ p ∈ Od.things l, p.2 = 0
        · have here : inV (.int 0) ((Od.things l).map fun p => V.int (p.2 : Int)) = true := by
            obtain ⟨p, hp, p0⟩ := h0
            exact inV_here (List.mem_map.mpr ⟨p, hp, by rw [p0]; rfl⟩) rfl
          refine ⟨D2, _, rfl, .inl (.inl (.inl gD2)), rfl, fl, false, congrArg (fun z => V.bl (!z)) here, iteF ⟨tr, yr, rfl, sm, sm _ _ etr, ?_⟩⟩
          have e : Od.R l m T' = Rn.rows (Od.things l) T' := by
            unfold Od.R Od.spare
            rw [if_pos h0]
            rfl
          rw [e]
          exact ftr.mono (RowV.mono (TK.same sm))
        · have here : inV (.int 0) ((Od.things l).map fun p => V.int (p.2 : Int)) = false := by
            unfold inV
            rw [List.any_eq_false]
            intro y hy
            obtain ⟨p, hp, rfl⟩ := List.mem_map.mp hy
            show ¬ ((p.2 : Int) == 0) = true
            intro z
            have z2 : (p.2 : Int) = 0 := beq_iff_eq.mp z
            exact h0 ⟨p, hp, by omega⟩
          refine ⟨D2, _, rfl, .inl (.inl (.inl gD2)), rfl, fl, true, congrArg (fun z => V.bl (!z)) here, iteT ?_⟩
          have gD6 := sm _ _ gD5
          refine ⟨.ref D, rfl, "nil", D, Od.names l, m, rfl, .inl (.inl gD6), fun j hj => ⟨Od.names_iff.mpr (oc.bars j hj), oc.short j hj⟩, fun z => oc.out (Od.names_iff.mp z), (by show 3 ≤ sizeLine; rw [sizeLine_eq]; decide), fun t3 nt3 => ⟨by show 1 ≤ sizeLine; decide, fun l3 nl3 => ?_⟩⟩
          have s7 : Same G6 (upd G6 t3 (.tup [.str (bars "nil" m), .int 0, .int 1])) := same_new (fun b o e => e) nt3 _
          have e7 : (upd G6 t3 (.tup [.str (bars "nil" m), .int 0, .int 1])) t3 = some (.tup [.str (bars "nil" m), .int 0, .int 1]) := upd_same
          generalize upd G6 t3 (.tup [.str (bars "nil" m), .int 0, .int 1]) = G7 at s7 e7 nl3
          have s8 : Same G7 (upd G7 l3 (.lst [.ref t3])) := same_new (fun b o e => e) nl3 _
          have e8 : (upd G7 l3 (.lst [.ref t3])) l3 = some (.lst [.ref t3]) := upd_same
          have e7' := s8 _ _ e7
          generalize upd G7 l3 (.lst [.ref t3]) = G8 at s8 e8 e7'
          have s58 : Same G5 G8 := (sm.trans s7).trans s8
          have ltr := ftr.len
          have lrr : (Rn.rows (Od.things l) T').length ≤ 59 := by
            unfold Rn.rows
            rw [List.length_map]
            have := Rn.rank_len (Od.things l) T'
            omega
          refine ⟨.ref tr, rfl, l3, tr, _, _, rfl, rfl, e8, s58 _ _ etr, by rw [ltr, sizeLine_eq]; show 1 + _ ≤ _; omega, fun q nq => ?_⟩
          have s9 : Same G8 (upd G8 q (.lst ([.ref t3] ++ yr))) := same_new (fun b o e => e) nq _
          refine ⟨q, _, rfl, s58.trans s9, upd_same, ?_⟩
          have e : Od.R l m T' = [(bars "nil" m, 0, 1)] ++ Rn.rows (Od.things l) T' := by
            unfold Od.R Od.spare
            rw [if_neg h0]
          rw [e]
          exact F2.app (F2.one ⟨t3, rfl, .inl (.inl (s9 _ _ e7'))⟩) (ftr.mono (RowV.mono (TK.same (s58.trans s9))))
      · rintro σ G ⟨q, qs, rfl, sm, gq, fq⟩
        have gr6 := sm _ _ gr5
        have k6 := TK.same sm
        refine ⟨.ref q, rfl, .ref u, rfl, .ref rd, rfl, u, rd, zs, Od.truths l, T', rfl, tup0_mono k6 tu5, fU5.mono (PrV.mono k6), part_nodup' nodup true, by omega, by omega, gr6, fun G7 tu7 yu s7 ntu etu ftu => ?_⟩
        intro oo dx no ndx nod
        have no' : (upd G7 dx (.own oo)) oo = none := by rw [upd_ne nod.symm]; exact no
        have sN : Same G7 (upd (upd G7 dx (.own oo)) oo (.ins C dx [])) := same_new (same_new (fun b o e => e) ndx _) no' _
        have eo : (upd (upd G7 dx (.own oo)) oo (.ins C dx [])) oo = some (.ins C dx []) := upd_same
        generalize upd (upd G7 dx (.own oo)) oo (.ins C dx []) = GA at sN eo
        have sqA : Same G GA := s7.trans sN
        refine ⟨oo, q, tu7, dx, Od.R l m T', Od.S l T', qs, yu, rfl, eo, .inl (.inl (.inl (sqA _ _ gq))), (fq.mono (RowV.mono (TK.same sqA))).mono RowV.x, .inl (.inl (.inl (sN _ _ etu))), (ftu.mono (RowV.mono (TK.same sN))).mono RowV.x, Od.ok nodup oc ndT (by omega), fun GB bB hI => ⟨rfl, ?_⟩⟩
        have noH : H oo = none := by
          cases hz : H oo with
          | none => rfl
          | some z =>
            by_cases e : oo = Pt
            · obtain ⟨ps, e2, _⟩ := tab5
              have := s7 _ _ (sm _ _ e2)
              rw [← e, no] at this
              cases this
            · have := s7 _ _ (sm _ _ (bG5 _ _ e hz))
              rw [no] at this
              cases this
        have oP : oo ≠ Pt := fun e => by
          obtain ⟨ps, e2, _⟩ := tab5
          have := s7 _ _ (sm _ _ e2)
          rw [← e, no] at this
          cases this
        have sB : ∀ b u, G5 b = some u → GB b = some u := fun b u e => by
          have e7 := s7 _ _ (sm _ _ e)
          exact bB _ _ (ne_of_none e7 no) (sN _ _ e7)
        exact good GB oo (fun b u n e => sB _ _ (bG5 _ _ n e)) (tab_same sB tab5) hI
end
end Ad

/-! try: .. with several clauses except X as n. -/
namespace Tm
open PySem PySem.Spec PySem.Calls PyProof.Rows L2
/-- the ends of a suite whose name goes behind it -/
abbrev gone (i : Nat) (D : Ends) : Ends := { nx := fun τ G => D.nx (τ.set i none) G, rt := D.rt, bk := fun τ G => D.bk (τ.set i none) G, ct := fun τ G => D.ct (τ.set i none) G }
abbrev Suite := Addr → Value → Option Addr → TS
/-- what the clauses wish of an exception, one after another; slot i is their name's -/
def wish (K : PySem.W.Frag) (Wout : WX) (D : Ends) (i : Nat) : List (Value × Suite) → WX
  | [] => Wout
  | (c, ts) :: l => fun cls d σ H => ∃ b, PySem.W.exmOne K cls c = some b ∧ (b = true → ∀ a, H a = none → i < σ.length → ts a cls d (gone i D) (σ.set i (some (.ref a))) H) ∧ (b = false → wish K Wout D i l cls d σ H)
/-- the clauses -/
inductive Clauses (X : Cx) (n : Str) : List ExceptHandler → List (Value × Suite) → Prop
  | done : Clauses X n [] []
  | next {x : Str} {c : Value} {ts : Suite} {st : Stmt} {sts : List Stmt} {p1 p2 : Pos} {hs : List ExceptHandler} {l : List (Value × Suite)} (named : Names X x c)
      (suite : ∀ (a : Addr) (oe : Obj) (cls : Value) (d : Option Addr) (pn : List (Addr × Obj)), Zc cls d oe → (∃ vs, oe.data = .fields vs) → PSs (X.suite a ((a, oe) :: pn)) (st :: sts) (ts a cls d)) (rest : Clauses X n hs l) :
      Clauses X n (.ExceptHandler (some (.Name x p1)) (some n) (st :: sts) p2 :: hs) ((c, ts) :: l)
section
variable {X : Cx} {n : Str} {i : Nat} {body : List Stmt} {h₀ : ExceptHandler} {hs : List ExceptHandler} {l : List (Value × Suite)} {pos : Pos} {tb : WX → TS} {Wout : WX}
theorem ps_tryAs (stk : X.stack = X.env :: X.outer) (frm : X.env.frame = some X.env.locals) (nod : X.N.Nodup) (slot : X.N[i]? = some n) (loc : X.env.kindOf n = some .local) (tk : Takes X Wout)
    (hb : ∀ (W : WX) (pn : List (Addr × Obj)) (xe : Value → Shared → Prop), Takes (X.tr pn xe) W → PassesOwn (model X.prog X.w) X.A X.env xe → PSs (X.tr pn xe) body (tb W))
    (cl : Clauses X n (h₀ :: hs) l) : PS X (.Try body (h₀ :: hs) [] [] pos) (fun D σ H => tb (wish X.K Wout D i l) D σ H) := by
  refine ⟨fun pins s σ H D J ask => ?_⟩
  have okx := J.ok
  have frs' : X.A.frames = some (X.env :: X.outer) := by rw [okx.frames, stk]
  have lc : Loc X.env.scope n := .inl loc
  refine wpAny_Try_except ?_
  have bodyRun := (hb (wish X.K Wout D i l) (X.pn ++ pins) (fun e s1 => wpAny (model X.prog X.w) X.A (noteFrame e X.env) (fun _ s2 => wpAny (model X.prog X.w) X.A (setFlight e none) (fun _ s3 => wpAny (model X.prog X.w) X.A (handleBy e X.env (h₀ :: hs)) (SP X pins D) X.xe s3) X.xe s2) X.xe s1) ?caught PassesOwn.looking).run [] s σ H D (J.toTry _) ask
  case caught =>
    rintro u s' ⟨a, B, sI, pins', σ', G, cls, d, rfl, JI, kept, up1, fly, free, os, bare, wsh⟩
    have J1 : Inv X pins σ' G sI := JI.ofTry okx
    have fly1 : Sky B (X.env :: X.outer) a (Zc cls d) X.env.locals s'.heap := stk ▸ fly
    show wpAny (model X.prog X.w) X.A (noteFrame (.ref a) X.env) _ _ _
    refine Sky.land Zc.steady frs' frm fly1 fun h3 low up3 => ?_
    have J3 : Inv X pins σ' G { s' with heap := h3 } := J1.landed kept low.1 (up1.trans up3) os bare
    obtain ⟨o3, v3, look3, z3, dat3⟩ := low.there
    have out : ∀ {h : Heap} {o : Obj} {vs : Array Value}, h.FunFrames B (X.env :: X.outer) → h.get? a = some o → o.data = .fields vs → a ∉ frs (X.env :: X.outer) := by
      intro h o vs ff e dd m
      obtain ⟨_, o2, e2, no⟩ := ff.mem m
      rw [e] at e2
      cases e2
      exact no _ dd
    have notF := out low.2.2.1 look3 dat3
    have notL : a ≠ X.env.locals := fun z => notF (List.mem_filterMap.mpr ⟨X.env, List.mem_cons_self, by rw [frm, z]⟩)
    have notS : a ∉ X.fs := by
      intro m
      obtain ⟨e, me, q⟩ := List.mem_filterMap.mp m
      exact notF (List.mem_filterMap.mpr ⟨e, List.mem_cons_of_mem _ me, q⟩)
    have S3 := J3.suite look3 dat3 free notL notS
    have go : ∀ {hs' : List ExceptHandler} {l' : List (Value × Suite)}, Clauses X n hs' l' → wish X.K Wout D i l' cls d σ' G → wpAny (model X.prog X.w) X.A (handleBy (.ref a) X.env hs') (SP X pins D) X.xe { s' with heap := h3 } := by
      intro hs' l' c
      induction c with
      | done =>
        intro wo
        refine wpAny_handleBy_nil ?_
        obtain ⟨_, _, _, o4, v4, T4, oT, _, look4, _, dat4, one4, _⟩ := id low
        unfold PySem.passOn
        refine wpAny_bind (wpAny_field look4 dat4 one4 ?_)
        rw [if_neg (show ¬ ((Value.ref T4 == Value.none) = true) by simp)]
        have again : wpAny (model X.prog X.w) X.A (setFlight (.ref a) X.env.frame) (fun _ s4 => wpAny (model X.prog X.w) X.A (throw (.ref a) : Sem Flow) (SP X pins D) X.xe s4) X.xe { s' with heap := h3 } := by
          rw [frm]
          refine HandSPX.setFlight_upZ low fun h4 held up4 => wpAny_throw (tk _ _ ?_)
          exact ⟨a, B, sI, pins, σ', G, cls, d, rfl, J1, kept, (up1.trans up3).trans up4, .inr (.inr (stk ▸ held)), free, os, bare, wo⟩
        first
          | exact wpAny_bind (wpAny_pure (wpAny_bind again))
          | exact wpAny_bind again
      | @next x c ts st sts p1 p2 hs2 l2 named suite rest ih =>
        intro ⟨b, eb, yes, no⟩
        refine wpAny_handleBy_cons (codeAny_handlers_test ?_) (by intro q; cases q)
        have LT : PySem.W.Looks (model X.prog X.w) h3 (typeOf (.ref a)) cls := fun A Q E s4 kk q => wpAny_typeOf_ref (kk _ _ look3) (by rw [z3.1]; exact q)
        have LM := PySem.W.exm_one (M := model X.prog X.w) J3.kIn LT eb
        have said : ∀ {Q E : Value → Shared → Prop}, Q c { s' with heap := h3 } → wpAny (model X.prog X.w) (X.A.mark (some (.ref a))) (eval (.Name x p1) X.env) Q E { s' with heap := h3 } := by
          intro Q E q
          obtain ⟨gl, db, there | ⟨gone', bt, nn⟩⟩ := named
          · exact ld_glob (X := X.suite a ((a, o3) :: (X.pn ++ pins))) S3 gl there q db
          · exact ld_blt (X := X.suite a ((a, o3) :: (X.pn ++ pins))) S3 gl gone' bt q nn db
        refine said (LM.here ?_)
        match b, yes, no with
        | true, yes, _ =>
          refine codeAny_handlers_suite_as ?_
          refine HandSPX.lands_againZ low fun h4 low4 up4 => ?_
          have J4 : Inv X pins σ' G { s' with heap := h4 } := J1.landed kept low4.1 ((up1.trans up3).trans up4) os bare
          obtain ⟨o4, v4, look4, z4, dat4⟩ := low4.there
          have S4 := J4.suite look4 dat4 free notL notS
          refine store_ok (X := X.suite a ((a, o4) :: (X.pn ++ pins))) (v := .ref a) S4 nod slot lc rfl (fun s5 S5 => ?_) (.inr loc)
          have ends : ∀ {σ6 : L2.St} {G6 : Hp} {s6 : Shared} {Q : Shared → Prop}, Inv (X.suite a ((a, o4) :: (X.pn ++ pins))) [] σ6 G6 s6 → (∀ s7, Inv X pins (σ6.set i none) G6 s7 → Q s7) →
              wpAny (model X.prog X.w) X.A (do bindName X.env n .none; unbindBehindTheSuite X.env n p2) (fun _ s7 => Q s7) X.xe s6 := fun S6 q => gone_ok (S6.unsuite okx) nod slot loc q
          refine wpAny_mono ((suite a o4 cls d (X.pn ++ pins) z4 ⟨_, dat4⟩).run [] s5 _ G _ S5 (yes rfl a free (by rw [J1.len]; exact (List.getElem?_eq_some_iff.mp slot).1))) (fun fl s6 back => ?_) (fun _ _ z => False.elim z)
          match fl, back with
          | .next, ⟨_, _, S6, q6⟩ => exact ends S6 fun s7 J7 => ⟨_, _, J7, q6⟩
          | .brk, ⟨_, _, S6, q6⟩ => exact ends S6 fun s7 J7 => ⟨_, _, J7, q6⟩
          | .cont, ⟨_, _, S6, q6⟩ => exact ends S6 fun s7 J7 => ⟨_, _, J7, q6⟩
          | .ret u, ⟨_, _, _, S6, r6, q6⟩ => exact ends S6 fun s7 J7 => ⟨_, _, _, J7, r6, q6⟩
        | false, _, no =>
          show wpAny _ X.A (handleBy (.ref a) X.env hs2) _ _ _
          exact ih (no rfl)
    exact go cl wsh
  refine wpAny_mono bodyRun (fun fl s1 back => ?_) (fun e s1 z => z)
  match fl, back with
  | .next, ⟨_, _, J', q⟩ => exact wpAny_execs_nil ⟨_, _, J'.ofTry okx, q⟩
  | .brk, ⟨_, _, J', q⟩ => exact ⟨_, _, J'.ofTry okx, q⟩
  | .cont, ⟨_, _, J', q⟩ => exact ⟨_, _, J'.ofTry okx, q⟩
  | .ret u, ⟨_, _, _, J', r, q⟩ => exact ⟨_, _, _, J'.ofTry okx, r, q⟩
end
end Tm

/-! A lambda handed to a def: all but the law's own table stays. -/
namespace LaP
open PySem PySem.Spec PySem.Calls PyProof.Rows L2
open LamX (CodeO TabS)
abbrev lamName (X : Cx) : Str := X.env.qual ++ "<lambda>"
section
variable {X : Cx} {ip : List (Addr × Obj)} {τ : L2.St} {G : Hp} {st : Shared} {pms : Arguments} {bd : Expr} {scp : Scope} {lp : Pos}
abbrev lamObj (X : Cx) (pms : Arguments) (bd : Expr) (scp : Scope) (pm : Value) (d : Addr) (ct : Value) : Obj :=
  PySem.W.kla_obj "<lambda>" (lamName X) pms bd scp (cloFrom X.env.cells scp.names []) pm d ct
/-- what is asked of the heap and the state once the lambda stands -/
def Made (X : Cx) (ip : List (Addr × Obj)) (τ : L2.St) (G : Hp) (P : Addr) (pms : Arguments) (bd : Expr) (scp : Scope) (K' : Value → Shared → Prop) : Prop :=
  ∀ (f d : Addr) (pm ct : Value) (G' : Hp) (st' : Shared), Inv X ip τ G' st' → Pn.But P G G' → TabS G' P (lamName X) → st'.heap.get? f = some (lamObj X pms bd scp pm d ct) → G' f = none → f ∉ frs X.stack → G' d = some (CodeO d (lamName X)) → K' (.ref f) st'
theorem young_out (I : Inv X ip τ G st) {f : Addr} (y : st.heap.objs.size ≤ f) : f ∉ frs X.stack := by
  intro m
  cases List.mem_cons.mp (I.stkSub _ m) with
  | inr e => exact I.nofs y e
  | inl e =>
    have l := I.lt
    rw [← e] at l
    exact absurd (Nat.lt_of_lt_of_le l y) (Nat.lt_irrefl _)
theorem lam_made {c P : Addr} {Er : Value → Shared → Prop} {K' : Value → Shared → Prop} (I : Inv X ip τ G st) (TB : LamX.TabB X.base X.mg c P) (code : X.env.code = .ref c) (tab : TabS G P (lamName X)) (plain : defaultsOf pms X.env = ([], []))
    (cap : ∀ y ∈ scp.names, y.2 = .free → ∃ d, X.env.cells.lookup y.1 = some d) (go : Made X ip τ G P pms bd scp K') : wpAny (model X.prog X.w) X.A (eval (.Lambda pms bd scp lp) X.env) K' Er st := by
  have tab0 := tab
  obtain ⟨row, eP, trip, known⟩ := tab
  have inHeap : st.heap.get? P = some { cls := .none, data := .fields row } := I.hok P _ eP
  have bms := TB.bm.keeps I.bk
  have glb := I.mod.glob.keeps I.bk
  have hd := TB.code.keeps I.bk
  refine PySem.W.kla_eval plain ?_
  cases among : codeAmong lp row.toList with
  | some cv =>
    obtain ⟨d, rfl, at_d⟩ := known lp cv among
    refine PySem.W.kla_makeFunctionHit (mg := X.mg) (c := c) (P := P) (ps := row) (closure_ok cap) I.ok.glob glb code hd inHeap trip among bms fun ct hp tk same grown => ?_
    exact go hp.objs.size d _ ct G _ (I.kept fun b o e => Heap.get?_push_of_some _ (same b o e)) (fun b o _ e => e) tab0 (Heap.get?_push_size _ rfl) (I.hok.fresh grown) (young_out I grown) at_d
  | none =>
    refine PySem.W.kla_makeFunction (mg := X.mg) (c := c) (P := P) (ps := row) (closure_ok cap) I.ok.glob glb code hd inHeap trip among TB.gP bms fun d ct hp tk same older later rec tabled => ?_
    obtain ⟨d2, ob, fs, t, e2, at2, dat, nm⟩ := rec
    cases e2
    have new_d : G d = none := I.hok.fresh older
    have Pd : P ≠ d := ne_of_none eP new_d
    have grown : st.heap.objs.size ≤ hp.objs.size := by omega
    generalize eMore : (#[rawInt lp.line, rawInt lp.col, .ref d] : Array Value) = more at tabled
    have J := LamX.inv_table (t' := tk) (more := more) (h' := hp.push (lamObj X pms bd scp ((X.mg "__name__").getD .none) d ct)) I eP (fun b o hb e => Heap.get?_push_of_some _ (same b o hb e)) (Heap.get?_push_of_some _ tabled) older ⟨ob, fs, t, Heap.get?_push_of_some _ at2, dat, nm⟩
    have stay : Pn.But P G (upd (upd G P (.tbl (row ++ more))) d (CodeO d (lamName X))) := fun b o n e => by
      rw [upd_ne (ne_of_none e new_d), upd_ne n]
      exact e
    have onP : (upd (upd G P (.tbl (row ++ more))) d (CodeO d (lamName X))) P = some (.tbl (row ++ more)) := by
      rw [upd_ne Pd]
      exact upd_same
    have flat : (row ++ more).toList = row.toList ++ [rawInt lp.line, rawInt lp.col, .ref d] := by
      rw [← eMore]
      simp
    refine go hp.objs.size d _ ct _ _ J stay ⟨row ++ more, onP, ?_, fun q cv found => ?_⟩ (Heap.get?_push_size _ rfl) ?_ (young_out I grown) upd_same
    · rw [flat]
      exact PySem.TriplesOk_snoc _ _ _ _ trip
    · rw [flat] at found
      cases LamX.among_app _ trip found with
      | inr e => exact ⟨d, e, upd_same⟩
      | inl e =>
        obtain ⟨d0, e0, at0⟩ := known q cv e
        have n0 : d0 ≠ P := fun z => by
          rw [z, eP] at at0
          exact LamX.codeO_ne row (Option.some.inj at0).symm
        exact ⟨d0, e0, stay d0 _ n0 at0⟩
    · have a1 : hp.objs.size ≠ d := by omega
      have a2 : hp.objs.size ≠ P := (Nat.ne_of_lt (Nat.lt_of_lt_of_le (Heap.lt_size inHeap) grown)).symm
      rw [upd_ne a1, upd_ne a2]
      exact I.hok.fresh grown
/-- x(lambda: ..): TT is what the def makes of the lambda's reading -/
def tGiven (P : Addr) (nm : Str) (TT : (XK → Hp → VK → Prop) → Hp → VK → Prop) (rd : XK → TE) : TE := fun τ G K' => TabS G P nm ∧ ∀ G', Pn.But P G G' → TabS G' P nm → TT (fun E G2 K2 => rd E τ G2 K2) G' K'
theorem pe_given {TT : (XK → Hp → VK → Prop) → Hp → VK → Prop} {x a : Str} {g c P : Addr} {k : Nat} {pg : Arguments} {bg : List Stmt} {sg : Scope} {dV kV dc pm cdv ct oc : Value} {an od : Option Addr} {sl : Array (Option Value)} {Ng : List Str} {rd : XK → TE} {p pos : Pos}
    (gl : Gl X x) (at' : X.mg x = some (.ref g)) (kp : PySem.W.keepIn X.K (.ref g) = true) (look : X.K.lookup g = some ⟨oc, od, .func (PySem.W.fnOf x x pg bg sg dV kV dc pm an cdv ct), sl⟩) (cin : PySem.W.codeIn X.K cdv x = true)
    (bnd : L2.Binds X.K (PySem.W.fnOf x x pg bg sg dV kV dc pm an cdv ct) [a] []) (Sg : FnScope Ng [a] sg) (first : Ng[0]? = some a) (vis : Vis sg a) (gives : LamX.GivesTo X Ng x sg g cdv bg a (lamName X) TT) (TB : LamX.TabB X.base X.mg c P) (code : X.env.code = .ref c) (room : Room (k + 2) X.A)
    (L : LamX.LamS X.env.scope scp) (plain : defaultsOf pms X.env = ([], [])) (nob : ∀ (q : Str) (cl : List (Str × Addr)) (pm cv ctv : Value), bindArgs (PySem.W.kla_fn "<lambda>" q pms bd scp cl pm cv ctv) ⟨[], []⟩ = pure [])
    (body : ∀ (A : Around) (outer : List Env) (s : Shared) (H : Hp) (E : XK) (f d : Addr), Room k (A.deeper (LamX.lamEnv X scp s.heap.objs.size f d)) → PE (LamX.lamCx X A outer s H E scp f d) bd (rd E))
    (ok1 : (x == ("__debug__" : Str)) = false := by decide) (ok2 : (a == ("__debug__" : Str)) = false := by decide) (ok3 : (a == ("__classdict__" : Str)) = false := by decide) : PE X (.Call (.Name x p) [.Lambda pms bd scp lp] [] pos) (tGiven P (lamName X) TT rd) := by
  constructor
  intro ip' st' τ' G' K' I ask
  obtain ⟨tab, ask⟩ := ask
  refine wpAny_Call_Name_kw (ld_glob I gl at' ?_ ok1)
  refine PySem.W.callWith_K (h₀ := X.base) I.ok.mod.kin kp ?_ (by rfl) (by rfl)
  show wpAny _ _ (spliced ((false, eval (.Lambda pms bd scp lp) X.env) :: backTo pos (starEach [] X.env))) _ _ st'
  refine Calls.spliced_cons (lam_made I TB code tab plain (L.has I.ok) fun f d pm' ct' G2 st2 I2 but tab2 obj nf nfr at_d => ?_)
  refine Calls.spliced_nil ⟨I2.kIn, ?_⟩
  have inner : codeAny (model X.prog X.w) X.A (.call (.ref g) ⟨[.ref f], []⟩) (CR C8.CX0 X.stack X.prog X.w G2 st2 K' C8.E0) st2 := by
    refine LamX.run_ofS (N := Ng) (ps := [a]) (us := [.ref f]) (vs := [.ref f]) look cin Sg room I2.env0 (bnd st2 [.ref f] I2.kIn rfl) (.cons rfl .nil) rfl fun room' => ?_
    obtain ⟨t, ht, q⟩ := gives f d st2 G2 K' (fun E G3 K3 => rd E τ' G3 K3) (fun W pn xe E p1 p2 tk hW => LamX.pe_act (i := 0) I2 L obj nf nfr (nob _ _ _ _ _) tk hW room' (fun A outer s H r => body A outer s H E f d r) first vis ok2 ok3) at_d (ask G2 but tab2)
    exact ⟨t, ht.nox, q⟩
  refine wpAny_call (codeAny_mono inner fun r s3 back => ?_)
  match r, back with
  | .ok (.ret u), back => exact I2.after back
  | .error e, back => exact (show False from back).elim
  | .ok .next, back => exact False.elim back
  | .ok .brk, back => exact False.elim back
  | .ok .cont, back => exact False.elim back
end
end LaP

/-! The names that the law's sentences have. -/
namespace Ad
open PySem PySem.Spec PySem.Calls PyProof.Rows L2 GxR
def allN : List Str := ["a", "b", "c", "f", "g", "p", "q", "r", "h", "m", "nil", "nil_"]
theorem allN_ok : ∀ x ∈ allN, PyData.strOk x = true ∧ x ≠ "yes" ∧ x ≠ "nil__" ∧ x ≠ "nobody" ∧ x ≠ "" := by
  have h : allN.all (fun x => PyData.strOk x && (decide (x ≠ "yes") && (decide (x ≠ "nil__") && (decide (x ≠ "nobody") && decide (x ≠ ""))))) = true := by decide +kernel
  intro x hx
  have z := List.all_eq_true.mp h x hx
  obtain ⟨h1, z⟩ := Bool.and_eq_true_iff.mp z
  obtain ⟨h2, z⟩ := Bool.and_eq_true_iff.mp z
  obtain ⟨h3, z⟩ := Bool.and_eq_true_iff.mp z
  obtain ⟨h4, h5⟩ := Bool.and_eq_true_iff.mp z
  exact ⟨h1, of_decide_eq_true h2, of_decide_eq_true h3, of_decide_eq_true h4, of_decide_eq_true h5⟩
structure SnG (s : Sn) : Prop where
  ok : s.ok = true
  wf : s.wf = true
  size : s.size ≤ 40
  names : ∀ q ∈ s.occs, q.1 ∈ allN
def sngB (s : Sn) : Bool := s.ok && (s.wf && (decide (s.size ≤ 40) && s.occs.all fun q => decide (q.1 ∈ allN)))
theorem sngB_ok {s : Sn} (h : sngB s = true) : SnG s := by
  unfold sngB at h
  simp only [Bool.and_eq_true, decide_eq_true_eq] at h
  obtain ⟨h1, h2, h3, h4⟩ := h
  exact ⟨h1, h2, h3, fun q hq => of_decide_eq_true (List.all_eq_true.mp h4 q hq)⟩
theorem odd_sng : ∀ s ∈ oddS, SnG s := fun s hs => by
  have h : oddS.all sngB = true := by decide +kernel
  exact sngB_ok (List.all_eq_true.mp h s hs)
def oneS : Sn := .qu true "X" (.atm false [.tuple [.str "nil", .str "X"]])
def twoS : Sn := .qu false "X" (.atm true [.tuple [.str "nil", .str "X"], .str "X"])
def thrS : Sn := .atm false [.tuple [.str "nil_"]]
theorem nil_sng : SnG oneS ∧ SnG twoS ∧ SnG thrS := ⟨sngB_ok (by decide +kernel), sngB_ok (by decide +kernel), sngB_ok (by decide +kernel)⟩
theorem mixed_names {B : List Pr} {R : List Row} (m : Mixed B R) (hB : ∀ p ∈ B, p.1 ∈ allN) {x : Str} (h : x ∈ R.map (·.1)) : x ∈ allN := by
  obtain ⟨r, hr, rfl⟩ := List.mem_map.mp h
  exact hB (r.1, r.2.1) (m.perm.mem_iff.mp (List.mem_map.mpr ⟨r, hr, rfl⟩))
theorem sns_few : ∀ d : Nat, d ≤ 3 → sns d ≤ 40
  | 0, _ => by decide
  | 1, _ => by decide
  | 2, _ => by decide
  | 3, _ => by decide
  | n + 4, h => absurd h (by omega)
theorem sdn_few : ∀ d : Nat, d ≤ 3 → sdn d ≤ 600
  | 0, _ => by decide
  | 1, _ => by decide
  | 2, _ => by decide
  | 3, _ => by decide
  | n + 4, h => absurd h (by omega)
theorem drawn_sng {B D : List Pr} {R S : List Row} (hB : B ∈ thingsB) (hD : D ∈ truthsB) (mR : Mixed B R) (mS : Mixed D S) {deep : Nat} (hd : deep ≤ 3) {s : Sn} (d : DSn R S [] deep s) : SnG s := by
  have b : (thingsB.all fun B => B.all fun p => decide (p.1 ∈ allN)) = true := by decide +kernel
  have c : (truthsB.all fun B => B.all fun p => decide (p.1 ∈ allN)) = true := by decide +kernel
  refine ⟨d.ok, d.wf, Nat.le_trans d.size (sns_few deep hd), fun q hq => ?_⟩
  rcases d.names q hq with z | z
  · exact mixed_names mR (fun p hp => of_decide_eq_true (List.all_eq_true.mp (List.all_eq_true.mp b B hB) p hp)) z
  · exact mixed_names mS (fun p hp => of_decide_eq_true (List.all_eq_true.mp (List.all_eq_true.mp c D hD) p hp)) z
theorem nodup_sub {α : Type} [DecidableEq α] : ∀ {l m : List α}, l.Nodup → (∀ x ∈ l, x ∈ m) → l.length ≤ m.length
  | [], m, _, _ => Nat.zero_le _
  | a :: l, m, nd, h => by
    obtain ⟨n1, n2⟩ := List.nodup_cons.mp nd
    have ha := h a List.mem_cons_self
    have ih := nodup_sub (m := m.erase a) n2 (fun x hx => (List.mem_erase_of_ne (fun e => n1 (by rw [← e]; exact hx))).mpr (h x (List.mem_cons_of_mem _ hx)))
    have le := List.length_erase_of_mem ha
    have pos := List.length_pos_of_mem ha
    rw [List.length_cons]
    omega
theorem bars_at : bars "nil" 0 = "nil" ∧ bars "nil" 1 = "nil_" ∧ bars "nil" 2 = "nil__" := ⟨by decide +kernel, by decide +kernel, by decide +kernel⟩
theorem bars_len : ∀ j : Nat, j < 3 → (bars "nil" j).length + 1 ≤ sizeLine
  | 0, _ => by rw [sizeLine_eq]; decide +kernel
  | 1, _ => by rw [sizeLine_eq]; decide +kernel
  | 2, _ => by rw [sizeLine_eq]; decide +kernel
  | n + 3, h => absurd h (by omega)
theorem odC_of {l : List Oc} (nd : (l.map (·.1)).Nodup) (sub : ∀ x ∈ l.map (·.1), x ∈ allN) : ∃ m, OdC l m ∧ m ≤ 4 := by
  have few : l.length ≤ 19 := by
    have := nodup_sub nd sub
    rw [List.length_map] at this
    have e : allN.length = 12 := rfl
    omega
  have yes : ("yes" : Str) ∉ l.map (·.1) := fun z => (allN_ok _ (sub _ z)).2.1 rfl
  obtain ⟨b0, b1, b2⟩ := bars_at
  by_cases h0 : ("nil" : Str) ∈ l.map (·.1)
  · by_cases h1 : ("nil_" : Str) ∈ l.map (·.1)
    · refine ⟨2, ⟨yes, few, fun j hj => ?_, by rw [b2]; exact fun z => (allN_ok _ (sub _ z)).2.2.1 rfl, by rw [b2]; decide +kernel, fun j hj => bars_len j (by omega)⟩, by decide⟩
      match j, hj with
      | 0, _ => rw [b0]; exact h0
      | 1, _ => rw [b1]; exact h1
    · refine ⟨1, ⟨yes, few, fun j hj => ?_, by rw [b1]; exact h1, by rw [b1]; decide +kernel, fun j hj => bars_len j (by omega)⟩, by decide⟩
      match j, hj with
      | 0, _ => rw [b0]; exact h0
  · exact ⟨0, ⟨yes, few, fun j hj => absurd hj (Nat.not_lt_zero _), by rw [b0]; exact h0, by rw [b0]; decide +kernel, fun j hj => absurd hj (Nat.not_lt_zero _)⟩, by decide⟩
theorem occs_few : ∀ {ss : List Sn}, (∀ s ∈ ss, SnG s) → (Sn.occsL ss).length ≤ ss.length * 1600
  | [], _ => Nat.zero_le _
  | s :: ss, h => by
    have g := h s List.mem_cons_self
    have h1 := s.occs_len g.wf
    have h2 := g.size
    have h3 := occs_few (ss := ss) fun t ht => h t (List.mem_cons_of_mem _ ht)
    show (s.occs ++ Sn.occsL ss).length ≤ (ss.length + 1) * 1600
    rw [List.length_append]
    omega
theorem occs_names : ∀ {ss : List Sn}, (∀ s ∈ ss, SnG s) → ∀ q ∈ Sn.occsL ss, q.1 ∈ allN
  | [], _, q, hq => absurd hq List.not_mem_nil
  | s :: ss, h, q, hq => by
    rcases List.mem_append.mp (show q ∈ s.occs ++ Sn.occsL ss from hq) with z | z
    · exact (h s List.mem_cons_self).names q z
    · exact occs_names (ss := ss) (fun t ht => h t (List.mem_cons_of_mem _ ht)) q z
/-- the sentences, as a list -/
def SL (K : PySem.W.Frag) (G : Hp) (a : Addr) (ss : List Sn) : Prop := ∃ xs, G a = some (.lst xs) ∧ DpAll K G xs (ss.map Sn.d) ∧ (∀ s ∈ ss, SnG s) ∧ ss.length ≤ 4
theorem SL.same {K : PySem.W.Frag} {G G' : Hp} (s : Same G G') {a : Addr} {ss : List Sn} (h : SL K G a ss) : SL K G' a ss := by
  obtain ⟨xs, e, d, g, f⟩ := h
  exact ⟨xs, s _ _ e, dpAll_same s d, g, f⟩
theorem pen_lst' {G G' : Hp} {p l : Addr} {ns : List Int} {c : Nat} (P : Pn.Pen G p l ns c) (b : Pn.But p G G') {a : Addr} {xs : List V} (h : G a = some (.lst xs)) : G' a = some (.lst xs) := by
  obtain ⟨⟨_, _, _, e, _⟩, _⟩ := P
  exact b _ _ (fun z => by rw [z, e] at h; cases h) h
theorem SL.pen {K : PySem.W.Frag} {G G' : Hp} {p l : Addr} {ns : List Int} {c : Nat} (P : Pn.Pen G p l ns c) (b : Pn.But p G G') {a : Addr} {ss : List Sn} (h : SL K G a ss) : SL K G' a ss := by
  obtain ⟨xs, e, d, g, f⟩ := h
  exact ⟨xs, pen_lst' P b e, pen_dpAll P b d, g, f⟩
theorem SL.tab {K : PySem.W.Frag} {G G' : Hp} {Pt : Addr} (t : TabG G Pt) (b : Pn.But Pt G G') {a : Addr} {ss : List Sn} (h : SL K G a ss) : SL K G' a ss := by
  obtain ⟨xs, e, d, g, f⟩ := h
  obtain ⟨ps, et, _⟩ := id t
  exact ⟨xs, b _ _ (fun z => by rw [z, et] at e; cases e) e, tab_dpAll t b d, g, f⟩
theorem sns_tkD {K : PySem.W.Frag} {H H' : Hp} (k : TK H H') : ∀ {ss : List Sn} {vs : List V}, (∀ s ∈ ss, s.wf = true) → DpAll K H vs (ss.map Sn.d) → DpAll K H' vs (ss.map Sn.d)
  | [], _, _, h => by
    cases h
    exact .nil
  | s :: ss, _, w, h => by
    cases h with
    | cons h1 h2 => exact .cons (sn_tk k s _ (w s List.mem_cons_self) h1) (sns_tkD k (fun t ht => w t (List.mem_cons_of_mem _ ht)) h2)
theorem tabg_pen {G G' : Hp} {p l Pt : Addr} {ns : List Int} {c : Nat} (P : Pn.Pen G p l ns c) (b : Pn.But p G G') (t : TabG G Pt) : TabG G' Pt := by
  obtain ⟨⟨_, _, _, e, _⟩, _⟩ := P
  obtain ⟨ps, et, h⟩ := t
  exact ⟨ps, b _ _ (fun z => by rw [z, e] at et; cases et) et, h⟩
theorem tabs_but {G G' : Hp} {P Pt : Addr} {nm : Str} (ne : P ≠ Pt) (t : TabG G Pt) (b : Pn.But Pt G G') (s : LamX.TabS G P nm) : LamX.TabS G' P nm := by
  obtain ⟨ps, et, _⟩ := t
  obtain ⟨qs, e, h1, h2⟩ := s
  refine ⟨qs, b _ _ ne e, h1, fun pos cv hc => ?_⟩
  obtain ⟨d, ed, at'⟩ := h2 pos cv hc
  exact ⟨d, ed, b _ _ (fun z => by rw [z, et] at at'; exact LamX.codeO_ne ps (Option.some.inj at').symm) at'⟩
theorem tabs_pen {G G' : Hp} {p l P : Addr} {nm : Str} {ns : List Int} {c : Nat} (Pp : Pn.Pen G p l ns c) (b : Pn.But p G G') (s : LamX.TabS G P nm) : LamX.TabS G' P nm := by
  obtain ⟨⟨_, _, _, e0, _⟩, _⟩ := Pp
  obtain ⟨qs, e, h1, h2⟩ := s
  refine ⟨qs, b _ _ (fun z => by rw [z, e0] at e; cases e) e, h1, fun pos cv hc => ?_⟩
  obtain ⟨d, ed, at'⟩ := h2 pos cv hc
  exact ⟨d, ed, b _ _ (fun z => by
    rw [z, e0] at at'
    have z2 := Option.some.inj at'
    unfold LamX.CodeO at z2
    cases z2) at'⟩
theorem pen_tab {G G' : Hp} {p l Pt : Addr} {ns : List Int} {c : Nat} (P : Pn.Pen G p l ns c) (t : TabG G Pt) (b : Pn.But Pt G G') : Pn.Pen G' p l ns c := by
  obtain ⟨ps, et, _⟩ := t
  have := P
  obtain ⟨⟨a, d, f, e, h⟩, hl⟩ := P
  refine ⟨⟨a, d, f, b _ _ (fun z => by rw [z, et] at e; cases e) e, h⟩, ?_⟩
  exact b _ _ (fun z => by rw [z, et] at hl; cases hl) hl
theorem pen_lst_upd {G : Hp} {p l d : Addr} {ns : List Int} {c : Nat} {xs : List V} (P : Pn.Pen G p l ns c) (e : G d = some (.lst xs)) (dp : d ≠ p) (dl : d ≠ l) (o : HO) : Pn.Pen (upd G d o) p l ns c := by
  obtain ⟨⟨a, d', f, ep, h⟩, hl⟩ := P
  exact ⟨⟨a, d', f, by rw [upd_ne dp.symm]; exact ep, h⟩, by rw [upd_ne dl.symm]; exact hl⟩
theorem tabs_lst {G : Hp} {P d : Addr} {nm : Str} {xs : List V} (e : G d = some (.lst xs)) {o : HO} (s : LamX.TabS G P nm) : LamX.TabS (upd G d o) P nm := by
  obtain ⟨qs, e1, h1, h2⟩ := s
  refine ⟨qs, by rw [upd_ne (fun z => by rw [z, e] at e1; cases e1)]; exact e1, h1, fun pos cv hc => ?_⟩
  obtain ⟨c, ec, at'⟩ := h2 pos cv hc
  refine ⟨c, ec, ?_⟩
  rw [upd_ne (fun z => by
    rw [z, e] at at'
    have z2 := Option.some.inj at'
    unfold LamX.CodeO at z2
    cases z2)]
  exact at'
theorem tabg_lst {G : Hp} {P d : Addr} {xs : List V} (e : G d = some (.lst xs)) {o : HO} (s : TabG G P) : TabG (upd G d o) P := by
  obtain ⟨qs, e1, h1⟩ := s
  exact ⟨qs, by rw [upd_ne (fun z => by rw [z, e] at e1; cases e1)]; exact e1, h1⟩
theorem tabs_ne {G : Hp} {P d : Addr} {nm : Str} {o : HO} (s : LamX.TabS G P nm) (e : G d = some o) (n : ∀ ps, o ≠ .tbl ps) : d ≠ P := fun z => by
  obtain ⟨qs, e1, _⟩ := s
  rw [z, e1] at e
  exact n qs (Option.some.inj e).symm
theorem lst_but {G G' : Hp} {P d : Addr} {nm : Str} {xs : List V} (s : LamX.TabS G P nm) (b : Pn.But P G G') (e : G d = some (.lst xs)) : G' d = some (.lst xs) := b _ _ (tabs_ne s e (fun _ z => nomatch z)) e
theorem tg_of {G : Hp} {P : Addr} {nm : Str} (s : LamX.TabS G P nm) : TabG G P := by
  obtain ⟨qs, e1, h1, _⟩ := s
  exact ⟨qs, e1, h1⟩
theorem dpAll_but {K : PySem.W.Frag} {G G' : Hp} {P : Addr} {nm : Str} {ds : List PyData} {vs : List V} (s : LamX.TabS G P nm) (b : Pn.But P G G') (h : DpAll K G vs ds) : DpAll K G' vs ds := tab_dpAll (tg_of s) b h
theorem tabg_but {G G' : Hp} {P Q : Addr} {nm : Str} (ne : P ≠ Q) (s : LamX.TabS G P nm) (t : TabG G Q) (b : Pn.But P G G') : TabG G' Q := by
  obtain ⟨ps, e, h⟩ := t
  exact ⟨ps, b _ _ ne.symm e, h⟩
theorem tab_lst {G G' : Hp} {Pt d : Addr} {xs : List V} (t : TabG G Pt) (b : Pn.But Pt G G') (e : G d = some (.lst xs)) : G' d = some (.lst xs) := by
  obtain ⟨ps, et, _⟩ := t
  exact b _ _ (fun z => by rw [z, et] at e; cases e) e
def oddD5 : List PyData := [.str "nobody", .str "", .int 5, .none, .tuple [.str "a"], .str "nil__"]
theorem odd5_lay : ∀ d ∈ oddD5, Lay 1 d := by
  have h : (oddD5.all fun d => d.canLay0 && decide (d.depth ≤ 1)) = true := by decide +kernel
  intro d hd
  obtain ⟨h1, h2⟩ := Bool.and_eq_true_iff.mp (List.all_eq_true.mp h d hd)
  exact ⟨h1, of_decide_eq_true h2⟩
theorem odd5_bad {N T : List Str} (sub : ∀ y ∈ N, y ∈ allN) : ∀ d ∈ oddD5, isSt d = false ∨ ∃ x, d = .str x ∧ (x ∉ N ∨ x ∈ T) := by
  intro d hd
  simp only [oddD5, List.mem_cons, List.mem_nil_iff, or_false] at hd
  rcases hd with rfl | rfl | rfl | rfl | rfl | rfl
  · exact .inr ⟨_, rfl, .inl fun z => (allN_ok _ (sub _ z)).2.2.2.1 rfl⟩
  · exact .inr ⟨_, rfl, .inl fun z => (allN_ok _ (sub _ z)).2.2.2.2 rfl⟩
  · exact .inl rfl
  · exact .inl rfl
  · exact .inl rfl
  · exact .inr ⟨_, rfl, .inl fun z => (allN_ok _ (sub _ z)).2.2.1 rfl⟩
theorem erase_map {α β : Type} (f : α → β) : ∀ (l : List α) (k : Nat), (l.map f).eraseIdx k = (l.eraseIdx k).map f
  | [], _ => rfl
  | _ :: _, 0 => rfl
  | a :: l, k + 1 => congrArg (f a :: ·) (erase_map f l k)
/-- an empty tuple stands at a -/
def dtB (K : PySem.W.Frag) (a : Addr) : Bool := match K.lookup a with
  | some ⟨.type c, _, .seq its _, _⟩ => decide (c = "tuple") && its.toList.isEmpty
  | _ => false
theorem dtB_ok {K : PySem.W.Frag} {a : Addr} (h : dtB K a = true) (H : Hp) : SqT K H a [] := by
  unfold dtB at h
  split at h
  · rename_i c d its n sl e
    obtain ⟨h1, h2⟩ := Bool.and_eq_true_iff.mp h
    have em : its.toList = [] := List.isEmpty_iff.mp h2
    have sz : its.size = 0 := by
      have := congrArg List.length em
      simpa using this
    refine .inr ⟨_, its, n, e, congrArg Value.type (of_decide_eq_true h1), rfl, by omega, ?_⟩
    rw [em]
    exact .nil
  · cases h
def rTupO (K : PySem.W.Frag) : List V → Hp → VK → Prop := fun xs H Q => ∃ p ys, xs = [V.ref p] ∧ ((SqL K H p ys ∧ ∀ (l : Addr), H l = none → Q (V.ref l) (upd H l (.tup ys))) ∨ SqT K H p ys ∧ Q (V.ref p) H)
theorem call_tupO {X : Cx} : CallR X (.type "tuple") (rTupO X.K) := call_tuple_of
end Ad

/-! isinstance of a caught exception of an own class that has a dict. -/
namespace Ev
open PySem PySem.Spec PySem.Calls PyProof.Rows
section
variable {prog : Program} {w : World} {A : Around} {E : Value → Shared → Prop} {s : Shared} {K : PySem.W.Frag} {x D : Addr} {ox : Obj} {od : Option Obj}
open PySem.W in
/-- the class that its own attribute tells -/
theorem ask_class {Q : Option Value → Shared → Prop} (C : L2.ExcC K D) (X : K.In s.heap) (I : InstAt s.heap x ox D od) (done : Q (some (.ref D)) { s with toks := s.toks + 1 }) :
    wpAny (model prog w) A (getAttr? (.ref x) "__class__") Q E s := by
  obtain ⟨hga, hgt, hsub, hdct, hcls, hget, htk, hmr⟩ := C
  have found : findObj K D od "__class__" = some (.bind (.builtin "getset_descriptor.__get__") (.builtin "object.__class__")) := by
    obtain ⟨cd, hc, _⟩ := any_some hdct
    unfold findObj
    rw [hc, Option.bind_some, hcls, Option.bind_some]
    simp [hget, htk]
  obtain ⟨hp, gs, dr, tk, os⟩ := s
  have T0 := I.type (M := model prog w)
  have T1 := looks_findIn (M := model prog w) X hga
  have T2 := looks_findIn (M := model prog w) X hgt
  have T3 := looks_find (M := model prog w) X I found
  have isx : PySem.W.Looks (model prog w) hp (isInstance (.ref x) (.type "BaseException")) true := T0.andThen (looks_subIn X hsub)
  have g0 : (false && onTheHeap (Value.builtin "BaseException.__getattribute__")) = false := by rfl
  have g1 : (Value.builtin "BaseException.__getattribute__" == .builtin "object.__getattribute__") = false := by decide +kernel
  have g2 : (onTheHeap (Value.ref D) && Value.builtin "BaseException.__getattribute__" == .builtin "object.__getattribute__") = false := by
    rw [g1]
    rfl
  unfold getAttr? getAttrBy? getAttrBy
  refine wpAny_bind ?_
  refine wpAny_mkText ?_
  refine wpAny_bind ?_
  refine wpAny_attempt ?_
  refine wpAny_holding ?_
  refine wpAny_bind (T0.at ?_)
  refine wpAny_bind (T1.at ?_)
  change wpAny _ _ (if (onTheHeap (Value.ref D) && Value.builtin "BaseException.__getattribute__" == .builtin "object.__getattribute__") = true then _ else _) _ _ _
  rw [g2]
  rw [if_neg Bool.false_ne_true]
  unfold getAttrByItsOwn
  unfold hookBefore
  refine wpAny_bind ?_
  rw [if_pos (by rfl : onTheHeap (Value.ref D) = true)]
  refine T2.at ?_
  refine wpAny_bind ?_
  refine wpAny_attempt ?_
  refine wpAny_holding ?_
  unfold callGetattribute
  rw [g0]
  rw [if_neg Bool.false_ne_true]
  unfold boundAndCalled
  rw [PySem.F.excAttr_ValueError.ga.bind (.ref x)]
  refine wpAny_bind ?_
  refine wpAny_pure ?_
  change wpAny _ _ (call (.builtin "BaseException.__getattribute__") [.ref x, .str "__class__" tk]) _ _ _
  refine wpAny_call ?_
  refine codeAny_call_builtin PySem.F.excAttr_ValueError.ga.plain PySem.F.entry_bexc_ga ?_
  refine @check_slot (model prog w) _ _ ⟨hp, gs, dr, tk + 1, os⟩ "BaseException.__getattribute__" "BaseException" "__getattribute__" (.ref x) [.str "__class__" tk] [] _ (by decide +kernel) (by decide +kernel) isx
    (PySem.F.args_bexc_ga (.ref x) (.str "__class__" tk)) ?_
  unfold Builtin.«object.__getattribute__»
  refine wpAny_bind ?_
  refine wpAny_of_eq (a := ((Value.ref x : Value), [Value.str "__class__" tk])) (by first | rfl | (simp only [slotArgs]; rfl)) ?_
  refine wpAny_bind ?_
  refine wpAny_pure ?_
  refine wpAny_bind (T0.at ?_)
  refine wpAny_bind (T3.at ?_)
  change wpAny _ _ (holding [Value.builtin "object.__class__"] (call (.builtin "getset_descriptor.__get__") [.builtin "object.__class__", .ref x, .ref D]) >>= ret) _ _ _
  refine wpAny_bind ?_
  refine wpAny_holding ?_
  refine wpAny_call ?_
  refine class_get (s := ⟨hp, gs, dr, tk + 1, os⟩) (ox := ox) (od := od) X I hmr ?_
  refine wpAny_pure ?_
  change wpAny _ _ (handedOut (.ref D)) _ _ _
  rw [handedOut_of (v := .ref D) rfl]
  first
    | exact wpAny_pure (wpAny_pure done)
    | exact wpAny_pure done
    | exact wpAny_pure (wpAny_bind (wpAny_pure (wpAny_pure done)))
open PySem.W in
theorem kit_exc (C : L2.ExcC K D) : KitX K (.ref x) (.ref D) (fun h => ∃ ox od, InstAt h x ox D od) := by
  obtain ⟨cd, hcd, _⟩ := any_some C.hd
  have stands : ∃ c d n sl, K.lookup D = some ⟨c, d, .cls n, sl⟩ := by
    unfold clsIn at hcd
    split at hcd
    · rename_i c d n sl e
      exact ⟨c, d, n, sl, e⟩
    · cases hcd
  obtain ⟨c, d, n, sl, e⟩ := stands
  constructor
  · rintro _ _ _ ⟨_, _, I⟩
    exact I.type
  · intro _ h X _ A' Q' E' s' kp q
    unfold isType
    unfold loadHead
    exact wpAny_bind (wpAny_loadPart (kp _ _ (X _ _ e)) (wpAny_pure q))
  · intro h tp dd its m sl' X htp
    cases q : (Value.ref D == Value.ref tp) with
    | false => rfl
    | true =>
      have same : D = tp := Value.ref.inj (beq_iff_eq.mp q)
      subst same
      rw [X _ _ e] at htp
      cases htp
  · rintro prog w A E Q s X ⟨ox, od, I⟩ q
    exact ask_class C X I q
end
end Ev
namespace Ad
open PySem PySem.Spec PySem.Calls PyProof.Rows L2
def rIsX (K : PySem.W.Frag) (a : Addr) (cls : Value) (d : Option Addr) : List V → Hp → VK → Prop := fun xs H Q => ∃ (c : V) (cv : Value) (D dd : Addr) (fs : List (Str × V)) (b : Bool), xs = [.ref a, c] ∧ cls = .ref D ∧ d = some dd ∧ H dd = some (.xd fs) ∧ ExcC K D ∧ ClsV c cv ∧ PySem.W.kitOne K (.ref D) cv = some b ∧ Q (.bl b) H
theorem call_isXd {X : Cx} {a : Addr} {oe : Obj} {cls : Value} {d : Option Addr} {pn : List (Addr × Obj)} (hz : Zc cls d oe) (hf : ∃ vs, oe.data = .fields vs) : CallR (X.suite a ((a, oe) :: pn)) (.builtin "isinstance") (rIsX X.K a cls d) := by
  intro pins s σ H xs us Q J rel ask
  obtain ⟨c, cv, D, dd, fs, b, rfl, rfl, rfl, ed, C, hc, fact, q⟩ := ask
  match us, rel with
  | [u1, u2], .cons r1 (.cons r2 .nil) =>
    cases (show u1 = Value.ref a from r1)
    have same := hc.eq r2
    subst same
    obtain ⟨ha, _⟩ := J.pin (a, oe) (List.mem_append_left _ List.mem_cons_self)
    obtain ⟨vs, hd⟩ := hf
    have hx : ObjOk X.prog X.w H s.heap dd (.xd fs) := J.hok dd _ ed
    obtain ⟨mA, hns, hr⟩ := hx
    obtain ⟨o, ho, hl⟩ := lookIn_ns hns
    have I : PySem.W.InstAt s.heap a oe D (some o) := ⟨ha, hz.1, by unfold PySem.W.notCls; rw [hd] <;> rfl, by rw [hz.2]; exact ho⟩
    exact PySem.W.kia_one (Ev.kit_exc (x := a) C) J.kIn ⟨_, some o, I⟩ fact (fun z => nomatch z) fun tk => ⟨.bl b, H, J.tok tk, rfl, q⟩
/-- what isinstance asks of a class of exceptions, in one look -/
def xcB (K : PySem.W.Frag) (D : Addr) : Bool :=
  decide (PySem.W.findIn K (.ref D) "__class__" = some (some (.builtin "object.__class__"))) && (decide (PySem.W.specialIn K (.builtin "object.__class__") "__get__" = some (some (.builtin "getset_descriptor.__get__"))) &&
  (decide (PySem.W.takesIn K (.builtin "object.__class__") = some true) && (decide (PySem.W.mroIn K D (.type "object") = some true) && xfB K D)))
theorem xcB_ok {K : PySem.W.Frag} {D : Addr} (h : xcB K D = true) : ExcC K D := by
  unfold xcB at h
  simp only [Bool.and_eq_true, decide_eq_true_eq] at h
  obtain ⟨h1, h2, h3, h4, h8⟩ := h
  have x := xfB_ok h8
  exact ⟨x.ga, x.gg, x.exC, x.hdC, h1, h2, h3, h4⟩
end Ad

/-! The def that tells an error's fields: Unlike, BadName. -/
namespace Ad
open PySem PySem.Spec PySem.Calls PyProof.Rows L2
def TWhyK (CU CN : Addr) : (XK → Hp → VK → Prop) → Hp → VK → Prop := fun tl H Q =>
  tl (fun cls d H' => (cls = .ref CU ∧ ∃ (dd : Addr) (x : Str), d = some dd ∧ H' dd = some (.xd [("what", .str x)]) ∧ ∀ t, H' t = none → Q (.ref t) (upd H' t (.tup [.str "unlike", .str x]))) ∨
    (cls = .ref CN ∧ ∃ (dd : Addr) (v : V), d = some dd ∧ H' dd = some (.xd [("name", v)]) ∧ ∀ t, H' t = none → Q (.ref t) (upd H' t (.tup [.str "name", v, .bl true])))) H (fun _ H' => Q .non H')
abbrev sWhyK : Stmt := topS 28
theorem scWhyK : FnScope ["_law_call", "e"] ["_law_call"] (defScope sWhyK) := ⟨rfl, rfl, rfl, by decide +kernel, rfl, by decide +kernel, by decide +kernel⟩
theorem whyk_gives {X : Cx} {g CU CN CS fU fN : Addr} {cdg : Value} {q : Str} (TU : Er X.K CU fU "what") (TN : Er X.K CN fN "name") (mU : X.mg "Unlike" = some (.ref CU)) (mN : X.mg "BadName" = some (.ref CN)) (mS : X.mg "SettleError" = some (.ref CS)) (kS : PySem.W.keepIn X.K (.ref CS) = true) (mI : X.mg "isinstance" = none)
    (xU : PySem.W.exmOne X.K (.ref CU) (.ref CU) = some true) (xN : PySem.W.exmOne X.K (.ref CN) (.ref CU) = some false) (xM : PySem.W.exmOne X.K (.ref CN) (.ref CN) = some true) (xc : ExcC X.K CN) (kit : PySem.W.kitOne X.K (.ref CN) (.ref CS) = some true) :
    LamX.GivesTo X ["_law_call", "e"] "_law_why" (defScope sWhyK) g cdg (defBody sWhyK) "_law_call" q (TWhyK CU CN) := by
  intro f c' s H Q tl act hc h
  refine ⟨_, pss_cons (Tm.ps_tryAs (i := 1) (X := (cxOf C8.CX0 X.prog X.w X.K X.mg X.base ["_law_call", "e"] "_law_why" (defScope sWhyK) g cdg X.A X.stack s H C8.E0).nox) (Wout := fun _ _ _ _ => False)
      (tb := fun W D σ H => ∃ Ech : XK, (∀ cls d σ' H', Ech cls d H' → W cls d σ' H') ∧ σ[0]? = some (some (.ref f)) ∧ H c' = some (LamX.CodeO c' q) ∧ tl Ech H (fun _ H' => D.nx σ H'))
      rfl rfl scWhyK.nd rfl (by rfl) LamX.takes0 (fun W pn xe tk _ => ?_)
      (.next (c := .ref CU) ⟨by rfl, by decide, .inl mU⟩ (fun a oe cls d pn z fs => pss_one (ps_ret (pe_tup (pa_cons pe_str (pa_cons (pe_xf TU.xf TU.no z fs (pv 1)) pa_nil)))))
      (.next (c := .ref CN) ⟨by rfl, by decide, .inl mN⟩ (fun a oe cls d pn z fs => pss_one (ps_ret (pe_tup (pa_cons pe_str (pa_cons (pe_xf TN.xf TN.no z fs (pv 1)) (pa_cons (pe_callB (r := rIsX X.K a cls d) (call_isXd z fs) (by rfl) mI (by decide +kernel) (pa_cons (pv 1) (pa_cons (pe_glob (v := .ref CS) (by rfl) mS rfl) pa_nil))) pa_nil)))))) .done))) (pss_one (ps_ret pe_non)), ?_⟩
  · refine ⟨fun pins s' σ H' D I h' => ?_⟩
    obtain ⟨Ech, hW, h1, h2, h3⟩ := h'
    exact (pss_one (ps_expr (act W pn xe Ech _ _ tk hW))).run pins s' σ H' D I ⟨h1, h2, h3⟩
  · refine ⟨_, fun cls d σ' H' hw => ?_, rfl, hc, h⟩
    rcases hw with ⟨rfl, dd, x, rfl, e1, e3⟩ | ⟨rfl, dd, v, rfl, e1, e3⟩
    · refine ⟨true, xU, fun _ a na lt => ?_, fun z => (nomatch z)⟩
      have at1 : (σ'.set 1 (some (V.ref a)))[1]? = some (some (.ref a)) := by simp [lt]
      exact ⟨.ref a, at1, rfl, rfl, dd, _, .str x, rfl, e1, rfl, by show 2 ≤ sizeLine; rw [sizeLine_eq]; decide, fun t nt => e3 t nt⟩
    · refine ⟨false, xN, fun z => (nomatch z), fun _ => ⟨true, xM, fun _ a na lt => ?_, fun z => (nomatch z)⟩⟩
      have at1 : (σ'.set 1 (some (V.ref a)))[1]? = some (some (.ref a)) := by simp [lt]
      exact ⟨.ref a, at1, rfl, rfl, dd, _, v, rfl, e1, rfl, .ref a, at1, .ref CS, .ref CS, CN, dd, _, true, rfl, rfl, rfl, e1, xc, .own CS, kit, by show 3 ≤ sizeLine; rw [sizeLine_eq]; decide, fun t nt => e3 t nt⟩
end Ad

/-! The law's own kinds. -/
namespace Ad
open PySem PySem.Spec PySem.Calls PyProof.Rows L2
abbrev sDue : Stmt := topS 31
theorem scDue : FnScope ["_law_sentences", "_law_seen", "_law_known", "_law_sentence", "_law_name", "_law_arity", "_law_is_truth", "_law_things"] ["_law_sentences"] (defScope sDue) := ⟨rfl, rfl, rfl, by decide +kernel, rfl, by decide +kernel, by decide +kernel⟩
abbrev fKl : Oc → List V := fun q => [.int (q.2.1 : Int), .bl q.2.2]
theorem kl_eqv (b c : Bool) (i j : Int) : PyData.eqv (.tuple [.int i, .bool b]) (.tuple [.int j, .bool c]) = (decide (i = j) && decide (b = c)) := by
  cases b <;> cases c <;> simp [PyData.eqv, PyData.eqvAll] <;> first | rfl | exact Bool.beq_eq_decide_eq _ _ | skip
theorem lc_part {K : PySem.W.Frag} {sl d : Addr} {l : List Oc} {kvs : List (L2.Key × V)} {b : Bool} {s0 s3 s4 s5 s6 s7 : Option V} {G1 : Hp} {tt : TT} {Q : VK} (eG : G1 d = some (.dK kvs)) (es : G1 sl = some (.lst ((l.map (·.1)).map V.str))) (fk : F2 (KnV K fKl G1) l kvs) (nodup : (l.map (·.1)).Nodup) (few : l.length ≤ 100000)
    (htt : ∀ (G' : Hp) (x : Str) (bq : Addr) (q : Oc) (Qt : Bool → Hp → Prop), DGet G' d (.str x) (some (.ref bq)) → SqT K G' bq (fKl q) → Qt (q.2.2 == b) G' → tt [s0, some (.ref sl), some (.ref d), s3, some (.str x), s5, s6, s7] G' Qt)
    (q : ∀ D G acc, Same G1 G → G1 D = none → G D = some (.lst acc) → F2 (PrV K G) (Kn.part b l) acc → Q (.ref D) G) :
    tLc (iList K (tVar 1)) (gName 4) tt (tTup (tCons (tVar 4) (tCons (tOp (rIxT K) (tDGet (tVar 2) (tVar 4)) (tC (.int 0))) tNil))) [4] [s0, some (.ref sl), some (.ref d), s3, s4, s5, s6, s7] G1 Q := by
  refine ⟨.ref sl, rfl, sl, rfl, ⟨_, .inl (.inl es)⟩, fun D nD => lc_list (K := K) (a := sl) (xs := (l.map (·.1)).map V.str) (fun i G => Same G1 G ∧ ∃ acc, G D = some (.lst acc) ∧ F2 (PrV K G) (Kn.part b (l.take i)) acc) ⟨same_new (fun b o e => e) nD _, [], upd_same, rfl⟩ (fun i G _ h => .inl (.inl (h.1 _ _ es))) ?_ ?_⟩
  · rintro i y G hy ⟨sm, acc, gD, fa⟩
    rw [List.getElem?_map, List.getElem?_map] at hy
    obtain ⟨x, hx, rfl⟩ := Option.map_eq_some_iff.mp hy
    obtain ⟨qq, hq, rfl⟩ := Option.map_eq_some_iff.mp hx
    have fkG := fk.mono (KnV.mono (TK.same sm))
    obtain ⟨bq, val, sq⟩ := kn_some fkG (Kn.look_at nodup (List.mem_of_getElem? hq))
    have get : DGet G d (.str qq.1) (some (.ref bq)) := .inl ⟨kvs, .inr qq.1, .inl (sm _ _ eG), rfl, val.symm⟩
    refine ⟨rfl, htt G qq.1 bq qq _ get sq ?_⟩
    have tk := take_next hq
    have lys := fa.len
    have pl := Kn.part_len b (l.take i)
    have li : (l.take i).length ≤ l.length := by rw [List.length_take]; exact Nat.min_le_right _ _
    cases hb : (qq.2.2 == b) with
    | false =>
      refine iteF ⟨sm, acc, gD, ?_⟩
      rw [tk, Kn.part_app, Kn.part_one, hb, if_neg (by decide), List.append_nil]
      exact fa
    | true =>
      refine iteT ⟨.str qq.1, rfl, .ref d, rfl, .str qq.1, rfl, d, .ref bq, rfl, get, bq, _, 0, _, rfl, rfl, sq, atI_nat (j := 0) rfl, (by show 2 ≤ sizeLine; rw [sizeLine_eq]; decide), fun t nt => ?_⟩
      have s4 : Same G (upd G t (.tup [.str qq.1, .int (qq.2.1 : Int)])) := same_new (fun b o e => e) nt _
      have e4 : (upd G t (.tup [.str qq.1, .int (qq.2.1 : Int)])) t = some (.tup [.str qq.1, .int (qq.2.1 : Int)]) := upd_same
      have g4 := s4 _ _ gD
      generalize upd G t (.tup [.str qq.1, .int (qq.2.1 : Int)]) = G4 at s4 e4 g4
      have k5 : TK G4 (upd G4 D (.lst (acc ++ [.ref t]))) := TK.lst g4 _
      refine ⟨acc, g4, by rw [sizeLine_eq]; omega, same_on (sm.trans s4) nD _, _, upd_same, ?_⟩
      rw [tk, Kn.part_app, Kn.part_one, hb, if_pos rfl]
      exact F2.app ((fa.mono (PrV.mono (TK.same s4))).mono (PrV.mono k5)) (F2.one ⟨t, rfl, k5.sq (.inl (.inl e4))⟩)
  · rintro G ⟨sm, acc, gD, fa⟩
    rw [List.length_map, List.length_map, List.take_length] at fa
    exact q D G acc sm nD gD fa
section
variable {P : Program} {w : World} {K : PySem.W.Frag} {mg : Str → Option Value} {base : Heap}
def spDue (K : PySem.W.Frag) : Sp := fun vs H Q _ => ∃ (a : Addr) (xs : List V) (ss : List Sn) (Hb : Hp), vs = [.ref a] ∧ SqX K H a xs ∧ Same Hb H ∧ DpAll K Hb xs (ss.map Sn.d) ∧ (∀ s ∈ ss, s.ok = true ∧ s.wf = true ∧ s.size ≤ 40) ∧ (Sn.occsL ss).length ≤ 100000 ∧
  (∀ x, Kn.scan [] (Sn.occsL ss) = .inl x → ∀ H' p t u, Same H H' → SqT K H' p [.ref t, .ref u, .str x] → Q (.ref p) H') ∧
  ∀ l, Kn.scan [] (Sn.occsL ss) = .inr l → ∀ H' p t u xs ys, Same H H' → SqT K H' p [.ref t, .ref u, .non] → H' t = some (.lst xs) → F2 (PrV K H') (Kn.part false l) xs → H' u = some (.lst ys) → F2 (PrV K H') (Kn.part true l) ys → Q (.ref p) H'
theorem ok_due {f fL : Addr} {fd fdL : FuncData} {k : Nat} (F : Fun K "_law_due" "_law_due" sDue f fd) (hL : Has P w K mg base k "_law_in" ["_law_sentence"] (spLIn K 40) fL fdL) : FnOk P w K mg base CX0 (k + 1) f fd ["_law_sentences"] (spDue K) := by
  refine F.ok scDue (fun vs H Q E h => ?_) (fun cdv A outer s H vs Q E hr h => ?_)
  · obtain ⟨a, xs, ss, Hb, rfl, _⟩ := h
    rfl
  · obtain ⟨a, xs, ss, Hb, rfl, hx, hb, hd, each, few, hbad, hgood⟩ := h
    refine' ⟨_, pss_cons ?s1 (pss_cons ?s2 (pss_cons ?s3 (pss_one ?s4))), ?_⟩
    case s1 => exact (ps_asg (pe_tup (pa_cons (pe_lst pa_nil) (pa_cons pe_dnewK pa_nil))) (pg_tup rfl (pgs_cons (pg_name (i := 1) scDue.nd rfl (.inl rfl)) (pgs_cons (pg_name (i := 2) scDue.nd rfl (.inr rfl)) pgs_nil))))
    case s2 => exact (ps_for PassesOwn.never rfl (Et.pi_any (pv 0)) (pg_name (i := 3) scDue.nd rfl (.inl rfl))
      (pss_one (ps_for PassesOwn.never rfl (pi_list (pe_call hL.G hr (by rfl) hL.g hL.kp hL.b .nil pass0 (pa_cons (pv 3) pa_nil))) (pg_tup rfl (pgs_cons (pg_name (i := 4) scDue.nd rfl (.inl rfl)) (pgs_cons (pg_name (i := 5) scDue.nd rfl (.inl rfl)) (pgs_cons (pg_name (i := 6) scDue.nd rfl (.inl rfl)) pgs_nil))))
        (pss_one (ps_if (pt_cmp (pc_dnotin (hu1 hr) (pv 4) (pv 2)))
          (pss_cons (ps_dput (hu1 hr) (pv 2) (pv 4) (pe_tup (pa_cons (pv 5) (pa_cons (pv 6) pa_nil))) rfl)
          (pss_one (ps_expr (pe_bm PySem.F.plainAttrs_list PySem.F.slot_list_append PySem.F.type_list_append mt_append (pv 1) (pa_cons (pv 4) pa_nil))))) (pss_one (ps_if (pt_cmpR (op_neD (hu64 hr)) (pe_dget (hu1 hr) (pv 2) (pv 4) (fun _ _ => rfl)) (pe_tup (pa_cons (pv 5) (pa_cons (pv 6) pa_nil))) (nomark _))
            (pss_one (ps_ret (pe_tup (pa_cons (pe_lst pa_nil) (pa_cons (pe_lst pa_nil) (pa_cons (pv 4) pa_nil)))))) pss_nil)))))))
    case s3 => exact (ps_setLc (i := 7) (own := [("_law_name", 4)]) (g := gName 4) (tt := tNot (tB (tOp (rIxT K) (tDGet (tVar 2) (tVar 4)) (tC (.int 1))))) (te := tTup (tCons (tVar 4) (tCons (tOp (rIxT K) (tDGet (tVar 2) (tVar 4)) (tC (.int 0))) tNil))) rfl scDue.nd rfl rfl (sw_true rfl rfl rfl (by decide +kernel)) (pi_list (pv 1)) (blkOk_by (N := ["_law_sentences", "_law_seen", "_law_known", "_law_sentence", "_law_name", "_law_arity", "_law_is_truth", "_law_things"]) (sc := defScope sDue) (by decide +kernel)) (fun _ _ _ _ _ => (pg_name (i := 4) scDue.nd rfl (.inl rfl))) (fun _ _ _ _ _ => pts_one (pt_not (pt_val (pe_ix ix_tup (pe_dget (hu1 hr) (pv 2) (pv 4) (fun _ _ => rfl)) pe_int (fun _ _ => rfl))))) (fun _ _ _ _ _ => (pe_tup (pa_cons (pv 4) (pa_cons (pe_ix ix_tup (pe_dget (hu1 hr) (pv 2) (pv 4) (fun _ _ => rfl)) pe_int (fun _ _ => rfl)) pa_nil)))))
    case s4 => exact (ps_ret (pe_tup (pa_cons (pv 7) (pa_cons (pe_lc (own := [("_law_name", 4)]) (g := gName 4) (tt := tB (tOp (rIxT K) (tDGet (tVar 2) (tVar 4)) (tC (.int 1)))) (te := tTup (tCons (tVar 4) (tCons (tOp (rIxT K) (tDGet (tVar 2) (tVar 4)) (tC (.int 0))) tNil))) rfl scDue.nd (pi_list (pv 1)) (blkOk_by (N := ["_law_sentences", "_law_seen", "_law_known", "_law_sentence", "_law_name", "_law_arity", "_law_is_truth", "_law_things"]) (sc := defScope sDue) (by decide +kernel)) (fun _ _ _ _ _ => (pg_name (i := 4) scDue.nd rfl (.inl rfl))) (fun _ _ _ _ _ => pts_one (pt_val (pe_ix ix_tup (pe_dget (hu1 hr) (pv 2) (pv 4) (fun _ _ => rfl)) pe_int (fun _ _ => rfl)))) (fun _ _ _ _ _ => (pe_tup (pa_cons (pv 4) (pa_cons (pe_ix ix_tup (pe_dget (hu1 hr) (pv 2) (pv 4) (fun _ _ => rfl)) pe_int (fun _ _ => rfl)) pa_nil))))) (pa_cons pe_non pa_nil)))))
    refine ⟨Nat.zero_le _, fun sl nsl d nd => ⟨by show 2 ≤ sizeLine; rw [sizeLine_eq]; decide, fun tp ntp => ?_⟩⟩
    have s1 : Same H (upd H sl (.lst [])) := same_new (fun b o e => e) nsl _
    have e1 : (upd H sl (.lst [])) sl = some (.lst []) := upd_same
    generalize upd H sl (.lst []) = H1 at s1 e1 nd ntp
    have s2 : Same H1 (upd H1 d (.dK [])) := same_new (fun b o e => e) nd _
    have e2 : (upd H1 d (.dK [])) d = some (.dK []) := upd_same
    have e1' := s2 _ _ e1
    have nd0 : H d = none := none_before s1 nd
    generalize upd H1 d (.dK []) = H2 at s2 e2 e1' ntp
    have s3 : Same H2 (upd H2 tp (.tup [.ref sl, .ref d])) := same_new (fun b o e => e) ntp _
    refine ⟨tp, _, rfl, .inl (.inl upd_same), rfl, _, _, rfl, _, _, rfl, rfl, ?_⟩
    have s03 : Same H (upd H2 tp (.tup [.ref sl, .ref d])) := (s1.trans s2).trans s3
    have g1 := s3 _ _ e1'
    have g2 := s3 _ _ e2
    generalize upd H2 tp (.tup [.ref sl, .ref d]) = H3 at s03 g1 g2
    clear s1 s2 s3 e1 e1' e2 ntp nd
    have sld : sl ≠ d := fun z => by rw [z, g2] at g1; cases g1
    have ld := dpAll_len hd
    rw [List.length_map] at ld
    refine for_any (j := 0) (Hr := H) rfl hx (fun i σ G => ∃ (v3 v4 v5 v6 : Option V) (l : List Oc) (kvs : List (L2.Key × V)), σ = [some (.ref a), some (.ref sl), some (.ref d), v3, v4, v5, v6, none] ∧ Same H G ∧ G sl = some (.lst ((l.map (·.1)).map V.str)) ∧ G d = some (.dK kvs) ∧ F2 (KnV K fKl G) l kvs ∧ Kn.scan [] (Sn.occsL (ss.take i)) = .inr l)
      ⟨none, none, none, none, [], [], rfl, s03, g1, g2, rfl, rfl⟩ (fun i σ G _ ⟨_, _, _, _, _, _, _, sm, _⟩ => sm) ?_ ?_
    · clear s03 g1 g2
      rintro i x σ G hx' ⟨v3, v4, v5, v6, l, kvs, rfl, sm, gs, gd, fk, sc⟩
      obtain ⟨u, hu, hdx⟩ := dpAll_get hd hx'
      rw [List.getElem?_map] at hu
      obtain ⟨t, ht, rfl⟩ := Option.map_eq_some_iff.mp hu
      obtain ⟨ok, wf, size⟩ := each t (List.mem_of_getElem? ht)
      obtain ⟨rest, hrest⟩ := occsL_drop ht
      refine ⟨x, rfl, t, x, Hb, rfl, hb.trans sm, hdx, ok, wf, size, by decide, fun G1 ap ys s1 np eap fa => ?_⟩
      have nas : ap ≠ sl := fun z => by rw [z, gs] at np; cases np
      have nad : ap ≠ d := fun z => by rw [z, gd] at np; cases np
      have la := fa.len
      refine ⟨ap, rfl, ⟨_, .inl (.inl eap)⟩, for_list (K := K) (a := ap) (xs := ys) (fun j σ G => ∃ (v4 v5 v6 : Option V) (l : List Oc) (kvs : List (L2.Key × V)), σ = [some (.ref a), some (.ref sl), some (.ref d), some x, v4, v5, v6, none] ∧ Same H G ∧ G sl = some (.lst ((l.map (·.1)).map V.str)) ∧ G d = some (.dK kvs) ∧ F2 (KnV K fKl G) l kvs ∧ G ap = some (.lst ys) ∧ F2 (OcV K G) t.occs ys ∧ Kn.scan [] (Sn.occsL (ss.take i) ++ t.occs.take j) = .inr l)
        ⟨v4, v5, v6, l, kvs, rfl, sm.trans s1, s1 _ _ gs, s1 _ _ gd, fk.mono (KnV.mono (TK.same s1)), eap, fa, ?_⟩ (fun j σ G _ ⟨_, _, _, _, _, _, _, _, _, _, h, _⟩ => .inl (.inl h)) ?_ ?_⟩
      · show Kn.scan [] (Sn.occsL (ss.take i) ++ []) = _
        rw [List.append_nil]
        exact sc
      · clear fa eap fk gs gd sm sc s1 np
        rintro j y σ G hy ⟨v4, v5, v6, l, kvs, rfl, sm, gs, gd, fk, eap, fa, sc⟩
        obtain ⟨qq, hq, b, rfl, sb⟩ := fa.get hy
        have tk := take_next hq
        refine ⟨b, _, rfl, sb, rfl, _, _, rfl, _, _, rfl, _, _, rfl, rfl, ?_⟩
        have total : Sn.occsL ss = (Sn.occsL (ss.take i) ++ t.occs.take j) ++ qq :: (t.occs.drop (j + 1) ++ rest) := by
          obtain ⟨jl, e2⟩ := List.getElem?_eq_some_iff.mp hq
          have e3 : t.occs.drop j = qq :: t.occs.drop (j + 1) := by rw [List.drop_eq_getElem_cons jl, e2]
          rw [hrest, List.append_assoc, ← List.cons_append, ← e3, ← List.append_assoc (t.occs.take j), List.take_append_drop]
        have lfew := scan_len _ sc
        have lk := fk.len
        have few' := few
        rw [total, List.length_append, List.length_cons] at few'
        rw [List.length_nil] at lfew
        have dK : ∀ {G : Hp} {b : Addr} {q : Oc}, SqT K G b (fKl q) → Dp K G (.ref b) (.tuple [.int (q.2.1 : Int), .bool q.2.2]) := fun sq => .tup sq (.cons (.int _) (.cons (.bl _) .nil))
        refine ⟨.str qq.1, rfl, .ref d, rfl, d, _, rfl, DGet.k (k := Sum.inr qq.1) gd, !(Kn.look l qq.1).isSome, ?_, ?_⟩
        · cases hl : Kn.look l qq.1 with
          | none => rw [kn_none fk hl]; rfl
          | some zz =>
            obtain ⟨bk, ev, sk⟩ := kn_some fk hl
            rw [ev]
            rfl
        cases hl : Kn.look l qq.1 with
        | none =>
          have hv := kn_none fk hl
          refine iteT ⟨.int (qq.2.1 : Int), rfl, .bl qq.2.2, rfl, (by show 2 ≤ sizeLine; rw [sizeLine_eq]; decide), fun tk2 ntk => ?_⟩
          have s2 : Same G (upd G tk2 (.tup [.int (qq.2.1 : Int), .bl qq.2.2])) := same_new (fun b o e => e) ntk _
          have e2 : (upd G tk2 (.tup [.int (qq.2.1 : Int), .bl qq.2.2])) tk2 = some (.tup [.int (qq.2.1 : Int), .bl qq.2.2]) := upd_same
          replace sm := sm.trans s2
          replace gs := s2 _ _ gs
          replace gd := s2 _ _ gd
          replace fk := fk.mono (KnV.mono (TK.same s2))
          replace eap := s2 _ _ eap
          replace fa := fa.mono (OcV.mono (TK.same s2))
          generalize upd G tk2 (.tup [.int (qq.2.1 : Int), .bl qq.2.2]) = G2 at sm gs gd fk eap fa e2
          have ndk : tk2 ≠ d := fun z => by rw [← z, e2] at gd; cases gd
          refine ⟨.ref d, rfl, .str qq.1, rfl, d, _, rfl, DPut.k (k := .inr qq.1) gd (by rw [sizeLine_eq]; omega), ?_⟩
          have put : putK kvs (.inr qq.1) (.ref tk2) = kvs ++ [(.inr qq.1, .ref tk2)] := putK_new _ hv
          rw [put]
          have k3 : TK G2 (upd G2 d (.dK (kvs ++ [(.inr qq.1, .ref tk2)]))) := TK.any gd (fun _ z => nomatch z) (fun _ _ z => nomatch z) _
          have sm3 : Same H (upd G2 d (.dK (kvs ++ [(.inr qq.1, .ref tk2)]))) := same_on sm nd0 _
          have e3 : (upd G2 d (.dK (kvs ++ [(.inr qq.1, .ref tk2)]))) d = some (.dK (kvs ++ [(.inr qq.1, .ref tk2)])) := upd_same
          have e23 : (upd G2 d (.dK (kvs ++ [(.inr qq.1, .ref tk2)]))) tk2 = some (.tup [.int (qq.2.1 : Int), .bl qq.2.2]) := by rw [upd_ne ndk]; exact e2
          have gs3 : (upd G2 d (.dK (kvs ++ [(.inr qq.1, .ref tk2)]))) sl = some (.lst ((l.map (·.1)).map V.str)) := by rw [upd_ne sld]; exact gs
          have ap3 : (upd G2 d (.dK (kvs ++ [(.inr qq.1, .ref tk2)]))) ap = some (.lst ys) := by rw [upd_ne nad]; exact eap
          replace fk := fk.mono (KnV.mono k3)
          replace fa := fa.mono (OcV.mono k3)
          generalize upd G2 d (.dK (kvs ++ [(.inr qq.1, .ref tk2)])) = G3 at sm3 e3 e23 gs3 ap3 fk fa
          have k4 : TK G3 (upd G3 sl (.lst ((l.map (·.1)).map V.str ++ [.str qq.1]))) := TK.lst gs3 _
          refine ⟨.ref sl, rfl, .inl ⟨rfl, _, .inl (.inl gs3)⟩, .str qq.1, rfl, sl, _, .str qq.1, rfl, rfl, gs3, (by rw [List.length_map, List.length_map, sizeLine_eq]; omega), _, _, _, l ++ [qq], _, rfl, same_on sm3 nsl _, ?_, ?_, F2.app (fk.mono (KnV.mono k4)) (F2.one (a := qq) (b := ((.inr qq.1 : L2.Key), V.ref tk2)) ⟨rfl, tk2, rfl, k4.sq (.inl (.inl e23))⟩), ?_, fa.mono (OcV.mono k4), ?_⟩
          · rw [upd_same, List.map_append, List.map_append]
            rfl
          · rw [upd_ne sld.symm]
            exact e3
          · rw [upd_ne nas]
            exact ap3
          · rw [tk, ← List.append_assoc]
            exact Kn.scan_new sc hl
        | some zz =>
          obtain ⟨bk, ev, sk⟩ := kn_some fk hl
          refine iteF ⟨.ref d, rfl, .str qq.1, rfl, d, .ref bk, rfl, .inl ⟨_, .inr qq.1, .inl gd, rfl, ev.symm⟩, .int (qq.2.1 : Int), rfl, .bl qq.2.2, rfl, (by show 2 ≤ sizeLine; rw [sizeLine_eq]; decide), fun tk2 ntk => ?_⟩
          have s2 : Same G (upd G tk2 (.tup [.int (qq.2.1 : Int), .bl qq.2.2])) := same_new (fun b o e => e) ntk _
          have e2 : (upd G tk2 (.tup [.int (qq.2.1 : Int), .bl qq.2.2])) tk2 = some (.tup [.int (qq.2.1 : Int), .bl qq.2.2]) := upd_same
          replace sm := sm.trans s2
          replace gs := s2 _ _ gs
          replace gd := s2 _ _ gd
          replace fk := fk.mono (KnV.mono (TK.same s2))
          replace eap := s2 _ _ eap
          replace fa := fa.mono (OcV.mono (TK.same s2))
          replace sk := (TK.same s2).sq sk
          generalize upd G tk2 (.tup [.int (qq.2.1 : Int), .bl qq.2.2]) = G2 at sm gs gd fk eap fa e2 sk
          refine ⟨_, _, dK sk, dK (q := qq) (.inl (.inl e2)), rfl, rfl, _, rfl, ?_⟩
          rw [kl_eqv]
          by_cases same : zz = qq.2
          · subst same
            rw [decide_eq_true rfl, decide_eq_true rfl]
            refine iteF ⟨_, _, _, l, kvs, rfl, sm, gs, gd, fk, eap, fa, ?_⟩
            rw [tk, ← List.append_assoc]
            exact Kn.scan_old sc hl
          · have ne : (decide (((qq.1, zz) : Oc).2.1 = ((qq.2.1 : Nat) : Int)) && decide (((qq.1, zz) : Oc).2.2 = qq.2.2)) = false := by
              rw [Bool.and_eq_false_iff]
              by_cases h1 : zz.2 = qq.2.2
              · refine .inl (decide_eq_false (fun z => same ?_))
                have z' : zz.1 = qq.2.1 := by
                  have z2 : (zz.1 : Int) = (qq.2.1 : Int) := z
                  omega
                exact Prod.ext z' h1
              · exact .inr (decide_eq_false h1)
            rw [ne]
            refine iteT ?_
            have bad := hbad qq.1 (by rw [total]; exact Kn.scan_bad sc hl same _)
            refine ⟨Nat.zero_le _, fun t1 n1 => ⟨Nat.zero_le _, fun t2 n2 => ⟨.str qq.1, rfl, by show 3 ≤ sizeLine; rw [sizeLine_eq]; decide, fun p np => ?_⟩⟩⟩
            have s3 : Same G2 (upd G2 t1 (.lst [])) := same_new (fun b o e => e) n1 _
            have s4 := same_new (o := .lst []) s3 n2
            have s5 := same_new (o := .tup [.ref t1, .ref t2, .str qq.1]) s4 np
            exact bad _ p t1 t2 (sm.trans s5) (.inl (.inl upd_same))
      · rintro σ G ⟨v4, v5, v6, l, kvs, rfl, sm, gs, gd, fk, eap, fa, sc⟩
        refine ⟨_, _, _, _, l, kvs, rfl, sm, gs, gd, fk, ?_⟩
        rw [la, List.take_length] at sc
        rw [occsL_take ht]
        exact sc
    · clear s03 g1 g2
      rintro σ G ⟨v3, v4, v5, v6, l, kvs, rfl, sm, gs, gd, fk, sc⟩
      rw [ld, List.take_length] at sc
      have good := hgood l sc
      obtain ⟨nodup, _⟩ := Kn.scan_ok _ sc (by simp)
      have lfew := scan_len _ sc
      rw [List.length_nil] at lfew
      refine to_set (lc_part (b := false) gd gs fk nodup (by omega) (fun G' x bq q Qt get sq h => ?_) fun D1 G1 a1 s1 n1 eD1 f1 => ?_)
      · refine ⟨.ref d, rfl, .str x, rfl, d, .ref bq, rfl, get, bq, _, 1, .bl q.2.2, rfl, rfl, sq, atI_nat (j := 1) rfl, _, rfl, ?_⟩
        rw [(beqs _).2] at h
        exact h
      refine ⟨.ref D1, rfl, lc_part (b := true) (s1 _ _ gd) (s1 _ _ gs) (fk.mono (KnV.mono (TK.same s1))) nodup (by omega) (fun G' x bq q Qt get sq h => ?_) fun D2 G2 a2 s2 n2 eD2 f2 => ?_⟩
      · refine ⟨.ref d, rfl, .str x, rfl, d, .ref bq, rfl, get, bq, _, 1, .bl q.2.2, rfl, rfl, sq, atI_nat (j := 1) rfl, _, rfl, ?_⟩
        rw [(beqs _).1] at h
        exact h
      refine ⟨by show 3 ≤ sizeLine; rw [sizeLine_eq]; decide, fun p np => ?_⟩
      have s3 : Same G2 (upd G2 p (.tup [.ref D1, .ref D2, .non])) := same_new (fun b o e => e) np _
      exact good _ p D1 D2 a1 a2 (sm.trans (s1.trans (s2.trans s3))) (.inl (.inl upd_same)) (s3 _ _ (s2 _ _ eD1)) (f1.mono (PrV.mono (TK.same (s2.trans s3)))) (s3 _ _ eD2) (f2.mono (PrV.mono (TK.same s3)))
end
end Ad

/-! The law's own order of names, compared. -/
namespace Ad
open PySem PySem.Spec PySem.Calls PyProof.Rows L2 GxR
abbrev sOrdRight : Stmt := topS 33
theorem scOrdRight : FnScope ["_law_sentences", "_law_things", "_law_truths", "_law_ranks", "_law_names", "_law_rows", "_law_kind", "_law_ranked", "_law_rank", "_law_spare", "_law_lap", "_law_told", "_law_name", "_law_arity", "_law_pair"] ["_law_sentences", "_law_things", "_law_truths", "_law_ranks"] (defScope sOrdRight) := ⟨rfl, rfl, rfl, by decide +kernel, rfl, by decide +kernel, by decide +kernel⟩
/-- what isinstance asks of a class -/
structure IsC (K : PySem.W.Frag) (C : Addr) : Prop where
  cl : Cls K C
  ha : PySem.W.findIn K (.ref C) "__class__" = some (some (.builtin "object.__class__"))
  hn : PySem.W.specialIn K (.builtin "object.__class__") "__get__" = some (some (.builtin "getset_descriptor.__get__"))
  ht : PySem.W.takesIn K (.builtin "object.__class__") = some true
  hm : PySem.W.mroIn K C (.type "object") = some true
  kit : PySem.W.kitOne K (.ref C) (.ref C) = some true
def isB (K : PySem.W.Frag) (C : Addr) : Bool :=
  decide (PySem.W.findIn K (.ref C) "__class__" = some (some (.builtin "object.__class__"))) && (decide (PySem.W.specialIn K (.builtin "object.__class__") "__get__" = some (some (.builtin "getset_descriptor.__get__"))) &&
  (decide (PySem.W.takesIn K (.builtin "object.__class__") = some true) && (decide (PySem.W.mroIn K C (.type "object") = some true) && decide (PySem.W.kitOne K (.ref C) (.ref C) = some true))))
theorem isB_ok {K : PySem.W.Frag} {C : Addr} (cl : Cls K C) (h : isB K C = true) : IsC K C := by
  unfold isB at h
  simp only [Bool.and_eq_true, decide_eq_true_eq] at h
  obtain ⟨h1, h2, h3, h4, h5⟩ := h
  exact ⟨cl, h1, h2, h3, h4, h5⟩
def LsR (K : PySem.W.Frag) (G : Hp) (rw : Addr) (R : List Row) (v : V) : Prop := ∃ b ys, v = .ref b ∧ b ≠ rw ∧ G b = some (.lst ys) ∧ F2 (RowV K G) R ys
theorem LsR.on {K : PySem.W.Frag} {G G' : Hp} {rw : Addr} (s : ∀ b o, b ≠ rw → G b = some o → G' b = some o) (k : TK G G') (R : List Row) (v : V) (h : LsR K G rw R v) : LsR K G' rw R v := by
  obtain ⟨b, ys, e, n, g, f⟩ := h
  exact ⟨b, ys, e, n, s _ _ n g, f.mono (RowV.mono k)⟩
theorem flat_len {α β : Type} {f : α → List β} {n : Nat} (h : ∀ a, (f a).length ≤ n) : ∀ T : List α, (T.flatMap f).length ≤ T.length * n
  | [] => by simp
  | a :: T => by
    rw [List.flatMap_cons, List.length_append, List.length_cons, Nat.add_mul]
    have h1 := h a
    have h2 := flat_len h T
    omega
theorem lrank_len (P : List Pr) (T T' : List Str) (hP : P.length ≤ 19) (hT : T'.length ≤ 40) : ((P.filter fun p => !decide (p.1 ∈ T)) ++ T'.flatMap (Rn.pick P)).length ≤ 1000 := by
  rw [List.length_append]
  have h1 := List.length_filter_le (fun p : Pr => !decide (p.1 ∈ T)) P
  have h2 := flat_len (f := Rn.pick P) (n := 19) (fun a => Nat.le_trans (List.length_filter_le _ _) hP) T'
  have h3 : T'.length * 19 ≤ 40 * 19 := Nat.mul_le_mul_right _ hT
  omega
theorem bars_ok : ∀ m : Nat, m ≤ 4 → PyData.strOk (bars "nil" m) = true
  | 0, _ => by decide +kernel
  | 1, _ => by decide +kernel
  | 2, _ => by decide +kernel
  | 3, _ => by decide +kernel
  | 4, _ => by decide +kernel
  | n + 5, h => absurd h (by omega)
theorem ones_dp {K : PySem.W.Frag} {H : Hp} : ∀ ps : List Pr, DpAll K H (ps.map fun _ => V.int 1) (ps.map fun _ => PyData.int 1)
  | [] => .nil
  | _ :: ps => .cons (.int 1) (ones_dp ps)
theorem no_zero {ps : List Pr} : (ps.filter fun p => decide (p.2 = 0)).isEmpty = !decide (∃ p ∈ ps, p.2 = 0) := by
  by_cases h : ∃ p ∈ ps, p.2 = 0
  · rw [decide_eq_true h]
    obtain ⟨p, hp, p0⟩ := h
    cases e : ps.filter fun p => decide (p.2 = 0) with
    | nil =>
      have : p ∈ ps.filter fun p => decide (p.2 = 0) := List.mem_filter.mpr ⟨hp, decide_eq_true p0⟩
      rw [e] at this
      cases this
    | cons q qs => rfl
  · rw [decide_eq_false h]
    cases e : ps.filter fun p => decide (p.2 = 0) with
    | nil => rfl
    | cons q qs =>
      have : q ∈ ps.filter fun p => decide (p.2 = 0) := by rw [e]; exact List.mem_cons_self
      obtain ⟨h1, h2⟩ := List.mem_filter.mp this
      exact absurd ⟨q, h1, of_decide_eq_true h2⟩ h
section
variable {P : Program} {w : World} {K : PySem.W.Frag} {mg : Str → Option Value} {base : Heap}
def spOrdRight (K : PySem.W.Frag) (Pt : Addr) : Sp := fun vs H Q _ => ∃ (a th tu rk : Addr) (xs ys zs : List V) (ss : List Sn) (l : List Oc) (T : List Str) (m : Nat) (Hb : Hp), vs = [.ref a, .ref th, .ref tu, .ref rk] ∧ SqX K H a xs ∧ Same Hb H ∧ DpAll K Hb xs (ss.map Sn.d) ∧ (∀ s ∈ ss, s.ok = true ∧ s.wf = true ∧ s.size ≤ 1000) ∧ (Sn.occsL ss).length ≤ 100000 ∧ TabG H Pt ∧
  Kn.scan [] (Sn.occsL ss) = .inr l ∧ OdC l m ∧ m ≤ 4 ∧ (∀ x ∈ l.map (·.1), PyData.strOk x = true) ∧ H th = some (.lst ys) ∧ F2 (PrV K H) (Od.things l) ys ∧ H tu = some (.lst zs) ∧ F2 (PrV K H) (Od.truths l) zs ∧
  SqT K H rk (T.map V.str) ∧ T.Nodup ∧ (∀ x ∈ T, x ∈ Od.names l) ∧ T.length ≤ 40 ∧ ∀ H', Pn.But Pt H H' → TabG H' Pt → Q (.bl true) H'
theorem ok_ordright {C CU CN f fO Pt dt : Addr} {fd fdO : FuncData} {dv : Value} {k : Nat} (F : Fun K "_law_order_right" "_law_order_right" sOrdRight f fd)
    (GO : FnOk P w K mg base (L2.CX P w) k fO fdO ["sentences", "ranks"] (spOrderOf K C CU CN Pt)) (gO : mg "order_of" = some (.ref fO)) (kO : PySem.W.keepIn K (.ref fO) = true) (bO2 : Binds K fdO ["sentences", "ranks"] []) (bO1 : Binds K fdO ["sentences", "ranks"] [dv]) (vD : Vals [.ref dt] [dv]) (hDt : ∀ H, SqT K H dt [])
    (gC : mg "Order" = some (.ref C)) (isC : IsC K C) (na1 : NoAttr K C "things") (na2 : NoAttr K C "truths") (m_range : mg "range" = none) (m_isinstance : mg "isinstance" = none) (m_tuple : mg "tuple" = none) : FnOk P w K mg base CX0 (k + 1) f fd ["_law_sentences", "_law_things", "_law_truths", "_law_ranks"] (spOrdRight K Pt) := by
  refine F.ok scOrdRight (fun vs H Q E h => ?_) (fun cdv A outer s H vs Q E hr h => ?_)
  · obtain ⟨a, th, tu, rk, xs, ys, zs, ss, l, T, m, Hb, rfl, _⟩ := h
    rfl
  · obtain ⟨a, th, tu, rk, xs, ys, zs, ss, l, T, m, Hb, rfl, hx, hb, hd, each, few, tab, sc, oc, m4, okn, eth, fth, etu, ftu, srk, ndT, subT, fewT, q⟩ := h
    refine' ⟨_, pss_cons ?s1 (pss_cons ?s2 (pss_cons ?s3 (C8.pss_cut ?s4 (C8.pss_cut ?s5 (pss_one ?s6))))), ?_⟩
    case s1 => exact (ps_setLc (i := 4) (own := [("_law_name", 12), ("_law_arity", 13)]) (g := gTup K 2 (gCons (gName 12) (gCons (gName 13) gNil))) (tt := tYes) (te := tVar 12) rfl scOrdRight.nd rfl rfl (sw_true rfl rfl rfl (by decide +kernel)) (pi_list (pe_op op_cat (pv 1) (pv 2))) (blkOk_by (N := ["_law_sentences", "_law_things", "_law_truths", "_law_ranks", "_law_names", "_law_rows", "_law_kind", "_law_ranked", "_law_rank", "_law_spare", "_law_lap", "_law_told", "_law_name", "_law_arity", "_law_pair"]) (sc := defScope sOrdRight) (by decide +kernel)) (fun _ _ _ _ _ => (pg_tup rfl (pgs_cons (pg_name (i := 12) scOrdRight.nd rfl (.inl rfl)) (pgs_cons (pg_name (i := 13) scOrdRight.nd rfl (.inl rfl)) pgs_nil)))) (fun _ _ _ _ _ => pts_nil) (fun _ _ _ _ _ => (pv 12)))
    case s2 => exact (ps_set (i := 5) scOrdRight.nd rfl (.inl rfl) (pe_lst pa_nil))
    case s3 => exact (ps_for PassesOwn.never rfl (pi_list (pe_lst (pa_cons (pv 1) (pa_cons (pv 2) pa_nil)))) (pg_name (i := 6) scOrdRight.nd rfl (.inl rfl))
      (pss_cons (ps_setLc (i := 7) (own := [("_law_pair", 14)]) (g := gName 14) (tt := tTest (tOp (rIn K true) (tOp (rIxT K) (tVar 14) (tC (.int 0))) (tVar 3))) (te := tVar 14) rfl scOrdRight.nd rfl rfl (sw_true rfl rfl rfl (by decide +kernel)) (pi_list (pv 6)) (blkOk_by (N := ["_law_sentences", "_law_things", "_law_truths", "_law_ranks", "_law_names", "_law_rows", "_law_kind", "_law_ranked", "_law_rank", "_law_spare", "_law_lap", "_law_told", "_law_name", "_law_arity", "_law_pair"]) (sc := defScope sOrdRight) (by decide +kernel)) (fun _ _ _ _ _ => (pg_name (i := 14) scOrdRight.nd rfl (.inl rfl))) (fun _ _ _ _ _ => pts_one (pt_cmpR op_notIn_seq (pe_ix ix_tup (pv 14) pe_int (fun _ _ => rfl)) (pv 3) (by with_unfolding_all rfl))) (fun _ _ _ _ _ => (pv 14)))
      (pss_cons (ps_for PassesOwn.never rfl (pi_tup (pv 3)) (pg_name (i := 8) scOrdRight.nd rfl (.inr rfl))
        (pss_one (ps_set (i := 7) scOrdRight.nd rfl (.inl rfl) (pe_op op_cat (pv 7) (pe_lc (own := [("_law_pair", 14)]) (g := gName 14) (tt := tTest (tOp rEq (tOp (rIxT K) (tVar 14) (tC (.int 0))) (tVar 8))) (te := tVar 14) rfl scOrdRight.nd (pi_list (pv 6)) (blkOk_by (N := ["_law_sentences", "_law_things", "_law_truths", "_law_ranks", "_law_names", "_law_rows", "_law_kind", "_law_ranked", "_law_rank", "_law_spare", "_law_lap", "_law_told", "_law_name", "_law_arity", "_law_pair"]) (sc := defScope sOrdRight) (by decide +kernel)) (fun _ _ _ _ _ => (pg_name (i := 14) scOrdRight.nd rfl (.inl rfl))) (fun _ _ _ _ _ => pts_one (pt_cmpR op_eq (pe_ix ix_tup (pv 14) pe_int (fun _ _ => rfl)) (pv 8) (nomark _))) (fun _ _ _ _ _ => (pv 14)))))))
      (pss_one (ps_expr (pe_bm PySem.F.plainAttrs_list PySem.F.slot_list_append PySem.F.type_list_append mt_append (pv 5) (pa_cons (pe_lc (own := [("_law_name", 12), ("_law_arity", 13)]) (g := gTup K 2 (gCons (gName 12) (gCons (gName 13) gNil))) (tt := tYes) (te := tTup (tCons (tVar 12) (tCons (tVar 13) (tCons (tC (.int 1)) tNil)))) rfl scOrdRight.nd (pi_list (pv 7)) (blkOk_by (N := ["_law_sentences", "_law_things", "_law_truths", "_law_ranks", "_law_names", "_law_rows", "_law_kind", "_law_ranked", "_law_rank", "_law_spare", "_law_lap", "_law_told", "_law_name", "_law_arity", "_law_pair"]) (sc := defScope sOrdRight) (by decide +kernel)) (fun _ _ _ _ _ => (pg_tup rfl (pgs_cons (pg_name (i := 12) scOrdRight.nd rfl (.inl rfl)) (pgs_cons (pg_name (i := 13) scOrdRight.nd rfl (.inl rfl)) pgs_nil)))) (fun _ _ _ _ _ => pts_nil) (fun _ _ _ _ _ => (pe_tup (pa_cons (pv 12) (pa_cons (pv 13) (pa_cons pe_int pa_nil)))))) pa_nil)))))))
    case s4 => exact (ps_if (pt_cmpR (op_eqD (hu64 hr)) (pe_lc (own := [("_law_name", 12), ("_law_arity", 13)]) (g := gTup K 2 (gCons (gName 12) (gCons (gName 13) gNil))) (tt := tTest (tOp rEq (tVar 13) (tC (.int 0)))) (te := tC (.int 1)) rfl scOrdRight.nd (pi_list (pv 1)) (blkOk_by (N := ["_law_sentences", "_law_things", "_law_truths", "_law_ranks", "_law_names", "_law_rows", "_law_kind", "_law_ranked", "_law_rank", "_law_spare", "_law_lap", "_law_told", "_law_name", "_law_arity", "_law_pair"]) (sc := defScope sOrdRight) (by decide +kernel)) (fun _ _ _ _ _ => (pg_tup rfl (pgs_cons (pg_name (i := 12) scOrdRight.nd rfl (.inl rfl)) (pgs_cons (pg_name (i := 13) scOrdRight.nd rfl (.inl rfl)) pgs_nil)))) (fun _ _ _ _ _ => pts_one (pt_cmpR op_eq (pv 13) pe_int (nomark _))) (fun _ _ _ _ _ => pe_int)) (pe_lst pa_nil) (nomark _))
      (pss_cons (ps_set (i := 9) scOrdRight.nd rfl (.inl rfl) pe_str)
      (pss_cons (ps_for PassesOwn.never rfl (pi_range1 (by rfl) m_range (pa_cons pe_int pa_nil)) (pg_name (i := 10) scOrdRight.nd rfl (.inl rfl))
        (pss_one (ps_if (pt_cmpR op_in_seq (pv 9) (pv 4) (by with_unfolding_all rfl))
          (pss_one (ps_set (i := 9) scOrdRight.nd rfl (.inl rfl) (pe_op op_add_str (pv 9) pe_str))) pss_nil)))
      (pss_one (ps_asg (pe_op op_cat (pe_lst (pa_cons (pe_tup (pa_cons (pv 9) (pa_cons pe_int (pa_cons pe_int pa_nil)))) pa_nil)) (pe_ix ix_list (pv 5) pe_int (fun _ _ => rfl))) (pg_sub (pv 5) pe_int set_list))))) pss_nil)
    case s5 => exact (ps_set (i := 11) scOrdRight.nd rfl (.inl rfl) (pe_ifExp (pt_cmpR (op_neD (hu64 hr)) (pv 3) (pe_tup pa_nil) (nomark _)) (pe_call GO hr (by rfl) gO kO bO2 .nil passL (pa_cons (pv 0) (pa_cons (pv 3) pa_nil))) (pe_call GO hr (by rfl) gO kO bO1 vD passL (pa_cons (pv 0) pa_nil))))
    case s6 => exact (ps_ret (pe_and (pe_callB call_isi (by rfl) m_isinstance (by decide +kernel) (pa_cons (pv 11) (pa_cons (pe_glob (v := .ref C) (by rfl) gC rfl) pa_nil))) (pe_and (pe_cmpR (op_eqD (hu64 hr)) (pe_fld (pv 11) rfl) (pe_callTy call_tuple_of (by rfl) m_tuple (by decide +kernel) (pa_cons (pe_ix ix_list (pv 5) pe_int (fun _ _ => rfl)) pa_nil)) (nomark _)) (pe_one (pe_cmpR (op_eqD (hu64 hr)) (pe_fld (pv 11) rfl) (pe_callTy call_tuple_of (by rfl) m_tuple (by decide +kernel) (pa_cons (pe_ix ix_list (pv 5) pe_int (fun _ _ => rfl)) pa_nil)) (nomark _))))))
    have lT := Nat.le_trans (Kn.part_len false l) oc.few
    have lU := Nat.le_trans (Kn.part_len true l) oc.few
    replace lT : (Od.things l).length ≤ 19 := lT
    replace lU : (Od.truths l).length ≤ 19 := lU
    have ly := fth.len
    have lz := ftu.len
    obtain ⟨nodup, _⟩ := Kn.scan_ok _ sc (by simp)
    refine ⟨.ref th, rfl, .ref tu, rfl, th, tu, _, _, rfl, rfl, eth, etu, by rw [sizeLine_eq]; omega, fun c nc => ?_⟩
    have s0 : Same H (upd H c (.lst (ys ++ zs))) := same_new (fun b o e => e) nc _
    have e0 : (upd H c (.lst (ys ++ zs))) c = some (.lst (ys ++ zs)) := upd_same
    generalize upd H c (.lst (ys ++ zs)) = G1 at s0 e0
    refine ⟨c, rfl, ⟨_, .inl (.inl e0)⟩, fun D nD => lc_list (K := K) (a := c) (xs := ys ++ zs) (fun i G => Same G1 G ∧ G D = some (.lst (((Od.names l).take i).map V.str))) ⟨same_new (fun b o e => e) nD _, upd_same⟩ (fun i G _ ⟨sm, _⟩ => .inl (.inl (sm _ _ e0))) ?_ ?_⟩
    · rintro i x G hxi ⟨sm, gD⟩
      obtain ⟨pr, hpr, bq, rfl, sqb⟩ := (F2.app fth ftu).get hxi
      have hn : (Od.names l)[i]? = some pr.1 := by
        unfold Od.names Rn.names
        rw [List.getElem?_map, hpr]
        rfl
      have il := (List.getElem?_eq_some_iff.mp hpr).1
      rw [List.length_append] at il
      refine ⟨bq, _, rfl, (TK.same (s0.trans sm)).sq sqb, rfl, _, _, rfl, _, _, rfl, rfl, rfl, _, rfl, _, gD, ?_, same_on sm nD _, ?_⟩
      · rw [List.length_map, List.length_take, sizeLine_eq]
        omega
      · rw [take_next hn, List.map_append, upd_same]
        rfl
    rintro G2 ⟨sm2, gD⟩
    have ln : (Od.names l).length = (ys ++ zs).length := by
      unfold Od.names Rn.names
      rw [List.length_map, List.length_append, List.length_append]
      omega
    rw [← ln, List.take_length] at gD
    have sH2 : Same H G2 := s0.trans sm2
    clear s0 e0 sm2 nc nD ln
    refine ⟨Nat.zero_le _, fun rw' nrw => ?_⟩
    have nrH := none_before sH2 nrw
    have s3 : Same G2 (upd G2 rw' (.lst [])) := same_new (fun b o e => e) nrw _
    have e3 : (upd G2 rw' (.lst [])) rw' = some (.lst []) := upd_same
    have Drw : D ≠ rw' := fun z => by rw [z, nrw] at gD; cases gD
    have sH3 := sH2.trans s3
    have gD3 := s3 _ _ gD
    generalize upd G2 rw' (.lst []) = G3 at s3 e3 sH3 gD3
    clear s3 gD sH2
    refine ⟨.ref th, rfl, .ref tu, rfl, (by show 2 ≤ sizeLine; rw [sizeLine_eq]; decide), fun lk nlk => ?_⟩
    have s4 : Same G3 (upd G3 lk (.lst [.ref th, .ref tu])) := same_new (fun b o e => e) nlk _
    have e4 : (upd G3 lk (.lst [.ref th, .ref tu])) lk = some (.lst [.ref th, .ref tu]) := upd_same
    have lkrw : lk ≠ rw' := fun z => by rw [z, e3] at nlk; cases nlk
    have sH4 := sH3.trans s4
    have gD4 := s4 _ _ gD3
    have gr4 := s4 _ _ e3
    generalize upd G3 lk (.lst [.ref th, .ref tu]) = G4 at e4 sH4 gD4 gr4 s4
    clear s4 nlk sH3 gD3 e3
    have hk : ∀ (i : Nat) (x : V), ([.ref th, .ref tu] : List V)[i]? = some x → ∃ kd Pk yk, x = .ref kd ∧ H kd = some (.lst yk) ∧ F2 (PrV K H) Pk yk ∧ ([Od.things l, Od.truths l] : List (List Pr))[i]? = some Pk ∧ Pk.length ≤ 19 := by
      intro i x hx
      match i, hx with
      | 0, hx => cases hx; exact ⟨th, _, ys, rfl, eth, fth, rfl, lT⟩
      | 1, hx => cases hx; exact ⟨tu, _, zs, rfl, etu, ftu, rfl, lU⟩
    refine ⟨lk, rfl, ⟨_, .inl (.inl e4)⟩, for_list (K := K) (a := lk) (xs := [.ref th, .ref tu]) (fun i σ G => ∃ (v6 v7 v8 : Option V) (Ds : List V), σ = [some (.ref a), some (.ref th), some (.ref tu), some (.ref rk), some (.ref D), some (.ref rw'), v6, v7, v8, none, none, none, none, none, none] ∧ Same H G ∧ G D = some (.lst ((Od.names l).map V.str)) ∧ G lk = some (.lst [.ref th, .ref tu]) ∧ G rw' = some (.lst Ds) ∧ F2 (LsR K G rw') ((([Od.things l, Od.truths l] : List (List Pr)).take i).map fun P => Rn.lrows P T) Ds)
      ⟨none, none, none, [], rfl, sH4, gD4, e4, gr4, rfl⟩ (fun i σ G _ ⟨_, _, _, _, _, _, _, h, _⟩ => .inl (.inl h)) ?_ ?_⟩
    · clear sH4 gD4 e4 gr4
      rintro i x σ G hxi ⟨v6, v7, v8, Ds, rfl, sm, gD, glk, grw, fDs⟩
      obtain ⟨kd, Pk, yk, rfl, ekd, fkd, hPk, lP⟩ := hk i x hxi
      have lyk := fkd.len
      have srkG := (TK.same sm).sq srk
      refine ⟨.ref kd, rfl, kd, rfl, ⟨_, .inl (.inl (sm _ _ ekd))⟩, fun D7 nD7 => lc_list (K := K) (a := kd) (xs := yk) (fun j G' => Same G G' ∧ ∃ acc, G' D7 = some (.lst acc) ∧ F2 (PrV K G') ((Pk.take j).filter fun p => !decide (p.1 ∈ T)) acc) ⟨same_new (fun b o e => e) nD7 _, [], upd_same, rfl⟩ (fun j G' _ h => .inl (.inl (h.1 _ _ (sm _ _ ekd)))) ?_ ?_⟩
      · rintro j y G' hy ⟨sm', acc, g7, fa⟩
        obtain ⟨pr, hpr, bq, rfl, sqb⟩ := fkd.get hy
        have sqb' := (TK.same (sm.trans sm')).sq sqb
        have ft := filter_take (fun p : Pr => !decide (p.1 ∈ T)) hpr
        have fl := List.length_filter_le (fun p : Pr => !decide (p.1 ∈ T)) (Pk.take j)
        rw [List.length_take] at fl
        have la := fa.len
        refine ⟨rfl, .ref bq, rfl, bq, _, 0, _, rfl, rfl, sqb', atI_nat (j := 0) rfl, .ref rk, rfl, rk, _, rfl, .inr ((TK.same sm').sq srkG), rfl, flat_texts T, !decide (pr.1 ∈ T), congrArg (fun z => V.bl (!z)) (inV_mem pr.1 T), ?_⟩
        cases hb' : (!decide (pr.1 ∈ T)) with
        | false =>
          refine iteF ⟨sm', acc, g7, ?_⟩
          rw [ft, hb', if_neg (by decide), List.append_nil]
          exact fa
        | true =>
          have k7 : TK G' (upd G' D7 (.lst (acc ++ [.ref bq]))) := TK.lst g7 _
          refine iteT ⟨.ref bq, rfl, acc, g7, (by rw [sizeLine_eq]; omega), same_on sm' nD7 _, _, upd_same, ?_⟩
          rw [ft, hb', if_pos rfl]
          exact F2.app (fa.mono (PrV.mono k7)) (F2.one ⟨bq, rfl, k7.sq sqb'⟩)
      rintro G5 ⟨sm5, a7, g7, f7⟩
      rw [lyk, List.take_length] at f7
      have sH5 := sm.trans sm5
      have gD5 := sm5 _ _ gD
      have glk5 := sm5 _ _ glk
      have grw5 := sm5 _ _ grw
      have fDs5 := F2.mono (LsR.on (fun b o _ e => sm5 _ _ e) (TK.same sm5)) fDs
      clear sm sm5 gD glk grw fDs srkG nD7
      have srk5 := (TK.same sH5).sq srk
      refine ⟨.ref rk, rfl, rk, rfl, ⟨_, srk5⟩, for_tup (K := K) (a := rk) (xs := T.map V.str) (fun j σ G => ∃ (v8 : Option V) (q7 : Addr) (acc : List V), σ = [some (.ref a), some (.ref th), some (.ref tu), some (.ref rk), some (.ref D), some (.ref rw'), some (.ref kd), some (.ref q7), v8, none, none, none, none, none, none] ∧ Same G5 G ∧ G q7 = some (.lst acc) ∧ F2 (PrV K G) ((Pk.filter fun p => !decide (p.1 ∈ T)) ++ (T.take j).flatMap (Rn.pick Pk)) acc)
        ⟨_, D7, a7, rfl, fun b o e => e, g7, ?_⟩ (fun j σ G _ ⟨_, _, _, _, s, _⟩ => (TK.same s).sq srk5) ?_ ?_⟩
      · show F2 _ (_ ++ ([] : List Str).flatMap (Rn.pick Pk)) _
        rw [List.flatMap_nil, List.append_nil]
        exact f7
      · rintro j y σ G hy ⟨v8, q7, acc, rfl, sm, gq, fa⟩
        rw [List.getElem?_map] at hy
        obtain ⟨x, hx2, rfl⟩ := Option.map_eq_some_iff.mp hy
        have hkd := sm _ _ (sH5 _ _ ekd)
        have fkdG := fkd.mono (PrV.mono (TK.same (sH5.trans sm)))
        refine ⟨.ref q7, rfl, .ref kd, rfl, kd, rfl, ⟨_, .inl (.inl hkd)⟩, fun D9 nD9 => lc_list (K := K) (a := kd) (xs := yk) (fun j G' => Same G G' ∧ ∃ acc, G' D9 = some (.lst acc) ∧ F2 (PrV K G') ((Pk.take j).filter fun p => decide (p.1 = x)) acc) ⟨same_new (fun b o e => e) nD9 _, [], upd_same, rfl⟩ (fun j G' _ h => .inl (.inl (h.1 _ _ hkd))) ?_ ?_⟩
        · rintro j' y G' hy' ⟨sm', acc', g9, fa'⟩
          obtain ⟨pr, hpr, bq, rfl, sqb⟩ := fkdG.get hy'
          have sqb' := (TK.same sm').sq sqb
          have ft := filter_take (fun p : Pr => decide (p.1 = x)) hpr
          have fl := List.length_filter_le (fun p : Pr => decide (p.1 = x)) (Pk.take j')
          rw [List.length_take] at fl
          have la := fa'.len
          refine ⟨rfl, .ref bq, rfl, bq, _, 0, _, rfl, rfl, sqb', atI_nat (j := 0) rfl, .str x, rfl, rfl, decide (pr.1 = x), ?_, ?_⟩
          · by_cases z : pr.1 = x
            · rw [decide_eq_true z, z]
              exact congrArg V.bl (decide_eq_true rfl)
            · rw [decide_eq_false z]
              exact congrArg V.bl (decide_eq_false fun y => z (V.str.inj y))
          cases hb' : decide (pr.1 = x) with
          | false =>
            refine iteF ⟨sm', acc', g9, ?_⟩
            rw [ft, hb', if_neg (by decide), List.append_nil]
            exact fa'
          | true =>
            have k7 : TK G' (upd G' D9 (.lst (acc' ++ [.ref bq]))) := TK.lst g9 _
            refine iteT ⟨.ref bq, rfl, acc', g9, (by rw [sizeLine_eq]; omega), same_on sm' nD9 _, _, upd_same, ?_⟩
            rw [ft, hb', if_pos rfl]
            exact F2.app (fa'.mono (PrV.mono k7)) (F2.one ⟨bq, rfl, k7.sq sqb'⟩)
        rintro G6 ⟨sm6, a9, g9, f9⟩
        rw [lyk, List.take_length] at f9
        have jl := (List.getElem?_eq_some_iff.mp hx2).1
        have la := fa.len
        have la9 := f9.len
        have b1 := lrank_len Pk T (T.take j) lP (by rw [List.length_take]; omega)
        have b2 := List.length_filter_le (fun p : Pr => decide (p.1 = x)) Pk
        refine ⟨q7, D9, acc, a9, rfl, rfl, sm6 _ _ gq, g9, by rw [sizeLine_eq]; omega, fun q8 nq8 => ?_⟩
        have s8 : Same G6 (upd G6 q8 (.lst (acc ++ a9))) := same_new (fun b o e => e) nq8 _
        refine ⟨_, q8, _, rfl, sm.trans (sm6.trans s8), upd_same, ?_⟩
        rw [take_next hx2, List.flatMap_append, ← List.append_assoc, List.flatMap_cons, List.flatMap_nil, List.append_nil]
        exact F2.app (fa.mono (PrV.mono (TK.same (sm6.trans s8)))) (f9.mono (PrV.mono (TK.same s8)))
      rintro σ G6 ⟨v8', q7, a8, rfl, sm6, gq, fa⟩
      rw [List.length_map, List.take_length] at fa
      have sH6 := sH5.trans sm6
      have grw6 := sm6 _ _ grw5
      have gD6 := sm6 _ _ gD5
      have glk6 := sm6 _ _ glk5
      have fDs6 := F2.mono (LsR.on (fun b o _ e => sm6 _ _ e) (TK.same sm6)) fDs5
      have la8 := fa.len
      have b1 := lrank_len Pk T T lP fewT
      refine ⟨.ref rw', rfl, .inl ⟨rfl, _, .inl (.inl grw6)⟩, .ref q7, rfl, q7, rfl, ⟨_, .inl (.inl gq)⟩, fun D8 nD8 => lc_list (K := K) (a := q7) (xs := a8) (fun j G' => Same G6 G' ∧ ∃ acc, G' D8 = some (.lst acc) ∧ F2 (RowV K G') (((Rn.lrank Pk T).take j).map fun p => ((p.1, p.2, 1) : Row)) acc) ⟨same_new (fun b o e => e) nD8 _, [], upd_same, rfl⟩ (fun j G' _ h => .inl (.inl (h.1 _ _ gq))) ?_ ?_⟩
      · rintro j y G' hy ⟨sm', acc, g8, fa'⟩
        obtain ⟨pr, hpr, bq, rfl, sqb⟩ := fa.get hy
        have hpr' : (Rn.lrank Pk T)[j]? = some pr := hpr
        have jl := (List.getElem?_eq_some_iff.mp hpr).1
        have la := fa'.len
        rw [List.length_map, List.length_take] at la
        refine ⟨bq, _, rfl, (TK.same sm').sq sqb, rfl, _, _, rfl, _, _, rfl, rfl, rfl, .str pr.1, rfl, .int (pr.2 : Int), rfl, (by show 3 ≤ sizeLine; rw [sizeLine_eq]; decide), fun t nt => ?_⟩
        have s9 : Same G' (upd G' t (.tup [.str pr.1, .int (pr.2 : Int), .int 1])) := same_new (fun b o e => e) nt _
        have e9 : (upd G' t (.tup [.str pr.1, .int (pr.2 : Int), .int 1])) t = some (.tup [.str pr.1, .int (pr.2 : Int), .int 1]) := upd_same
        have g9 := s9 _ _ g8
        generalize upd G' t (.tup [.str pr.1, .int (pr.2 : Int), .int 1]) = G9 at s9 e9 g9
        have k9 : TK G9 (upd G9 D8 (.lst (acc ++ [.ref t]))) := TK.lst g9 _
        refine ⟨acc, g9, by rw [sizeLine_eq]; omega, same_on (sm'.trans s9) nD8 _, _, upd_same, ?_⟩
        rw [take_next hpr', List.map_append]
        exact F2.app ((fa'.mono (RowV.mono (TK.same s9))).mono (RowV.mono k9)) (F2.one ⟨t, rfl, k9.sq (.inl (.inl e9))⟩)
      rintro G7 ⟨sm7, a10, g8, f8⟩
      have l8 : a8.length = (Rn.lrank Pk T).length := la8
      rw [l8, List.take_length] at f8
      have grw7 := sm7 _ _ grw6
      have D8rw : D8 ≠ rw' := fun z => by rw [z, grw6] at nD8; cases nD8
      have k10 : TK G7 (upd G7 rw' (.lst (Ds ++ [.ref D8]))) := TK.lst grw7 _
      have o10 : ∀ b o, b ≠ rw' → G7 b = some o → (upd G7 rw' (.lst (Ds ++ [.ref D8]))) b = some o := fun b o n e => by rw [upd_ne n]; exact e
      have fDs7 := F2.mono (LsR.on (fun b o _ e => sm7 _ _ e) (TK.same sm7)) fDs6
      have lds := fDs6.len
      have l2 : ([Od.things l, Od.truths l] : List (List Pr)).length = 2 := rfl
      rw [List.length_map, List.length_take, l2] at lds
      refine ⟨rw', Ds, .ref D8, rfl, rfl, grw7, by rw [sizeLine_eq]; omega, _, _, _, _, rfl, same_on (sH6.trans sm7) nrH _, o10 _ _ Drw (sm7 _ _ gD6), o10 _ _ lkrw (sm7 _ _ glk6), upd_same, ?_⟩
      rw [take_next hPk, List.map_append]
      exact F2.app (F2.mono (LsR.on o10 k10) fDs7) (F2.one ⟨D8, a10, rfl, D8rw, o10 _ _ D8rw g8, f8.mono (RowV.mono k10)⟩)
    · clear sH4 gD4 e4 gr4
      rintro σ G ⟨v6, v7, v8, Ds, rfl, sm, gD, glk, grw, fDs⟩
      obtain ⟨vv1, r1, rfl, ⟨b1, y1, rfl, nb1, gb1, fb1⟩, hr1⟩ := fDs
      obtain ⟨vv2, r2, rfl, ⟨b2, y2, rfl, nb2, gb2, fb2⟩, hr2⟩ := hr1
      cases (show r2 = [] from hr2)
      replace fb1 : F2 (RowV K G) (Rn.rows (Od.things l) T) y1 := by
        rw [Rn.rows_eq (show (Rn.names (Od.things l)).Nodup from part_nodup' nodup false)]
        exact fb1
      replace fb2 : F2 (RowV K G) (Od.S l T) y2 := by
        unfold Od.S
        rw [Rn.rows_eq (show (Rn.names (Od.truths l)).Nodup from part_nodup' nodup true)]
        exact fb2
      refine ⟨fun σ G => ∃ (v6 v7 v8 v9 v10 : Option V) (b0 : Addr) (y0 : List V), σ = [some (.ref a), some (.ref th), some (.ref tu), some (.ref rk), some (.ref D), some (.ref rw'), v6, v7, v8, v9, v10, none, none, none, none] ∧ Same H G ∧ G rw' = some (.lst [.ref b0, .ref b2]) ∧ G b0 = some (.lst y0) ∧ F2 (RowV K G) (Od.R l m T) y0 ∧ G b2 = some (.lst y2) ∧ F2 (RowV K G) (Od.S l T) y2, ?_, ?_⟩
      · have eth' := sm _ _ eth
        have fth' := fth.mono (PrV.mono (TK.same sm))
        refine ⟨.ref th, rfl, th, rfl, ⟨_, .inl (.inl eth')⟩, fun D2 nD2 => lc_list (K := K) (a := th) (xs := ys) (fun j G' => Same G G' ∧ G' D2 = some (.lst (((Od.things l).take j |>.filter fun p => decide (p.2 = 0)).map fun _ => V.int 1))) ⟨same_new (fun b o e => e) nD2 _, upd_same⟩ (fun j G' _ h => .inl (.inl (h.1 _ _ eth'))) ?_ ?_⟩
        · rintro j y G' hy ⟨sm', g9⟩
          obtain ⟨pr, hpr, bq, rfl, sqb⟩ := fth'.get hy
          have ft := filter_take (fun p : Pr => decide (p.2 = 0)) hpr
          have fl := List.length_filter_le (fun p : Pr => decide (p.2 = 0)) ((Od.things l).take j)
          rw [List.length_take] at fl
          refine ⟨bq, _, rfl, (TK.same sm').sq sqb, rfl, _, _, rfl, _, _, rfl, rfl, rfl, .int (pr.2 : Int), rfl, rfl, decide (pr.2 = 0), ?_, ?_⟩
          · by_cases z : pr.2 = 0
            · rw [decide_eq_true z, z]
              rfl
            · rw [decide_eq_false z]
              exact congrArg V.bl (decide_eq_false fun y => z (by have := V.int.inj y; omega))
          cases hb' : decide (pr.2 = 0) with
          | false =>
            refine iteF ⟨sm', ?_⟩
            rw [ft, hb', if_neg (by decide), List.append_nil]
            exact g9
          | true =>
            refine iteT ⟨_, g9, (by rw [List.length_map, sizeLine_eq]; omega), same_on sm' nD2 _, ?_⟩
            rw [ft, hb', if_pos rfl, List.map_append, upd_same]
            rfl
        rintro G2 ⟨sm2, g2⟩
        rw [ly, List.take_length] at g2
        refine ⟨Nat.zero_le _, fun l0 nl0 => ?_⟩
        have s0 : Same G2 (upd G2 l0 (.lst [])) := same_new (fun b o e => e) nl0 _
        have e0 : (upd G2 l0 (.lst [])) l0 = some (.lst []) := upd_same
        have g2' := s0 _ _ g2
        have s20 := sm2.trans s0
        generalize upd G2 l0 (.lst []) = G3 at s20 e0 g2'
        refine ⟨_, _, .lst (.inl (.inl g2')) (ones_dp _), .lst (.inl (.inl e0)) .nil, Lay.shaped (n := 1) (lay_lst (n := 0) fun d hd => by
          obtain ⟨q, _, rfl⟩ := List.mem_map.mp hd
          exact lay_int 0 1) (by decide), rfl, _, rfl, ?_⟩
        rw [eqvL_nil, List.isEmpty_map, no_zero]
        have gD3 := s20 _ _ gD
        have gr3 := s20 _ _ grw
        have gb13 := s20 _ _ gb1
        have gb23 := s20 _ _ gb2
        have fb13 := fb1.mono (RowV.mono (TK.same s20))
        have fb23 := fb2.mono (RowV.mono (TK.same s20))
        have sH3 := sm.trans s20
        clear gD grw gb1 gb2 fb1 fb2 sm eth' fth' glk s0 sm2 g2 g2' e0 nl0 nD2 s20
        by_cases h0 : ∃ p ∈ Od.things l, p.2 = 0
        · rw [decide_eq_true h0]
          refine iteF ⟨_, _, _, _, _, b1, y1, rfl, sH3, gr3, gb13, ?_, gb23, fb23⟩
          have e : Od.R l m T = Rn.rows (Od.things l) T := by
            unfold Od.R Od.spare
            rw [if_pos h0]
            rfl
          rw [e]
          exact fb13
        · rw [decide_eq_false h0]
          refine iteT ⟨4, rfl, by decide, by decide, for_range (lo := 0) (n := 4) (fun j σ G => ∃ v10 : Option V, σ = [some (.ref a), some (.ref th), some (.ref tu), some (.ref rk), some (.ref D), some (.ref rw'), v6, v7, v8, some (.str (bars "nil" (min j m))), v10, none, none, none, none] ∧ G = G3) ⟨none, by rw [Nat.zero_min]; rfl, rfl⟩ ?_ ?_⟩
          · rintro j σ G' hj ⟨v10, rfl, rfl⟩
            refine ⟨.str (bars "nil" (min j m)), rfl, .ref D, rfl, D, _, rfl, .inl (.inl (.inl gD3)), rfl, flat_texts _, decide (bars "nil" (min j m) ∈ Od.names l), congrArg V.bl (inV_mem _ _), ?_⟩
            by_cases jm : j < m
            · have e1 : min j m = j := by omega
              have e2 : min (j + 1) m = j + 1 := by omega
              rw [e1, e2, decide_eq_true (Od.names_iff.mpr (oc.bars j jm))]
              exact iteT ⟨.str (bars "nil" j), rfl, _, _, rfl, rfl, oc.short j jm, _, rfl, rfl⟩
            · have e1 : min j m = m := by omega
              have e2 : min (j + 1) m = m := by omega
              rw [e1, e2, decide_eq_false (fun z => oc.out (Od.names_iff.mp z))]
              exact iteF ⟨_, rfl, rfl⟩
          · rintro σ G' ⟨v10, rfl, rfl⟩
            have e4 : min 4 m = m := by omega
            rw [e4]
            refine ⟨.str (bars "nil" m), rfl, (by show 3 ≤ sizeLine; rw [sizeLine_eq]; decide), fun t3 nt3 => ⟨by show 1 ≤ sizeLine; decide, fun l3 nl3 => ?_⟩⟩
            have s7 : Same G' (upd G' t3 (.tup [.str (bars "nil" m), .int 0, .int 1])) := same_new (fun b o e => e) nt3 _
            have e7 : (upd G' t3 (.tup [.str (bars "nil" m), .int 0, .int 1])) t3 = some (.tup [.str (bars "nil" m), .int 0, .int 1]) := upd_same
            generalize upd G' t3 (.tup [.str (bars "nil" m), .int 0, .int 1]) = G7 at s7 e7 nl3
            have s8 : Same G7 (upd G7 l3 (.lst [.ref t3])) := same_new (fun b o e => e) nl3 _
            have e8 : (upd G7 l3 (.lst [.ref t3])) l3 = some (.lst [.ref t3]) := upd_same
            have e7' := s8 _ _ e7
            generalize upd G7 l3 (.lst [.ref t3]) = G8 at s8 e8 e7'
            have s78 := s7.trans s8
            have gr8 := s78 _ _ gr3
            have gb18 := s78 _ _ gb13
            have lb1 := fb13.len
            have lrr : (Rn.rows (Od.things l) T).length ≤ 59 := by
              unfold Rn.rows
              rw [List.length_map]
              have := Rn.rank_len (Od.things l) T
              omega
            refine ⟨.ref rw', rfl, rw', _, 0, _, rfl, rfl, .inl (.inl gr8), atI_nat (j := 0) rfl, l3, b1, _, _, rfl, rfl, e8, gb18, by rw [sizeLine_eq]; show 1 + y1.length ≤ _; omega, fun q' nq => ?_⟩
            have s9 : Same G8 (upd G8 q' (.lst ([.ref t3] ++ y1))) := same_new (fun b o e => e) nq _
            have e9 : (upd G8 q' (.lst ([.ref t3] ++ y1))) q' = some (.lst ([.ref t3] ++ y1)) := upd_same
            have qrw : q' ≠ rw' := fun z => by rw [z, gr8] at nq; cases nq
            have gr9 := s9 _ _ gr8
            have gb29 := s9 _ _ (s78 _ _ gb23)
            have e79 := s9 _ _ e7'
            have s39 := s78.trans s9
            generalize upd G8 q' (.lst ([.ref t3] ++ y1)) = G9 at s9 e9 gr9 gb29 e79 s39
            have k10 : TK G9 (upd G9 rw' (.lst (([.ref b1, .ref b2] : List V).set 0 (.ref q')))) := TK.lst gr9 _
            refine ⟨.ref rw', rfl, rw', _, 0, 0, rfl, rfl, gr9, rfl, _, _, _, _, _, q', [.ref t3] ++ y1, rfl, same_on (sH3.trans s39) nrH _, upd_same, ?_, ?_, ?_, (fb23.mono (RowV.mono (TK.same s39))).mono (RowV.mono k10)⟩
            · rw [upd_ne qrw]
              exact e9
            · have e : Od.R l m T = [(bars "nil" m, 0, 1)] ++ Rn.rows (Od.things l) T := by
                unfold Od.R Od.spare
                rw [if_neg h0]
              rw [e]
              exact F2.app (F2.one ⟨t3, rfl, k10.sq (.inl (.inl e79))⟩) ((fb13.mono (RowV.mono (TK.same s39))).mono (RowV.mono k10))
            · rw [upd_ne nb2]
              exact gb29
      · clear gD glk grw gb1 gb2 fb1 fb2 sm
        rintro σ G ⟨v6, v7, v8, v9, v10, b0, y0, rfl, sm, grw, gb0, fb0, gb2, fb2⟩
        have okT : ∀ x ∈ T, PyData.strOk x = true := fun x hx => okn x (Od.names_iff.mp (subT x hx))
        have srkG := (TK.same sm).sq srk
        refine ⟨fun σ G' => ∃ (v6 v7 v8 v9 v10 : Option V) (o : Addr), σ = [some (.ref a), some (.ref th), some (.ref tu), some (.ref rk), some (.ref D), some (.ref rw'), v6, v7, v8, v9, v10, some (.ref o), none, none, none] ∧ Pn.But Pt H G' ∧ TabG G' Pt ∧ OrdI K C G' o (Od.R l m T) (Od.S l T) ∧ G' rw' = some (.lst [.ref b0, .ref b2]) ∧ G' b0 = some (.lst y0) ∧ F2 (RowV K G') (Od.R l m T) y0 ∧ G' b2 = some (.lst y2) ∧ F2 (RowV K G') (Od.S l T) y2, ?_, ?_⟩
        · refine ⟨.ref rk, rfl, Nat.zero_le _, fun tz ntz => ?_⟩
          have s0 : Same G (upd G tz (.tup [])) := same_new (fun b o e => e) ntz _
          have e0 : (upd G tz (.tup [])) tz = some (.tup []) := upd_same
          generalize upd G tz (.tup []) = G1 at s0 e0
          have sm1 := sm.trans s0
          have tab1 := tab_same sm1 tab
          have srk1 := (TK.same s0).sq srkG
          refine ⟨.tuple (T.map .str), .tuple [], .tup srk1 (strs_pd T), .tup (.inl (.inl e0)) .nil, Lay.shaped (n := 1) (lay_tup (n := 0) (strs_lay0 okT)) (by decide), rfl, _, rfl, ?_⟩
          rw [eqvT_nil]
          have noinl : ∀ x, Kn.scan [] (Sn.occsL ss) = .inl x → False := fun x hx => by rw [sc] at hx; cases hx
          have fin : ∀ (H' : Hp) (o : Addr), Pn.But Pt G1 H' → TabG H' Pt → OrdI K C H' o (Od.R l m T) (Od.S l T) → _ := fun H' o bt tt oi => (⟨v6, v7, v8, v9, v10, o, rfl, fun b u n e => bt _ _ n (sm1 _ _ e), tt, oi,
            bt _ _ (fun z => by obtain ⟨ps, e, _⟩ := tab1; rw [← z, s0 _ _ grw] at e; cases e) (s0 _ _ grw), bt _ _ (fun z => by obtain ⟨ps, e, _⟩ := tab1; rw [← z, s0 _ _ gb0] at e; cases e) (s0 _ _ gb0), (fb0.mono (RowV.mono (TK.same s0))).mono (RowV.mono (tab_tk tab1 bt)),
            bt _ _ (fun z => by obtain ⟨ps, e, _⟩ := tab1; rw [← z, s0 _ _ gb2] at e; cases e) (s0 _ _ gb2), (fb2.mono (RowV.mono (TK.same s0))).mono (RowV.mono (tab_tk tab1 bt))⟩ : ∃ (v6 v7 v8 v9 v10 : Option V) (o' : Addr), ([some (.ref a), some (.ref th), some (.ref tu), some (.ref rk), some (.ref D), some (.ref rw'), _, _, _, _, _, some (.ref o), none, none, none] : L2.St) = [some (.ref a), some (.ref th), some (.ref tu), some (.ref rk), some (.ref D), some (.ref rw'), v6, v7, v8, v9, v10, some (.ref o'), none, none, none] ∧ Pn.But Pt H H' ∧ TabG H' Pt ∧ OrdI K C H' o' (Od.R l m T) (Od.S l T) ∧ H' rw' = some (.lst [.ref b0, .ref b2]) ∧ H' b0 = some (.lst y0) ∧ F2 (RowV K H') (Od.R l m T) y0 ∧ H' b2 = some (.lst y2) ∧ F2 (RowV K H') (Od.S l T) y2)
          by_cases hT : T = []
          · subst hT
            refine iteF ⟨.ref a, rfl, a, dt, xs, [], ss, [], Hb, rfl, hx.same sm1, hb.trans sm1, hd, each, few, tab1, .inr (hDt _), .nil, Nat.zero_le _, fun x hx => (noinl x hx).elim, fun l' sc' => ?_⟩
            rw [sc] at sc'
            cases sc'
            refine ⟨m, oc, fun d hd' => (nomatch hd'), fun T' hT' H' o bt tt oi => ?_⟩
            cases hT'
            exact fin H' o bt tt oi
          · have he : (!(T.map PyData.str).isEmpty) = true := by
              cases T with
              | nil => exact absurd rfl hT
              | cons x T => rfl
            rw [he]
            have scT : Rk.scan (Od.names l) [] (T.map .str) = .inr T := Rk.scan_all (T := []) ndT subT
            refine iteT ⟨.ref a, rfl, .ref rk, rfl, a, rk, xs, T.map V.str, ss, T.map .str, Hb, rfl, hx.same sm1, hb.trans sm1, hd, each, few, tab1, .inr srk1, strs_pd T, by rw [List.length_map]; exact fewT, fun x hx => (noinl x hx).elim, fun l' sc' => ?_⟩
            rw [sc] at sc'
            cases sc'
            refine ⟨m, oc, fun d hd' => (by rw [scT] at hd'; cases hd'), fun T' hT' H' o bt tt oi => ?_⟩
            rw [scT] at hT'
            cases hT'
            exact fin H' o bt tt oi
        · clear grw gb0 gb2 fb0 fb2 sm srkG
          rintro σ G' ⟨v6, v7, v8, v9, v10, o, rfl, bt, tt, oi, grw, gb0, fb0, gb2, fb2⟩
          have oi2 := oi
          obtain ⟨dx, ot, ou, ow, op, vs1, vs2, f1, f2, f3, f4, f5, f6, f7⟩ := oi.ex
          have okR : ∀ r ∈ Od.R l m T, PyData.strOk r.1 = true := fun r hr => by
            rcases List.mem_append.mp hr with hr | hr
            · rw [Od.spare_names r hr]
              exact bars_ok m m4
            · obtain ⟨x, hx, rfl⟩ := List.mem_map.mp hr
              exact okn x (Od.names_iff.mp (by unfold Od.names Rn.names; rw [List.map_append]; exact List.mem_append_left _ (Rn.rank_mem hx)))
          have okS : ∀ r ∈ Od.S l T, PyData.strOk r.1 = true := fun r hr => by
            obtain ⟨x, hx, rfl⟩ := List.mem_map.mp hr
            exact okn x (Od.names_iff.mp (by unfold Od.names Rn.names; rw [List.map_append]; exact List.mem_append_right _ (Rn.rank_mem hx)))
          refine ⟨.ref o, rfl, .ref o, .ref C, .ref C, .ref C, true, rfl, .own C, .base (.ins f1 isC.cl isC.ha isC.hn isC.ht isC.hm), isC.kit, true, rfl, iteT ?_⟩
          refine ⟨.ref o, rfl, o, C, dx, _, .ref ot, rfl, f1, isC.cl, na1, ordF_things .., .ref rw', rfl, rw', _, 0, _, rfl, rfl, .inl (.inl grw), atI_nat (j := 0) rfl, b0, _, rfl, .inl ⟨.inl (.inl gb0), fun t1 nt1 => ?_⟩⟩
          have s1 : Same G' (upd G' t1 (.tup y0)) := same_new (fun b o e => e) nt1 _
          have e1 : (upd G' t1 (.tup y0)) t1 = some (.tup y0) := upd_same
          generalize upd G' t1 (.tup y0) = G2 at s1 e1
          have dL : Dp K G2 (.ref ot) (.tuple ((Od.R l m T).map rowPD)) := .tup ((TK.same s1).sq f2) (rowV_pd (f3.mono (RowV.mono (TK.same s1))))
          have dR : Dp K G2 (.ref t1) (.tuple ((Od.R l m T).map rowPD)) := .tup (.inl (.inl e1)) (rowV_pd (fb0.mono (RowV.mono (TK.same s1))))
          have layR : Lay 2 (.tuple ((Od.R l m T).map rowPD)) := lay_tup (rows_lay okR)
          have layS : Lay 2 (.tuple ((Od.S l T).map rowPD)) := lay_tup (rows_lay okS)
          refine ⟨_, _, dL, dR, layR.shaped (by decide), layR.shaped (by decide), true, congrArg V.bl (layR.eqv (by decide)), iteT ?_⟩
          refine ⟨.ref o, rfl, o, C, dx, _, .ref ou, rfl, s1 _ _ f1, isC.cl, na2, ordF_truths .., .ref rw', rfl, rw', _, 1, _, rfl, rfl, .inl (.inl (s1 _ _ grw)), atI_nat (j := 1) rfl, b2, _, rfl, .inl ⟨.inl (.inl (s1 _ _ gb2)), fun t2 nt2 => ?_⟩⟩
          have s2 : Same G2 (upd G2 t2 (.tup y2)) := same_new (fun b o e => e) nt2 _
          have e2 : (upd G2 t2 (.tup y2)) t2 = some (.tup y2) := upd_same
          generalize upd G2 t2 (.tup y2) = G3 at s2 e2
          have s12 := s1.trans s2
          refine ⟨_, _, .tup ((TK.same s12).sq f4) (rowV_pd (f5.mono (RowV.mono (TK.same s12)))), .tup (.inl (.inl e2)) (rowV_pd (fb2.mono (RowV.mono (TK.same s12)))), layS.shaped (by decide), layS.shaped (by decide), ?_⟩
          rw [layS.eqv (by decide)]
          exact q G3 (but_same bt s12) (tab_same s12 tt)
end
end Ad

namespace Ad
open PySem PySem.Spec PySem.Calls PyProof.Rows L2
abbrev sOrder : Stmt := topS 25
theorem scOrder : FnScope ["_law_pen_here", "_law_things", "_law_truths", "_law_rows", "_law_kind", "_law_blend", "_law_lap", "_law_name", "_law_arity"] ["_law_pen_here"] (defScope sOrder) := ⟨rfl, rfl, rfl, by decide +kernel, rfl, by decide +kernel, by decide +kernel⟩
section
variable {P : Program} {w : World} {K : PySem.W.Frag} {mg : Str → Option Value} {base : Heap}
theorem ok_order {f fD fP : Addr} {fd fdD fdP : FuncData} {k : Nat} (F : Fun K "_law_drawn_order" "_law_drawn_order" sOrder f fd)
    (GD : FnOk P w K mg base CX0 k fD fdD ["_law_pen_here", "_law_many"] Pn.spDraw) (gD : mg "_law_draw" = some (.ref fD)) (kD : PySem.W.keepIn K (.ref fD) = true) (bD : Binds K fdD ["_law_pen_here", "_law_many"] [])
    (GP : FnOk P w K mg base CX0 k fP fdP ["_law_pen_here", "_law_some"] (Pn.spPick K)) (gP : mg "_law_pick" = some (.ref fP)) (kP : PySem.W.keepIn K (.ref fP) = true) (bP : Binds K fdP ["_law_pen_here", "_law_some"] []) (mt : mg "tuple" = none) (mr : mg "range" = none) (mL : mg "list" = none) (ml : mg "len" = none) :
    FnOk P w K mg base CX0 (k + 1) f fd ["_law_pen_here"] (spOrder K) := by
  refine F.ok scOrder (fun vs H Q E h => ?_) (fun cdv A outer s H vs Q E hr h => ?_)
  · obtain ⟨p, l, ns, c, rfl, _⟩ := h
    rfl
  · obtain ⟨p, l, ns, c, rfl, hP, hlen, hc, q⟩ := h
    refine' ⟨_, C8.pss_cut ?s1 (C8.pss_cut ?s2 (C8.pss_cut ?s3 (pss_cons ?s4 (pss_cons ?s5 (pss_one ?s6))))), ?_⟩
    case s1 => exact (ps_set (i := 1) scOrder.nd rfl (.inl rfl) (pe_op op_cat (pe_op op_cat (pe_lst (pa_cons (pe_tup (pa_cons pe_str (pa_cons pe_int pa_nil))) (pa_cons (pe_tup (pa_cons pe_str (pa_cons pe_int pa_nil))) pa_nil)))
          (pe_ifExp (pt_cmpR op_eq (pe_call GD hr (by rfl) gD kD bD .nil pass0 (pa_cons (pv 0) (pa_cons pe_int pa_nil))) pe_int (nomark _)) (pe_lst (pa_cons (pe_tup (pa_cons pe_str (pa_cons pe_int pa_nil))) pa_nil)) (pe_lst pa_nil)))
          (pe_lst (pa_cons (pe_tup (pa_cons pe_str (pa_cons pe_int pa_nil))) pa_nil))))
    case s2 => exact (ps_set (i := 1) scOrder.nd rfl (.inl rfl) (pe_op op_cat (pv 1)
          (pe_ifExp (pt_cmpR op_eq (pe_call GD hr (by rfl) gD kD bD .nil pass0 (pa_cons (pv 0) (pa_cons pe_int pa_nil))) pe_int (nomark _)) (pe_lst (pa_cons (pe_tup (pa_cons pe_str (pa_cons pe_int pa_nil))) pa_nil)) (pe_lst pa_nil))))
    case s3 => exact (ps_set (i := 2) scOrder.nd rfl (.inl rfl) (pe_op op_cat (pe_lst (pa_cons (pe_tup (pa_cons pe_str (pa_cons pe_int pa_nil))) pa_nil))
          (pe_call GP hr (by rfl) gP kP bP .nil pass0 (pa_cons (pv 0) (pa_cons (pe_lst (pa_cons (pe_lst (pa_cons (pe_tup (pa_cons pe_str (pa_cons pe_int pa_nil))) pa_nil)) (pa_cons (pe_lst (pa_cons (pe_tup (pa_cons pe_str (pa_cons pe_int pa_nil))) pa_nil)) (pa_cons (pe_lst (pa_cons (pe_tup (pa_cons pe_str (pa_cons pe_int pa_nil))) (pa_cons (pe_tup (pa_cons pe_str (pa_cons pe_int pa_nil))) pa_nil))) pa_nil)))) pa_nil)))))
    case s4 => exact (ps_set (i := 3) scOrder.nd rfl (.inl rfl) (pe_lst pa_nil))
    case s5 => exact (ps_for PassesOwn.never rfl (pi_list (pe_lst (pa_cons (pv 1) (pa_cons (pv 2) pa_nil)))) (pg_name (i := 4) scOrder.nd rfl (.inl rfl))
        (pss_cons (ps_par (i := 4) (j := 5) (by rfl) scOrder.nd rfl rfl (by decide) rfl rfl (pa_cons (pe_callTy call_list_of (by rfl) mL (by decide +kernel) (pa_cons (pv 4) pa_nil)) (pa_cons (pe_lst pa_nil) pa_nil)) (by rfl))
        (pss_cons (ps_for PassesOwn.never rfl (pi_range1 (by rfl) mr (pa_cons (pe_callB call_len_seq (by rfl) ml PySem.boot_len (pa_cons (pv 4) pa_nil)) pa_nil)) (pg_name (i := 6) scOrder.nd rfl (.inl rfl))
          (pss_cons (ps_asg (pe_bm PySem.F.plainAttrs_list PySem.F.slot_list_pop PySem.F.type_list_pop mt_popAt (pv 4) (pa_cons (pe_call GD hr (by rfl) gD kD bD .nil pass0 (pa_cons (pv 0) (pa_cons (pe_callB call_len_seq (by rfl) ml PySem.boot_len (pa_cons (pv 4) pa_nil)) pa_nil))) pa_nil)) (pg_tup rfl (pgs_cons (pg_name (i := 7) scOrder.nd rfl (.inl rfl)) (pgs_cons (pg_name (i := 8) scOrder.nd rfl (.inl rfl)) pgs_nil))))
          (pss_one (ps_expr (pe_bm PySem.F.plainAttrs_list PySem.F.slot_list_append PySem.F.type_list_append mt_append (pv 5) (pa_cons (pe_tup (pa_cons (pv 7) (pa_cons (pv 8) (pa_cons (pe_call GP hr (by rfl) gP kP bP .nil pass0 (pa_cons (pv 0) (pa_cons (pe_lst (pa_cons pe_int (pa_cons pe_int (pa_cons pe_int pa_nil)))) pa_nil))) pa_nil)))) pa_nil))))))
        (pss_one (ps_expr (pe_bm PySem.F.plainAttrs_list PySem.F.slot_list_append PySem.F.type_list_append mt_append (pv 3) (pa_cons (pe_callTy call_tuple_of (by rfl) mt (by decide +kernel) (pa_cons (pv 5) pa_nil)) pa_nil)))))))
    case s6 => exact (ps_ret (pe_tup (pa_cons (pe_ix ix_list (pv 3) pe_int (fun _ _ => rfl)) (pa_cons (pe_ix ix_list (pv 3) pe_int (fun _ _ => rfl)) pa_nil))))
    refine ⟨fun σ G => ∃ (th : Addr) (R : List Pr) (c1 : Nat), σ = [some (.ref p), some (.ref th), none, none, none, none, none, none, none] ∧ LsP K G R th ∧ H th = none ∧ R ∈ [[(("a" : Str), 0), ("b", 0), ("c", 0), ("f", 1)], [("a", 0), ("b", 0), ("f", 1)]] ∧ Pn.Pen G p l ns c1 ∧ c1 ≤ c + 1 ∧ Pn.But p H G, ?_, ?_⟩
    · dsimp only [tAsg, tOp, tIf, tTest]
      refine lit_ls2 K (x := "a") (y := "b") (n := 0) (m := 0) fun a1 G1 s1 n1 L1 => ?_
      have P1 := pen_same hP s1
      refine ⟨.ref p, rfl, p, l, ns, c, 3, rfl, P1, hlen, by omega, by decide, by decide, fun r G2 r0 r1 P2 b2 => ⟨rfl, _, rfl, ?_⟩⟩
      have na := pen_kept hP n1
      replace L1 := LsP.but P1 b2 na L1
      have b12 : Pn.But p H G2 := (Pn.But.of s1).trans b2
      refine ite2 (fun _ => ?_) (fun _ => ?_)
      · refine lit_ls1 K (x := "c") (n := 0) fun a3 G3 s3 n3 L3 => ?_
        refine cat_prs (L1.same s3) L3 (by decide) fun a4 G4 s4 n4 L4 => ?_
        refine lit_ls1 K (x := "f") (n := 1) fun a5 G5 s5 n5 L5 => ?_
        refine cat_prs (L4.same s5) L5 (by decide) fun a6 G6 s6 n6 L6 => ?_
        have sm : Same G2 G5 := fun b o e => s5 b o (s4 b o (s3 b o e))
        have b5 := b12.trans (Pn.But.of sm)
        exact ⟨a6, _, c + 1, rfl, L6, fresh_back b5 (pen_same P2 sm) n6, by simp, pen_same (pen_same P2 sm) s6, Nat.le_refl _, b5.trans (Pn.But.of s6)⟩
      · refine lit_ls0 K fun a3 G3 s3 n3 L3 => ?_
        refine cat_prs (L1.same s3) L3 (by decide) fun a4 G4 s4 n4 L4 => ?_
        refine lit_ls1 K (x := "f") (n := 1) fun a5 G5 s5 n5 L5 => ?_
        refine cat_prs (L4.same s5) L5 (by decide) fun a6 G6 s6 n6 L6 => ?_
        have sm : Same G2 G5 := fun b o e => s5 b o (s4 b o (s3 b o e))
        have b5 := b12.trans (Pn.But.of sm)
        exact ⟨a6, _, c + 1, rfl, L6, fresh_back b5 (pen_same P2 sm) n6, by simp, pen_same (pen_same P2 sm) s6, Nat.le_refl _, b5.trans (Pn.But.of s6)⟩
    rintro σ G ⟨th, R, c1, rfl, LR, nth, hR, P1, hc1, b1⟩
    refine ⟨fun σ G => ∃ (th : Addr) (R : List Pr) (c1 : Nat), σ = [some (.ref p), some (.ref th), none, none, none, none, none, none, none] ∧ LsP K G R th ∧ H th = none ∧ R ∈ thingsB ∧ Pn.Pen G p l ns c1 ∧ c1 ≤ c + 2 ∧ Pn.But p H G, ?_, ?_⟩
    · dsimp only [tAsg, tOp, tIf, tTest]
      refine ⟨.ref th, rfl, .ref p, rfl, p, l, ns, c1, 2, rfl, P1, hlen, by omega, by decide, by decide, fun r G2 r0 r1 P2 b2 => ⟨rfl, _, rfl, ?_⟩⟩
      have na := pen_kept hP nth
      replace LR := LsP.but P1 b2 na LR
      have b12 : Pn.But p H G2 := b1.trans b2
      refine ite2 (fun _ => ?_) (fun _ => ?_)
      · refine lit_ls1 K (x := "g") (n := 2) fun a3 G3 s3 n3 L3 => ?_
        refine cat_prs (LR.same s3) L3 ?_ fun a4 G4 s4 n4 L4 => ?_
        · rcases List.mem_cons.mp hR with e | e
          · rw [e]; decide
          · rw [List.mem_singleton.mp e]; decide
        have b5 := b12.trans (Pn.But.of s3)
        refine ⟨a4, _, c1 + 1, rfl, L4, fresh_back b5 (pen_same P2 s3) n4, ?_, pen_same (pen_same P2 s3) s4, by omega, b5.trans (Pn.But.of s4)⟩
        rcases List.mem_cons.mp hR with e | e
        · rw [e]; decide
        · rw [List.mem_singleton.mp e]; decide
      · refine lit_ls0 K fun a3 G3 s3 n3 L3 => ?_
        refine cat_prs (LR.same s3) L3 ?_ fun a4 G4 s4 n4 L4 => ?_
        · rcases List.mem_cons.mp hR with e | e
          · rw [e]; decide
          · rw [List.mem_singleton.mp e]; decide
        have b5 := b12.trans (Pn.But.of s3)
        refine ⟨a4, _, c1 + 1, rfl, L4, fresh_back b5 (pen_same P2 s3) n4, ?_, pen_same (pen_same P2 s3) s4, by omega, b5.trans (Pn.But.of s4)⟩
        rcases List.mem_cons.mp hR with e | e
        · rw [e]; decide
        · rw [List.mem_singleton.mp e]; decide
    clear hR LR nth P1 hc1 b1 R th c1 G
    rintro σ G ⟨th, R, c1, rfl, LR, nth, hR, P1, hc1, b1⟩
    refine ⟨fun σ G => ∃ (tr : Addr) (S : List Pr) (c1 : Nat), σ = [some (.ref p), some (.ref th), some (.ref tr), none, none, none, none, none, none] ∧ LsP K G R th ∧ LsP K G S tr ∧ H tr = none ∧ S ∈ truthsB ∧ Pn.Pen G p l ns c1 ∧ c1 ≤ c + 3 ∧ Pn.But p H G, ?_, ?_⟩
    · dsimp only [tAsg, tOp, tCall]
      refine lit_ls1 K (x := "p") (n := 1) fun a1 G1 s1 n1 L1 => ?_
      refine ⟨.ref p, rfl, ?_⟩
      refine lit_truths K fun a2 G2 xs s2 n2 e2 len2 mem2 => ?_
      have sm : Same G G2 := fun b o e => s2 b o (s1 b o e)
      have P2 := pen_same P1 sm
      have na1 : a1 ≠ p := pen_kept P1 n1
      have na2 : a2 ≠ p := pen_kept (pen_same P1 s1) n2
      refine ⟨p, l, a2, ns, c1, xs, rfl, P2, hlen, by omega, .inl (.inl (.inl e2)), (by intro z; rw [z] at len2; cases len2), by omega, na2, fun x G3 hx P3 b3 => ?_⟩
      obtain ⟨b, S, rfl, nb, Lb, hS⟩ := mem2 x hx
      have nbp : b ≠ p := pen_kept (pen_same P1 s1) nb
      refine cat_prs (LsP.but P2 b3 na1 (L1.same s2)) (LsP.but P2 b3 nbp Lb) ?_ fun a4 G4 s4 n4 L4 => ?_
      · simp only [List.mem_cons, List.mem_nil_iff, or_false] at hS
        rcases hS with e | e | e <;> rw [e] <;> decide
      have b5 := (b1.trans (Pn.But.of sm)).trans b3
      refine ⟨a4, _, c1 + 1, rfl, ?_, L4, fresh_back b5 P3 n4, ?_, pen_same P3 s4, by omega, b5.trans (Pn.But.of s4)⟩
      · exact (LsP.but P2 b3 (pen_kept hP nth) (LR.same sm)).same s4
      · simp only [List.mem_cons, List.mem_nil_iff, or_false] at hS
        rcases hS with e | e | e <;> rw [e] <;> decide
    clear LR P1 hc1 b1 c1 G
    rintro σ G ⟨tr, S, c1, rfl, LR, LS, ntr, hS, P1, hc1, b1⟩
    refine ⟨by decide, fun rw nrw => ?_⟩
    have nrwH := fresh_back b1 P1 nrw
    have thrw : th ≠ rw := by
      obtain ⟨vs, e, _⟩ := LR
      exact ne_of_none e nrw
    have trrw : tr ≠ rw := by
      obtain ⟨vs, e, _⟩ := LS
      exact ne_of_none e nrw
    have s0 : Same G (upd G rw (.lst [])) := same_new (fun b o e => e) nrw _
    replace LR := LR.same s0
    replace LS := LS.same s0
    replace P1 := pen_same P1 s0
    replace b1 := b1.trans (Pn.But.of s0)
    have erw : (upd G rw (.lst [])) rw = some (.lst []) := upd_same
    clear s0 nrw
    generalize upd G rw (.lst []) = G0 at LR LS P1 b1 erw ⊢
    refine ⟨.ref th, rfl, .ref tr, rfl, (by show 2 ≤ sizeLine; decide), fun it nit => ⟨it, rfl, ⟨_, .inl (.inl upd_same)⟩, ?_⟩⟩
    have nitH := fresh_back b1 P1 nit
    have itrw : it ≠ rw := fun z => by rw [z, erw] at nit; cases nit
    have s0 : Same G0 (upd G0 it (.lst [.ref th, .ref tr])) := same_new (fun b o e => e) nit _
    replace LR := LR.same s0
    replace LS := LS.same s0
    replace P1 := pen_same P1 s0
    replace b1 := b1.trans (Pn.But.of s0)
    replace erw := s0 _ _ erw
    have eit : (upd G0 it (.lst [.ref th, .ref tr])) it = some (.lst [.ref th, .ref tr]) := upd_same
    clear s0 nit
    generalize upd G0 it (.lst [.ref th, .ref tr]) = G1 at LR LS P1 b1 erw eit ⊢
    have thp := pen_kept hP nth
    have trp := pen_kept hP ntr
    have rwp := pen_kept hP nrwH
    have itp := pen_kept hP nitH
    refine for_list (K := K) (a := it) (xs := [.ref th, .ref tr]) (fun i σ G => ∃ (v4 v5 v6 v7 v8 : Option V) (c2 : Nat) (rvs : List V), σ = [some (.ref p), some (.ref th), some (.ref tr), some (.ref rw), v4, v5, v6, v7, v8] ∧ Pn.Pen G p l ns c2 ∧ c2 ≤ c + 3 + i * 10 ∧ Pn.But p H G ∧ LsP K G R th ∧ LsP K G S tr ∧
      G rw = some (.lst rvs) ∧ F2 (KdV K G) ([R, S].take i) rvs ∧ G it = some (.lst [.ref th, .ref tr])) ⟨none, none, none, none, none, c1, [], rfl, P1, by omega, b1, LR, LS, erw, rfl, eit⟩ (fun i σ G _ ⟨_, _, _, _, _, _, _, _, _, _, _, _, _, _, _, e⟩ => .inl (.inl e)) ?_ ?_
    · clear LR LS P1 b1 erw eit G1 G0 hc1 c1 G
      rintro i x σ G hx ⟨v4, v5, v6, v7, v8, c2, rvs, rfl, P2, hc2, b2, LR, LS, erw, frw, eit⟩
      obtain ⟨kd0, B, hB, rfl, LB, nkp, hlt, fewB⟩ : ∃ kd0 B, [R, S][i]? = some B ∧ x = .ref kd0 ∧ LsP K G B kd0 ∧ kd0 ≠ p ∧ i < 2 ∧ B.length ≤ 5 := by
        match i, hx with
        | 0, hx =>
          refine ⟨th, R, rfl, (Option.some.inj hx).symm, LR, thp, by omega, ?_⟩
          have : (thingsB.all fun B => decide (B.length ≤ 5)) = true := by decide
          exact of_decide_eq_true (List.all_eq_true.mp this R hR)
        | 1, hx =>
          refine ⟨tr, S, rfl, (Option.some.inj hx).symm, LS, trp, by omega, ?_⟩
          have : (truthsB.all fun B => decide (B.length ≤ 5)) = true := by decide
          exact of_decide_eq_true (List.all_eq_true.mp this S hS)
      obtain ⟨ks, ek, fk⟩ := LB
      refine ⟨.ref kd0, rfl, kd0, ks, rfl, .inl (.inl (.inl ek)), fun kd nkd => ⟨Nat.zero_le _, fun bl nbl => ⟨.ref kd, .ref bl, rfl, ?_⟩⟩⟩
      have nkdH := fresh_back b2 P2 nkd
      have s0 : Same G (upd G kd (.lst ks)) := same_new (fun b o e => e) nkd _
      have ekd : (upd G kd (.lst ks)) kd = some (.lst ks) := upd_same
      have rwkd : rw ≠ kd := ne_of_none erw nkd
      have thkd : th ≠ kd := by
        obtain ⟨vs, e, _⟩ := LR
        exact ne_of_none e nkd
      have trkd : tr ≠ kd := by
        obtain ⟨vs, e, _⟩ := LS
        exact ne_of_none e nkd
      have itkd : it ≠ kd := ne_of_none eit nkd
      replace LR := LR.same s0
      replace LS := LS.same s0
      replace P2 := pen_same P2 s0
      replace b2 := b2.trans (Pn.But.of s0)
      replace erw := s0 _ _ erw
      replace eit := s0 _ _ eit
      replace fk := fk.mono (PrV.mono (TK.same s0))
      replace frw := frw.mono (KdV.mono (TK.same s0))
      clear s0 nkd ek
      generalize upd G kd (.lst ks) = G2 at ekd LR LS P2 b2 erw eit fk frw nbl ⊢
      have nblH := fresh_back b2 P2 nbl
      have s0 : Same G2 (upd G2 bl (.lst [])) := same_new (fun b o e => e) nbl _
      have ebl : (upd G2 bl (.lst [])) bl = some (.lst []) := upd_same
      have rwbl : rw ≠ bl := ne_of_none erw nbl
      have thbl : th ≠ bl := by
        obtain ⟨vs, e, _⟩ := LR
        exact ne_of_none e nbl
      have trbl : tr ≠ bl := by
        obtain ⟨vs, e, _⟩ := LS
        exact ne_of_none e nbl
      have itbl : it ≠ bl := ne_of_none eit nbl
      have kdbl : kd ≠ bl := ne_of_none ekd nbl
      replace LR := LR.same s0
      replace LS := LS.same s0
      replace P2 := pen_same P2 s0
      replace b2 := b2.trans (Pn.But.of s0)
      replace erw := s0 _ _ erw
      replace eit := s0 _ _ eit
      replace ekd := s0 _ _ ekd
      replace fk := fk.mono (PrV.mono (TK.same s0))
      replace frw := frw.mono (KdV.mono (TK.same s0))
      clear s0 nbl
      generalize upd G2 bl (.lst []) = G3 at ekd ebl LR LS P2 b2 erw eit fk frw ⊢
      have kdp := pen_kept hP nkdH
      have blp := pen_kept hP nblH
      have lk := fk.len
      refine ⟨.ref kd, rfl, kd, ks, rfl, .inl (.inl (.inl ekd)), _, rfl, by omega, by omega, for_range (lo := 0) (n := ((ks.length : Int)).toNat) (fun j σ G => ∃ (v6 v7 v8 : Option V) (c3 : Nat) (rest : List Pr) (done : List Row) (rs ds : List V), σ = [some (.ref p), some (.ref th), some (.ref tr), some (.ref rw), some (.ref kd), some (.ref bl), v6, v7, v8] ∧
        Pn.Pen G p l ns c3 ∧ c3 ≤ c2 + j * 2 ∧ Pn.But p H G ∧ Bt p kd bl G3 G ∧ G kd = some (.lst rs) ∧ G bl = some (.lst ds) ∧ F2 (PrV K G) rest rs ∧ F2 (RowV K G) done ds ∧ done.length = j ∧ (rest ++ done.map fun r => (r.1, r.2.1)).Perm B ∧ ∀ r ∈ done, r.2.2 = 1 ∨ r.2.2 = 2)
        ⟨v6, v7, v8, c2, B, [], ks, [], rfl, P2, by omega, b2, Bt.refl _, ekd, ebl, fk, rfl, rfl, by rw [List.map_nil, List.append_nil], fun r hr => nomatch hr⟩ ?_ ?_⟩
      · rintro j σ G4 hj ⟨v6, v7, v8, c3, rest, done, rs, ds, rfl, P4, hc3, b4, t4, gk, gb, fr, fd, ld, perm, wts⟩
        have lr := fr.len
        have lds := fd.len
        have tot := perm.length_eq
        rw [List.length_append, List.length_map] at tot
        refine ⟨_, rfl, .inl ⟨rfl, _, .inl (.inl gk)⟩, .ref p, rfl, .ref kd, rfl, kd, rs, rfl, .inl (.inl (.inl gk)), p, l, ns, c3, _, rfl, P4, hlen, by omega, by omega, by omega, fun r G5 r0 r1 P5 b5 => ?_⟩
        obtain ⟨m, rfl⟩ : ∃ m : Nat, r = (m : Int) := ⟨r.toNat, by omega⟩
        have hm : m < rs.length := by omega
        have hg : rs[m]? = some rs[m] := List.getElem?_eq_getElem hm
        generalize rs[m] = y at hg
        have gk5 := b5 _ _ kdp gk
        have gb5 := b5 _ _ blp gb
        have k5 := pen_tk P4 b5
        obtain ⟨pr, hpr, ⟨b, rfl, sqb⟩⟩ := (fr.mono (PrV.mono k5)).get hg
        refine ⟨kd, rs, (m : Int), m, .ref b, rfl, rfl, gk5, by omega, by omega, sx_nat hm, hg, ?_⟩
        have k6 : TK G5 (upd G5 kd (.lst (rs.eraseIdx m))) := TK.lst gk5 _
        have gk6 : (upd G5 kd (.lst (rs.eraseIdx m))) kd = some (.lst (rs.eraseIdx m)) := upd_same
        have gb6 : (upd G5 kd (.lst (rs.eraseIdx m))) bl = some (.lst ds) := by rw [upd_ne kdbl.symm]; exact gb5
        have P6 := pen_on hP nkdH P5 (.lst (rs.eraseIdx m))
        have b6 := but_on (b4.trans b5) nkdH (.lst (rs.eraseIdx m))
        have t6 := (t4.but b5).u (.lst (rs.eraseIdx m))
        replace sqb := k6.sq sqb
        have fr6 := F2.erase m (fr.mono (PrV.mono (k5.trans k6)))
        have fd6 := fd.mono (RowV.mono (k5.trans k6))
        clear k5 k6 P5 b5 P4 b4 t4 gk gb fr fd gk5 gb5
        generalize upd G5 kd (.lst (rs.eraseIdx m)) = G6 at gk6 gb6 P6 b6 t6 sqb fr6 fd6 ⊢
        refine ⟨b, _, rfl, sqb, rfl, .str pr.1, _, rfl, .int (pr.2 : Int), _, rfl, rfl, ?_⟩
        refine ⟨_, rfl, .inl ⟨rfl, _, .inl (.inl gb6)⟩, .str pr.1, rfl, .int (pr.2 : Int), rfl, .ref p, rfl, (by show 3 ≤ sizeLine; decide), fun q4 n4 => ?_⟩
        have s7 : Same G6 (upd G6 q4 (.lst [.int 1, .int 1, .int 2])) := same_new (fun b o e => e) n4 _
        have e7 : (upd G6 q4 (.lst [.int 1, .int 1, .int 2])) q4 = some (.lst [.int 1, .int 1, .int 2]) := upd_same
        have q4p := pen_kept P6 n4
        have P7 := pen_same P6 s7
        refine ⟨p, l, q4, ns, c3 + 1, _, rfl, P7, hlen, by omega, .inl (.inl (.inl e7)), (by intro z; cases z), (by show 3 ≤ 1000000; decide), q4p, fun x G8 hx P8 b8 => ?_⟩
        obtain ⟨wt, rfl, hwt⟩ : ∃ wt : Int, x = .int wt ∧ (wt = 1 ∨ wt = 2) := by
          simp only [List.mem_cons, List.mem_nil_iff, or_false] at hx
          rcases hx with e | e | e <;> rw [e]
          · exact ⟨1, rfl, .inl rfl⟩
          · exact ⟨1, rfl, .inl rfl⟩
          · exact ⟨2, rfl, .inr rfl⟩
        refine ⟨(by show 3 ≤ sizeLine; decide), fun q6 n6 => ?_⟩
        have s9 : Same G8 (upd G8 q6 (.tup [.str pr.1, .int (pr.2 : Int), .int wt])) := same_new (fun b o e => e) n6 _
        have e9 : (upd G8 q6 (.tup [.str pr.1, .int (pr.2 : Int), .int wt])) q6 = some (.tup [.str pr.1, .int (pr.2 : Int), .int wt]) := upd_same
        have k9 : TK G6 (upd G8 q6 (.tup [.str pr.1, .int (pr.2 : Int), .int wt])) := ((TK.same s7).trans (pen_tk P7 b8)).trans (TK.same s9)
        have gk9 := s9 _ _ (b8 _ _ kdp (s7 _ _ gk6))
        have gb9 := s9 _ _ (b8 _ _ blp (s7 _ _ gb6))
        have P9 := pen_same P8 s9
        have b9 := ((b6.trans (Pn.But.of s7)).trans b8).trans (Pn.But.of s9)
        have t9 := ((t6.but (Pn.But.of s7)).but b8).but (Pn.But.of s9)
        replace fr6 := fr6.mono (PrV.mono k9)
        replace fd6 := fd6.mono (RowV.mono k9)
        clear k9 s9 P8 b8 n6 P7 q4p e7 s7 n4 sqb P6 b6 t6 gk6 gb6
        generalize upd G8 q6 (.tup [.str pr.1, .int (pr.2 : Int), .int wt]) = G9 at e9 gk9 gb9 P9 b9 t9 fr6 fd6 ⊢
        refine ⟨bl, ds, .ref q6, rfl, rfl, gb9, by rw [sizeLine_eq]; omega, ?_⟩
        have kA : TK G9 (upd G9 bl (.lst (ds ++ [.ref q6]))) := TK.lst gb9 _
        refine ⟨_, _, _, c3 + 2, rest.eraseIdx m, done ++ [(pr.1, pr.2, wt)], rs.eraseIdx m, ds ++ [.ref q6], rfl, pen_on hP nblH P9 _, by omega, but_on b9 nblH _, t9.v _, by rw [upd_ne kdbl]; exact gk9, upd_same, fr6.mono (PrV.mono kA), (fd6.mono (RowV.mono kA)).app (F2.one ⟨q6, rfl, kA.sq (.inl (.inl e9))⟩), by rw [List.length_append, List.length_singleton, ld], ?_, ?_⟩
        · refine List.Perm.trans ?_ perm
          rw [List.map_append]
          show (rest.eraseIdx m ++ (done.map (fun r => (r.1, r.2.1)) ++ [pr])).Perm (rest ++ done.map fun r => (r.1, r.2.1))
          have e1 := erase_perm hpr
          rw [← List.append_assoc]
          refine (List.perm_append_singleton pr _).trans ?_
          exact (e1.symm.append_right _)
        · intro r hr
          rcases List.mem_append.mp hr with z | z
          · exact wts r z
          · rw [List.mem_singleton.mp z]
            exact hwt
      · rintro σ G4 ⟨v6, v7, v8, c3, rest, done, rs, ds, rfl, P4, hc3, b4, t4, gk, gb, fr, fd, ld, perm, wts⟩
        have tot := perm.length_eq
        rw [List.length_append, List.length_map] at tot
        have re : rest = [] := List.length_eq_zero_iff.mp (by omega)
        subst re
        have k4 := t4.tk P2 ekd ebl
        have rw4 := t4 _ _ rwp rwkd rwbl erw
        have it4 := t4 _ _ itp itkd itbl eit
        have ls : ∀ {R a}, LsP K G3 R a → a ≠ p → a ≠ kd → a ≠ bl → LsP K G4 R a := fun h n1 n2 n3 => by
          obtain ⟨vs, e, f⟩ := h
          exact ⟨vs, t4 _ _ n1 n2 n3 e, f.mono (PrV.mono k4)⟩
        have LR4 := ls LR thp thkd thbl
        have LS4 := ls LS trp trkd trbl
        have frw4 := frw.mono (KdV.mono k4)
        refine ⟨_, rfl, .inl ⟨rfl, _, .inl (.inl rw4)⟩, .ref bl, rfl, bl, ds, rfl, .inl ⟨.inl (.inl gb), fun q5 n5 => ?_⟩⟩
        have s5 : Same G4 (upd G4 q5 (.tup ds)) := same_new (fun b o e => e) n5 _
        have e5 : (upd G4 q5 (.tup ds)) q5 = some (.tup ds) := upd_same
        replace LR4 := LR4.same s5
        replace LS4 := LS4.same s5
        replace P4 := pen_same P4 s5
        replace b4 := b4.trans (Pn.But.of s5)
        replace rw4 := s5 _ _ rw4
        replace it4 := s5 _ _ it4
        replace fd := fd.mono (RowV.mono (TK.same s5))
        replace frw4 := frw4.mono (KdV.mono (TK.same s5))
        clear s5 n5 ls k4 t4 gk gb
        generalize upd G4 q5 (.tup ds) = G5 at e5 LR4 LS4 P4 b4 rw4 it4 fd frw4 ⊢
        have lrv := frw4.len
        refine ⟨rw, rvs, .ref q5, rfl, rfl, rw4, by rw [sizeLine_eq, lrv, List.length_take]; omega, ?_⟩
        have kA : TK G5 (upd G5 rw (.lst (rvs ++ [.ref q5]))) := TK.lst rw4 _
        have up : ∀ {R a}, LsP K G5 R a → a ≠ rw → LsP K (upd G5 rw (.lst (rvs ++ [.ref q5]))) R a := fun h n => by
          obtain ⟨vs, e, f⟩ := h
          exact ⟨vs, by rw [upd_ne n]; exact e, f.mono (PrV.mono kA)⟩
        refine ⟨_, _, _, _, _, c3, rvs ++ [.ref q5], rfl, pen_on hP nrwH P4 _, by omega, but_on b4 nrwH _, up LR4 thrw, up LS4 trrw, upd_same, ?_, by rw [upd_ne itrw]; exact it4⟩
        rw [List.take_add_one, hB]
        exact (frw4.mono (KdV.mono kA)).app (F2.one ⟨q5, done, ds, rfl, ⟨perm, wts⟩, kA.sq (.inl (.inl e5)), fd.mono (RowV.mono kA)⟩)
    · rintro σ G ⟨v4, v5, v6, v7, v8, c2, rvs, rfl, P2, hc2, b2, _, _, erw2, frw, _⟩
      obtain ⟨x1, r1, rfl, ⟨k1, R1, vs1, rfl, m1, sq1, f1⟩, ⟨x2, r2, rfl, ⟨k2, R2, vs2, rfl, m2, sq2, f2⟩, fe⟩⟩ := frw
      cases (show r2 = [] from fe)
      refine ⟨.ref rw, rfl, rw, _, 0, _, rfl, rfl, .inl (.inl erw2), atI_nat (j := 0) rfl, .ref rw, rfl, rw, _, 1, _, rfl, rfl, .inl (.inl erw2), atI_nat (j := 1) rfl, (by show 2 ≤ sizeLine; decide), fun q5 n5 => ?_⟩
      have s5 : Same G (upd G q5 (.tup [.ref k1, .ref k2])) := same_new (fun b o e => e) n5 _
      have k5 := TK.same s5
      exact q q5 R1 R2 R S _ c2 ⟨k1, k2, vs1, vs2, .inl (.inl upd_same), k5.sq sq1, k5.sq sq2, f1.mono (RowV.mono k5), f2.mono (RowV.mono k5)⟩ hR hS m1 m2 (by simp only [List.length_cons, List.length_nil] at hc2; omega) (pen_same P2 s5) (b2.trans (Pn.But.of s5))
end
end Ad

/-! The end of a law of such a def where some defs grow tables of code objects. -/
namespace Ad
open PySem PySem.Spec PySem.Calls PyProof.Rows L2 GxR
abbrev oList (us : List Value) : Obj := { cls := .type "list", data := .seq us.toArray }
abbrev oTab : Obj := { cls := .none, data := .fields #[] }
/-- an abstract heap over h: the list of us at a, locked (or not told), and empty tables -/
structure First (h : Heap) (K : PySem.W.Frag) (a : Addr) (us : List Value) (ns : List Int) (Ts : List Addr) (H : Hp) : Prop where
  told : ∀ b u, H b = some u → (b = a ∧ u = .frz (oList us) (.lst (ns.map V.int))) ∨ (b ∈ Ts ∧ u = .tbl #[])
  tabs : ∀ b ∈ Ts, H b = some (.tbl #[])
  offK : ∀ b u, H b = some u → K.lookup b = none
section
variable {h : Heap} {K : PySem.W.Frag} {a : Addr} {us : List Value} {ns : List Int} {Ts : List Addr} {H : Hp}
/-- an object that is neither is not tracked -/
theorem First.off (F : First h K a us ns Ts H) (ha : h.get? a = some (oList us)) (ht : ∀ b ∈ Ts, h.get? b = some oTab) {b : Addr} {o : Obj} (e : h.get? b = some o) (n1 : o ≠ oList us) (n2 : o ≠ oTab) : H b = none := by
  cases q : H b with
  | none => rfl
  | some u =>
    rcases F.told b u q with ⟨z, _⟩ | ⟨z, _⟩
    · rw [z, ha] at e
      exact absurd (Option.some.inj e).symm n1
    · rw [ht b z] at e
      exact absurd (Option.some.inj e).symm n2
theorem First.offC (F : First h K a us ns Ts H) (ha : h.get? a = some (oList us)) (ht : ∀ b ∈ Ts, h.get? b = some oTab) {b : Addr} {o : Obj} (e : h.get? b = some o) (n1 : o.cls ≠ .type "list") (n2 : o.cls ≠ .none) : H b = none :=
  F.off ha ht e (fun z => n1 (by rw [z])) fun z => n2 (by rw [z])
theorem First.dict (F : First h K a us ns Ts H) (ha : h.get? a = some (oList us)) (ht : ∀ b ∈ Ts, h.get? b = some oTab) {b : Addr} {m : Str → Option Value} (e : h.Ns b m) : (hidT h H).Ns b m := by
  obtain ⟨o, es, ep, e, d, r⟩ := e
  refine ⟨o, es, ep, hidT_get e (F.off ha ht e (fun z => ?_) fun z => ?_), d, r⟩
  · rw [z] at d
    cases d
  · rw [z] at d
    cases d
end
theorem lawGT {P : Program} {w : World} {K : PySem.W.Frag} {mg mb : Str → Option Value} {CX : CXT} {k : Nat} {fa a : Addr} {cs : List (Addr × Addr)} {fd : FuncData} {x : Str} {sp : Sp} {s : Shared} {us : List Value} {ns : List Int}
    (inK : K.In s.heap) (gl : s.heap.Ns mainGlobals mg) (bl : s.heap.Ns builtinsNs mb) (boot : ∀ x : Str, x ≠ "__name__" → mb x = bootBuiltins x) (lim : s.heap.NoLimit) (quiet : s.gens = #[])
    (tabs : ∀ p ∈ cs, s.heap.get? p.2 = some oTab) (off : ∀ p ∈ cs, K.lookup p.2 = none) (codes : ∀ p ∈ cs, PySem.W.CodeHd s.heap p.1 p.2)
    (top : ∃ (bm : Addr) (ob : Obj), mg "__builtins__" = some (.ref bm) ∧ bm ≠ builtinsNs ∧ s.heap.get? bm = some ob ∧ ob.cls = .type "module" ∧ ob.dict = some builtinsNs ∧ ob.data = .plain)
    (script : s.heap.get? a = some (oList us)) (nums : IntsAre us ns) (few : ns.length ≤ sizeLine) (room : Room k callerA)
    (F : ∀ base : Heap, K.In base → base.Ns mainGlobals mg → (∀ p ∈ cs, TabB base mg p.1 p.2) → FnG P w K mg base CX k fa fd [x] sp) (binds : ∀ (s : Shared) (u : Value), BindsTo s fd ⟨[u], []⟩ [(x, u)])
    (ask : ∀ H : Hp, (∀ p ∈ cs, H p.2 = some (.tbl #[])) → SqL K H a (ns.map V.int) → sp [.ref a] H (fun v _ => v = .bl true) fun _ _ _ => False) (noX : ∀ H e s', CX [] H s (fun _ _ _ => False) e s' → False) :
    codeAny (model P w) callerA (.call (.ref fa) ⟨[.ref a], []⟩) (fun r s' => r = .ok (.ret (.bool true)) ∧ OldK s.heap s'.heap ∧ s'.os = s.os ∧ AllBare s'.gens) s := by
  have rel := vals_ints nums
  have len := nums.length
  have ht : ∀ b ∈ cs.map (·.2), s.heap.get? b = some oTab := by
    intro b hb
    obtain ⟨p, hp, rfl⟩ := List.mem_map.mp hb
    exact tabs p hp
  have aOut : a ∉ cs.map (·.2) := fun z => by
    have e := ht a z
    rw [script] at e
    cases e
  have gone : ∀ {q : Prop} (b : Addr), b ∈ ([] : List Addr) → q := fun {q} b hb => absurd hb (by simp)
  have main : ∀ H : Hp, First s.heap K a us ns (cs.map (·.2)) H → SqL K H a (ns.map V.int) →
      codeAny (model P w) callerA (.call (.ref fa) ⟨[.ref a], []⟩) (fun r s' => r = .ok (.ret (.bool true)) ∧ OldK s.heap s'.heap ∧ s'.os = s.os ∧ AllBare s'.gens) s := by
    intro H D seq
    have ok : HOk P w H s.heap := by
      intro b u e
      rcases D.told b u e with ⟨rfl, rfl⟩ | ⟨z, rfl⟩
      · exact ⟨script, by rw [List.length_map]; exact few, us, _, rel, script⟩
      · exact ht b z
    have kin : K.In (hidT s.heap H) := by
      intro b o e
      refine hidT_get (inK b o e) ?_
      cases q : H b with
      | none => rfl
      | some u =>
        rw [D.offK b u q] at e
        cases e
    have tb : ∀ p ∈ cs, TabB (hidT s.heap H) mg p.1 p.2 := by
      intro p hp
      constructor
      · obtain ⟨o, vs, file, tf, flags, tg, inF, text, tt, e, c, r⟩ := codes p hp
        exact ⟨o, vs, file, tf, flags, tg, inF, text, tt, hidT_get e (D.offC script ht e (by rw [c]; decide) (by rw [c]; intro z; cases z)), c, r⟩
      · obtain ⟨bm, ob, b1, b2, b3, b4, b5, b6⟩ := top
        refine ⟨bm, ob, b1, b2, fun z => ?_, fun z => ?_, hidT_get b3 (D.offC script ht b3 (by rw [b4]; decide) (by rw [b4]; intro z; cases z)), b4, b5, b6⟩
        · obtain ⟨o, es, ep, e, d, _⟩ := gl
          rw [z, e] at b3
          cases b3
          rw [d] at b6
          cases b6
        · rw [z, tabs p hp] at b3
          cases b3
          cases b4
      · intro z
        obtain ⟨o, es, ep, e, d, _⟩ := gl
        rw [z, tabs p hp] at e
        cases e
        cases d
    have mod : L2.Mod K mg (hidT s.heap H) := by
      obtain ⟨mc, l1, l2⟩ := lim
      exact ⟨kin, D.dict script ht gl, ⟨mb, D.dict script ht bl, boot⟩, mc, D.dict script ht l1, l2⟩
    have env : Env0 P w K mg (hidT s.heap H) callerA [] s H := ⟨rfl, mod, fun b o e => of_hidT e, Nat.le_of_eq (hidT_size _ _), trivial, fun b hb => gone b hb, ok, .of_eq quiet⟩
    have run := (F _ kin (D.dict script ht gl) tb).run callerA [] s H ⟨[.ref a], []⟩ [.ref a] [.ref a] _ _ rfl room env (binds s (.ref a)) (.cons rfl .nil) (ask H (fun p hp => D.tabs _ (List.mem_map.mpr ⟨p, hp, rfl⟩)) seq)
    refine codeAny_mono run fun r s' back => ?_
    match r, back with
    | .error e, back => exact (noX H e s' back).elim
    | .ok .next, back => exact False.elim back
    | .ok .brk, back => exact False.elim back
    | .ok .cont, back => exact False.elim back
    | .ok (.ret u), ⟨v, H', os, bare, un, ok', rv, (q : v = .bl true)⟩ =>
      subst q
      obtain rfl : u = Value.bool true := rv
      have stays : ∀ b o, b ∉ cs.map (·.2) → s.heap.get? b = some o → s'.heap.get? b = some o := by
        intro b o nb e
        cases q : H b with
        | none => exact un.keep b o e q (fun z => gone b z) (by simp)
        | some u =>
          rcases D.told b u q with ⟨rfl, rfl⟩ | ⟨z, _⟩
          · have e2 := (ok' b _ (un.frzs b _ _ q)).1
            rw [script] at e
            cases e
            exact e2
          · exact absurd z nb
      have grew : ∀ b ∈ cs.map (·.2), ∃ more : Array Value, s'.heap.get? b = some { cls := .none, data := .fields more } := by
        intro b hb
        obtain ⟨more, z⟩ := un.tbls b #[] (D.tabs b hb)
        exact ⟨_, ok' b _ z⟩
      refine ⟨rfl, ⟨fun b o e => ?_, fun b o e => ?_⟩, os, bare⟩
      · by_cases hb : b ∈ cs.map (·.2)
        · obtain ⟨more, z⟩ := grew b hb
          obtain ⟨p, hp, rfl⟩ := List.mem_map.mp hb
          rw [tabs p hp] at e
          cases e
          refine .inr (.inl ⟨((codes p hp).tab (tabs p hp)).isCodeTable, rfl, #[], more, rfl, ?_⟩)
          rw [Array.empty_append]
          exact z
        · exact .inl (stays b o hb e)
      · by_cases hb : b ∈ cs.map (·.2)
        · obtain ⟨more, z⟩ := grew b hb
          exact ⟨_, z⟩
        · exact ⟨o, stays b o hb e⟩
  have offT : ∀ b ∈ cs.map (·.2), K.lookup b = none := by
    intro b hb
    obtain ⟨p, hp, rfl⟩ := List.mem_map.mp hb
    exact off p hp
  by_cases look : K.lookup a = none
  · refine main (fun b => if b ∈ cs.map (·.2) then some (.tbl #[]) else if b = a then some (.frz (oList us) (.lst (ns.map V.int))) else none) ⟨fun b u e => ?_, fun b hb => if_pos hb, fun b u e => ?_⟩ (.inl (.inr ⟨oList us, (if_neg aOut).trans (if_pos rfl)⟩))
    all_goals
      by_cases hb : b ∈ cs.map (·.2)
      · have e' := (if_pos hb).symm.trans e
        first
          | exact .inr ⟨hb, (Option.some.inj e').symm⟩
          | exact offT b hb
      · have e1 := (if_neg hb).symm.trans e
        by_cases hc : b = a
        · have e' := (if_pos hc).symm.trans e1
          first
            | exact .inl ⟨hc, (Option.some.inj e').symm⟩
            | exact hc ▸ look
        · exact nomatch (if_neg hc).symm.trans e1
  · obtain ⟨o, e⟩ := Option.ne_none_iff_exists'.mp look
    have e2 := inK a o e
    rw [script] at e2
    cases e2
    refine main (fun b => if b ∈ cs.map (·.2) then some (.tbl #[]) else none) ⟨fun b u e => ?_, fun b hb => if_pos hb, fun b u e => ?_⟩ (.inr ⟨_, us.toArray, _, e, rfl, rfl, rfl, ?_, by simpa using rel⟩)
    · by_cases hb : b ∈ cs.map (·.2)
      · exact .inr ⟨hb, (Option.some.inj ((if_pos hb).symm.trans e)).symm⟩
      · exact nomatch (if_neg hb).symm.trans e
    · by_cases hb : b ∈ cs.map (·.2)
      · exact offT b hb
      · exact nomatch (if_neg hb).symm.trans e
    · rw [List.size_toArray, len]
      exact few
/-- what is known of the law at the head's heap -/
def LawGAt (l : PySem.W.OpenLaw) (w : World) (K : PySem.W.Frag) (CX : CXT) (k n : Nat) (x : Str) (mg : Str → Option Value) (fa : Addr) (h : Heap) : Prop :=
  ∃ (fd : FuncData) (cs : List (Addr × Addr)) (sp : Sp), (∀ p ∈ cs, h.get? p.2 = some oTab) ∧ (∀ p ∈ cs, K.lookup p.2 = none) ∧ (∀ p ∈ cs, PySem.W.CodeHd h p.1 p.2) ∧ (∀ (s : Shared) (u : Value), BindsTo s fd ⟨[u], []⟩ [(x, u)]) ∧
    (∀ (H : Hp) (a : Addr) (ns : List Int), ns.length ≤ n → (∀ p ∈ cs, H p.2 = some (.tbl #[])) → SqL K H a (ns.map V.int) → sp [.ref a] H (fun v _ => v = .bl true) fun _ _ _ => False) ∧
    ∀ base : Heap, K.In base → base.Ns mainGlobals mg → (∀ p ∈ cs, TabB base mg p.1 p.2) → FnG l.prog w K mg base CX k fa fd [x] sp
theorem walkGT {l : PySem.W.OpenLaw} {n k : Nat} {q : Program} {loose : List Str} {XP : (Str → Option Value) → Heap → Prop} {YP : World → Heap → Prop} {d : DefRec} {CX : World → CXT} {x : Str}
    (most : l.most = some n) (short : n ≤ sizeLine) (plain : d.params.defaults = []) (room : Room k callerA)
    (F : ∀ (w : World) (mg : Str → Option Value) (fa : Addr) (h : Heap), YP w h → h.Ns mainGlobals mg → mg d.name = some (.ref fa) → ∃ K : PySem.W.Frag, K.In h ∧ LawGAt l w K (CX w) k n x mg fa h)
    (noX : ∀ (w : World) (H : Hp) (s : Shared) (e : Value) (s' : Shared), CX w [] H s (fun _ _ _ => False) e s' → False) : PySem.W.WalkO q loose XP YP l.row.toRowW d [] (fun f vs => PySem.call f vs) := by
  refine Att.attach_callB most plain fun w s0 s mg mb fa o pm cd doc a us ns G Y ho hd hcd hmg list nums few bits quiet => ?_
  obtain ⟨K, inK, fd, cs, sp, t1, t2, t3, b, ask, prom⟩ := F w mg fa _ Y G.T.g hmg
  exact lawGT inK G.T.g G.T.b G.T.builtins G.T.nolimit quiet t1 t2 t3 G.T.bmain list nums (Nat.le_trans few short) room prom b (fun H => ask H a ns few) fun H e s' => noX w H s e s'
end Ad

/-! The law keeps its word. -/
namespace Ad
open PySem PySem.Spec PySem.Calls PyProof.Rows L2 GxR
abbrev sLaw : Stmt := topS 34
theorem scLaw : FnScope ["_law_script", "_law_pen_here", "_law_drawn", "_law_lap", "_law_one", "_law_two", "_law_things", "_law_truths", "_law_wrong", "_law_names", "_law_ranks", "_law_asked", "_law_odd_here", "_law_bad", "_law_sentences", "_law_name", "_law_arity"] ["_law_script"] (defScope sLaw) := ⟨rfl, rfl, rfl, by decide +kernel, rfl, by decide +kernel, by decide +kernel⟩
abbrev lamL : Str := (envOfC "law" (defScope sLaw) 0 0 .none).qual ++ "<lambda>"
section
variable {P : Program} {w : World} {K : PySem.W.Frag} {mg : Str → Option Value} {base : Heap}
def spLaw (K : PySem.W.Frag) (Pt PtK : Addr) : Sp := fun vs H Q _ => ∃ (a : Addr) (ns : List Int), vs = [.ref a] ∧ SqL K H a (ns.map V.int) ∧ ns.length ≤ 63 ∧ H Pt = some (.tbl #[]) ∧ H PtK = some (.tbl #[]) ∧ Pt ≠ PtK ∧ ∀ H', Q (.bl true) H'
theorem ok_law {f c Pt PtK C CU CN CS fU fN fW fK fO dt : Addr} {fd dW fdK fdO : FuncData} {dv : Value} {j : Nat} (F : FunC K "law" "law" sLaw f (.ref c) fd) (TB : LamX.TabB base mg c Pt) {f1 f2 f3 f4 f5 f6 f7 f8 : Addr} {d1 d2 d3 d4 d5 d6 d7 d8 : FuncData}
    (hLPen : Has P w K mg base (j + 3) "_law_pen" ["_law_script"] (Pn.spPen K) f1 d1) (hLDraw : Has P w K mg base (j + 3) "_law_draw" ["_law_pen_here", "_law_many"] Pn.spDraw f2 d2) (hLPick : Has P w K mg base (j + 3) "_law_pick" ["_law_pen_here", "_law_some"] (Pn.spPick K) f3 d3) (hLDrawnOrder : Has P w K mg base (j + 3) "_law_drawn_order" ["_law_pen_here"] (spOrder K) f4 d4)
    (hLDrawnSentence : Has P w K mg base (j + 3) "_law_drawn_sentence" ["_law_pen_here", "_law_rows", "_law_deep", "_law_known"] (spDS K 5) f5 d5) (hLOdd : Has P w K mg base (j + 3) "_law_odd" ["_law_pen_here"] (spLOdd K) f6 d6) (hLDue : Has P w K mg base (j + 3) "_law_due" ["_law_sentences"] (spDue K) f7 d7)
    (hLOrderRight : Has P w K mg base (j + 3) "_law_order_right" ["_law_sentences", "_law_things", "_law_truths", "_law_ranks"] (spOrdRight K PtK) f8 d8)
    (FW : Fun K "_law_why" "_law_why" sWhyK fW dW) (gW : mg "_law_why" = some (.ref fW)) (bW : Binds K dW ["_law_call"] [])
    (GK : FnOk P w K mg base (L2.CX P w) (j + 1) fK fdK ["sentences"] (spKinds K CU PtK)) (gK : mg "kinds" = some (.ref fK)) (kK : PySem.W.keepIn K (.ref fK) = true) (bK : Binds K fdK ["sentences"] [])
    (GO : FnOk P w K mg base (L2.CX P w) (j + 1) fO fdO ["sentences", "ranks"] (spOrderOf K C CU CN PtK)) (gO : mg "order_of" = some (.ref fO)) (kO : PySem.W.keepIn K (.ref fO) = true) (bO2 : Binds K fdO ["sentences", "ranks"] [])
    (TU : Er K CU fU "what") (TN : Er K CN fN "name") (mU : mg "Unlike" = some (.ref CU)) (mN : mg "BadName" = some (.ref CN)) (mS : mg "SettleError" = some (.ref CS)) (kS : PySem.W.keepIn K (.ref CS) = true) (mI : mg "isinstance" = none)
    (xU : PySem.W.exmOne K (.ref CU) (.ref CU) = some true) (xN : PySem.W.exmOne K (.ref CN) (.ref CU) = some false) (xM : PySem.W.exmOne K (.ref CN) (.ref CN) = some true) (xc : ExcC K CN) (kit : PySem.W.kitOne K (.ref CN) (.ref CS) = some true)
    (m_range : mg "range" = none) (m_len : mg "len" = none) (m_tuple : mg "tuple" = none) : FnG P w K mg base CX0 (j + 4) f fd ["_law_script"] (spLaw K Pt PtK) := by
  obtain ⟨⟨oc, od, kV, doc, pm, an, cdW, ct, osl, rfl, lkW, hcW⟩, kW⟩ := FW
  refine fng_ofC F scLaw (fun vs H Q E h => ?_) (fun A outer s H vs Q E gd hr h => ?_)
  · obtain ⟨a, ns, rfl, _⟩ := h
    rfl
  · obtain ⟨a, ns, rfl, hS, few, tab, tabK, ptn, q⟩ := h
    refine ⟨_, PSs.nox (pss_cons (ps_set (i := 1) scLaw.nd rfl (.inr rfl) (pe_call hLPen.G hr (by rfl) hLPen.g hLPen.kp hLPen.b .nil pass0 (pa_cons (pv 0) pa_nil)))
    (pss_cons (ps_set (i := 2) scLaw.nd rfl (.inr rfl) (pe_call hLDrawnOrder.G hr (by rfl) hLDrawnOrder.g hLDrawnOrder.kp hLDrawnOrder.b .nil pass0 (pa_cons (pv 1) pa_nil)))
    (pss_cons (ps_set (i := 14) scLaw.nd rfl (.inr rfl) (pe_lc (own := [("_law_lap", 3)]) (g := gName 3) (tt := tYes) (te := tCall (spDS K 5) [] E0 (tCons (tVar 1) (tCons (tVar 2) (tCons (tCall Pn.spDraw [] E0 (tCons (tVar 1) (tCons (tC (.int 4)) tNil))) (tCons (tLst tNil) tNil))))) rfl scLaw.nd (pi_range1 (by rfl) m_range (pa_cons (pe_op op_add pe_int (pe_call hLDraw.G hr (by rfl) hLDraw.g hLDraw.kp hLDraw.b .nil pass0 (pa_cons (pv 1) (pa_cons pe_int pa_nil)))) pa_nil)) (blkOk_by (N := ["_law_script", "_law_pen_here", "_law_drawn", "_law_lap", "_law_one", "_law_two", "_law_things", "_law_truths", "_law_wrong", "_law_names", "_law_ranks", "_law_asked", "_law_odd_here", "_law_bad", "_law_sentences", "_law_name", "_law_arity"]) (sc := defScope sLaw) (by decide +kernel)) (fun _ _ _ _ _ => (pg_name (i := 3) scLaw.nd rfl (.inl rfl))) (fun _ _ _ _ _ => pts_nil) (fun _ _ _ _ _ => (pe_call hLDrawnSentence.G hr (by rfl) hLDrawnSentence.g hLDrawnSentence.kp hLDrawnSentence.b .nil pass0 (pa_cons (pv 1) (pa_cons (pv 2) (pa_cons (pe_call hLDraw.G hr (by rfl) hLDraw.g hLDraw.kp hLDraw.b .nil pass0 (pa_cons (pv 1) (pa_cons pe_int pa_nil))) (pa_cons (pe_lst pa_nil) pa_nil))))))))
    (C8.pss_cut (ps_if (pt_cmpR op_eq (pe_call hLDraw.G hr (by rfl) hLDraw.g hLDraw.kp hLDraw.b .nil pass0 (pa_cons (pv 1) (pa_cons pe_int pa_nil))) pe_int (nomark _))
      (pss_one (ps_expr (pe_bm PySem.F.plainAttrs_list PySem.F.slot_list_insert PySem.F.type_list_insert mt_insert (pv 14) (pa_cons (pe_call hLDraw.G hr (by rfl) hLDraw.g hLDraw.kp hLDraw.b .nil pass0 (pa_cons (pv 1) (pa_cons (pe_op op_add (pe_callB call_len_seq (by rfl) m_len PySem.boot_len (pa_cons (pv 14) pa_nil)) pe_int) pa_nil))) (pa_cons (pe_call hLOdd.G hr (by rfl) hLOdd.g hLOdd.kp hLOdd.b .nil pass0 (pa_cons (pv 1) pa_nil)) pa_nil))))) pss_nil)
    (C8.pss_cut (ps_if (pt_cmpR op_eq (pe_call hLDraw.G hr (by rfl) hLDraw.g hLDraw.kp hLDraw.b .nil pass0 (pa_cons (pv 1) (pa_cons pe_int pa_nil))) pe_int (nomark _))
      (pss_cons (ps_asg (pe_tup (pa_cons (pe_tup (pa_cons pe_str (pa_cons pe_str (pa_cons (pe_tup (pa_cons pe_str (pa_cons (pe_tup (pa_cons pe_str (pa_cons pe_str pa_nil))) pa_nil))) pa_nil)))) (pa_cons (pe_tup (pa_cons pe_str (pa_cons pe_str (pa_cons (pe_tup (pa_cons pe_str (pa_cons (pe_tup (pa_cons pe_str (pa_cons pe_str pa_nil))) (pa_cons pe_str pa_nil)))) pa_nil)))) pa_nil))) (pg_tup rfl (pgs_cons (pg_name (i := 4) scLaw.nd rfl (.inl rfl)) (pgs_cons (pg_name (i := 5) scLaw.nd rfl (.inl rfl)) pgs_nil))))
      (pss_one (ps_set (i := 14) scLaw.nd rfl (.inr rfl) (pe_call hLPick.G hr (by rfl) hLPick.g hLPick.kp hLPick.b .nil pass0 (pa_cons (pv 1) (pa_cons (pe_lst (pa_cons (pe_lst pa_nil) (pa_cons (pe_lst (pa_cons (pv 4) pa_nil)) (pa_cons (pe_lst (pa_cons (pv 5) (pa_cons (pe_tup (pa_cons pe_str (pa_cons (pe_tup (pa_cons pe_str pa_nil)) pa_nil))) pa_nil))) pa_nil)))) pa_nil)))))) pss_nil)
    (pss_cons (ps_asg (pe_call hLDue.G hr (by rfl) hLDue.g hLDue.kp hLDue.b .nil pass0 (pa_cons (pv 14) pa_nil)) (pg_tup rfl (pgs_cons (pg_name (i := 6) scLaw.nd rfl (.inl rfl)) (pgs_cons (pg_name (i := 7) scLaw.nd rfl (.inl rfl)) (pgs_cons (pg_name (i := 8) scLaw.nd rfl (.inl rfl)) pgs_nil)))))
    (pss_cons (ps_if (pt_cmpR op_notN (pv 8) pe_non (nomark _))
      (pss_cons (ps_if (pt_cmpR (op_neD (hu64 hr)) (LaP.pe_given (P := Pt) (TT := TWhyK CU CN) (k := j + 1) (Ng := ["_law_call", "e"]) (rd := fun E => tCall (spKinds K CU PtK) [] E (tCons (tVar 14) tNil)) (by rfl) gW kW lkW hcW bW scWhyK rfl (.inl rfl) (whyk_gives TU TN mU mN mS kS mI xU xN xM xc kit) TB rfl hr (LamX.lamS_by (sc := defScope sLaw) (by decide +kernel)) rfl (fun _ _ _ _ _ => rfl) (fun A outer s H E f d hr2 => (pe_call GK hr2 (by rfl) gK kK bK .nil (passes_call (takes_of rfl rfl rfl rfl) (fun _ _ _ _ h => h)) (pa_cons (pv 14) pa_nil)))) (pe_tup (pa_cons pe_str (pa_cons (pv 8) pa_nil))) (nomark _))
        (pss_one (ps_ret pe_bl)) pss_nil)
      (pss_one (ps_ret (pe_cmpR (op_eqD (hu64 hr)) (LaP.pe_given (P := Pt) (TT := TWhyK CU CN) (k := j + 1) (Ng := ["_law_call", "e"]) (rd := fun E => tCall (spOrderOf K C CU CN PtK) [] E (tCons (tCB (rTupO K) (tCons (tVar 14) tNil)) (tCons (tTup (tCons (tC (.str "nobody")) tNil)) tNil))) (by rfl) gW kW lkW hcW bW scWhyK rfl (.inl rfl) (whyk_gives TU TN mU mN mS kS mI xU xN xM xc kit) TB rfl hr (LamX.lamS_by (sc := defScope sLaw) (by decide +kernel)) rfl (fun _ _ _ _ _ => rfl) (fun A outer s H E f d hr2 => (pe_call GO hr2 (by rfl) gO kO bO2 .nil (passes_call (takes_of rfl rfl rfl rfl) (fun _ _ _ _ h => h)) (pa_cons (pe_callTy call_tupO (by rfl) m_tuple (by decide +kernel) (pa_cons (pv 14) pa_nil)) (pa_cons (pe_tup (pa_cons pe_str pa_nil)) pa_nil))))) (pe_tup (pa_cons pe_str (pa_cons (pv 8) pa_nil))) (nomark _))))) pss_nil)
    (pss_cons (ps_if (pt_cmpR (op_neD (hu64 hr)) (pe_call GK (hr.mono (by omega)) (by rfl) gK kK bK .nil passL (pa_cons (pv 14) pa_nil)) (pe_tup (pa_cons (pe_callTy call_tuple_of (by rfl) m_tuple (by decide +kernel) (pa_cons (pv 6) pa_nil)) (pa_cons (pe_callTy call_tuple_of (by rfl) m_tuple (by decide +kernel) (pa_cons (pv 7) pa_nil)) pa_nil))) (nomark _))
      (pss_one (ps_ret pe_bl)) pss_nil)
    (pss_cons (ps_par (i := 9) (j := 10) (by rfl) scLaw.nd rfl rfl (by decide) rfl rfl (pa_cons (pe_lc (own := [("_law_name", 15), ("_law_arity", 16)]) (g := gTup K 2 (gCons (gName 15) (gCons (gName 16) gNil))) (tt := tYes) (te := tVar 15) rfl scLaw.nd (pi_list (pe_op op_cat (pv 6) (pv 7))) (blkOk_by (N := ["_law_script", "_law_pen_here", "_law_drawn", "_law_lap", "_law_one", "_law_two", "_law_things", "_law_truths", "_law_wrong", "_law_names", "_law_ranks", "_law_asked", "_law_odd_here", "_law_bad", "_law_sentences", "_law_name", "_law_arity"]) (sc := defScope sLaw) (by decide +kernel)) (fun _ _ _ _ _ => (pg_tup rfl (pgs_cons (pg_name (i := 15) scLaw.nd rfl (.inl rfl)) (pgs_cons (pg_name (i := 16) scLaw.nd rfl (.inl rfl)) pgs_nil)))) (fun _ _ _ _ _ => pts_nil) (fun _ _ _ _ _ => (pv 15))) (pa_cons (pe_lst pa_nil) pa_nil)) (by rfl))
    (C8.pss_cut (ps_for PassesOwn.never rfl (pi_range1 (by rfl) m_range (pa_cons (pe_call hLDraw.G hr (by rfl) hLDraw.g hLDraw.kp hLDraw.b .nil pass0 (pa_cons (pv 1) (pa_cons pe_int pa_nil))) pa_nil)) (pg_name (i := 3) scLaw.nd rfl (.inl rfl))
      (pss_one (ps_if (pt_cmpR (op_neD (hu64 hr)) (pv 9) (pe_lst pa_nil) (nomark _))
        (pss_one (ps_expr (pe_bm PySem.F.plainAttrs_list PySem.F.slot_list_append PySem.F.type_list_append mt_append (pv 10) (pa_cons (pe_bm PySem.F.plainAttrs_list PySem.F.slot_list_pop PySem.F.type_list_pop mt_popAt (pv 9) (pa_cons (pe_call hLDraw.G hr (by rfl) hLDraw.g hLDraw.kp hLDraw.b .nil pass0 (pa_cons (pv 1) (pa_cons (pe_callB call_len_seq (by rfl) m_len PySem.boot_len (pa_cons (pv 9) pa_nil)) pa_nil))) pa_nil)) pa_nil)))) pss_nil)))
    (pss_cons (ps_for PassesOwn.never rfl (pi_list (pe_lst (pa_cons (pe_tup pa_nil) (pa_cons (pe_callTy call_tuple_of (by rfl) m_tuple (by decide +kernel) (pa_cons (pv 10) pa_nil)) pa_nil)))) (pg_name (i := 11) scLaw.nd rfl (.inl rfl))
      (pss_one (ps_if (pt_not (pt_val (pe_call hLOrderRight.G hr (by rfl) hLOrderRight.g hLOrderRight.kp hLOrderRight.b .nil pass0 (pa_cons (pv 14) (pa_cons (pv 6) (pa_cons (pv 7) (pa_cons (pv 11) pa_nil)))))))
        (pss_one (ps_ret pe_bl)) pss_nil)))
    (pss_cons (ps_set (i := 12) scLaw.nd rfl (.inl rfl) (pe_call hLPick.G hr (by rfl) hLPick.g hLPick.kp hLPick.b .nil pass0 (pa_cons (pv 1) (pa_cons (pe_op op_cat (pv 10) (pe_lst (pa_cons pe_str (pa_cons pe_str (pa_cons pe_int (pa_cons pe_non (pa_cons (pe_tup (pa_cons pe_str pa_nil)) (pa_cons pe_str pa_nil)))))))) pa_nil))))
    (pss_cons (ps_set (i := 13) scLaw.nd rfl (.inr rfl) (pe_op op_cat (pv 10) (pe_lst (pa_cons (pv 12) (pa_cons pe_str pa_nil)))))
    (pss_one (ps_ret (pe_cmpR (op_eqD (hu64 hr)) (LaP.pe_given (P := Pt) (TT := TWhyK CU CN) (k := j + 1) (Ng := ["_law_call", "e"]) (rd := fun E => tCall (spOrderOf K C CU CN PtK) [] E (tCons (tVar 14) (tCons (tVar 13) tNil))) (by rfl) gW kW lkW hcW bW scWhyK rfl (.inl rfl) (whyk_gives TU TN mU mN mS kS mI xU xN xM xc kit) TB rfl hr (LamX.lamS_by (sc := defScope sLaw) (by decide +kernel)) rfl (fun _ _ _ _ _ => rfl) (fun A outer s H E f d hr2 => (pe_call GO hr2 (by rfl) gO kO bO2 .nil (passes_call (takes_of rfl rfl rfl rfl) (fun _ _ _ _ h => h)) (pa_cons (pv 14) (pa_cons (pv 13) pa_nil))))) (pe_tup (pa_cons pe_str (pa_cons (pv 12) (pa_cons pe_bl pa_nil)))) (nomark _))))))))))))))))), ?_⟩
    refine ⟨.ref a, rfl, a, ns, rfl, hS, few, fun H1 p l sm1 np nl hP => ?_⟩
    have tb1 : LamX.TabS H1 Pt lamL := LamX.TabS.nil (sm1 _ _ tab)
    have tk1 : TabG H1 PtK := ⟨#[], sm1 _ _ tabK, True.intro⟩
    refine ⟨.ref p, rfl, p, l, ns, 0, rfl, hP, by omega, by omega, fun ra R S B D G c1 oa hB hD mR mS hc1 P1 b1 => ?_⟩
    have gs := gens_ok hB hD mR mS
    replace tb1 := tabs_pen hP b1 tb1
    replace tk1 := tabg_pen hP b1 tk1
    clear b1 hP sm1 np nl tab tabK hS
    refine ⟨.ref p, rfl, p, l, ns, c1, 3, rfl, P1, by omega, by omega, by decide, by decide, fun r G2 r0 r1 P2 b2 => ⟨_, _, rfl, rfl, _, rfl, by omega, by omega, fun Dl nD => ?_⟩⟩
    have oa2 := oa.mono (pen_tk P1 b2)
    replace tb1 := tabs_pen P1 b2 tb1
    replace tk1 := tabg_pen P1 b2 tk1
    have Dlp : Dl ≠ p := pen_kept P2 nD
    have Dll : Dl ≠ l := fun z => by rw [z, P2.ls] at nD; cases nD
    refine lc_range (lo := 0) (n := (1 + r).toNat) (fun i G3 => ∃ (ss : List Sn) (acc : List V) (c2 : Nat), Pn.But p G2 G3 ∧ G3 Dl = some (.lst acc) ∧ Pn.Pen G3 p l ns c2 ∧ c2 ≤ c1 + 1 + 700 * i ∧ DpAll K G3 acc (ss.map Sn.d) ∧ (∀ s ∈ ss, SnG s) ∧ ss.length = i) ⟨[], [], c1 + 1, Pn.But.of (same_new (fun b o e => e) nD _), upd_same, pen_same P2 (same_new (fun b o e => e) nD _), by omega, .nil, (fun e he => nomatch he), rfl⟩ ?_ ?_
    · rintro i G3 hi ⟨ss, acc, c2, b3, gD, P3, hc2, da, sg, ls⟩
      have la := dpAll_len da
      rw [List.length_map] at la
      refine ⟨rfl, .ref p, rfl, .ref ra, rfl, .ref p, rfl, p, l, ns, c2, 4, rfl, P3, by omega, by omega, by decide, by decide, fun r' G4 r0' r1' P4 b4 => ⟨Nat.zero_le _, fun kl nkl => ?_⟩⟩
      obtain ⟨deep, rfl⟩ : ∃ n : Nat, r' = (n : Int) := ⟨r'.toNat, by omega⟩
      have s5 : Same G4 (upd G4 kl (.lst [])) := same_new (fun b o e => e) nkl _
      have e5 : (upd G4 kl (.lst [])) kl = some (.lst []) := upd_same
      have klp := pen_kept P4 nkl
      have gD5 := s5 _ _ (b4 _ _ Dlp gD)
      have da5 := dpAll_same s5 (pen_dpAll P3 b4 da)
      have P5 := pen_same P4 s5
      have oa5 := ((oa2.mono (pen_tk P2 b3)).mono (pen_tk P3 b4)).mono (TK.same s5)
      have b35 : Pn.But p G2 (upd G4 kl (.lst [])) := (b3.trans b4).trans (Pn.But.of s5)
      generalize upd G4 kl (.lst []) = G5 at e5 gD5 da5 P5 oa5 b35
      have sd := sdn_few deep (by omega)
      refine ⟨p, l, ra, kl, ns, c2 + 1, deep, [], R, S, rfl, P5, by omega, by omega, oa5, gs.r, gs.s, by omega, e5, (fun x hx => nomatch hx), (by show 0 + deep ≤ 50; omega), klp, fun s v H' c' dv dsn hc' P' b' => ?_⟩
      have gD6 := b' _ _ Dlp gD5
      have da6 := pen_dpAll P5 b' da5
      have k7 : TK H' (upd H' Dl (.lst (acc ++ [v]))) := TK.lst gD6 _
      have gS := drawn_sng hB hD mR mS (by omega) dsn
      refine ⟨acc, gD6, by rw [sizeLine_eq]; omega, ss ++ [s], acc ++ [v], c', but_on (b35.trans b') nD _, upd_same, pen_on P2 nD P' _, by omega, ?_, fun t ht => ?_, by rw [List.length_append, List.length_singleton, ls]⟩
      · rw [List.map_append]
        exact dpAll_app (sns_tkD k7 (fun t ht => (sg t ht).wf) da6) (.cons (sn_tk k7 s v gS.wf dv) .nil)
      · rcases List.mem_append.mp ht with z | z
        · exact sg t z
        · rw [List.mem_singleton.mp z]
          exact gS
    rintro G3 ⟨ss, acc, c2, b3, gD, P3, hc2, da, sg, ls⟩
    replace tb1 := tabs_pen P2 b3 tb1
    replace tk1 := tabg_pen P2 b3 tk1
    have sl3 : ss.length ≤ 3 := by omega
    have SL3 : ∃ xs, G3 Dl = some (.lst xs) ∧ DpAll K G3 xs (ss.map Sn.d) := ⟨acc, gD, da⟩
    have hc3 : c2 ≤ 3000 := by omega
    clear oa oa2 b3 gD da hc2 nD b2 P2 P1 hc1 r0 r1 ls
    refine ⟨fun σ G => ∃ (sa : Addr) (ss : List Sn) (c : Nat), σ = [some (.ref a), some (.ref p), some (.ref ra), none, none, none, none, none, none, none, none, none, none, none, some (.ref sa), none, none] ∧ Pn.Pen G p l ns c ∧ c ≤ 4000 ∧ SL K G sa ss ∧ LamX.TabS G Pt lamL ∧ TabG G PtK, ?_, ?_⟩
    · obtain ⟨xs, gD, da⟩ := SL3
      refine ⟨.ref p, rfl, p, l, ns, c2, 3, rfl, P3, by omega, by omega, by decide, by decide, fun r G4 r0 r1 P4 b4 => ⟨rfl, _, rfl, ?_⟩⟩
      have gD4 := b4 _ _ Dlp gD
      have da4 := pen_dpAll P3 b4 da
      replace tb1 := tabs_pen P3 b4 tb1
      replace tk1 := tabg_pen P3 b4 tk1
      refine ite2 (fun _ => ?_) (fun _ => ⟨Dl, ss, c2 + 1, rfl, P4, by omega, ⟨xs, gD4, da4, sg, by omega⟩, tb1, tk1⟩)
      have lx := dpAll_len da4
      rw [List.length_map] at lx
      refine ⟨.ref Dl, rfl, .inl ⟨rfl, _, .inl (.inl gD4)⟩, .ref p, rfl, .ref Dl, rfl, Dl, xs, rfl, .inl (.inl (.inl gD4)), _, _, rfl, rfl, p, l, ns, c2 + 1, _, rfl, P4, by omega, by omega, by omega, by omega, fun r5 G5 r50 r51 P5 b5 => ?_⟩
      obtain ⟨i, rfl⟩ : ∃ n : Nat, r5 = (n : Int) := ⟨r5.toNat, by omega⟩
      refine ⟨.ref p, rfl, p, l, ns, c2 + 1 + 1, rfl, P5, by omega, by omega, fun G6 x s hs dx P6 b6 => ?_⟩
      have gD6 := b6 _ _ Dlp (b5 _ _ Dlp gD4)
      have da6 := pen_dpAll P5 b6 (pen_dpAll P4 b5 da4)
      have gS := odd_sng s hs
      have k7 : TK G6 (upd G6 Dl (.lst (xs.take (i : Int).toNat ++ [x] ++ xs.drop (i : Int).toNat))) := TK.lst gD6 _
      have nc : ∀ {v : HO}, G6 Dl = some (.lst xs) → True := fun _ => True.intro
      refine ⟨Dl, xs, (i : Int), x, rfl, rfl, gD6, by rw [sizeLine_eq]; omega, by omega, by omega, Dl, ss.take i ++ [s] ++ ss.drop i, c2 + 1 + 1 + 1, rfl, pen_lst_upd P6 gD6 Dlp Dll _, by omega, ⟨_, upd_same, ?_, fun t ht => ?_, ?_⟩, ?_, ?_⟩
      · have e : (i : Int).toNat = i := by omega
        rw [e] at k7 ⊢
        rw [List.map_append, List.map_append, List.map_take, List.map_drop]
        have h6 := sns_tkD k7 (fun t ht => (sg t ht).wf) da6
        exact dpAll_app (dpAll_app (dpAll_take i h6) (.cons (sn_tk k7 s x gS.wf dx) .nil)) (dpAll_drop i h6)
      · rcases List.mem_append.mp ht with z | z
        · rcases List.mem_append.mp z with z | z
          · exact sg t (List.mem_of_mem_take z)
          · rw [List.mem_singleton.mp z]
            exact gS
        · exact sg t (List.mem_of_mem_drop z)
      · rw [List.length_append, List.length_append, List.length_take, List.length_drop, List.length_singleton]
        omega
      · exact tabs_lst gD6 (tabs_pen P5 b6 (tabs_pen P4 b5 tb1))
      · exact tabg_lst gD6 (tabg_pen P5 b6 (tabg_pen P4 b5 tk1))
    clear SL3 tb1 tk1 P3 hc3 sg sl3 Dlp Dll gs
    rintro σ G ⟨sa, ss, c, rfl, P1, hc, hSL, tb1, tk1⟩
    refine ⟨fun σ G => ∃ (v4 v5 : Option V) (sa : Addr) (ss : List Sn) (c : Nat), σ = [some (.ref a), some (.ref p), some (.ref ra), none, v4, v5, none, none, none, none, none, none, none, none, some (.ref sa), none, none] ∧ Pn.Pen G p l ns c ∧ c ≤ 5000 ∧ SL K G sa ss ∧ LamX.TabS G Pt lamL ∧ TabG G PtK, ?_, ?_⟩
    · refine ⟨.ref p, rfl, p, l, ns, c, 6, rfl, P1, by omega, by omega, by decide, by decide, fun r G4 r0 r1 P4 b4 => ⟨rfl, _, rfl, ?_⟩⟩
      replace tb1 := tabs_pen P1 b4 tb1
      replace tk1 := tabg_pen P1 b4 tk1
      refine ite2 (fun _ => ?_) (fun _ => ⟨none, none, sa, ss, c + 1, rfl, P4, by omega, hSL.pen P1 b4, tb1, tk1⟩)
      refine to_set ((show ED K _ _ G4 (.tuple [oneS.d, twoS.d]) from ed_tup (eds_cons (ed_tup (eds_cons ed_str (eds_cons ed_str (eds_cons (ed_tup (eds_cons ed_str (eds_cons (ed_tup (eds_cons ed_str (eds_cons ed_str eds_nil)) (by decide)) eds_nil)) (by decide)) eds_nil))) (by decide)) (eds_cons (ed_tup (eds_cons ed_str (eds_cons ed_str (eds_cons (ed_tup (eds_cons ed_str (eds_cons (ed_tup (eds_cons ed_str (eds_cons ed_str eds_nil)) (by decide)) (eds_cons ed_str eds_nil))) (by decide)) eds_nil))) (by decide)) eds_nil)) (by decide)) G4 (Same.refl _) _ fun v0 G5 s5 hv => ?_)
      cases hv with
      | @tup a0 zs0 _ sq0 hv =>
      refine ⟨a0, zs0, rfl, sq0, dpAll_len hv, ?_⟩
      cases hv with
      | @cons v1 vs1 _ _ h1 hv =>
      cases hv with
      | @cons v2 vs2 _ _ h2 hv =>
      cases hv with
      | nil =>
      refine ⟨_, _, rfl, _, _, rfl, rfl, ?_⟩
      have P5 := pen_same P4 s5
      replace tb1 := tb1.ext s5
      replace tk1 := tab_same s5 tk1
      clear s5 sq0
      refine ⟨.ref p, rfl, Nat.zero_le _, fun l1 n1 => ⟨v1, rfl, by show 1 ≤ sizeLine; decide, fun l2 n2 => ⟨v2, rfl, by show 1 ≤ sizeLine; decide, fun t1 nt1 => ⟨by show 2 ≤ sizeLine; rw [sizeLine_eq]; decide, fun t2 nt2 => ⟨by show 2 ≤ sizeLine; rw [sizeLine_eq]; decide, fun l3 n3 => ⟨by show 3 ≤ sizeLine; rw [sizeLine_eq]; decide, fun l4 n4 => ?_⟩⟩⟩⟩⟩⟩
      have s1 : Same G5 (upd G5 l1 (.lst [])) := same_new (fun b o e => e) n1 _
      have e1 : (upd G5 l1 (.lst [])) l1 = some (.lst []) := upd_same
      generalize upd G5 l1 (.lst []) = Ga at s1 e1 n2 nt1 nt2 n3 n4
      have s2 : Same Ga (upd Ga l2 (.lst [v1])) := same_new (fun b o e => e) n2 _
      have e2 : (upd Ga l2 (.lst [v1])) l2 = some (.lst [v1]) := upd_same
      generalize upd Ga l2 (.lst [v1]) = Gb at s2 e2 nt1 nt2 n3 n4
      have s3 : Same Gb (upd Gb t1 (.tup [.str "nil_"])) := same_new (fun b o e => e) nt1 _
      have e3 : (upd Gb t1 (.tup [.str "nil_"])) t1 = some (.tup [.str "nil_"]) := upd_same
      generalize upd Gb t1 (.tup [.str "nil_"]) = Gc at s3 e3 nt2 n3 n4
      have s4 : Same Gc (upd Gc t2 (.tup [.str "is", .ref t1])) := same_new (fun b o e => e) nt2 _
      have e4 : (upd Gc t2 (.tup [.str "is", .ref t1])) t2 = some (.tup [.str "is", .ref t1]) := upd_same
      generalize upd Gc t2 (.tup [.str "is", .ref t1]) = Gd at s4 e4 n3 n4
      have s5 : Same Gd (upd Gd l3 (.lst [v2, .ref t2])) := same_new (fun b o e => e) n3 _
      have e5 : (upd Gd l3 (.lst [v2, .ref t2])) l3 = some (.lst [v2, .ref t2]) := upd_same
      generalize upd Gd l3 (.lst [v2, .ref t2]) = Ge at s5 e5 n4
      have s6 : Same Ge (upd Ge l4 (.lst [.ref l1, .ref l2, .ref l3])) := same_new (fun b o e => e) n4 _
      have e6 : (upd Ge l4 (.lst [.ref l1, .ref l2, .ref l3])) l4 = some (.lst [.ref l1, .ref l2, .ref l3]) := upd_same
      generalize upd Ge l4 (.lst [.ref l1, .ref l2, .ref l3]) = Gf at s6 e6
      have s26 := (s3.trans s4).trans (s5.trans s6)
      have s16 := s2.trans s26
      have s06 := s1.trans s16
      have P6 := pen_same P5 s06
      have hl1 : SL K Gf l1 [] := ⟨[], s16 _ _ e1, .nil, (fun e he => nomatch he), Nat.zero_le _⟩
      have hl2 : SL K Gf l2 [oneS] := ⟨[v1], s26 _ _ e2, .cons (dp_same s06 h1) .nil, fun s hs => by rw [List.mem_singleton.mp hs]; exact nil_sng.1, by show 1 ≤ 4; decide⟩
      have d3 : Dp K Gf (.ref t2) thrS.d := .tup (.inl (.inl ((s5.trans s6) _ _ e4))) (.cons (.str _) (.cons (.tup (.inl (.inl ((s4.trans (s5.trans s6)) _ _ e3))) (.cons (.str _) .nil)) .nil))
      have hl3 : SL K Gf l3 [twoS, thrS] := ⟨[v2, .ref t2], s6 _ _ e5, .cons (dp_same s06 h2) (.cons d3 .nil), fun s hs => by
        rcases List.mem_cons.mp hs with rfl | hs
        · exact nil_sng.2.1
        · rw [List.mem_singleton.mp hs]
          exact nil_sng.2.2, by show 2 ≤ 4; decide⟩
      have l4p : l4 ≠ p := fun z => by
        obtain ⟨⟨_, _, _, e, _⟩, _⟩ := P6
        rw [z, e] at e6
        cases e6
      refine ⟨p, l, l4, ns, c + 1, _, rfl, P6, by omega, by omega, .inl (.inl (.inl e6)), (fun z => nomatch z), by show 3 ≤ 1000000; decide, l4p, fun x G7 hx P7 b7 => ?_⟩
      have tb7 := tabs_pen P6 b7 (tb1.ext s06)
      have tk7 := tabg_pen P6 b7 (tab_same s06 tk1)
      rcases List.mem_cons.mp hx with rfl | hx
      · exact ⟨_, _, l1, _, _, rfl, P7, by omega, hl1.pen P6 b7, tb7, tk7⟩
      · rcases List.mem_cons.mp hx with rfl | hx
        · exact ⟨_, _, l2, _, _, rfl, P7, by omega, hl2.pen P6 b7, tb7, tk7⟩
        · cases List.mem_singleton.mp hx
          exact ⟨_, _, l3, _, _, rfl, P7, by omega, hl3.pen P6 b7, tb7, tk7⟩
    clear hSL tb1 tk1 P1 hc
    rintro σ G ⟨v4, v5, sa, ss, c, rfl, P1, hc, hSL, tb1, tk1⟩
    obtain ⟨xs, eS, dS, sg, l4⟩ := hSL
    have ofew := occs_few sg
    have each : ∀ s ∈ ss, s.ok = true ∧ s.wf = true ∧ s.size ≤ 1000 := fun s hs => ⟨(sg s hs).ok, (sg s hs).wf, Nat.le_trans (sg s hs).size (by decide)⟩
    have each40 : ∀ s ∈ ss, s.ok = true ∧ s.wf = true ∧ s.size ≤ 40 := fun s hs => ⟨(sg s hs).ok, (sg s hs).wf, (sg s hs).size⟩
    have few5 : (Sn.occsL ss).length ≤ 100000 := by omega
    cases sc : Kn.scan [] (Sn.occsL ss) with
    | inl x =>
      have hxN : x ∈ allN := by
        obtain ⟨q', hq', rfl⟩ := List.mem_map.mp (Kn.scan_err _ sc)
        exact occs_names sg q' hq'
      have okx := (allN_ok x hxN).1
      have layU : Lay 1 (.tuple [.str "unlike", .str x]) := lay2 (n := 0) (lay_str 0 (by decide +kernel)) (lay_str 0 okx)
      have notgood : ∀ l', Kn.scan [] (Sn.occsL ss) = .inr l' → False := fun l' hl' => by rw [sc] at hl'; cases hl'
      refine ⟨.ref sa, rfl, sa, xs, ss, G, rfl, .inl (.inl (.inl eS)), Same.refl _, dS, each40, few5, fun x' hx' G2 pr tt uu s2 sp => ?_, fun l' hl' => (notgood l' hl').elim⟩
      rw [sc] at hx'
      cases hx'
      refine ⟨pr, _, rfl, sp, rfl, _, _, rfl, _, _, rfl, _, _, rfl, rfl, ?_⟩
      replace tb1 := tb1.ext s2
      replace tk1 := tab_same s2 tk1
      replace eS := s2 _ _ eS
      replace dS := dpAll_same s2 dS
      clear P1 s2 sp
      refine ⟨.str x, rfl, rfl, true, congrArg (fun z => V.bl (!z)) (decide_eq_false (fun z => nomatch z)), iteT ?_⟩
      refine ⟨tb1, fun G3 b3 tb3 => ?_⟩
      have tk3 : TabG G3 PtK := tabg_but ptn tb1 tk1 b3
      have eS3 := lst_but tb1 b3 eS
      have dS3 := dpAll_but tb1 b3 dS
      refine ⟨.ref sa, rfl, sa, xs, ss, G3, rfl, .inl (.inl (.inl eS3)), Same.refl _, dS3, each, few5, tk3, fun x' hx' dd G4 s4 nd4 ed4 => .inl ⟨rfl, dd, x', rfl, ed4, fun t5 nt5 => ?_⟩, fun l' hl' => (notgood l' hl').elim⟩
      rw [sc] at hx'
      cases hx'
      have s5 : Same G4 (upd G4 t5 (.tup [.str "unlike", .str x])) := same_new (fun b o e => e) nt5 _
      have e5 : (upd G4 t5 (.tup [.str "unlike", .str x])) t5 = some (.tup [.str "unlike", .str x]) := upd_same
      generalize upd G4 t5 (.tup [.str "unlike", .str x]) = G5 at s5 e5
      refine ⟨.str x, rfl, by show 2 ≤ sizeLine; rw [sizeLine_eq]; decide, fun t6 nt6 => ?_⟩
      have s6 : Same G5 (upd G5 t6 (.tup [.str "unlike", .str x])) := same_new (fun b o e => e) nt6 _
      have e6 : (upd G5 t6 (.tup [.str "unlike", .str x])) t6 = some (.tup [.str "unlike", .str x]) := upd_same
      have e56 := s6 _ _ e5
      have s36 := (s4.trans s5).trans s6
      generalize upd G5 t6 (.tup [.str "unlike", .str x]) = G6 at s36 e6 e56
      have two : ∀ {G : Hp} {t : Addr}, G t = some (.tup [.str "unlike", .str x]) → Dp K G (.ref t) (.tuple [.str "unlike", .str x]) := fun e => .tup (.inl (.inl e)) (.cons (.str _) (.cons (.str _) .nil))
      refine ⟨_, _, two e56, two e6, layU.shaped (by decide), layU.shaped (by decide), _, rfl, ?_⟩
      rw [layU.eqv (by decide)]
      refine iteF ?_
      have tb6 := tb3.ext s36
      have tk6 := tab_same s36 tk3
      have eS6 := s36 _ _ eS3
      have dS6 := dpAll_same s36 dS3
      clear s4 s5 s6 s36 e5 e6 e56 nt5 nt6 nd4 ed4 tb1 tk1 eS dS tb3 tk3 eS3 dS3 b3
      refine ⟨tb6, fun G7 b7 tb7 => ?_⟩
      have tk7 : TabG G7 PtK := tabg_but ptn tb6 tk6 b7
      have eS7 := lst_but tb6 b7 eS6
      have dS7 := dpAll_but tb6 b7 dS6
      refine ⟨.ref sa, rfl, sa, xs, rfl, .inl ⟨.inl (.inl eS7), fun t8 nt8 => ⟨by show 1 ≤ sizeLine; decide, fun t9 nt9 => ?_⟩⟩⟩
      have s8 : Same G7 (upd G7 t8 (.tup xs)) := same_new (fun b o e => e) nt8 _
      have e8 : (upd G7 t8 (.tup xs)) t8 = some (.tup xs) := upd_same
      generalize upd G7 t8 (.tup xs) = G8 at s8 e8 nt9
      have s9 : Same G8 (upd G8 t9 (.tup [.str "nobody"])) := same_new (fun b o e => e) nt9 _
      have e9 : (upd G8 t9 (.tup [.str "nobody"])) t9 = some (.tup [.str "nobody"]) := upd_same
      have e89 := s9 _ _ e8
      have s79 := s8.trans s9
      generalize upd G8 t9 (.tup [.str "nobody"]) = G9 at s79 e9 e89
      refine ⟨t8, t9, xs, [.str "nobody"], ss, [.str "nobody"], G9, rfl, .inr (.inl (.inl e89)), Same.refl _, dpAll_same s79 dS7, each, few5, tab_same s79 tk7, .inr (.inl (.inl e9)), .cons (.str _) .nil, by show 1 ≤ 40; decide, fun x' hx' dd Ga sa' nda eda => .inl ⟨rfl, dd, x', rfl, eda, fun tb ntb => ?_⟩, fun l' hl' => (notgood l' hl').elim⟩
      rw [sc] at hx'
      cases hx'
      have s5 : Same Ga (upd Ga tb (.tup [.str "unlike", .str x])) := same_new (fun b o e => e) ntb _
      have e5 : (upd Ga tb (.tup [.str "unlike", .str x])) tb = some (.tup [.str "unlike", .str x]) := upd_same
      generalize upd Ga tb (.tup [.str "unlike", .str x]) = Gb at s5 e5
      refine ⟨.str x, rfl, by show 2 ≤ sizeLine; rw [sizeLine_eq]; decide, fun t6 nt6 => ?_⟩
      have s6 : Same Gb (upd Gb t6 (.tup [.str "unlike", .str x])) := same_new (fun b o e => e) nt6 _
      refine ⟨_, _, two (s6 _ _ e5), two upd_same, layU.shaped (by decide), layU.shaped (by decide), ?_⟩
      rw [layU.eqv (by decide)]
      exact q _
    | inr l' =>
      have notbad : ∀ x, Kn.scan [] (Sn.occsL ss) = .inl x → False := fun x hx => by rw [sc] at hx; cases hx
      obtain ⟨nodup, from'⟩ := Kn.scan_ok _ sc (by simp)
      have subN : ∀ x ∈ l'.map (·.1), x ∈ allN := fun x hx => by
        obtain ⟨q', hq', rfl⟩ := List.mem_map.mp hx
        rcases from' q' hq' with z | z
        · cases z
        · exact occs_names sg q' z
      obtain ⟨m, oc, m4⟩ := odC_of nodup subN
      have okn : ∀ x ∈ l'.map (·.1), PyData.strOk x = true := fun x hx => (allN_ok x (subN x hx)).1
      have okN : ∀ x ∈ Od.names l', PyData.strOk x = true := fun x hx => okn x (Od.names_iff.mp hx)
      have lT : (Od.things l').length ≤ 19 := Nat.le_trans (Kn.part_len false l') oc.few
      have lU : (Od.truths l').length ≤ 19 := Nat.le_trans (Kn.part_len true l') oc.few
      have ndN : (Od.names l').Nodup := by
        unfold Od.names Rn.names
        rw [List.map_append]
        exact List.nodup_append.mpr ⟨part_nodup' nodup false, part_nodup' nodup true, fun a ha b hb z => by rw [z] at ha; exact Od.part_apart nodup ha hb⟩
      have okP : ∀ b, ∀ r ∈ Kn.part b l', PyData.strOk r.1 = true := fun b r hr => by
        obtain ⟨n, hn⟩ := Od.part_mem (List.mem_map.mpr ⟨r, hr, rfl⟩)
        exact okn _ (List.mem_map.mpr ⟨_, hn, rfl⟩)
      refine ⟨.ref sa, rfl, sa, xs, ss, G, rfl, .inl (.inl (.inl eS)), Same.refl _, dS, each40, few5, fun x' hx' => (notbad x' hx').elim, fun l2 hl2 G2 pr tt uu ys zs s2 sp ett ft euu fu => ?_⟩
      rw [sc] at hl2
      cases hl2
      replace ft : F2 (PrV K G2) (Od.things l') ys := ft
      replace fu : F2 (PrV K G2) (Od.truths l') zs := fu
      have lys := ft.len
      have lzs := fu.len
      refine ⟨pr, _, rfl, sp, rfl, _, _, rfl, _, _, rfl, _, _, rfl, rfl, ?_⟩
      replace tb1 := tb1.ext s2
      replace tk1 := tab_same s2 tk1
      replace eS := s2 _ _ eS
      replace dS := dpAll_same s2 dS
      replace P1 := pen_same P1 s2
      clear s2 sp
      refine ⟨.non, rfl, rfl, false, congrArg (fun z => V.bl (!z)) (decide_eq_true rfl), iteF ?_⟩
      -- kinds
      refine ⟨.ref sa, rfl, sa, xs, ss, G2, rfl, .inl (.inl (.inl eS)), Same.refl _, dS, each, few5, tk1, fun x' hx' => (notbad x' hx').elim, fun l2 hl2 G3 pk kt ku xk yk b3 tk3 sqk tup1 f1 tup2 f2 => ?_⟩
      rw [sc] at hl2
      cases hl2
      have ett3 := tab_lst tk1 b3 ett
      have euu3 := tab_lst tk1 b3 euu
      have eS3 := tab_lst tk1 b3 eS
      have dS3 := tab_dpAll tk1 b3 dS
      have P3 := pen_tab P1 tk1 b3
      have ft3 := ft.mono (PrV.mono (tab_tk tk1 b3))
      have fu3 := fu.mono (PrV.mono (tab_tk tk1 b3))
      have tb3 := tabs_but ptn tk1 b3 tb1
      clear ett euu eS dS P1 ft fu tb1 tk1 b3
      refine ⟨.ref tt, rfl, tt, _, rfl, .inl ⟨.inl (.inl ett3), fun t1 nt1 => ⟨.ref uu, rfl, uu, zs, rfl, .inl ⟨.inl (.inl ?_), fun t2 nt2 => ⟨by show 2 ≤ sizeLine; rw [sizeLine_eq]; decide, fun t3 nt3 => ?_⟩⟩⟩⟩⟩
      · rw [upd_ne (ne_of_none euu3 nt1)]
        exact euu3
      have s1 : Same G3 (upd G3 t1 (.tup ys)) := same_new (fun b o e => e) nt1 _
      have e1 : (upd G3 t1 (.tup ys)) t1 = some (.tup ys) := upd_same
      generalize upd G3 t1 (.tup ys) = G4 at s1 e1 nt2 nt3
      have s2 : Same G4 (upd G4 t2 (.tup zs)) := same_new (fun b o e => e) nt2 _
      have e2 : (upd G4 t2 (.tup zs)) t2 = some (.tup zs) := upd_same
      have e12 := s2 _ _ e1
      generalize upd G4 t2 (.tup zs) = G5 at s2 e2 e12 nt3
      have s3 : Same G5 (upd G5 t3 (.tup [.ref t1, .ref t2])) := same_new (fun b o e => e) nt3 _
      have e3 : (upd G5 t3 (.tup [.ref t1, .ref t2])) t3 = some (.tup [.ref t1, .ref t2]) := upd_same
      have e13 := s3 _ _ e12
      have e23 := s3 _ _ e2
      have s13 := (s1.trans s2).trans s3
      generalize upd G5 t3 (.tup [.ref t1, .ref t2]) = G6 at s13 e3 e13 e23
      have k6 := TK.same s13
      have dA : Dp K G6 (.ref pk) (.tuple [.tuple ((Kn.part false l').map prPD), .tuple ((Kn.part true l').map prPD)]) := .tup (k6.sq sqk) (.cons (.tup (k6.sq tup1.sq) (prV_pd (f1.mono (PrV.mono k6)))) (.cons (.tup (k6.sq tup2.sq) (prV_pd (f2.mono (PrV.mono k6)))) .nil))
      have dB : Dp K G6 (.ref t3) (.tuple [.tuple ((Kn.part false l').map prPD), .tuple ((Kn.part true l').map prPD)]) := .tup (.inl (.inl e3)) (.cons (.tup (.inl (.inl e13)) (prV_pd (ft3.mono (PrV.mono k6)))) (.cons (.tup (.inl (.inl e23)) (prV_pd (fu3.mono (PrV.mono k6)))) .nil))
      have layK : Lay 3 (.tuple [.tuple ((Kn.part false l').map prPD), .tuple ((Kn.part true l').map prPD)]) := lay2 (n := 2) (lay_tup (prs_lay (okP false))) (lay_tup (prs_lay (okP true)))
      refine ⟨_, _, dA, dB, layK.shaped (by decide), layK.shaped (by decide), _, rfl, ?_⟩
      rw [layK.eqv (by decide)]
      refine iteF ?_
      have ett6 := s13 _ _ ett3
      have euu6 := s13 _ _ euu3
      have eS6 := s13 _ _ eS3
      have dS6 := dpAll_same s13 dS3
      have P6 := pen_same P3 s13
      have ft6 := ft3.mono (PrV.mono k6)
      have fu6 := fu3.mono (PrV.mono k6)
      have tb6 := tb3.ext s13
      have tk6 := tab_same s13 tk3
      clear ett3 euu3 eS3 dS3 P3 ft3 fu3 tb3 tk3 s1 s2 s3 s13 e1 e2 e3 e12 e13 e23 dA dB k6 sqk tup1 f1 tup2 f2 nt1 nt2 nt3
      -- names, ranks
      refine ⟨.ref tt, rfl, .ref uu, rfl, tt, uu, _, _, rfl, rfl, ett6, euu6, by rw [sizeLine_eq]; omega, fun cn nc => ?_⟩
      have s0 : Same G6 (upd G6 cn (.lst (ys ++ zs))) := same_new (fun b o e => e) nc _
      have e0 : (upd G6 cn (.lst (ys ++ zs))) cn = some (.lst (ys ++ zs)) := upd_same
      generalize upd G6 cn (.lst (ys ++ zs)) = G7 at s0 e0
      refine ⟨cn, rfl, ⟨_, .inl (.inl e0)⟩, fun na nna => lc_list (K := K) (a := cn) (xs := ys ++ zs) (fun i G => Same G7 G ∧ G na = some (.lst (((Od.names l').take i).map V.str))) ⟨same_new (fun b o e => e) nna _, upd_same⟩ (fun i G _ ⟨sm, _⟩ => .inl (.inl (sm _ _ e0))) ?_ ?_⟩
      · rintro i x G hxi ⟨sm, gD⟩
        obtain ⟨pr, hpr, bq, rfl, sqb⟩ := (F2.app ft6 fu6).get hxi
        have hn : (Od.names l')[i]? = some pr.1 := by
          unfold Od.names Rn.names
          rw [List.getElem?_map, hpr]
          rfl
        have il := (List.getElem?_eq_some_iff.mp hpr).1
        rw [List.length_append] at il
        refine ⟨bq, _, rfl, (TK.same (s0.trans sm)).sq sqb, rfl, _, _, rfl, _, _, rfl, rfl, rfl, _, rfl, _, gD, ?_, same_on sm nna _, ?_⟩
        · rw [List.length_map, List.length_take, sizeLine_eq]
          omega
        · rw [take_next hn, List.map_append, upd_same]
          rfl
      rintro G8 ⟨sm8, gN⟩
      have lnn : (Od.names l').length = (ys ++ zs).length := by
        unfold Od.names Rn.names
        rw [List.length_map, List.length_append, List.length_append]
        omega
      rw [← lnn, List.take_length] at gN
      have nna6 := none_before s0 nna
      have s68 := s0.trans sm8
      clear s0 e0 sm8 nna
      refine ⟨Nat.zero_le _, fun rka nrk => ?_⟩
      have s9 : Same G8 (upd G8 rka (.lst [])) := same_new (fun b o e => e) nrk _
      have e9 : (upd G8 rka (.lst [])) rka = some (.lst []) := upd_same
      have gN9 := s9 _ _ gN
      have nar : na ≠ rka := fun z => by rw [z, nrk] at gN; cases gN
      have nrk6 := none_before s68 nrk
      have s69 := s68.trans s9
      generalize upd G8 rka (.lst []) = G9 at s69 e9 gN9
      clear s9 s68 nrk gN
      have P9 := pen_same P6 s69
      have nap : na ≠ p := pen_kept P6 nna6
      have rkp : rka ≠ p := pen_kept P6 nrk6
      have nal : na ≠ l := fun z => by rw [z, P6.ls] at nna6; cases nna6
      have rkl : rka ≠ l := fun z => by rw [z, P6.ls] at nrk6; cases nrk6
      refine ⟨_, _, rfl, ?_⟩
      refine ⟨fun σ G => ∃ (v3 : Option V) (N T : List Str) (c : Nat), σ = [some (.ref a), some (.ref p), some (.ref ra), v3, v4, v5, some (.ref tt), some (.ref uu), some .non, some (.ref na), some (.ref rka), none, none, none, some (.ref sa), none, none] ∧ Pn.Pen G p l ns c ∧ c ≤ 6000 ∧ Pn.But p G6 G ∧ G rka = some (.lst (T.map V.str)) ∧ (T ++ N).Perm (Od.names l') ∧ T.length ≤ 3, ?_, ?_⟩
      · refine ⟨.ref p, rfl, p, l, ns, c, 4, rfl, P9, by omega, by omega, by decide, by decide, fun r GA r0 r1 PA bA => ?_⟩
        have gNA := bA _ _ nap gN9
        have gRA := bA _ _ rkp e9
        have b6A : Pn.But p G6 GA := (Pn.But.of s69).trans bA
        refine ⟨_, rfl, by omega, by omega, for_range (lo := 0) (n := r.toNat) (fun i σ G => ∃ (v3 : Option V) (N T : List Str) (c' : Nat), σ = [some (.ref a), some (.ref p), some (.ref ra), v3, v4, v5, some (.ref tt), some (.ref uu), some .non, some (.ref na), some (.ref rka), none, none, none, some (.ref sa), none, none] ∧ Pn.Pen G p l ns c' ∧ c' ≤ c + 1 + i ∧ Pn.But p G6 G ∧ G na = some (.lst (N.map V.str)) ∧ G rka = some (.lst (T.map V.str)) ∧ (T ++ N).Perm (Od.names l') ∧ T.length ≤ i)
          ⟨none, Od.names l', [], c + 1, rfl, PA, by omega, b6A, gNA, gRA, List.Perm.refl _, Nat.zero_le _⟩ ?_ ?_⟩
        · clear gNA gRA b6A PA bA P9 gN9 e9
          rintro i σ G hi ⟨v3, N, T, c', rfl, P, hc', b6, gN, gR, perm, lT'⟩
          have lperm := perm.length_eq
          rw [List.length_append] at lperm
          have lN : (Od.names l').length ≤ 38 := by
            rw [lnn, List.length_append]
            omega
          have okNN : ∀ x ∈ N, PyData.strOk x = true := fun x hx => okN x (perm.mem_iff.mp (List.mem_append_right _ hx))
          refine ⟨.ref na, rfl, Nat.zero_le _, fun t0 nt0 => ?_⟩
          have s0 : Same G (upd G t0 (.lst [])) := same_new (fun b o e => e) nt0 _
          have e0 : (upd G t0 (.lst [])) t0 = some (.lst []) := upd_same
          have gN0 := s0 _ _ gN
          have gR0 := s0 _ _ gR
          have P0 := pen_same P s0
          have b60 := b6.trans (Pn.But.of s0)
          generalize upd G t0 (.lst []) = G0 at e0 gN0 gR0 P0 b60
          refine ⟨_, _, .lst (.inl (.inl gN0)) (strs_pd N), .lst (.inl (.inl e0)) .nil, Lay.shaped (n := 1) (lay_lst (n := 0) (strs_lay0 okNN)) (by decide), rfl, _, rfl, ?_⟩
          rw [eqvL_nil, List.isEmpty_map]
          cases N with
          | nil => exact iteF ⟨_, [], T, c', rfl, P0, by omega, b60, gN0, gR0, perm, by omega⟩
          | cons y N =>
            refine iteT ⟨.ref rka, rfl, .inl ⟨rfl, _, .inl (.inl gR0)⟩, .ref na, rfl, .inl ⟨rfl, _, .inl (.inl gN0)⟩, .ref p, rfl, .ref na, rfl, na, _, rfl, .inl (.inl (.inl gN0)), p, l, ns, c', _, rfl, P0, by omega, by omega, (by rw [List.length_map, List.length_cons]; omega), (by rw [List.length_map]; omega), fun r2 G2 r20 r21 P2 b2 => ?_⟩
            obtain ⟨m2, rfl⟩ : ∃ m : Nat, r2 = (m : Int) := ⟨r2.toNat, by omega⟩
            rw [List.length_map] at r21
            have hm : m2 < (y :: N).length := by omega
            have hg : (y :: N)[m2]? = some (y :: N)[m2] := List.getElem?_eq_getElem hm
            generalize (y :: N)[m2] = z at hg
            have gN2 := b2 _ _ nap gN0
            have gR2 := b2 _ _ rkp gR0
            have hg2 : ((y :: N).map V.str)[m2]? = some (.str z) := by rw [List.getElem?_map, hg]; rfl
            have hmm : m2 < ((y :: N).map V.str).length := by rw [List.length_map]; exact hm
            refine ⟨na, (y :: N).map V.str, (m2 : Int), m2, .str z, rfl, rfl, gN2, by omega, by rw [List.length_cons] at hm; omega, sx_nat hmm, hg2, ?_⟩
            have er : ((y :: N).map V.str).eraseIdx m2 = ((y :: N).eraseIdx m2).map V.str := erase_map V.str (y :: N) m2
            rw [er]
            have gR3 : (upd G2 na (.lst (((y :: N).eraseIdx m2).map V.str))) rka = some (.lst (T.map V.str)) := by rw [upd_ne nar.symm]; exact gR2
            refine ⟨rka, _, .str z, rfl, rfl, gR3, (by rw [List.length_map, sizeLine_eq]; omega), _, (y :: N).eraseIdx m2, T ++ [z], c' + 1, rfl, ?_, by omega, but_on (but_on (b60.trans b2) nna6 _) nrk6 _, ?_, ?_, ?_, ?_⟩
            · exact pen_lst_upd (pen_lst_upd P2 gN2 nap nal _) gR3 rkp rkl _
            · rw [upd_ne nar, upd_same]
            · rw [upd_same, List.map_append]
              rfl
            · refine List.Perm.trans ?_ perm
              rw [List.append_assoc]
              exact List.Perm.append_left T (erase_perm hg).symm
            · rw [List.length_append, List.length_singleton]
              omega
        · rintro σ G ⟨v3, N, T, c', rfl, P, hc', b6, gN, gR, perm, lT'⟩
          exact ⟨v3, N, T, c', rfl, P, by omega, b6, gR, perm, by omega⟩
      clear P9 gN9 e9 s69
      rintro σ G ⟨v3, N, T, c0, rfl, P, hc0, b6, gR, perm, lT'⟩
      have ndT : T.Nodup := (List.nodup_append.mp (perm.nodup_iff.mpr ndN)).1
      have subT : ∀ x ∈ T, x ∈ Od.names l' := fun x hx => perm.mem_iff.mp (List.mem_append_left _ hx)
      have ett := pen_lst' P6 b6 ett6
      have euu := pen_lst' P6 b6 euu6
      have eS := pen_lst' P6 b6 eS6
      have dS := pen_dpAll P6 b6 dS6
      have ft := ft6.mono (PrV.mono (pen_tk P6 b6))
      have fu := fu6.mono (PrV.mono (pen_tk P6 b6))
      have tb := tabs_pen P6 b6 tb6
      have tk := tabg_pen P6 b6 tk6
      clear ett6 euu6 eS6 dS6 ft6 fu6 tb6 tk6 P6 b6
      -- both orders
      refine ⟨Nat.zero_le _, fun t0 nt0 => ⟨.ref rka, rfl, rka, T.map V.str, rfl, .inl ⟨.inl (.inl ?_), fun t1 nt1 => ⟨by show 2 ≤ sizeLine; rw [sizeLine_eq]; decide, fun lk nlk => ?_⟩⟩⟩⟩
      · rw [upd_ne (ne_of_none gR nt0)]
        exact gR
      have s1 : Same G (upd G t0 (.tup [])) := same_new (fun b o e => e) nt0 _
      have e1 : (upd G t0 (.tup [])) t0 = some (.tup []) := upd_same
      generalize upd G t0 (.tup []) = Ga at s1 e1 nt1 nlk
      have s2 : Same Ga (upd Ga t1 (.tup (T.map V.str))) := same_new (fun b o e => e) nt1 _
      have e2 : (upd Ga t1 (.tup (T.map V.str))) t1 = some (.tup (T.map V.str)) := upd_same
      have e12 := s2 _ _ e1
      generalize upd Ga t1 (.tup (T.map V.str)) = Gb at s2 e2 e12 nlk
      have s3 : Same Gb (upd Gb lk (.lst [.ref t0, .ref t1])) := same_new (fun b o e => e) nlk _
      have e3 : (upd Gb lk (.lst [.ref t0, .ref t1])) lk = some (.lst [.ref t0, .ref t1]) := upd_same
      have e13 := s3 _ _ e12
      have e23 := s3 _ _ e2
      have s13 := (s1.trans s2).trans s3
      generalize upd Gb lk (.lst [.ref t0, .ref t1]) = Gc at s13 e3 e13 e23
      replace ett := s13 _ _ ett
      replace euu := s13 _ _ euu
      replace eS := s13 _ _ eS
      replace dS := dpAll_same s13 dS
      replace ft := ft.mono (PrV.mono (TK.same s13))
      replace fu := fu.mono (PrV.mono (TK.same s13))
      replace tb := tb.ext s13
      replace tk := tab_same s13 tk
      replace P := pen_same P s13
      replace gR := s13 _ _ gR
      clear s1 s2 s3 s13 e1 e2 e12 nt0 nt1 nlk
      have lkP : lk ≠ PtK := fun z => by obtain ⟨ps, e, _⟩ := tk; rw [← z, e3] at e; cases e
      refine ⟨lk, rfl, ⟨_, .inl (.inl e3)⟩, for_list (K := K) (a := lk) (xs := [.ref t0, .ref t1]) (fun i σ G => ∃ v11 : Option V, σ = [some (.ref a), some (.ref p), some (.ref ra), v3, v4, v5, some (.ref tt), some (.ref uu), some .non, some (.ref na), some (.ref rka), v11, none, none, some (.ref sa), none, none] ∧ Pn.But PtK Gc G ∧ TabG G PtK)
        ⟨none, rfl, fun b o _ e => e, tk⟩ (fun i σ G _ ⟨_, _, b, _⟩ => .inl (.inl (b _ _ lkP e3))) ?_ ?_⟩
      · rintro i x σ G hx ⟨v11, rfl, bG, tkG⟩
        have two : ∃ (rk : Addr) (T' : List Str), x = .ref rk ∧ SqT K Gc rk (T'.map V.str) ∧ T'.Nodup ∧ (∀ y ∈ T', y ∈ Od.names l') ∧ T'.length ≤ 40 := by
          match i, hx with
          | 0, hx => cases hx; exact ⟨t0, [], rfl, .inl (.inl e13), List.nodup_nil, (fun y hy => nomatch hy), Nat.zero_le _⟩
          | 1, hx => cases hx; exact ⟨t1, T, rfl, .inl (.inl e23), ndT, subT, by omega⟩
        obtain ⟨rk, T', rfl, srk, nd', sub', few'⟩ := two
        have kG := tab_tk tk bG
        refine ⟨.ref sa, rfl, .ref tt, rfl, .ref uu, rfl, .ref rk, rfl, sa, tt, uu, rk, xs, ys, zs, ss, l', T', m, G, rfl, .inl (.inl (.inl (tab_lst tk bG eS))), Same.refl _, tab_dpAll tk bG dS, each, few5, tkG, sc, oc, m4, okn, tab_lst tk bG ett, ft.mono (PrV.mono kG), tab_lst tk bG euu, fu.mono (PrV.mono kG), kG.sq srk, nd', sub', few', fun H' b' tk' => ⟨true, rfl, ?_⟩⟩
        exact iteF ⟨_, rfl, bG.trans b', tk'⟩
      rintro σ G ⟨v11, rfl, bG, tkG⟩
      have eSG := tab_lst tk bG eS
      have dSG := tab_dpAll tk bG dS
      have tbG := tabs_but ptn tk bG tb
      have PG := pen_tab P tk bG
      have gRG := tab_lst tk bG gR
      clear ett euu eS dS ft fu tb tk P gR e3 e13 e23 bG
      -- an odd one
      have okT : ∀ d ∈ T.map PyData.str, Lay 1 d := fun d hd => (strs_lay0 (fun x hx => okN x (subT x hx)) d hd).mono (by decide)
      refine ⟨.ref p, rfl, ((el_cat_var (i := 10) rfl gRG (strs_pd T) (show EL K _ _ G oddD5 from el_lst (eds_cons ed_str (eds_cons ed_str (eds_cons ed_int (eds_cons ed_non (eds_cons (ed_tup (eds_cons ed_str eds_nil) (by decide)) (eds_cons ed_str eds_nil)))))) (by decide)) (by rw [List.length_map]; show T.length + 6 ≤ 1000000; omega)).run G (Same.refl _) _ fun lo xo G2 s2 nlo elo hlo => ?_)⟩
      have P2 := pen_same PG s2
      have lop : lo ≠ p := fun z => by
        obtain ⟨⟨_, _, _, e, _⟩, _⟩ := P2
        rw [z, e] at elo
        cases elo
      have llo := dpAll_len hlo
      rw [List.length_append, List.length_map] at llo
      have l6 : oddD5.length = 6 := rfl
      refine ⟨p, l, lo, ns, c0, xo, rfl, P2, by omega, by omega, .inl (.inl (.inl elo)), (fun z => by rw [z] at llo; rw [List.length_nil] at llo; omega), by omega, lop, fun x G3 hx P3 b3 => ?_⟩
      obtain ⟨ix, hix⟩ := List.getElem?_of_mem hx
      obtain ⟨d, hd0, hdx⟩ := dpAll_get hlo hix
      have hd := List.mem_of_getElem? hd0
      have layd : Lay 1 d := by
        rcases List.mem_append.mp hd with z | z
        · exact okT d z
        · exact odd5_lay d z
      have hdx3 := pen_dp P2 b3 hdx
      have eS3 := pen_lst' P2 b3 (s2 _ _ eSG)
      have dS3 := pen_dpAll P2 b3 (dpAll_same s2 dSG)
      have tb3 := tabs_pen P2 b3 (tbG.ext s2)
      have tk3 := tabg_pen P2 b3 (tab_same s2 tkG)
      have gR3 := pen_lst' P2 b3 (s2 _ _ gRG)
      clear eSG dSG tbG tkG PG gRG s2 P2 b3 elo hlo P3
      refine to_set ((el_cat_var (i := 10) (d2 := [d, .str "nobody"]) rfl gR3 (strs_pd T) (el_lst (eds_cons (ed_var (i := 12) rfl hdx3) (eds_cons ed_str eds_nil)) (by show 2 ≤ 1000; decide)) (by rw [List.length_map]; show T.length + 2 ≤ 1000000; omega)).run G3 (Same.refl _) _ fun lb xb G4 s4 nlb elb hlb => ?_)
      have hdx4 := dp_same s4 hdx3
      have eS4 := s4 _ _ eS3
      have dS4 := dpAll_same s4 dS3
      have tb4 := tb3.ext s4
      have tk4 := tab_same s4 tk3
      clear eS3 dS3 tb3 tk3 gR3 hdx3 s4
      refine ⟨tb4, fun G5 b5 tb5 => ?_⟩
      have tk5 : TabG G5 PtK := tabg_but ptn tb4 tk4 b5
      have eS5 := lst_but tb4 b5 eS4
      have dS5 := dpAll_but tb4 b5 dS4
      have elb5 := lst_but tb4 b5 elb
      have hlb5 := dpAll_but tb4 b5 hlb
      have hdx5 : Dp K G5 x d := tab_dp (tg_of tb4) b5 hdx4
      clear eS4 dS4 tb4 tk4 elb hlb hdx4 b5
      have scT : Rk.scan (Od.names l') [] (T.map .str) = .inr T := Rk.scan_all (T := []) ndT subT
      have bad : Rk.scan (Od.names l') [] (T.map .str ++ [d, .str "nobody"]) = .inl d := by
        rw [Rk.scan_app scT]
        refine Rk.scan_bad ?_
        rcases List.mem_append.mp hd with z | z
        · obtain ⟨y, hy, rfl⟩ := List.mem_map.mp z
          exact .inr ⟨y, rfl, .inr hy⟩
        · exact odd5_bad (fun y hy => subN y (Od.names_iff.mp hy)) d z
      refine ⟨.ref sa, rfl, .ref lb, rfl, sa, lb, xs, xb, ss, T.map .str ++ [d, .str "nobody"], G5, rfl, .inl (.inl (.inl eS5)), Same.refl _, dS5, each, few5, tk5, .inl (.inl (.inl elb5)), hlb5, by rw [List.length_append, List.length_map]; show T.length + 2 ≤ 40; omega, fun x' hx' => (notbad x' hx').elim, fun l2 hl2 => ?_⟩
      rw [sc] at hl2
      cases hl2
      refine ⟨m, oc, fun d' hd' dd v G6 b6 tk6 dv ed => .inr ⟨rfl, dd, v, rfl, ed, fun t7 nt7 => ?_⟩, fun T' hT' => (by rw [bad] at hT'; cases hT')⟩
      rw [bad] at hd'
      cases hd'
      have s7 : Same G6 (upd G6 t7 (.tup [.str "name", v, .bl true])) := same_new (fun b o e => e) nt7 _
      have e7 : (upd G6 t7 (.tup [.str "name", v, .bl true])) t7 = some (.tup [.str "name", v, .bl true]) := upd_same
      generalize upd G6 t7 (.tup [.str "name", v, .bl true]) = G7 at s7 e7
      refine ⟨x, rfl, by show 3 ≤ sizeLine; rw [sizeLine_eq]; decide, fun t8 nt8 => ?_⟩
      have s8 : Same G7 (upd G7 t8 (.tup [.str "name", x, .bl true])) := same_new (fun b o e => e) nt8 _
      have layN : Lay 2 (.tuple [.str "name", d, .bool true]) := lay3 (n := 1) (lay_str 1 (by decide +kernel)) layd (lay_bool 1 true)
      have dx6 : Dp K G6 x d := tab_dp tk5 b6 hdx5
      refine ⟨_, _, .tup (.inl (.inl (s8 _ _ e7))) (.cons (.str _) (.cons (dp_same (s7.trans s8) dv) (.cons (.bl _) .nil))), .tup (.inl (.inl upd_same)) (.cons (.str _) (.cons (dp_same (s7.trans s8) dx6) (.cons (.bl _) .nil))), layN.shaped (by decide), layN.shaped (by decide), ?_⟩
      rw [layN.eqv (by decide)]
      exact q _
end
end Ad

namespace Ad
open PySem PySem.Spec PySem.Calls PyProof.Rows L2
abbrev sErUnlike : Stmt := inClass (topS 4) 0
theorem scErUnlike : FnScope ["self", "what"] ["self", "what"] (defScope sErUnlike) := ⟨rfl, rfl, rfl, by decide +kernel, rfl, by decide +kernel, by decide +kernel⟩
section
variable {P : Program} {w : World} {K : PySem.W.Frag} {mg : Str → Option Value} {base : Heap}
theorem ok_erunlike {f C : Addr} {fd : FuncData} (F : Fun K "__init__" "Unlike.__init__" sErUnlike f fd) (T : Er K C f "what") : FnOk P w K mg base CX0 1 f fd ["self", "what"] (spEr C "what") := by
  refine F.ok scErUnlike (fun vs H Q E h => ?_) (fun cdv A outer s H vs Q E hr h => ?_)
  · obtain ⟨a, v, rfl, _⟩ := h
    rfl
  · obtain ⟨a, v, rfl, ea, q⟩ := h
    refine ⟨_, pss_one (ps_ost (pv 0) (pv 1)), ?_⟩
    refine ⟨v, rfl, .ref a, rfl, a, C, rfl, T.ox, T.no, .inl ⟨ea, fun d nd ne => ?_⟩⟩
    exact q d _ nd ne (fun b h1 h2 => by rw [upd_ne h2, upd_ne h1]) upd_same (by rw [upd_ne ne, upd_same])
end
end Ad

/-! The head: what the top leaves, by one run. -/
namespace Ad
open PySem PySem.Spec PyProof.Rows L2 GxR
def dd (i : Nat) (x : Str) : He.DefD := ⟨(x, none), x, x, defArgs (topS i), defBody (topS i), defScope (topS i), [], []⟩
def ddf18 : He.DefD := ⟨("order_of", none), "order_of", "order_of", defArgs (topS 18), defBody (topS 18), defScope (topS 18), [.adr (He.dflAt ("order_of", none) 0)], []⟩
def ddO : He.DefD := ⟨("Order", some "__init__"), "__init__", "Order.__init__", defArgs sOInit, defBody sOInit, defScope sOInit, [], []⟩
def ddU : He.DefD := ⟨("Unlike", some "__init__"), "__init__", "Unlike.__init__", defArgs sErUnlike, defBody sErUnlike, defScope sErUnlike, [], []⟩
def ddN : He.DefD := ⟨("BadName", some "__init__"), "__init__", "BadName.__init__", defArgs sErName, defBody sErName, defScope sErName, [], []⟩
def fnL : List He.DefD := [dd 6 "parts_of", dd 8 "is_from", dd 11 "_triples_of", dd 12 "_is_triple", dd 14 "atoms_of", dd 15 "spoken_in", dd 17 "kinds", ddf18, dd 19 "_ranked_triples", dd 20 "_new_name", dd 22 "_law_pen", dd 23 "_law_draw", dd 24 "_law_pick", dd 25 "_law_drawn_order", dd 26 "_law_drawn_spoken", dd 27 "_law_drawn_sentence", dd 28 "_law_why", dd 29 "_law_in_term", dd 30 "_law_in", dd 31 "_law_due", dd 32 "_law_odd", dd 33 "_law_order_right", dd 34 "law", ddO, ddU, ddN]
def faL : List He.Fa := [.glo "parts_of", .glo "is_from", .glo "_triples_of", .glo "_is_triple", .glo "atoms_of", .glo "spoken_in", .glo "kinds", .glo "order_of", .glo "_ranked_triples", .glo "_new_name", .glo "_law_pen", .glo "_law_draw", .glo "_law_pick", .glo "_law_drawn_order", .glo "_law_drawn_spoken", .glo "_law_drawn_sentence", .glo "_law_why", .glo "_law_in_term", .glo "_law_in", .glo "_law_due", .glo "_law_odd", .glo "_law_order_right", .glo "law", .free "isinstance", .free "int", .free "bool", .free "list", .free "tuple", .free "len", .free "str", .free "range", .free "dict", .free "enumerate", .free "reversed", .glo "Order", .glo "Unlike", .glo "BadName", .glo "SettleError", .cls "Order", .mkr "Order", .noat "Order" "things", .noat "Order" "truths", .noat "Order" "_weights", .noat "Order" "_places", .exm "Unlike" "Unlike" true, .exm "BadName" "Unlike" false, .exm "BadName" "BadName" true]
def tfL : List He.Defn := [("law", none), ("kinds", none)]
abbrev looseL : List PySem.Str := "SettleError" :: "BadRow" :: "BadName" :: "Unlike" :: "parts_of" :: "is_from" :: "Order" :: "_triples_of" :: "_is_triple" :: "atoms_of" :: "spoken_in" :: "kinds" :: "order_of" :: "_ranked_triples" :: "_new_name" :: "_law_pen" :: "_law_draw" :: "_law_pick" :: "_law_drawn_order" :: "_law_drawn_spoken" :: "_law_drawn_sentence" :: "_law_why" :: "_law_in_term" :: "_law_in" :: "_law_due" :: "_law_odd" :: "_law_order_right" :: []
abbrev exL : PySem.W.Frag → Bool := fun K => erB K (He.ga K "Unlike") (He.fAd K ("Unlike", some "__init__")) "what" && (erB K (He.ga K "BadName") (He.fAd K ("BadName", some "__init__")) "name" && (xcB K (He.ga K "BadName") && (decide (PySem.W.kitOne K (.ref (He.ga K "BadName")) (.ref (He.ga K "SettleError")) = some true) && (PySem.W.keepIn K (.ref (He.ga K "SettleError")) && (isB K (He.ga K "Order") && (decide ((He.cT K ("law", none)).2 ≠ (He.cT K ("kinds", none)).2) && dtB K (He.dflAt ("order_of", none) 0 K)))))))
abbrev RL : PySem.W.OpenRow := PySem.W.OpenLaw.row PySem.Challenge.rw_downtoground_k04_whole_names_kinds_and_o
abbrev hkL : PySem.W.Hook := He.hookX 5 faL fnL [] tfL exL
def obL (s : PySem.W.SharedT) : He.AlX := He.obsX 5 faL fnL [] tfL exL (HandSHeadRun.getT s)
theorem obL_eq (s : PySem.W.SharedT) : obL s = hkL.obs s.abs := He.obsX_eq (HandSHeadRun.getT_eq s)
theorem runL (w : World) : HandSHeadRun.RunEq RL (PySem.W.view RL.prog [34]) hkL obL 6000 Ad.looseL w := by
  intro os
  kernel_rfl
end Ad

/-! What the head tells, put together. -/
namespace Ad
open PySem PySem.Spec PyProof.Rows L2 GxR
theorem fun_of {K : PySem.W.Frag} {x q : Str} {st : Stmt} {f : Addr} {fd : FuncData} (F : FunD K x q (defArgs st) (defBody st) (defScope st) [] [] f fd) : Fun K x q st f fd := by
  obtain ⟨oc, od, dV, kV, doc, pm, an, cdv, ct, osl, e, lk, code, dfl, _⟩ := F.ex
  rcases dfl with ⟨_, rfl⟩ | ⟨z, _⟩
  · exact ⟨⟨oc, od, kV, doc, pm, an, cdv, ct, osl, e, lk, code⟩, F.kp⟩
  · exact absurd rfl z
theorem funC_of {K : PySem.W.Frag} {x q : Str} {st : Stmt} {p : He.Defn} {fd : FuncData} (F : FunD K x q (defArgs st) (defBody st) (defScope st) [] [] (He.fAd K p) fd) : FunC K x q st (He.fAd K p) (.ref (He.codeOf K p)) fd := by
  obtain ⟨oc, od, dV, kV, doc, pm, an, cdv, ct, osl, e, lk, code, dfl, _⟩ := F.ex
  rcases dfl with ⟨_, rfl⟩ | ⟨z, _⟩
  · obtain ⟨c, rfl⟩ := He.codeIn_ref code
    have e2 : He.codeOf K p = c := He.codeOf_eq lk (by rw [e]; first | done | rfl)
    rw [e2]
    exact ⟨⟨oc, od, kV, doc, pm, an, ct, osl, e, lk, code⟩, F.kp⟩
  · exact absurd rfl z
section
variable {w : World} {K : PySem.W.Frag} {h : Heap} {mg : Str → Option Value} {f : Addr}
theorem facts (X : K.In h) (G : h.Ns mainGlobals mg) (hfa : mg ("law" : Str) = some (.ref f)) (c : He.SaysX faL fnL [] tfL exL w h K) : LawGAt PySem.Challenge.rw_downtoground_k04_whole_names_kinds_and_o w K CX0 84 63 "_law_script" mg f h := by
  have cd := c.t.d
  obtain ⟨d6, E6⟩ : ∃ fd, FunD K "parts_of" "parts_of" (defArgs (topS 6)) (defBody (topS 6)) (defScope (topS 6)) [] [] (He.fAd K ("parts_of", none)) fd := cd.def_ 0 (d := dd 6 "parts_of") rfl
  have F6 := fun_of E6
  have g6 : mg "parts_of" = some (.ref (He.fAd K ("parts_of", none))) := He.glo_ok X G (cd.fact 0 (f := .glo "parts_of") rfl)
  have b6 : Binds K d6 ["term"] [] := (fun_of E6).binds fun _ _ _ _ _ _ us hl => match us, hl with | [_], _ => rfl
  obtain ⟨d8, E8⟩ : ∃ fd, FunD K "is_from" "is_from" (defArgs (topS 8)) (defBody (topS 8)) (defScope (topS 8)) [] [] (He.fAd K ("is_from", none)) fd := cd.def_ 1 (d := dd 8 "is_from") rfl
  have F8 := fun_of E8
  have g8 : mg "is_from" = some (.ref (He.fAd K ("is_from", none))) := He.glo_ok X G (cd.fact 1 (f := .glo "is_from") rfl)
  have b8 : Binds K d8 ["value", "least"] [] := (fun_of E8).binds fun _ _ _ _ _ _ us hl => match us, hl with | [_, _], _ => rfl
  obtain ⟨d11, E11⟩ : ∃ fd, FunD K "_triples_of" "_triples_of" (defArgs (topS 11)) (defBody (topS 11)) (defScope (topS 11)) [] [] (He.fAd K ("_triples_of", none)) fd := cd.def_ 2 (d := dd 11 "_triples_of") rfl
  have F11 := fun_of E11
  have g11 : mg "_triples_of" = some (.ref (He.fAd K ("_triples_of", none))) := He.glo_ok X G (cd.fact 2 (f := .glo "_triples_of") rfl)
  have b11 : Binds K d11 ["row", "taken"] [] := (fun_of E11).binds fun _ _ _ _ _ _ us hl => match us, hl with | [_, _], _ => rfl
  obtain ⟨d12, E12⟩ : ∃ fd, FunD K "_is_triple" "_is_triple" (defArgs (topS 12)) (defBody (topS 12)) (defScope (topS 12)) [] [] (He.fAd K ("_is_triple", none)) fd := cd.def_ 3 (d := dd 12 "_is_triple") rfl
  have F12 := fun_of E12
  have g12 : mg "_is_triple" = some (.ref (He.fAd K ("_is_triple", none))) := He.glo_ok X G (cd.fact 3 (f := .glo "_is_triple") rfl)
  have b12 : Binds K d12 ["item"] [] := (fun_of E12).binds fun _ _ _ _ _ _ us hl => match us, hl with | [_], _ => rfl
  obtain ⟨d14, E14⟩ : ∃ fd, FunD K "atoms_of" "atoms_of" (defArgs (topS 14)) (defBody (topS 14)) (defScope (topS 14)) [] [] (He.fAd K ("atoms_of", none)) fd := cd.def_ 4 (d := dd 14 "atoms_of") rfl
  have F14 := fun_of E14
  have g14 : mg "atoms_of" = some (.ref (He.fAd K ("atoms_of", none))) := He.glo_ok X G (cd.fact 4 (f := .glo "atoms_of") rfl)
  have b14 : Binds K d14 ["sentence"] [] := (fun_of E14).binds fun _ _ _ _ _ _ us hl => match us, hl with | [_], _ => rfl
  obtain ⟨d15, E15⟩ : ∃ fd, FunD K "spoken_in" "spoken_in" (defArgs (topS 15)) (defBody (topS 15)) (defScope (topS 15)) [] [] (He.fAd K ("spoken_in", none)) fd := cd.def_ 5 (d := dd 15 "spoken_in") rfl
  have F15 := fun_of E15
  have g15 : mg "spoken_in" = some (.ref (He.fAd K ("spoken_in", none))) := He.glo_ok X G (cd.fact 5 (f := .glo "spoken_in") rfl)
  have b15 : Binds K d15 ["atom"] [] := (fun_of E15).binds fun _ _ _ _ _ _ us hl => match us, hl with | [_], _ => rfl
  obtain ⟨d17, E17⟩ : ∃ fd, FunD K "kinds" "kinds" (defArgs (topS 17)) (defBody (topS 17)) (defScope (topS 17)) [] [] (He.fAd K ("kinds", none)) fd := cd.def_ 6 (d := dd 17 "kinds") rfl
  have F17 := fun_of E17
  have g17 : mg "kinds" = some (.ref (He.fAd K ("kinds", none))) := He.glo_ok X G (cd.fact 6 (f := .glo "kinds") rfl)
  have b17 : Binds K d17 ["sentences"] [] := (fun_of E17).binds fun _ _ _ _ _ _ us hl => match us, hl with | [_], _ => rfl
  obtain ⟨d18, E18⟩ : ∃ fd, FunD K "order_of" "order_of" (defArgs (topS 18)) (defBody (topS 18)) (defScope (topS 18)) [.ref (He.dflAt ("order_of", none) 0 K)] [] (He.fAd K ("order_of", none)) fd := cd.def_ 7 (d := ddf18) rfl
  have g18 : mg "order_of" = some (.ref (He.fAd K ("order_of", none))) := He.glo_ok X G (cd.fact 7 (f := .glo "order_of") rfl)
  obtain ⟨d19, E19⟩ : ∃ fd, FunD K "_ranked_triples" "_ranked_triples" (defArgs (topS 19)) (defBody (topS 19)) (defScope (topS 19)) [] [] (He.fAd K ("_ranked_triples", none)) fd := cd.def_ 8 (d := dd 19 "_ranked_triples") rfl
  have F19 := fun_of E19
  have g19 : mg "_ranked_triples" = some (.ref (He.fAd K ("_ranked_triples", none))) := He.glo_ok X G (cd.fact 8 (f := .glo "_ranked_triples") rfl)
  have b19 : Binds K d19 ["pairs", "ranked"] [] := (fun_of E19).binds fun _ _ _ _ _ _ us hl => match us, hl with | [_, _], _ => rfl
  obtain ⟨d20, E20⟩ : ∃ fd, FunD K "_new_name" "_new_name" (defArgs (topS 20)) (defBody (topS 20)) (defScope (topS 20)) [] [] (He.fAd K ("_new_name", none)) fd := cd.def_ 9 (d := dd 20 "_new_name") rfl
  have F20 := fun_of E20
  have g20 : mg "_new_name" = some (.ref (He.fAd K ("_new_name", none))) := He.glo_ok X G (cd.fact 9 (f := .glo "_new_name") rfl)
  have b20 : Binds K d20 ["name", "names"] [] := (fun_of E20).binds fun _ _ _ _ _ _ us hl => match us, hl with | [_, _], _ => rfl
  obtain ⟨d22, E22⟩ : ∃ fd, FunD K "_law_pen" "_law_pen" (defArgs (topS 22)) (defBody (topS 22)) (defScope (topS 22)) [] [] (He.fAd K ("_law_pen", none)) fd := cd.def_ 10 (d := dd 22 "_law_pen") rfl
  have F22 := fun_of E22
  have g22 : mg "_law_pen" = some (.ref (He.fAd K ("_law_pen", none))) := He.glo_ok X G (cd.fact 10 (f := .glo "_law_pen") rfl)
  have b22 : Binds K d22 ["_law_script"] [] := (fun_of E22).binds fun _ _ _ _ _ _ us hl => match us, hl with | [_], _ => rfl
  obtain ⟨d23, E23⟩ : ∃ fd, FunD K "_law_draw" "_law_draw" (defArgs (topS 23)) (defBody (topS 23)) (defScope (topS 23)) [] [] (He.fAd K ("_law_draw", none)) fd := cd.def_ 11 (d := dd 23 "_law_draw") rfl
  have F23 := fun_of E23
  have g23 : mg "_law_draw" = some (.ref (He.fAd K ("_law_draw", none))) := He.glo_ok X G (cd.fact 11 (f := .glo "_law_draw") rfl)
  have b23 : Binds K d23 ["_law_pen_here", "_law_many"] [] := (fun_of E23).binds fun _ _ _ _ _ _ us hl => match us, hl with | [_, _], _ => rfl
  obtain ⟨d24, E24⟩ : ∃ fd, FunD K "_law_pick" "_law_pick" (defArgs (topS 24)) (defBody (topS 24)) (defScope (topS 24)) [] [] (He.fAd K ("_law_pick", none)) fd := cd.def_ 12 (d := dd 24 "_law_pick") rfl
  have F24 := fun_of E24
  have g24 : mg "_law_pick" = some (.ref (He.fAd K ("_law_pick", none))) := He.glo_ok X G (cd.fact 12 (f := .glo "_law_pick") rfl)
  have b24 : Binds K d24 ["_law_pen_here", "_law_some"] [] := (fun_of E24).binds fun _ _ _ _ _ _ us hl => match us, hl with | [_, _], _ => rfl
  obtain ⟨d25, E25⟩ : ∃ fd, FunD K "_law_drawn_order" "_law_drawn_order" (defArgs (topS 25)) (defBody (topS 25)) (defScope (topS 25)) [] [] (He.fAd K ("_law_drawn_order", none)) fd := cd.def_ 13 (d := dd 25 "_law_drawn_order") rfl
  have F25 := fun_of E25
  have g25 : mg "_law_drawn_order" = some (.ref (He.fAd K ("_law_drawn_order", none))) := He.glo_ok X G (cd.fact 13 (f := .glo "_law_drawn_order") rfl)
  have b25 : Binds K d25 ["_law_pen_here"] [] := (fun_of E25).binds fun _ _ _ _ _ _ us hl => match us, hl with | [_], _ => rfl
  obtain ⟨d26, E26⟩ : ∃ fd, FunD K "_law_drawn_spoken" "_law_drawn_spoken" (defArgs (topS 26)) (defBody (topS 26)) (defScope (topS 26)) [] [] (He.fAd K ("_law_drawn_spoken", none)) fd := cd.def_ 14 (d := dd 26 "_law_drawn_spoken") rfl
  have F26 := fun_of E26
  have g26 : mg "_law_drawn_spoken" = some (.ref (He.fAd K ("_law_drawn_spoken", none))) := He.glo_ok X G (cd.fact 14 (f := .glo "_law_drawn_spoken") rfl)
  have b26 : Binds K d26 ["_law_pen_here", "_law_rows", "_law_deep", "_law_known"] [] := (fun_of E26).binds fun _ _ _ _ _ _ us hl => match us, hl with | [_, _, _, _], _ => rfl
  obtain ⟨d27, E27⟩ : ∃ fd, FunD K "_law_drawn_sentence" "_law_drawn_sentence" (defArgs (topS 27)) (defBody (topS 27)) (defScope (topS 27)) [] [] (He.fAd K ("_law_drawn_sentence", none)) fd := cd.def_ 15 (d := dd 27 "_law_drawn_sentence") rfl
  have F27 := fun_of E27
  have g27 : mg "_law_drawn_sentence" = some (.ref (He.fAd K ("_law_drawn_sentence", none))) := He.glo_ok X G (cd.fact 15 (f := .glo "_law_drawn_sentence") rfl)
  have b27 : Binds K d27 ["_law_pen_here", "_law_rows", "_law_deep", "_law_known"] [] := (fun_of E27).binds fun _ _ _ _ _ _ us hl => match us, hl with | [_, _, _, _], _ => rfl
  obtain ⟨d28, E28⟩ : ∃ fd, FunD K "_law_why" "_law_why" (defArgs (topS 28)) (defBody (topS 28)) (defScope (topS 28)) [] [] (He.fAd K ("_law_why", none)) fd := cd.def_ 16 (d := dd 28 "_law_why") rfl
  have F28 := fun_of E28
  have g28 : mg "_law_why" = some (.ref (He.fAd K ("_law_why", none))) := He.glo_ok X G (cd.fact 16 (f := .glo "_law_why") rfl)
  have b28 : Binds K d28 ["_law_call"] [] := (fun_of E28).binds fun _ _ _ _ _ _ us hl => match us, hl with | [_], _ => rfl
  obtain ⟨d29, E29⟩ : ∃ fd, FunD K "_law_in_term" "_law_in_term" (defArgs (topS 29)) (defBody (topS 29)) (defScope (topS 29)) [] [] (He.fAd K ("_law_in_term", none)) fd := cd.def_ 17 (d := dd 29 "_law_in_term") rfl
  have F29 := fun_of E29
  have g29 : mg "_law_in_term" = some (.ref (He.fAd K ("_law_in_term", none))) := He.glo_ok X G (cd.fact 17 (f := .glo "_law_in_term") rfl)
  have b29 : Binds K d29 ["_law_term", "_law_is_truth"] [] := (fun_of E29).binds fun _ _ _ _ _ _ us hl => match us, hl with | [_, _], _ => rfl
  obtain ⟨d30, E30⟩ : ∃ fd, FunD K "_law_in" "_law_in" (defArgs (topS 30)) (defBody (topS 30)) (defScope (topS 30)) [] [] (He.fAd K ("_law_in", none)) fd := cd.def_ 18 (d := dd 30 "_law_in") rfl
  have F30 := fun_of E30
  have g30 : mg "_law_in" = some (.ref (He.fAd K ("_law_in", none))) := He.glo_ok X G (cd.fact 18 (f := .glo "_law_in") rfl)
  have b30 : Binds K d30 ["_law_sentence"] [] := (fun_of E30).binds fun _ _ _ _ _ _ us hl => match us, hl with | [_], _ => rfl
  obtain ⟨d31, E31⟩ : ∃ fd, FunD K "_law_due" "_law_due" (defArgs (topS 31)) (defBody (topS 31)) (defScope (topS 31)) [] [] (He.fAd K ("_law_due", none)) fd := cd.def_ 19 (d := dd 31 "_law_due") rfl
  have F31 := fun_of E31
  have g31 : mg "_law_due" = some (.ref (He.fAd K ("_law_due", none))) := He.glo_ok X G (cd.fact 19 (f := .glo "_law_due") rfl)
  have b31 : Binds K d31 ["_law_sentences"] [] := (fun_of E31).binds fun _ _ _ _ _ _ us hl => match us, hl with | [_], _ => rfl
  obtain ⟨d32, E32⟩ : ∃ fd, FunD K "_law_odd" "_law_odd" (defArgs (topS 32)) (defBody (topS 32)) (defScope (topS 32)) [] [] (He.fAd K ("_law_odd", none)) fd := cd.def_ 20 (d := dd 32 "_law_odd") rfl
  have F32 := fun_of E32
  have g32 : mg "_law_odd" = some (.ref (He.fAd K ("_law_odd", none))) := He.glo_ok X G (cd.fact 20 (f := .glo "_law_odd") rfl)
  have b32 : Binds K d32 ["_law_pen_here"] [] := (fun_of E32).binds fun _ _ _ _ _ _ us hl => match us, hl with | [_], _ => rfl
  obtain ⟨d33, E33⟩ : ∃ fd, FunD K "_law_order_right" "_law_order_right" (defArgs (topS 33)) (defBody (topS 33)) (defScope (topS 33)) [] [] (He.fAd K ("_law_order_right", none)) fd := cd.def_ 21 (d := dd 33 "_law_order_right") rfl
  have F33 := fun_of E33
  have g33 : mg "_law_order_right" = some (.ref (He.fAd K ("_law_order_right", none))) := He.glo_ok X G (cd.fact 21 (f := .glo "_law_order_right") rfl)
  have b33 : Binds K d33 ["_law_sentences", "_law_things", "_law_truths", "_law_ranks"] [] := (fun_of E33).binds fun _ _ _ _ _ _ us hl => match us, hl with | [_, _, _, _], _ => rfl
  obtain ⟨d34, E34⟩ : ∃ fd, FunD K "law" "law" (defArgs (topS 34)) (defBody (topS 34)) (defScope (topS 34)) [] [] (He.fAd K ("law", none)) fd := cd.def_ 22 (d := dd 34 "law") rfl
  have F34 := fun_of E34
  have g34 : mg "law" = some (.ref (He.fAd K ("law", none))) := He.glo_ok X G (cd.fact 22 (f := .glo "law") rfl)
  have b34 : Binds K d34 ["_law_script"] [] := (fun_of E34).binds fun _ _ _ _ _ _ us hl => match us, hl with | [_], _ => rfl
  obtain ⟨dO, EO⟩ : ∃ fd, FunD K "__init__" "Order.__init__" (defArgs sOInit) (defBody sOInit) (defScope sOInit) [] [] (He.fAd K ("Order", some "__init__")) fd := cd.def_ 23 (d := ddO) rfl
  have FO := fun_of EO
  have bO : Binds K dO ["self", "things", "truths"] [] := (fun_of EO).binds fun _ _ _ _ _ _ us hl => match us, hl with | [_, _, _], _ => rfl
  obtain ⟨dU, EU⟩ : ∃ fd, FunD K "__init__" "Unlike.__init__" (defArgs sErUnlike) (defBody sErUnlike) (defScope sErUnlike) [] [] (He.fAd K ("Unlike", some "__init__")) fd := cd.def_ 24 (d := ddU) rfl
  have FU := fun_of EU
  have bU : Binds K dU ["self", "what"] [] := (fun_of EU).binds fun _ _ _ _ _ _ us hl => match us, hl with | [_, _], _ => rfl
  obtain ⟨dN, EN⟩ : ∃ fd, FunD K "__init__" "BadName.__init__" (defArgs sErName) (defBody sErName) (defScope sErName) [] [] (He.fAd K ("BadName", some "__init__")) fd := cd.def_ 25 (d := ddN) rfl
  have FN := fun_of EN
  have bN : Binds K dN ["self", "name"] [] := (fun_of EN).binds fun _ _ _ _ _ _ us hl => match us, hl with | [_, _], _ => rfl
  have m_isinstance : mg "isinstance" = none := He.free_ok X G (cd.fact 23 (f := .free "isinstance") rfl)
  have m_int : mg "int" = none := He.free_ok X G (cd.fact 24 (f := .free "int") rfl)
  have m_bool : mg "bool" = none := He.free_ok X G (cd.fact 25 (f := .free "bool") rfl)
  have m_list : mg "list" = none := He.free_ok X G (cd.fact 26 (f := .free "list") rfl)
  have m_tuple : mg "tuple" = none := He.free_ok X G (cd.fact 27 (f := .free "tuple") rfl)
  have m_len : mg "len" = none := He.free_ok X G (cd.fact 28 (f := .free "len") rfl)
  have m_str : mg "str" = none := He.free_ok X G (cd.fact 29 (f := .free "str") rfl)
  have m_range : mg "range" = none := He.free_ok X G (cd.fact 30 (f := .free "range") rfl)
  have m_dict : mg "dict" = none := He.free_ok X G (cd.fact 31 (f := .free "dict") rfl)
  have m_enumerate : mg "enumerate" = none := He.free_ok X G (cd.fact 32 (f := .free "enumerate") rfl)
  have m_reversed : mg "reversed" = none := He.free_ok X G (cd.fact 33 (f := .free "reversed") rfl)
  have gOrder : mg "Order" = some (.ref (He.ga K "Order")) := He.glo_ok X G (cd.fact 34 (f := .glo "Order") rfl)
  have gUnlike : mg "Unlike" = some (.ref (He.ga K "Unlike")) := He.glo_ok X G (cd.fact 35 (f := .glo "Unlike") rfl)
  have gBadName : mg "BadName" = some (.ref (He.ga K "BadName")) := He.glo_ok X G (cd.fact 36 (f := .glo "BadName") rfl)
  have gSettleError : mg "SettleError" = some (.ref (He.ga K "SettleError")) := He.glo_ok X G (cd.fact 37 (f := .glo "SettleError") rfl)
  have cls : Cls K (He.ga K "Order") := He.cls_ok (cd.fact 38 (f := .cls "Order") rfl)
  have MO : L2.Mk K (He.ga K "Order") (He.fAd K ("Order", some "__init__")) := He.mkr_ok (cd.fact 39 (f := .mkr "Order") rfl)
  have na0 : NoAttr K (He.ga K "Order") "things" := He.noat_ok (cd.fact 40 (f := .noat "Order" "things") rfl)
  have na1 : NoAttr K (He.ga K "Order") "truths" := He.noat_ok (cd.fact 41 (f := .noat "Order" "truths") rfl)
  have na2 : NoAttr K (He.ga K "Order") "_weights" := He.noat_ok (cd.fact 42 (f := .noat "Order" "_weights") rfl)
  have na3 : NoAttr K (He.ga K "Order") "_places" := He.noat_ok (cd.fact 43 (f := .noat "Order" "_places") rfl)
  have xU : PySem.W.exmOne K (.ref (He.ga K "Unlike")) (.ref (He.ga K "Unlike")) = some true := He.exm_ok (cd.fact 44 (f := .exm "Unlike" "Unlike" true) rfl)
  have xN : PySem.W.exmOne K (.ref (He.ga K "BadName")) (.ref (He.ga K "Unlike")) = some false := He.exm_ok (cd.fact 45 (f := .exm "BadName" "Unlike" false) rfl)
  have xM : PySem.W.exmOne K (.ref (He.ga K "BadName")) (.ref (He.ga K "BadName")) = some true := He.exm_ok (cd.fact 46 (f := .exm "BadName" "BadName" true) rfl)
  have law0 : f = He.fAd K ("law", none) := by
    have e := hfa.symm.trans g34
    cases e
    rfl
  subst law0
  obtain ⟨x1, x2⟩ := Bool.and_eq_true_iff.mp c.more
  obtain ⟨x2, x3⟩ := Bool.and_eq_true_iff.mp x2
  obtain ⟨x3, x4⟩ := Bool.and_eq_true_iff.mp x3
  obtain ⟨x4, x5⟩ := Bool.and_eq_true_iff.mp x4
  obtain ⟨x5, x6⟩ := Bool.and_eq_true_iff.mp x5
  obtain ⟨x6, x7⟩ := Bool.and_eq_true_iff.mp x6
  obtain ⟨x7, x8⟩ := Bool.and_eq_true_iff.mp x7
  have TU : Er K (He.ga K "Unlike") (He.fAd K ("Unlike", some "__init__")) "what" := erB_ok x1
  have TN : Er K (He.ga K "BadName") (He.fAd K ("BadName", some "__init__")) "name" := erB_ok x2
  have xc : ExcC K (He.ga K "BadName") := xcB_ok x3
  have kit : PySem.W.kitOne K (.ref (He.ga K "BadName")) (.ref (He.ga K "SettleError")) = some true := of_decide_eq_true x4
  have kS : PySem.W.keepIn K (.ref (He.ga K "SettleError")) = true := x5
  have isC : IsC K (He.ga K "Order") := isB_ok cls x6
  have ptn : (He.cT K ("law", none)).2 ≠ (He.cT K ("kinds", none)).2 := of_decide_eq_true x7
  have hDt : ∀ H : Hp, SqT K H (He.dflAt ("order_of", none) 0 K) [] := dtB_ok x8
  have hdL := c.hd ("law", none) List.mem_cons_self
  have hdK := c.hd ("kinds", none) (List.mem_cons_of_mem _ List.mem_cons_self)
  obtain ⟨dv, vD, bO1⟩ : ∃ dv, Vals [.ref (He.dflAt ("order_of", none) 0 K)] [dv] ∧ Binds K d18 ["sentences", "ranks"] [dv] := by
    obtain ⟨ds, v, b⟩ := FunD.binds1 (ps := ["sentences", "ranks"]) E18 1 0 (fun z => nomatch z) rfl (fun T kV doc pm an cdv ct us its h1 h2 => match us, its, h1, h2 with | [u], [i], _, _ => ⟨_, rfl, rfl⟩)
    match ds, v with
    | [dv], .cons r .nil => exact ⟨dv, .cons r .nil, b⟩
  have bO2 : Binds K d18 ["sentences", "ranks"] [] := by
    obtain ⟨ds, v, b⟩ := FunD.binds1 (ps := ["sentences", "ranks"]) E18 2 1 (fun z => nomatch z) rfl (fun T kV doc pm an cdv ct us its h1 h2 => match us, its, h1, h2 with | [u1, u2], [i], _, _ => ⟨_, rfl, rfl⟩)
    match ds, v with
    | [], .nil => exact b
  refine ⟨d34, [He.cT K ("law", none), He.cT K ("kinds", none)], spLaw K (He.cT K ("law", none)).2 (He.cT K ("kinds", none)).2, ?_, ?_, ?_, ?_, ?_, ?_⟩
  · intro p hp
    rcases List.mem_cons.mp hp with rfl | hp
    · exact c.empty _ List.mem_cons_self
    · cases List.mem_singleton.mp hp
      exact c.empty _ (List.mem_cons_of_mem _ List.mem_cons_self)
  · intro p hp
    rcases List.mem_cons.mp hp with rfl | hp
    · exact c.out _ List.mem_cons_self
    · cases List.mem_singleton.mp hp
      exact c.out _ (List.mem_cons_of_mem _ List.mem_cons_self)
  · intro p hp
    rcases List.mem_cons.mp hp with rfl | hp
    · exact PySem.W.codeHd_of_K X hdL
    · cases List.mem_singleton.mp hp
      exact PySem.W.codeHd_of_K X hdK
  · exact fun s v => FunD.bindsA (ps := ["_law_script"]) E34 (fun _ _ _ _ _ _ us hl => match us, hl with | [_], _ => rfl) s [v] rfl
  · intro H a ns few tabs seq
    exact ⟨a, ns, rfl, seq, few, tabs _ List.mem_cons_self, tabs _ (List.mem_cons_of_mem _ List.mem_cons_self), ptn, fun _ => rfl⟩
  · intro base inB nsB tb
    have tb0 := tb _ List.mem_cons_self
    have tbK := tb _ (List.mem_cons_of_mem _ List.mem_cons_self)
    have GDr : FnOk PySem.Challenge.rw_downtoground_k04_whole_names_kinds_and_o.prog w K mg base CX0 1 _ d23 ["_law_pen_here", "_law_many"] Pn.spDraw := Pn.ok_draw F23 m_int m_len
    have GPi : FnOk PySem.Challenge.rw_downtoground_k04_whole_names_kinds_and_o.prog w K mg base CX0 2 _ d24 ["_law_pen_here", "_law_some"] (Pn.spPick K) := Pn.ok_pick F24 GDr g23 F23.kp b23 m_len
    have GPt : FnOk PySem.Challenge.rw_downtoground_k04_whole_names_kinds_and_o.prog w K mg base CX0 2 _ d24 ["_law_pen_here", "_law_some"] (spPickT K) := ok_pickT F24 GDr g23 F23.kp b23 m_len
    have GPe : FnOk PySem.Challenge.rw_downtoground_k04_whole_names_kinds_and_o.prog w K mg base CX0 1 _ d22 ["_law_script"] (Pn.spPen K) := Pn.ok_pen (k := 0) F22 m_int m_list
    have GOr : FnOk PySem.Challenge.rw_downtoground_k04_whole_names_kinds_and_o.prog w K mg base CX0 3 _ d25 ["_law_pen_here"] (spOrder K) := ok_order F25 (GDr.mono (by decide : 1 ≤ 2)) g23 F23.kp b23 GPi g24 F24.kp b24 m_tuple m_range m_list m_len
    have GSp : FnOk PySem.Challenge.rw_downtoground_k04_whole_names_kinds_and_o.prog w K mg base CX0 7 _ d26 ["_law_pen_here", "_law_rows", "_law_deep", "_law_known"] (spDrawnSp K 5) := ok_drawnsp (k := 2) F26 g26 b26 (GDr.mono (by decide : 1 ≤ 2)) g23 F23.kp b23 GPi g24 F24.kp b24 m_tuple m_range 5
    have GDs : FnOk PySem.Challenge.rw_downtoground_k04_whole_names_kinds_and_o.prog w K mg base CX0 12 _ d27 ["_law_pen_here", "_law_rows", "_law_deep", "_law_known"] (spDS K 5) := ok_ds (k := 7) F27 g27 b27 ⟨GDr.mono (by decide), g23, F23.kp, b23⟩ ⟨GPi.mono (by decide), g24, F24.kp, b24⟩ ⟨GPt.mono (by decide), g24, F24.kp, b24⟩ ⟨GSp.mono (by decide), g26, F26.kp, b26⟩ m_tuple m_range 5
    have GIt : FnOk PySem.Challenge.rw_downtoground_k04_whole_names_kinds_and_o.prog w K mg base CX0 40 _ d29 ["_law_term", "_law_is_truth"] (spInTerm K 40) := (ok_interm (k := 0) F29 g29 b29 m_isinstance m_str m_len 40).mono (by decide)
    have GLi : FnOk PySem.Challenge.rw_downtoground_k04_whole_names_kinds_and_o.prog w K mg base CX0 80 _ d30 ["_law_sentence"] (spLIn K 40) := ok_lin (k := 40) F30 g30 b30 ⟨GIt.mono (by decide), g29, F29.kp, b29⟩ 40
    have GDu : FnOk PySem.Challenge.rw_downtoground_k04_whole_names_kinds_and_o.prog w K mg base CX0 81 _ d31 ["_law_sentences"] (spDue K) := ok_due (k := 80) F31 ⟨GLi.mono (by decide), g30, F30.kp, b30⟩
    have GOd : FnOk PySem.Challenge.rw_downtoground_k04_whole_names_kinds_and_o.prog w K mg base CX0 3 _ d32 ["_law_pen_here"] (spLOdd K) := ok_lodd (k := 2) F32 ⟨GPi.mono (by decide), g24, F24.kp, b24⟩
    have GPa : FnOk PySem.Challenge.rw_downtoground_k04_whole_names_kinds_and_o.prog w K mg base CX0 1 _ d6 ["term"] (spPartsD K) := ok_partsD (k := 0) F6 m_isinstance m_tuple
    have GAt : FnOk PySem.Challenge.rw_downtoground_k04_whole_names_kinds_and_o.prog w K mg base CX0 1 _ d14 ["sentence"] (spAtoms K) := ok_atoms (k := 0) F14 m_reversed
    have GSk : FnOk PySem.Challenge.rw_downtoground_k04_whole_names_kinds_and_o.prog w K mg base CX0 2 _ d15 ["atom"] (spSpoken K) := ok_spoken (k := 1) F15 ⟨GPa.mono (by decide), g6, F6.kp, b6⟩
    have GEU : FnOk PySem.Challenge.rw_downtoground_k04_whole_names_kinds_and_o.prog w K mg base CX0 1 _ dU ["self", "what"] (spEr (He.ga K "Unlike") "what") := ok_erunlike FU TU
    have GEN : FnOk PySem.Challenge.rw_downtoground_k04_whole_names_kinds_and_o.prog w K mg base CX0 1 _ dN ["self", "name"] (spEr (He.ga K "BadName") "name") := ok_ername FN TN
    have GKi : FnOk PySem.Challenge.rw_downtoground_k04_whole_names_kinds_and_o.prog w K mg base (L2.CX PySem.Challenge.rw_downtoground_k04_whole_names_kinds_and_o.prog w) 8 _ d17 ["sentences"] (spKinds K (He.ga K "Unlike") (He.cT K ("kinds", none)).2) := ok_kinds (k := 2) (funC_of (p := ("kinds", none)) E17) tbK ⟨GAt.mono (by decide), g14, F14.kp, b14⟩ ⟨GSk.mono (by decide), g15, F15.kp, b15⟩ TU (GEU.mono (by decide)) gUnlike bU m_enumerate m_isinstance m_tuple m_len
    have GRa : FnOk PySem.Challenge.rw_downtoground_k04_whole_names_kinds_and_o.prog w K mg base CX0 1 _ d19 ["pairs", "ranked"] (spRanked K) := ok_ranked (k := 0) F19 m_dict
    have GNe : FnOk PySem.Challenge.rw_downtoground_k04_whole_names_kinds_and_o.prog w K mg base CX0 1 _ d20 ["name", "names"] (spNewName K) := ok_newname (k := 0) F20
    have GFr : FnOk PySem.Challenge.rw_downtoground_k04_whole_names_kinds_and_o.prog w K mg base CX0 1 _ d8 ["value", "least"] spFrom := ok_from (k := 0) F8 m_isinstance m_int m_bool
    have GTr : FnOk PySem.Challenge.rw_downtoground_k04_whole_names_kinds_and_o.prog w K mg base CX0 2 _ d12 ["item"] (spTriple K) := ok_triple F12 GFr g8 F8.kp b8 m_isinstance m_list m_tuple m_len m_str
    have GTs : FnOk PySem.Challenge.rw_downtoground_k04_whole_names_kinds_and_o.prog w K mg base CX0 3 _ d11 ["row", "taken"] (spTriples K) := ok_triples F11 GTr g12 F12.kp b12 m_isinstance m_list m_tuple
    have GOI : FnOk PySem.Challenge.rw_downtoground_k04_whole_names_kinds_and_o.prog w K mg base CX0 4 _ dO ["self", "things", "truths"] (spOInit K (He.ga K "Order")) := ok_oinit FO GTs g11 F11.kp b11 m_enumerate cls na0 na1 na2 na3
    have GOo : FnOk PySem.Challenge.rw_downtoground_k04_whole_names_kinds_and_o.prog w K mg base (L2.CX PySem.Challenge.rw_downtoground_k04_whole_names_kinds_and_o.prog w) 9 _ d18 ["sentences", "ranks"] (spOrderOf K (He.ga K "Order") (He.ga K "Unlike") (He.ga K "BadName") (He.cT K ("kinds", none)).2) := ok_orderof (k := 6) E18 (GKi.mono (by decide)) g17 F17.kp b17 ⟨GRa.mono (by decide), g19, F19.kp, b19⟩ ⟨GNe.mono (by decide), g20, F20.kp, b20⟩ MO (GOI.mono (by decide)) gOrder bO TN (GEN.mono (by decide)) gBadName bN m_isinstance m_str
    have GRi : FnOk PySem.Challenge.rw_downtoground_k04_whole_names_kinds_and_o.prog w K mg base CX0 10 _ d33 ["_law_sentences", "_law_things", "_law_truths", "_law_ranks"] (spOrdRight K (He.cT K ("kinds", none)).2) := ok_ordright (k := 9) F33 GOo g18 E18.kp bO2 bO1 vD hDt gOrder isC na0 na1 m_range m_isinstance m_tuple
    exact ok_law (j := 80) (dt := 0) (dv := dv) (funC_of (p := ("law", none)) E34) ⟨tb0.code, tb0.bm, tb0.gP⟩ ⟨GPe.mono (by decide), g22, F22.kp, b22⟩ ⟨GDr.mono (by decide), g23, F23.kp, b23⟩ ⟨GPi.mono (by decide), g24, F24.kp, b24⟩ ⟨GOr.mono (by decide), g25, F25.kp, b25⟩ ⟨GDs.mono (by decide), g27, F27.kp, b27⟩ ⟨GOd.mono (by decide), g32, F32.kp, b32⟩ ⟨GDu.mono (by decide), g31, F31.kp, b31⟩ ⟨GRi.mono (by decide), g33, F33.kp, b33⟩ F28 g28 b28 (GKi.mono (by decide)) g17 F17.kp b17 (GOo.mono (by decide)) g18 E18.kp bO2 TU TN gUnlike gBadName gSettleError kS m_isinstance xU xN xM xc kit m_range m_len m_tuple
end
end Ad

open PySem PySem.W PySem.Calls PyProof.Rows
theorem PySem.Challenge.cw_downtoground_k04_whole_names_kinds_and_o_holds : PySem.Challenge.rw_downtoground_k04_whole_names_kinds_and_o.Holds := by
  w_on
  o_law
  refine HandSHeadRun.head_any (r := OpenLaw.row PySem.Challenge.rw_downtoground_k04_whole_names_kinds_and_o) (q := view (OpenLaw.row PySem.Challenge.rw_downtoground_k04_whole_names_kinds_and_o).prog [34]) (H := Ad.hkL) (ob := Ad.obL) (M := 6000) (loose := Ad.looseL)
    (d := HandSHeadRun.topDef (OpenLaw.row PySem.Challenge.rw_downtoground_k04_whole_names_kinds_and_o).prog 34) (kwd := []) Ad.obL_eq (by kernel_rfl) (fun s => by kernel_rfl) Ad.runL (by kernel_rfl) (by kernel_rfl) (by kernel_rfl) (by rfl) (by first | assumption | decide +kernel) (by decide +kernel) ⟨rfl, rfl, rfl, rfl, rfl, by decide +kernel⟩ ?hw ?hc
  case hw => w_witness2
  case hc =>
    refine Ad.walkGT (l := PySem.Challenge.rw_downtoground_k04_whole_names_kinds_and_o) (n := 63) (k := 84) (x := "_law_script") (CX := fun _ => L2.CX0) rfl (by decide) (by kernel_rfl) ⟨rfl, by decide, by decide⟩ ?F (fun _ _ _ _ _ z => z)
    intro w mg fa h ⟨K, KX, c⟩ G named
    have e : (HandSHeadRun.topDef (OpenLaw.row PySem.Challenge.rw_downtoground_k04_whole_names_kinds_and_o).prog 34).name = ("law" : PySem.Str) := by kernel_rfl
    rw [e] at named
    exact ⟨K, KX, Ad.facts KX G named c⟩

