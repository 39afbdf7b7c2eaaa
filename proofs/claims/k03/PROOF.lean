import PyProof.Rows.All
import Wide.All
import OpenK.AllK
import Wide.FinOn
import HandS.ForMost
import HandS.More
import HandS.Style
import HandS.TupAny
import HandS.IsInst
import HandS.Codes
import HandS.Exc
import HandS.Ends
import HandS.GenList
import HandS.AnyAll
import PyProof.GenComp
import PyProof.TupleOfGen
import HandS.EndTab
import PyProof.P3Eq
import PyProof.ReprReads
import PyProof.TupleIter
import HandS.ExcInit
import HandS.ExcField
import HandS.WordsExc
import HandS.TryMany
import HandS.Head0
import HandS.Head1
import HandS.Head2
import HandS.HeadEnd
import HandS.HeadHook1
import HandS.HeadHook2
import HandS.HeadHook3
import HandS.HeadHook4
import HandS.Conv
import HandS.WordsDict
import HandS.Zip
import HandS.Zip0
import PyProof.Draws
import PyProof.EnumMake
import PyProof.EnumFor
import PyProof.CollectWalk
import PyProof.ListNew
import HandS.Deep
import KE.IntTextLaws
import PyProof.StrOps2
import PyProof.Rows.StrMul
import HandS.Lambda
import PySem.Challenge.RW_downtoground_k03_whole_texts_of_clauses
set_option Elab.async false
set_option linter.all false
set_option maxRecDepth 100000
set_option maxHeartbeats 0
/-! A tuple's tail from behind: t[:0:-1]. -/
namespace Ad
open PySem PySem.Spec PySem.Calls PyProof.Rows L2
section
variable {prog : Program} {w : World} {A : Around} {E : Value → Shared → Prop} {s : Shared}
theorem adj_back {n : Nat} (h : 1 ≤ n) : Builtin.Slice.sliceAdjust none (some 0) (-1) (n : Int) = ((n : Int) - 1, 0) := by
  unfold Builtin.Slice.sliceAdjust
  have h1 : ((-1 : Int) < 0) := by decide
  have h0 : ¬ ((0 : Int) < 0) := by decide
  simp only [h1, h0, if_true, if_false]
  congr 1
  omega
theorem places_back (n : Nat) : Builtin.Slice.slicePlaces ((n : Int) - 1) 0 (-1) = n - 1 := by
  unfold Builtin.Slice.slicePlaces
  have h1 : ¬ ((-1 : Int) > 0) := by decide
  have h2 : (- (-1 : Int)) = 1 := by decide
  simp only [h1, if_false, h2, Int.ediv_one]
  split <;> omega
theorem pick_back (xs : Array Value) : ((List.range (xs.size - 1)).filterMap fun (k : Nat) => xs[(((xs.size : Int) - 1) + (k : Int) * (-1)).toNat]?).toArray = (xs.toList.drop 1).reverse.toArray := by
  congr 1
  obtain ⟨l⟩ := xs
  simp only [List.size_toArray]
  have key : ∀ m, m ≤ l.length - 1 → (List.range m).filterMap (fun (k : Nat) => (l.toArray)[(((l.length : Int) - 1) + (k : Int) * (-1)).toNat]?) = (l.drop (l.length - m)).reverse := by
    intro m
    induction m with
    | zero =>
      intro _
      rw [List.range_zero, List.filterMap_nil, Nat.sub_zero, List.drop_length, List.reverse_nil]
    | succ m ih =>
      intro hm
      rw [List.range_succ, List.filterMap_append, ih (by omega), List.filterMap_cons, List.filterMap_nil]
      have e : (((l.length : Int) - 1) + (m : Int) * (-1)).toNat = l.length - (m + 1) := by omega
      rw [e]
      have hlt : l.length - (m + 1) < l.length := by omega
      rw [List.getElem?_toArray, List.getElem?_eq_getElem hlt]
      have d : l.drop (l.length - (m + 1)) = l[l.length - (m + 1)] :: l.drop (l.length - m) := by
        rw [List.drop_eq_getElem_cons hlt]
        congr 2
        omega
      rw [d, List.reverse_cons]
  have k1 := key (l.length - 1) (Nat.le_refl _)
  rw [k1]
  by_cases h : l.length = 0
  · have : l = [] := List.length_eq_zero_iff.mp h
    subst this
    rfl
  · congr 2
    omega
theorem applied_back {sl : Addr} {vu vs : Value} {n : Nat} {Q : Int × Int × Nat → Shared → Prop} (here : s.heap.IsSliceOf sl .none vu vs) (pu : IsPart vu (some 0)) (ps : IsPart vs (some (-1))) (hn : 1 ≤ n)
    (h : Q ((n : Int) - 1, -1, n - 1) s) : wpAny (model prog w) A (Builtin.Slice.sliceApplied (.ref sl) (pure (n : Int))) Q E s := by
  obtain ⟨ob, at', _, dat⟩ := id here
  unfold Builtin.Slice.sliceApplied Builtin.Slice.sliceFields
  refine wpAny_bind (wpAny_bind ?_)
  refine wpAny_field at' dat (x := .none) rfl (wpAny_bind ?_)
  refine wpAny_field at' dat (x := vu) rfl (wpAny_bind ?_)
  refine wpAny_field at' dat (x := vs) rfl (wpAny_pure ?_)
  refine wpAny_bind (HT.slicePart_ ps ?_)
  show wpAny _ _ (if ((-1 : Int) == 0) = true then _ else _) _ _ s
  rw [if_neg (by decide)]
  refine wpAny_bind (slicePart_none (wpAny_bind ?_))
  refine HT.slicePart_ pu (wpAny_bind (wpAny_pure ?_))
  show wpAny _ _ (match Builtin.Slice.sliceAdjust none (some 0) (-1) (n : Int) with | (lo, hi) => pure (lo, (-1 : Int), Builtin.Slice.slicePlaces lo hi (-1))) _ _ s
  rw [adj_back hn]
  show wpAny _ _ (pure ((n : Int) - 1, (-1 : Int), Builtin.Slice.slicePlaces ((n : Int) - 1) 0 (-1))) _ _ s
  rw [places_back]
  exact wpAny_pure h
theorem item_back {t sl : Addr} {items : Array Value} {vu vs : Value} {Q : Value → Shared → Prop} (ht : IsTup s.heap t items) (here : s.heap.IsSliceOf sl .none vu vs) (pu : IsPart vu (some 0)) (ps : IsPart vs (some (-1))) (hn : 1 ≤ items.size)
    (h : Q (.ref s.heap.objs.size) { s with heap := s.heap.push { cls := .type "tuple", data := .seq (items.toList.drop 1).reverse.toArray } }) (hsz : items.size ≤ sizeLine) :
    wpAny (model prog w) A (getItem (.ref t) (.ref sl)) Q E s := by
  have fits : sizeOk (.seq (items.toList.drop 1).reverse.toArray) := by
    show (items.toList.drop 1).reverse.toArray.size ≤ sizeLine
    rw [List.size_toArray, List.length_reverse, List.length_drop, Array.length_toList]
    omega
  obtain ⟨ob, at', cl, _⟩ := id here
  have isSl : s.TypeIs (.ref sl) "slice" := ⟨ob, at', cl⟩
  unfold getItem
  try (with_reducible refine wpAny_holding ?_)
  first
    | refine wpAny_bind (wpAny_pure ?_)
    | skip
  refine wpAny_bind (wpAny_sequenceKey ht.typeIs (by decide) ?_)
  refine wpAny_bind (wpAny_callSpecial?_slot (name := Str.ofString "__getitem__") ht.typeIs slot_tuple_getitem ?_)
  refine wpAny_call_entry slot_tuple_getitem ht.typeIs entry_tuple_getitem ?_ (args_tuple_getitem _ _)
  show wpAny _ _ (Builtin.Tuple.tupleItemsOf (.ref t) >>= _) _ _ s
  refine wpAny_bind (tupleItemsOf_ ht (wpAny_bind (wpAny_typeOf isSl ?_)))
  rw [if_pos (by decide)]
  refine wpAny_bind (applied_back here pu ps hn ?_)
  have not1 : ¬ ((((items.size : Int) - 1) == 0 && (-1 : Int) == 1 && (items.size - 1) == items.size) = true) := by
    intro q
    rw [Bool.and_eq_true, Bool.and_eq_true] at q
    exact absurd q.1.2 (by decide)
  show wpAny _ _ (if (((items.size : Int) - 1) == 0 && (-1 : Int) == 1 && (items.size - 1) == items.size) = true then _ else _) _ _ s
  rw [if_neg not1]
  rw [pick_back]
  first
    | exact wpAny_bind (wpAny_bind (m := Builtin.Tuple.tupleExact _) (wpAny_newObj_type (wpAny_pure ⟨_, rfl, wpAny_pure h⟩) fits))
    | exact wpAny_bind (wpAny_bind (m := Builtin.Tuple.tupleExact _) (wpAny_newObj_type (wpAny_pure (wpAny_pure ⟨_, rfl, wpAny_pure h⟩)) fits))
    | exact wpAny_bind (m := Builtin.Tuple.tupleExact _) (wpAny_newObj_type (wpAny_bind (wpAny_pure (wpAny_pure ⟨_, rfl, wpAny_pure h⟩))) fits)
    | exact wpAny_bind (m := Builtin.Tuple.tupleExact _) (wpAny_newObj_type (wpAny_pure ⟨_, rfl, wpAny_pure h⟩) fits)
end
section
variable {X : Cx}
/-- t[:0:-1], t a tuple that is not empty -/
def tBack (K : PySem.W.Frag) (te : TE) : TE := fun σ H Q => te σ H fun x G => ∃ a xs, x = .ref a ∧ SqT K G a xs ∧ 1 ≤ xs.length ∧ ∀ p, G p = none → Q (.ref p) (upd G p (.tup (xs.drop 1).reverse))
theorem pe_back {e : Expr} {te : TE} {k k0 : Nat} {p0 p1 p2 p3 pos : Pos} (he : PE X e te) :
    PE X (.Subscript e (.Slice none (some (.Constant (.int 0) k0 p0)) (some (.UnaryOp .USub (.Constant (.int 1) k p1) p2)) p3) pos) (tBack X.K te) := by
  constructor
  intro pins s0 σ H Q J ask
  refine Subscript_ (thn (he.run pins s0 σ H _ J ask) fun v s1 back => ?_)
  obtain ⟨x, G, J1, rx, a, xs, rfl, hx, hne, q⟩ := back
  cases rx
  have up : PO X (some (.Constant (.int 0) k0 p0)) (tPart (tC (.int 0))) := po_some pe_int
  have st : PO X (some (.UnaryOp .USub (.Constant (.int 1) k p1) p2)) (tPart (tUn (rU fun i => .int (-i)) (tC (.int 1)))) := po_some (pe_un un_neg pe_int)
  refine wpAny_Slice (thn (po_none.run pins s1 σ G (fun o G2 => o = none ∧ G2 = G) J1 ⟨rfl, rfl⟩) fun vl s2 r2 => ?_)
  obtain ⟨l, G2, J2, pl, rfl, rfl⟩ := r2
  refine thn (up.run pins s2 σ G2 (fun o G3 => o = some 0 ∧ G3 = G2) J2 ⟨0, rfl, rfl, rfl⟩) fun vu s3 r3 => ?_
  obtain ⟨u, G3, J3, pu, rfl, rfl⟩ := r3
  refine thn (st.run pins s3 σ G3 (fun o G4 => o = some (-1) ∧ G4 = G3) J3 ⟨1, rfl, -1, rfl, rfl, rfl⟩) fun vs s4 r4 => ?_
  obtain ⟨o, G4, J4, ps, rfl, rfl⟩ := r4
  cases pl
  have J5 : Inv X pins σ G4 { s4 with heap := s4.heap.push { cls := .type "slice", data := .fields #[.none, vu, vs] } } := J4.kept (t' := s4.toks) fun b ob z => Heap.get?_push_of_some _ z
  obtain ⟨its, r, ht, hz⟩ := J5.tuple hx
  have len := r.length
  show wpAny (model X.prog X.w) X.A (subscriptTail e (.Slice none (some (.Constant (.int 0) k0 p0)) (some (.UnaryOp .USub (.Constant (.int 1) k p1) p2)) p3) (.ref a) (.ref s4.heap.objs.size)) (EP X pins σ Q) X.xe _
  refine tail_any (ops := [.ref a, .ref s4.heap.objs.size]) ht.typeIs slot_tuple_getitem.lookup ?_ (by with_unfolding_all rfl)
  refine item_back ht (Heap.IsSliceOf.new _ .none vu vs) pu ps (by rw [List.size_toArray]; omega) ?_ (by rw [List.size_toArray]; omega)
  refine ⟨.ref _, _, J5.laid (t' := s4.toks) (o := .tup (xs.drop 1).reverse) (fun b ob z => Heap.get?_push_of_some _ z) (Nat.le_refl _) ?_, rfl, q _ (J5.hok.fresh (Nat.le_refl _))⟩
  refine ⟨by rw [List.length_reverse, List.length_drop]; omega, _, (r.drop 1).reverse, IsTup.new _ _⟩
end
end Ad

/-! Defs that are called where no repr is under way; repr of data; the end of a law of such a def. -/
namespace Ad
open PySem PySem.Spec PySem.Calls PyProof.Rows L2
theorem deeper_guards {A : Around} {env : Env} (h : A.guards = some []) : (A.deeper env).guards = some [] := by
  first
    | exact h
    | (show (A.deeper env).guards = _; simp [Around.deeper, h])
    | (obtain ⟨a, b, c, d, e⟩ := A; cases h; rfl)
/-- a def's promise, kept wherever no repr is under way -/
structure FnG (P : Program) (w : World) (K : PySem.W.Frag) (mg : Str → Option Value) (base : Heap) (CX : CXT) (k : Nat) (f : Addr) (fd : FuncData) (ps : List Str) (sp : Sp) : Prop where
  len : ∀ vs H Q E, sp vs H Q E → vs.length = ps.length
  run : ∀ (A : Around) (outer : List Env) (s : Shared) (H : Hp) (args : Args) (us : List Value) (vs : List V) (Q : VK) (E : XK), A.guards = some [] → Room k A → Env0 P w K mg base A outer s H → BindsTo s fd args (ps.zip us) → Vals vs us → sp vs H Q E →
    codeAny (model P w) A (.call (.ref f) args) (CR CX outer P w H s Q E) s
/-- a def of the text, its code object told -/
structure FunC (K : PySem.W.Frag) (x qual : Str) (st : Stmt) (f : Addr) (cdv : Value) (fd : FuncData) : Prop where
  ex : ∃ (oc : Value) (od : Option Addr) (kV doc pm : Value) (an : Option Addr) (ct : Value) (osl : Array (Option Value)),
    fd = PySem.W.fnOf x qual (defArgs st) (defBody st) (defScope st) .none kV doc pm an cdv ct ∧ K.lookup f = some ⟨oc, od, .func fd, osl⟩ ∧ PySem.W.codeIn K cdv qual = true
  kp : PySem.W.keepIn K (.ref f) = true
theorem FunC.fun {K : PySem.W.Frag} {x qual : Str} {st : Stmt} {f : Addr} {cdv : Value} {fd : FuncData} (F : FunC K x qual st f cdv fd) : Fun K x qual st f fd := by
  obtain ⟨⟨oc, od, kV, doc, pm, an, ct, osl, h⟩, k⟩ := F
  exact ⟨⟨oc, od, kV, doc, pm, an, cdv, ct, osl, h⟩, k⟩
theorem fng_ofC {CX : CXT} {P : Program} {w : World} {K : PySem.W.Frag} {mg : Str → Option Value} {base : Heap} {k : Nat} {x qual : Str} {st : Stmt} {f : Addr} {cdv : Value} {fd : FuncData} {N ps : List Str} {sp : Sp} (F : FunC K x qual st f cdv fd) (S : FnScope N ps (defScope st))
    (len : ∀ vs H Q E, sp vs H Q E → vs.length = ps.length)
    (body : ∀ (A : Around) (outer : List Env) (s : Shared) (H : Hp) (vs : List V) (Q : VK) (E : XK), A.guards = some [] → Room k (A.deeper (envOfC qual (defScope st) s.heap.objs.size f cdv)) → sp vs H Q E →
      ∃ t, PSs (cxOf CX P w K mg base N qual (defScope st) f cdv A outer s H E) (defBody st) t ∧ t { nx := fun _ H' => Q .non H', rt := Q } (start N vs) H) : FnG P w K mg base CX (k + 1) f fd ps sp := by
  obtain ⟨oc, od, kV, doc, pm, an, ct, osl, rfl, look, code⟩ := F.ex
  constructor
  · exact len
  · intro A outer s H args us vs Q E gd room e0 binds rel asked
    have many := len _ _ _ _ asked
    have kin : K.In s.heap := e0.mod.kin.keeps fun b o e => (e0.bs b o e).1
    have lim : s.heap.NoLimit := e0.mod.nolimit.keeps fun b o e => (e0.bs b o e).1
    have kinds : ∀ y ∈ ps.zip us, (defScope st).names.lookup y.1 = some .local ∨ ((defScope st).names.lookup y.1 = some .cell ∧ ((cellsFrom (s.heap.objs.size + 1) (defScope st).names []).lookup y.1).isSome = true) := by
      rintro ⟨n, v⟩ hy
      rcases S.par n (List.of_mem_zip hy).1 with q | q
      · exact .inl q
      · exact .inr ⟨q, PySem.W.cellsFrom_some _ _ _ (.inl q)⟩
    refine codeAny_call_function room.depth (kin _ _ look) rfl S.co S.gen rfl (PySem.W.codeRec_of kin code) (binds _ _ _ _ ?_)
    refine wpAny_newFunctionEnv_cells S.kind kinds fun env he s1 ready => ?_
    subst he
    refine ⟨lim.keeps ready.toInCall.keep, codeAny_func ?_⟩
    obtain ⟨t, ht, hq⟩ := body A outer s H vs Q E gd (room.deeper _) asked
    have J : Inv (cxOf CX P w K mg base N qual (defScope st) f cdv A outer s H E) [] (start N vs) H s1 := inv_start S room.hd e0 many rel ready
    refine wpAny_mono (ht.run [] s1 (start N vs) H _ J hq) (fun fl s' hs => ?_) fun e s' hs => hs
    have fin : ∀ {σ' : L2.St} {H' : Hp} {v : V} {u : Value}, Inv (cxOf CX P w K mg base N qual (defScope st) f cdv A outer s H E) [] σ' H' s' → RelV v u → Q v H' → CE outer P w H s Q u s' := by
      intro σ' H' v u J' rv q
      exact ⟨v, H', J'.os, J'.bare, J'.base, J'.hok, rv, q⟩
    match fl, hs with
    | .ret u, ⟨v, σ', H', J', rv, q⟩ => exact fin J' rv q
    | .next, ⟨σ', H', J', q⟩ => exact fin (v := V.non) (u := Value.none) J' rfl q
    | .brk, ⟨_, _, _, q⟩ => exact False.elim q
    | .cont, ⟨_, _, _, q⟩ => exact False.elim q
theorem fng_of {CX : CXT} {P : Program} {w : World} {K : PySem.W.Frag} {mg : Str → Option Value} {base : Heap} {k : Nat} {x qual : Str} {st : Stmt} {f : Addr} {fd : FuncData} {N ps : List Str} {sp : Sp} (F : Fun K x qual st f fd) (S : FnScope N ps (defScope st))
    (len : ∀ vs H Q E, sp vs H Q E → vs.length = ps.length)
    (body : ∀ (cdv : Value) (A : Around) (outer : List Env) (s : Shared) (H : Hp) (vs : List V) (Q : VK) (E : XK), A.guards = some [] → Room k (A.deeper (envOfC qual (defScope st) s.heap.objs.size f cdv)) → sp vs H Q E →
      ∃ t, PSs (cxOf CX P w K mg base N qual (defScope st) f cdv A outer s H E) (defBody st) t ∧ t { nx := fun _ H' => Q .non H', rt := Q } (start N vs) H) : FnG P w K mg base CX (k + 1) f fd ps sp := by
  obtain ⟨⟨oc, od, kV, doc, pm, an, cdv, ct, osl, h⟩, kp⟩ := F
  exact fng_ofC (F := ⟨⟨oc, od, kV, doc, pm, an, ct, osl, h⟩, kp⟩) S len (body cdv)
/-- a def that keeps its promise everywhere -/
theorem FnG.of {CX : CXT} {P : Program} {w : World} {K : PySem.W.Frag} {mg : Str → Option Value} {base : Heap} {k : Nat} {f : Addr} {fd : FuncData} {ps : List Str} {sp : Sp} (F : FnOk P w K mg base CX k f fd ps sp) : FnG P w K mg base CX k f fd ps sp :=
  ⟨F.len, fun A outer s H args us vs Q E _ => F.run A outer s H args us vs Q E⟩
section
variable {X : Cx} {CX : CXT} {k : Nat} {f : Addr} {fd : FuncData} {ps : List Str} {sp : Sp} {E : XK} {x : Str} {p pos : Pos} {e : Expr} {es : List Expr} {t : TA}
/-- f(e, ..) of such a def, where no repr is under way -/
theorem pe_callG (F : FnG X.prog X.w X.K X.mg X.base CX k f fd ps sp) (gd : X.A.guards = some []) (hr : Room k X.A) (hg : Gl X x) (hm : X.mg x = some (.ref f)) (hk : PySem.W.keepIn X.K (.ref f) = true) (hb : Binds X.K fd ps []) (hx : Passes CX X E)
    (pa : PA X (e :: es) t) (hdb : (x == ("__debug__" : Str)) = false := by decide) (hst : starEach (e :: es) X.env = (false, eval e X.env) :: starEach es X.env := by rfl) (hpl : (backTo pos (starEach es X.env)).any (·.1) = false := by rfl) :
    PE X (.Call (.Name x p) (e :: es) [] pos) (tCall sp [] E t) := by
  constructor
  intro pins s σ H Q J ask
  refine wpAny_Call_Name_kw (ld_glob J hg hm ?_ hdb)
  refine PySem.W.callWith_K (h₀ := X.base) J.ok.mod.kin hk (thn (pa.run pos pins s σ H _ (J.tok _) ask) fun us s1 back => ?_) hst hpl
  obtain ⟨vs, G, J1, rel, q⟩ := back
  refine ⟨J1.kIn, ?_⟩
  have q' : sp vs G Q E := by
    have z : sp (vs ++ []) G Q E := q
    rw [List.append_nil] at z
    exact z
  have many : us.length = ps.length := by
    rw [← rel.length]
    exact F.len _ _ _ _ q'
  have b := hb s1 us J1.kIn (by rw [List.append_nil]; exact many)
  rw [List.append_nil] at b
  refine wpAny_call (codeAny_mono (F.run X.A X.stack s1 G ⟨us, []⟩ us vs Q E gd hr J1.env0 b rel q') fun r s' back => ?_)
  match r, back with
  | .error er, back => exact hx pins σ G s1 er s' J1 back
  | .ok (.ret u), back => exact J1.after back
  | .ok .next, back => exact False.elim back
  | .ok .brk, back => exact False.elim back
  | .ok .cont, back => exact False.elim back
/-- repr(x) of data, where no repr is under way -/
theorem call_reprD (gd : X.A.guards = some []) (hu : X.A.units + 64 < cLine) : CallR X (.builtin "repr") (fun xs H Q => ∃ (v : V) (d : PyData), xs = [v] ∧ Dp X.K H v d ∧ d.showable = true ∧ d.hasDict = false ∧ d.depth ≤ 60 ∧ d.shown.length ≤ sizeLine ∧ Q (.str d.shown) H) := by
  intro pins s σ H xs us Q J rel ask
  obtain ⟨v, d, rfl, hd, show', plain, deep, fits, q⟩ := ask
  match us, rel with
  | [u], .cons r .nil =>
    obtain ⟨as, reads⟩ := Dp.reads J d v u hd r
    cases reads with
    | none => exact P.repr_of_none ⟨.str _, H, J.tok _, ⟨_, rfl⟩, q⟩
    | bool b =>
      refine P.repr_of_bool ⟨.str _, H, J.tok _, ⟨_, rfl⟩, ?_⟩
      cases b <;> exact q
    | int i tk => exact P.repr_of_int (of_decide_eq_true show') ⟨.str _, H, J.tok _, ⟨_, rfl⟩, q⟩
    | str z tk => exact P.repr_of_str ⟨.str _, H, J.tok _, ⟨_, rfl⟩, q⟩ fits
    | list h1 h2 h3 h4 => exact repr_of_reads' (Reads.list h1 h2 h3 h4) show' (PyData.noDict_hsm plain) gd (by omega) (fun _ _ z => z) (fun h' u tk kp => ⟨.str _, H, J.kept (t' := tk) kp, ⟨_, rfl⟩, q⟩) fits
    | tuple h1 h2 h3 h4 => exact repr_of_reads' (Reads.tuple h1 h2 h3 h4) show' (PyData.noDict_hsm plain) gd (by omega) (fun _ _ z => z) (fun h' u tk kp => ⟨.str _, H, J.kept (t' := tk) kp, ⟨_, rfl⟩, q⟩) fits
    | dict h1 h2 h3 h4 h5 => cases plain
end
/-- the call of a law by such a def, from the state behind the top -/
theorem lawG {P : Program} {w : World} {K : PySem.W.Frag} {mg mb : Str → Option Value} {CX : CXT} {k : Nat} {fa a : Addr} {fd : FuncData} {x : Str} {sp : Sp} {s : Shared} {vs : List Value} {ns : List Int}
    (kin : K.In s.heap) (gl : s.heap.Ns mainGlobals mg) (bl : s.heap.Ns builtinsNs mb) (same : ∀ x : Str, x ≠ "__name__" → mb x = bootBuiltins x) (lim : s.heap.NoLimit) (gens : s.gens = #[])
    (at' : s.heap.get? a = some { cls := .type "list", data := .seq vs.toArray }) (nums : IntsAre vs ns) (few : ns.length ≤ sizeLine) (room : Room k callerA)
    (F : ∀ base : Heap, K.In base → base.Ns mainGlobals mg → FnG P w K mg base CX k fa fd [x] sp) (bind : ∀ (s : Shared) (u : Value), BindsTo s fd ⟨[u], []⟩ [(x, u)])
    (asked : ∀ H : Hp, Only H → SqL K H a (ns.map V.int) → sp [.ref a] H (fun v _ => v = .bl true) fun _ _ _ => False) (noExc : ∀ H e s', CX [] H s (fun _ _ _ => False) e s' → False) :
    codeAny (model P w) callerA (.call (.ref fa) ⟨[.ref a], []⟩) (fun r s' => r = .ok (.ret (.bool true)) ∧ OldK s.heap s'.heap ∧ s'.os = s.os ∧ AllBare s'.gens) s := by
  have rel := vals_ints nums
  have many := nums.length
  have from' : ∀ H : Hp, Only H → SqL K H a (ns.map V.int) → HOk P w H s.heap → (∀ b, H b ≠ none → b = a) → (H a ≠ none → K.lookup a = none) →
      codeAny (model P w) callerA (.call (.ref fa) ⟨[.ref a], []⟩) (fun r s' => r = .ok (.ret (.bool true)) ∧ OldK s.heap s'.heap ∧ s'.os = s.os ∧ AllBare s'.gens) s := by
    intro H only seq ok onlyA notK
    have hid : ∀ {b : Addr} {o : Obj}, s.heap.get? b = some o → H b = none → (hidT s.heap H).get? b = some o := by
      intro b o e n
      exact hidT_get e n
    have dict0 : ∀ {b : Addr} {o : Obj} {es : Array DictEntry} {ep : Nat}, s.heap.get? b = some o → o.data = .dict es ep → H b = none := by
      intro b o es ep e d
      cases q : H b with
      | none => rfl
      | some u =>
        obtain rfl : b = a := onlyA b (by rw [q]; exact Option.some_ne_none u)
        rw [at'] at e
        cases e
        exact nomatch (show Data.seq vs.toArray _ = Data.dict es ep from d)
    have ns' : ∀ {b : Addr} {m : Str → Option Value}, s.heap.Ns b m → (hidT s.heap H).Ns b m := by
      rintro b m ⟨o, es, ep, e, d, r⟩
      exact ⟨o, es, ep, hid e (dict0 e d), d, r⟩
    have kin' : K.In (hidT s.heap H) := by
      intro b o e
      refine hid (kin b o e) ?_
      cases q : H b with
      | none => rfl
      | some u =>
        obtain rfl : b = a := onlyA b (by rw [q]; exact Option.some_ne_none u)
        rw [notK (by rw [q]; exact Option.some_ne_none u)] at e
        cases e
    have mod : Mod K mg (hidT s.heap H) := by
      refine ⟨kin', ns' gl, ⟨mb, ns' bl, same⟩, ?_⟩
      obtain ⟨mc, h1, h2⟩ := lim
      exact ⟨mc, ns' h1, h2⟩
    have none' : ∀ {q : Prop} (b : Addr), b ∈ ([] : List Addr) → q := fun {q} b hb => absurd hb (by simp)
    have env : Env0 P w K mg (hidT s.heap H) callerA [] s H := ⟨rfl, mod, fun b o e => of_hidT e, Nat.le_of_eq (hidT_size _ _), trivial, fun b hb => none' b hb, ok, .of_eq gens⟩
    have run := (F _ kin' (ns' gl)).run callerA [] s H ⟨[.ref a], []⟩ [.ref a] [.ref a] _ _ rfl room env (bind s (.ref a)) (.cons rfl .nil) (asked H only seq)
    refine codeAny_mono run fun r s' back => ?_
    match r, back with
    | .error e, back => exact (noExc H e s' back).elim
    | .ok .next, back => exact False.elim back
    | .ok .brk, back => exact False.elim back
    | .ok .cont, back => exact False.elim back
    | .ok (.ret u), ⟨v, H', os, bare, un, ok', rv, (q : v = .bl true)⟩ =>
      subst q
      obtain rfl : u = Value.bool true := rv
      refine ⟨rfl, OldK.of_keep fun b o e => ?_, os, bare⟩
      cases q : H b with
      | none => exact un.keep b o e q (fun z => none' b z) (by simp)
      | some u =>
        rcases only b with z | ⟨ob, xs, z⟩
        · rw [q] at z
          cases z
        · obtain ⟨e1, _⟩ := ok b _ z
          obtain ⟨e2, _⟩ := ok' b _ (un.frzs b ob _ z)
          rw [e] at e1
          cases e1
          exact e2
  cases look : K.lookup a with
  | some o =>
    have e := kin a o look
    rw [at'] at e
    cases e
    refine from' (fun _ => none) (fun _ => .inl rfl) (.inr ⟨_, vs.toArray, _, look, rfl, rfl, rfl, ?_, by simpa using rel⟩) ?_ (fun b z => absurd rfl z) fun z => absurd rfl z
    · rw [List.size_toArray, many]
      exact few
    · intro b u z
      exact nomatch (show (none : Option HO) = some u from z)
  | none =>
    refine from' (fun b => if b = a then some (.frz { cls := .type "list", data := .seq vs.toArray } (.lst (ns.map V.int))) else none) (fun b => ?_) (.inl (.inr ⟨{ cls := .type "list", data := .seq vs.toArray }, if_pos rfl⟩)) (fun b u z => ?_) (fun b z => ?_) fun _ => look
    all_goals by_cases hb : b = a
    · exact .inr ⟨_, _, if_pos hb⟩
    · exact .inl (if_neg hb)
    · cases (if_pos hb).symm.trans z
      subst hb
      refine ⟨at', ?_, vs, _, rel, at'⟩
      rw [List.length_map]
      exact few
    · cases (if_neg hb).symm.trans z
    · exact hb
    · exact absurd (if_neg hb) z
/-- the head's goal from such a law's promise -/
theorem walkG {l : PySem.W.OpenLaw} {n k : Nat} {q : Program} {loose : List Str} {XP : (Str → Option Value) → Heap → Prop} {YP : World → Heap → Prop} {d : DefRec} {K : Params → PySem.W.Frag} {CX : World → CXT} {sp : World → Sp} {x : Str}
    (hn : l.most = some n) (hn2 : n ≤ sizeLine) (hdf : d.params.defaults = []) (room : Room k callerA) (hY : ∀ (w : World) (h : Heap), YP w h → (K w.params).In h)
    (F : ∀ (w : World) (mg : Str → Option Value) (fa : Addr) (h : Heap), (K w.params).In h → h.Ns mainGlobals mg → mg d.name = some (.ref fa) →
      ∃ fd : FuncData, (∀ (s : Shared) (u : Value), BindsTo s fd ⟨[u], []⟩ [(x, u)]) ∧ ∀ base : Heap, (K w.params).In base → base.Ns mainGlobals mg → FnG l.prog w (K w.params) mg base (CX w) k fa fd [x] (sp w))
    (asked : ∀ (w : World) (H : Hp) (a : Addr) (ns : List Int), ns.length ≤ n → Only H → SqL (K w.params) H a (ns.map V.int) → sp w [.ref a] H (fun v _ => v = .bl true) fun _ _ _ => False)
    (noExc : ∀ (w : World) (H : Hp) (s : Shared) (e : Value) (s' : Shared), CX w [] H s (fun _ _ _ => False) e s' → False) :
    PySem.W.WalkO q loose XP YP l.row.toRowW d [] (fun f vs => PySem.call f vs) := by
  refine Att.attach_call hn hdf ?_
  intro w s0 s1 mg mb fa o pm cd doc a vs ns G Y ho hd hcd hmg hobj nums short gens
  have kin := hY w _ Y
  obtain ⟨fd, binds, prom⟩ := F w mg fa _ kin G.T.g hmg
  exact lawG kin G.T.g G.T.b G.T.builtins G.T.nolimit gens hobj nums (Nat.le_trans short hn2) room prom binds (fun H only seq => asked w H a ns short only seq) fun H e s' => noExc w H s1 e s'
end Ad

/-! The run of a generator expression: its context, its start. -/
namespace Gx
open PySem PySem.Spec PySem.Calls PyProof.Rows L2
/-- the context of the run: its frame behind those that stood at s, its iterator's objects at fp -/
abbrev ctx (X : Cx) (s : Shared) (H : Hp) (e : Env) (fp : List Addr) (A : Around) (pn : List (Addr × Obj)) : Cx :=
  { X with A := A.deeper e, s_0 := s, H_0 := H, env := e, outer := X.stack, stack := e :: X.stack, ex := fp, fn := fun _ => false, calm := true, pn := pn, xe := fun _ _ => False }
theorem over_gen {A : Around} {e : Env} {elt tg iter : Expr} {ifs : List Expr} {scope : Scope} {pos : Pos} {it acc : Value} : A.over (.compLoop (.GeneratorExp elt [⟨tg, iter, ifs, 0⟩] scope pos) 0 it acc e) [] = A.deeper e := by
  first
    | rfl
    | (obtain ⟨hd, d, fr, gs, u⟩ := A; simp [Around.over, Around.deeper, marksOver, frameCount, unitsOf, envsOf, guardsOf, pushEnvs, pushGuards, Code.envs, Code.env?, Code.isFrame, Code.guards, Code.isGuard, Code.weight, Code.frames, Code.isCreation, Code.isCaller, Code.cUnits])
theorem over_start {A : Around} {e : Env} {elt tg iter : Expr} {ifs : List Expr} {scope : Scope} {pos : Pos} {it acc : Value} : A.over (.compStart (.GeneratorExp elt [⟨tg, iter, ifs, 0⟩] scope pos) 0 it acc e) [] = A.deeper e := by
  first
    | rfl
    | (obtain ⟨hd, d, fr, gs, u⟩ := A; simp [Around.over, Around.deeper, marksOver, frameCount, unitsOf, envsOf, guardsOf, pushEnvs, pushGuards, Code.envs, Code.env?, Code.isFrame, Code.guards, Code.isGuard, Code.weight, Code.frames, Code.isCreation, Code.isCaller, Code.cUnits])
section
variable {X : Cx} {pins : List (Addr × Obj)} {σ : L2.St} {H : Hp} {s : Shared}
theorem start {scope : Scope} {own : List (PySem.Str × Nat)} {fp : List Addr} {e : Env} {A : Around} {pn pins' : List (Addr × Obj)} {s' : Shared} {m : Str → Option Value} (I : Inv X pins σ H s) (ok : BlkOk X.N X.env.scope scope own) (nodup : X.N.Nodup) (noCell : ∀ y ∈ scope.names, y.2 ≠ .cell)
    (sc : e.scope = scope) (loc : e.locals = s.heap.objs.size) (glob : e.globals = mainGlobals) (blt : e.builtins = builtinsNs) (cells : e.cells = cloFrom X.env.cells scope.names []) (fr : e.frame = some e.locals)
    (ff : ∀ b ∈ fp, FpOk X pins H b ∧ b < s.heap.objs.size) (calm : A.handled = none) (frames : A.frames = some X.stack)
    (kp : ∀ b o, s.heap.get? b = some o → s'.heap.get? b = some o) (os : s'.os = s.os) (bare : AllBare s'.gens) (ns : s'.heap.Ns e.locals m)
    (pinned : ∀ p ∈ pn ++ pins', s'.heap.get? p.1 = some p.2 ∧ s.heap.objs.size < p.1 ∧ ∀ v, p.2.data ≠ .cell v) :
    Inv (ctx X s H e fp A pn) pins' (wipe σ (own.map (·.2))) H s' := by
  have from' : ∀ {y c}, e.cells.lookup y = some c → X.env.cells.lookup y = some c ∧ c < s.heap.objs.size := by
    intro y c h
    rw [cells] at h
    rcases cloFrom_mem (PySem.mem_of_lookup h) with z | ⟨h1, rfl⟩
    · cases z
    · obtain ⟨c, hc⟩ : ∃ c, X.env.cells.lookup y = some c := by
        rcases ok.free _ h1 rfl with k | k
        · exact I.ok.has _ (.inl k)
        · exact I.ok.has _ (.inr k)
      rw [hc]
      obtain ⟨w, z⟩ := I.cell _ _ hc
      exact ⟨rfl, z.lt⟩
  have to' : ∀ {y}, scope.names.lookup y = some .free → ∃ c, e.cells.lookup y = some c ∧ X.env.cells.lookup y = some c := by
    intro y h
    obtain ⟨c, hc⟩ := mem_lookup (cloFrom_has (cells := X.env.cells) (acc := []) (PySem.mem_of_lookup h))
    rw [← cells] at hc
    exact ⟨c, hc, (from' hc).1⟩
  refine ⟨?_, os, bare, Un.kept kp, ⟨m, ns, ?_⟩, ?_, ?_, ?_, ?_, I.hok.kept kp, ?_⟩
  · refine ⟨I.ok.mod, ?_, glob, blt, ?_, ?_, ?_, (fun x c z => nomatch z), fun _ => calm, Around.frames_deeper frames, .inr ⟨rfl, fr⟩, ?_, I.bs, Nat.le_trans I.ok.bsz I.sz, ?_, ?_, I.stack, I.stkFree⟩
    · show e.scope.kind = _
      rw [sc]
      exact ok.kind
    · show s.heap.objs.size ≤ e.locals
      rw [loc]
      exact Nat.le_refl _
    · intro x y c h1 h2
      exact I.ok.inj x y c (from' h1).1 (from' h2).1
    · intro x hx
      show ∃ c, e.cells.lookup x = some c
      have key : ∀ k, e.kindOf x = some k → (k = .cell ∨ k = .free) → ∃ c, e.cells.lookup x = some c := by
        intro k hk hk'
        unfold Env.kindOf at hk
        rw [sc] at hk
        rcases hk' with rfl | rfl
        · exact absurd rfl (noCell _ (PySem.mem_of_lookup hk))
        · obtain ⟨c, h, _⟩ := to' hk
          exact ⟨c, h⟩
      rcases hx with hx | hx
      · exact key _ hx (.inl rfl)
      · exact key _ hx (.inr rfl)
    · intro b hb
      refine ⟨?_, fun y c h z => ?_⟩
      · show b ≠ e.locals
        rw [loc]
        exact Nat.ne_of_lt (ff b hb).2
      · exact (ff b hb).1.2.2.2.2.1 y c (from' h).1 z
    · intro b o h hb
      rcases (ff b hb).1.2.2.2.1 with z | z
      · exact I.ok.noex b o h z
      · exact absurd (Nat.lt_of_lt_of_le (Heap.lt_size h) (Nat.le_trans I.ok.bsz z)) (Nat.lt_irrefl _)
    · intro b hb z
      rcases List.mem_cons.mp (I.stkSub b z) with z | z
      · exact (ff b hb).1.2.1 z
      · exact (ff b hb).1.2.2.1 z
  · intro i x v h1 h2 h3
    obtain ⟨h2, off⟩ := wipe_some h2
    have isFree : scope.names.lookup x = some .free := by
      have h3 : Vis e.scope x := h3
      rw [sc] at h3
      have no : ∀ k, scope.names.lookup x = some k → k = .local → False := by
        intro k hk hl
        rcases ok.own _ (PySem.mem_of_lookup hk) (.inl hl) with z | z
        · obtain ⟨p, hp, hpx⟩ := List.mem_map.mp z
          have h4 := ok.ix p hp
          have h5 : p.1 = x := hpx
          rw [h5] at h4
          exact off (List.mem_map.mpr ⟨p, hp, nodup_ix nodup h4 h1⟩)
        · exact z (List.mem_of_getElem? h1)
      rcases h3 with k | k | k
      · exact (no _ k rfl).elim
      · exact absurd rfl (noCell _ (PySem.mem_of_lookup k))
      · exact k
    obtain ⟨m0, _, look⟩ := I.loc
    have vis : Vis X.env.scope x := (ok.free _ (PySem.mem_of_lookup isFree) rfl).elim (fun k => .inr (.inl k)) fun k => .inr (.inr k)
    obtain ⟨u, r, q⟩ := look i x v h1 h2 vis
    obtain ⟨c, c1, c2⟩ := to' isFree
    refine ⟨u, r, .inr ⟨.inr ?_, c, c1, ?_⟩⟩
    · show e.scope.names.lookup x = some .free
      rw [sc]
      exact isFree
    · rcases q with ⟨k, _⟩ | ⟨_, c', e', z⟩
      · have k : X.env.scope.names.lookup x = some .local := k
        rcases ok.free _ (PySem.mem_of_lookup isFree) rfl with k' | k' <;> rw [show X.env.scope.names.lookup x = _ from k'] at k <;> cases k
      · rw [c2] at e'
        cases e'
        exact z.keeps kp
  · intro x c h
    obtain ⟨v, z⟩ := I.cell x c (from' h).1
    exact ⟨v, z.keeps kp⟩
  · show H e.locals = none
    rw [loc]
    exact I.hok.fresh (Nat.le_refl _)
  · intro x c h
    exact I.freeC x c (from' h).1
  · intro p hp
    obtain ⟨h1, h2, h3⟩ := pinned p hp
    refine ⟨h1, I.hok.fresh (Nat.le_of_lt h2), ?_, ?_, h3⟩
    · show p.1 ≠ e.locals
      rw [loc]
      exact Nat.ne_of_gt h2
    · intro z
      rcases List.mem_cons.mp (I.stkSub _ z) with z | z
      · have := I.lt
        rw [z] at h2
        exact absurd (Nat.lt_trans h2 this) (Nat.lt_irrefl _)
      · exact I.nofs (Nat.le_of_lt h2) z
  · rw [wipe_length]
    exact I.len
end
end Gx

/-! The run of a generator expression: its loop. -/
namespace Gx
open PySem PySem.Spec PySem.Calls PyProof.Rows L2
/-- what the run will hand out: J the walk; W turn, measure, what is out, heap -/
def Turns (J : It) (g : TG) (tt : TT) (te : TE) (vs : List Nat) (σ : L2.St) (cont : List V → Hp → Prop) (W : Nat → Nat → List V → Hp → Prop) : Prop := ∀ i m ys H, W i m ys H →
  (J.stop i H ∧ cont ys H) ∨ (J.go i H ∧ ∃ Nx : List V → Hp → Prop, (∀ ys' H', Nx ys' H' → ∃ m', m' < m ∧ W (i + 1) m' ys' H') ∧ ∀ x H', J.yld i H x H' → g x (wipe σ vs) H' fun σ2 H2 => wipe σ2 vs = wipe σ vs ∧ tt σ2 H2 fun b H3 =>
    if b = true then te σ2 H3 fun y H4 => ys.length < sizeLine ∧ Nx (ys ++ [y]) H4 else Nx ys H3)
/-- the end of such a run -/
def End (Y : Cx) (S : Addr) (cont : List V → Hp → Prop) : GenEnd := fun n _ r s => r = .ok .next ∧ ∃ ys ip σ H, n + ys.length = sizeLine ∧ GI Y S ip ys σ H s ∧ cont ys H
section
variable {Y : Cx} {A : Around} {S it : Addr} {fp : List Addr} {tn : Nat → Heap → Prop} {J : It} {elt tg iter : Expr} {ifs : List Expr} {scope : Scope} {pos : Pos} {g : TG} {tt : TT} {te : TE} {vs : List Nat} {σ : L2.St} {cont : List V → Hp → Prop} {W : Nat → Nat → List V → Hp → Prop}
theorem run (hov : A.over (.compLoop (.GeneratorExp elt [⟨tg, iter, ifs, 0⟩] scope pos) 0 (.ref it) .none Y.env) [] = Y.A) (calm : Y.calm = true) (co : Y.env.scope.isCoroutine = false) (noX : ∀ e s, Y.xe e s → False) (T : Turn Y.prog Y.w Y.K tg J fp it tn) (ex : Y.ex = fp)
    (pnS : ∀ p ∈ Y.pn, p.1 ≠ S) (pnF : ∀ p ∈ Y.pn, p.1 ∉ fp) (young : Apart Y S) (offS : S ∉ fp) (pg : PG Y tg g) (pt : PTs Y ifs tt) (pe : PE Y elt te) (turns : Turns J g tt te vs σ cont W) :
    ∀ (m n i : Nat) (ys : List V) (s₀ s : Shared) (H : Hp), n + ys.length = sizeLine → W i m ys H → GI Y S [] ys (wipe σ vs) H s → tn i s.heap → (∀ b ∈ fp, H b = none) →
      Seg (model Y.prog Y.w) A (End Y S cont) (GY Y S) n s₀ (.compLoop (.GeneratorExp elt [⟨tg, iter, ifs, 0⟩] scope pos) 0 (.ref it) .none Y.env)
        ((model Y.prog Y.w).den (.compLoop (.GeneratorExp elt [⟨tg, iter, ifs, 0⟩] scope pos) 0 (.ref it) .none Y.env)) [] s := by
  intro m
  induction m using Nat.strongRecOn with
  | ind m ih =>
    intro n i ys s₀ s H len w gi st none0
    obtain ⟨acc, cc, rv, I⟩ := gi
    have apart : ∀ {σ' : L2.St} {H' : Hp} {s' : Shared}, Inv Y [(S, lstObj acc cc)] σ' H' s' → (∀ b ∈ fp, H' b = none) → ∀ b ∈ fp, FpOk Y [(S, lstObj acc cc)] H' b := by
      intro σ' H' s' I' hn b hb
      have hb' : b ∈ Y.ex := by rw [ex]; exact hb
      refine ⟨hn b hb, (I'.ok.exf b hb').1, I'.ok.exfs b hb', .inl hb', fun x c e => (I'.ok.exf b hb').2 x c e, fun p hp z => ?_⟩
      rcases List.mem_append.mp hp with q | q
      · exact pnF p q (z ▸ hb)
      · rw [List.mem_singleton.mp q] at z
        have z' : S = b := z
        rw [← z'] at hb
        exact offS hb
    show Seg _ A _ _ _ s₀ _ ((compTurn (.GeneratorExp elt [⟨tg, iter, ifs, 0⟩] scope pos) 0 (.ref it) .none Y.env).onRaise (leaving Y.env)) [] s
    rw [compTurn_gen, Sem.onRaise_eq_wrap]
    refine seg_bind_wrap (wpAny_standAt ?_)
    refine seg_bind_wrap ?_
    rw [hov]
    rcases turns i m ys H w with ⟨stop, here⟩ | ⟨more, Nx, down, step⟩
    · refine wpAny_mono (T.done Y rfl rfl rfl calm i [(S, lstObj acc cc)] s _ H (fun _ _ => False) I (apart I none0) st stop) (fun r s6 r6 => ?_) fun x s' q => q.elim
      obtain ⟨rfl, I6⟩ := r6
      exact seg_end (.ok .next) ⟨rfl, ys, [], _, H, len, ⟨acc, cc, rv, I6⟩, here⟩
    · refine wpAny_mono (T.item Y rfl rfl rfl calm i [(S, lstObj acc cc)] s _ H (fun _ _ => False) I (apart I none0) st more) (fun r s6 r6 => ?_) fun x s' q => q.elim
      obtain ⟨u, rfl, h6⟩ := r6
      refine seg_bind_wrap ?_
      rw [hov]
      refine wpAny_mono h6 (fun _ s7 r7 => ?_) fun x s' q => q.elim
      obtain ⟨x, H7, I7, rx, y7, st7, n7⟩ := r7
      refine seg_bind_wrap ?_
      rw [hov]
      refine wpAny_mono (pg.run _ s7 _ H7 x u _ (I7.pinned (apart I7 n7) (T.obj _ _ st7)) rx (step x H7 y7)) (fun _ s8 r8 => ?_) fun x s' q => (noX _ _ q).elim
      obtain ⟨σ8, H8, I8, same, q8⟩ := r8
      refine seg_bind_wrap ?_
      rw [hov]
      refine wpAny_mono (pt.run _ s8 σ8 H8 _ I8 q8) (fun b s9 r9 => ?_) fun x s' q => (noX _ _ q).elim
      obtain ⟨H9, I9, q9⟩ := r9
      have lenσ : (wipe σ vs).length = σ8.length := by
        rw [← same]
        exact wipe_length ..
      have onward : ∀ {s' : Shared} {H' : Hp} {acc' : Array Value} {c' : Nat} {ys' : List V}, Vals ys' acc'.toList → Inv Y ([(S, lstObj acc' c')] ++ pinsAt fp s7.heap) σ8 H' s' → Nx ys' H' → ∀ n', n' + ys'.length = sizeLine → ∀ s₀',
          Seg (model Y.prog Y.w) A (End Y S cont) (GY Y S) n' s₀' (.compLoop (.GeneratorExp elt [⟨tg, iter, ifs, 0⟩] scope pos) 0 (.ref it) .none Y.env)
            ((model Y.prog Y.w).den (.compLoop (.GeneratorExp elt [⟨tg, iter, ifs, 0⟩] scope pos) 0 (.ref it) .none Y.env)) [] s' := by
        intro s' H' acc' c' ys' rv' I' nx n' len' s₀'
        obtain ⟨m', less, w'⟩ := down ys' H' nx
        have pinned : ∀ b ∈ fp, ∀ o, s7.heap.get? b = some o → s'.heap.get? b = some o ∧ H' b = none := by
          intro b hb o e
          have z := I'.pin (b, o) (List.mem_append_right _ (List.mem_append_right _ (mem_pinsAt hb e)))
          exact ⟨z.1, z.2.1⟩
        refine ih m' less n' (i + 1) ys' s₀' s' H' len' w' ⟨acc', c', rv', (I'.unpinned).weak lenσ ?_⟩ (T.keep _ _ _ st7 fun b hb o e => (pinned b hb o e).1) ?_
        · intro j v e
          rw [← same] at e
          exact (wipe_some e).1
        · intro b hb
          obtain ⟨o, e, _⟩ := T.obj _ _ st7 b hb
          exact (pinned b hb o e).2
      cases b with
      | false =>
        rw [if_neg Bool.false_ne_true] at q9
        simp only [Bool.false_eq_true, if_false]
        exact seg_again rfl (onward rv I9 q9 n len s₀)
      | true =>
        rw [if_pos rfl] at q9
        simp only [if_true]
        have hy : ∀ v, yieldOut Y.env v = yieldValue v := fun v => by simp only [yieldOut, co, Bool.false_eq_true, if_false]
        simp only [hy]
        rw [Sem.bind_eq_wrap', Sem.bind_eq_wrap', Sem.wrap_wrap, Sem.wrap_wrap]
        refine seg_wrap ?_
        rw [hov]
        refine wpAny_mono (pe.run _ s9 σ8 H9 _ I9 q9) (fun z s10 r10 => ?_) fun x s' q => (noX _ _ q).elim
        obtain ⟨yv, H10, I10, ry, room, nx⟩ := r10
        obtain ⟨n', rfl⟩ : ∃ n', n = n' + 1 := ⟨n - 1, by omega⟩
        have hip : ∀ p ∈ pinsAt fp s7.heap, p.1 ≠ S := fun p hp z => offS (z ▸ (of_pinsAt hp).1)
        have gi10 : GI Y S (pinsAt fp s7.heap) ys σ8 H10 s10 := ⟨acc, cc, rv, I10⟩
        refine seg_at (seg_yield rfl rfl rfl ⟨ys, yv, pinsAt fp s7.heap, σ8, H10, len, ry, gi10, fun s'' slept => ?_⟩)
        obtain ⟨acc', c', rv', I'⟩ := gi10.woken pnS hip young ry slept
        refine seg_again rfl (onward rv' I' nx n' ?_ s'')
        rw [List.length_append, List.length_singleton]
        omega
end
end Gx

/-! A generator expression as a value. -/
namespace Gx
open PySem PySem.Spec PySem.Calls PyProof.Rows L2 GxR
/-- (elt for tg in iter if ..); P: the def's table of code objects -/
def tGen (P : Addr) (wi : TI) (g : TG) (tt : TT) (te : TE) (vs : List Nat) : TGen := fun σ H cont => wi σ H fun J G => TabG G P ∧ ∀ G2, Tabbed P G G2 → ∃ W : Nat → Nat → List V → Hp → Prop, (∃ m, W 0 m [] G2) ∧ Turns J g tt te vs σ cont W
abbrev gEnv (X : Cx) (scope : Scope) (C : Addr) (cv : Value) : Env := genEnv scope (cloFrom X.env.cells scope.names []) C cv builtinsNs X.env
section
variable {X : Cx} {c P : Addr} {elt tg iter : Expr} {ifs : List Expr} {scope : Scope} {own : List (PySem.Str × Nat)} {pos : Pos} {wi : TI} {g : TG} {tt : TT} {te : TE} {k : Nat}
theorem pgen (room : Room (k + 1) X.A) (TB : TabB X.base X.mg c P) (code : X.env.code = .ref c) (nodup : X.N.Nodup) (walked : PI X tg iter wi) (blk : BlkOk X.N X.env.scope scope own) (noCell : ∀ y ∈ scope.names, y.2 ≠ .cell) (dot : scope.names.lookup (".0" : PySem.Str) = some NameKind.local) (co : scope.isCoroutine = false)
    (gg : ∀ (s : Shared) (H : Hp) (C : Addr) (cv : Value) (fp : List Addr) (A : Around) (pn : List (Addr × Obj)), PG (ctx X s H (gEnv X scope C cv) fp A pn) tg g)
    (gt : ∀ (s : Shared) (H : Hp) (C : Addr) (cv : Value) (fp : List Addr) (A : Around) (pn : List (Addr × Obj)), Room k (A.deeper (gEnv X scope C cv)) → PTs (ctx X s H (gEnv X scope C cv) fp A pn) ifs tt)
    (ge : ∀ (s : Shared) (H : Hp) (C : Addr) (cv : Value) (fp : List Addr) (A : Around) (pn : List (Addr × Obj)), Room k (A.deeper (gEnv X scope C cv)) → PE (ctx X s H (gEnv X scope C cv) fp A pn) elt te)
    (fold : ∀ v, genFold iter X.env v = pure v := by intro _; rfl) : PGen X (k + 1) (.GeneratorExp elt [⟨tg, iter, ifs, 0⟩] scope pos) (tGen P wi g tt te (own.map (·.2))) fun _ _ _ => False := by
  constructor
  intro pins s σ H cont I0 want
  have free : ∀ y ∈ scope.names, y.2 = .free → ∃ c, X.env.cells.lookup y.1 = some c := by
    intro y hy e
    rcases blk.free y hy e with z | z
    · exact I0.ok.has _ (.inl z)
    · exact I0.ok.has _ (.inr z)
  refine wpAny_GeneratorExp_make co (closure_ok free) noCell dot blk.kind (by have := room.dp; omega) ?_ fold
  refine thn (walked.run pins s σ H _ I0 want) fun xv s1 r1 => thn r1 fun itv s2 r2 => ?_
  obtain ⟨it, fp, tn, J, H2, rfl, I2, T, st2, f2, ⟨tab, hP, ht⟩, q⟩ := r2
  refine ⟨I2.nolimit, ?_⟩
  have tabS : s2.heap.get? P = some { cls := .none, data := .fields tab } := I2.hok P _ hP
  have cd : PySem.W.CodeHd s2.heap c P := TB.code.keeps fun b u e => I2.bk b u e
  have fpP : ∀ b ∈ fp, b ≠ P := by
    intro b hb z
    have e := (f2 b hb).1
    rw [z, hP] at e
    cases e
  have goOn : ∀ (cv : Value) (h3 : Heap) (tk : Nat) (tab' : Array Value), Heap.ExtBut P s2.heap h3 → s2.heap.objs.size ≤ h3.objs.size → h3.get? P = some { cls := .none, data := .fields tab' } → (∃ more, tab' = tab ++ more) → TriplesOk tab'.toList →
      wpAny (model X.prog X.w) X.A (builtinsFor X.env.globals X.env.builtins) (fun bi s₄ =>
        ∀ h', h'.Ns s₄.heap.objs.size (fun y => if y = ".0" then some (.ref it) else none) → Heap.SameBut s₄.heap.objs.size (s₄.heap.push { cls := .type "frame", data := .dict #[] }) h' →
          (fun u s' => ∃ H1 sc ex, Inv X pins σ H1 sc ∧ ExOk X pins ex ∧ GMade X.prog X.w (k + 1) X.stack H1 sc ex cont (fun _ _ _ => False) u s') (.ref h'.objs.size) { s₄ with
            gens := s₄.gens.push (.fresh (.compStart (.GeneratorExp elt [⟨tg, iter, ifs, 0⟩] scope pos) 0 (.ref it) .none (genEnv scope (cloFrom X.env.cells scope.names []) s₄.heap.objs.size cv bi X.env))),
            toks := s₄.toks + 1 + 1 + 1,
            heap := h'.push { cls := .type "generator", data := .fields #[.int s₄.gens.size 0, .str "<genexpr>" (s₄.toks + 1), .str (X.env.qual ++ "<genexpr>") (s₄.toks + 1 + 1)] } }) X.xe { s2 with heap := h3, toks := tk } := by
    intro cv h3 tk tab' ext grown tab3 more ok3
    obtain ⟨bm, ob, e1, e2, e3, e4, e5, e6, e7, e8⟩ := TB.bm
    refine wpAny_builtinsFor (m := X.mg) (by rw [I2.ok.glob]; exact (I2.mod.glob.keeps I2.bk).extBut ext TB.gP) e1 e2 (ext _ _ e4 (I2.bk _ _ e5)) e6 e7 e8 ?_
    intro h' hn' hs'
    obtain ⟨mo, em⟩ := more
    have I3 : Inv X pins σ (upd H2 P (.tbl (tab ++ mo))) { s2 with heap := h3, toks := tk } :=
      inv_tab (more := mo) (h' := h3) (g' := s2.gens) (d' := s2.drawn) (t' := tk) I2 hP (fun b u hb e => ext b u hb e) (by rw [← em]; exact tab3) I2.bare
    have tb3 : Tabbed P H2 (upd H2 P (.tbl (tab ++ mo))) := ⟨⟨tab ++ mo, upd_same, by rw [← em]; exact ok3⟩, fun b hb => upd_ne hb⟩
    obtain ⟨W, ⟨m0, w0⟩, turns⟩ := q _ tb3
    have f3 : ∀ b ∈ fp, FpOk X pins (upd H2 P (.tbl (tab ++ mo))) b := fun b hb => ⟨by rw [upd_ne (fpP b hb)]; exact (f2 b hb).1, (f2 b hb).2⟩
    have lt3 : ∀ b ∈ fp, b < h3.objs.size := by
      intro b hb
      obtain ⟨_, e, _⟩ := T.obj _ _ st2 b hb
      exact Nat.lt_of_lt_of_le (Heap.lt_size e) grown
    have st3 : tn 0 h3 := T.keep _ _ _ st2 fun b hb o e => ext b o (fpP b hb) e
    generalize upd H2 P (.tbl (tab ++ mo)) = H3 at I3 w0 f3
    generalize e3s : ({ s2 with heap := h3, toks := tk } : Shared) = s3 at I3
    have hh3 : s3.heap = h3 := congrArg Shared.heap e3s.symm
    clear e3s
    subst hh3
    have sz' : h'.objs.size = s3.heap.objs.size + 1 := by
      rw [hs'.1]
      exact Heap.size_push ..
    have kp' : ∀ b o, s3.heap.get? b = some o → h'.get? b = some o := fun b o e => hs'.extBut b o (Nat.ne_of_lt (Heap.lt_size e)) (Heap.get?_push_of_some _ e)
    refine ⟨H3, s3, fp, I3, fun b hb => ⟨(f3 b hb).2.2.2.1, (f3 b hb).2.1, (f3 b hb).2.2.2.2.1, (f3 b hb).2.2.2.2.2⟩, ?_⟩
    generalize ego : ({ cls := .type "generator", data := .fields #[.int s3.gens.size 0, .str "<genexpr>" (s3.toks + 1), .str (X.env.qual ++ "<genexpr>") (s3.toks + 1 + 1)] } : Obj) = go
    have isGen : ∀ h : Heap, h.get? h'.objs.size = some go → h.IsGen h'.objs.size s3.gens.size := by
      intro h e
      subst ego
      exact ⟨_, _, _, e, rfl, rfl, rfl⟩
    have pushed : (h'.push go).get? h'.objs.size = some go := by
      subst ego
      exact Heap.get?_push_size _ rfl
    have goData : ∀ v, go.data ≠ .cell v := by
      subst ego
      intro v z
      cases z
    have kpush : ∀ b o, s3.heap.get? b = some o → (h'.push go).get? b = some o := fun b o e => Heap.get?_push_of_some _ (kp' b o e)
    refine ⟨h'.objs.size, s3.gens.size, _, rfl, by rw [sz']; exact Nat.le_succ _, by show _ < (h'.push go).objs.size; rw [Heap.size_push]; exact Nat.lt_succ_self _, isGen _ pushed, Array.getElem?_push_size .., rfl, AllBare.push I3.bare rfl, ?_, fun b o e => kpush b o (e), ?_⟩
    · exact I3.nolimit.keeps fun b o e => kpush b o (e)
    intro A S s9 room9 frames9 young9 keep9 atS os9 bare9
    obtain ⟨cS, atS⟩ := atS
    have young9 : (h'.push go).objs.size ≤ S := young9
    rw [Heap.size_push] at young9
    have goAt : s9.heap.get? h'.objs.size = some go := keep9 _ _ pushed
    have kp9 : ∀ b o, s3.heap.get? b = some o → s9.heap.get? b = some o := fun b o e => keep9 b o (kpush b o (e))
    have ns9 : s9.heap.Ns (gEnv X scope s3.heap.objs.size cv).locals (fun y => if y = ".0" then some (.ref it) else none) := (hn'.push go).keeps fun b o e => keep9 b o e
    have I9 : Inv (ctx X s3 H3 (gEnv X scope s3.heap.objs.size cv) fp A [(h'.objs.size, go)]) [(S, lstObj #[] cS)] (wipe σ (own.map (·.2))) H3 s9 := by
      refine start I3 blk nodup noCell rfl rfl I0.ok.glob rfl rfl rfl (fun b hb => ⟨f3 b hb, lt3 b hb⟩) room9.hd frames9 kp9 os9 bare9 ns9 ?_
      intro p hp
      rcases List.mem_append.mp hp with z | z
      · rw [List.mem_singleton.mp z]
        refine ⟨goAt, ?_, goData⟩
        show s3.heap.objs.size < h'.objs.size
        rw [sz']
        exact Nat.lt_succ_self _
      · rw [List.mem_singleton.mp z]
        refine ⟨atS, ?_, fun v y => by cases y⟩
        show s3.heap.objs.size < S
        exact Nat.lt_of_lt_of_le (by rw [sz']; exact Nat.lt_succ_of_lt (Nat.lt_succ_self _)) young9
    have ltS : s3.heap.objs.size < S := Nat.lt_of_lt_of_le (by rw [sz']; exact Nat.lt_succ_of_lt (Nat.lt_succ_self _)) young9
    have apS : Apart (ctx X s3 H3 (gEnv X scope s3.heap.objs.size cv) fp A [(h'.objs.size, go)]) S := by
      refine ⟨by show s3.heap.objs.size ≤ S; exact Nat.le_of_lt ltS, Nat.ne_of_gt ltS, fun x c' e z => ?_⟩
      have e : (cloFrom X.env.cells scope.names []).lookup x = some c' := e
      rcases cloFrom_mem (PySem.mem_of_lookup e) with y | ⟨h1, rfl⟩
      · cases y
      · obtain ⟨c0, hc⟩ := free _ h1 rfl
        rw [hc] at z
        have z : c0 = S := z
        obtain ⟨v, y⟩ := I3.cell _ _ hc
        have lt := y.lt
        rw [z] at lt
        exact Nat.lt_irrefl _ (Nat.lt_trans lt ltS)
    have offS : S ∉ fp := fun z => Nat.lt_irrefl _ (Nat.lt_trans (lt3 S z) ltS)
    have st9 : tn 0 s9.heap := T.keep _ _ _ st3 fun b hb o e => kp9 b o e
    have deep := room9.deeper (gEnv X scope s3.heap.objs.size cv)
    have loop := run (Y := ctx X s3 H3 (gEnv X scope s3.heap.objs.size cv) fp A [(h'.objs.size, go)]) (A := A) (S := S) (it := it) (elt := elt) (tg := tg) (ifs := ifs) (scope := scope) (iter := iter) (pos := pos) (cont := cont) over_gen rfl co (fun _ _ z => z) T rfl
      (fun p hp => by rw [List.mem_singleton.mp hp]; exact Nat.ne_of_lt (Nat.lt_of_lt_of_le (Nat.lt_succ_self _) young9)) (fun p hp z => by
        rw [List.mem_singleton.mp hp] at z
        have := lt3 _ z
        rw [sz'] at this
        exact Nat.lt_irrefl _ (Nat.lt_trans (Nat.lt_succ_self _) this)) apS offS
      (gg s3 H3 s3.heap.objs.size cv fp A [(h'.objs.size, go)]) (gt s3 H3 s3.heap.objs.size cv fp A [(h'.objs.size, go)] deep) (ge s3 H3 s3.heap.objs.size cv fp A [(h'.objs.size, go)] deep) turns
      m0 sizeLine 0 [] s9 s9 H3 (Nat.add_zero _) w0 ⟨#[], cS, .nil, I9⟩ st9 (fun b hb => (f3 b hb).1)
    refine seg_imp (R := End (ctx X s3 H3 (gEnv X scope s3.heap.objs.size cv) fp A [(h'.objs.size, go)]) S cont) (Y := GY (ctx X s3 H3 (gEnv X scope s3.heap.objs.size cv) fp A [(h'.objs.size, go)]) S) (fun n s₀ r s1' hR => ?_) (fun n s₀ v s1' kap kap' hkk hY => ?_) sizeLine ?_
    · obtain ⟨rfl, ys, ip, σ', H', len, gi, fin⟩ := hR
      obtain ⟨a1, _, _, acc, cc, ra, ea⟩ := gi.at
      obtain ⟨_, _, _, K9⟩ := gi
      exact .inl ⟨.inr rfl, H', ys, acc, cc, K9.os, K9.bare, K9.base, K9.hok, a1, ea, ra, by omega, fin⟩
    · obtain ⟨ys, xx, ip, σ', H', len, h2, gi, h4⟩ := hY
      obtain ⟨_, _, _, acc, cc, ra, ea⟩ := gi.at
      obtain ⟨_, _, _, K9⟩ := gi
      have hg := isGen _ (K9.pin (h'.objs.size, go) (List.mem_append_left _ (List.mem_singleton.mpr rfl))).1
      have size : acc.size = ys.length := by
        have l1 := ra.length
        have l2 : acc.toList.length = acc.size := by simp
        omega
      exact ⟨K9.os, K9.bare, K9.nolimit, hg, ⟨acc, cc, ea, by rw [size]; exact len⟩, fun s' z => hkk _ _ (h4 s' z)⟩
    · show Seg _ A _ _ _ s9 _ ((compStart (.GeneratorExp elt [⟨tg, iter, ifs, 0⟩] scope pos) 0 (.ref it) .none (gEnv X scope s3.heap.objs.size cv)).onRaise (leaving (gEnv X scope s3.heap.objs.size cv))) [] s9
      unfold compStart
      rw [Sem.onRaise_eq_wrap]
      show Seg _ A _ _ _ s9 _ ((ask >>= _).wrap _ _ _ _) [] s9
      refine seg_bind_wrap (wpAny_askSetting ?_)
      split
      · exact seg_again rfl loop
      · first
          | exact seg_bind_wrap (wpAny_rule (seg_bind_wrap (wpAny_standAt (seg_bind_wrap (T.self _ 0 s9 _ _ st9 (seg_again rfl loop))))))
          | (refine seg_bind_wrap (wpAny_rule ?_); show Seg _ A _ _ _ s9 _ ((standAt iter.pos >>= _).wrap _ _ _ _) [] s9; exact seg_bind_wrap (wpAny_standAt (seg_bind_wrap (T.self _ 0 s9 _ _ st9 (seg_again rfl loop)))))
  cases hf : codeAmong pos tab.toList with
  | none =>
    refine wpAny_genexprCodeX code (cd.code tabS ht) (cd.tab tabS) hf fun c' h' tk hx hge hlt hco' _ htab' _ => ?_
    obtain ⟨o1, vs, f1, tf, fl, tg', inF, tx, tt', op, _, _, _, _, _, _, _, _, _, htr, _⟩ := hco'
    exact goOn _ h' tk _ hx (Nat.le_trans hge (Nat.le_of_lt hlt)) htab'.2 ⟨_, rfl⟩ htr
  | some cv =>
    refine wpAny_genexprCode_hit code (cd.code tabS ht) hf ?_
    exact goOn cv s2.heap s2.toks tab (Heap.ExtBut.refl _ _) (Nat.le_refl _) tabS ⟨#[], by simp⟩ ht
end
end Gx

/-! tuple(g) of a generator that has not begun. -/
namespace Gx
open PySem PySem.Spec PySem.Calls PyProof.Rows L2 GxR
section
variable {P : Program} {w : World} {outer : List Env} {H : Hp} {sc s : Shared} {ex : List Addr} {Q : List V → Hp → Prop} {A : Around} {k : Nat} {u : Value} {E : Value → Shared → Prop}
abbrev noEx : XK := fun _ _ _ => False
theorem never {e : Value} {s' : Shared} (h : CX P w outer H sc noEx e s') : False := by
  obtain ⟨a, B, H', cls, d, _, _, _, _, _, _, _, z⟩ := h
  exact z
/-- all that comes out of it -/
theorem gathered {Q' : List Value → Shared → Prop} (hr : Room (k + 1) A) (fr : A.frames = some outer) (made : GMade P w k outer H sc ex Q noEx u s)
    (hQ : ∀ S s' acc c H' ys, s.heap.objs.size ≤ S → s'.heap.get? S = some (lstObj acc c) → Vals ys acc.toList → ys.length ≤ sizeLine → s'.os = sc.os → AllBare s'.gens → Un (frs outer) ex H H' sc.heap s'.heap → HOk P w H' s'.heap → H' S = none → Q ys H' → Q' acc.toList s') :
    wpAny (model P w) A (collect u) Q' E s := by
  obtain ⟨a, g, c, rfl, above, below, isGen, fresh, os, bare, lim, old, wake⟩ := made
  have unlike : s.heap.objs.size ≠ a := Nat.ne_of_gt below
  have noStat : s.heap.objs.size ≠ cStatics := by
    obtain ⟨_, hn, _⟩ := lim
    exact Nat.ne_of_gt hn.lt
  unfold collect
  refine wpAny_bind (wpAny_runValue (codeAny_builtin F.entry_proto_collect ?_))
  rw [Around.under_plainId F.plain_proto_collect _]
  show wpAny _ A.in1 (newList [] >>= fun l => again (.builtin "list.__iadd__" ⟨[l, .ref a], []⟩)) _ _ s
  refine wpAny_bind (wpAny_newObj_type ?_)
  refine wpAny_pure ⟨plainId_quiet F.plain_list_iadd _, codeAny_builtin F.entry_list_iadd ?_⟩
  rw [Around.under_plainId F.plain_list_iadd _]
  have at1 : (s.heap.push { cls := .type "list", data := .seq ([] : List Value).toArray }).get? s.heap.objs.size = some { cls := .type "list", data := .seq ([] : List Value).toArray } := Heap.get?_push_size _ rfl
  have keep1 : ∀ b o, s.heap.get? b = some o → (s.heap.push { cls := .type "list", data := .seq ([] : List Value).toArray }).get? b = some o := fun b o e => Heap.get?_push_of_some _ e
  have up : ∀ (h : Heap) (f : Obj → Obj), (∀ b o, s.heap.get? b = some o → h.get? b = some o) → ∀ b o, s.heap.get? b = some o → (h.update s.heap.objs.size f).get? b = some o := fun h f q b o e =>
    (Heap.get?_update_other _ _ (Ne.symm (Nat.ne_of_lt (Heap.lt_size e)))).trans (q b o e)
  have genAt : ∀ {h : Heap}, (∀ b o, s.heap.get? b = some o → h.get? b = some o) → h.IsGen a g := fun {h} q => isGen.keeps q
  show wpAny _ A.in1 (Builtin.List.listExtendWith (.ref s.heap.objs.size) (.ref a) (.ref s.heap.objs.size)) _ _ _
  unfold Builtin.List.listExtendWith
  refine wpAny_bind (wpAny_typeOf (Heap.IsGen.typeIs (s := { s with heap := _ }) (genAt keep1)) ?_)
  have q1 : Builtin.List.listSameRef (.ref s.heap.objs.size) (.ref a) = false := by simp [Builtin.List.listSameRef, unlike]
  have q2 : (Value.type "generator" == Value.type "list") = false := by decide
  have q3 : (Value.type "generator" == Value.type "tuple") = false := by decide
  simp only [q1, q2, q3, Bool.or_false, Bool.false_eq_true, if_false]
  refine wpAny_bind (wpAny_pyIter_gen (s := { s with heap := _ }) (genAt keep1) ?_)
  refine wpAny_bind (wpAny_holding ?_)
  unfold Builtin.List.listLengthHint
  refine wpAny_bind (wpAny_specialOf (Heap.IsGen.typeIs (s := { s with heap := _ }) (genAt keep1)) F.gen_no_len ?_)
  show wpAny _ A.in1 (specialOf (Value.ref a) (Str.ofString "__length_hint__") >>= _) _ _ _
  refine wpAny_bind (wpAny_specialOf (Heap.IsGen.typeIs (s := { s with heap := _ }) (genAt keep1)) F.gen_no_hint ?_)
  refine wpAny_pure ?_
  show wpAny _ A.in1 (rule "list.extend.makes-room" >>= fun _ => Builtin.List.listTouch (.ref s.heap.objs.size) >>= fun _ =>
    again (.builtin "list.extend.loop" ⟨[.ref s.heap.objs.size, .ref a, .ref s.heap.objs.size], []⟩)) _ _ _
  refine wpAny_bind (wpAny_rule ?_)
  refine wpAny_bind ?_
  show wpAny _ A.in1 (updateSeq s.heap.objs.size (·.push .none) >>= fun _ => updateSeq s.heap.objs.size (·.pop)) _ _ _
  refine wpAny_bind (wpAny_updateSeq at1 rfl ?_)
  have at2 := Heap.get?_update_self (Obj.mapSeq (·.push Value.none)) at1 rfl
  refine wpAny_updateSeq (hz := by seq_fits) at2 rfl ?_
  have at3 := Heap.get?_update_self (Obj.mapSeq (·.pop)) at2 rfl
  have keep3 := up _ (Obj.mapSeq (·.pop)) (up _ (Obj.mapSeq (·.push Value.none)) keep1)
  refine wpAny_pure ⟨plainId_quiet F.plain_extend_loop _, ?_⟩
  refine drain (P := P) (w := w) (outer := outer) (H := H) (sc := sc) (ex := ex) (Q := Q) (EX := noEx) (A := A) (g := g) hr.hd (by have := hr.dp; show A.depth < _; omega) unlike noStat
    (fun s' acc c H' ys r1 r2 r3 r4 r5 r6 r7 r8 r9 => ?_) (fun e s' z => (never z).elim) sizeLine _ ?_ ?_ ⟨_, fresh, rfl, ?_⟩
  · show wpAny _ A (load s.heap.objs.size >>= _) _ _ s'
    refine wpAny_bind (wpAny_load r1 ?_)
    exact wpAny_pure (hQ s.heap.objs.size s' acc c H' ys (Nat.le_refl _) r1 r2 r3 r4 r5 r6 r7 r8 r9)
  · exact genAt keep3
  · exact lim.keeps keep3
  · refine wake _ _ _ ⟨hr.hd, ?_, ?_⟩ fr (Nat.le_refl _) keep3 ⟨_, at3⟩ os (allBare_setGen (s := { s with heap := _ }) bare rfl)
    · have := hr.dp
      show A.depth + 3 * k + 5 < _
      omega
    · have := hr.un
      show A.units + 1 + 1 + 16 * k + 200 < _
      omega
end
end Gx

/-! tuple(g), list(g) as expressions. -/
namespace Gx
open PySem PySem.Spec PySem.Calls PyProof.Rows L2 GxR
section
variable {P : Program} {w : World} {outer : List Env} {H : Hp} {sc s : Shared} {ex : List Addr} {Q : List V → Hp → Prop} {A : Around} {k : Nat} {u : Value} {E : Value → Shared → Prop}
theorem new_tuple {Q' : Value → Shared → Prop} (hr : Room (k + 2) A) (fr : A.frames = some outer) (made : GMade P w k outer H sc ex Q noEx u s)
    (hQ : ∀ (s' : Shared) (acc : Array Value) (H' : Hp) (ys : List V), s.heap.objs.size ≤ s'.heap.objs.size → Vals ys acc.toList → ys.length ≤ sizeLine → s'.os = sc.os → AllBare s'.gens → Un (frs outer) ex H H' sc.heap s'.heap → HOk P w H' s'.heap → Q ys H' → Q' (.ref s'.heap.objs.size) { s' with heap := s'.heap.push { cls := .type "tuple", data := .seq acc } }) :
    codeAny (model P w) A (.call (.builtin "tuple.__new__") ⟨[.type "tuple", u], []⟩) (wants Q' E) s := by
  have made' := made
  obtain ⟨a, g, c, rfl, _, _, isGen, _⟩ := made'
  refine codeAny_of_tree ?_
  show wpAny _ A.in1 (do checkBuiltinCall "tuple.__new__" ⟨[.type "tuple", .ref a], []⟩; again (.builtin "tuple.__new__" ⟨[.type "tuple", .ref a], []⟩)) _ _ s
  refine wpAny_bind (wpAny_of_eq (F.newCall_tuple_1 _) (wpAny_pure ⟨plainId_quiet F.plain_tuple_new _, codeAny_builtin F.entry_tuple_new ?_⟩))
  rw [Around.under_plainId F.plain_tuple_new _]
  have q1 := sub_tuple_self
  have q2 := init_tuple_lookup
  have q3 := madeHere_tuple
  have q4 := isGen.typeIs (s := s)
  have fr1 : A.in1.frames = some outer := fr
  wp_walk using wpAny_typeOf q4, gathered (k := k) hr.in1 fr1 made
  intro S s' acc c' H' ys r1 r2 r3 r4 r5 r6 r7 r8 r9 r10
  show wpAny _ _ (Builtin.Tuple.tupleExact acc.toList.toArray >>= fun v => ret v) _ _ _
  have e : acc.toList.toArray = acc := by simp
  have l := r3.length
  have l2 : acc.toList.length = acc.size := by simp
  unfold Builtin.Tuple.tupleExact
  refine wpAny_bind (wpAny_newObj_type ?_ (by show acc.toList.toArray.size ≤ sizeLine; rw [e]; omega))
  refine wpAny_pure ?_
  rw [e]
  exact hQ s' acc H' ys (Nat.le_trans r1 (Nat.le_of_lt (Heap.lt_size r2))) r3 r4 r5 r6 r7 r8 r10
theorem call_tuple_made {Q' : Value → Shared → Prop} (hr : Room (k + 4) A) (fr : A.frames = some outer) (made : GMade P w k outer H sc ex Q noEx u s)
    (hQ : ∀ (s' : Shared) (acc : Array Value) (H' : Hp) (ys : List V), s.heap.objs.size ≤ s'.heap.objs.size → Vals ys acc.toList → ys.length ≤ sizeLine → s'.os = sc.os → AllBare s'.gens → Un (frs outer) ex H H' sc.heap s'.heap → HOk P w H' s'.heap → Q ys H' → Q' (.ref s'.heap.objs.size) { s' with heap := s'.heap.push { cls := .type "tuple", data := .seq acc } }) :
    wpAny (model P w) A (call (.type "tuple") [u]) Q' E s := by
  have fr1 : A.in1.frames = some outer := fr
  refine callType_codes (Q₁ := fun obj s₁ => s₁.TypeIs obj "tuple" ∧ Q' obj s₁) F.called_tuple (F.typeCall_tuple_1 _) F.entry_object_init
    (new_tuple (k := k) (hr.mono (by omega : k + 3 ≤ k + 4)).in1 fr1 made fun s' acc H' ys r1 r2 r3 r4 r5 r6 r7 r8 => ⟨⟨_, Heap.get?_push_size _ rfl, rfl⟩, hQ s' acc H' ys r1 r2 r3 r4 r5 r6 r7 r8⟩) fun obj s₁ h₁ => ?_
  exact ⟨h₁.1, F.args_object_init_2 obj _, object_init_meets F.called_tuple.init.lookup F.called_tuple.made (by decide) P w A.in1 _ s₁ ⟨h₁.1, rfl, h₁.2⟩⟩
end
section
variable {X : Cx} {k : Nat} {e : Expr} {tg : TGen} {p pos : Pos}
def tTupG (tg : TGen) : TE := fun σ H Q => tg σ H fun out H2 => ∀ q, H2 q = none → Q (.ref q) (upd H2 q (.tup out))
/-- tuple(g) -/
theorem pe_tupG (h : PGen X k e tg noEx) (hr : Room (k + 4) X.A) (hg : Gl X "tuple") (hm : X.mg "tuple" = none) (he : starEach [e] X.env = (false, eval e X.env) :: starEach [] X.env := by rfl) : PE X (.Call (.Name "tuple" p) [e] [] pos) (tTupG tg) := by
  refine ⟨fun pins s σ H Q I hq => ?_⟩
  refine wpAny_Call_Name_kw (ld_blt I hg hm boot_tuple ?_)
  refine PyProof.Rows.callWith_type1 ?_ he rfl
  rw [he]
  show wpAny _ _ (spliced ((false, eval e X.env) :: backTo pos (starEach [] X.env))) _ _ s
  refine Calls.spliced_cons (thn (h.run pins s σ H _ I hq) fun u s1 ⟨H1, sc, ex, I1, hex, made⟩ => ?_)
  refine Calls.spliced_nil ?_
  refine call_tuple_made hr I1.ok.frames made fun s' acc H' ys r1 r2 r3 r4 r5 r6 r7 r8 => ?_
  have I2 : Inv X pins σ H' s' := I1.call' (ch := ex) r4 r6 r7 r5 hex
  refine ⟨.ref _, upd H' s'.heap.objs.size (.tup ys), I2.laid (t' := s'.toks) (fun b u z => Heap.get?_push_of_some _ z) (Nat.le_refl _) ?_, rfl, r8 _ (I2.hok.fresh (Nat.le_refl _))⟩
  refine ⟨r3, acc.toList, r2, ?_⟩
  have z : acc.toList.toArray = acc := by simp
  rw [z]
  exact ⟨_, Heap.get?_push_size _ rfl, rfl, _, rfl⟩
/-- tuple(g), its object known -/
def tTupG0 (tg : TGen) : TE := fun σ H Q => tg σ H fun out H2 => ∀ q o, H2 q = none → o.dict = none → Q (.ref q) (upd H2 q (.frz o (.tup out)))
theorem pe_tupG0 (h : PGen X k e tg noEx) (hr : Room (k + 4) X.A) (hg : Gl X "tuple") (hm : X.mg "tuple" = none) (he : starEach [e] X.env = (false, eval e X.env) :: starEach [] X.env := by rfl) : PE X (.Call (.Name "tuple" p) [e] [] pos) (tTupG0 tg) := by
  refine ⟨fun pins s σ H Q I hq => ?_⟩
  refine wpAny_Call_Name_kw (ld_blt I hg hm boot_tuple ?_)
  refine PyProof.Rows.callWith_type1 ?_ he rfl
  rw [he]
  show wpAny _ _ (spliced ((false, eval e X.env) :: backTo pos (starEach [] X.env))) _ _ s
  refine Calls.spliced_cons (thn (h.run pins s σ H _ I hq) fun u s1 ⟨H1, sc, ex, I1, hex, made⟩ => ?_)
  refine Calls.spliced_nil ?_
  refine call_tuple_made hr I1.ok.frames made fun s' acc H' ys r1 r2 r3 r4 r5 r6 r7 r8 => ?_
  have I2 : Inv X pins σ H' s' := I1.call' (ch := ex) r4 r6 r7 r5 hex
  refine ⟨.ref _, _, I2.laid (t' := s'.toks) (o := .frz { cls := .type "tuple", data := .seq acc } (.tup ys)) (fun b u z => Heap.get?_push_of_some _ z) (Nat.le_refl _) ?_, rfl, r8 _ _ (I2.hok.fresh (Nat.le_refl _)) rfl⟩
  refine ⟨Heap.get?_push_size _ rfl, r3, acc.toList, r2, ?_⟩
  have z : acc.toList.toArray = acc := by simp
  rw [z]
  exact ⟨_, Heap.get?_push_size _ rfl, rfl, _, rfl⟩
end
end Gx

/-! Turns over a list, a tuple that stay as they are. -/
namespace Gx
open PySem PySem.Spec PySem.Calls PyProof.Rows L2 GxR
section
variable {K : PySem.W.Frag} {a : Addr} {xs : List V} {g : TG} {tt : TT} {te : TE} {vs : List Nat} {σ : L2.St} {G : Hp} {cont : List V → Hp → Prop}
theorem turns_list (Pv : Nat → List V → Hp → Prop) (first : Pv 0 [] G) (stays : ∀ i ys H, i ≤ xs.length → Pv i ys H → SqL K H a xs)
    (turn : ∀ i x ys H, xs[i]? = some x → Pv i ys H → g x (wipe σ vs) H fun σ2 H2 => wipe σ2 vs = wipe σ vs ∧ tt σ2 H2 fun b H3 => if b = true then te σ2 H3 fun y H4 => ys.length < sizeLine ∧ Pv (i + 1) (ys ++ [y]) H4 else Pv (i + 1) ys H3)
    (after : ∀ ys H, Pv xs.length ys H → cont ys H) : ∃ W : Nat → Nat → List V → Hp → Prop, (∃ m, W 0 m [] G) ∧ Turns (Itl K a) g tt te vs σ cont W := by
  refine ⟨fun i m ys H => m = xs.length - i ∧ i ≤ xs.length ∧ Pv i ys H, ⟨xs.length, (Nat.sub_zero _).symm, Nat.zero_le _, first⟩, ?_⟩
  rintro i m ys H ⟨rfl, le, p⟩
  have seq := stays i ys H le p
  rcases Nat.lt_or_ge i xs.length with lt | ge
  · refine .inr ⟨⟨xs, xs[i], seq, List.getElem?_eq_getElem lt⟩, Pv (i + 1), fun ys' H' p' => ⟨xs.length - (i + 1), by omega, rfl, lt, p'⟩, fun x H' y => ?_⟩
    obtain ⟨rfl, y⟩ := y
    exact turn i x ys _ (y xs seq) p
  · have e : i = xs.length := by omega
    subst e
    exact .inl ⟨⟨xs, seq, Nat.le_refl _⟩, after ys H p⟩
theorem turns_tup (Pv : Nat → List V → Hp → Prop) (first : Pv 0 [] G) (stays : ∀ i ys H, i ≤ xs.length → Pv i ys H → SqT K H a xs)
    (turn : ∀ i x ys H, xs[i]? = some x → Pv i ys H → g x (wipe σ vs) H fun σ2 H2 => wipe σ2 vs = wipe σ vs ∧ tt σ2 H2 fun b H3 => if b = true then te σ2 H3 fun y H4 => ys.length < sizeLine ∧ Pv (i + 1) (ys ++ [y]) H4 else Pv (i + 1) ys H3)
    (after : ∀ ys H, Pv xs.length ys H → cont ys H) : ∃ W : Nat → Nat → List V → Hp → Prop, (∃ m, W 0 m [] G) ∧ Turns (Itt K a) g tt te vs σ cont W := by
  refine ⟨fun i m ys H => m = xs.length - i ∧ i ≤ xs.length ∧ Pv i ys H, ⟨xs.length, (Nat.sub_zero _).symm, Nat.zero_le _, first⟩, ?_⟩
  rintro i m ys H ⟨rfl, le, p⟩
  have seq := stays i ys H le p
  rcases Nat.lt_or_ge i xs.length with lt | ge
  · refine .inr ⟨⟨xs, xs[i], seq, List.getElem?_eq_getElem lt⟩, Pv (i + 1), fun ys' H' p' => ⟨xs.length - (i + 1), by omega, rfl, lt, p'⟩, fun x H' y => ?_⟩
    obtain ⟨rfl, y⟩ := y
    exact turn i x ys _ (y xs seq) p
  · have e : i = xs.length := by omega
    subst e
    exact .inl ⟨⟨xs, seq, Nat.le_refl _⟩, after ys H p⟩
end
end Gx

/-! The end of a law of such a def where some defs grow tables of code objects. -/
namespace Ad
open PySem PySem.Spec PySem.Calls PyProof.Rows L2 GxR
abbrev oList (us : List Value) : Obj := { cls := .type "list", data := .seq us.toArray }
abbrev oTab : Obj := { cls := .none, data := .fields #[] }
/-- an abstract heap over h: the list of us at a, locked (or not told), and empty tables -/
structure First (h : Heap) (K : PySem.W.Frag) (a : Addr) (us : List Value) (ns : List Int) (Ts : List Addr) (H : Hp) : Prop where
  told : ∀ b u, H b = some u → (b = a ∧ u = .frz (oList us) (.lst (ns.map V.int))) ∨ (b ∈ Ts ∧ u = .tbl #[])
  tabs : ∀ b ∈ Ts, H b = some (.tbl #[])
  offK : ∀ b u, H b = some u → K.lookup b = none
section
variable {h : Heap} {K : PySem.W.Frag} {a : Addr} {us : List Value} {ns : List Int} {Ts : List Addr} {H : Hp}
/-- an object that is neither is not tracked -/
theorem First.off (F : First h K a us ns Ts H) (ha : h.get? a = some (oList us)) (ht : ∀ b ∈ Ts, h.get? b = some oTab) {b : Addr} {o : Obj} (e : h.get? b = some o) (n1 : o ≠ oList us) (n2 : o ≠ oTab) : H b = none := by
  cases q : H b with
  | none => rfl
  | some u =>
    rcases F.told b u q with ⟨z, _⟩ | ⟨z, _⟩
    · rw [z, ha] at e
      exact absurd (Option.some.inj e).symm n1
    · rw [ht b z] at e
      exact absurd (Option.some.inj e).symm n2
theorem First.offC (F : First h K a us ns Ts H) (ha : h.get? a = some (oList us)) (ht : ∀ b ∈ Ts, h.get? b = some oTab) {b : Addr} {o : Obj} (e : h.get? b = some o) (n1 : o.cls ≠ .type "list") (n2 : o.cls ≠ .none) : H b = none :=
  F.off ha ht e (fun z => n1 (by rw [z])) fun z => n2 (by rw [z])
theorem First.dict (F : First h K a us ns Ts H) (ha : h.get? a = some (oList us)) (ht : ∀ b ∈ Ts, h.get? b = some oTab) {b : Addr} {m : Str → Option Value} (e : h.Ns b m) : (hidT h H).Ns b m := by
  obtain ⟨o, es, ep, e, d, r⟩ := e
  refine ⟨o, es, ep, hidT_get e (F.off ha ht e (fun z => ?_) fun z => ?_), d, r⟩
  · rw [z] at d
    cases d
  · rw [z] at d
    cases d
end
theorem lawGT {P : Program} {w : World} {K : PySem.W.Frag} {mg mb : Str → Option Value} {CX : CXT} {k : Nat} {fa a : Addr} {cs : List (Addr × Addr)} {fd : FuncData} {x : Str} {sp : Sp} {s : Shared} {us : List Value} {ns : List Int}
    (inK : K.In s.heap) (gl : s.heap.Ns mainGlobals mg) (bl : s.heap.Ns builtinsNs mb) (boot : ∀ x : Str, x ≠ "__name__" → mb x = bootBuiltins x) (lim : s.heap.NoLimit) (quiet : s.gens = #[])
    (tabs : ∀ p ∈ cs, s.heap.get? p.2 = some oTab) (off : ∀ p ∈ cs, K.lookup p.2 = none) (codes : ∀ p ∈ cs, PySem.W.CodeHd s.heap p.1 p.2)
    (top : ∃ (bm : Addr) (ob : Obj), mg "__builtins__" = some (.ref bm) ∧ bm ≠ builtinsNs ∧ s.heap.get? bm = some ob ∧ ob.cls = .type "module" ∧ ob.dict = some builtinsNs ∧ ob.data = .plain)
    (script : s.heap.get? a = some (oList us)) (nums : IntsAre us ns) (few : ns.length ≤ sizeLine) (room : Room k callerA)
    (F : ∀ base : Heap, K.In base → base.Ns mainGlobals mg → (∀ p ∈ cs, TabB base mg p.1 p.2) → FnG P w K mg base CX k fa fd [x] sp) (binds : ∀ (s : Shared) (u : Value), BindsTo s fd ⟨[u], []⟩ [(x, u)])
    (ask : ∀ H : Hp, (∀ p ∈ cs, H p.2 = some (.tbl #[])) → SqL K H a (ns.map V.int) → sp [.ref a] H (fun v _ => v = .bl true) fun _ _ _ => False) (noX : ∀ H e s', CX [] H s (fun _ _ _ => False) e s' → False) :
    codeAny (model P w) callerA (.call (.ref fa) ⟨[.ref a], []⟩) (fun r s' => r = .ok (.ret (.bool true)) ∧ OldK s.heap s'.heap ∧ s'.os = s.os ∧ AllBare s'.gens) s := by
  have rel := vals_ints nums
  have len := nums.length
  have ht : ∀ b ∈ cs.map (·.2), s.heap.get? b = some oTab := by
    intro b hb
    obtain ⟨p, hp, rfl⟩ := List.mem_map.mp hb
    exact tabs p hp
  have aOut : a ∉ cs.map (·.2) := fun z => by
    have e := ht a z
    rw [script] at e
    cases e
  have gone : ∀ {q : Prop} (b : Addr), b ∈ ([] : List Addr) → q := fun {q} b hb => absurd hb (by simp)
  have main : ∀ H : Hp, First s.heap K a us ns (cs.map (·.2)) H → SqL K H a (ns.map V.int) →
      codeAny (model P w) callerA (.call (.ref fa) ⟨[.ref a], []⟩) (fun r s' => r = .ok (.ret (.bool true)) ∧ OldK s.heap s'.heap ∧ s'.os = s.os ∧ AllBare s'.gens) s := by
    intro H D seq
    have ok : HOk P w H s.heap := by
      intro b u e
      rcases D.told b u e with ⟨rfl, rfl⟩ | ⟨z, rfl⟩
      · exact ⟨script, by rw [List.length_map]; exact few, us, _, rel, script⟩
      · exact ht b z
    have kin : K.In (hidT s.heap H) := by
      intro b o e
      refine hidT_get (inK b o e) ?_
      cases q : H b with
      | none => rfl
      | some u =>
        rw [D.offK b u q] at e
        cases e
    have tb : ∀ p ∈ cs, TabB (hidT s.heap H) mg p.1 p.2 := by
      intro p hp
      constructor
      · obtain ⟨o, vs, file, tf, flags, tg, inF, text, tt, e, c, r⟩ := codes p hp
        exact ⟨o, vs, file, tf, flags, tg, inF, text, tt, hidT_get e (D.offC script ht e (by rw [c]; decide) (by rw [c]; intro z; cases z)), c, r⟩
      · obtain ⟨bm, ob, b1, b2, b3, b4, b5, b6⟩ := top
        refine ⟨bm, ob, b1, b2, fun z => ?_, fun z => ?_, hidT_get b3 (D.offC script ht b3 (by rw [b4]; decide) (by rw [b4]; intro z; cases z)), b4, b5, b6⟩
        · obtain ⟨o, es, ep, e, d, _⟩ := gl
          rw [z, e] at b3
          cases b3
          rw [d] at b6
          cases b6
        · rw [z, tabs p hp] at b3
          cases b3
          cases b4
      · intro z
        obtain ⟨o, es, ep, e, d, _⟩ := gl
        rw [z, tabs p hp] at e
        cases e
        cases d
    have mod : L2.Mod K mg (hidT s.heap H) := by
      obtain ⟨mc, l1, l2⟩ := lim
      exact ⟨kin, D.dict script ht gl, ⟨mb, D.dict script ht bl, boot⟩, mc, D.dict script ht l1, l2⟩
    have env : Env0 P w K mg (hidT s.heap H) callerA [] s H := ⟨rfl, mod, fun b o e => of_hidT e, Nat.le_of_eq (hidT_size _ _), trivial, fun b hb => gone b hb, ok, .of_eq quiet⟩
    have run := (F _ kin (D.dict script ht gl) tb).run callerA [] s H ⟨[.ref a], []⟩ [.ref a] [.ref a] _ _ rfl room env (binds s (.ref a)) (.cons rfl .nil) (ask H (fun p hp => D.tabs _ (List.mem_map.mpr ⟨p, hp, rfl⟩)) seq)
    refine codeAny_mono run fun r s' back => ?_
    match r, back with
    | .error e, back => exact (noX H e s' back).elim
    | .ok .next, back => exact False.elim back
    | .ok .brk, back => exact False.elim back
    | .ok .cont, back => exact False.elim back
    | .ok (.ret u), ⟨v, H', os, bare, un, ok', rv, (q : v = .bl true)⟩ =>
      subst q
      obtain rfl : u = Value.bool true := rv
      have stays : ∀ b o, b ∉ cs.map (·.2) → s.heap.get? b = some o → s'.heap.get? b = some o := by
        intro b o nb e
        cases q : H b with
        | none => exact un.keep b o e q (fun z => gone b z) (by simp)
        | some u =>
          rcases D.told b u q with ⟨rfl, rfl⟩ | ⟨z, _⟩
          · have e2 := (ok' b _ (un.frzs b _ _ q)).1
            rw [script] at e
            cases e
            exact e2
          · exact absurd z nb
      have grew : ∀ b ∈ cs.map (·.2), ∃ more : Array Value, s'.heap.get? b = some { cls := .none, data := .fields more } := by
        intro b hb
        obtain ⟨more, z⟩ := un.tbls b #[] (D.tabs b hb)
        exact ⟨_, ok' b _ z⟩
      refine ⟨rfl, ⟨fun b o e => ?_, fun b o e => ?_⟩, os, bare⟩
      · by_cases hb : b ∈ cs.map (·.2)
        · obtain ⟨more, z⟩ := grew b hb
          obtain ⟨p, hp, rfl⟩ := List.mem_map.mp hb
          rw [tabs p hp] at e
          cases e
          refine .inr (.inl ⟨((codes p hp).tab (tabs p hp)).isCodeTable, rfl, #[], more, rfl, ?_⟩)
          rw [Array.empty_append]
          exact z
        · exact .inl (stays b o hb e)
      · by_cases hb : b ∈ cs.map (·.2)
        · obtain ⟨more, z⟩ := grew b hb
          exact ⟨_, z⟩
        · exact ⟨o, stays b o hb e⟩
  have offT : ∀ b ∈ cs.map (·.2), K.lookup b = none := by
    intro b hb
    obtain ⟨p, hp, rfl⟩ := List.mem_map.mp hb
    exact off p hp
  by_cases look : K.lookup a = none
  · refine main (fun b => if b ∈ cs.map (·.2) then some (.tbl #[]) else if b = a then some (.frz (oList us) (.lst (ns.map V.int))) else none) ⟨fun b u e => ?_, fun b hb => if_pos hb, fun b u e => ?_⟩ (.inl (.inr ⟨oList us, (if_neg aOut).trans (if_pos rfl)⟩))
    all_goals
      by_cases hb : b ∈ cs.map (·.2)
      · have e' := (if_pos hb).symm.trans e
        first
          | exact .inr ⟨hb, (Option.some.inj e').symm⟩
          | exact offT b hb
      · have e1 := (if_neg hb).symm.trans e
        by_cases hc : b = a
        · have e' := (if_pos hc).symm.trans e1
          first
            | exact .inl ⟨hc, (Option.some.inj e').symm⟩
            | exact hc ▸ look
        · exact nomatch (if_neg hc).symm.trans e1
  · obtain ⟨o, e⟩ := Option.ne_none_iff_exists'.mp look
    have e2 := inK a o e
    rw [script] at e2
    cases e2
    refine main (fun b => if b ∈ cs.map (·.2) then some (.tbl #[]) else none) ⟨fun b u e => ?_, fun b hb => if_pos hb, fun b u e => ?_⟩ (.inr ⟨_, us.toArray, _, e, rfl, rfl, rfl, ?_, by simpa using rel⟩)
    · by_cases hb : b ∈ cs.map (·.2)
      · exact .inr ⟨hb, (Option.some.inj ((if_pos hb).symm.trans e)).symm⟩
      · exact nomatch (if_neg hb).symm.trans e
    · by_cases hb : b ∈ cs.map (·.2)
      · exact offT b hb
      · exact nomatch (if_neg hb).symm.trans e
    · rw [List.size_toArray, len]
      exact few
/-- what is known of the law at the head's heap -/
def LawGAt (l : PySem.W.OpenLaw) (w : World) (K : PySem.W.Frag) (CX : CXT) (k n : Nat) (x : Str) (mg : Str → Option Value) (fa : Addr) (h : Heap) : Prop :=
  ∃ (fd : FuncData) (cs : List (Addr × Addr)) (sp : Sp), (∀ p ∈ cs, h.get? p.2 = some oTab) ∧ (∀ p ∈ cs, K.lookup p.2 = none) ∧ (∀ p ∈ cs, PySem.W.CodeHd h p.1 p.2) ∧ (∀ (s : Shared) (u : Value), BindsTo s fd ⟨[u], []⟩ [(x, u)]) ∧
    (∀ (H : Hp) (a : Addr) (ns : List Int), ns.length ≤ n → (∀ p ∈ cs, H p.2 = some (.tbl #[])) → SqL K H a (ns.map V.int) → sp [.ref a] H (fun v _ => v = .bl true) fun _ _ _ => False) ∧
    ∀ base : Heap, K.In base → base.Ns mainGlobals mg → (∀ p ∈ cs, TabB base mg p.1 p.2) → FnG l.prog w K mg base CX k fa fd [x] sp
theorem walkGT {l : PySem.W.OpenLaw} {n k : Nat} {q : Program} {loose : List Str} {XP : (Str → Option Value) → Heap → Prop} {YP : World → Heap → Prop} {d : DefRec} {CX : World → CXT} {x : Str}
    (most : l.most = some n) (short : n ≤ sizeLine) (plain : d.params.defaults = []) (room : Room k callerA)
    (F : ∀ (w : World) (mg : Str → Option Value) (fa : Addr) (h : Heap), YP w h → h.Ns mainGlobals mg → mg d.name = some (.ref fa) → ∃ K : PySem.W.Frag, K.In h ∧ LawGAt l w K (CX w) k n x mg fa h)
    (noX : ∀ (w : World) (H : Hp) (s : Shared) (e : Value) (s' : Shared), CX w [] H s (fun _ _ _ => False) e s' → False) : PySem.W.WalkO q loose XP YP l.row.toRowW d [] (fun f vs => PySem.call f vs) := by
  refine Att.attach_callB most plain fun w s0 s mg mb fa o pm cd doc a us ns G Y ho hd hcd hmg list nums few bits quiet => ?_
  obtain ⟨K, inK, fd, cs, sp, t1, t2, t3, b, ask, prom⟩ := F w mg fa _ Y G.T.g hmg
  exact lawGT inK G.T.g G.T.b G.T.builtins G.T.nolimit quiet t1 t2 t3 G.T.bmain list nums (Nat.le_trans few short) room prom b (fun H => ask H a ns few) fun H e s' => noX w H s e s'
end Ad

/-! xs.extend(t) of a tuple. -/
namespace Ad
open PySem PySem.Spec PySem.Calls PyProof.Rows L2
section
variable {X : Cx}
/-- xs.extend(t), t a tuple that may carry more than its items -/
theorem ext_tuple (l : Addr) (items : Array Value) (n : Nat) (b : Addr) (zs : Array Value) (m : Nat) (dd : Option Addr) (sl : Array (Option Value)) (notLong : ¬(!items.isEmpty && Builtin.List.listTooLong (items.size + zs.size)) = true) (short : items.size ≤ sizeLine) (both : items.size + zs.size ≤ sizeLine + 1) :
    Meets (Builtin.«list.extend» ⟨[.ref l, .ref b], []⟩) (fun _ R s => s.heap.get? l = some { cls := .type "list", dict := none, data := .seq items n, slots := #[] } ∧ s.heap.get? b = some { cls := .type "tuple", dict := dd, data := .seq zs m, slots := sl } ∧
      R (.ok (.ret Value.none)) { s with heap := s.heap.update l (Obj.mapSeq fun x => x ++ zs), toks := s.toks }) :=
  .of_wp fun prog w A R s h => by
    obtain ⟨hp, g, d, tk, os⟩ := s
    obtain ⟨hl, hb, h⟩ := h
    have f1 := AutoSeq1.idx_int
    have f2 := AutoSeq1.sub_tuple_tuple
    have f3 := AutoSeq1.sub_list_list
    have f4 := AutoSeq1.sub_tuple_list
    have f5 := AutoSeq1.sub_list_tuple
    have size2 : (items ++ zs).size ≤ sizeLine + 1 := by rw [Array.size_append]; exact both
    wp_walk using (wpAny_updateSeq hl rfl (hz := short) (_hz' := size2)), AutoSeq1.wpAny_loadPart' hl, AutoSeq1.wpAny_loadPart' hb
    exact ⟨_, rfl, h⟩
/-- xs.extend(t), t a tuple -/
def rExtT (K : PySem.W.Frag) : V → List V → Hp → VK → Prop := fun x vs H Q => ∃ l b xs zs, x = .ref l ∧ vs = [.ref b] ∧ H l = some (.lst xs) ∧ SqT K H b zs ∧ xs.length + zs.length ≤ sizeLine ∧ Q .non (upd H l (.lst (xs ++ zs)))
theorem mt_extT : MtM X "list.extend" (rExtT X.K) := by
  intro pins s σ H x vs v us Q I rx rv h
  obtain ⟨l, b, xs, zs, rfl, rfl, hH, hB, hz, q⟩ := h
  cases rx
  obtain ⟨u, rfl, ru⟩ := rv.one
  cases ru
  obtain ⟨z, its, n, r, hl, e⟩ := I.lstM hH
  obtain ⟨its2, r2, ⟨⟨cls, dd, data, sl⟩, ho, hcl, n2, hd⟩, _⟩ := I.tuple hB
  simp only at hcl hd
  subst hcl hd
  have hl2 := r2.length
  have short : its.toArray.size + its2.toArray.size ≤ sizeLine := by rw [List.size_toArray, List.size_toArray]; omega
  have notLong : ¬ (!its.toArray.isEmpty && Builtin.List.listTooLong (its.toArray.size + its2.toArray.size)) = true := by
    rw [notLongL short, Bool.and_false]
    exact Bool.false_ne_true
  refine call_meets F.slot_list_extend ⟨_, e, rfl⟩ F.entry_list_extend (F.args_list_extend_2 _ _) (ext_tuple l its.toArray n b its2.toArray n2 dd sl notLong (by rw [List.size_toArray]; omega) (by omega)) ⟨e, ho, ?_⟩
  refine ⟨.non, _, I.lset (its' := its ++ its2) hH e (by simp) (r.append r2) ?_, rfl, q⟩
  rw [List.length_append]
  omega
end
end Ad

/-! Terms: a variable's number, or a name with arguments; where they stand. -/
namespace Ad
open PySem PySem.Spec PySem.Calls PyProof.Rows L2
/-- a name whose text is short -/
def nameOk (x : Str) : Bool := PyData.strOk x && decide ((PyData.shown (.str x)).length ≤ 10)
theorem nameOk_lay {x : Str} (h : nameOk x = true) : PyData.strOk x = true := (Bool.and_eq_true_iff.mp h).1
theorem nameOk_short {x : Str} (h : nameOk x = true) : (PyData.shown (.str x)).length ≤ 10 := of_decide_eq_true (Bool.and_eq_true_iff.mp h).2
inductive T where
  | v (i : Int)
  | f (x : Str) (ts : List T)
namespace T
mutual
def d : T → PyData
  | .v i => .int i
  | .f x ts => .tuple (.str x :: ds ts)
def ds : List T → List PyData
  | [] => []
  | t :: ts => d t :: ds ts
end
mutual
/-- all that stands in a term -/
def parts : T → List T
  | .v i => [.v i]
  | .f x ts => .f x ts :: partsL ts
def partsL : List T → List T
  | [] => []
  | t :: ts => parts t ++ partsL ts
end
mutual
def size : T → Nat
  | .v _ => 1
  | .f _ ts => 1 + sizeL ts
def sizeL : List T → Nat
  | [] => 0
  | t :: ts => size t + sizeL ts
end
mutual
def dep : T → Nat
  | .v _ => 0
  | .f _ ts => 1 + depL ts
def depL : List T → Nat
  | [] => 0
  | t :: ts => max (dep t) (depL ts)
end
mutual
/-- the variables, as often as they stand there -/
def vars : T → List Int
  | .v i => [i]
  | .f _ ts => varsL ts
def varsL : List T → List Int
  | [] => []
  | t :: ts => vars t ++ varsL ts
end
mutual
/-- all names can be laid -/
def named : T → Bool
  | .v _ => true
  | .f x ts => nameOk x && namedL ts
def namedL : List T → Bool
  | [] => true
  | t :: ts => named t && namedL ts
end
mutual
theorem parts_len : ∀ t : T, t.parts.length = t.size
  | .v _ => rfl
  | .f x ts => by
    show (partsL ts).length + 1 = 1 + sizeL ts
    rw [partsL_len ts]
    omega
theorem partsL_len : ∀ ts : List T, (partsL ts).length = sizeL ts
  | [] => rfl
  | t :: ts => by
    show (parts t ++ partsL ts).length = size t + sizeL ts
    rw [List.length_append, parts_len t, partsL_len ts]
end
theorem size_pos : ∀ t : T, 1 ≤ t.size
  | .v _ => Nat.le_refl _
  | .f _ _ => Nat.le_add_right _ _
mutual
theorem dep_size : ∀ t : T, t.dep ≤ t.size
  | .v _ => Nat.zero_le _
  | .f x ts => by
    show 1 + depL ts ≤ 1 + sizeL ts
    have h := depL_size ts
    omega
theorem depL_size : ∀ ts : List T, depL ts ≤ sizeL ts
  | [] => Nat.le_refl _
  | t :: ts => by
    show max (dep t) (depL ts) ≤ size t + sizeL ts
    have h1 := dep_size t
    have h2 := depL_size ts
    omega
end
mutual
theorem d_depth : ∀ t : T, t.d.depth = t.dep
  | .v _ => rfl
  | .f x ts => by
    show max 0 (PyData.depthAll (ds ts)) + 1 = 1 + depL ts
    rw [ds_depth ts]
    omega
theorem ds_depth : ∀ ts : List T, PyData.depthAll (ds ts) = depL ts
  | [] => rfl
  | t :: ts => by
    show max (PyData.depth (d t)) (PyData.depthAll (ds ts)) = max (dep t) (depL ts)
    rw [d_depth t, ds_depth ts]
end
mutual
theorem d_lay : ∀ t : T, t.named = true → t.d.canLay0 = true
  | .v _, _ => rfl
  | .f x ts, h => by
    have h' : (nameOk x && namedL ts) = true := h
    rw [Bool.and_eq_true] at h'
    show (PyData.strOk x && PyData.canLayAll0 (ds ts)) = true
    rw [nameOk_lay h'.1, ds_lay ts h'.2]
    rfl
theorem ds_lay : ∀ ts : List T, namedL ts = true → PyData.canLayAll0 (ds ts) = true
  | [], _ => rfl
  | t :: ts, h => by
    have h' : (named t && namedL ts) = true := h
    rw [Bool.and_eq_true] at h'
    show (PyData.canLay0 (d t) && PyData.canLayAll0 (ds ts)) = true
    rw [d_lay t h'.1, ds_lay ts h'.2]
    rfl
end
theorem shaped {t : T} (h : t.named = true) (small : t.dep ≤ 64) : SeqAt.shaped t.d = true := by
  unfold SeqAt.shaped
  rw [d_lay t h, d_depth t]
  exact decide_eq_true small
theorem ds_map : ∀ ts : List T, ds ts = ts.map d
  | [] => rfl
  | t :: ts => by
    show d t :: ds ts = _
    rw [ds_map ts]
    rfl
theorem partsL_append : ∀ (as bs : List T), partsL (as ++ bs) = partsL as ++ partsL bs
  | [], _ => rfl
  | t :: ts, bs => by
    show parts t ++ partsL (ts ++ bs) = parts t ++ partsL ts ++ partsL bs
    rw [partsL_append ts bs, List.append_assoc]
theorem sizeL_append : ∀ (as bs : List T), sizeL (as ++ bs) = sizeL as + sizeL bs
  | [], _ => (Nat.zero_add _).symm
  | t :: ts, bs => by
    show size t + sizeL (ts ++ bs) = size t + sizeL ts + sizeL bs
    rw [sizeL_append ts bs, Nat.add_assoc]
theorem sizeL_reverse : ∀ ts : List T, sizeL ts.reverse = sizeL ts
  | [] => rfl
  | t :: ts => by
    rw [List.reverse_cons, sizeL_append, sizeL_reverse ts]
    show sizeL ts + (size t + 0) = size t + sizeL ts
    omega
theorem size_mem {t : T} {ts : List T} (h : t ∈ ts) : t.size ≤ sizeL ts := by
  induction ts with
  | nil => cases h
  | cons u us ih =>
    show t.size ≤ size u + sizeL us
    rcases List.mem_cons.mp h with e | e
    · rw [e]; omega
    · have := ih e; omega
theorem len_sizeL : ∀ ts : List T, ts.length ≤ sizeL ts
  | [] => Nat.le_refl _
  | t :: ts => by
    show ts.length + 1 ≤ size t + sizeL ts
    have h1 := size_pos t
    have h2 := len_sizeL ts
    omega
theorem dep_mem {t : T} {ts : List T} (h : t ∈ ts) : t.dep ≤ depL ts := by
  induction ts with
  | nil => cases h
  | cons u us ih =>
    show t.dep ≤ max (dep u) (depL us)
    rcases List.mem_cons.mp h with e | e
    · rw [e]; omega
    · have := ih e; omega
theorem named_mem {t : T} {ts : List T} (h : t ∈ ts) (n : namedL ts = true) : t.named = true := by
  induction ts with
  | nil => cases h
  | cons u us ih =>
    have n' : (named u && namedL us) = true := n
    rw [Bool.and_eq_true] at n'
    rcases List.mem_cons.mp h with e | e
    · rw [e]; exact n'.1
    · exact ih e n'.2
end T
/-- tuples stay -/
def TK (H H' : Hp) : Prop := ∀ b xs, (H b = some (.tup xs) → H' b = some (.tup xs)) ∧ (∀ o, H b = some (.frz o (.tup xs)) → H' b = some (.frz o (.tup xs)))
theorem TK.refl (H : Hp) : TK H H := fun _ _ => ⟨id, fun _ => id⟩
theorem TK.trans {H H1 H2 : Hp} (a : TK H H1) (b : TK H1 H2) : TK H H2 := fun c xs => ⟨fun e => (b c xs).1 ((a c xs).1 e), fun o e => (b c xs).2 o ((a c xs).2 o e)⟩
theorem TK.same {H H' : Hp} (s : Same H H') : TK H H' := fun b _ => ⟨s b _, fun _ => s b _⟩
theorem TK.lst {H : Hp} {p : Addr} {ys : List V} (h : H p = some (.lst ys)) (o : HO) : TK H (upd H p o) := fun b xs => by
  refine ⟨fun e => ?_, fun u e => ?_⟩
  · have n : b ≠ p := fun z => by rw [z, h] at e; cases e
    rw [upd_ne n]; exact e
  · have n : b ≠ p := fun z => by rw [z, h] at e; cases e
    rw [upd_ne n]; exact e
theorem TK.new {H : Hp} {p : Addr} (h : H p = none) (o : HO) : TK H (upd H p o) := fun b xs => by
  refine ⟨fun e => ?_, fun u e => ?_⟩
  · have n : b ≠ p := fun z => by rw [z, h] at e; cases e
    rw [upd_ne n]; exact e
  · have n : b ≠ p := fun z => by rw [z, h] at e; cases e
    rw [upd_ne n]; exact e
section
variable {K : PySem.W.Frag} {H H' : Hp}
theorem TK.sq (k : TK H H') {a : Addr} {xs : List V} (h : SqT K H a xs) : SqT K H' a xs := by
  rcases h with (h | ⟨o, h⟩) | h
  · exact .inl (.inl ((k a xs).1 h))
  · exact .inl (.inr ⟨o, (k a xs).2 o h⟩)
  · exact .inr h
mutual
/-- a value is a term -/
def Tm (K : PySem.W.Frag) (H : Hp) : T → V → Prop
  | .v i, x => x = .int i
  | .f n ts, x => ∃ a xs, x = .ref a ∧ SqT K H a (.str n :: xs) ∧ Tms K H ts xs
def Tms (K : PySem.W.Frag) (H : Hp) : List T → List V → Prop
  | [], xs => xs = []
  | t :: ts, xs => ∃ y ys, xs = y :: ys ∧ Tm K H t y ∧ Tms K H ts ys
end
mutual
theorem Tm.mono (k : TK H H') : ∀ (t : T) (x : V), Tm K H t x → Tm K H' t x
  | .v _, _, h => h
  | .f n ts, x, h => by
    obtain ⟨a, xs, e, sq, all⟩ := h
    exact ⟨a, xs, e, k.sq sq, Tms.mono k ts xs all⟩
theorem Tms.mono (k : TK H H') : ∀ (ts : List T) (xs : List V), Tms K H ts xs → Tms K H' ts xs
  | [], _, h => h
  | t :: ts, xs, h => by
    obtain ⟨y, ys, e, one, all⟩ := h
    exact ⟨y, ys, e, Tm.mono k t y one, Tms.mono k ts ys all⟩
end
mutual
theorem Tm.dp : ∀ (t : T) (x : V), Tm K H t x → Dp K H x t.d
  | .v i, x, h => by
    cases (show x = .int i from h)
    exact .int i
  | .f n ts, x, h => by
    obtain ⟨a, xs, rfl, sq, all⟩ := h
    exact .tup sq (.cons (.str n) (Tms.dp ts xs all))
theorem Tms.dp : ∀ (ts : List T) (xs : List V), Tms K H ts xs → DpAll K H xs (T.ds ts)
  | [], xs, h => by
    cases (show xs = [] from h)
    exact .nil
  | t :: ts, xs, h => by
    obtain ⟨y, ys, rfl, one, all⟩ := h
    exact .cons (Tm.dp t y one) (Tms.dp ts ys all)
end
theorem Tms.len : ∀ {ts : List T} {xs : List V}, Tms K H ts xs → xs.length = ts.length
  | [], xs, h => by
    cases (show xs = [] from h)
    rfl
  | t :: ts, xs, h => by
    obtain ⟨y, ys, rfl, _, all⟩ := h
    rw [List.length_cons, List.length_cons, Tms.len all]
theorem Tms.app : ∀ {as : List T} {xs : List V} {bs : List T} {ys : List V}, Tms K H as xs → Tms K H bs ys → Tms K H (as ++ bs) (xs ++ ys)
  | [], xs, _, _, h, k => by
    cases (show xs = [] from h)
    exact k
  | t :: ts, xs, _, _, h, k => by
    obtain ⟨y, zs, rfl, one, all⟩ := h
    exact ⟨y, _, rfl, one, Tms.app all k⟩
theorem Tms.one {t : T} {x : V} (h : Tm K H t x) : Tms K H [t] [x] := ⟨x, [], rfl, h, rfl⟩
theorem Tms.rev : ∀ {ts : List T} {xs : List V}, Tms K H ts xs → Tms K H ts.reverse xs.reverse
  | [], xs, h => by
    cases (show xs = [] from h)
    exact rfl
  | t :: ts, xs, h => by
    obtain ⟨y, ys, rfl, one, all⟩ := h
    rw [List.reverse_cons, List.reverse_cons]
    exact Tms.app (Tms.rev all) (Tms.one one)
theorem Tms.get : ∀ {ts : List T} {xs : List V} {i : Nat} {x : V}, Tms K H ts xs → xs[i]? = some x → ∃ t, ts[i]? = some t ∧ Tm K H t x
  | [], xs, i, x, h, e => by
    cases (show xs = [] from h)
    cases e
  | t :: ts, xs, i, x, h, e => by
    obtain ⟨y, ys, rfl, one, all⟩ := h
    cases i with
    | zero =>
      cases e
      exact ⟨t, rfl, one⟩
    | succ i => exact Tms.get (ts := ts) (xs := ys) (i := i) all e
theorem Tms.get' : ∀ {ts : List T} {xs : List V} {i : Nat} {t : T}, Tms K H ts xs → ts[i]? = some t → ∃ x, xs[i]? = some x ∧ Tm K H t x
  | [], xs, i, x, h, e => by cases e
  | t :: ts, xs, i, x, h, e => by
    obtain ⟨y, ys, rfl, one, all⟩ := h
    cases i with
    | zero =>
      cases e
      exact ⟨y, rfl, one⟩
    | succ i => exact Tms.get' (ts := ts) (xs := ys) (i := i) all e
/-- the last of them -/
theorem Tms.last : ∀ {ts : List T} {xs : List V}, Tms K H ts xs → ts ≠ [] → ∃ us u ys y, ts = us ++ [u] ∧ xs = ys ++ [y] ∧ Tms K H us ys ∧ Tm K H u y
  | [], _, _, n => absurd rfl n
  | [t], xs, h, _ => by
    obtain ⟨y, ys, rfl, one, all⟩ := h
    cases (show ys = [] from all)
    exact ⟨[], t, [], y, rfl, rfl, rfl, one⟩
  | t :: u :: ts, xs, h, _ => by
    obtain ⟨y, ys, rfl, one, all⟩ := h
    obtain ⟨us, w, zs, z, e1, e2, a, b⟩ := Tms.last (ts := u :: ts) all (by simp)
    exact ⟨t :: us, w, y :: zs, z, by rw [e1]; rfl, by rw [e2]; rfl, ⟨y, zs, rfl, one, a⟩, b⟩
end
end Ad

/-! What stands in a term. -/
namespace Ad
open PySem PySem.Spec PySem.Calls PyProof.Rows L2
theorem sq_ty {K : PySem.W.Frag} {H : Hp} {a : Addr} {xs : List V} (h : SqT K H a xs) : TyX K H (.ref a) (.type "tuple") := by
  rcases h with (h | ⟨o, h⟩) | h
  · exact .base (.tup h)
  · exact .fTuple h
  · obtain ⟨o, _, _, e, c, _⟩ := h
    exact .kTuple e c
theorem tm_tuple {K : PySem.W.Frag} {H : Hp} {n : Str} {ts : List T} {x : V} (h : Tm K H (.f n ts) x) : TyX K H x (.type "tuple") := by
  obtain ⟨a, xs, rfl, sq, _⟩ := h
  exact sq_ty sq
theorem kitTT {K : PySem.W.Frag} : PySem.W.kitOne K (.type "tuple") (.type "tuple") = some true := kit_ty (by decide +kernel)
theorem kitIT {K : PySem.W.Frag} : PySem.W.kitOne K (.type "int") (.type "tuple") = some false := kit_ty (by decide +kernel)
theorem kitTI {K : PySem.W.Frag} : PySem.W.kitOne K (.type "tuple") (.type "int") = some false := kit_ty (by decide +kernel)
theorem kitII {K : PySem.W.Frag} : PySem.W.kitOne K (.type "int") (.type "int") = some true := kit_ty (by decide +kernel)
def lenAt (H : Hp) (p : Addr) : Nat := match H p with
  | some (.lst xs) => xs.length
  | _ => 0
theorem lenAt_of {H : Hp} {p : Addr} {xs : List V} (h : H p = some (.lst xs)) : lenAt H p = xs.length := by
  unfold lenAt
  rw [h]
theorem same_on {H H' : Hp} {p : Addr} (s : Same H H') (n : H p = none) (o : HO) : Same H (upd H' p o) := fun b u e => by
  rw [upd_ne (ne_of_none e n)]
  exact s b u e
/-- the truth of a value, as a test -/
def tTrue (K : PySem.W.Frag) (te : TE) : TT := fun σ H Q => te σ H fun x G => ∃ b, TruV K x G b ∧ Q b G
theorem pt_true {X : Cx} {e : Expr} {te : TE} (he : PE X e te) (plain : ∀ whole, isTrue e X.env whole = (do let v ← whole; standAt e.pos; holding [v] (truthy v)) := by intro _; rfl) : PT X e (tTrue X.K te) := pt_truth he plain
/-- a while by a word and a measure -/
theorem while_m {c : TT} {tb : TS} {D : Ends} {σ : L2.St} {H : Hp} (Pv : L2.St → Hp → Prop) (μ : L2.St → Hp → Nat) (start : Pv σ H)
    (turn : ∀ σ H, Pv σ H → c σ H fun b G => if b = true then tb { D with nx := fun σ' H' => Pv σ' H' ∧ μ σ' H' < μ σ H, ct := fun σ' H' => Pv σ' H' ∧ μ σ' H' < μ σ H, bk := D.nx } σ G else D.nx σ G) (mono : ∀ σ H Q Q', (∀ b G, Q b G → Q' b G) → c σ H Q → c σ H Q') :
    ∃ W : Nat → L2.St → Hp → Prop, (∃ m, W m σ H) ∧ ∀ m σ H, W m σ H → c σ H fun b G => if b = true then ∃ N : L2.St → Hp → Prop, (∀ σ' H', N σ' H' → ∃ m', m' < m ∧ W m' σ' H') ∧ tb { D with nx := N, ct := N, bk := D.nx } σ G else D.nx σ G :=
  while_by Pv μ start turn mono
theorem mono_true {K : PySem.W.Frag} {te : TE} (m : ∀ σ H (Q Q' : VK), (∀ v G, Q v G → Q' v G) → te σ H Q → te σ H Q') : ∀ σ H (Q Q' : Bool → Hp → Prop), (∀ b G, Q b G → Q' b G) → tTrue K te σ H Q → tTrue K te σ H Q' := fun σ H Q Q' imp h => m σ H _ _ (fun v G ⟨b, t, q⟩ => ⟨b, t, imp _ _ q⟩) h
theorem mono_var {i : Nat} : ∀ σ H (Q Q' : VK), (∀ v G, Q v G → Q' v G) → tVar i σ H Q → tVar i σ H Q' := fun _ _ _ _ imp ⟨v, e, q⟩ => ⟨v, e, imp _ _ q⟩
end Ad

/-! Paths; places_of. -/
namespace Ad
open PySem PySem.Spec PySem.Calls PyProof.Rows L2
/-- two lists, item by item -/
def F2 {α β : Type} (R : α → β → Prop) : List α → List β → Prop
  | [], ys => ys = []
  | x :: xs, ys => ∃ y zs, ys = y :: zs ∧ R x y ∧ F2 R xs zs
section
variable {α β : Type} {R S : α → β → Prop}
theorem F2.mono (imp : ∀ a b, R a b → S a b) : ∀ {xs : List α} {ys : List β}, F2 R xs ys → F2 S xs ys
  | [], _, h => h
  | x :: xs, _, h => by
    obtain ⟨y, zs, rfl, r, t⟩ := h
    exact ⟨y, zs, rfl, imp _ _ r, F2.mono imp t⟩
theorem F2.len : ∀ {xs : List α} {ys : List β}, F2 R xs ys → ys.length = xs.length
  | [], ys, h => by
    cases (show ys = [] from h)
    rfl
  | x :: xs, _, h => by
    obtain ⟨y, zs, rfl, r, t⟩ := h
    rw [List.length_cons, List.length_cons, F2.len t]
theorem F2.app : ∀ {xs xs' : List α} {ys ys' : List β}, F2 R xs ys → F2 R xs' ys' → F2 R (xs ++ xs') (ys ++ ys')
  | [], _, ys, _, h, k => by
    cases (show ys = [] from h)
    exact k
  | x :: xs, _, _, _, h, k => by
    obtain ⟨y, zs, rfl, r, t⟩ := h
    exact ⟨y, _, rfl, r, F2.app t k⟩
theorem F2.one {a : α} {b : β} (h : R a b) : F2 R [a] [b] := ⟨b, [], rfl, h, rfl⟩
theorem F2.last : ∀ {xs : List α} {ys : List β}, F2 R xs ys → xs ≠ [] → ∃ us u zs z, xs = us ++ [u] ∧ ys = zs ++ [z] ∧ F2 R us zs ∧ R u z
  | [], _, _, n => absurd rfl n
  | [x], ys, h, _ => by
    obtain ⟨y, zs, rfl, r, t⟩ := h
    cases (show zs = [] from t)
    exact ⟨[], x, [], y, rfl, rfl, rfl, r⟩
  | x :: x2 :: xs, ys, h, _ => by
    obtain ⟨y, zs, rfl, r, t⟩ := h
    obtain ⟨us, u, qs, q, e1, e2, a, b⟩ := F2.last (xs := x2 :: xs) t (by simp)
    exact ⟨x :: us, u, y :: qs, q, by rw [e1]; rfl, by rw [e2]; rfl, ⟨y, qs, rfl, r, a⟩, b⟩
theorem F2.get : ∀ {xs : List α} {ys : List β} {i : Nat} {y : β}, F2 R xs ys → ys[i]? = some y → ∃ x, xs[i]? = some x ∧ R x y
  | [], ys, i, y, h, e => by
    cases (show ys = [] from h)
    cases e
  | x :: xs, ys, i, y, h, e => by
    obtain ⟨z, zs, rfl, r, t⟩ := h
    cases i with
    | zero =>
      cases e
      exact ⟨x, rfl, r⟩
    | succ i => exact F2.get (xs := xs) (ys := zs) (i := i) t e
theorem F2.get' : ∀ {xs : List α} {ys : List β} {i : Nat} {x : α}, F2 R xs ys → xs[i]? = some x → ∃ y, ys[i]? = some y ∧ R x y
  | [], ys, i, x, h, e => by cases e
  | x :: xs, ys, i, y, h, e => by
    obtain ⟨z, zs, rfl, r, t⟩ := h
    cases i with
    | zero =>
      cases e
      exact ⟨z, rfl, r⟩
    | succ i => exact F2.get' (xs := xs) (ys := zs) (i := i) t e
theorem F2.mem : ∀ {xs : List α} {ys : List β} {y : β}, F2 R xs ys → y ∈ ys → ∃ x, x ∈ xs ∧ R x y := fun h m => by
  obtain ⟨i, hi, rfl⟩ := List.mem_iff_getElem.mp m
  obtain ⟨x, e, r⟩ := h.get (List.getElem?_eq_getElem hi)
  exact ⟨x, List.mem_of_getElem? e, r⟩
end
end Ad

/-! at, put_at. -/
namespace Ad
open PySem PySem.Spec PySem.Calls PyProof.Rows L2
def iD (ns : List Int) : PyData := .tuple (ns.map .int)
theorem int_lay : ∀ ns : List Int, PyData.canLayAll0 (ns.map .int) = true
  | [] => rfl
  | n :: ns => by
    show (true && PyData.canLayAll0 (ns.map .int)) = true
    rw [int_lay ns]
    rfl
theorem int_depth : ∀ ns : List Int, PyData.depthAll (ns.map .int) = 0
  | [] => rfl
  | n :: ns => by
    show max 0 (PyData.depthAll (ns.map .int)) = 0
    rw [int_depth ns]
    rfl
theorem iD_shaped (ns : List Int) : SeqAt.shaped (iD ns) = true := by
  unfold SeqAt.shaped
  have h1 : (iD ns).canLay0 = true := int_lay ns
  have h2 : (iD ns).depth = 1 := by
    show PyData.depthAll (ns.map .int) + 1 = 1
    rw [int_depth]
  rw [h1, h2]
  rfl
theorem ints_dp {K : PySem.W.Frag} {H : Hp} : ∀ ns : List Int, DpAll K H (ns.map V.int) (ns.map .int)
  | [] => .nil
  | n :: ns => .cons (.int n) (ints_dp ns)
theorem iD_dp {K : PySem.W.Frag} {H : Hp} {a : Addr} {ns : List Int} (h : SqT K H a (ns.map V.int)) : Dp K H (.ref a) (iD ns) := .tup h (ints_dp ns)
theorem iD_nil (ns : List Int) : PyData.eqv (iD ns) (iD []) = ns.isEmpty := by
  cases ns <;> first | rfl | (simp [iD, PyData.eqv, PyData.eqvAll])
theorem hu1 {k : Nat} {A : Around} (hr : Room k A) : A.units + 1 < cLine := by
  have := hr.un
  omega
theorem hu64 {k : Nat} {A : Around} (hr : Room k A) : A.units + 64 < cLine := by
  have := hr.un
  omega
section
variable {P : Program} {w : World} {K : PySem.W.Frag} {mg : Str → Option Value} {base : Heap}
theorem same_new {H H' : Hp} {p : Addr} (s : Same H H') (n : H' p = none) (o : HO) : Same H (upd H' p o) := fun b u e => by
  rw [upd_ne (ne_of_none (s b u e) n)]
  exact s b u e
theorem vac {k : Nat} {f : Addr} {fd : FuncData} {ps : List Str} {sp : Sp} (no : ∀ vs H Q E, ¬ sp vs H Q E) : FnOk P w K mg base CX0 k f fd ps sp :=
  ⟨fun vs H Q E h => absurd h (no vs H Q E), fun A outer s H args us vs Q E _ _ _ _ h => absurd h (no vs H Q E)⟩
end
end Ad

/-! The law's own going: is it a variable, size, variables. -/
namespace Ad
open PySem PySem.Spec PySem.Calls PyProof.Rows L2
namespace T
mutual
theorem v_parts (j : Int) : ∀ t : T, .v j ∈ parts t ↔ j ∈ vars t
  | .v i => by
    show T.v j ∈ [T.v i] ↔ j ∈ [i]
    rw [List.mem_singleton, List.mem_singleton]
    exact ⟨fun e => T.v.inj e, fun e => congrArg T.v e⟩
  | .f x ts => by
    show T.v j ∈ T.f x ts :: partsL ts ↔ j ∈ varsL ts
    rw [List.mem_cons, ← v_partsL j ts]
    exact ⟨fun h => h.elim (fun e => nomatch e) id, .inr⟩
theorem v_partsL (j : Int) : ∀ ts : List T, .v j ∈ partsL ts ↔ j ∈ varsL ts
  | [] => ⟨(fun h => nomatch h), (fun h => nomatch h)⟩
  | t :: ts => by
    show T.v j ∈ parts t ++ partsL ts ↔ j ∈ vars t ++ varsL ts
    rw [List.mem_append, List.mem_append, v_parts j t, v_partsL j ts]
end
mutual
theorem vars_len : ∀ t : T, t.vars.length ≤ t.size
  | .v _ => Nat.le_refl _
  | .f x ts => by
    show (varsL ts).length ≤ 1 + sizeL ts
    have := varsL_len ts
    omega
theorem varsL_len : ∀ ts : List T, (varsL ts).length ≤ sizeL ts
  | [] => Nat.le_refl _
  | t :: ts => by
    show (vars t ++ varsL ts).length ≤ size t + sizeL ts
    have h1 := vars_len t
    have h2 := varsL_len ts
    rw [List.length_append]
    omega
end
end T
def T.isV : T → Bool
  | .v _ => true
  | .f _ _ => false
def spIsVar (K : PySem.W.Frag) : Sp := fun vs H Q _ => ∃ (t : T) (x : V), vs = [x] ∧ Tm K H t x ∧ Q (.bl t.isV) H
theorem cut_args {x : V} {xs : List V} : ¬ (HT.sIx (x :: xs).length 0 (some 1) = 0 ∧ HT.sIx (x :: xs).length (x :: xs).length none = (x :: xs).length) ∧ cutV (x :: xs) (some 1) none = xs := by
  have e2 : HT.sIx (x :: xs).length 0 (some ((1 : Nat) : Int)) = 1 := by
    rw [HT.sIx_nat, List.length_cons]
    omega
  have e3 : HT.sIx (x :: xs).length 0 (some 1) = 1 := e2
  constructor
  · rw [e3]
    omega
  · unfold cutV
    rw [e3, HT.sIx_none]
    show xs.take _ = _
    rw [List.take_of_length_le]
    rw [List.length_cons]
    omega
theorem sum_sizes : ∀ ts : List T, (ts.map fun t => (t.size : Int)).sum = (T.sizeL ts : Int)
  | [] => rfl
  | t :: ts => by
    rw [List.map_cons, List.sum_cons, sum_sizes ts]
    show (t.size : Int) + (T.sizeL ts : Int) = ((t.size + T.sizeL ts : Nat) : Int)
    omega
section
variable {P : Program} {w : World} {K : PySem.W.Frag} {mg : Str → Option Value} {base : Heap}
theorem T.varsL_append : ∀ (as bs : List T), T.varsL (as ++ bs) = T.varsL as ++ T.varsL bs
  | [], _ => rfl
  | t :: ts, bs => by
    show T.vars t ++ T.varsL (ts ++ bs) = T.vars t ++ T.varsL ts ++ T.varsL bs
    rw [T.varsL_append ts bs, List.append_assoc]
theorem T.varsL_take (ts : List T) (i : Nat) : (T.varsL (ts.take i)).length ≤ T.sizeL ts := by
  have h1 := T.varsL_len (ts.take i)
  have h2 := T.sizeL_append (ts.take i) (ts.drop i)
  rw [List.take_append_drop] at h2
  omega
end
end Ad

namespace Ad
open PySem PySem.Spec PySem.Calls PyProof.Rows L2
def topS (i : Nat) : Stmt := PySem.Challenge.pw_downtoground_k03_whole_texts_of_clauses.main.body.getD i (.Pass ⟨0, 0, 0, 0⟩)
end Ad

/-! The pen of a law: its cells, its draws, its picks. -/
namespace Pn
open PySem PySem.Spec PyProof.Rows L2
abbrev sPen : Stmt := Ad.topS 22
abbrev sDraw : Stmt := Ad.topS 23
abbrev sPick : Stmt := Ad.topS 24
theorem scPen : FnScope ["_law_script", "_law_fold", "_law_cell"] ["_law_script"] (defScope sPen) := ⟨rfl, rfl, rfl, by decide +kernel, rfl, by decide +kernel, by decide +kernel⟩
theorem scDraw : FnScope ["_law_pen_here", "_law_many", "_law_cell", "_law_digit", "_law_blend"] ["_law_pen_here", "_law_many"] (defScope sDraw) := ⟨rfl, rfl, rfl, by decide +kernel, rfl, by decide +kernel, by decide +kernel⟩
theorem scPick : FnScope ["_law_pen_here", "_law_some"] ["_law_pen_here", "_law_some"] (defScope sPick) := ⟨rfl, rfl, rfl, by decide +kernel, rfl, by decide +kernel, by decide +kernel⟩
/-! ### the pen's dict -/
abbrev kC : Key := .inr "cells"
abbrev kA : Key := .inr "at"
abbrev kD : Key := .inr "digits"
abbrev kN : Key := .inr "count"
abbrev kF : Key := .inr "fold"
theorem nCA : ¬ (kC = kA) := by decide +kernel
theorem nCD : ¬ (kC = kD) := by decide +kernel
theorem nCN : ¬ (kC = kN) := by decide +kernel
theorem nCF : ¬ (kC = kF) := by decide +kernel
theorem nAD : ¬ (kA = kD) := by decide +kernel
theorem nAN : ¬ (kA = kN) := by decide +kernel
theorem nAF : ¬ (kA = kF) := by decide +kernel
theorem nDN : ¬ (kD = kN) := by decide +kernel
theorem nDF : ¬ (kD = kF) := by decide +kernel
theorem nNF : ¬ (kN = kF) := by decide +kernel
def penK (l : Addr) (a d n f : Int) : List (Key × V) := [(kC, .ref l), (kA, .int a), (kD, .int d), (kN, .int n), (kF, .int f)]
section
variable (l : Addr) (a d n f x : Int)
theorem getC : valV (penK l a d n f) kC = some (.ref l) := valV_pos rfl
theorem getA : valV (penK l a d n f) kA = some (.int a) := by
  unfold penK; rw [valV_neg nCA, valV_pos rfl]
theorem getD : valV (penK l a d n f) kD = some (.int d) := by
  unfold penK; rw [valV_neg nCD, valV_neg nAD, valV_pos rfl]
theorem getN : valV (penK l a d n f) kN = some (.int n) := by
  unfold penK; rw [valV_neg nCN, valV_neg nAN, valV_neg nDN, valV_pos rfl]
theorem getF : valV (penK l a d n f) kF = some (.int f) := by
  unfold penK; rw [valV_neg nCF, valV_neg nAF, valV_neg nDF, valV_neg nNF, valV_pos rfl]
theorem put_is {kvs : List (Key × V)} {k : Key} {v : V} (h : valV kvs k = some v) (y : V) : putK kvs k y = kvs.map fun kv => if kv.1 = k then (kv.1, y) else kv := by
  unfold putK
  rw [valV_any, h]
  rfl
theorem putA : putK (penK l a d n f) kA (.int x) = penK l x d n f := by
  rw [put_is (getA l a d n f)]
  show [_, _, _, _, _] = _
  dsimp only
  rw [if_neg nCA, if_pos rfl, if_neg (Ne.symm nAD), if_neg (Ne.symm nAN), if_neg (Ne.symm nAF)]
  rfl
theorem putD : putK (penK l a d n f) kD (.int x) = penK l a x n f := by
  rw [put_is (getD l a d n f)]
  show [_, _, _, _, _] = _
  dsimp only
  rw [if_neg nCD, if_neg nAD, if_pos rfl, if_neg (Ne.symm nDN), if_neg (Ne.symm nDF)]
  rfl
theorem putN : putK (penK l a d n f) kN (.int x) = penK l a d x f := by
  rw [put_is (getN l a d n f)]
  show [_, _, _, _, _] = _
  dsimp only
  rw [if_neg nCN, if_neg nAN, if_neg nDN, if_pos rfl, if_neg (Ne.symm nNF)]
  rfl
theorem putF' : putK (penK l a d n f) kF (.int x) = penK l a d n x := by
  rw [put_is (getF l a d n f)]
  show [_, _, _, _, _] = _
  dsimp only
  rw [if_neg nCF, if_neg nAF, if_neg nDF, if_neg nNF, if_pos rfl]
  rfl
theorem merge_pen : mergeK [] [(kC, .ref l), (kA, .int a), (kD, .int d), (kN, .int n), (kF, .int f)] = penK l a d n f := by
  unfold mergeK penK
  simp only [List.foldl_cons, List.foldl_nil]
  rw [putK_new (kvs := []) (k := kC) _ rfl]
  rw [putK_new (k := kA) _ (by rw [List.nil_append, valV_neg nCA]; rfl)]
  rw [putK_new (k := kD) _ (by rw [List.nil_append, List.cons_append, valV_neg nCD, List.nil_append, valV_neg nAD]; rfl)]
  rw [putK_new (k := kN) _ (by simp only [List.nil_append, List.cons_append]; rw [valV_neg nCN, valV_neg nAN, valV_neg nDN]; rfl)]
  rw [putK_new (k := kF) _ (by simp only [List.nil_append, List.cons_append]; rw [valV_neg nCF, valV_neg nAF, valV_neg nDF, valV_neg nNF]; rfl)]
  rfl
end
/-- a pen stands at p, its cells at l, so many draws done -/
structure Pen (H : Hp) (p l : Addr) (ns : List Int) (c : Nat) : Prop where
  ex : ∃ (a : Nat) (d f : Int), H p = some (.dK (penK l (a : Int) d (c : Int) f)) ∧ a ≤ ns.length ∧ 0 ≤ d ∧ 0 ≤ f ∧ f < 2147483648
  ls : H l = some (.lst (ns.map V.int))
theorem pen_ne {H : Hp} {p l : Addr} {ns : List Int} {c : Nat} (h : Pen H p l ns c) : p ≠ l := by
  obtain ⟨⟨a, d, f, e, _⟩, q⟩ := h
  exact ne_of e q (by intro z; cases z)
/-- all but the pen's dict stays -/
def But (p : Addr) (H H' : Hp) : Prop := ∀ b o, b ≠ p → H b = some o → H' b = some o
theorem But.refl (p : Addr) (H : Hp) : But p H H := fun _ _ _ h => h
theorem But.trans {p : Addr} {H H1 H2 : Hp} (a : But p H H1) (b : But p H1 H2) : But p H H2 := fun c o n h => b c o n (a c o n h)
theorem But.upd {p : Addr} (H : Hp) (o : HO) : But p H (L2.upd H p o) := fun b u n h => by rw [upd_ne n]; exact h
theorem But.of {p : Addr} {H H' : Hp} (s : Same H H') : But p H H' := fun b o _ h => s b o h
theorem same_upd {H : Hp} {p : Addr} {o : HO} (h : H p = none) : Same H (L2.upd H p o) := fun b x e => by
  rw [upd_ne (ne_of_none e h)]
  exact e
section
variable {P : Program} {w : World} {K : PySem.W.Frag} {mg : Str → Option Value} {base : Heap}
def spPen (K : PySem.W.Frag) : Sp := fun vs H Q _ => ∃ (a : Addr) (ns : List Int), vs = [.ref a] ∧ SqL K H a (ns.map V.int) ∧ ns.length ≤ 63 ∧
  ∀ H' p l, Same H H' → H p = none → H l = none → Pen H' p l ns 0 → Q (.ref p) H'
theorem ok_pen {f : Addr} {fd : FuncData} {k : Nat} (F : Fun K "_law_pen" "_law_pen" sPen f fd) (mi : mg "int" = none) (ml : mg "list" = none) : FnOk P w K mg base CX0 (k + 1) f fd ["_law_script"] (spPen K) := by
  refine F.ok scPen (fun vs H Q E h => ?_) (fun cdv A outer s H vs Q E hr h => ?_)
  · obtain ⟨a, ns, rfl, _⟩ := h
    rfl
  · obtain ⟨a, ns, rfl, hS, hlen, q⟩ := h
    refine ⟨_, pss_cons (ps_set (i := 1) scPen.nd rfl (.inl rfl) pe_int)
      (pss_cons (ps_for PassesOwn.never rfl (pi_list (pv 0)) (pg_name (i := 2) scPen.nd rfl (.inl rfl))
        (pss_one (ps_set (i := 1) scPen.nd rfl (.inl rfl) (pe_op op_mod (pe_callTy call_int1 (by rfl) mi (by decide +kernel) (pa_cons (pe_op op_add (pe_op op_mul (pv 1) pe_int) (pv 2)) pa_nil)) pe_int))))
      (pss_one (ps_ret (pe_disp (pps_cons pe_str (pe_callTy call_list_of (by rfl) ml (by decide +kernel) (pa_cons (pv 0) pa_nil))
        (pps_cons pe_str pe_int (pps_cons pe_str pe_int (pps_cons pe_str pe_int (pps_cons pe_str (pv 1) pps_nil))))) (by rfl) (by rfl) (fun z => by cases z) (by decide))))), ?_⟩
    refine ⟨.ref a, rfl, a, rfl, ⟨_, hS⟩, for_list (K := K) (a := a) (xs := ns.map V.int) (fun i σ H2 => ∃ (g : Int) (v : Option V), σ = [some (.ref a), some (.int g), v] ∧ H2 = H ∧ 0 ≤ g ∧ g < 1000000007)
      ⟨0, none, rfl, rfl, by decide, by decide⟩ (fun i σ H2 _ ⟨_, _, _, e, _⟩ => by rw [e]; exact hS) ?_ ?_⟩
    · rintro i y σ H2 hi ⟨g, v, rfl, rfl, g0, g1⟩
      obtain ⟨z, rfl⟩ : ∃ z, y = V.int z := by
        rw [List.getElem?_map] at hi
        cases e : ns[i]? with
        | none =>
          rw [e] at hi
          cases hi
        | some z =>
          rw [e] at hi
          exact ⟨z, (Option.some.inj hi).symm⟩
      refine ⟨.int g, rfl, _, _, rfl, rfl, .inr ⟨by decide, by decide⟩, .int z, rfl, _, _, rfl, rfl, .inl ⟨_, rfl, _, _, rfl, rfl, (by show (0 : Int) < 1000000007; decide), ?_⟩⟩
      exact ⟨(g * 47 + z) % 1000000007, some (.int z), rfl, rfl, Int.emod_nonneg _ (by decide), Int.emod_lt_of_pos _ (by decide)⟩
    · rintro σ H2 ⟨g, v, rfl, rfl, g0, g1⟩
      intro p hp
      refine ⟨.ref a, rfl, a, _, rfl, .inl ((same_upd hp).seq hS), fun l hl => ?_⟩
      have nlp : l ≠ p := fun e => by
        rw [e, upd_same] at hl
        cases hl
      have hl0 : H2 l = none := by rw [upd_ne nlp] at hl; exact hl
      refine ⟨.int g, rfl, by rw [upd_ne nlp.symm, upd_same], [(kC, .ref l), (kA, .int 0), (kD, .int 0), (kN, .int 0), (kF, .int g)], rfl, (by show 5 ≤ 15; decide), ?_⟩
      rw [merge_pen]
      refine q _ p l ?_ hp hl0 ⟨⟨0, 0, g, upd_same, Nat.zero_le _, by decide, g0, by omega⟩, ?_⟩
      · intro b o e
        have b1 : b ≠ p := ne_of_none e hp
        have b2 : b ≠ l := ne_of_none e hl0
        rw [upd_ne b1, upd_ne b2, upd_ne b1]
        exact e
      · rw [upd_ne nlp, upd_same]
end
end Pn

namespace Pn
open PySem PySem.Spec PyProof.Rows L2
theorem pget {H : Hp} {p : Addr} {kvs : List (Key × V)} {k : Key} {v : V} (e : H p = some (.dK kvs)) (h : valV kvs k = some v) : DGet H p (kV k) (some v) := by
  have q : DGet H p (kV k) (valV kvs k) := DGet.k e
  rw [h] at q
  exact q
theorem pput {H : Hp} {p : Addr} {kvs kvs' : List (Key × V)} {k : Key} {v : V} (e : H p = some (.dK kvs)) (hl : kvs.length < sizeLine) (h : putK kvs k v = kvs') : DPut H p (kV k) v (L2.upd H p (.dK kvs')) := by
  have q : DPut H p (kV k) v (L2.upd H p (.dK (putK kvs k v))) := DPut.k e hl
  rw [h] at q
  exact q
theorem penl (l : Addr) (a d n f : Int) : (penK l a d n f).length < sizeLine := by
  show 5 < sizeLine
  decide
theorem pow17 {b : Int} (h0 : 0 ≤ b) : 0 ≤ b ^ (17 : Int).toNat := Int.pow_nonneg h0
section
variable {P : Program} {w : World} {K : PySem.W.Frag} {mg : Str → Option Value} {base : Heap}
def spDraw : Sp := fun vs H Q _ => ∃ (p l : Addr) (ns : List Int) (c : Nat) (m : Int), vs = [.ref p, .int m] ∧ Pen H p l ns c ∧ ns.length ≤ 1000 ∧ c ≤ 1000000000 ∧ 1 ≤ m ∧ m ≤ 1000000 ∧
  ∀ r H', 0 ≤ r → r < m → Pen H' p l ns (c + 1) → But p H H' → Q (.int r) H'
theorem ok_draw {f : Addr} {fd : FuncData} {k : Nat} (F : Fun K "_law_draw" "_law_draw" sDraw f fd) (mi : mg "int" = none) (ml : mg "len" = none) : FnOk P w K mg base CX0 (k + 1) f fd ["_law_pen_here", "_law_many"] spDraw := by
  refine F.ok scDraw (fun vs H Q E h => ?_) (fun cdv A outer s H vs Q E hr h => ?_)
  · obtain ⟨p, l, ns, c, m, rfl, _⟩ := h
    rfl
  · obtain ⟨p, l, ns, c, m, rfl, hP, hlen, hc, m1, m2, q⟩ := h
    have hu := hu_of hr
    have npl : p ≠ l := pen_ne hP
    obtain ⟨⟨a, d, f0, e, ha, hd, hf, hf2⟩, hl⟩ := hP
    refine ⟨_, pss_cons (ps_dput hu (pv 0) pe_str (pe_op op_add (pe_dget hu (pv 0) pe_str (fun _ _ => rfl)) pe_int) rfl)
      (C8.pss_cut (ps_if (pw_and (pt_cmpR op_eq (pe_dget hu (pv 0) pe_str (fun _ _ => rfl)) pe_int (nomark _)) (pw_and1 (pt_cmpR op_lt (pe_dget hu (pv 0) pe_str (fun _ _ => rfl)) (pe_callB call_len_seq (by rfl) ml PySem.boot_len (pa_cons (pe_dget hu (pv 0) pe_str (fun _ _ => rfl)) pa_nil)) (nomark _)))).pt
        (pss_cons (ps_set (i := 2) scDraw.nd rfl (.inl rfl) (pe_ix ix_list (pe_dget hu (pv 0) pe_str (fun _ _ => rfl)) (pe_dget hu (pv 0) pe_str (fun _ _ => rfl)) (fun _ _ => rfl)))
        (pss_cons (ps_dput hu (pv 0) pe_str (pe_op op_add (pe_dget hu (pv 0) pe_str (fun _ _ => rfl)) pe_int) rfl)
        (pss_one (ps_if (pt_cmpR op_ge (pv 2) (pe_op op_pow pe_int pe_int) (nomark _))
          (pss_one (ps_dput hu (pv 0) pe_str (pe_op op_sub (pv 2) (pe_op op_pow pe_int pe_int)) rfl))
          (pss_one (ps_dput hu (pv 0) pe_str (pe_op op_mod (pe_callTy call_int1 (by rfl) mi (by decide +kernel) (pa_cons (pe_op op_add (pe_op op_mul (pe_dget hu (pv 0) pe_str (fun _ _ => rfl)) pe_int) (pv 2)) pa_nil)) pe_int) rfl))))))
        pss_nil)
      (pss_cons (ps_if (pt_cmpR op_gt (pe_dget hu (pv 0) pe_str (fun _ _ => rfl)) pe_int (nomark _))
        (pss_cons (ps_set (i := 3) scDraw.nd rfl (.inl rfl) (pe_op op_mod (pe_callTy call_int1 (by rfl) mi (by decide +kernel) (pa_cons (pe_dget hu (pv 0) pe_str (fun _ _ => rfl)) pa_nil)) (pv 1)))
        (pss_cons (ps_dput hu (pv 0) pe_str (pe_op op_fdiv (pe_dget hu (pv 0) pe_str (fun _ _ => rfl)) (pv 1)) rfl)
        (pss_one (ps_ret (pv 3)))))
        pss_nil)
      (pss_cons (ps_set (i := 4) scDraw.nd rfl (.inl rfl) (pe_op op_add (pe_op op_add (pe_dget hu (pv 0) pe_str (fun _ _ => rfl)) (pe_op op_mul (pe_dget hu (pv 0) pe_str (fun _ _ => rfl)) pe_int)) pe_int))
      (pss_one (ps_ret (pe_op op_mod (pe_op op_fdiv (pe_callTy call_int1 (by rfl) mi (by decide +kernel) (pa_cons (pe_op op_mod (pe_op op_pow (pv 4) pe_int) pe_int) pa_nil)) pe_int) (pv 1))))))), ?_⟩
    -- count
    refine ⟨.ref p, rfl, p, _, rfl, pget e (getN ..), _, _, rfl, rfl, .ref p, rfl, p, _, rfl, pput e (penl ..) (putN ..), ?_⟩
    have e1 : (L2.upd H p (.dK (penK l (a : Int) d ((c : Int) + 1) f0))) p = some (.dK (penK l (a : Int) d ((c : Int) + 1) f0)) := upd_same
    have l1 : (L2.upd H p (.dK (penK l (a : Int) d ((c : Int) + 1) f0))) l = some (.lst (ns.map V.int)) := by rw [upd_ne npl.symm]; exact hl
    have b1 : But p H (L2.upd H p (.dK (penK l (a : Int) d ((c : Int) + 1) f0))) := But.upd _ _
    generalize L2.upd H p (.dK (penK l (a : Int) d ((c : Int) + 1) f0)) = H1 at e1 l1 b1
    -- the cell
    refine ⟨fun σ H' => ∃ (v2 : Option V) (a : Nat) (d f : Int), σ = [some (.ref p), some (.int m), v2, none, none] ∧ H' p = some (.dK (penK l (a : Int) d ((c : Int) + 1) f)) ∧ a ≤ ns.length ∧ 0 ≤ d ∧ 0 ≤ f ∧ f < 2147483648 ∧ H' l = some (.lst (ns.map V.int)) ∧ But p H H', ?_, ?_⟩
    · refine ⟨.ref p, rfl, p, _, rfl, pget e1 (getD ..), rfl, _, rfl, ?_⟩
      refine ite2 (fun hd0 => ?_) (fun _ => ?_)
      · refine ⟨.ref p, rfl, p, _, rfl, pget e1 (getA ..), .ref p, rfl, p, _, rfl, pget e1 (getC ..), l, _, rfl, .inl (.inl (.inl l1)), _, _, rfl, rfl, _, rfl, ?_⟩
        refine ite2 (fun hlt => ?_) (fun _ => ?_)
        · have hlt' : (a : Int) < ((ns.map V.int).length : Int) := of_decide_eq_true hlt
          have hlt2 : a < ns.length := by
            rw [List.length_map] at hlt'
            omega
          have hz : (ns.map V.int)[a]? = some (.int ns[a]) := by
            rw [List.getElem?_map, List.getElem?_eq_getElem hlt2]
            rfl
          refine ⟨.ref p, rfl, p, _, rfl, pget e1 (getC ..), .ref p, rfl, p, _, rfl, pget e1 (getA ..), l, _, _, _, rfl, rfl, .inl (.inl l1), atI_nat hz, ?_⟩
          refine ⟨.ref p, rfl, p, _, rfl, pget e1 (getA ..), _, _, rfl, rfl, .ref p, rfl, p, _, rfl, pput e1 (penl ..) (putA ..), ?_⟩
          have e2 : (L2.upd H1 p (.dK (penK l ((a : Int) + 1) d ((c : Int) + 1) f0))) p = some (.dK (penK l ((a + 1 : Nat) : Int) d ((c : Int) + 1) f0)) := upd_same
          have l2 : (L2.upd H1 p (.dK (penK l ((a : Int) + 1) d ((c : Int) + 1) f0))) l = some (.lst (ns.map V.int)) := by rw [upd_ne npl.symm]; exact l1
          have b2 : But p H (L2.upd H1 p (.dK (penK l ((a : Int) + 1) d ((c : Int) + 1) f0))) := b1.trans (But.upd _ _)
          generalize L2.upd H1 p (.dK (penK l ((a : Int) + 1) d ((c : Int) + 1) f0)) = H2 at e2 l2 b2
          refine ⟨.int ns[a], rfl, _, _, rfl, rfl, ⟨by decide, by decide, by decide⟩, _, _, rfl, rfl, _, rfl, ?_⟩
          refine ite2 (fun hbig => ?_) (fun _ => ?_)
          · have hb : (10 : Int) ^ (18 : Int).toNat ≤ ns[a] := of_decide_eq_true hbig
            refine ⟨.int ns[a], rfl, _, _, rfl, rfl, ⟨by decide, by decide, by decide⟩, _, _, rfl, rfl, .ref p, rfl, p, _, rfl, pput e2 (penl ..) (putD ..), ?_⟩
            exact ⟨_, a + 1, _, f0, rfl, upd_same, hlt2, by omega, hf, hf2, by rw [upd_ne npl.symm]; exact l2, b2.trans (But.upd _ _)⟩
          · refine ⟨.ref p, rfl, p, _, rfl, pget e2 (getF ..), _, _, rfl, rfl, .inr ⟨by decide, by decide⟩, .int ns[a], rfl, _, _, rfl, rfl, .inl ⟨_, rfl, _, _, rfl, rfl, (by show (0 : Int) < 2147483587; decide), .ref p, rfl, p, _, rfl, pput e2 (penl ..) (putF' ..), ?_⟩⟩
            refine ⟨_, a + 1, d, _, rfl, upd_same, hlt2, hd, Int.emod_nonneg _ (by decide), Int.lt_trans (Int.emod_lt_of_pos _ (by decide)) (by decide), by rw [upd_ne npl.symm]; exact l2, b2.trans (But.upd _ _)⟩
        · exact ⟨none, a, d, f0, rfl, e1, ha, hd, hf, hf2, l1, b1⟩
      · refine iteF ?_
        exact ⟨none, a, d, f0, rfl, e1, ha, hd, hf, hf2, l1, b1⟩
    · rintro σ' H2 ⟨v2, a, d, f0, rfl, e2, ha, hd, hf, hf2, l2, b2⟩
      refine ⟨.ref p, rfl, p, _, rfl, pget e2 (getD ..), _, _, rfl, rfl, _, rfl, ?_⟩
      refine ite2 (fun _ => ?_) (fun _ => ?_)
      · refine ⟨.ref p, rfl, p, _, rfl, pget e2 (getD ..), .inl ⟨_, rfl, .int m, rfl, _, _, rfl, rfl, (by show 0 < m; omega), ?_⟩⟩
        refine ⟨.ref p, rfl, p, _, rfl, pget e2 (getD ..), .int m, rfl, _, _, rfl, rfl, ⟨(by omega), (by omega)⟩, .ref p, rfl, p, _, rfl, pput e2 (penl ..) (putD ..), ?_⟩
        refine ⟨.int (d % m), rfl, ?_⟩
        refine q _ _ (Int.emod_nonneg _ (by omega)) (Int.emod_lt_of_pos _ (by omega)) ⟨⟨a, d / m, f0, upd_same, ha, Int.ediv_nonneg hd (by omega), hf, hf2⟩, by rw [upd_ne npl.symm]; exact l2⟩ (b2.trans (But.upd _ _))
      · refine ⟨.ref p, rfl, p, _, rfl, pget e2 (getF ..), .ref p, rfl, p, _, rfl, pget e2 (getN ..), _, _, rfl, rfl, .inr ⟨by decide, by decide⟩, _, _, rfl, rfl, _, _, rfl, rfl, ?_⟩
        refine ⟨.int (f0 + ((c : Int) + 1) * 7907 + 43), rfl, _, _, rfl, rfl, ⟨by decide, by decide, by omega⟩, _, _, rfl, rfl, (by show (0 : Int) < 2305843009213693951; decide), .inl ⟨_, rfl, _, _, rfl, rfl, ⟨by decide, by decide⟩, .int m, rfl, _, _, rfl, rfl, (by show 0 < m; omega), ?_⟩⟩
        exact q _ _ (Int.emod_nonneg _ (by omega)) (Int.emod_lt_of_pos _ (by omega)) ⟨⟨a, d, f0, e2, ha, hd, hf, hf2⟩, l2⟩ b2
def spPick (K : PySem.W.Frag) : Sp := fun vs H Q _ => ∃ (p l s : Addr) (ns : List Int) (c : Nat) (xs : List V), vs = [.ref p, .ref s] ∧ Pen H p l ns c ∧ ns.length ≤ 1000 ∧ c ≤ 1000000000 ∧ (SqL K H s xs ∨ SqT K H s xs) ∧ xs ≠ [] ∧ xs.length ≤ 1000000 ∧ s ≠ p ∧
  ∀ x H', x ∈ xs → Pen H' p l ns (c + 1) → But p H H' → Q x H'
theorem But.sq {H H' : Hp} {p s : Addr} {xs : List V} (b : But p H H') (n : s ≠ p) (h : SqL K H s xs) : SqL K H' s xs := by
  rcases h with (h | ⟨o, h⟩) | h
  · exact .inl (.inl (b _ _ n h))
  · exact .inl (.inr ⟨o, b _ _ n h⟩)
  · exact .inr h
end
end Pn

namespace Pn
open PySem PySem.Spec PyProof.Rows L2
theorem ix_or {X : Cx} : IxR X (fun x y H Q => rIxL X.K x y H Q ∨ rIxT X.K x y H Q) := ix_list.or ix_tup
section
variable {P : Program} {w : World} {K : PySem.W.Frag} {mg : Str → Option Value} {base : Heap}
theorem ok_pick {f fD : Addr} {fd fdD : FuncData} {k : Nat} (F : Fun K "_law_pick" "_law_pick" sPick f fd) (G : FnOk P w K mg base CX0 (k + 1) fD fdD ["_law_pen_here", "_law_many"] spDraw) (gD : mg "_law_draw" = some (.ref fD)) (kD : PySem.W.keepIn K (.ref fD) = true) (bD : Binds K fdD ["_law_pen_here", "_law_many"] [])
    (ml : mg "len" = none) : FnOk P w K mg base CX0 (k + 2) f fd ["_law_pen_here", "_law_some"] (spPick K) := by
  refine F.ok scPick (fun vs H Q E h => ?_) (fun cdv A outer s H vs Q E hr h => ?_)
  · obtain ⟨p, l, s, ns, c, xs, rfl, _⟩ := h
    rfl
  · obtain ⟨p, l, s, ns, c, xs, rfl, hP, hlen, hc, hS, hne, hx, hsp, q⟩ := h
    refine ⟨_, pss_one (ps_ret (pe_ix ix_or (pv 1) (pe_call G hr (by rfl) gD kD bD .nil pass0 (pa_cons (pv 0) (pa_cons (pe_callB call_len_seq (by rfl) ml PySem.boot_len (pa_cons (pv 1) pa_nil)) pa_nil))) (fun _ _ => rfl))), ?_⟩
    have hpos : 1 ≤ xs.length := by
      cases xs with
      | nil => exact absurd rfl hne
      | cons x r => rw [List.length_cons]; omega
    refine ⟨.ref s, rfl, .ref p, rfl, .ref s, rfl, s, xs, rfl, hS, p, l, ns, c, _, rfl, hP, hlen, hc, by omega, by omega, fun r H' r0 r1 hP' b' => ?_⟩
    obtain ⟨j, rfl⟩ : ∃ j : Nat, r = (j : Int) := ⟨r.toNat, by omega⟩
    have hj : j < xs.length := by omega
    have hg : xs[j]? = some xs[j] := List.getElem?_eq_getElem hj
    rcases hS with hS | hS
    · exact .inl ⟨s, xs, _, _, rfl, rfl, b'.sq hsp hS, atI_nat hg, q _ _ (List.getElem_mem hj) hP' b'⟩
    · refine .inr ⟨s, xs, _, _, rfl, rfl, ?_, atI_nat hg, q _ _ (List.getElem_mem hj) hP' b'⟩
      rcases hS with (h | ⟨o, h⟩) | h
      · exact .inl (.inl (b' _ _ hsp h))
      · exact .inl (.inr ⟨o, b' _ _ hsp h⟩)
      · exact .inr h
end
end Pn

/-! Drawn terms. -/
namespace Ad
open PySem PySem.Spec PySem.Calls PyProof.Rows L2
/-- a row: name, number of arguments, weight -/
abbrev Row := Str × Nat × Int
def RowV (K : PySem.W.Frag) (H : Hp) (r : Row) (v : V) : Prop := ∃ b, v = .ref b ∧ SqT K H b [.str r.1, .int (r.2.1 : Int), .int r.2.2]
def RowsAt (K : PySem.W.Frag) (H : Hp) (a : Addr) (R : List Row) : Prop := ∃ b y vs, SqT K H a [.ref b, y] ∧ SqT K H b vs ∧ F2 (RowV K H) R vs
theorem RowV.mono {K : PySem.W.Frag} {H H' : Hp} (k : TK H H') (r : Row) (v : V) (h : RowV K H r v) : RowV K H' r v := by
  obtain ⟨b, e, s⟩ := h
  exact ⟨b, e, k.sq s⟩
theorem RowsAt.mono {K : PySem.W.Frag} {H H' : Hp} (k : TK H H') {a : Addr} {R : List Row} (h : RowsAt K H a R) : RowsAt K H' a R := by
  obtain ⟨b, y, vs, s1, s2, f⟩ := h
  exact ⟨b, y, vs, k.sq s1, k.sq s2, f.mono (RowV.mono k)⟩
/-- rows to draw from: names that can be laid, at most three arguments, one without any -/
structure ROk (R : List Row) : Prop where
  names : ∀ r ∈ R, nameOk r.1 = true ∧ r.2.1 ≤ 3
  const : ∃ (j : Nat) (r : Row), R[j]? = some r ∧ r.2.1 = 0
  few : R.length ≤ 1000
def sz : Nat → Nat
  | 0 => 1
  | d + 1 => 1 + 3 * sz d
def dn : Nat → Nat
  | 0 => 2
  | d + 1 => 2 + 3 * dn d
theorem two_dn : ∀ d, 2 ≤ dn d
  | 0 => Nat.le_refl _
  | _ + 1 => Nat.le_add_right _ _
theorem one_sz : ∀ d, 1 ≤ sz d
  | 0 => Nat.le_refl _
  | _ + 1 => Nat.le_add_right _ _
namespace Kb
mutual
/-- all names with their arities stand in the rows -/
def Wf (rk : List Row) : T → Prop
  | .v _ => True
  | .f x ts => (∃ r ∈ rk, r.1 = x ∧ r.2.1 = ts.length) ∧ WfL rk ts
def WfL (rk : List Row) : List T → Prop
  | [] => True
  | t :: ts => Wf rk t ∧ WfL rk ts
end
theorem wfL_of {rk : List Row} : ∀ {ts : List T}, (∀ t ∈ ts, Wf rk t) → WfL rk ts
  | [], _ => True.intro
  | t :: ts, h => ⟨h t (List.mem_cons_self ..), wfL_of fun u hu => h u (List.mem_cons_of_mem _ hu)⟩
mutual
theorem Wf.mono {rk rl : List Row} (h : ∀ r ∈ rk, r ∈ rl) : ∀ {t : T}, Wf rk t → Wf rl t
  | .v _, _ => True.intro
  | .f x ts, ⟨⟨r, hr, e⟩, k⟩ => ⟨⟨r, h r hr, e⟩, WfL.mono h k⟩
theorem WfL.mono {rk rl : List Row} (h : ∀ r ∈ rk, r ∈ rl) : ∀ {ts : List T}, WfL rk ts → WfL rl ts
  | [], _ => True.intro
  | t :: ts, ⟨a, b⟩ => ⟨Wf.mono h a, WfL.mono h b⟩
end
end Kb
/-- a drawn term of a depth, its variables below a number -/
structure DT (R : List Row) (deep : Nat) (nv : Int) (t : T) : Prop where
  named : t.named = true
  dep : t.dep ≤ deep + 1
  size : t.size ≤ sz deep
  vars : ∀ j ∈ t.vars, 0 ≤ j ∧ j < nv
  wf : Kb.Wf R t
theorem pen_tk {H H' : Hp} {p l : Addr} {ns : List Int} {c : Nat} (P : Pn.Pen H p l ns c) (b : Pn.But p H H') : TK H H' := by
  obtain ⟨⟨a, d, f, e, _⟩, _⟩ := P
  intro q xs
  refine ⟨fun h => b _ _ (fun z => ?_) h, fun o h => b _ _ (fun z => ?_) h⟩
  · rw [z, e] at h
    cases h
  · rw [z, e] at h
    cases h
theorem pen_same {H H' : Hp} {p l : Addr} {ns : List Int} {c : Nat} (P : Pn.Pen H p l ns c) (s : Same H H') : Pn.Pen H' p l ns c := by
  obtain ⟨⟨a, d, f, e, r⟩, h⟩ := P
  exact ⟨⟨a, d, f, s _ _ e, r⟩, s _ _ h⟩
def spDrawn (K : PySem.W.Frag) (n : Nat) : Sp := fun vs H Q _ => ∃ (p l ra : Addr) (ns : List Int) (c deep : Nat) (nv : Int) (R : List Row), vs = [.ref p, .ref ra, .int (deep : Int), .int nv] ∧ Pn.Pen H p l ns c ∧ ns.length ≤ 1000 ∧ c + dn deep ≤ 1000000000 ∧ RowsAt K H ra R ∧ ROk R ∧
  deep < n ∧ 0 ≤ nv ∧ nv ≤ 1000 ∧ ∀ t v H' c', Tm K H' t v → DT R deep nv t → c' ≤ c + dn deep → Pn.Pen H' p l ns c' → Pn.But p H H' → Q v H'
end Ad

/-! dict(t) of a tuple of pairs. -/
namespace Dt
open PySem PySem.Spec PySem.Calls PyProof.Rows L2
theorem tuple_keys_none : typeLookup (.type "tuple") "keys" = pure none := am_miss_of_fast (by first | decide +kernel | rfl)
section
variable {prog : Program} {w : World} {A : Around} {E : Value → Shared → Prop}
/-- a tuple has no attribute 'keys' -/
theorem no_keys {s : Shared} {a : Addr} {o : Obj} {xs : Array Value} {k : Nat} {Q : Option Value → Shared → Prop} (hx : s.heap.get? a = some o) (hc : o.cls = .type "tuple") (hdat : o.data = .seq xs k) (hd : o.dict = none) (hA : A.handled = none)
    (h : ∀ h' tk, (∀ b ob, s.heap.get? b = some ob → h'.get? b = some ob) → Q none { s with heap := h', toks := tk }) : wpAny (model prog w) A (getAttr? (.ref a) "keys") Q E s := by
  obtain ⟨c, dct, dat, sl⟩ := o
  simp only at hc hdat hd
  subst hc hdat hd
  obtain ⟨hp, g, d, tk, os⟩ := s
  have isT : ∀ tk', (⟨hp, g, d, tk', os⟩ : Shared).TypeIs (.ref a) "tuple" := fun _ => ⟨_, hx, rfl⟩
  have g1 := tuple_keys_none
  have g2 : (["__module__", "__name__", "__qualname__", "__doc__", "__annotations__"] : List Str).contains "keys" = false := by decide +kernel
  have g3 : ("keys" : Str).length + 100 ≤ sizeLine := by first | size_fits | decide +kernel
  have g4 := sub_AttributeError
  have g5 := PySem.F.slot_tuple_getattribute.lookup
  have g6 := PySem.F.slot_tuple_getattribute.bind (.ref a)
  have g7 := am_tuple_getattr_none
  unfold getAttr? getAttrBy? getAttrBy
  repeat (any_goals (first | assumption | exact isT _ | ((with_reducible show wpAny _ _ (call (Value.builtin "tuple.__getattribute__") _ _) _ _ _); refine call_meets PySem.F.slot_tuple_getattribute (isT _) am_entry_tuple_getattribute (PySem.F.args_tuple_getattribute_2 _ _) (meets_getattribute_miss_tuple a xs k sl "keys" _ g1 g2 g3) ⟨hx, hA, fun h' tk' e hx' => ?_⟩) | wp_step))
  obtain ⟨t', u', he⟩ := hx'.there
  show wpAny _ _ (getattributeRaised _ _ _ _ _ _ _) _ _ _
  unfold getattributeRaised
  repeat (any_goals (first | assumption | wp_step))
  all_goals first | exact h _ _ hx'.keeps | (dsimp only; repeat (any_goals (first | assumption | exact h _ _ hx'.keeps | wp_step)))
theorem walk {R : Result → Shared → Prop} {S I l : Addr} {items : Array Value} {res : Value} (hh : A.handled = none) (lI : l ≠ I) (sI : S ≠ I) (sl : S ≠ l) :
    ∀ (rest : List (L2.Key × Value)) (i : Nat) (acc : List (L2.Key × Value)) (ix : Int) (t : Tok) (s : Shared), items.size = i + rest.length → acc.length + rest.length ≤ sizeLine →
      (∀ (j : Nat) (q : L2.Key × Value), rest[j]? = some q → ∃ (b : Addr) (u : Value), items[i + j]? = some (.ref b) ∧ b ≠ S ∧ b ≠ I ∧ IsTup s.heap b #[u, q.2] ∧ keyIs q.1 u = true) →
      s.heap.IsTupleIter I l i → s.heap.IsTuple l items → s.heap.DictOf (mixKind prog w) S acc →
      (∀ h' tk, h'.DictOf (mixKind prog w) S (merged acc rest) → (∀ b o, b ≠ S → b ≠ I → s.heap.get? b = some o → h'.get? b = some o) → R (.ok (.ret res)) { s with heap := h', toks := tk }) →
      codeAny (model prog w) A (.builtin "dict.update.loop" ⟨[.ref S, .ref I, .int ix t, res], []⟩) R s
  | [], i, acc, ix, t, s, hsz, hln, ht, hit, hl, hm, hR => by
    refine codeAny_builtin ud_entry ?_
    rw [Around.under_plainId ud_plain _]
    show wpAny _ A.in1 (pyNext (.ref I) >>= _) _ _ s
    refine wpAny_bind (wpAny_pyNext_tuple_end (A := A.in1) hh hit hl (by first | exact Array.getElem?_eq_none (Nat.le_of_eq hsz) | (simp at hsz; simp; omega)) fun h' he => ?_)
    show wpAny _ A.in1 (Builtin.Dict.addKeywords S [] >>= _) _ _ _
    refine wpAny_bind (wpAny_pure (wpAny_pure ?_))
    exact hR h' s.toks (hm.extBut he sI) fun b o _ hb e => he b o hb e
  | q :: rest, i, acc, ix, t, s, hsz, hln, ht, hit, hl, hm, hR => by
    obtain ⟨b, u, hb, hbS, hbI, htup, hk⟩ := ht 0 q rfl
    rw [List.length_cons] at hsz hln
    refine codeAny_builtin ud_entry ?_
    rw [Around.under_plainId ud_plain _]
    show wpAny _ A.in1 (pyNext (.ref I) >>= _) _ _ s
    refine wpAny_bind (wpAny_pyNext_tuple_item (x := .ref b) hit hl (by simpa using hb) fun h1 hit1 hs1 => ?_)
    have tup1 : IsTup h1 b #[u, q.2] := htup.extBut hs1.extBut hbI
    have hl1 : h1.IsTuple l items := by
      obtain ⟨o, e, r⟩ := id hl
      exact ⟨o, hs1.extBut l o lI e, r⟩
    have hm1 : h1.DictOf (mixKind prog w) S acc := hm.extBut hs1.extBut sI
    obtain ⟨o, ho, hc, n, hd⟩ := id tup1
    show wpAny _ A.in1 (holding [Value.ref b] _ >>= _) _ _ _
    refine wpAny_bind (wpAny_holding (wpAny_bind (wpAny_tryCatch ?_)))
    unfold Builtin.Dict.pairItems
    refine wpAny_bind (wpAny_typeOf (T := "tuple") ⟨o, ho, hc⟩ ?_)
    rw [if_pos (by first | decide | rfl | simp)]
    refine wpAny_bind (wpAny_seqItems ho hd (wpAny_pure ?_))
    show wpAny _ A.in1 (holding [u, q.2] (dictSet S u q.2)) _ _ _
    refine wpAny_holding (wpAny_dictSet_pairs (knd := mixKind prog w) (k := q.1) hk hm1 (fun h2 hm2 hs2 => ?_) (by omega))
    refine wpAny_pure ⟨plainId_quiet ud_plain _, walk (items := items) hh lI sI sl rest (i + 1) (stored acc q.1 q.2) (ix + 1) 0 _ (show items.size = i + 1 + rest.length by omega) ?_ (fun j q' e => ?_) ?_ ?_ hm2 fun h' tk hd' k => ?_⟩
    · have z := stored_length_le acc q.1 q.2
      omega
    · obtain ⟨b', u', hb', hbS', hbI', htup', hk'⟩ := ht (j + 1) q' (by simpa using e)
      refine ⟨b', u', ?_, hbS', hbI', (htup'.extBut hs1.extBut hbI').extBut hs2.extBut hbS', hk'⟩
      rw [show i + 1 + j = i + (j + 1) by omega]
      exact hb'
    · exact hit1.at fun o' e => hs2.extBut I o' (Ne.symm sI) e
    · obtain ⟨o', e, r⟩ := id hl1
      exact ⟨o', hs2.extBut l o' (Ne.symm sl) e, r⟩
    · exact hR h' tk hd' fun c oc h3 h4 e => k c oc h3 h4 (hs2.extBut c oc h3 (hs1.extBut c oc h4 e))
theorem new_dict {s : Shared} {l : Addr} {ol : Obj} {items : Array Value} {n : Nat} {prs : List (L2.Key × Value)} {Q : Value → Shared → Prop} (hh : A.handled = none) (hl : s.heap.get? l = some ol) (hc : ol.cls = .type "tuple") (hd : ol.dict = none)
    (hdat : ol.data = .seq items n) (hsz : items.size = prs.length) (hln : prs.length ≤ sizeLine)
    (ht : ∀ (j : Nat) (q : L2.Key × Value), prs[j]? = some q → ∃ (b : Addr) (u : Value), items[j]? = some (.ref b) ∧ IsTup s.heap b #[u, q.2] ∧ keyIs q.1 u = true)
    (h : ∀ h' tk, h'.DictOf (mixKind prog w) s.heap.objs.size (merged [] prs) → (∀ b o, s.heap.get? b = some o → h'.get? b = some o) → Q (.ref s.heap.objs.size) { s with heap := h', toks := tk }) :
    wpAny (model prog w) A (call (.type "dict") [.ref l]) Q E s := by
  refine callType_codes (Q₁ := fun v sA => v = .ref s.heap.objs.size ∧ sA = { s with heap := s.heap.push { cls := .type "dict", data := .dict #[] } }) PySem.F.kt_called_dict (PySem.F.kt_typeCall_dict_1 _) PySem.F.entry_dict_init (kt_code_dict_new _ ⟨rfl, rfl⟩) ?_
  rintro v sA ⟨rfl, rfl⟩
  have made : (s.heap.push { cls := .type "dict", data := .dict #[] }).DictOf (mixKind prog w) s.heap.objs.size [] := Heap.DictOf.new s.heap
  have k0 : ∀ b o, s.heap.get? b = some o → (s.heap.push { cls := .type "dict", data := .dict #[] }).get? b = some o := fun b o e => Heap.get?_push_of_some _ e
  refine ⟨made.typeIs, PySem.F.args_dict_init_2 _ _, ?_⟩
  unfold Builtin.«dict.__init__»
  refine wpAny_bind ?_
  unfold Builtin.Dict.selfAndRest
  refine wpAny_bind (wpAny_notOrdered_dict made.typeIs ?_)
  show wpAny _ _ (pure (s.heap.objs.size, [Value.ref l])) _ _ _
  refine wpAny_pure ?_
  show wpAny _ _ (Builtin.Dict.updateFrom "dict.__init__" s.heap.objs.size (.ref l) [] .none) _ _ _
  unfold Builtin.Dict.updateFrom
  refine wpAny_bind (wpAny_typeOf (T := "tuple") ⟨ol, k0 _ _ hl, hc⟩ ?_)
  rw [if_pos (by first | decide | rfl | simp)]
  refine wpAny_bind (no_keys (k0 _ _ hl) hc hdat hd hh fun h1 tk1 hk1 => ?_)
  rw [if_pos (show (none : Option Value).isNone = true from rfl)]
  refine wpAny_bind (wpAny_rule ?_)
  have hl1 : h1.IsTuple l items := ⟨ol, hk1 _ _ (k0 _ _ hl), hc, n, hdat⟩
  have hS1 : s.heap.objs.size < h1.objs.size := by
    have e : (s.heap.push { cls := .type "dict", data := .dict #[] }).get? s.heap.objs.size = some { cls := .type "dict", data := .dict #[] } := Heap.get?_push_size _ rfl
    exact Heap.lt_size (hk1 _ _ e)
  refine wpAny_bind (wpAny_pyIter_tuple hl1 ?_)
  have k2 : ∀ b o, h1.get? b = some o → (h1.push { cls := .type "tuple_iterator", data := .fields #[.ref l, .int 0 0] }).get? b = some o := fun b o e => Heap.get?_push_of_some _ e
  have low : l < s.heap.objs.size := Heap.lt_size hl
  have key := walk (prog := prog) (w := w) (A := A.in1) (R := wants (fun r sB => r = .none ∧ Q (.ref s.heap.objs.size) sB) E) (S := s.heap.objs.size) (I := h1.objs.size) (l := l) (items := items) (res := Value.none) hh
    (Nat.ne_of_lt (Nat.lt_trans low hS1)) (Nat.ne_of_lt hS1) (Nat.ne_of_gt low) prs 0 [] 0 0
    { s with heap := h1.push { cls := .type "tuple_iterator", data := .fields #[.ref l, .int 0 0] }, toks := tk1 } (by rw [hsz, Nat.zero_add]) (by rw [List.length_nil, Nat.zero_add]; exact hln)
    (fun j q e => by
      obtain ⟨b, u, e1, e2, e3⟩ := ht j q e
      have hb : b < s.heap.objs.size := e2.lt
      exact ⟨b, u, by rw [Nat.zero_add]; exact e1, Nat.ne_of_lt hb, Nat.ne_of_lt (Nat.lt_trans hb hS1), e2.keeps fun c o z => k2 _ _ (hk1 _ _ (k0 _ _ z)), e3⟩)
    ⟨_, Heap.get?_push_size _ rfl, rfl, rfl⟩ (by
      obtain ⟨o', e, r⟩ := id hl1
      exact ⟨o', k2 _ _ e, r⟩) ((made.at fun o e => hk1 _ _ e).at fun o e => k2 _ _ e)
    (fun h' tk hd' k => ⟨rfl, h h' tk hd' fun b o e => k b o (Nat.ne_of_lt (Heap.lt_size e)) (Nat.ne_of_lt (Nat.lt_trans (Heap.lt_size e) hS1)) (k2 _ _ (hk1 _ _ (k0 _ _ e)))⟩)
  first
    | exact wpAny_pure ⟨plainId_quiet ud_plain _, key⟩
    | exact wpAny_bind (wpAny_pure (wpAny_pure ⟨plainId_quiet ud_plain _, key⟩))
end
/-- a tuple whose object is known: it bears no dict of its own -/
def Tup0 (H : Hp) (a : Addr) (xs : List V) : Prop := ∃ o : Obj, H a = some (.frz o (.tup xs)) ∧ o.dict = none
theorem Tup0.sq {K : PySem.W.Frag} {H : Hp} {a : Addr} {xs : List V} (h : Tup0 H a xs) : SqT K H a xs := by
  obtain ⟨o, e, _⟩ := h
  exact .inl (.inr ⟨o, e⟩)
section
variable {X : Cx}
/-- dict(t), t a tuple of pairs -/
theorem call_dictT (calm : X.calm = true) : CallR X (.type "dict") (fun xs H Q => ∃ (a : Addr) (ps : List Addr) (kvs : List (L2.Key × V)), xs = [.ref a] ∧ Tup0 H a (ps.map V.ref) ∧ Paired (fun p kv => SqT X.K H p [kV kv.1, kv.2]) ps kvs ∧
    ∀ p, H p = none → Q (.ref p) (upd H p (.dK (mergeK [] kvs)))) := by
  intro pins s σ H xs us Q I r q
  obtain ⟨a, ps, kvs, rfl, ⟨o, e, hd⟩, hp, q⟩ := q
  rw [Vals.ref1 r]
  obtain ⟨ho, hz, its, rv, ⟨o', ho', hc, n, hdat⟩⟩ := (show ObjOk X.prog X.w H s.heap a (.frz o (.tup (ps.map V.ref))) from I.hok a _ e)
  rw [ho] at ho'
  cases ho'
  have ei := refs_at rv
  subst ei
  rw [List.length_map] at hz
  obtain ⟨prs, rel, hl, hpr⟩ := pairs_of I hp
  refine new_dict (prs := prs) (I.ok.hd calm) ho hc hd hdat (by simp [hl]) (by rw [hl]; exact hz) (fun j q' e => ?_) fun h' tk hd' k => ?_
  · obtain ⟨b, u, e1, e2, e3⟩ := hpr j q' e
    exact ⟨b, u, by simp [e1], e2, e3⟩
  · have hm : (s.heap.objs.size == sysModules) = false := beq_eq_false_iff_ne.mpr (Nat.ne_of_gt I.big)
    have short : (mergeK [] kvs).length ≤ sizeLine := by
      refine Nat.le_trans (length_mergeK kvs []) ?_
      rw [List.length_nil, Nat.zero_add, rel.length, hl]
      exact hz
    exact ⟨.ref s.heap.objs.size, upd H s.heap.objs.size (.dK (mergeK [] kvs)), I.laid (t' := tk) k (Nat.le_refl _) (show ObjOk X.prog X.w _ _ _ (.dK (mergeK [] kvs)) from ⟨short, hm, merged [] prs, KV.merge rel .nil, hd'⟩), rfl, q _ (I.hok.fresh (Nat.le_refl _))⟩
/-- (a, b, ..), its object known -/
def tTup0 (t : TA) : TE := fun σ H Q => t σ H fun xs G => xs.length ≤ sizeLine ∧ ∀ p o, G p = none → o.dict = none → Q (.ref p) (upd G p (.frz o (.tup xs)))
theorem pe_tup0 {es : List Expr} {t : TA} {x1 : Nat} {pos : Pos} (h : PA X es t) : PE X (.Tuple es x1 pos) (tTup0 t) := by
  refine ⟨fun pins s σ H Q I hq => ?_⟩
  refine wpAny_Tuple_spliced (thn (h.run pos pins s σ H _ I hq) fun us s1 ⟨xs, H1, I1, r, z, q⟩ => ⟨by rw [← r.length]; exact z, ?_⟩)
  refine ⟨.ref s1.heap.objs.size, _, I1.laid (t' := s1.toks) (o := .frz { cls := .type "tuple", data := .seq us.toArray } (.tup xs)) (fun b u e => Heap.get?_push_of_some _ e) (Nat.le_refl _) ?_, rfl, q _ _ (I1.hok.fresh (Nat.le_refl _)) rfl⟩
  exact ⟨Heap.get?_push_size _ rfl, z, us, r, ⟨_, Heap.get?_push_size _ rfl, rfl, _, rfl⟩⟩
/-- tuple(xs) of a list, its object known -/
theorem call_tuple0 : CallR X (.type "tuple") (fun xs H Q => ∃ p ys, xs = [.ref p] ∧ SqL X.K H p ys ∧ ∀ q o, H q = none → o.dict = none → Q (.ref q) (upd H q (.frz o (.tup ys)))) := by
  intro pins s σ H xs us Q I r h
  obtain ⟨p, ys, rfl, hq, q⟩ := h
  rw [Vals.ref1 r]
  obtain ⟨its, r', pl, hz⟩ := I.list hq
  have len := r'.length
  refine call_tuple_list pl.isList (fun h' kp => ?_) (by simp only [List.size_toArray] <;> omega)
  have I1 : Inv X pins σ H { s with heap := h' } := I.kept (t' := s.toks) kp
  refine ⟨.ref h'.objs.size, _, I1.laid (t' := s.toks) (o := .frz { cls := .type "tuple", data := .seq its.toArray } (.tup ys)) (fun b o e => Heap.get?_push_of_some _ e) (Nat.le_refl _) ?_, rfl, q _ _ (I1.hok.fresh (Nat.le_refl _)) rfl⟩
  exact ⟨Heap.get?_push_size _ rfl, hz, its, r', IsTup.new _ _⟩
end
end Dt

/-! Substitutions. -/
namespace Ad
open PySem PySem.Spec PySem.Calls PyProof.Rows L2
abbrev Sb := List (Int × T)
namespace Sb
def look : Sb → Int → Option T
  | [], _ => none
  | (j, t) :: r, i => if j = i then some t else look r i
def put (tb : Sb) (i : Int) (t : T) : Sb := if (look tb i).isSome = true then tb.map (fun e => if e.1 = i then (e.1, t) else e) else tb ++ [(i, t)]
/-- what a variable becomes -/
def asg (tb : Sb) (i : Int) : T := (look tb i).getD (.v i)
theorem look_app (tb : Sb) (i : Int) (t : T) (j : Int) : look (tb ++ [(i, t)]) j = match look tb j with
    | some u => some u
    | none => if i = j then some t else none := by
  induction tb with
  | nil => rfl
  | cons e r ih =>
    obtain ⟨k, u⟩ := e
    show (if k = j then some u else look (r ++ [(i, t)]) j) = match (if k = j then some u else look r j) with | some u => some u | none => _
    by_cases h : k = j
    · rw [if_pos h, if_pos h]
    · rw [if_neg h, if_neg h, ih]
theorem look_map (tb : Sb) (i : Int) (t : T) (j : Int) : look (tb.map (fun e => if e.1 = i then (e.1, t) else e)) j = if i = j ∧ (look tb j).isSome = true then some t else look tb j := by
  induction tb with
  | nil =>
    rw [if_neg (by intro h; cases h.2)]
    rfl
  | cons e r ih =>
    obtain ⟨k, u⟩ := e
    show look ((if k = i then (k, t) else (k, u)) :: _) j = _
    by_cases h : k = i
    · rw [if_pos h]
      show (if k = j then some t else look (r.map _) j) = if i = j ∧ (if k = j then some u else look r j).isSome = true then some t else (if k = j then some u else look r j)
      by_cases hj : k = j
      · rw [if_pos hj, if_pos hj, if_pos ⟨h.symm.trans hj, rfl⟩]
      · have ne : ¬ i = j := fun z => hj (h.trans z)
        rw [if_neg hj, if_neg hj, ih]
    · rw [if_neg h]
      show (if k = j then some u else look (r.map _) j) = if i = j ∧ (if k = j then some u else look r j).isSome = true then some t else (if k = j then some u else look r j)
      by_cases hj : k = j
      · rw [if_pos hj, if_pos hj, if_neg (fun z => h (hj.trans z.1.symm))]
      · rw [if_neg hj, if_neg hj, ih]
theorem look_put (tb : Sb) (i : Int) (t : T) (j : Int) : look (put tb i t) j = if i = j then some t else look tb j := by
  unfold put
  by_cases h : (look tb i).isSome = true
  · rw [if_pos h, look_map]
    by_cases e : i = j
    · subst e
      rw [if_pos ⟨rfl, h⟩, if_pos rfl]
    · rw [if_neg (fun z => e z.1), if_neg e]
  · rw [if_neg h, look_app]
    by_cases e : i = j
    · subst e
      rw [if_pos rfl]
      cases z : look tb i with
      | none =>
        show some t = if i = i then some t else none
        exact (if_pos rfl).symm
      | some u =>
        rw [z] at h
        exact absurd rfl h
    · rw [if_neg e, if_neg e]
      cases look tb j <;> rfl
theorem look_key (tb : Sb) (i : Int) : (look tb i).isSome = true ↔ i ∈ tb.map (·.1) := by
  induction tb with
  | nil => exact ⟨(fun h => nomatch h), (fun h => nomatch h)⟩
  | cons e r ih =>
    obtain ⟨k, u⟩ := e
    show (if k = i then some u else look r i).isSome = true ↔ i ∈ k :: r.map (·.1)
    by_cases h : k = i
    · rw [if_pos h]
      exact ⟨fun _ => h ▸ List.mem_cons_self, fun _ => rfl⟩
    · rw [if_neg h, ih, List.mem_cons]
      exact ⟨.inr, fun z => z.elim (fun y => absurd y.symm h) id⟩
theorem keys_put (tb : Sb) (i : Int) (t : T) : (put tb i t).map (·.1) = if i ∈ tb.map (·.1) then tb.map (·.1) else tb.map (·.1) ++ [i] := by
  unfold put
  by_cases h : (look tb i).isSome = true
  · rw [if_pos h, if_pos ((look_key tb i).1 h), List.map_map]
    refine List.map_congr_left fun e _ => ?_
    show (if e.1 = i then (e.1, t) else e).1 = e.1
    split <;> rfl
  · rw [if_neg h, if_neg (fun z => h ((look_key tb i).2 z)), List.map_append]
    rfl
theorem nodup_put {tb : Sb} (h : (tb.map (·.1)).Nodup) (i : Int) (t : T) : ((put tb i t).map (·.1)).Nodup := by
  rw [keys_put]
  split
  · exact h
  · rename_i z
    rw [List.nodup_append]
    exact ⟨h, List.nodup_cons.mpr ⟨(fun y => nomatch y), List.nodup_nil⟩, fun a ha b hb e => z (by rw [List.mem_singleton.mp hb] at e; exact e ▸ ha)⟩
theorem len_put (tb : Sb) (i : Int) (t : T) : (put tb i t).length ≤ tb.length + 1 := by
  unfold put
  split
  · rw [List.length_map]
    exact Nat.le_succ _
  · rw [List.length_append]
    exact Nat.le_refl _
theorem mem_look {tb : Sb} (h : (tb.map (·.1)).Nodup) {i : Int} {t : T} : (i, t) ∈ tb ↔ look tb i = some t := by
  induction tb with
  | nil => exact ⟨(fun h => nomatch h), (fun h => nomatch h)⟩
  | cons e r ih =>
    obtain ⟨k, u⟩ := e
    obtain ⟨h1, h2⟩ := List.nodup_cons.mp h
    show _ ↔ (if k = i then some u else look r i) = some t
    by_cases z : k = i
    · rw [if_pos z, List.mem_cons]
      subst z
      constructor
      · rintro (y | y)
        · cases y
          rfl
        · exact absurd (List.mem_map.mpr ⟨_, y, rfl⟩) h1
      · intro y
        cases y
        exact .inl rfl
    · rw [if_neg z, List.mem_cons, ← ih h2]
      exact ⟨fun y => y.elim (fun x => absurd (congrArg Prod.fst x).symm z) id, .inr⟩
theorem look_mem {tb : Sb} {i : Int} {t : T} (h : look tb i = some t) : (i, t) ∈ tb := by
  induction tb with
  | nil => cases h
  | cons e r ih =>
    obtain ⟨k, u⟩ := e
    have h' : (if k = i then some u else look r i) = some t := h
    by_cases z : k = i
    · rw [if_pos z] at h'
      cases h'
      subst z
      exact List.mem_cons_self
    · rw [if_neg z] at h'
      exact List.mem_cons_of_mem _ (ih h')
end Sb
namespace T
mutual
def fill (s : Int → T) : T → T
  | .v i => s i
  | .f x ts => .f x (fillL s ts)
def fillL (s : Int → T) : List T → List T
  | [] => []
  | t :: ts => fill s t :: fillL s ts
end
theorem fillL_map (s : Int → T) : ∀ ts : List T, fillL s ts = ts.map (fill s)
  | [] => rfl
  | t :: ts => congrArg (fill s t :: ·) (fillL_map s ts)
mutual
theorem fill_fill (s r : Int → T) : ∀ t : T, fill r (fill s t) = fill (fun i => fill r (s i)) t
  | .v i => rfl
  | .f x ts => congrArg (T.f x) (fillL_fill s r ts)
theorem fillL_fill (s r : Int → T) : ∀ ts : List T, fillL r (fillL s ts) = fillL (fun i => fill r (s i)) ts
  | [] => rfl
  | t :: ts => by
    show fill r (fill s t) :: fillL r (fillL s ts) = _
    rw [fill_fill s r t, fillL_fill s r ts]
    rfl
end
mutual
theorem fill_congr {s r : Int → T} : ∀ t : T, (∀ j ∈ t.vars, s j = r j) → fill s t = fill r t
  | .v i, h => h i List.mem_cons_self
  | .f x ts, h => congrArg (T.f x) (fillL_congr ts h)
theorem fillL_congr {s r : Int → T} : ∀ ts : List T, (∀ j ∈ varsL ts, s j = r j) → fillL s ts = fillL r ts
  | [], _ => rfl
  | t :: ts, h => by
    show fill s t :: fillL s ts = _
    rw [fill_congr t fun j hj => h j (List.mem_append_left _ hj), fillL_congr ts fun j hj => h j (List.mem_append_right _ hj)]
    rfl
end
mutual
theorem fill_size {s : Int → T} {M : Nat} (one : 1 ≤ M) : ∀ t : T, (∀ j ∈ t.vars, (s j).size ≤ M) → (fill s t).size ≤ t.size * M
  | .v i, h => by
    have := h i List.mem_cons_self
    show (s i).size ≤ 1 * M
    omega
  | .f x ts, h => by
    have := fillL_size one ts h
    show 1 + sizeL (fillL s ts) ≤ (1 + sizeL ts) * M
    rw [Nat.add_mul]
    omega
theorem fillL_size {s : Int → T} {M : Nat} (one : 1 ≤ M) : ∀ ts : List T, (∀ j ∈ varsL ts, (s j).size ≤ M) → sizeL (fillL s ts) ≤ sizeL ts * M
  | [], _ => Nat.zero_le _
  | t :: ts, h => by
    have h1 := fill_size one t fun j hj => h j (List.mem_append_left _ hj)
    have h2 := fillL_size one ts fun j hj => h j (List.mem_append_right _ hj)
    show size (fill s t) + sizeL (fillL s ts) ≤ (size t + sizeL ts) * M
    rw [Nat.add_mul]
    omega
end
mutual
theorem fill_dep {s : Int → T} {D : Nat} : ∀ t : T, (∀ j ∈ t.vars, (s j).dep ≤ D) → (fill s t).dep ≤ t.dep + D
  | .v i, h => by
    have := h i List.mem_cons_self
    show (s i).dep ≤ 0 + D
    omega
  | .f x ts, h => by
    have := fillL_dep ts h
    show 1 + depL (fillL s ts) ≤ 1 + depL ts + D
    omega
theorem fillL_dep {s : Int → T} {D : Nat} : ∀ ts : List T, (∀ j ∈ varsL ts, (s j).dep ≤ D) → depL (fillL s ts) ≤ depL ts + D
  | [], _ => Nat.zero_le _
  | t :: ts, h => by
    have h1 := fill_dep t fun j hj => h j (List.mem_append_left _ hj)
    have h2 := fillL_dep ts fun j hj => h j (List.mem_append_right _ hj)
    show max (dep (fill s t)) (depL (fillL s ts)) ≤ max (dep t) (depL ts) + D
    omega
end
mutual
theorem fill_named {s : Int → T} : ∀ t : T, t.named = true → (∀ j ∈ t.vars, (s j).named = true) → (fill s t).named = true
  | .v i, _, h => h i List.mem_cons_self
  | .f x ts, n, h => by
    have n' : (nameOk x && namedL ts) = true := n
    rw [Bool.and_eq_true] at n'
    show (nameOk x && namedL (fillL s ts)) = true
    rw [n'.1, fillL_named ts n'.2 h]
    rfl
theorem fillL_named {s : Int → T} : ∀ ts : List T, namedL ts = true → (∀ j ∈ varsL ts, (s j).named = true) → namedL (fillL s ts) = true
  | [], _, _ => rfl
  | t :: ts, n, h => by
    have n' : (named t && namedL ts) = true := n
    rw [Bool.and_eq_true] at n'
    show (named (fill s t) && namedL (fillL s ts)) = true
    rw [fill_named t n'.1 fun j hj => h j (List.mem_append_left _ hj), fillL_named ts n'.2 fun j hj => h j (List.mem_append_right _ hj)]
    rfl
end
def isVar (i : Int) : T → Bool
  | .v j => decide (j = i)
  | .f _ _ => false
theorem isVar_iff {i : Int} {t : T} : isVar i t = true ↔ t = .v i := by
  cases t with
  | v j =>
    show decide (j = i) = true ↔ _
    rw [decide_eq_true_eq]
    exact ⟨fun e => congrArg T.v e, fun e => T.v.inj e⟩
  | f x ts => exact ⟨(fun h => nomatch h), (fun h => nomatch h)⟩
theorem eqv_var (t : T) (i : Int) : PyData.eqv t.d (.int i) = isVar i t := by
  cases t with
  | v j =>
    show PyData.eqv (.int j) (.int i) = decide (j = i)
    rw [PyData.eqv]
    first
      | rfl
      | (cases z : decide (j = i) <;> simp_all)
  | f x ts =>
    show PyData.eqv (.tuple _) (.int i) = false
    rw [PyData.eqv]
    all_goals (intros; first | contradiction | (intro z; cases z))
end T
namespace Sb
/-- the form of a substitution: rising, nothing that stays -/
structure Norm (tb su : Sb) : Prop where
  rising : (su.map (·.1)).Pairwise (· < ·)
  has : ∀ i t, (i, t) ∈ su ↔ look tb i = some t ∧ t.isVar i = false
theorem rising_nodup {l : List Int} (h : l.Pairwise (· < ·)) : l.Nodup := h.imp fun z e => by
  rw [e] at z
  exact Int.lt_irrefl _ z
theorem Norm.one {tb tb' su su' : Sb} (a : Norm tb su) (b : Norm tb' su') (same : ∀ i, look tb i = look tb' i) : su = su' := by
  have keys : su.map (·.1) = su'.map (·.1) := by
    refine rising_one' a.rising b.rising fun j => ?_
    constructor
    · intro h
      obtain ⟨⟨i, t⟩, h1, rfl⟩ := List.mem_map.mp h
      have h2 := (a.has i t).1 h1
      rw [same] at h2
      exact List.mem_map.mpr ⟨_, (b.has i t).2 h2, rfl⟩
    · intro h
      obtain ⟨⟨i, t⟩, h1, rfl⟩ := List.mem_map.mp h
      have h2 := (b.has i t).1 h1
      rw [← same] at h2
      exact List.mem_map.mpr ⟨_, (a.has i t).2 h2, rfl⟩
  have at' : ∀ {tb su : Sb}, Norm tb su → su.map some = su.map fun e => (look tb e.1).map fun t => (e.1, t) := by
    intro tb su n
    refine List.map_congr_left fun e he => ?_
    obtain ⟨i, t⟩ := e
    rw [((n.has i t).1 he).1]
    rfl
  have e1 : su.map some = (su.map (·.1)).map fun i => (look tb i).map fun t => (i, t) := by
    rw [at' a, List.map_map]
    rfl
  have e2 : su'.map some = (su'.map (·.1)).map fun i => (look tb' i).map fun t => (i, t) := by
    rw [at' b, List.map_map]
    rfl
  have e3 : su.map some = su'.map some := by
    rw [e1, e2, keys]
    exact List.map_congr_left fun i _ => by rw [same]
  exact List.map_inj_right (fun x y h => Option.some.inj h) |>.1 e3
where
  rising_one' : ∀ {as bs : List Int}, as.Pairwise (· < ·) → bs.Pairwise (· < ·) → (∀ j, j ∈ as ↔ j ∈ bs) → as = bs
    | [], [], _, _, _ => rfl
    | [], b :: bs, _, _, h => nomatch (h b).2 List.mem_cons_self
    | a :: as, [], _, _, h => nomatch (h a).1 List.mem_cons_self
    | a :: as, b :: bs, pa, pb, h => by
      obtain ⟨a1, a2⟩ := List.pairwise_cons.mp pa
      obtain ⟨b1, b2⟩ := List.pairwise_cons.mp pb
      have e : a = b := by
        rcases List.mem_cons.mp ((h a).1 List.mem_cons_self) with z | z
        · exact z
        · rcases List.mem_cons.mp ((h b).2 List.mem_cons_self) with y | y
          · exact y.symm
          · have h1 := b1 a z
            have h2 := a1 b y
            omega
      subst e
      congr 1
      refine rising_one' a2 b2 fun j => ⟨fun m => ?_, fun m => ?_⟩
      · rcases List.mem_cons.mp ((h j).1 (List.mem_cons_of_mem _ m)) with z | z
        · have := a1 j m
          omega
        · exact z
      · rcases List.mem_cons.mp ((h j).2 (List.mem_cons_of_mem _ m)) with z | z
        · have := b1 j m
          omega
        · exact z
/-- a substitution in its form does what the table does -/
theorem Norm.asg {tb su : Sb} (n : Norm tb su) (i : Int) : asg su i = asg tb i := by
  have nd := rising_nodup n.rising
  unfold Sb.asg
  cases h : look su i with
  | some t =>
    have m := (mem_look nd).2 h
    rw [((n.has i t).1 m).1]
  | none =>
    cases h2 : look tb i with
    | none => rfl
    | some t =>
      cases h3 : t.isVar i with
      | true => exact (T.isVar_iff.1 h3).symm
      | false =>
        have m := (mem_look nd).1 ((n.has i t).2 ⟨h2, h3⟩)
        rw [h] at m
        cases m
end Sb
/-! ### in the heap -/
/-- a table's entries -/
def TV (K : PySem.W.Frag) (H : Hp) (tb : Sb) (kvs : List (L2.Key × V)) : Prop := F2 (fun e kv => kv.1 = .inl e.1 ∧ Tm K H e.2 kv.2) tb kvs
section
variable {K : PySem.W.Frag} {H H' : Hp}
theorem TV.mono (k : TK H H') {tb : Sb} {kvs : List (L2.Key × V)} (h : TV K H tb kvs) : TV K H' tb kvs := F2.mono (fun _ _ z => ⟨z.1, Tm.mono k _ _ z.2⟩) h
theorem TV.val : ∀ {tb : Sb} {kvs : List (L2.Key × V)}, TV K H tb kvs → ∀ i, (tb.look i = none ∧ valV kvs (.inl i) = none) ∨ ∃ t v, tb.look i = some t ∧ valV kvs (.inl i) = some v ∧ Tm K H t v
  | [], kvs, h, i => by
    cases (show kvs = [] from h)
    exact .inl ⟨rfl, rfl⟩
  | (j, t) :: tb, kvs, h, i => by
    obtain ⟨kv, r, rfl, ⟨e, tm⟩, rest⟩ := h
    by_cases z : j = i
    · subst z
      exact .inr ⟨t, kv.2, if_pos rfl, valV_pos e, tm⟩
    · have ne : ¬ kv.1 = .inl i := fun y => z (by rw [e] at y; exact Sum.inl.inj y)
      rw [valV_neg ne]
      have e2 : Sb.look ((j, t) :: tb) i = Sb.look tb i := if_neg z
      rw [e2]
      exact TV.val (tb := tb) rest i
theorem TV.put {tb : Sb} {kvs : List (L2.Key × V)} (h : TV K H tb kvs) (i : Int) {t : T} {v : V} (tv : Tm K H t v) : TV K H (tb.put i t) (putK kvs (.inl i) v) := by
  unfold Sb.put putK
  have e : ((kvs.any fun kv => decide (kv.1 = .inl i)) = true) = ((tb.look i).isSome = true) := by
    rw [valV_any]
    rcases h.val i with ⟨a, b⟩ | ⟨t', v', a, b, _⟩
    · rw [a, b]
      rfl
    · rw [a, b]
      rfl
  simp only [e]
  split
  · clear e
    rename_i z
    clear z
    induction tb generalizing kvs with
    | nil =>
      cases (show kvs = [] from h)
      exact rfl
    | cons x tb ih =>
      obtain ⟨kv, r, rfl, ⟨e, tm⟩, rest⟩ := h
      refine ⟨_, _, rfl, ?_, ih rest⟩
      show (if kv.1 = .inl i then (kv.1, v) else kv).1 = .inl (if x.1 = i then (x.1, t) else x).1 ∧ Tm K H (if x.1 = i then (x.1, t) else x).2 (if kv.1 = .inl i then (kv.1, v) else kv).2
      by_cases y : x.1 = i
      · rw [if_pos y, if_pos (by rw [e, y])]
        exact ⟨e, tv⟩
      · rw [if_neg y, if_neg (fun z => y (by rw [e] at z; exact Sum.inl.inj z))]
        exact ⟨e, tm⟩
  · exact F2.app h (F2.one ⟨rfl, tv⟩)
theorem TV.keys : ∀ {tb : Sb} {kvs : List (L2.Key × V)}, TV K H tb kvs → kvs.map (·.1) = (tb.map (·.1)).map Sum.inl
  | [], kvs, h => by
    cases (show kvs = [] from h)
    rfl
  | e :: tb, kvs, h => by
    obtain ⟨kv, r, rfl, ⟨z, _⟩, rest⟩ := h
    show kv.1 :: r.map (·.1) = .inl e.1 :: _
    rw [z, TV.keys (tb := tb) rest]
theorem valV_out {kvs : List (L2.Key × V)} {k : L2.Key} (h : k ∉ kvs.map (·.1)) : valV kvs k = none := by
  induction kvs with
  | nil => rfl
  | cons p r ih =>
    rw [valV_neg (fun z => h (by rw [← z]; exact List.mem_cons_self))]
    exact ih fun z => h (List.mem_cons_of_mem _ z)
/-- pairs of unlike keys: all of them -/
theorem merge_all : ∀ (more kvs : List (L2.Key × V)), ((kvs ++ more).map (·.1)).Nodup → mergeK kvs more = kvs ++ more
  | [], kvs, _ => (List.append_nil _).symm
  | p :: more, kvs, h => by
    show mergeK (putK kvs p.1 p.2) more = _
    have out : p.1 ∉ kvs.map (·.1) := by
      intro z
      rw [List.map_append, List.nodup_append] at h
      exact h.2.2 p.1 z p.1 (by rw [List.map_cons]; exact List.mem_cons_self) rfl
    rw [putK_new _ (valV_out out)]
    have e : kvs ++ [(p.1, p.2)] ++ more = kvs ++ p :: more := by rw [List.append_assoc]; rfl
    rw [merge_all more _ (by rw [e]; exact h), e]
/-- a pair of a substitution -/
def SP (K : PySem.W.Frag) (H : Hp) (e : Int × T) (b : Addr) : Prop := ∃ v, SqT K H b [.int e.1, v] ∧ Tm K H e.2 v
/-- a substitution's value -/
def Su (K : PySem.W.Frag) (H : Hp) (su : Sb) (x : V) : Prop := ∃ (a : Addr) (bs : List Addr), x = .ref a ∧ Dt.Tup0 H a (bs.map V.ref) ∧ F2 (SP K H) su bs
theorem SP.mono (k : TK H H') (e : Int × T) (b : Addr) (h : SP K H e b) : SP K H' e b := by
  obtain ⟨v, s, t⟩ := h
  exact ⟨v, k.sq s, Tm.mono k _ _ t⟩
theorem tup0_mono (k : TK H H') {a : Addr} {xs : List V} (h : Dt.Tup0 H a xs) : Dt.Tup0 H' a xs := by
  obtain ⟨o, e, d⟩ := h
  exact ⟨o, (k a xs).2 o e, d⟩
theorem Su.mono (k : TK H H') {su : Sb} {x : V} (h : Su K H su x) : Su K H' su x := by
  obtain ⟨a, bs, e, t, f⟩ := h
  exact ⟨a, bs, e, tup0_mono k t, F2.mono (SP.mono k) f⟩
/-- its pairs as entries -/
theorem sp_pairs : ∀ {su : Sb} {bs : List Addr}, F2 (SP K H) su bs → ∃ kvs, Paired (fun p kv => SqT K H p [kV kv.1, kv.2]) bs kvs ∧ TV K H su kvs
  | [], bs, h => by
    cases (show bs = [] from h)
    exact ⟨[], .nil, rfl⟩
  | e :: su, bs, h => by
    obtain ⟨b, r, rfl, ⟨v, s, t⟩, rest⟩ := h
    obtain ⟨kvs, p, q⟩ := sp_pairs (su := su) rest
    exact ⟨(.inl e.1, v) :: kvs, .cons s p, _, _, rfl, ⟨rfl, t⟩, q⟩
end
end Ad

namespace Ad
open PySem PySem.Spec PySem.Calls PyProof.Rows L2
def spFilled (K : PySem.W.Frag) (n : Nat) : Sp := fun vs H Q _ => ∃ (t : T) (x : V) (d : Addr) (tb : Sb) (kvs : List (L2.Key × V)), vs = [x, .ref d] ∧ Tm K H t x ∧ H d = some (.dK kvs) ∧ TV K H tb kvs ∧ t.dep < n ∧ t.size ≤ 10000 ∧
  ∀ v H', Same H H' → Tm K H' (T.fill tb.asg t) v → Q v H'
def spPutIn (K : PySem.W.Frag) (n : Nat) : Sp := fun vs H Q _ => ∃ (t : T) (su : Sb) (x y : V), vs = [x, y] ∧ Tm K H t x ∧ Su K H su y ∧ (su.map (·.1)).Nodup ∧ t.dep < n ∧ t.size ≤ 10000 ∧ ∀ v H', Same H H' → Tm K H' (T.fill su.asg t) v → Q v H'
end Ad

/-! A table's substitution. -/
namespace Ad
open PySem PySem.Spec PySem.Calls PyProof.Rows L2 GxR
namespace Sb
def pick (tb : Sb) (i : Int) : Option (Int × T) := match look tb i with
  | some t => if t.isVar i = true then none else some (i, t)
  | none => none
def sel (tb : Sb) (ks : List Int) : Sb := ks.filterMap (pick tb)
theorem pick_iff {tb : Sb} {i j : Int} {t : T} : pick tb i = some (j, t) ↔ i = j ∧ look tb i = some t ∧ t.isVar i = false := by
  unfold pick
  cases h : look tb i with
  | none => exact ⟨(fun z => nomatch z), (fun z => nomatch z.2.1)⟩
  | some u =>
    show (if u.isVar i = true then none else some (i, u)) = some (j, t) ↔ _
    cases hv : u.isVar i with
    | true =>
      rw [if_pos rfl]
      refine ⟨(fun z => nomatch z), fun z => ?_⟩
      have e := Option.some.inj z.2.1
      rw [← e, hv] at z
      exact nomatch z.2.2
    | false =>
      rw [if_neg Bool.false_ne_true]
      constructor
      · intro z
        cases z
        exact ⟨rfl, rfl, hv⟩
      · rintro ⟨rfl, z, _⟩
        cases z
        rfl
theorem norm_sel {tb : Sb} {ks : List Int} (rising : ks.Pairwise (· < ·)) (all : ∀ i, i ∈ ks ↔ i ∈ tb.map (·.1)) : Norm tb (sel tb ks) := by
  constructor
  · unfold sel
    have key : ∀ l : List Int, l.Pairwise (· < ·) → ((l.filterMap (pick tb)).map (·.1)).Pairwise (· < ·) ∧ ∀ j ∈ (l.filterMap (pick tb)).map (·.1), j ∈ l := by
      intro l
      induction l with
      | nil => intro _; exact ⟨.nil, fun j hj => nomatch hj⟩
      | cons i l ih =>
        intro h
        obtain ⟨h1, h2⟩ := List.pairwise_cons.mp h
        obtain ⟨r1, r2⟩ := ih h2
        cases hp : pick tb i with
        | none =>
          rw [List.filterMap_cons, hp]
          exact ⟨r1, fun j hj => List.mem_cons_of_mem _ (r2 j hj)⟩
        | some e =>
          obtain ⟨k, t⟩ := e
          have ek := (pick_iff.1 hp).1
          subst ek
          rw [List.filterMap_cons, hp]
          refine ⟨List.pairwise_cons.mpr ⟨fun j hj => h1 j (r2 j hj), r1⟩, fun j hj => ?_⟩
          rcases List.mem_cons.mp hj with z | z
          · rw [z]
            exact List.mem_cons_self
          · exact List.mem_cons_of_mem _ (r2 j z)
    exact (key ks rising).1
  · intro i t
    unfold sel
    rw [List.mem_filterMap]
    constructor
    · rintro ⟨k, _, hp⟩
      obtain ⟨rfl, h1, h2⟩ := pick_iff.1 hp
      exact ⟨h1, h2⟩
    · rintro ⟨h1, h2⟩
      exact ⟨i, (all i).2 ((look_key tb i).1 (by rw [h1]; rfl)), pick_iff.2 ⟨rfl, h1, h2⟩⟩
theorem sel_take {tb : Sb} {ks : List Int} {n : Nat} {i : Int} (h : ks[n]? = some i) : sel tb (ks.take (n + 1)) = sel tb (ks.take n) ++ (match pick tb i with
    | some e => [e]
    | none => []) := by
  unfold sel
  rw [List.take_add_one, h, List.filterMap_append]
  congr 1
  show List.filterMap (pick tb) [i] = _
  cases hp : pick tb i with
  | none => rw [List.filterMap_cons, hp]; rfl
  | some e => rw [List.filterMap_cons, hp]; rfl
end Sb
/-- all in a table can be compared -/
def Good (tb : Sb) : Prop := ∀ e ∈ tb, e.2.named = true ∧ e.2.dep ≤ 60
theorem TV.at {K : PySem.W.Frag} {H : Hp} {tb : Sb} {kvs : List (L2.Key × V)} (h : TV K H tb kvs) {i : Int} (m : i ∈ tb.map (·.1)) : ∃ t v, tb.look i = some t ∧ valV kvs (.inl i) = some v ∧ Tm K H t v := by
  rcases h.val i with ⟨a, _⟩ | z
  · have := (Sb.look_key tb i).2 m
    rw [a] at this
    cases this
  · exact z
theorem int_shaped (i : Int) : SeqAt.shaped (.int i) = true := rfl
theorem tab_same {H H' : Hp} {P : Addr} (s : Same H H') (t : TabG H P) : TabG H' P := by
  obtain ⟨ps, e, ok⟩ := t
  exact ⟨ps, s _ _ e, ok⟩
theorem tab_tk {H H' : Hp} {P : Addr} (t : TabG H P) (k : ∀ b o, b ≠ P → H b = some o → H' b = some o) : TK H H' := by
  obtain ⟨ps, e, ok⟩ := t
  intro b xs
  refine ⟨fun h => k b _ (fun z => ?_) h, fun o h => k b _ (fun z => ?_) h⟩
  · rw [z, e] at h
    cases h
  · rw [z, e] at h
    cases h
section
variable {P : Program} {w : World} {K : PySem.W.Frag} {mg : Str → Option Value} {base : Heap}
theorem tab_upd {H : Hp} {P q : Addr} {o : HO} (t : TabG H P) (n : H q = none) : TabG (upd H q o) P := by
  obtain ⟨ps, e, ok⟩ := t
  exact ⟨ps, by rw [upd_ne (ne_of_none e n)]; exact e, ok⟩
end
def spSubst (K : PySem.W.Frag) (Pt : Addr) : Sp := fun vs H Q _ => ∃ (d : Addr) (tb : Sb) (kvs : List (L2.Key × V)), vs = [.ref d] ∧ H d = some (.dK kvs) ∧ TV K H tb kvs ∧ (tb.map (·.1)).Nodup ∧ tb.length < 64 ∧ Good tb ∧ TabG H Pt ∧
  ∀ su x H', tb.Norm su → Su K H' su x → (∀ b o, b ≠ Pt → H b = some o → H' b = some o) → TabG H' Pt → Q x H'
end Ad

namespace Ad
open PySem PySem.Spec PySem.Calls PyProof.Rows L2
namespace T
mutual
/-- the paths of a term, each ahead of those within -/
def paths : T → List (List Int)
  | .v _ => [[]]
  | .f _ ts => [] :: pathsL 0 ts
def pathsL (k : Nat) : List T → List (List Int)
  | [] => []
  | t :: ts => (paths t).map ((k : Int) :: ·) ++ pathsL (k + 1) ts
end
mutual
theorem paths_len : ∀ t : T, t.paths.length = t.size
  | .v _ => rfl
  | .f x ts => by
    show (pathsL 0 ts).length + 1 = 1 + sizeL ts
    rw [pathsL_len 0 ts]
    omega
theorem pathsL_len (k : Nat) : ∀ ts : List T, (pathsL k ts).length = sizeL ts
  | [] => rfl
  | t :: ts => by
    show ((paths t).map ((k : Int) :: ·) ++ pathsL (k + 1) ts).length = size t + sizeL ts
    rw [List.length_append, List.length_map, paths_len t, pathsL_len (k + 1) ts]
end
mutual
theorem paths_dep : ∀ (t : T) (p : List Int), p ∈ t.paths → p.length ≤ t.dep
  | .v _, p, h => by
    cases List.mem_singleton.mp h
    exact Nat.le_refl _
  | .f x ts, p, h => by
    show p.length ≤ 1 + depL ts
    rcases List.mem_cons.mp h with e | e
    · rw [e]
      exact Nat.zero_le _
    · exact pathsL_dep 0 ts p e
theorem pathsL_dep (k : Nat) : ∀ (ts : List T) (p : List Int), p ∈ pathsL k ts → p.length ≤ 1 + depL ts
  | [], p, h => by cases h
  | t :: ts, p, h => by
    show p.length ≤ 1 + max (dep t) (depL ts)
    rcases List.mem_append.mp h with e | e
    · obtain ⟨q, hq, rfl⟩ := List.mem_map.mp e
      have := paths_dep t q hq
      rw [List.length_cons]
      omega
    · have := pathsL_dep (k + 1) ts p e
      omega
end
/-- the part at a path -/
def sub : List Int → T → Option T
  | [], t => some t
  | _ :: _, .v _ => none
  | k :: p, .f _ ts => if 0 ≤ k then (match ts[k.toNat]? with
      | some u => sub p u
      | none => none) else none
/-- a term with another part at a path -/
def put (new : T) : List Int → T → Option T
  | [], _ => some new
  | _ :: _, .v _ => none
  | k :: p, .f x ts => if 0 ≤ k then (match ts[k.toNat]? with
      | some u => (match put new p u with
        | some r => some (.f x (ts.set k.toNat r))
        | none => none)
      | none => none) else none
theorem sub_cons {k : Int} {p : List Int} {t u : T} (h : sub (k :: p) t = some u) : ∃ (j : Nat) (x : Str) (ts : List T) (y : T), k = (j : Int) ∧ t = .f x ts ∧ ts[j]? = some y ∧ sub p y = some u := by
  cases t with
  | v i => cases h
  | f x ts =>
    have h' : (if 0 ≤ k then (match ts[k.toNat]? with | some u => sub p u | none => none) else none) = some u := h
    by_cases k0 : 0 ≤ k
    · rw [if_pos k0] at h'
      cases e : ts[k.toNat]? with
      | none =>
        rw [e] at h'
        cases h'
      | some y =>
        rw [e] at h'
        exact ⟨k.toNat, x, ts, y, by omega, rfl, e, h'⟩
    · rw [if_neg k0] at h'
      cases h'
theorem put_cons {new : T} {k : Int} {p : List Int} {t r : T} (h : put new (k :: p) t = some r) : ∃ (j : Nat) (x : Str) (ts : List T) (y z : T), k = (j : Int) ∧ t = .f x ts ∧ ts[j]? = some y ∧ put new p y = some z ∧ r = .f x (ts.set j z) := by
  cases t with
  | v i => cases h
  | f x ts =>
    have h' : (if 0 ≤ k then (match ts[k.toNat]? with | some u => (match put new p u with | some r => some (T.f x (ts.set k.toNat r)) | none => none) | none => none) else none) = some r := h
    by_cases k0 : 0 ≤ k
    · rw [if_pos k0] at h'
      cases e : ts[k.toNat]? with
      | none =>
        rw [e] at h'
        cases h'
      | some y =>
        rw [e] at h'
        dsimp only at h'
        cases e2 : put new p y with
        | none =>
          rw [e2] at h'
          cases h'
        | some z =>
          rw [e2] at h'
          cases h'
          exact ⟨k.toNat, x, ts, y, z, by omega, rfl, e, e2, rfl⟩
    · rw [if_neg k0] at h'
      cases h'
theorem pathsL_append : ∀ (k : Nat) (as bs : List T), pathsL k (as ++ bs) = pathsL k as ++ pathsL (k + as.length) bs
  | _, [], _ => rfl
  | k, t :: ts, bs => by
    show (paths t).map ((k : Int) :: ·) ++ pathsL (k + 1) (ts ++ bs) = (paths t).map ((k : Int) :: ·) ++ pathsL (k + 1) ts ++ pathsL (k + (ts.length + 1)) bs
    rw [pathsL_append (k + 1) ts bs, List.append_assoc]
    congr 3
    omega
theorem pathsL_next {ts : List T} {i : Nat} {u : T} (h : ts[i]? = some u) : pathsL 0 (ts.take (i + 1)) = pathsL 0 (ts.take i) ++ u.paths.map ((i : Int) :: ·) := by
  have hi := (List.getElem?_eq_some_iff.mp h).1
  rw [List.take_add_one, h, pathsL_append, List.length_take]
  show _ ++ ((paths u).map ((((0 + min i ts.length : Nat)) : Int) :: ·) ++ []) = _
  rw [List.append_nil]
  have e : 0 + min i ts.length = i := by omega
  rw [e]
theorem sizeL_take (ts : List T) (i : Nat) : sizeL (ts.take i) ≤ sizeL ts := by
  have h2 := sizeL_append (ts.take i) (ts.drop i)
  rw [List.take_append_drop] at h2
  omega
theorem sub_f {j : Nat} {p : List Int} {x : Str} {ts : List T} {y u : T} (h : ts[j]? = some y) (e : sub p y = some u) : sub ((j : Int) :: p) (.f x ts) = some u := by
  show (if 0 ≤ (j : Int) then (match ts[((j : Int)).toNat]? with | some u => sub p u | none => none) else none) = _
  rw [if_pos (by omega), Int.toNat_natCast, h]
  exact e
theorem put_f {new : T} {j : Nat} {p : List Int} {x : Str} {ts : List T} {y z : T} (h : ts[j]? = some y) (e : put new p y = some z) : put new ((j : Int) :: p) (.f x ts) = some (.f x (ts.set j z)) := by
  show (if 0 ≤ (j : Int) then (match ts[((j : Int)).toNat]? with | some u => (match put new p u with | some r => some (T.f x (ts.set ((j : Int)).toNat r)) | none => none) | none => none) else none) = _
  rw [if_pos (by omega), Int.toNat_natCast, h]
  show (match put new p y with | some r => some (T.f x (ts.set j r)) | none => none) = _
  rw [e]
mutual
/-- at each path something stands -/
theorem paths_sub : ∀ (t : T) (p : List Int), p ∈ t.paths → ∃ u, sub p t = some u
  | .v i, p, h => by
    cases List.mem_singleton.mp h
    exact ⟨_, rfl⟩
  | .f x ts, p, h => by
    rcases List.mem_cons.mp h with e | e
    · subst e
      exact ⟨_, rfl⟩
    · obtain ⟨j, p', y, u, e1, e2, e3⟩ := pathsL_sub 0 ts p e
      subst e1
      refine ⟨u, ?_⟩
      rw [Nat.zero_add]
      exact sub_f e2 e3
theorem pathsL_sub (k : Nat) : ∀ (ts : List T) (p : List Int), p ∈ pathsL k ts → ∃ (j : Nat) (p' : List Int) (y u : T), p = ((k + j : Nat) : Int) :: p' ∧ ts[j]? = some y ∧ sub p' y = some u
  | [], p, h => by cases h
  | t :: ts, p, h => by
    rcases List.mem_append.mp h with e | e
    · obtain ⟨q, hq, rfl⟩ := List.mem_map.mp e
      obtain ⟨u, hu⟩ := paths_sub t q hq
      exact ⟨0, q, t, u, rfl, rfl, hu⟩
    · obtain ⟨j, p', y, u, e1, e2, e3⟩ := pathsL_sub (k + 1) ts p e
      refine ⟨j + 1, p', y, u, ?_, e2, e3⟩
      rw [e1]
      congr 2
      omega
end
/-- what stands at a path is no larger -/
theorem sub_small : ∀ {p : List Int} {t u : T}, sub p t = some u → (t.named = true → u.named = true) ∧ u.dep ≤ t.dep ∧ u.size ≤ t.size
  | [], t, u, h => by
    cases (show some t = some u from h)
    exact ⟨id, Nat.le_refl _, Nat.le_refl _⟩
  | k :: p, t, u, h => by
    obtain ⟨j, x, ts, y, rfl, rfl, e1, e2⟩ := sub_cons h
    obtain ⟨h1, h2, h3⟩ := sub_small e2
    have m := List.mem_of_getElem? e1
    have d1 := dep_mem m
    have d2 := size_mem m
    refine ⟨fun n => h1 (named_mem m ?_), ?_, ?_⟩
    · have n' : (nameOk x && namedL ts) = true := n
      rw [Bool.and_eq_true] at n'
      exact n'.2
    · show u.dep ≤ 1 + depL ts
      omega
    · show u.size ≤ 1 + sizeL ts
      omega
theorem depL_set : ∀ {ts : List T} {j : Nat} {y z : T}, ts[j]? = some y → ∀ m, depL ts ≤ m → z.dep ≤ m → depL (ts.set j z) ≤ m
  | [], j, y, z, h, m, _, _ => by cases h
  | t :: ts, 0, y, z, h, m, h1, h2 => by
    show max (dep z) (depL ts) ≤ m
    have h1' : max (dep t) (depL ts) ≤ m := h1
    omega
  | t :: ts, j + 1, y, z, h, m, h1, h2 => by
    have h1' : max (dep t) (depL ts) ≤ m := h1
    have := depL_set (ts := ts) (j := j) (y := y) (z := z) h m (by omega) h2
    show max (dep t) (depL (ts.set j z)) ≤ m
    omega
theorem sizeL_set : ∀ {ts : List T} {j : Nat} {y z : T}, ts[j]? = some y → sizeL (ts.set j z) + y.size = sizeL ts + z.size
  | [], j, y, z, h => by cases h
  | t :: ts, 0, y, z, h => by
    cases h
    show size z + sizeL ts + size t = size t + sizeL ts + size z
    omega
  | t :: ts, j + 1, y, z, h => by
    have := sizeL_set (ts := ts) (j := j) (y := y) (z := z) h
    show size t + sizeL (ts.set j z) + y.size = size t + sizeL ts + z.size
    omega
theorem namedL_set : ∀ {ts : List T} {j : Nat} {z : T}, namedL ts = true → z.named = true → namedL (ts.set j z) = true
  | [], j, z, _, _ => rfl
  | t :: ts, 0, z, h, hz => by
    have h' : (named t && namedL ts) = true := h
    rw [Bool.and_eq_true] at h'
    show (named z && namedL ts) = true
    rw [hz, h'.2]
    rfl
  | t :: ts, j + 1, z, h, hz => by
    have h' : (named t && namedL ts) = true := h
    rw [Bool.and_eq_true] at h'
    show (named t && namedL (ts.set j z)) = true
    rw [h'.1, namedL_set h'.2 hz]
    rfl
/-- what is put at a path stands there, and what stood there can be put back -/
theorem put_sub (new : T) : ∀ {p : List Int} {t u : T}, sub p t = some u → ∃ r, put new p t = some r ∧ sub p r = some new ∧ put u p r = some t ∧ r.size ≤ t.size + new.size ∧ r.dep ≤ t.dep + new.dep ∧ (t.named = true → new.named = true → r.named = true)
  | [], t, u, h => by
    cases (show some t = some u from h)
    exact ⟨new, rfl, rfl, rfl, Nat.le_add_left _ _, Nat.le_add_left _ _, fun _ n => n⟩
  | k :: p, t, u, h => by
    obtain ⟨j, x, ts, y, rfl, rfl, e1, e2⟩ := sub_cons h
    obtain ⟨r, h1, h2, h3, h4, h5, h6⟩ := put_sub new e2
    have hj := (List.getElem?_eq_some_iff.mp e1).1
    have at' : (ts.set j r)[j]? = some r := by
      rw [List.getElem?_set_self hj]
    have m := List.mem_of_getElem? e1
    have d1 := dep_mem m
    have d2 := size_mem m
    refine ⟨.f x (ts.set j r), put_f e1 h1, sub_f at' h2, ?_, ?_, ?_, ?_⟩
    · rw [put_f at' h3, List.set_set]
      congr 2
      refine List.ext_getElem? fun i => ?_
      by_cases e : j = i
      · subst e
        rw [List.getElem?_set_self hj, e1]
      · rw [List.getElem?_set_ne e]
    · have := sizeL_set (z := r) e1
      show 1 + sizeL (ts.set j r) ≤ 1 + sizeL ts + new.size
      omega
    · have := depL_set (z := r) e1 (depL ts + new.dep) (by omega) (by omega)
      show 1 + depL (ts.set j r) ≤ 1 + depL ts + new.dep
      omega
    · intro n nn
      have n' : (nameOk x && namedL ts) = true := n
      rw [Bool.and_eq_true] at n'
      show (nameOk x && namedL (ts.set j r)) = true
      rw [n'.1, namedL_set n'.2 (h6 (named_mem m n'.2) nn)]
      rfl
mutual
/-- the steps of a path are small -/
theorem paths_small : ∀ (t : T) (p : List Int), p ∈ t.paths → ∀ k ∈ p, 0 ≤ k ∧ k < t.size
  | .v i, p, h, k, hk => by
    cases List.mem_singleton.mp h
    cases hk
  | .f x ts, p, h, k, hk => by
    have e0 : size (.f x ts) = 1 + sizeL ts := rfl
    rcases List.mem_cons.mp h with e | e
    · rw [e] at hk
      cases hk
    · have := pathsL_small 0 ts p e k hk
      have l := len_sizeL ts
      omega
theorem pathsL_small (n : Nat) : ∀ (ts : List T) (p : List Int), p ∈ pathsL n ts → ∀ k ∈ p, 0 ≤ k ∧ k < n + sizeL ts
  | [], p, h, k, hk => by cases h
  | t :: ts, p, h, k, hk => by
    have s1 := size_pos t
    have e0 : sizeL (t :: ts) = size t + sizeL ts := rfl
    rcases List.mem_append.mp h with e | e
    · obtain ⟨q, hq, rfl⟩ := List.mem_map.mp e
      rcases List.mem_cons.mp hk with z | z
      · omega
      · have := paths_small t q hq k z
        omega
    · have := pathsL_small (n + 1) ts p e k hk
      omega
end
end T
/-- a path's value -/
def PV (K : PySem.W.Frag) (H : Hp) (p : List Int) (v : V) : Prop := ∃ a, v = .ref a ∧ SqT K H a (p.map V.int)
theorem PV.mono {K : PySem.W.Frag} {H H' : Hp} (k : TK H H') (p : List Int) (v : V) (h : PV K H p v) : PV K H' p v := by
  obtain ⟨a, e, s⟩ := h
  exact ⟨a, e, k.sq s⟩
def spLPaths (K : PySem.W.Frag) (n : Nat) : Sp := fun vs H Q _ => ∃ (t : T) (x : V), vs = [x] ∧ Tm K H t x ∧ t.dep < n ∧ t.size ≤ 10000 ∧
  ∀ H' p us, Same H H' → H p = none → H' p = some (.lst us) → F2 (PV K H') t.paths us → Q (.ref p) H'
def spAt (K : PySem.W.Frag) : Sp := fun vs H Q _ => ∃ (t u : T) (x : V) (a : Addr) (p : List Int), vs = [x, .ref a] ∧ Tm K H t x ∧ SqT K H a (p.map V.int) ∧ T.sub p t = some u ∧ ∀ v, Tm K H u v → Q v H
/-- put at a path of fewer than n steps -/
def spPut (K : PySem.W.Frag) (n : Nat) : Sp := fun vs H Q _ => ∃ (t new r : T) (x y : V) (a : Addr) (p : List Int), vs = [x, .ref a, y] ∧ Tm K H t x ∧ Tm K H new y ∧ SqT K H a (p.map V.int) ∧ p.length < n ∧ t.size ≤ 10000 ∧ T.put new p t = some r ∧ ∀ v H', Same H H' → Tm K H' r v → Q v H'
section
variable {K : PySem.W.Frag}
theorem Tms.set {H : Hp} {x : V} {t : T} : ∀ {ts : List T} {xs : List V} (j : Nat), Tms K H ts xs → Tm K H t x → Tms K H (ts.set j t) (xs.take j ++ x :: xs.drop (j + 1)) ∨ ts.length ≤ j
  | [], _, j, _, _ => .inr (Nat.zero_le _)
  | u :: us, xs, j, h, hx => by
    obtain ⟨y, ys, rfl, one, all⟩ := h
    cases j with
    | zero => exact .inl ⟨x, ys, rfl, hx, all⟩
    | succ j =>
      rcases Tms.set (ts := us) (xs := ys) j all hx with z | z
      · exact .inl ⟨y, _, rfl, one, z⟩
      · exact .inr (Nat.succ_le_succ z)
end
theorem cut_low {x : V} {xs : List V} {j : Nat} (h : j < xs.length) : ¬ (HT.sIx (x :: xs).length 0 none = 0 ∧ HT.sIx (x :: xs).length (x :: xs).length (some ((j : Int) + 1)) = (x :: xs).length) ∧ cutV (x :: xs) none (some ((j : Int) + 1)) = x :: xs.take j := by
  have e : ((j : Int) + 1) = ((j + 1 : Nat) : Int) := by omega
  rw [e]
  have e2 : HT.sIx (x :: xs).length (x :: xs).length (some ((j + 1 : Nat) : Int)) = j + 1 := by
    rw [HT.sIx_nat, List.length_cons]
    omega
  constructor
  · rw [e2, List.length_cons]
    omega
  · unfold cutV
    rw [e2, HT.sIx_none, List.drop_zero, Nat.sub_zero, List.take_succ_cons]
theorem cut_high {x : V} {xs : List V} {j : Nat} (h : j < xs.length) : ¬ (HT.sIx (x :: xs).length 0 (some ((j : Int) + 1 + 1)) = 0 ∧ HT.sIx (x :: xs).length (x :: xs).length none = (x :: xs).length) ∧ cutV (x :: xs) (some ((j : Int) + 1 + 1)) none = xs.drop (j + 1) := by
  have e : ((j : Int) + 1 + 1) = ((j + 2 : Nat) : Int) := by omega
  rw [e]
  have e2 : HT.sIx (x :: xs).length 0 (some ((j + 2 : Nat) : Int)) = j + 2 := by
    rw [HT.sIx_nat, List.length_cons]
    omega
  constructor
  · rw [e2]
    omega
  · unfold cutV
    rw [e2, HT.sIx_none]
    show ((xs.drop (j + 1))).take _ = _
    rw [List.take_of_length_le]
    rw [List.length_drop, List.length_cons]
    omega
theorem cut_tail {k : Int} {p : List Int} : ¬ (HT.sIx ((k :: p).map V.int).length 0 (some 1) = 0 ∧ HT.sIx ((k :: p).map V.int).length ((k :: p).map V.int).length none = ((k :: p).map V.int).length) ∧ cutV ((k :: p).map V.int) (some 1) none = p.map V.int := by
  have e2 : HT.sIx ((k :: p).map V.int).length 0 (some ((1 : Nat) : Int)) = 1 := by
    rw [HT.sIx_nat, List.length_map, List.length_cons]
    omega
  have e3 : HT.sIx ((k :: p).map V.int).length 0 (some 1) = 1 := e2
  constructor
  · rw [e3]
    omega
  · unfold cutV
    rw [e3, HT.sIx_none]
    show (p.map V.int).take _ = _
    rw [List.take_of_length_le]
    rw [List.length_map, List.length_map, List.length_cons]
    omega
theorem cut_low' {x : V} {xs : List V} {j : Nat} (h : j < xs.length) : ¬ (HT.sIx (x :: xs).length 0 none = 0 ∧ HT.sIx (x :: xs).length (x :: xs).length (some (1 + (j : Int))) = (x :: xs).length) ∧ cutV (x :: xs) none (some (1 + (j : Int))) = x :: xs.take j := by
  rw [Int.add_comm]
  exact cut_low h
theorem cut_high' {x : V} {xs : List V} {j : Nat} (h : j < xs.length) : ¬ (HT.sIx (x :: xs).length 0 (some (1 + (j : Int) + 1)) = 0 ∧ HT.sIx (x :: xs).length (x :: xs).length none = (x :: xs).length) ∧ cutV (x :: xs) (some (1 + (j : Int) + 1)) none = xs.drop (j + 1) := by
  rw [Int.add_comm 1]
  exact cut_high h
end Ad

/-! Own errors with one field: their class's facts, their making. -/
namespace Ad
open PySem PySem.Spec PySem.Calls PyProof.Rows L2
/-- the class object of an own error with a dict, in one look -/
def oexO (K : PySem.W.Frag) (C : Addr) : Bool := match K.lookup C with
  | some ⟨.type "type", _, .cls cd, sl⟩ => (match cd.mro, sl.toList with
    | .ref D :: bm, [_, _, _, _, some (.builtin n), _] => D == C && (n == "ValueError.__new__" && (!cd.hasDel && (cd.hasDict && PySem.HandSPX.refsVE bm)))
    | _, _ => false)
  | _ => false
theorem oexO_ok {K : PySem.W.Frag} {C : Addr} (q : oexO K C = true) : ∃ nm qn N bs bm sn sub ab col dd k0 k1 k2 k3 k5, K.lookup C = some (excClassObj nm qn C N bs bm true sn sub ab col dd k0 k1 k2 k3 k5 "ValueError.__new__") ∧ PySem.HandSPX.refsVE bm = true := by
  unfold oexO at q
  split at q
  · rename_i dd cd sl look
    split at q
    · rename_i D bm k0 k1 k2 k3 n k5 em es
      rw [Bool.and_eq_true, Bool.and_eq_true, Bool.and_eq_true, Bool.and_eq_true] at q
      obtain ⟨q1, q2, q3, q4, q5⟩ := q
      have eD : D = C := beq_iff_eq.mp q1
      have en : n = "ValueError.__new__" := beq_iff_eq.mp q2
      subst eD en
      obtain ⟨nm, bs, mro, ns, qn, hd, sn, sub, ab, col, del⟩ := cd
      have em' : mro = .ref D :: bm := em
      have e3 : del = false := by
        have z : (!del) = true := q3
        cases del
        · rfl
        · cases z
      have e4 : hd = true := q4
      subst em' e3 e4
      have esl : sl = #[k0, k1, k2, k3, some (.builtin "ValueError.__new__"), k5] := by
        obtain ⟨l⟩ := sl
        have es' : l = _ := es
        rw [es']
      subst esl
      exact ⟨nm, qn, ns, bs, bm, sn, sub, ab, col, dd, k0, k1, k2, k3, k5, look, q5⟩
    · cases q
  · cases q
/-- what is asked of an own error's class -/
structure Er (K : PySem.W.Frag) (C f : Addr) (x : Str) : Prop where
  ox : OexC K C
  xf : XfC K C
  ini : PySem.W.findIn K (.ref C) "__init__" = some (some (.ref f))
  tI : PySem.W.typeIn K (.ref f) = some (.type "function")
  no : PySem.W.findIn K (.ref C) x = some none
def erB (K : PySem.W.Frag) (C f : Addr) (x : Str) : Bool :=
  oexO K C && (decide (PySem.W.findIn K (.ref C) "__setattr__" = some (some (.builtin "object.__setattr__"))) && (decide (PySem.W.subIn K (.ref C) (.type "BaseException") = some true) && (decide (PySem.W.typeIn K (.ref C) = some (.type "type")) && (PySem.W.keepIn K (.ref C) &&
  (xfB K C && (decide (PySem.W.findIn K (.ref C) "__init__" = some (some (.ref f))) && (decide (PySem.W.typeIn K (.ref f) = some (.type "function")) && decide (PySem.W.findIn K (.ref C) x = some none))))))))
theorem erB_ok {K : PySem.W.Frag} {C f : Addr} {x : Str} (h : erB K C f x = true) : Er K C f x := by
  unfold erB at h
  simp only [Bool.and_eq_true, decide_eq_true_eq] at h
  obtain ⟨h1, h2, h3, h4, h5, h6, h7, h8, h9⟩ := h
  exact ⟨⟨oexO_ok h1, h2, h3, h4, h5⟩, xfB_ok h6, h7, h8, h9⟩
/-- __init__(self, v): the field's dict stands, all else as it was -/
def spEr (C : Addr) (x : Str) : Sp := fun vs H Q _ => ∃ (a : Addr) (v : V), vs = [.ref a, v] ∧ H a = some (exo a C none) ∧
  ∀ (d : Addr) (H' : Hp), H d = none → d ≠ a → (∀ b, b ≠ d → b ≠ a → H' b = H b) → H' a = some (exo a C (some d)) → H' d = some (exd d [(x, v)]) → Q .non H'
/-- raise C(v): what is told of the heap -/
theorem mk_row {C : Addr} {x : Str} {H : Hp} {σ : L2.St} {ta : TA} {Q : XK} {v : V} (h : ta σ H fun vs H1 => vs = [v] ∧ H1 = H) (q : ∀ d H', Same H H' → H d = none → H' d = some (.xd [(x, v)]) → Q (.ref C) (some d) H') (mono : ∀ {Q1 Q2 : List V → Hp → Prop}, (∀ vs H1, Q1 vs H1 → Q2 vs H1) → ta σ H Q1 → ta σ H Q2) :
    tMkO C (spEr C x) [] ta σ H Q := by
  refine mono (fun vs H1 e => ?_) h
  obtain ⟨rfl, rfl⟩ := e
  refine ⟨by show 1 ≤ 1000; decide, fun a na => ⟨a, v, rfl, upd_same, fun d H' nd da kp ea ed => ⟨rfl, d, [(x, v)], ea, ed, ?_, ?_⟩⟩⟩
  · rw [upd_ne da] at nd
    exact nd
  · rw [upd_ne da] at nd
    refine q d _ (fun b o e => ?_) nd upd_same
    have h1 : b ≠ a := ne_of_none e na
    have h2 : b ≠ d := ne_of_none e nd
    rw [upd_ne h2, del_ne h1, kp b h2 h1, upd_ne h1]
    exact e
end Ad

/-! Reading texts from the left: as functions over what is left of a text. -/
namespace Rq
open PySem
/-- an answer and what is left, or what is left where the text is wrong -/
inductive Rs (α : Type) where
  | ok (a : α) (s : List Nat)
  | bad (s : List Nat)
def Rs.bind {α β : Type} (r : Rs α) (f : α → List Nat → Rs β) : Rs β := match r with
  | .ok a s => f a s
  | .bad s => .bad s
def Rs.map {α β : Type} (r : Rs α) (f : α → β) : Rs β := match r with
  | .ok a s => .ok (f a) s
  | .bad s => .bad s
abbrev cs (x : Str) : List Nat := x.cps.toList
def LOWER : Str := "abcdefghijklmnopqrstuvwxyz"
def UPPER : Str := "ABCDEFGHIJKLMNOPQRSTUVWXYZ"
def DIGITS : Str := "0123456789"
def WORD : Str := "abcdefghijklmnopqrstuvwxyzABCDEFGHIJKLMNOPQRSTUVWXYZ0123456789_"
def NO : List Str := ["all", "some", "not", "and", "or", "then", "same", "yes"]
def skip : List Nat → List Nat
  | [] => []
  | c :: s => if c = 32 then skip s else c :: s
def isAt (S : List Nat) : List Nat → Bool
  | [] => false
  | c :: _ => S.contains c
def isC (c : Nat) (s : List Nat) : Bool := s.head? == some c
def takeC (c : Nat) : List Nat → Rs Unit
  | [] => .bad []
  | d :: s => if d = c then .ok () s else .bad (d :: s)
/-- at most so many signs of S -/
def runP (S : List Nat) : Nat → List Nat → List Nat × List Nat
  | 0, s => ([], s)
  | _ + 1, [] => ([], [])
  | m + 1, c :: s => if S.contains c then (c :: (runP S m s).1, (runP S m s).2) else ([], c :: s)
def run (S : List Nat) (most : Nat) (s : List Nat) : Rs Str := if isAt (cs WORD) (runP S most s).2 then .bad (runP S most s).2 else .ok ⟨(runP S most s).1.toArray⟩ (runP S most s).2
def smallW (s : List Nat) : Rs Str := if isAt (cs LOWER) s then run (cs LOWER ++ cs DIGITS ++ [95]) 12 s else .bad s
def nameOf (w : Str) (s : List Nat) : Rs Str := if w ∈ NO then .bad s else .ok w s
/-- the head of a term; gr: a great name -/
def head (gr : List Nat → Rs PyData) (s : List Nat) : Rs PyData :=
  if isAt (cs UPPER) (skip s) then gr (skip s) else ((smallW (skip s)).bind nameOf).map fun w => .tuple [.str w]
def isOne : PyData → Bool
  | .tuple [_] => true
  | _ => false
def nameD1 : PyData → List PyData
  | .tuple (x :: _) => [x]
  | _ => []
/-- a term with its arguments: what is begun, and the part at hand -/
def wholeL (gr : List Nat → Rs PyData) : Nat → List (List PyData) → PyData → List Nat → Rs PyData
  | 0, _, _, s => .bad s
  | f + 1, bg, part, s =>
    if isOne part && isC 40 (skip s) then (head gr (skip s).tail).bind fun p r => wholeL gr f (nameD1 part :: bg) p r
    else match bg with
      | [] => .ok part (if isOne part then skip s else s)
      | b :: bs => if isC 41 (skip s) then wholeL gr f bs (.tuple (b ++ [part])) (skip s).tail
        else (takeC 44 (skip s)).bind fun _ r => (head gr r).bind fun p r2 => wholeL gr f ((b ++ [part]) :: bs) p r2
def whole (gr : List Nat → Rs PyData) (part : PyData) (s : List Nat) : Rs PyData := wholeL gr (s.length + 1) [] part s
def endText (s : List Nat) : Rs Unit := match skip s with
  | [] => .ok () []
  | r => .bad r
end Rq

namespace Ad
open PySem PySem.Spec PySem.Calls PyProof.Rows L2
abbrev sRdSign : Stmt := inClass (topS 11) 1
abbrev sRdNext : Stmt := inClass (topS 11) 2
abbrev sRdIsAt : Stmt := inClass (topS 11) 3
abbrev sRdTake : Stmt := inClass (topS 11) 4
abbrev sRdEnd : Stmt := inClass (topS 11) 5
abbrev sRdRun : Stmt := inClass (topS 11) 6
abbrev sRdSmall : Stmt := inClass (topS 11) 7
abbrev sRdName : Stmt := inClass (topS 11) 8
abbrev sRdHas : Stmt := inClass (topS 11) 13
abbrev sRdHead : Stmt := inClass (topS 11) 10
abbrev sRdWhole : Stmt := inClass (topS 11) 12
abbrev sCrGreat : Stmt := inClass (topS 15) 6
abbrev sCrSideB : Stmt := inClass (topS 15) 3
abbrev sCrSide : Stmt := inClass (topS 15) 4
abbrev sCrEqn : Stmt := inClass (topS 15) 5
abbrev sCrEnd : Stmt := inClass (topS 15) 1
abbrev sCrLit : Stmt := inClass (topS 15) 2
abbrev sCrClause : Stmt := inClass (topS 15) 0
abbrev sBtInit : Stmt := inClass (topS 2) 0
abbrev sRdInit : Stmt := inClass (topS 11) 0
end Ad

/-! The head: what the top leaves, by one run. -/
namespace Ad
open PySem PySem.Spec PyProof.Rows L2 GxR
def dd (i : Nat) (x : Str) : He.DefD := ⟨(x, none), x, x, defArgs (topS i), defBody (topS i), defScope (topS i), [], []⟩
def ddBT : He.DefD := ⟨("BadText", some "__init__"), "__init__", "BadText.__init__", defArgs sBtInit, defBody sBtInit, defScope sBtInit, [], []⟩
def ddRI : He.DefD := ⟨("ClauseReader", some "__init__"), "__init__", "Reader.__init__", defArgs sRdInit, defBody sRdInit, defScope sRdInit, [], []⟩
def ddSG : He.DefD := ⟨("ClauseReader", some "sign"), "sign", "Reader.sign", defArgs sRdSign, defBody sRdSign, defScope sRdSign, [], []⟩
def ddNX : He.DefD := ⟨("ClauseReader", some "next_sign"), "next_sign", "Reader.next_sign", defArgs sRdNext, defBody sRdNext, defScope sRdNext, [], []⟩
def ddIA : He.DefD := ⟨("ClauseReader", some "is_at"), "is_at", "Reader.is_at", defArgs sRdIsAt, defBody sRdIsAt, defScope sRdIsAt, [], []⟩
def ddTA : He.DefD := ⟨("ClauseReader", some "take"), "take", "Reader.take", defArgs sRdTake, defBody sRdTake, defScope sRdTake, [], []⟩
def ddEW : He.DefD := ⟨("ClauseReader", some "end_word"), "end_word", "Reader.end_word", defArgs sRdEnd, defBody sRdEnd, defScope sRdEnd, [], []⟩
def ddRU : He.DefD := ⟨("ClauseReader", some "run"), "run", "Reader.run", defArgs sRdRun, defBody sRdRun, defScope sRdRun, [], []⟩
def ddSM : He.DefD := ⟨("ClauseReader", some "small_word"), "small_word", "Reader.small_word", defArgs sRdSmall, defBody sRdSmall, defScope sRdSmall, [], []⟩
def ddNO : He.DefD := ⟨("ClauseReader", some "name_of"), "name_of", "Reader.name_of", defArgs sRdName, defBody sRdName, defScope sRdName, [], []⟩
def ddHE : He.DefD := ⟨("ClauseReader", some "head"), "head", "Reader.head", defArgs sRdHead, defBody sRdHead, defScope sRdHead, [], []⟩
def ddWH : He.DefD := ⟨("ClauseReader", some "whole"), "whole", "Reader.whole", defArgs sRdWhole, defBody sRdWhole, defScope sRdWhole, [], []⟩
def ddHA : He.DefD := ⟨("ClauseReader", some "has_arguments"), "has_arguments", "Reader.has_arguments", defArgs sRdHas, defBody sRdHas, defScope sRdHas, [], []⟩
def ddGR : He.DefD := ⟨("ClauseReader", some "great"), "great", "ClauseReader.great", defArgs sCrGreat, defBody sCrGreat, defScope sCrGreat, [], []⟩
def ddSB : He.DefD := ⟨("ClauseReader", some "side_behind"), "side_behind", "ClauseReader.side_behind", defArgs sCrSideB, defBody sCrSideB, defScope sCrSideB, [], []⟩
def ddSI : He.DefD := ⟨("ClauseReader", some "side"), "side", "ClauseReader.side", defArgs sCrSide, defBody sCrSide, defScope sCrSide, [], []⟩
def ddEQ : He.DefD := ⟨("ClauseReader", some "equation"), "equation", "ClauseReader.equation", defArgs sCrEqn, defBody sCrEqn, defScope sCrEqn, [], []⟩
def ddET : He.DefD := ⟨("ClauseReader", some "end_text"), "end_text", "ClauseReader.end_text", defArgs sCrEnd, defBody sCrEnd, defScope sCrEnd, [], []⟩
def ddLI : He.DefD := ⟨("ClauseReader", some "literal"), "literal", "ClauseReader.literal", defArgs sCrLit, defBody sCrLit, defScope sCrLit, [], []⟩
def ddCL : He.DefD := ⟨("ClauseReader", some "clause"), "clause", "ClauseReader.clause", defArgs sCrClause, defBody sCrClause, defScope sCrClause, [], []⟩
def fnL : List He.DefD := [dd 17 "_term_text", dd 18 "clause_text", dd 19 "_literal_text", dd 20 "clause_of", dd 22 "_law_pen", dd 23 "_law_draw", dd 24 "_law_pick", dd 25 "_law_drawn_order", dd 26 "_law_is_var", dd 27 "_law_put", dd 28 "_law_put_clause", dd 29 "_law_drawn_term", dd 30 "_law_drawn_atom", dd 31 "_law_drawn_literal", dd 32 "_law_gap", dd 33 "_law_loose", dd 34 "_law_relation", dd 35 "_law_why", dd 36 "_law_term_text", dd 37 "_law_literal_text", dd 38 "_law_text", dd 39 "_law_drawn", dd 40 "_law_wrong", dd 41 "law", ddBT, ddRI, ddSG, ddNX, ddIA, ddTA, ddEW, ddRU, ddSM, ddNO, ddHE, ddWH, ddHA, ddGR, ddSB, ddSI, ddEQ, ddET, ddLI, ddCL]
def faL : List He.Fa := [.glo "_term_text", .glo "clause_text", .glo "_literal_text", .glo "clause_of", .glo "_law_pen", .glo "_law_draw", .glo "_law_pick", .glo "_law_drawn_order", .glo "_law_is_var", .glo "_law_put", .glo "_law_put_clause", .glo "_law_drawn_term", .glo "_law_drawn_atom", .glo "_law_drawn_literal", .glo "_law_gap", .glo "_law_loose", .glo "_law_relation", .glo "_law_why", .glo "_law_term_text", .glo "_law_literal_text", .glo "_law_text", .glo "_law_drawn", .glo "_law_wrong", .glo "law", .free "isinstance", .free "int", .free "list", .free "tuple", .free "len", .free "str", .free "range", .glo "ClauseReader", .glo "BadText", .glo "YES", .glo "NO_NAMES", .cls "ClauseReader", .mkr "ClauseReader", .noat "ClauseReader" "text", .noat "ClauseReader" "spot", .meth "ClauseReader" "sign", .meth "ClauseReader" "next_sign", .meth "ClauseReader" "is_at", .meth "ClauseReader" "take", .meth "ClauseReader" "end_word", .meth "ClauseReader" "run", .meth "ClauseReader" "small_word", .meth "ClauseReader" "name_of", .meth "ClauseReader" "head", .meth "ClauseReader" "whole", .meth "ClauseReader" "has_arguments", .meth "ClauseReader" "great", .meth "ClauseReader" "side_behind", .meth "ClauseReader" "side", .meth "ClauseReader" "equation", .meth "ClauseReader" "end_text", .meth "ClauseReader" "literal", .meth "ClauseReader" "clause", .exm "BadText" "BadText" true, .str "LOWER" Rq.LOWER, .str "UPPER" Rq.UPPER, .str "DIGITS" Rq.DIGITS, .str "WORD_SIGNS" Rq.WORD, .int "LONGEST_NAME" 12, .int "MOST_DIGITS" 7]
def tfL : List He.Defn := []
abbrev looseL : List PySem.Str := "SettleError" :: "BadText" :: "LOWER" :: "UPPER" :: "DIGITS" :: "WORD_SIGNS" :: "NO_NAMES" :: "LONGEST_NAME" :: "LONGEST_GREAT_NAME" :: "YES" :: "Reader" :: "MOST_DIGITS" :: "ClauseReader" :: "_term_text" :: "clause_text" :: "_literal_text" :: "clause_of" :: "_law_pen" :: "_law_draw" :: "_law_pick" :: "_law_drawn_order" :: "_law_is_var" :: "_law_put" :: "_law_put_clause" :: "_law_drawn_term" :: "_law_drawn_atom" :: "_law_drawn_literal" :: "_law_gap" :: "_law_loose" :: "_law_relation" :: "_law_why" :: "_law_term_text" :: "_law_literal_text" :: "_law_text" :: "_law_drawn" :: "_law_wrong" :: []
abbrev exL : PySem.W.Frag → Bool := fun K => erB K (He.ga K "BadText") (He.fAd K ("BadText", some "__init__")) "column" && (He.tupB K "YES" [.str "yes"] && He.tupB K "NO_NAMES" [.str "all", .str "some", .str "not", .str "and", .str "or", .str "then", .str "same", .str "yes"])
abbrev RL : PySem.W.OpenRow := PySem.W.OpenLaw.row PySem.Challenge.rw_downtoground_k03_whole_texts_of_clauses
abbrev hkL : PySem.W.Hook := He.hookX 5 faL fnL [] tfL exL
def obL (s : PySem.W.SharedT) : He.AlX := He.obsX 5 faL fnL [] tfL exL (HandSHeadRun.getT s)
theorem obL_eq (s : PySem.W.SharedT) : obL s = hkL.obs s.abs := He.obsX_eq (HandSHeadRun.getT_eq s)
theorem runL (w : World) : HandSHeadRun.RunEq RL (PySem.W.view RL.prog [41]) hkL obL 6000 Ad.looseL w := by
  intro os
  kernel_rfl
end Ad

/-! Reading clauses. -/
namespace Rq
open PySem
abbrev yesD : PyData := .tuple [.str "yes"]
def digV : List Nat → Nat := List.foldl (fun n c => n * 10 + (c - 48)) 0
/-- X and a number -/
def greatC (s : List Nat) : Rs PyData := (takeC 88 s).bind fun _ r => if isAt (cs DIGITS) r then (run (cs DIGITS) (if isC 48 r then 1 else 7) r).map fun w => .int ((digV (cs w) : Nat) : Int) else .bad r
def isI : PyData → Bool
  | .int _ => true
  | _ => false
def sideB (w : Str) (s : List Nat) : Rs PyData := if w = "yes" then .ok yesD s else (nameOf w s).bind fun w r => whole greatC (.tuple [.str w]) r
def side (s : List Nat) : Rs PyData := if isAt (cs UPPER) (skip s) then greatC (skip s) else (smallW (skip s)).bind sideB
def lit3 (b : Bool) (l r : PyData) : PyData := .tuple [.bool b, l, r]
def equation (left : PyData) (s : List Nat) : Rs PyData :=
  if isC 61 (skip s) then (side (skip s).tail).map (lit3 true left)
  else if isC 33 (skip s) then (takeC 61 (skip s).tail).bind fun _ r => (side r).map (lit3 false left)
  else if isI left then .bad (skip s) else .ok (lit3 true left yesD) (skip s)
def literal (s : List Nat) : Rs PyData :=
  if isAt (cs UPPER) (skip s) then (greatC (skip s)).bind equation
  else (smallW (skip s)).bind fun w r => if w = "not" then ((smallW (skip r)).bind sideB).map fun l => lit3 false l yesD else (sideB w r).bind equation
def litsL : Nat → List PyData → List Nat → Rs PyData
  | 0, _, s => .bad s
  | f + 1, acc, s => if isC 124 (skip s) then (literal (skip s).tail).bind fun l r => litsL f (acc ++ [l]) r else (endText (skip s)).map fun _ => .tuple acc
def clause (s : List Nat) : Rs PyData :=
  if isC 91 (skip s) then (takeC 93 (skip s).tail).bind fun _ r => (endText r).map fun _ => .tuple []
  else (literal (skip s)).bind fun l r => litsL (r.length + 1) [l] r
/-- the column of a wrong text -/
def colOf (x : Str) : Option Nat := match clause (cs x) with
  | .ok _ _ => none
  | .bad s => some ((cs x).length - s.length + 1)
def wrongA : List (Str × Nat) := [("", 1), (" ", 2), ("X", 2), ("X1", 3), ("X1 | p", 4), ("not X1", 5), ("not", 4), ("not ", 5),
  ("X01 = a", 3), ("X12345678 = a", 9), ("Y1 = a", 1), ("x1 = Y", 6), ("X1x = a", 3), ("p q", 3), ("p |", 4), ("p | ", 5), ("| p", 1), ("p || q", 4), ("p or q", 3), ("p(", 3),
  ("p()", 3), ("p(yes)", 6), ("p(not)", 6), ("p(a", 4), ("p(X1 X2)", 6), ("p(a,)", 5), ("yes(a)", 4), ("not p = q", 7), ("not not p", 8), ("not and", 8), ("p = not q", 8)]
def wrongB : List (Str × Nat) := [("p = q = r", 7), ("p = ", 5), ("p !", 4), ("p ! q", 4), ("p == q", 4), ("[", 2), ("[ ]", 2), ("[] |", 4), ("[]p", 3), ("p | []", 5), ("(p)", 1), ("all X1: p", 4), ("some", 5),
  ("same = a", 5), ("p & q", 3), ("abcdefghijklm", 13), ("not p(X1) q", 11), ("p& | q", 2), ("X1 != X", 8), ("f(X1, g(X2)) = X3 |", 20)]
def wrongL : List (Str × Nat) := wrongA ++ wrongB
theorem wrong_ok : (wrongL.all fun q => colOf q.1 == some q.2) = true := by decide +kernel
end Rq

/-! What is left is an end of the text; a strange sign is where the reading stops. -/
namespace Rq
open PySem
theorem bind_ok {α β : Type} {a : α} {s : List Nat} {f : α → List Nat → Rs β} : (Rs.ok a s).bind f = f a s := rfl
theorem bind_bad {α β : Type} {s : List Nat} {f : α → List Nat → Rs β} : (Rs.bad s).bind f = .bad s := rfl
theorem map_bind {α β : Type} (r : Rs α) (f : α → β) : r.map f = r.bind fun a s => .ok (f a) s := by cases r <;> rfl
def Rs.left {α : Type} : Rs α → List Nat
  | .ok _ s => s
  | .bad s => s
/-- what is left is an end of what was there -/
def Suf {α : Type} (p : List Nat → Rs α) : Prop := ∀ s, (p s).left <:+ s
theorem skip_suf : ∀ s : List Nat, skip s <:+ s
  | [] => List.suffix_refl _
  | c :: s => by
    unfold skip
    split
    · exact (skip_suf s).trans (List.suffix_cons c s)
    · exact List.suffix_refl _
theorem skip_skip : ∀ s : List Nat, skip (skip s) = skip s
  | [] => rfl
  | c :: s => by
    by_cases h : c = 32
    · have e : skip (c :: s) = skip s := by rw [skip, if_pos h]
      rw [e]
      exact skip_skip s
    · have e : skip (c :: s) = c :: s := by rw [skip, if_neg h]
      rw [e, e]
theorem tail_suf (s : List Nat) : s.tail <:+ s := List.tail_suffix s
theorem suf_ok {α : Type} (a : α) : Suf fun s => Rs.ok a s := fun s => List.suffix_refl _
theorem suf_bad {α : Type} : Suf fun s => (Rs.bad s : Rs α) := fun s => List.suffix_refl _
theorem suf_bind {α β : Type} {p : List Nat → Rs α} {k : α → List Nat → Rs β} (hp : Suf p) (hk : ∀ a, Suf (k a)) : Suf fun s => (p s).bind k := fun s => by
  have h := hp s
  show ((p s).bind k).left <:+ s
  cases e : p s with
  | ok a r =>
    rw [e] at h
    exact (hk a r).trans h
  | bad r =>
    rw [e] at h
    exact h
theorem suf_map {α β : Type} {p : List Nat → Rs α} {f : α → β} (hp : Suf p) : Suf fun s => (p s).map f := fun s => by
  have h := hp s
  show ((p s).map f).left <:+ s
  cases e : p s with
  | ok a r =>
    rw [e] at h
    exact h
  | bad r =>
    rw [e] at h
    exact h
theorem suf_ite {α : Type} {b : List Nat → Bool} {p q : List Nat → Rs α} (hp : Suf p) (hq : Suf q) : Suf fun s => if b s then p s else q s := fun s => by
  show (if b s then p s else q s).left <:+ s
  split
  · exact hp s
  · exact hq s
theorem suf_after {α : Type} {p : List Nat → Rs α} {g : List Nat → List Nat} (hp : Suf p) (hg : ∀ s, g s <:+ s) : Suf fun s => p (g s) := fun s => (hp (g s)).trans (hg s)
theorem suf_take (c : Nat) : Suf (takeC c) := fun s => by
  cases s with
  | nil => exact List.suffix_refl _
  | cons d s =>
    show (if d = c then Rs.ok () s else Rs.bad (d :: s)).left <:+ d :: s
    by_cases h : d = c
    · rw [if_pos h]
      exact List.suffix_cons d s
    · rw [if_neg h]
      exact List.suffix_refl _
theorem runP_suf (S : List Nat) : ∀ (m : Nat) (s : List Nat), (runP S m s).2 <:+ s
  | 0, s => List.suffix_refl _
  | _ + 1, [] => List.suffix_refl _
  | m + 1, c :: s => by
    unfold runP
    split
    · exact (runP_suf S m s).trans (List.suffix_cons c s)
    · exact List.suffix_refl _
theorem suf_run (S : List Nat) (m : Nat) : Suf (run S m) := fun s => by
  unfold run
  split
  · exact runP_suf S m s
  · exact runP_suf S m s
theorem suf_smallW : Suf smallW := fun s => by
  unfold smallW
  split
  · exact suf_run _ _ s
  · exact List.suffix_refl _
theorem suf_nameOf (w : Str) : Suf (nameOf w) := fun s => by
  unfold nameOf
  split <;> exact List.suffix_refl _
section
variable {gr : List Nat → Rs PyData}
theorem suf_head (hg : Suf gr) : Suf (head gr) := fun s => by
  unfold head
  split
  · exact (hg (skip s)).trans (skip_suf s)
  · exact suf_after (suf_map (f := fun w => PyData.tuple [.str w]) (suf_bind suf_smallW suf_nameOf)) skip_suf s
theorem suf_wholeL (hg : Suf gr) : ∀ (f : Nat) (bg : List (List PyData)) (part : PyData), Suf (wholeL gr f bg part)
  | 0, _, _ => suf_bad
  | f + 1, bg, part => fun s => by
    unfold wholeL
    split
    · exact ((suf_bind (suf_head hg) fun p => suf_wholeL hg f (nameD1 part :: bg) p) (skip s).tail).trans ((tail_suf _).trans (skip_suf s))
    · cases bg with
      | nil =>
        show (if isOne part then skip s else s) <:+ s
        split
        · exact skip_suf s
        · exact List.suffix_refl _
      | cons b bs =>
        show (if isC 41 (skip s) = true then _ else _ : Rs PyData).left <:+ s
        split
        · exact (suf_wholeL hg f bs _ _).trans ((tail_suf _).trans (skip_suf s))
        · exact ((suf_bind (suf_take 44) fun _ => suf_bind (suf_head hg) fun p => suf_wholeL hg f ((b ++ [part]) :: bs) p) (skip s)).trans (skip_suf s)
theorem isC_cons {c : Nat} {s : List Nat} (h : isC c s = true) : s = c :: s.tail := by
  cases s with
  | nil => cases h
  | cons d s =>
    have : d = c := by
      unfold isC at h
      simp at h
      exact h
    rw [this]
    rfl
theorem isC_len {c : Nat} {s : List Nat} (h : isC c s = true) : s.tail.length + 1 = s.length := by
  have e := congrArg List.length (isC_cons h)
  rw [List.length_cons] at e
  omega
/-- enough is enough -/
theorem wholeL_fuel (hg : Suf gr) : ∀ (f f' : Nat) (bg : List (List PyData)) (part : PyData) (s : List Nat), s.length < f → s.length < f' → wholeL gr f bg part s = wholeL gr f' bg part s
  | 0, _, _, _, _, h, _ => absurd h (Nat.not_lt_zero _)
  | _ + 1, 0, _, _, _, _, h => absurd h (Nat.not_lt_zero _)
  | f + 1, f' + 1, bg, part, s, h, h' => by
    have ls := (skip_suf s).length_le
    have go : ∀ {bg' : List (List PyData)} {r : List Nat}, r.length < s.length → (head gr r).bind (fun p r2 => wholeL gr f bg' p r2) = (head gr r).bind (fun p r2 => wholeL gr f' bg' p r2) := fun {bg' r} hr => by
      have hs := suf_head hg r
      cases e : head gr r with
      | bad r2 => rfl
      | ok p r2 =>
        rw [e] at hs
        have l2 := (show r2 <:+ r from hs).length_le
        exact wholeL_fuel hg f f' bg' p r2 (by omega) (by omega)
    unfold wholeL
    split
    · rename_i hc
      have lt := isC_len (Bool.and_eq_true_iff.mp hc).2
      exact go (by omega)
    · cases bg with
      | nil => rfl
      | cons b bs =>
        show (if isC 41 (skip s) = true then _ else _) = (if isC 41 (skip s) = true then _ else _)
        split
        · rename_i hc
          have lt := isC_len hc
          exact wholeL_fuel hg f f' bs _ _ (by omega) (by omega)
        · cases e : takeC 44 (skip s) with
          | bad r => rfl
          | ok u r =>
            have : r.length < s.length := by
              cases ek : skip s with
              | nil =>
                rw [ek] at e
                cases e
              | cons d s' =>
                rw [ek] at e ls
                have e : (if d = 44 then Rs.ok () s' else Rs.bad (d :: s')) = Rs.ok u r := e
                rw [List.length_cons] at ls
                by_cases hd : d = 44
                · rw [if_pos hd] at e
                  have : s' = r := by injection e
                  rw [← this]
                  omega
                · rw [if_neg hd] at e
                  cases e
            exact go this
theorem suf_whole (hg : Suf gr) (part : PyData) : Suf (whole gr part) := fun s => suf_wholeL hg _ _ _ s
end
theorem suf_greatC : Suf greatC := fun s => by
  unfold greatC
  refine suf_bind (suf_take 88) (fun _ r => ?_) s
  show (if isAt (cs DIGITS) r = true then _ else _ : Rs PyData).left <:+ r
  split
  · exact suf_map (f := fun w => PyData.int ((digV (cs w) : Nat) : Int)) (suf_run _ _) r
  · exact List.suffix_refl _
theorem suf_sideB (w : Str) : Suf (sideB w) := fun s => by
  unfold sideB
  split
  · exact List.suffix_refl _
  · exact suf_bind (suf_nameOf w) (fun w => suf_whole suf_greatC _) s
theorem suf_side : Suf side := fun s => by
  unfold side
  split
  · exact (suf_greatC _).trans (skip_suf s)
  · exact (suf_bind suf_smallW suf_sideB _).trans (skip_suf s)
theorem suf_equation (l : PyData) : Suf (equation l) := fun s => by
  unfold equation
  split
  · exact (suf_map (f := lit3 true l) suf_side _).trans ((tail_suf _).trans (skip_suf s))
  · split
    · exact (suf_bind (suf_take 61) (fun _ => suf_map (f := lit3 false l) suf_side) _).trans ((tail_suf _).trans (skip_suf s))
    · split <;> exact skip_suf s
theorem suf_literal : Suf literal := fun s => by
  unfold literal
  split
  · exact (suf_bind suf_greatC suf_equation _).trans (skip_suf s)
  · refine (suf_bind suf_smallW (fun w r => ?_) _).trans (skip_suf s)
    show (if w = "not" then _ else _ : Rs PyData).left <:+ r
    split
    · exact (suf_map (f := fun l => lit3 false l yesD) (suf_bind suf_smallW suf_sideB) _).trans (skip_suf r)
    · exact suf_bind (suf_sideB w) suf_equation r
theorem suf_endText : Suf endText := fun s => by
  unfold endText
  cases e : skip s with
  | nil => exact List.nil_suffix
  | cons c r =>
    have h := skip_suf s
    rw [e] at h
    exact h
theorem suf_litsL : ∀ (f : Nat) (acc : List PyData), Suf (litsL f acc)
  | 0, _ => suf_bad
  | f + 1, acc => fun s => by
    unfold litsL
    split
    · exact (suf_bind suf_literal (fun l => suf_litsL f (acc ++ [l])) _).trans ((tail_suf _).trans (skip_suf s))
    · exact (suf_map (f := fun _ => PyData.tuple acc) suf_endText _).trans (skip_suf s)
theorem litsL_fuel : ∀ (f f' : Nat) (acc : List PyData) (s : List Nat), s.length < f → s.length < f' → litsL f acc s = litsL f' acc s
  | 0, _, _, _, h, _ => absurd h (Nat.not_lt_zero _)
  | _ + 1, 0, _, _, _, h => absurd h (Nat.not_lt_zero _)
  | f + 1, f' + 1, acc, s, h, h' => by
    have ls := (skip_suf s).length_le
    unfold litsL
    split
    · rename_i hc
      have lt := isC_len hc
      have hs := suf_literal (skip s).tail
      cases e : literal (skip s).tail with
      | bad r => rfl
      | ok l r =>
        rw [e] at hs
        have l2 := (show r <:+ (skip s).tail from hs).length_le
        exact litsL_fuel f f' _ r (by omega) (by omega)
    · rfl
theorem suf_clause : Suf clause := fun s => by
  unfold clause
  split
  · exact (suf_bind (suf_take 93) (fun _ => suf_map (f := fun _ => PyData.tuple []) suf_endText) _).trans ((tail_suf _).trans (skip_suf s))
  · refine (suf_bind suf_literal (fun l r => ?_) _).trans (skip_suf s)
    exact suf_litsL _ _ r
/-- how the readings with and without a strange sign go together -/
def LocR {α : Type} (c : Nat) (A B : List Nat) (r0 r1 : Rs α) : Prop :=
  r1 = .bad (c :: B) ∨ (∃ v, r1 = .ok v (c :: B)) ∨ (∃ v A2, A2.length ≤ A.length ∧ r1 = .ok v (A2 ++ c :: B) ∧ r0 = .ok v (A2 ++ B)) ∨ ∃ A2, A2.length ≤ A.length ∧ r1 = .bad (A2 ++ c :: B) ∧ r0 = .bad (A2 ++ B)
def Loc {α : Type} (c : Nat) (p : List Nat → Rs α) : Prop := ∀ A B, LocR c A B (p (A ++ B)) (p (A ++ c :: B))
theorem LocR.weak {α : Type} {c : Nat} {A A' B : List Nat} {r0 r1 : Rs α} (h : LocR c A B r0 r1) (le : A.length ≤ A'.length) : LocR c A' B r0 r1 := by
  rcases h with h | h | ⟨v, A2, l, e1, e2⟩ | ⟨A2, l, e1, e2⟩
  · exact .inl h
  · exact .inr (.inl h)
  · exact .inr (.inr (.inl ⟨v, A2, Nat.le_trans l le, e1, e2⟩))
  · exact .inr (.inr (.inr ⟨A2, Nat.le_trans l le, e1, e2⟩))
/-- at the strange sign itself: whatever the other reading does -/
theorem Loc.here {α : Type} {c : Nat} {p : List Nat → Rs α} (h : Loc c p) {A B : List Nat} {r0 : Rs α} : LocR c A B r0 (p (c :: B)) := by
  rcases h [] B with h | h | ⟨v, A2, l, e1, _⟩ | ⟨A2, l, e1, _⟩
  · exact .inl h
  · exact .inr (.inl h)
  · have : A2 = [] := List.length_eq_zero_iff.mp (Nat.le_zero.mp l)
    subst this
    exact .inr (.inl ⟨v, e1⟩)
  · have : A2 = [] := List.length_eq_zero_iff.mp (Nat.le_zero.mp l)
    subst this
    exact .inl e1
theorem loc_ok {α : Type} {c : Nat} (a : α) : Loc c fun s => Rs.ok a s := fun A B => .inr (.inr (.inl ⟨a, A, Nat.le_refl _, rfl, rfl⟩))
theorem loc_bad {α : Type} {c : Nat} : Loc c fun s => (Rs.bad s : Rs α) := fun A B => .inr (.inr (.inr ⟨A, Nat.le_refl _, rfl, rfl⟩))
theorem loc_bind {α β : Type} {c : Nat} {p : List Nat → Rs α} {k : α → List Nat → Rs β} (hp : Loc c p) (hk : ∀ a, Loc c (k a)) : Loc c fun s => (p s).bind k := fun A B => by
  show LocR c A B ((p (A ++ B)).bind k) ((p (A ++ c :: B)).bind k)
  rcases hp A B with h | ⟨v, h⟩ | ⟨v, A2, l, e1, e2⟩ | ⟨A2, l, e1, e2⟩
  · rw [h]
    exact .inl rfl
  · rw [h]
    exact (hk v).here
  · rw [e1, e2]
    exact (hk v A2 B).weak l
  · rw [e1, e2]
    exact .inr (.inr (.inr ⟨A2, l, rfl, rfl⟩))
theorem loc_map {α β : Type} {c : Nat} {p : List Nat → Rs α} {f : α → β} (hp : Loc c p) : Loc c fun s => (p s).map f := by
  have h : Loc c fun s => (p s).bind fun a s => Rs.ok (f a) s := loc_bind hp fun a => loc_ok (f a)
  intro A B
  have := h A B
  show LocR c A B ((p (A ++ B)).map f) ((p (A ++ c :: B)).map f)
  rw [map_bind, map_bind]
  exact this
theorem skip_app (c : Nat) (hc : c ≠ 32) : ∀ A B : List Nat, skip (A ++ c :: B) = c :: B ∨ ∃ a A', a :: A' <:+ A ∧ skip (A ++ c :: B) = a :: A' ++ c :: B ∧ skip (A ++ B) = a :: A' ++ B
  | [], B => .inl (by show skip (c :: B) = c :: B; unfold skip; rw [if_neg hc])
  | a :: A, B => by
    by_cases h : a = 32
    · have e1 : skip (a :: A ++ c :: B) = skip (A ++ c :: B) := by
        show skip (a :: (A ++ c :: B)) = _
        rw [skip, if_pos h]
      have e2 : skip (a :: A ++ B) = skip (A ++ B) := by
        show skip (a :: (A ++ B)) = _
        rw [skip, if_pos h]
      rw [e1, e2]
      rcases skip_app c hc A B with z | ⟨a', A', s, z1, z2⟩
      · exact .inl z
      · exact .inr ⟨a', A', s.trans (List.suffix_cons a A), z1, z2⟩
    · refine .inr ⟨a, A, List.suffix_refl _, ?_, ?_⟩
      · show skip (a :: (A ++ c :: B)) = _
        rw [skip, if_neg h]
        rfl
      · show skip (a :: (A ++ B)) = _
        rw [skip, if_neg h]
        rfl
theorem loc_skip {α : Type} {c : Nat} (hc : c ≠ 32) {p : List Nat → Rs α} (hp : Loc c p) : Loc c fun s => p (skip s) := fun A B => by
  show LocR c A B (p (skip (A ++ B))) (p (skip (A ++ c :: B)))
  rcases skip_app c hc A B with z | ⟨a, A', s, z1, z2⟩
  · rw [z]
    exact hp.here
  · rw [z1, z2]
    exact (hp (a :: A') B).weak s.length_le
theorem loc_at {α : Type} {c : Nat} {S : List Nat} (hc : S.contains c = false) {p q : List Nat → Rs α} (hp : Loc c p) (hq : Loc c q) : Loc c fun s => if isAt S s then p s else q s := fun A B => by
  cases A with
  | nil =>
    show LocR c [] B _ (if isAt S (c :: B) = true then p (c :: B) else q (c :: B))
    rw [if_neg (by show ¬ S.contains c = true; rw [hc]; exact Bool.false_ne_true)]
    exact hq.here
  | cons a A =>
    show LocR c (a :: A) B (if S.contains a = true then p (a :: A ++ B) else q (a :: A ++ B)) (if S.contains a = true then p (a :: A ++ c :: B) else q (a :: A ++ c :: B))
    by_cases h : S.contains a = true
    · rw [if_pos h, if_pos h]
      exact hp (a :: A) B
    · rw [if_neg h, if_neg h]
      exact hq (a :: A) B
theorem isC_eq (d a : Nat) (s : List Nat) : isC d (a :: s) = decide (a = d) := by
  unfold isC
  show (some a == some d) = _
  by_cases h : a = d
  · rw [h]
    simp
  · rw [decide_eq_false h]
    simp [h]
theorem loc_c {α : Type} {c d : Nat} (hc : c ≠ d) {p q : List Nat → Rs α} (hp : Loc c p) (hq : Loc c q) : Loc c fun s => if isC d s then p s.tail else q s := fun A B => by
  cases A with
  | nil =>
    show LocR c [] B _ (if isC d (c :: B) = true then p B else q (c :: B))
    rw [isC_eq, decide_eq_false hc, if_neg Bool.false_ne_true]
    exact hq.here
  | cons a A =>
    show LocR c (a :: A) B (if isC d (a :: (A ++ B)) = true then p (A ++ B) else q (a :: A ++ B)) (if isC d (a :: (A ++ c :: B)) = true then p (A ++ c :: B) else q (a :: A ++ c :: B))
    rw [isC_eq, isC_eq]
    by_cases h : a = d
    · rw [decide_eq_true h, if_pos rfl, if_pos rfl]
      exact (hp A B).weak (Nat.le_succ _)
    · rw [decide_eq_false h, if_neg Bool.false_ne_true, if_neg Bool.false_ne_true]
      exact hq (a :: A) B
theorem loc_take {c d : Nat} (hc : c ≠ d) : Loc c (takeC d) := fun A B => by
  cases A with
  | nil =>
    show LocR c [] B _ (if c = d then .ok () B else .bad (c :: B))
    rw [if_neg hc]
    exact .inl rfl
  | cons a A =>
    show LocR c (a :: A) B (if a = d then .ok () (A ++ B) else .bad (a :: (A ++ B))) (if a = d then .ok () (A ++ c :: B) else .bad (a :: (A ++ c :: B)))
    by_cases h : a = d
    · rw [if_pos h, if_pos h]
      exact .inr (.inr (.inl ⟨(), A, Nat.le_succ _, rfl, rfl⟩))
    · rw [if_neg h, if_neg h]
      exact .inr (.inr (.inr ⟨a :: A, Nat.le_refl _, rfl, rfl⟩))
theorem runP_app (S : List Nat) (c : Nat) (hc : S.contains c = false) : ∀ (m : Nat) (A B : List Nat), (∃ w, runP S m (A ++ c :: B) = (w, c :: B)) ∨ ∃ w a A', a :: A' <:+ A ∧ runP S m (A ++ c :: B) = (w, a :: A' ++ c :: B) ∧ runP S m (A ++ B) = (w, a :: A' ++ B)
  | 0, [], B => .inl ⟨[], rfl⟩
  | 0, a :: A, B => .inr ⟨[], a, A, List.suffix_refl _, rfl, rfl⟩
  | m + 1, [], B => by
    refine .inl ⟨[], ?_⟩
    show runP S (m + 1) (c :: B) = _
    rw [runP, if_neg (by rw [hc]; exact Bool.false_ne_true)]
  | m + 1, a :: A, B => by
    have u : ∀ X : List Nat, runP S (m + 1) (a :: X) = if S.contains a then (a :: (runP S m X).1, (runP S m X).2) else ([], a :: X) := fun X => by rw [runP]
    have e1 : runP S (m + 1) (a :: A ++ c :: B) = _ := u (A ++ c :: B)
    have e2 : runP S (m + 1) (a :: A ++ B) = _ := u (A ++ B)
    rw [e1, e2]
    by_cases h : S.contains a = true
    · rw [if_pos h, if_pos h]
      rcases runP_app S c hc m A B with ⟨w, z⟩ | ⟨w, a', A', s, z1, z2⟩
      · rw [z]
        exact .inl ⟨a :: w, rfl⟩
      · rw [z1, z2]
        exact .inr ⟨a :: w, a', A', s.trans (List.suffix_cons a A), rfl, rfl⟩
    · rw [if_neg h, if_neg h]
      exact .inr ⟨[], a, A, List.suffix_refl _, rfl, rfl⟩
theorem loc_run {S : List Nat} {c : Nat} (hc : S.contains c = false) (hw : (cs WORD).contains c = false) (m : Nat) : Loc c (run S m) := fun A B => by
  unfold run
  rcases runP_app S c hc m A B with ⟨w, z⟩ | ⟨w, a, A', s, z1, z2⟩
  · rw [z]
    show LocR c A B _ (if (cs WORD).contains c = true then .bad (c :: B) else .ok (⟨w.toArray⟩ : Str) (c :: B))
    have e : (if (cs WORD).contains c = true then Rs.bad (c :: B) else Rs.ok (⟨w.toArray⟩ : Str) (c :: B)) = Rs.ok (⟨w.toArray⟩ : Str) (c :: B) := if_neg (by rw [hw]; exact Bool.false_ne_true)
    rw [e]
    exact .inr (.inl ⟨_, rfl⟩)
  · rw [z1, z2]
    show LocR c A B (if (cs WORD).contains a = true then .bad (a :: A' ++ B) else .ok (⟨w.toArray⟩ : Str) (a :: A' ++ B)) (if (cs WORD).contains a = true then .bad (a :: A' ++ c :: B) else .ok (⟨w.toArray⟩ : Str) (a :: A' ++ c :: B))
    by_cases h : (cs WORD).contains a = true
    · rw [if_pos h, if_pos h]
      exact .inr (.inr (.inr ⟨a :: A', s.length_le, rfl, rfl⟩))
    · rw [if_neg h, if_neg h]
      exact .inr (.inr (.inl ⟨_, a :: A', s.length_le, rfl, rfl⟩))
/-- a sign that no text has -/
structure Odd (c : Nat) : Prop where
  w : (cs WORD).contains c = false
  p : c ≠ 32 ∧ c ≠ 40 ∧ c ≠ 41 ∧ c ≠ 44 ∧ c ≠ 88 ∧ c ≠ 61 ∧ c ≠ 33 ∧ c ≠ 124 ∧ c ≠ 91 ∧ c ≠ 93
theorem in_word {c : Nat} (h : (cs WORD).contains c = false) : (cs LOWER).contains c = false ∧ (cs UPPER).contains c = false ∧ (cs DIGITS).contains c = false ∧ (cs LOWER ++ cs DIGITS ++ [95]).contains c = false ∧ (cs UPPER ++ cs DIGITS).contains c = false := by
  have key : ∀ S : List Nat, (S.all fun d => (cs WORD).contains d) = true → S.contains c = false := fun S hS => by
    cases z : S.contains c with
    | false => rfl
    | true =>
      have := List.all_eq_true.mp hS c (List.contains_iff_mem.mp z)
      rw [h] at this
      cases this
  exact ⟨key _ (by decide +kernel), key _ (by decide +kernel), key _ (by decide +kernel), key _ (by decide +kernel), key _ (by decide +kernel)⟩
section
variable {c : Nat} (o : Odd c)
include o
theorem loc_smallW : Loc c smallW := loc_at (in_word o.w).1 (loc_run (in_word o.w).2.2.2.1 o.w 12) loc_bad
theorem loc_nameOf (w : Str) : Loc c (nameOf w) := fun A B => by
  unfold nameOf
  split
  · exact loc_bad A B
  · exact loc_ok w A B
theorem loc_head {gr : List Nat → Rs PyData} (hg : Loc c gr) : Loc c (head gr) := loc_skip o.p.1 (p := fun s => if isAt (cs UPPER) s then gr s else ((smallW s).bind nameOf).map fun w => PyData.tuple [.str w]) (loc_at (in_word o.w).2.1 hg (loc_map (loc_bind (loc_smallW o) (loc_nameOf o))))
theorem loc_wholeL {gr : List Nat → Rs PyData} (hg : Loc c gr) : ∀ (f : Nat) (bg : List (List PyData)) (part : PyData), Loc c (wholeL gr f bg part)
  | 0, _, _ => loc_bad
  | f + 1, bg, part => by
    obtain ⟨p1, p2, p3, p4, _⟩ := o.p
    have hh : ∀ bg', Loc c fun s => (head gr s).bind fun p r => wholeL gr f bg' p r := fun bg' => loc_bind (loc_head o hg) fun p => loc_wholeL hg f bg' p
    cases e1 : isOne part with
    | true =>
      cases bg with
      | nil =>
        have h := loc_skip p1 (loc_c (d := 40) p2 (hh [nameD1 part]) (loc_ok part))
        intro A B
        have := h A B
        unfold wholeL
        rw [e1, Bool.true_and, Bool.true_and]
        exact this
      | cons b bs =>
        have h := loc_skip p1 (loc_c (d := 40) p2 (hh (nameD1 part :: b :: bs)) (loc_c (d := 41) p3 (loc_wholeL hg f bs (.tuple (b ++ [part]))) (loc_bind (loc_take (d := 44) p4) fun _ => hh ((b ++ [part]) :: bs))))
        intro A B
        have := h A B
        unfold wholeL
        rw [e1, Bool.true_and, Bool.true_and]
        exact this
    | false =>
      cases bg with
      | nil =>
        intro A B
        unfold wholeL
        rw [e1, Bool.false_and, Bool.false_and]
        exact loc_ok part A B
      | cons b bs =>
        have h := loc_skip p1 (loc_c (d := 41) p3 (loc_wholeL hg f bs (.tuple (b ++ [part]))) (loc_bind (loc_take (d := 44) p4) fun _ => hh ((b ++ [part]) :: bs)))
        intro A B
        have := h A B
        unfold wholeL
        rw [e1, Bool.false_and, Bool.false_and]
        exact this
theorem loc_whole {gr : List Nat → Rs PyData} (hs : Suf gr) (hg : Loc c gr) (part : PyData) : Loc c (whole gr part) := fun A B => by
  unfold whole
  rw [wholeL_fuel hs ((A ++ B).length + 1) ((A ++ c :: B).length + 1) [] part (A ++ B) (Nat.lt_succ_self _) (by rw [List.length_append, List.length_append, List.length_cons]; omega)]
  exact loc_wholeL o hg _ [] part A B
theorem loc_greatC : Loc c greatC := by
  refine loc_bind (loc_take o.p.2.2.2.2.1) fun _ => loc_at (in_word o.w).2.2.1 ?_ loc_bad
  have h1 : ∀ m, Loc c fun r => (run (cs DIGITS) m r).map fun w => PyData.int ((digV (cs w) : Nat) : Int) := fun m => loc_map (loc_run (in_word o.w).2.2.1 o.w m)
  intro A B
  cases A with
  | nil => 
    show LocR c [] B _ ((run (cs DIGITS) _ (c :: B)).map _)
    exact (h1 _).here
  | cons a A =>
    have e : ∀ X, isC 48 (a :: X) = decide (a = 48) := fun X => isC_eq 48 a X
    show LocR c (a :: A) B ((run (cs DIGITS) (if isC 48 (a :: (A ++ B)) = true then 1 else 7) (a :: A ++ B)).map _) ((run (cs DIGITS) (if isC 48 (a :: (A ++ c :: B)) = true then 1 else 7) (a :: A ++ c :: B)).map _)
    rw [e, e]
    exact h1 _ (a :: A) B
theorem loc_sideB (w : Str) : Loc c (sideB w) := fun A B => by
  unfold sideB
  split
  · exact loc_ok yesD A B
  · exact loc_bind (loc_nameOf o w) (fun w => loc_whole o suf_greatC (loc_greatC o) _) A B
theorem loc_side : Loc c side := loc_skip o.p.1 (loc_at (in_word o.w).2.1 (loc_greatC o) (loc_bind (loc_smallW o) (loc_sideB o)))
theorem loc_equation (l : PyData) : Loc c (equation l) := by
  obtain ⟨p1, p2, p3, p4, p5, p6, p7, _⟩ := o.p
  refine loc_skip p1 (p := fun s => if isC 61 s then (side s.tail).map (lit3 true l) else if isC 33 s then (takeC 61 s.tail).bind fun _ r => (side r).map (lit3 false l) else if isI l then .bad s else .ok (lit3 true l yesD) s) ?_
  refine loc_c (d := 61) p6 (p := fun s => (side s).map (lit3 true l)) (loc_map (loc_side o)) (loc_c (d := 33) p7 (p := fun s => (takeC 61 s).bind fun _ r => (side r).map (lit3 false l)) (loc_bind (loc_take p6) fun _ => loc_map (loc_side o)) ?_)
  cases isI l with
  | true => exact loc_bad
  | false => exact loc_ok _
theorem loc_literal : Loc c literal := by
  obtain ⟨p1, _⟩ := o.p
  refine loc_skip p1 (p := fun s => if isAt (cs UPPER) s then (greatC s).bind equation else (smallW s).bind fun w r => if w = "not" then ((smallW (skip r)).bind sideB).map fun l => lit3 false l yesD else (sideB w r).bind equation) ?_
  refine loc_at (in_word o.w).2.1 (loc_bind (loc_greatC o) (loc_equation o)) (loc_bind (loc_smallW o) fun w => ?_)
  by_cases h : w = "not"
  · intro A B
    have := loc_skip p1 (p := fun s => ((smallW s).bind sideB).map fun l => lit3 false l yesD) (loc_map (loc_bind (loc_smallW o) (loc_sideB o))) A B
    show LocR c A B (if w = "not" then _ else _) (if w = "not" then _ else _)
    rw [if_pos h, if_pos h]
    exact this
  · intro A B
    have := loc_bind (loc_sideB o w) (loc_equation o) A B
    show LocR c A B (if w = "not" then _ else _) (if w = "not" then _ else _)
    rw [if_neg h, if_neg h]
    exact this
theorem loc_endText : Loc c endText := by
  refine loc_skip o.p.1 (p := fun s => match s with | [] => Rs.ok () [] | r => .bad r) fun A B => ?_
  cases A with
  | nil => exact .inl rfl
  | cons a A => exact .inr (.inr (.inr ⟨a :: A, Nat.le_refl _, rfl, rfl⟩))
theorem loc_litsL : ∀ (f : Nat) (acc : List PyData), Loc c (litsL f acc)
  | 0, _ => loc_bad
  | f + 1, acc => by
    obtain ⟨p1, p2, p3, p4, p5, p6, p7, p8, _⟩ := o.p
    exact loc_skip p1 (p := fun s => if isC 124 s then (literal s.tail).bind fun l r => litsL f (acc ++ [l]) r else (endText s).map fun _ => PyData.tuple acc) (loc_c (d := 124) p8 (p := fun s => (literal s).bind fun l r => litsL f (acc ++ [l]) r) (loc_bind (loc_literal o) fun l => loc_litsL f (acc ++ [l])) (loc_map (loc_endText o)))
theorem loc_clause : Loc c clause := by
  obtain ⟨p1, p2, p3, p4, p5, p6, p7, p8, p9, p10⟩ := o.p
  refine loc_skip p1 (p := fun s => if isC 91 s then (takeC 93 s.tail).bind fun _ r => (endText r).map fun _ => PyData.tuple [] else (literal s).bind fun l r => litsL (r.length + 1) [l] r) ?_
  refine loc_c (d := 91) p9 (p := fun s => (takeC 93 s).bind fun _ r => (endText r).map fun _ => PyData.tuple []) (loc_bind (loc_take p10) fun _ => loc_map (loc_endText o)) (loc_bind (loc_literal o) fun l A B => ?_)
  show LocR c A B (litsL ((A ++ B).length + 1) [l] (A ++ B)) (litsL ((A ++ c :: B).length + 1) [l] (A ++ c :: B))
  rw [litsL_fuel ((A ++ B).length + 1) ((A ++ c :: B).length + 1) [l] (A ++ B) (Nat.lt_succ_self _) (by rw [List.length_append, List.length_append, List.length_cons]; omega)]
  exact loc_litsL o _ [l] A B
end
theorem endText_end {s r : List Nat} {u : Unit} (h : endText s = .ok u r) : r = [] := by
  unfold endText at h
  cases e : skip s with
  | nil =>
    rw [e] at h
    cases h
    rfl
  | cons c t =>
    rw [e] at h
    cases h
theorem litsL_end : ∀ (f : Nat) (acc : List PyData) (s r : List Nat) (v : PyData), litsL f acc s = .ok v r → r = []
  | 0, _, _, _, _, h => by cases h
  | f + 1, acc, s, r, v, h => by
    unfold litsL at h
    split at h
    · cases e : literal (skip s).tail with
      | bad t =>
        rw [e] at h
        cases h
      | ok l t =>
        rw [e] at h
        exact litsL_end f _ t r v h
    · cases e : endText (skip s) with
      | bad t =>
        rw [e] at h
        cases h
      | ok u t =>
        have := endText_end e
        rw [e] at h
        cases h
        exact this
theorem clause_end {s r : List Nat} {v : PyData} (h : clause s = .ok v r) : r = [] := by
  unfold clause at h
  split at h
  · cases e : takeC 93 (skip s).tail with
    | bad t =>
      rw [e] at h
      cases h
    | ok u t =>
      rw [e] at h
      cases e2 : endText t with
      | bad t2 =>
        have h : (Rs.bad t2 : Rs PyData) = .ok v r := by
          have h : (endText t).map (fun _ => PyData.tuple []) = .ok v r := h
          rw [e2] at h
          exact h
        cases h
      | ok u2 t2 =>
        have h : (Rs.ok (PyData.tuple []) t2 : Rs PyData) = .ok v r := by
          have h : (endText t).map (fun _ => PyData.tuple []) = .ok v r := h
          rw [e2] at h
          exact h
        cases h
        exact endText_end e2
  · cases e : literal (skip s) with
    | bad t =>
      rw [e] at h
      cases h
    | ok l t =>
      rw [e] at h
      exact litsL_end _ _ _ _ _ h
/-- a strange sign anywhere in a right text is what is told -/
theorem clause_odd {c : Nat} (o : Odd c) {A B : List Nat} {v : PyData} {r : List Nat} (h : clause (A ++ B) = .ok v r) : clause (A ++ c :: B) = .bad (c :: B) := by
  rcases loc_clause o A B with z | ⟨w, z⟩ | ⟨w, A2, _, z, _⟩ | ⟨A2, _, _, z⟩
  · exact z
  · have := clause_end z
    cases this
  · have := clause_end z
    cases A2 <;> cases this
  · rw [h] at z
    cases z
theorem odd_signs : ∀ c ∈ ([63, 38, 59, 45] : List Nat), Odd c := fun c hc => by
  have k : (([63, 38, 59, 45] : List Nat).all fun c => !(cs WORD).contains c && decide (c ≠ 32 ∧ c ≠ 40 ∧ c ≠ 41 ∧ c ≠ 44 ∧ c ≠ 88 ∧ c ≠ 61 ∧ c ≠ 33 ∧ c ≠ 124 ∧ c ≠ 91 ∧ c ≠ 93)) = true := by decide +kernel
  obtain ⟨k1, k2⟩ := Bool.and_eq_true_iff.mp (List.all_eq_true.mp k c hc)
  refine ⟨?_, of_decide_eq_true k2⟩
  cases z : (cs WORD).contains c with
  | false => rfl
  | true => rw [z] at k1; cases k1
end Rq

/-! The texts of clauses, with spaces; reading them back. -/
namespace Rq
open PySem
def Sps (x : List Nat) : Prop := ∀ c ∈ x, c = 32
theorem Sps.nil : Sps [] := fun _ h => by cases h
theorem skip_sps : ∀ {x : List Nat}, Sps x → ∀ s, skip (x ++ s) = skip s
  | [], _, _ => rfl
  | c :: x, h, s => by
    have e : skip (c :: (x ++ s)) = skip (x ++ s) := by rw [skip, if_pos (h c List.mem_cons_self)]
    exact e.trans (skip_sps (fun d m => h d (List.mem_cons_of_mem _ m)) s)
theorem skip_cons {c : Nat} (h : c ≠ 32) (s : List Nat) : skip (c :: s) = c :: s := by rw [skip, if_neg h]
theorem isC_neg {d a : Nat} (h : a ≠ d) (s : List Nat) : isC d (a :: s) = false := by rw [isC_eq, decide_eq_false h]
theorem isC_pos (d : Nat) (s : List Nat) : isC d (d :: s) = true := by rw [isC_eq, decide_eq_true rfl]
/-- what may stand behind a word -/
structure Fol (r : List Nat) : Prop where
  w : isAt (cs WORD) r = false
  p : isC 40 (skip r) = false
theorem no_word (c : Nat) (h : c ∈ [32, 33, 40, 41, 44, 61, 91, 93, 124]) : (cs WORD).contains c = false := by
  have k : ([32, 33, 40, 41, 44, 61, 91, 93, 124].all fun c => !(cs WORD).contains c) = true := by decide +kernel
  have := List.all_eq_true.mp k c h
  cases z : (cs WORD).contains c with
  | false => rfl
  | true => rw [z] at this; cases this
/-- spaces and a sign -/
theorem at_sps {s : List Nat} (h : Sps s) {c : Nat} (hc : c ∈ [32, 33, 40, 41, 44, 61, 91, 93, 124]) (r : List Nat) : isAt (cs WORD) (s ++ c :: r) = false := by
  cases s with
  | nil => exact no_word c hc
  | cons d s =>
    have : d = 32 := h d List.mem_cons_self
    subst this
    exact no_word 32 (by decide)
theorem at_sps0 {s : List Nat} (h : Sps s) : isAt (cs WORD) s = false := by
  cases s with
  | nil => rfl
  | cons d s =>
    have : d = 32 := h d List.mem_cons_self
    subst this
    exact no_word 32 (by decide)
theorem skip_sps0 {s : List Nat} (h : Sps s) : skip s = [] := by
  have := skip_sps h []
  rw [List.append_nil] at this
  exact this
theorem fol_sign {s : List Nat} (h : Sps s) {c : Nat} (hc : c ∈ [32, 33, 40, 41, 44, 61, 91, 93, 124]) (h1 : c ≠ 32) (h2 : c ≠ 40) (r : List Nat) : Fol (s ++ c :: r) := ⟨at_sps h hc r, by rw [skip_sps h, skip_cons h1, isC_neg h2]⟩
theorem fol_end {s : List Nat} (h : Sps s) : Fol s := ⟨at_sps0 h, by rw [skip_sps0 h]; rfl⟩
/-! ### words -/
theorem runP_all (S : List Nat) : ∀ (A r : List Nat) (m : Nat), (∀ c ∈ A, S.contains c = true) → A.length ≤ m → isAt S r = false → runP S m (A ++ r) = (A, r)
  | [], r, 0, _, _, _ => rfl
  | [], [], m + 1, _, _, _ => rfl
  | [], c :: r, m + 1, _, _, h => by
    have e : runP S (m + 1) (c :: r) = if S.contains c then (c :: (runP S m r).1, (runP S m r).2) else ([], c :: r) := by rw [runP]
    have h' : S.contains c = false := h
    show runP S (m + 1) (c :: r) = _
    rw [e, if_neg (by rw [h']; exact Bool.false_ne_true)]
  | c :: A, r, 0, _, l, _ => absurd l (by rw [List.length_cons]; omega)
  | c :: A, r, m + 1, hA, l, h => by
    have e : runP S (m + 1) (c :: (A ++ r)) = if S.contains c then (c :: (runP S m (A ++ r)).1, (runP S m (A ++ r)).2) else ([], c :: (A ++ r)) := by rw [runP]
    have l' : A.length ≤ m := by rw [List.length_cons] at l; omega
    show runP S (m + 1) (c :: (A ++ r)) = _
    rw [e, if_pos (hA c List.mem_cons_self), runP_all S A r m (fun d hd => hA d (List.mem_cons_of_mem _ hd)) l' h]
theorem at_sub {S : List Nat} (h : (S.all fun d => (cs WORD).contains d) = true) {r : List Nat} (hr : isAt (cs WORD) r = false) : isAt S r = false := by
  cases r with
  | nil => rfl
  | cons c r =>
    have hr : (cs WORD).contains c = false := hr
    show S.contains c = false
    cases z : S.contains c with
    | false => rfl
    | true =>
      have := List.all_eq_true.mp h c (List.contains_iff_mem.mp z)
      rw [hr] at this
      cases this
theorem run_all {S : List Nat} (hS : (S.all fun d => (cs WORD).contains d) = true) {A r : List Nat} {m : Nat} (hA : ∀ c ∈ A, S.contains c = true) (l : A.length ≤ m) (hr : isAt (cs WORD) r = false) : run S m (A ++ r) = .ok ⟨A.toArray⟩ r := by
  unfold run
  rw [runP_all S A r m hA l (at_sub hS hr)]
  show (if isAt (cs WORD) r = true then Rs.bad r else Rs.ok (⟨A.toArray⟩ : Str) r) = _
  rw [hr]
  exact if_neg Bool.false_ne_true
/-- a good name; or a word of its form -/
def wdB (w : Str) : Bool := isAt (cs LOWER) (cs w) && ((cs w).all (fun c => (cs LOWER ++ cs DIGITS ++ [95]).contains c) && decide ((cs w).length ≤ 12))
def Nam (w : Str) : Prop := wdB w = true ∧ w ∉ NO
theorem small_ok {w : Str} (h : wdB w = true) {r : List Nat} (hr : isAt (cs WORD) r = false) : isAt (cs LOWER) (cs w ++ r) = true ∧ smallW (cs w ++ r) = .ok w r := by
  unfold wdB at h
  rw [Bool.and_eq_true, Bool.and_eq_true, decide_eq_true_eq] at h
  obtain ⟨h1, h2, h3⟩ := h
  have at1 : isAt (cs LOWER) (cs w ++ r) = true := by
    cases e : cs w with
    | nil => rw [e] at h1; cases h1
    | cons c x => rw [e] at h1; exact h1
  refine ⟨at1, ?_⟩
  unfold smallW
  rw [if_pos at1, run_all (by decide +kernel) (fun c hc => List.all_eq_true.mp h2 c hc) h3 hr]
theorem low_facts {s : List Nat} (h : isAt (cs LOWER) s = true) : skip s = s ∧ isAt (cs UPPER) s = false := by
  cases s with
  | nil => cases h
  | cons c s =>
    have k : ((cs LOWER).all fun c => decide (c ≠ 32) && !(cs UPPER).contains c) = true := by decide +kernel
    have h' : (cs LOWER).contains c = true := h
    obtain ⟨k1, k2⟩ := Bool.and_eq_true_iff.mp (List.all_eq_true.mp k c (List.contains_iff_mem.mp h'))
    refine ⟨skip_cons (of_decide_eq_true k1) s, ?_⟩
    show (cs UPPER).contains c = false
    cases z : (cs UPPER).contains c with
    | false => rfl
    | true => rw [z] at k2; cases k2
theorem name_ok {w : Str} (h : w ∉ NO) (r : List Nat) : nameOf w r = .ok w r := by
  unfold nameOf
  exact if_neg h
/-! ### numbers -/
abbrev digs (n : Nat) : List Nat := cs (Str.ofString (toString (n : Int)))
def numB (n : Nat) : Bool := (digs n).all (fun c => (cs DIGITS).contains c) && (decide ((digs n).length ≤ if isC 48 (digs n) then 1 else 7) && (decide (digV (digs n) = n) && isAt (cs DIGITS) (digs n)))
theorem great_ok {n : Nat} (h : numB n = true) {r : List Nat} (hr : isAt (cs WORD) r = false) : greatC (88 :: (digs n ++ r)) = .ok (.int ((n : Nat) : Int)) r := by
  unfold numB at h
  rw [Bool.and_eq_true, Bool.and_eq_true, Bool.and_eq_true, decide_eq_true_eq, decide_eq_true_eq] at h
  obtain ⟨h1, h2, h3, h4⟩ := h
  have h4' : isAt (cs DIGITS) (digs n ++ r) = true := by
    cases e : digs n with
    | nil => rw [e] at h4; cases h4
    | cons c x => rw [e] at h4; exact h4
  have h5 : isC 48 (digs n ++ r) = isC 48 (digs n) := by
    cases e : digs n with
    | nil => rw [e] at h4; cases h4
    | cons c x => exact (isC_eq 48 c (x ++ r)).trans (isC_eq 48 c x).symm
  unfold greatC
  show (if isAt (cs DIGITS) (digs n ++ r) then _ else _ : Rs PyData) = _
  rw [if_pos h4', h5, run_all (by decide +kernel) (fun c hc => List.all_eq_true.mp h1 c hc) h2 hr]
  show Rs.ok (PyData.int ((digV (digs n) : Nat) : Int)) r = _
  rw [h3]
theorem nums_ok : ∀ n, n < 100 ∨ n = 9999999 → numB n = true := by
  have k1 : ((List.range 100).all numB) = true := by decide +kernel
  have k2 : numB 9999999 = true := by decide +kernel
  rintro n (h | rfl)
  · exact List.all_eq_true.mp k1 n (List.mem_range.mpr h)
  · exact k2
/-! ### terms -/
def W (bg : List (List PyData)) (p : PyData) (s : List Nat) : Rs PyData := wholeL greatC (s.length + 1) bg p s
theorem wholeL_W {f : Nat} {bg : List (List PyData)} {p : PyData} {s : List Nat} (h : s.length < f) : wholeL greatC f bg p s = W bg p s := wholeL_fuel suf_greatC f (s.length + 1) bg p s h (Nat.lt_succ_self _)
theorem headW {f : Nat} {bg : List (List PyData)} {r : List Nat} (h : r.length < f) : ((head greatC r).bind fun p r2 => wholeL greatC f bg p r2) = (head greatC r).bind (W bg) := by
  have hs := suf_head suf_greatC r
  cases e : head greatC r with
  | bad r2 => rfl
  | ok p r2 =>
    rw [e] at hs
    have l2 := (show r2 <:+ r from hs).length_le
    exact wholeL_W (by omega)
theorem wholeL_step (gr : List Nat → Rs PyData) (f : Nat) (bg : List (List PyData)) (part : PyData) (s : List Nat) : wholeL gr (f + 1) bg part s =
    if isOne part && isC 40 (skip s) then (head gr (skip s).tail).bind fun p r => wholeL gr f (nameD1 part :: bg) p r
    else match bg with
      | [] => .ok part (if isOne part then skip s else s)
      | b :: bs => if isC 41 (skip s) then wholeL gr f bs (.tuple (b ++ [part])) (skip s).tail
        else (takeC 44 (skip s)).bind fun _ r => (head gr r).bind fun p r2 => wholeL gr f ((b ++ [part]) :: bs) p r2 := by
  cases bg <;> rfl
theorem W_open {bg : List (List PyData)} {w : Str} {s r : List Nat} (h : skip s = 40 :: r) : W bg (.tuple [.str w]) s = (head greatC r).bind (W ([.str w] :: bg)) := by
  have ls := (skip_suf s).length_le
  rw [h, List.length_cons] at ls
  unfold W
  rw [wholeL_step]
  show (if (true && isC 40 (skip s)) = true then (head greatC (skip s).tail).bind _ else _ : Rs PyData) = _
  rw [h, isC_pos, Bool.true_and, if_pos rfl]
  exact headW (show r.length < s.length by omega)
theorem one_no {p : PyData} {s : List Nat} (h : isC 40 (skip s) = false) : ¬ (isOne p && isC 40 (skip s)) = true := by
  rw [h, Bool.and_false]
  exact Bool.false_ne_true
theorem W_end {p : PyData} {s : List Nat} (h : isOne p = true → isC 40 (skip s) = false) : W [] p s = .ok p (if isOne p then skip s else s) := by
  unfold W
  rw [wholeL_step]
  refine if_neg fun z => ?_
  obtain ⟨z1, z2⟩ := Bool.and_eq_true_iff.mp z
  rw [h z1] at z2
  cases z2
theorem W_close {b : List PyData} {bg : List (List PyData)} {p : PyData} {s r : List Nat} (h : skip s = 41 :: r) : W (b :: bg) p s = W bg (.tuple (b ++ [p])) r := by
  have ls := (skip_suf s).length_le
  rw [h, List.length_cons] at ls
  unfold W
  rw [wholeL_step, if_neg (one_no (by rw [h]; exact isC_neg (by decide) r)), h]
  show (if isC 41 (41 :: r) = true then _ else _ : Rs PyData) = _
  rw [isC_pos, if_pos rfl]
  exact wholeL_W (show r.length < s.length by omega)
theorem W_comma {b : List PyData} {bg : List (List PyData)} {p : PyData} {s r : List Nat} (h : skip s = 44 :: r) : W (b :: bg) p s = (head greatC r).bind (W ((b ++ [p]) :: bg)) := by
  have ls := (skip_suf s).length_le
  rw [h, List.length_cons] at ls
  unfold W
  rw [wholeL_step, if_neg (one_no (by rw [h]; exact isC_neg (by decide) r)), h]
  show (if isC 41 (44 :: r) = true then _ else _ : Rs PyData) = _
  rw [isC_neg (by decide), if_neg Bool.false_ne_true]
  exact headW (show r.length < s.length by omega)
mutual
inductive TTx : PyData → List Nat → Prop
  | var (n : Nat) : numB n = true → TTx (.int ((n : Nat) : Int)) (88 :: digs n)
  | con (w : Str) : Nam w → TTx (.tuple [.str w]) (cs w)
  | app (w : Str) (d : PyData) (ds : List PyData) (x y s1 s2 s3 : List Nat) : Nam w → TTx d x → TsTx ds y → Sps s1 → Sps s2 → Sps s3 → TTx (.tuple (.str w :: d :: ds)) (cs w ++ (s1 ++ 40 :: (s2 ++ (x ++ (y ++ (s3 ++ [41]))))))
inductive TsTx : List PyData → List Nat → Prop
  | nil : TsTx [] []
  | cons (d : PyData) (ds : List PyData) (x y s1 s2 : List Nat) : Sps s1 → Sps s2 → TTx d x → TsTx ds y → TsTx (d :: ds) (s1 ++ 44 :: (s2 ++ (x ++ y)))
end
theorem head_sps {s : List Nat} (h : Sps s) (x : List Nat) : head greatC (s ++ x) = head greatC x := by
  unfold head
  rw [skip_sps h]
theorem head_word {w : Str} (h : Nam w) {r : List Nat} (hr : isAt (cs WORD) r = false) : head greatC (cs w ++ r) = .ok (.tuple [.str w]) r := by
  obtain ⟨h1, h2⟩ := small_ok h.1 hr
  obtain ⟨h3, h4⟩ := low_facts h1
  unfold head
  rw [h3, if_neg (by rw [h4]; exact Bool.false_ne_true), h2, bind_ok, name_ok h.2]
  rfl
theorem upX (r : List Nat) : skip (88 :: r) = 88 :: r ∧ isAt (cs UPPER) (88 :: r) = true := ⟨skip_cons (by decide) r, by show (cs UPPER).contains 88 = true; decide +kernel⟩
theorem head_num {n : Nat} (h : numB n = true) {r : List Nat} (hr : isAt (cs WORD) r = false) : head greatC (88 :: (digs n ++ r)) = .ok (.int ((n : Nat) : Int)) r := by
  unfold head
  rw [(upX _).1, if_pos (upX _).2, great_ok h hr]
theorem fol_more {ds : List PyData} {y s3 : List Nat} (h : TsTx ds y) (h3 : Sps s3) (r : List Nat) : Fol (y ++ (s3 ++ 41 :: r)) := by
  cases h with
  | nil => exact fol_sign h3 (by decide) (by decide) (by decide) r
  | cons d ds x y s1 s2 h1 h2 h4 h5 =>
    rw [List.append_assoc]
    exact fol_sign h1 (by decide) (by decide) (by decide) _
mutual
theorem t_ok : ∀ {d : PyData} {x : List Nat}, TTx d x → ∀ (bg : List (List PyData)) {r : List Nat}, Fol r → (head greatC (x ++ r)).bind (W bg) = W bg d r
  | _, _, .var n h, bg, r, hr => by
    show (head greatC (88 :: (digs n ++ r))).bind (W bg) = _
    rw [head_num h hr.w, bind_ok]
  | _, _, .con w h, bg, r, hr => by rw [head_word h hr.w, bind_ok]
  | _, _, .app w d ds x y s1 s2 s3 h hx hy h1 h2 h3, bg, r, hr => by
    have e : cs w ++ (s1 ++ 40 :: (s2 ++ (x ++ (y ++ (s3 ++ [41]))))) ++ r = cs w ++ (s1 ++ 40 :: (s2 ++ (x ++ (y ++ (s3 ++ 41 :: r))))) := by simp
    rw [e, head_word h (at_sps h1 (by decide) _), bind_ok, W_open (by rw [skip_sps h1, skip_cons (by decide)]), head_sps h2, t_ok hx _ (fol_more hy h3 r), ts_ok hy _ _ _ h3]
    rfl
theorem ts_ok : ∀ {ds : List PyData} {y : List Nat}, TsTx ds y → ∀ (b : List PyData) (bg : List (List PyData)) (d : PyData) {s3 r : List Nat}, Sps s3 → W (b :: bg) d (y ++ (s3 ++ 41 :: r)) = W bg (.tuple (b ++ d :: ds)) r
  | _, _, .nil, b, bg, d, s3, r, h3 => W_close (by rw [List.nil_append, skip_sps h3, skip_cons (by decide)])
  | _, _, .cons d' ds x y s1 s2 h1 h2 hx hy, b, bg, d, s3, r, h3 => by
    have e : s1 ++ 44 :: (s2 ++ (x ++ y)) ++ (s3 ++ 41 :: r) = s1 ++ 44 :: (s2 ++ (x ++ (y ++ (s3 ++ 41 :: r)))) := by simp
    rw [e, W_comma (by rw [skip_sps h1, skip_cons (by decide)]), head_sps h2, t_ok hx _ (fol_more hy h3 r), ts_ok hy _ _ _ h3, List.append_assoc]
    rfl
end
/-! ### sides -/
/-- what stays behind: the spaces may be taken -/
def Lft (r r' : List Nat) : Prop := r' = r ∨ r' = skip r
theorem Lft.skip {r r' : List Nat} (h : Lft r r') : Rq.skip r' = Rq.skip r := by
  rcases h with rfl | rfl
  · rfl
  · exact skip_skip r
/-- of a term that is no number -/
theorem word_ok {d : PyData} {x : List Nat} (h : TTx d x) (hd : isI d = false) {r : List Nat} (hr : Fol r) : ∃ w r1 r', Lft r r' ∧ isAt (cs LOWER) (x ++ r) = true ∧ smallW (x ++ r) = .ok w r1 ∧ w ∉ NO ∧ whole greatC (.tuple [.str w]) r1 = .ok d r' := by
  have fin : W [] d r = .ok d (if isOne d then Rq.skip r else r) := W_end fun _ => hr.p
  have lf : Lft r (if isOne d then Rq.skip r else r) := by
    cases isOne d with
    | true => exact .inr rfl
    | false => exact .inl rfl
  have key : ∀ {w : Str} {r1 : List Nat}, Nam w → smallW (x ++ r) = .ok w r1 → isAt (cs LOWER) (x ++ r) = true → ∃ w r1 r', Lft r r' ∧ isAt (cs LOWER) (x ++ r) = true ∧ smallW (x ++ r) = .ok w r1 ∧ w ∉ NO ∧ whole greatC (.tuple [.str w]) r1 = .ok d r' := fun {w r1} hw e h1 => by
    refine ⟨w, r1, _, lf, h1, e, hw.2, ?_⟩
    have t := t_ok h [] hr
    obtain ⟨h3, h4⟩ := low_facts h1
    unfold head at t
    rw [h3, if_neg (by rw [h4]; exact Bool.false_ne_true), e, bind_ok, name_ok hw.2] at t
    exact t.trans fin
  cases h with
  | var n h => cases hd
  | con w h =>
    obtain ⟨h1, h2⟩ := small_ok h.1 hr.w
    exact key h h2 h1
  | app w d ds x y s1 s2 s3 h hx hy z1 z2 z3 =>
    obtain ⟨h1, h2⟩ := small_ok (r := s1 ++ 40 :: (s2 ++ (x ++ (y ++ (s3 ++ 41 :: r))))) h.1 (at_sps z1 (by decide) _)
    have e : cs w ++ (s1 ++ 40 :: (s2 ++ (x ++ (y ++ (s3 ++ [41]))))) ++ r = cs w ++ (s1 ++ 40 :: (s2 ++ (x ++ (y ++ (s3 ++ 41 :: r))))) := by simp
    exact key h (by rw [e]; exact h2) (by rw [e]; exact h1)
def STx (d : PyData) (x : List Nat) : Prop := (d = yesD ∧ x = cs "yes") ∨ TTx d x
theorem sideB_ok {d : PyData} {x : List Nat} (h : STx d x) (hd : isI d = false) {r : List Nat} (hr : Fol r) : ∃ w r1 r', Lft r r' ∧ isAt (cs LOWER) (x ++ r) = true ∧ smallW (x ++ r) = .ok w r1 ∧ w ≠ "not" ∧ sideB w r1 = .ok d r' := by
  rcases h with ⟨rfl, rfl⟩ | h
  · obtain ⟨h1, h2⟩ := small_ok (w := "yes") (by decide +kernel) hr.w
    refine ⟨"yes", r, r, .inl rfl, h1, h2, by decide +kernel, ?_⟩
    unfold sideB
    exact if_pos rfl
  · obtain ⟨w, r1, r', lf, h1, h2, h3, h4⟩ := word_ok h hd hr
    refine ⟨w, r1, r', lf, h1, h2, fun z => h3 (by rw [z]; decide +kernel), ?_⟩
    unfold sideB
    rw [if_neg (fun z => h3 (by rw [z]; decide +kernel)), name_ok h3, bind_ok]
    exact h4
theorem STx.int {n : Int} {x : List Nat} (h : STx (.int n) x) : ∃ m : Nat, n = (m : Int) ∧ numB m = true ∧ x = 88 :: digs m := by
  rcases h with ⟨z, _⟩ | h
  · cases z
  · cases h with
    | var m h => exact ⟨m, rfl, h, rfl⟩
theorem isI_of {d : PyData} (h : isI d = true) : ∃ n, d = .int n := by
  cases d <;> first | exact ⟨_, rfl⟩ | cases h
theorem side_ok {d : PyData} {x s : List Nat} (h : STx d x) (hs : Sps s) {r : List Nat} (hr : Fol r) : ∃ r', Lft r r' ∧ side (s ++ (x ++ r)) = .ok d r' := by
  cases e : isI d with
  | true =>
    obtain ⟨n, rfl⟩ := isI_of e
    obtain ⟨m, rfl, hm, rfl⟩ := h.int
    refine ⟨r, .inl rfl, ?_⟩
    unfold side
    show (if isAt (cs UPPER) (skip (s ++ (88 :: (digs m ++ r)))) = true then _ else _) = _
    rw [skip_sps hs, (upX _).1, if_pos (upX _).2]
    show greatC (skip (s ++ (88 :: (digs m ++ r)))) = _
    rw [skip_sps hs, (upX _).1]
    exact great_ok hm hr.w
  | false =>
    obtain ⟨w, r1, r', lf, h1, h2, _, h4⟩ := sideB_ok h e hr
    obtain ⟨h5, h6⟩ := low_facts h1
    refine ⟨r', lf, ?_⟩
    unfold side
    rw [skip_sps hs, h5, if_neg (by rw [h6]; exact Bool.false_ne_true), h2, bind_ok]
    exact h4
/-! ### literals -/
inductive LTx : PyData → List Nat → Prop
  | yes (l : PyData) (x : List Nat) : STx l x → isI l = false → LTx (lit3 true l yesD) x
  | no (l : PyData) (x g : List Nat) : STx l x → isI l = false → Sps g → g ≠ [] → LTx (lit3 false l yesD) (cs "not" ++ (g ++ x))
  | eqn (l r : PyData) (x y s1 s2 : List Nat) : STx l x → STx r y → Sps s1 → Sps s2 → LTx (lit3 true l r) (x ++ (s1 ++ 61 :: (s2 ++ y)))
  | nqn (l r : PyData) (x y s1 s2 : List Nat) : STx l x → STx r y → Sps s1 → Sps s2 → LTx (lit3 false l r) (x ++ (s1 ++ 33 :: 61 :: (s2 ++ y)))
/-- what may stand behind a literal -/
structure FolL (r : List Nat) : Prop where
  f : Fol r
  e : isC 61 (skip r) = false
  n : isC 33 (skip r) = false
theorem folL_end {s : List Nat} (h : Sps s) : FolL s := ⟨fol_end h, by rw [skip_sps0 h]; rfl, by rw [skip_sps0 h]; rfl⟩
theorem folL_bar {s : List Nat} (h : Sps s) (r : List Nat) : FolL (s ++ 124 :: r) := ⟨fol_sign h (by decide) (by decide) (by decide) r, by rw [skip_sps h, skip_cons (by decide), isC_neg (by decide)], by rw [skip_sps h, skip_cons (by decide), isC_neg (by decide)]⟩
theorem equation_yes {l : PyData} (hl : isI l = false) {r r' : List Nat} (lf : Lft r r') (hr : FolL r) : equation l r' = .ok (lit3 true l yesD) (skip r) := by
  unfold equation
  rw [lf.skip, hr.e, if_neg Bool.false_ne_true, hr.n, if_neg Bool.false_ne_true, hl]
  exact if_neg Bool.false_ne_true
theorem equation_eq {l d : PyData} {r1 x y s2 r : List Nat} (e : skip r1 = 61 :: (s2 ++ (y ++ r))) (hy : STx d y) (h2 : Sps s2) (hr : Fol r) : ∃ r', Lft r r' ∧ equation l r1 = .ok (lit3 true l d) r' := by
  obtain ⟨r', lf, h⟩ := side_ok hy h2 hr
  refine ⟨r', lf, ?_⟩
  unfold equation
  rw [e, isC_pos, if_pos rfl]
  show (side (s2 ++ (y ++ r))).map (lit3 true l) = _
  rw [h]
  rfl
theorem equation_ne {l d : PyData} {r1 x y s2 r : List Nat} (e : skip r1 = 33 :: 61 :: (s2 ++ (y ++ r))) (hy : STx d y) (h2 : Sps s2) (hr : Fol r) : ∃ r', Lft r r' ∧ equation l r1 = .ok (lit3 false l d) r' := by
  obtain ⟨r', lf, h⟩ := side_ok hy h2 hr
  refine ⟨r', lf, ?_⟩
  unfold equation
  rw [e, isC_neg (by decide), if_neg Bool.false_ne_true, isC_pos, if_pos rfl]
  show (side (s2 ++ (y ++ r))).map (lit3 false l) = _
  rw [h]
  rfl
/-- the left side, and what is behind it -/
theorem left_ok {l : PyData} {x : List Nat} (h : STx l x) {r : List Nat} (hr : Fol r) {s : List Nat} (hs : Sps s) : ∃ r', Lft r r' ∧ literal (s ++ (x ++ r)) = equation l r' := by
  cases e : isI l with
  | true =>
    obtain ⟨n, rfl⟩ := isI_of e
    obtain ⟨m, rfl, hm, rfl⟩ := h.int
    refine ⟨r, .inl rfl, ?_⟩
    unfold literal
    show (if isAt (cs UPPER) (skip (s ++ (88 :: (digs m ++ r)))) = true then (greatC (skip (s ++ (88 :: (digs m ++ r))))).bind equation else _) = _
    rw [skip_sps hs, (upX _).1, if_pos (upX _).2, great_ok hm hr.w, bind_ok]
  | false =>
    obtain ⟨w, r1, r', lf, h1, h2, h3, h4⟩ := sideB_ok h e hr
    obtain ⟨h5, h6⟩ := low_facts h1
    refine ⟨r', lf, ?_⟩
    unfold literal
    rw [skip_sps hs, h5, if_neg (by rw [h6]; exact Bool.false_ne_true), h2, bind_ok]
    show (if w = "not" then _ else _ : Rs PyData) = _
    rw [if_neg h3, h4, bind_ok]
theorem Lft.self (r : List Nat) : Lft r (Rq.skip r) := .inr rfl
theorem literal_ok {d : PyData} {x : List Nat} (h : LTx d x) {s : List Nat} (hs : Sps s) {r : List Nat} (hr : FolL r) : ∃ r', Lft r r' ∧ literal (s ++ (x ++ r)) = .ok d r' := by
  cases h with
  | yes l x hx hl =>
    obtain ⟨r', lf, e⟩ := left_ok hx hr.f hs
    exact ⟨_, .self r, e.trans (equation_yes hl lf hr)⟩
  | no l x g hx hl hg ng =>
    obtain ⟨w, r1, r', lf, h1, h2, h3, h4⟩ := sideB_ok hx hl hr.f
    obtain ⟨h5, h6⟩ := low_facts h1
    have gw : isAt (cs WORD) (g ++ (x ++ r)) = false := by
      cases g with
      | nil => exact absurd rfl ng
      | cons c g =>
        have : c = 32 := hg c List.mem_cons_self
        subst this
        exact no_word 32 (by decide)
    obtain ⟨z1, z2⟩ := small_ok (w := "not") (by decide +kernel) gw
    obtain ⟨z3, z4⟩ := low_facts z1
    refine ⟨r', lf, ?_⟩
    have e : cs "not" ++ (g ++ x) ++ r = cs "not" ++ (g ++ (x ++ r)) := by simp
    rw [e]
    unfold literal
    rw [skip_sps hs, z3, if_neg (by rw [z4]; exact Bool.false_ne_true), z2, bind_ok]
    show (if ("not" : Str) = "not" then _ else _ : Rs PyData) = _
    rw [if_pos rfl, skip_sps hg, h5, h2, bind_ok, h4]
    rfl
  | eqn l d x y s1 s2 hx hy h1 h2 =>
    have e : x ++ (s1 ++ 61 :: (s2 ++ y)) ++ r = x ++ (s1 ++ 61 :: (s2 ++ (y ++ r))) := by simp
    obtain ⟨r1, lf, e1⟩ := left_ok hx (fol_sign (c := 61) h1 (by decide) (by decide) (by decide) (s2 ++ (y ++ r))) hs
    obtain ⟨r', lf', e2⟩ := equation_eq (l := l) (x := x) (lf.skip.trans ((skip_sps h1 _).trans (skip_cons (by decide) _))) hy h2 hr.f
    exact ⟨r', lf', by rw [e, e1, e2]⟩
  | nqn l d x y s1 s2 hx hy h1 h2 =>
    have e : x ++ (s1 ++ 33 :: 61 :: (s2 ++ y)) ++ r = x ++ (s1 ++ 33 :: 61 :: (s2 ++ (y ++ r))) := by simp
    obtain ⟨r1, lf, e1⟩ := left_ok hx (fol_sign (c := 33) h1 (by decide) (by decide) (by decide) (61 :: (s2 ++ (y ++ r)))) hs
    obtain ⟨r', lf', e2⟩ := equation_ne (l := l) (x := x) (lf.skip.trans ((skip_sps h1 _).trans (skip_cons (by decide) _))) hy h2 hr.f
    exact ⟨r', lf', by rw [e, e1, e2]⟩
/-! ### clauses -/
inductive LsTx : List PyData → List Nat → Prop
  | nil : LsTx [] []
  | cons (d : PyData) (ds : List PyData) (x y s1 s2 : List Nat) : Sps s1 → Sps s2 → LTx d x → LsTx ds y → LsTx (d :: ds) (s1 ++ 124 :: (s2 ++ (x ++ y)))
inductive CTx : PyData → List Nat → Prop
  | nil (s1 s2 : List Nat) : Sps s1 → Sps s2 → CTx (.tuple []) (s1 ++ (91 :: 93 :: s2))
  | cons (d : PyData) (ds : List PyData) (x y s1 s2 : List Nat) : Sps s1 → Sps s2 → LTx d x → LsTx ds y → CTx (.tuple (d :: ds)) (s1 ++ (x ++ (y ++ s2)))
theorem folL_more {ds : List PyData} {y s : List Nat} (h : LsTx ds y) (hs : Sps s) : FolL (y ++ s) := by
  cases h with
  | nil => exact folL_end hs
  | cons d ds x y s1 s2 h1 h2 h4 h5 =>
    rw [List.append_assoc]
    exact folL_bar h1 _
theorem endText_ok {s : List Nat} (h : Sps s) : endText s = .ok () [] := by
  unfold endText
  rw [skip_sps0 h]
theorem litsL_ok : ∀ {ds : List PyData} {y : List Nat}, LsTx ds y → ∀ (f : Nat) (acc : List PyData) {s r' : List Nat}, Sps s → Lft (y ++ s) r' → r'.length < f → litsL f acc r' = .ok (.tuple (acc ++ ds)) []
  | _, _, _, 0, _, _, _, _, _, l => absurd l (Nat.not_lt_zero _)
  | _, _, .nil, f + 1, acc, s, r', hs, lf, _ => by
    have e : skip r' = [] := lf.skip.trans (skip_sps0 hs)
    rw [litsL, e]
    show (endText []).map (fun _ => PyData.tuple acc) = _
    rw [List.append_nil]
    rfl
  | _, _, .cons d ds x y s1 s2 h1 h2 hx hy, f + 1, acc, s, r', hs, lf, l => by
    have e0 : s1 ++ 124 :: (s2 ++ (x ++ y)) ++ s = s1 ++ 124 :: (s2 ++ (x ++ (y ++ s))) := by simp
    have e : skip r' = 124 :: (s2 ++ (x ++ (y ++ s))) := by rw [lf.skip, e0, skip_sps h1, skip_cons (by decide)]
    obtain ⟨r2, lf2, e2⟩ := literal_ok hx h2 (folL_more hy hs)
    rw [litsL, e, isC_pos, if_pos rfl]
    show (literal (s2 ++ (x ++ (y ++ s)))).bind _ = _
    rw [e2, bind_ok]
    have l1 := (skip_suf r').length_le
    rw [e, List.length_cons] at l1
    have l2 : r2.length ≤ (y ++ s).length := by
      rcases lf2 with rfl | rfl
      · exact Nat.le_refl _
      · exact (skip_suf _).length_le
    rw [List.length_append, List.length_append] at l1
    rw [litsL_ok hy f (acc ++ [d]) hs lf2 (by omega), List.append_assoc]
    rfl
theorem first_lit {d : PyData} {x : List Nat} (h : LTx d x) (r : List Nat) : isC 91 (skip (x ++ r)) = false := by
  have low : ∀ {s : List Nat}, isAt (cs LOWER) s = true → isC 91 (skip s) = false := fun {s} h => by
    rw [(low_facts h).1]
    cases s with
    | nil => rfl
    | cons c s =>
      refine isC_neg (fun z => ?_) s
      subst z
      have h : (cs LOWER).contains 91 = true := h
      exact absurd h (by decide +kernel)
  have st : ∀ {l : PyData} {x : List Nat}, STx l x → ∀ r, isC 91 (skip (x ++ r)) = false := fun {l x} hx r => by
    have wd : ∀ {w : Str}, wdB w = true → ∀ r, isC 91 (skip (cs w ++ r)) = false := fun {w} h r => by
      unfold wdB at h
      obtain ⟨h1, _⟩ := Bool.and_eq_true_iff.mp h
      refine low ?_
      cases e : cs w with
      | nil => rw [e] at h1; cases h1
      | cons c x => rw [e] at h1; exact h1
    rcases hx with ⟨_, rfl⟩ | hx
    · exact wd (by decide +kernel) r
    · cases hx with
      | var n h =>
        show isC 91 (skip (88 :: (digs n ++ r))) = false
        rw [(upX _).1]
        exact isC_neg (by decide) _
      | con w h => exact wd h.1 r
      | app w d ds x y s1 s2 s3 h hx hy z1 z2 z3 =>
        rw [List.append_assoc]
        exact wd h.1 _
  cases h with
  | yes l x hx hl => exact st hx r
  | no l x g hx hl hg ng =>
    rw [List.append_assoc]
    refine low ?_
    show (cs LOWER).contains 110 = true
    decide +kernel
  | eqn l d x y s1 s2 hx hy h1 h2 =>
    rw [List.append_assoc]
    exact st hx _
  | nqn l d x y s1 s2 hx hy h1 h2 =>
    rw [List.append_assoc]
    exact st hx _
/-- THE READING BACK -/
theorem clause_ok {d : PyData} {x : List Nat} (h : CTx d x) : clause x = .ok d [] := by
  cases h with
  | nil s1 s2 h1 h2 =>
    unfold clause
    rw [skip_sps h1, skip_cons (by decide), isC_pos, if_pos rfl]
    show (endText s2).map (fun _ => PyData.tuple []) = _
    rw [endText_ok h2]
    rfl
  | cons d ds x y s1 s2 h1 h2 hx hy =>
    obtain ⟨r', lf, e⟩ := literal_ok hx .nil (folL_more hy h2)
    unfold clause
    have e0 : literal (skip (x ++ (y ++ s2))) = literal (x ++ (y ++ s2)) := by
      unfold literal
      rw [skip_skip]
    rw [skip_sps h1, first_lit hx, if_neg Bool.false_ne_true, e0]
    rw [List.nil_append] at e
    rw [e, bind_ok]
    exact litsL_ok hy _ _ h2 lf (Nat.lt_succ_self _)
/-- spaces before a text -/
theorem clause_sps {s : List Nat} (h : Sps s) (x : List Nat) : clause (s ++ x) = clause x := by
  unfold clause
  rw [skip_sps h]
end Rq

/-! Data of tuples, texts and numbers alone stays while tuples stay. -/
namespace Ad
open PySem PySem.Spec PySem.Calls PyProof.Rows L2
mutual
def tpo : PyData → Bool
  | .tuple ds => tpoL ds
  | .list _ => false
  | .dict _ => false
  | .none => true
  | .bool _ => true
  | .int _ => true
  | .str _ => true
def tpoL : List PyData → Bool
  | [] => true
  | d :: ds => tpo d && tpoL ds
end
mutual
theorem tpo_tk {K : PySem.W.Frag} {H H' : Hp} (k : TK H H') : ∀ (d : PyData) (v : V), tpo d = true → Dp K H v d → Dp K H' v d
  | .tuple ds, v, w, h => by
    cases h with
    | @tup a xs _ sq all => exact .tup (k.sq sq) (tpo_tkL k ds xs w all)
  | .list _, _, w, _ => nomatch w
  | .dict _, _, w, _ => nomatch w
  | .none, v, _, h => by cases h; exact .non
  | .bool _, v, _, h => by cases h; exact .bl _
  | .int _, v, _, h => by cases h; exact .int _
  | .str _, v, _, h => by cases h; exact .str _
theorem tpo_tkL {K : PySem.W.Frag} {H H' : Hp} (k : TK H H') : ∀ (ds : List PyData) (vs : List V), tpoL ds = true → DpAll K H vs ds → DpAll K H' vs ds
  | [], _, _, h => by cases h; exact .nil
  | d :: ds, _, w, h => by
    obtain ⟨h1, h2⟩ := Bool.and_eq_true_iff.mp (show (tpo d && tpoL ds) = true from w)
    cases h with
    | @cons v vs _ _ hv all => exact .cons (tpo_tk k d v h1 hv) (tpo_tkL k ds vs h2 all)
end
theorem tpoL_app : ∀ ds es : List PyData, tpoL (ds ++ es) = (tpoL ds && tpoL es)
  | [], _ => rfl
  | d :: ds, es => by
    show (tpo d && tpoL (ds ++ es)) = (tpo d && tpoL ds && tpoL es)
    rw [tpoL_app, Bool.and_assoc]
theorem tpoL_of : ∀ {ds : List PyData}, (∀ d ∈ ds, tpo d = true) → tpoL ds = true
  | [], _ => rfl
  | d :: ds, h => Bool.and_eq_true_iff.mpr ⟨h d List.mem_cons_self, tpoL_of fun e he => h e (List.mem_cons_of_mem _ he)⟩
theorem tpoL_mem : ∀ {ds : List PyData}, tpoL ds = true → ∀ d ∈ ds, tpo d = true
  | e :: ds, h, d, hd => by
    obtain ⟨h1, h2⟩ := Bool.and_eq_true_iff.mp (show (tpo e && tpoL ds) = true from h)
    rcases List.mem_cons.mp hd with rfl | hd
    · exact h1
    · exact tpoL_mem h2 d hd
end Ad

/-! One substitution behind another. -/
namespace Ad
open PySem PySem.Spec PySem.Calls PyProof.Rows L2 GxR
namespace Sb
def beh (one other : Sb) : Sb := one.foldl (fun tb e => put tb e.1 (T.fill (asg other) e.2)) other
theorem beh_take {one other : Sb} {i : Nat} {e : Int × T} (h : one[i]? = some e) : beh (one.take (i + 1)) other = put (beh (one.take i) other) e.1 (T.fill (asg other) e.2) := by
  unfold beh
  rw [List.take_add_one, h, List.foldl_append]
  rfl
theorem fold_look (other : Sb) (s : Int → T) : ∀ (one tb : Sb), (one.map (·.1)).Nodup → ∀ i, look (one.foldl (fun tb e => put tb e.1 (T.fill s e.2)) tb) i = match look one i with
    | some t => some (T.fill s t)
    | none => look tb i
  | [], tb, _, i => rfl
  | e :: one, tb, nd, i => by
    obtain ⟨n1, n2⟩ := List.nodup_cons.mp nd
    rw [List.foldl_cons, fold_look other s one _ n2]
    have e1 : look (e :: one) i = if e.1 = i then some e.2 else look one i := rfl
    rw [e1, look_put]
    by_cases h : e.1 = i
    · rw [if_pos h, if_pos h]
      have out : look one i = none := by
        cases z : look one i with
        | none => rfl
        | some t =>
          have := (look_key one i).1 (by rw [z]; rfl)
          rw [← h] at this
          exact absurd this n1
      rw [out]
    · rw [if_neg h, if_neg h]
theorem beh_look {one other : Sb} (nd : (one.map (·.1)).Nodup) (i : Int) : look (beh one other) i = match look one i with
    | some t => some (T.fill (asg other) t)
    | none => look other i := fold_look other _ one other nd i
/-- putting in by it is putting in by one, then by the other -/
theorem beh_asg {one other : Sb} (nd : (one.map (·.1)).Nodup) (i : Int) : asg (beh one other) i = T.fill (asg other) (asg one i) := by
  show (look (beh one other) i).getD (.v i) = T.fill (asg other) ((look one i).getD (.v i))
  rw [beh_look nd]
  cases look one i <;> rfl
theorem nodup_fold (s : Int → T) : ∀ (one tb : Sb), (tb.map (·.1)).Nodup → ((one.foldl (fun tb e => put tb e.1 (T.fill s e.2)) tb).map (·.1)).Nodup
  | [], tb, h => h
  | e :: one, tb, h => nodup_fold s one _ (nodup_put h _ _)
theorem len_fold (s : Int → T) : ∀ (one tb : Sb), (one.foldl (fun tb e => put tb e.1 (T.fill s e.2)) tb).length ≤ tb.length + one.length
  | [], tb => Nat.le_refl _
  | e :: one, tb => by
    have h1 := len_fold s one (put tb e.1 (T.fill s e.2))
    have h2 := len_put tb e.1 (T.fill s e.2)
    rw [List.foldl_cons, List.length_cons]
    omega
end Sb
section
variable {P : Program} {w : World} {K : PySem.W.Frag} {mg : Str → Option Value} {base : Heap}
theorem dict_of {H : Hp} {a : Addr} {bs : List Addr} {su : Sb} (tup : Dt.Tup0 H a (bs.map V.ref)) (prs : F2 (SP K H) su bs) (nd : (su.map (·.1)).Nodup) : ∃ kvs, Paired (fun p kv => SqT K H p [kV kv.1, kv.2]) bs kvs ∧ TV K H su kvs ∧ mergeK [] kvs = kvs := by
  obtain ⟨kvs, pd, tv⟩ := sp_pairs prs
  refine ⟨kvs, pd, tv, ?_⟩
  have z := merge_all kvs [] (by
    rw [List.nil_append, tv.keys]
    exact List.Pairwise.map Sum.inl (fun a b h e => h (Sum.inl.inj e)) nd)
  rw [z, List.nil_append]
def spBehind (K : PySem.W.Frag) (Pt : Addr) (n : Nat) : Sp := fun vs H Q _ => ∃ (one other : Sb) (x y : V), vs = [x, y] ∧ Su K H one x ∧ Su K H other y ∧ (one.map (·.1)).Nodup ∧ (other.map (·.1)).Nodup ∧ (∀ e ∈ one, e.2.dep < n ∧ e.2.size ≤ 10000) ∧ one.length + other.length < 64 ∧
  Good (Sb.beh one other) ∧ TabG H Pt ∧ ∀ su z H', (Sb.beh one other).Norm su → Su K H' su z → (∀ b o, b ≠ Pt → H b = some o → H' b = some o) → TabG H' Pt → Q z H'
end
end Ad

namespace Ad
open PySem PySem.Spec PySem.Calls PyProof.Rows L2 GxR
def spLPairs (K : PySem.W.Frag) : Sp := fun vs H Q _ => ∃ (d : Addr) (tb : Sb) (kvs : List (L2.Key × V)), vs = [.ref d] ∧ H d = some (.dK kvs) ∧ TV K H tb kvs ∧ (tb.map (·.1)).Nodup ∧ tb.length < 64 ∧ Good tb ∧
  ∀ su x H', tb.Norm su → Su K H' su x → Same H H' → Q x H'
end Ad

/-! The law's own: behind; renamed; drawn pairs. -/
namespace Ad
open PySem PySem.Spec PySem.Calls PyProof.Rows L2 GxR
theorem dk_tk {H : Hp} {d : Addr} {kvs : List (L2.Key × V)} (h : H d = some (.dK kvs)) (o : HO) : TK H (upd H d o) := by
  intro b xs
  refine ⟨fun e => ?_, fun u e => ?_⟩
  · rw [upd_ne (fun z => by rw [z, h] at e; cases e)]
    exact e
  · rw [upd_ne (fun z => by rw [z, h] at e; cases e)]
    exact e
section
variable {P : Program} {w : World} {K : PySem.W.Frag} {mg : Str → Option Value} {base : Heap}
def spLBeh (K : PySem.W.Frag) (n : Nat) : Sp := fun vs H Q _ => ∃ (one other : Sb) (x y : V), vs = [x, y] ∧ Su K H one x ∧ Su K H other y ∧ (one.map (·.1)).Nodup ∧ (other.map (·.1)).Nodup ∧ (∀ e ∈ one, e.2.dep < n ∧ e.2.size ≤ 10000) ∧ one.length + other.length < 64 ∧
  Good (Sb.beh one other) ∧ ∀ su z H', (Sb.beh one other).Norm su → Su K H' su z → Same H H' → Q z H'
end
/-! ### renamed -/
namespace Sb
/-- the variables of a row, in the order in which they come, called first, first + 1, .. -/
def ren (first : Int) (tb : Sb) : List Int → Sb
  | [] => tb
  | i :: l => ren first (if (look tb i).isSome = true then tb else put tb i (.v (first + (tb.length : Int)))) l
theorem ren_app (first : Int) : ∀ (l m : List Int) (tb : Sb), ren first tb (l ++ m) = ren first (ren first tb l) m
  | [], m, tb => rfl
  | i :: l, m, tb => ren_app first l m _
theorem ren_len (first : Int) : ∀ (l : List Int) (tb : Sb), (ren first tb l).length ≤ tb.length + l.length
  | [], tb => Nat.le_refl _
  | i :: l, tb => by
    have h1 := ren_len first l (if (look tb i).isSome = true then tb else put tb i (.v (first + (tb.length : Int))))
    have h2 := len_put tb i (.v (first + (tb.length : Int)))
    show (ren first _ l).length ≤ tb.length + (l.length + 1)
    split at h1
    · rename_i z
      rw [if_pos z]
      omega
    · rename_i z
      rw [if_neg z]
      omega
end Sb
namespace T
def varOf : T → List Int
  | .v i => [i]
  | .f _ _ => []
mutual
theorem parts_vars : ∀ t : T, t.parts.flatMap varOf = t.vars
  | .v i => rfl
  | .f x ts => by
    show (T.f x ts :: partsL ts).flatMap varOf = varsL ts
    rw [List.flatMap_cons, partsL_vars ts]
    rfl
theorem partsL_vars : ∀ ts : List T, (partsL ts).flatMap varOf = varsL ts
  | [] => rfl
  | t :: ts => by
    show (parts t ++ partsL ts).flatMap varOf = vars t ++ varsL ts
    rw [List.flatMap_append, parts_vars t, partsL_vars ts]
end
end T
end Ad

/-! Drawn orders. -/
namespace Ad
open PySem PySem.Spec PySem.Calls PyProof.Rows L2
/-- a name and its number of arguments -/
abbrev Pr := Str × Nat
def PrV (K : PySem.W.Frag) (H : Hp) (r : Pr) (v : V) : Prop := ∃ b, v = .ref b ∧ SqT K H b [.str r.1, .int (r.2 : Int)]
theorem PrV.mono {K : PySem.W.Frag} {H H' : Hp} (k : TK H H') (r : Pr) (v : V) (h : PrV K H r v) : PrV K H' r v := by
  obtain ⟨b, e, s⟩ := h
  exact ⟨b, e, k.sq s⟩
/-- a list of such pairs -/
def LsP (K : PySem.W.Frag) (H : Hp) (R : List Pr) (a : Addr) : Prop := ∃ vs, H a = some (.lst vs) ∧ F2 (PrV K H) R vs
theorem LsP.same {K : PySem.W.Frag} {H H' : Hp} (s : Same H H') {R : List Pr} {a : Addr} (h : LsP K H R a) : LsP K H' R a := by
  obtain ⟨vs, e, f⟩ := h
  exact ⟨vs, s _ _ e, f.mono (PrV.mono (TK.same s))⟩
section
variable {K : PySem.W.Frag} {σ : L2.St} {H : Hp} {Q : VK}
abbrev tPr (x : Str) (n : Int) : TE := tTup (tCons (tC (.str x)) (tCons (tC (.int n)) tNil))
theorem lit_pr (K : PySem.W.Frag) {x : Str} {n : Nat} (h : ∀ v G, Same H G → PrV K G (x, n) v → Q v G) : tPr x (n : Int) σ H Q :=
  ⟨(by show 2 ≤ sizeLine; decide), fun p np => h _ _ (same_new (fun b o e => e) np _) ⟨p, rfl, .inl (.inl upd_same)⟩⟩
theorem lit_ls1 (K : PySem.W.Frag) {x : Str} {n : Nat} (h : ∀ a G, Same H G → H a = none → LsP K G [(x, n)] a → Q (.ref a) G) : tLst (tCons (tPr x (n : Int)) tNil) σ H Q := by
  show tPr x (n : Int) σ H (fun v G => [v].length ≤ sizeLine ∧ ∀ p, G p = none → Q (.ref p) (upd G p (.lst [v])))
  refine lit_pr K fun v G s pv => ⟨(by show 1 ≤ sizeLine; decide), fun p np => h p _ (same_new s np _) ?_ ⟨_, upd_same, F2.one (PrV.mono (TK.new np _) _ _ pv)⟩⟩
  cases z : H p with
  | none => rfl
  | some o =>
    rw [s _ _ z] at np
    cases np
theorem lit_ls2 (K : PySem.W.Frag) {x y : Str} {n m : Nat} (h : ∀ a G, Same H G → H a = none → LsP K G [(x, n), (y, m)] a → Q (.ref a) G) : tLst (tCons (tPr x (n : Int)) (tCons (tPr y (m : Int)) tNil)) σ H Q := by
  show tPr x (n : Int) σ H (fun v G => tPr y (m : Int) σ G (fun v2 G2 => [v, v2].length ≤ sizeLine ∧ ∀ p, G2 p = none → Q (.ref p) (upd G2 p (.lst [v, v2]))))
  refine lit_pr K fun v G s pv => lit_pr K fun v2 G2 s2 pv2 => ⟨(by show 2 ≤ sizeLine; decide), fun p np => h p _ (same_new (show Same H G2 from fun b o e => s2 b o (s b o e)) np _) ?_ ⟨_, upd_same, ⟨_, _, rfl, PrV.mono ((TK.same s2).trans (TK.new np _)) _ _ pv, F2.one (PrV.mono (TK.new np _) _ _ pv2)⟩⟩⟩
  cases z : H p with
  | none => rfl
  | some o =>
    rw [s2 _ _ (s _ _ z)] at np
    cases np
theorem lit_ls0 (K : PySem.W.Frag) (h : ∀ a G, Same H G → H a = none → LsP K G [] a → Q (.ref a) G) : tLst tNil σ H Q :=
  ⟨Nat.zero_le _, fun p np => h p _ (same_new (fun b o e => e) np _) np ⟨_, upd_same, rfl⟩⟩
theorem cat_prs {R S : List Pr} {a b : Addr} (ha : LsP K H R a) (hb : LsP K H S b) (few : R.length + S.length ≤ 1000) (h : ∀ c G, Same H G → H c = none → LsP K G (R ++ S) c → Q (.ref c) G) : rCat (.ref a) (.ref b) H Q := by
  obtain ⟨xs, e1, f1⟩ := ha
  obtain ⟨ys, e2, f2⟩ := hb
  have l1 := f1.len
  have l2 := f2.len
  refine ⟨a, b, xs, ys, rfl, rfl, e1, e2, by rw [sizeLine_eq]; omega, fun p np => h p _ (same_new (fun b o e => e) np _) np ⟨_, upd_same, ?_⟩⟩
  exact (f1.app f2).mono (PrV.mono (TK.new np _))
end
section
variable {K : PySem.W.Frag} {σ : L2.St} {H : Hp}
theorem lit_truths (K : PySem.W.Frag) {Q : List V → Hp → Prop} (h : ∀ a G xs, Same H G → H a = none → G a = some (.lst xs) → xs.length = 3 → (∀ v ∈ xs, ∃ b S, v = .ref b ∧ H b = none ∧ LsP K G S b ∧ S ∈ [[(("q" : Str), 0)], [("r", 2)], [("q", 0), ("r", 2)]]) → Q [.ref a] G) :
    tCons (tLst (tCons (tLst (tCons (tPr "q" 0) tNil)) (tCons (tLst (tCons (tPr "r" 2) tNil)) (tCons (tLst (tCons (tPr "q" 0) (tCons (tPr "r" 2) tNil))) tNil)))) tNil σ H Q := by
  dsimp only [tCons]
  show tLst (tCons (tPr "q" ((0 : Nat) : Int)) tNil) σ H (fun v1 G1 => tLst (tCons (tPr "r" ((2 : Nat) : Int)) tNil) σ G1 (fun v2 G2 => tLst (tCons (tPr "q" ((0 : Nat) : Int)) (tCons (tPr "r" ((2 : Nat) : Int)) tNil)) σ G2 (fun v3 G3 => [v1, v2, v3].length ≤ sizeLine ∧ ∀ p, G3 p = none → Q [.ref p] (upd G3 p (.lst [v1, v2, v3])))))
  refine lit_ls1 K fun a1 G1 s1 n1 L1 => lit_ls1 K fun a2 G2 s2 n2 L2 => lit_ls2 K fun a3 G3 s3 n3 L3 => ⟨(by show 3 ≤ sizeLine; decide), fun p np => ?_⟩
  have sm : Same H G3 := fun b o e => s3 b o (s2 b o (s1 b o e))
  have back : ∀ {q : Addr} {G : Hp}, Same H G → G q = none → H q = none := fun {q G} s n => by
    cases z : H q with
    | none => rfl
    | some o =>
      rw [s _ _ z] at n
      cases n
  have s4 : Same G3 (upd G3 p (.lst [.ref a1, .ref a2, .ref a3])) := same_new (fun b o e => e) np _
  refine h p _ _ (fun b o e => s4 b o (sm b o e)) (back sm np) upd_same rfl ?_
  intro v hv
  rcases List.mem_cons.mp hv with e | hv
  · exact ⟨a1, _, e, n1, ((L1.same s2).same s3).same s4, by simp⟩
  · rcases List.mem_cons.mp hv with e | hv
    · exact ⟨a2, _, e, back s1 n2, (L2.same s3).same s4, by simp⟩
    · exact ⟨a3, _, List.mem_singleton.mp hv, back (show Same H G2 from fun b o e => s2 b o (s1 b o e)) n3, L3.same s4, by simp⟩
end
/-! ### frames of a pen -/
theorem but_on {p d : Addr} {H G : Hp} (b : Pn.But p H G) (n : H d = none) (o : HO) : Pn.But p H (upd G d o) := fun q u nq e => by
  rw [upd_ne (fun z => by rw [z, n] at e; cases e)]
  exact b _ _ nq e
theorem pen_on {H G : Hp} {p l d : Addr} {ns : List Int} {c0 c : Nat} (P0 : Pn.Pen H p l ns c0) (n : H d = none) (P : Pn.Pen G p l ns c) (o : HO) : Pn.Pen (upd G d o) p l ns c := by
  obtain ⟨⟨a0, d0, f0, e0, _⟩, h0⟩ := P0
  obtain ⟨⟨a, d1, f, e, r⟩, h⟩ := P
  have n1 : p ≠ d := fun z => by rw [z, n] at e0; cases e0
  have n2 : l ≠ d := fun z => by rw [z, n] at h0; cases h0
  exact ⟨⟨a, d1, f, by rw [upd_ne n1]; exact e, r⟩, by rw [upd_ne n2]; exact h⟩
theorem fresh_back {H G : Hp} {p l q : Addr} {ns : List Int} {c : Nat} (b : Pn.But p H G) (P : Pn.Pen G p l ns c) (n : G q = none) : H q = none := by
  cases z : H q with
  | none => rfl
  | some o =>
    by_cases e : q = p
    · obtain ⟨⟨_, _, _, e0, _⟩, _⟩ := P
      rw [e, e0] at n
      cases n
    · rw [b _ _ e z] at n
      cases n
theorem pen_kept {H : Hp} {p l d : Addr} {ns : List Int} {c : Nat} (P : Pn.Pen H p l ns c) (n : H d = none) : d ≠ p := fun z => by
  obtain ⟨⟨_, _, _, e0, _⟩, _⟩ := P
  rw [z, e0] at n
  cases n
theorem LsP.but {K : PySem.W.Frag} {H H' : Hp} {p l : Addr} {ns : List Int} {c : Nat} (P : Pn.Pen H p l ns c) (b : Pn.But p H H') {R : List Pr} {a : Addr} (na : a ≠ p) (h : LsP K H R a) : LsP K H' R a := by
  obtain ⟨vs, e, f⟩ := h
  exact ⟨vs, b _ _ na e, f.mono (PrV.mono (pen_tk P b))⟩
/-! ### the order -/
def thingsB : List (List Pr) := [[("a", 0), ("b", 0), ("c", 0), ("f", 1), ("g", 2)], [("a", 0), ("b", 0), ("f", 1), ("g", 2)], [("a", 0), ("b", 0), ("c", 0), ("f", 1)], [("a", 0), ("b", 0), ("f", 1)]]
def truthsB : List (List Pr) := [[("p", 1), ("q", 0)], [("p", 1), ("r", 2)], [("p", 1), ("q", 0), ("r", 2)]]
/-- the same names in some order, with weights of one and two -/
structure Mixed (B : List Pr) (R : List Row) : Prop where
  perm : (R.map fun r => (r.1, r.2.1)).Perm B
  weights : ∀ r ∈ R, r.2.2 = 1 ∨ r.2.2 = 2
def KdV (K : PySem.W.Frag) (H : Hp) (B : List Pr) (v : V) : Prop := ∃ b R vs, v = .ref b ∧ Mixed B R ∧ SqT K H b vs ∧ F2 (RowV K H) R vs
theorem KdV.mono {K : PySem.W.Frag} {H H' : Hp} (k : TK H H') (B : List Pr) (v : V) (h : KdV K H B v) : KdV K H' B v := by
  obtain ⟨b, R, vs, e, m, s, f⟩ := h
  exact ⟨b, R, vs, e, m, k.sq s, f.mono (RowV.mono k)⟩
def OrdAt (K : PySem.W.Frag) (H : Hp) (a : Addr) (R S : List Row) : Prop := ∃ b1 b2 vs1 vs2, SqT K H a [.ref b1, .ref b2] ∧ SqT K H b1 vs1 ∧ SqT K H b2 vs2 ∧ F2 (RowV K H) R vs1 ∧ F2 (RowV K H) S vs2
theorem OrdAt.rows {K : PySem.W.Frag} {H : Hp} {a : Addr} {R S : List Row} (h : OrdAt K H a R S) : RowsAt K H a R := by
  obtain ⟨b1, b2, vs1, vs2, h0, h1, h2, f1, f2⟩ := h
  exact ⟨b1, _, vs1, h0, h1, f1⟩
theorem OrdAt.mono {K : PySem.W.Frag} {H H' : Hp} (k : TK H H') {a : Addr} {R S : List Row} (h : OrdAt K H a R S) : OrdAt K H' a R S := by
  obtain ⟨b1, b2, vs1, vs2, h0, h1, h2, f1, f2⟩ := h
  exact ⟨b1, b2, vs1, vs2, k.sq h0, k.sq h1, k.sq h2, f1.mono (RowV.mono k), f2.mono (RowV.mono k)⟩
theorem mixed_ok {B : List Pr} {R : List Row} (hB : B ∈ thingsB) (m : Mixed B R) : ROk R := by
  have h : (thingsB.all fun B => B.all (fun r => nameOk r.1 && decide (r.2 ≤ 3)) && B.contains ("a", 0) && decide (B.length ≤ 5)) = true := by decide +kernel
  have h1 := List.all_eq_true.mp h B hB
  rw [Bool.and_eq_true, Bool.and_eq_true] at h1
  obtain ⟨⟨h2, h3⟩, h4⟩ := h1
  refine ⟨fun r hr => ?_, ?_, ?_⟩
  · have z : (r.1, r.2.1) ∈ B := m.perm.mem_iff.mp (List.mem_map.mpr ⟨r, hr, rfl⟩)
    have z2 := List.all_eq_true.mp h2 _ z
    rw [Bool.and_eq_true] at z2
    exact ⟨z2.1, of_decide_eq_true z2.2⟩
  · have z : (("a", 0) : Pr) ∈ B := List.contains_iff_mem.mp h3
    obtain ⟨r, hr, e⟩ := List.mem_map.mp (m.perm.mem_iff.mpr z)
    obtain ⟨j, hj⟩ := List.mem_iff_getElem?.mp hr
    exact ⟨j, r, hj, (Prod.mk.inj e).2⟩
  · have e := m.perm.length_eq
    rw [List.length_map] at e
    have := of_decide_eq_true h4
    omega
theorem F2.erase {α β : Type} {R : α → β → Prop} : ∀ {xs : List α} {ys : List β} (k : Nat), F2 R xs ys → F2 R (xs.eraseIdx k) (ys.eraseIdx k)
  | [], ys, k, h => by
    cases (show ys = [] from h)
    exact rfl
  | x :: xs, ys, 0, h => by
    obtain ⟨y, zs, rfl, h1, h2⟩ := h
    exact h2
  | x :: xs, ys, k + 1, h => by
    obtain ⟨y, zs, rfl, h1, h2⟩ := h
    exact ⟨y, _, rfl, h1, F2.erase k h2⟩
theorem erase_perm {α : Type} : ∀ {xs : List α} {k : Nat} {x : α}, xs[k]? = some x → xs.Perm (x :: xs.eraseIdx k)
  | [], k, x, h => by cases h
  | y :: ys, 0, x, h => by
    cases h
    exact List.Perm.refl _
  | y :: ys, k + 1, x, h => ((erase_perm (xs := ys) (k := k) h).cons y).trans (List.Perm.swap x y _)
theorem sx_nat {j n : Nat} (h : j < n) : seqIndex? (j : Int) n = some j := by
  unfold seqIndex?
  have h1 : ¬ ((j : Int) < 0) := by omega
  have h2 : (decide (0 ≤ (j : Int)) && decide ((j : Int) < (n : Int))) = true := by
    rw [decide_eq_true (by omega), decide_eq_true (by omega)]
    rfl
  simp only [if_neg h1, h2, if_true, Int.toNat_natCast]
/-- what stays but for a pen and two lists -/
def Bt (p u v : Addr) (G G' : Hp) : Prop := ∀ b o, b ≠ p → b ≠ u → b ≠ v → G b = some o → G' b = some o
theorem Bt.refl {p u v : Addr} (G : Hp) : Bt p u v G G := fun _ _ _ _ _ e => e
theorem Bt.but {p u v : Addr} {G G1 G2 : Hp} (a : Bt p u v G G1) (b : Pn.But p G1 G2) : Bt p u v G G2 := fun c o n1 n2 n3 e => b _ _ n1 (a _ _ n1 n2 n3 e)
theorem Bt.u {p u v : Addr} {G G1 : Hp} (a : Bt p u v G G1) (o : HO) : Bt p u v G (upd G1 u o) := fun c o n1 n2 n3 e => by
  rw [upd_ne n2]
  exact a _ _ n1 n2 n3 e
theorem Bt.v {p u v : Addr} {G G1 : Hp} (a : Bt p u v G G1) (o : HO) : Bt p u v G (upd G1 v o) := fun c o n1 n2 n3 e => by
  rw [upd_ne n3]
  exact a _ _ n1 n2 n3 e
theorem Bt.tk {p u v l : Addr} {ns : List Int} {c : Nat} {G G1 : Hp} {us vs : List V} (a : Bt p u v G G1) (P : Pn.Pen G p l ns c) (hu : G u = some (.lst us)) (hv : G v = some (.lst vs)) : TK G G1 := by
  obtain ⟨⟨_, _, _, e0, _⟩, _⟩ := P
  have n : ∀ b o, (∀ kvs, o ≠ HO.dK kvs) → (∀ xs, o ≠ HO.lst xs) → G b = some o → b ≠ p ∧ b ≠ u ∧ b ≠ v := fun b o h1 h2 e => by
    refine ⟨fun z => ?_, fun z => ?_, fun z => ?_⟩
    · rw [z, e0] at e
      cases e
      exact h1 _ rfl
    · rw [z, hu] at e
      cases e
      exact h2 _ rfl
    · rw [z, hv] at e
      cases e
      exact h2 _ rfl
  intro b xs
  refine ⟨fun e => ?_, fun o e => ?_⟩
  · obtain ⟨n1, n2, n3⟩ := n b _ (by intro _ z; cases z) (by intro _ z; cases z) e
    exact a _ _ n1 n2 n3 e
  · obtain ⟨n1, n2, n3⟩ := n b _ (by intro _ z; cases z) (by intro _ z; cases z) e
    exact a _ _ n1 n2 n3 e
def spOrder (K : PySem.W.Frag) : Sp := fun vs H Q _ => ∃ (p l : Addr) (ns : List Int) (c : Nat), vs = [.ref p] ∧ Pn.Pen H p l ns c ∧ ns.length ≤ 1000 ∧ c ≤ 900000000 ∧
  ∀ a R S B C H' c', OrdAt K H' a R S → B ∈ thingsB → C ∈ truthsB → Mixed B R → Mixed C S → c' ≤ c + 40 → Pn.Pen H' p l ns c' → Pn.But p H H' → Q (.ref a) H'
end Ad

/-! enumerate(t) of a tuple; walks over a list or a tuple. -/
namespace Et
open PySem PySem.Spec PySem.Calls PyProof.Rows L2 RZ
theorem draws {prog : Program} {w : World} {A : Around} (hh : A.handled = none) (it l : Addr) (hl : l ≠ it) (items : Array Value) :
    Draws prog w A it [it, l] items.size (fun i v => items[i]? = some v) (fun i h => h.IsTupleIter it l i ∧ h.IsTuple l items) where
  live := fun _ _ ⟨⟨o, ho, _⟩, _⟩ => ⟨o, ho⟩
  frame := fun _ _ _ ⟨st, tp⟩ hk => ⟨st.at fun o e => hk it (by simp) o e, by
    obtain ⟨o, e, r⟩ := tp
    exact ⟨o, hk l (by simp) o e, r⟩⟩
  item := fun i s Q E hi ⟨st, tp⟩ hQ => by
    refine nextOf_tuple_item st tp (x := items[i]) (by simp [hi]) fun h' hit' hs' => ?_
    refine hQ _ h' s.toks (by simp [hi]) ⟨hit', ?_⟩ hs'
    obtain ⟨o, e, r⟩ := tp
    exact ⟨o, hs'.extBut _ _ hl e, r⟩
  done := fun s Q E ⟨st, tp⟩ hE => nextOf_tuple_end hh st tp (by simp) hE
theorem meets_newT (l : Addr) (items : Array Value) :
    Meets (Builtin.«enumerate.__new__» ⟨[.type "enumerate", .ref l], []⟩) (fun _ R s => s.heap.IsTuple l items ∧
      R (.ok (.ret (.ref (s.heap.push { cls := .type "tuple_iterator", data := .fields #[.ref l, .int 0 0] }).objs.size)))
        { s with heap := (s.heap.push { cls := .type "tuple_iterator", data := .fields #[.ref l, .int 0 0] }).push { cls := .type "enumerate", data := .fields #[.none, .bool false, .ref s.heap.objs.size, rawInt 0, .none, .none] } }) :=
  .of_wp fun prog w A R s h => by
    obtain ⟨hp, g, d, tk, os⟩ := s; obtain ⟨hL, h⟩ := h
    have hsub := sub_enumerate
    have hL : Heap.IsTuple (Shared.heap ⟨hp, g, d, tk, os⟩) l items := hL
    wp_walk
    refine wpAny_stack_any fun st => wpAny_pure ?_
    split
    · rename_i c _ _ _ _ _
      cases (c == Value.type "enumerate")
      · wp_walk using wpAny_pyIter_tuple hL
        exact ⟨_, rfl, h⟩
      · wp_walk using wpAny_pyIter_tuple hL
        exact ⟨_, rfl, h⟩
    · wp_walk using wpAny_pyIter_tuple hL
      exact ⟨_, rfl, h⟩
section
variable {prog : Program} {w : World} {A : Around} {E : Value → Shared → Prop} {s : Shared}
theorem call_enumT {l : Addr} {items : Array Value} {Q : Value → Shared → Prop} (hL : s.heap.IsTuple l items)
    (h : ∀ h', IsEnum h' (s.heap.objs.size + 1) s.heap.objs.size 0 .none → h'.IsTupleIter s.heap.objs.size l 0 → h'.objs.size = s.heap.objs.size + 2 →
      (∀ b o, s.heap.get? b = some o → h'.get? b = some o) → Q (.ref (s.heap.objs.size + 1)) { s with heap := h' }) :
    wpAny (model prog w) A (call (.type "enumerate") [.ref l]) Q E s := by
  refine callType_new F.called_enumerate (by decide) (F.typeCall_enumerate_1 _) (F.newCall_enumerate_1 _) (fun obj => F.args_object_init_2 obj _) F.entry_enumerate_new
    (meets_newT l items) ⟨hL, ?_⟩
  have hz : (s.heap.push { cls := .type "tuple_iterator", data := .fields #[.ref l, .int 0 0] }).objs.size = s.heap.objs.size + 1 := Heap.size_push ..
  show _ ∧ _
  rw [hz]
  have he : IsEnum ((s.heap.push { cls := .type "tuple_iterator", data := .fields #[.ref l, .int 0 0] }).push
      { cls := .type "enumerate", data := .fields #[.none, .bool false, .ref s.heap.objs.size, rawInt 0, .none, .none] }) (s.heap.objs.size + 1) s.heap.objs.size 0 .none := by
    have := Heap.get?_push_size (s.heap.push { cls := .type "tuple_iterator", data := .fields #[.ref l, .int 0 0] })
      (o := { cls := .type "enumerate", data := .fields #[.none, .bool false, .ref s.heap.objs.size, rawInt 0, .none, .none] }) rfl
    rw [hz] at this; exact this
  refine ⟨⟨_, he, rfl⟩, h _ he ⟨_, Heap.get?_push_of_some _ (Heap.get?_push_size _ rfl), rfl, rfl⟩ (by rw [Heap.size_push, hz]) fun b o x => Heap.get?_push_of_some _ (Heap.get?_push_of_some _ x)⟩
end
/-- the tuple at a, each item in a new pair -/
def IteT (K : PySem.W.Frag) (a : Addr) : It :=
  ⟨fun i H => ∃ (xs : List V) (x : V), SqT K H a xs ∧ xs[i]? = some x, fun i H v H' => ∃ T x, v = .ref T ∧ H T = none ∧ H' = upd H T (.tup [.int (i : Nat), x]) ∧ ∀ xs, SqT K H a xs → xs[i]? = some x, fun i H => ∃ xs : List V, SqT K H a xs ∧ xs.length ≤ i⟩
theorem turn_enumT {P : Program} {w : World} {K : PySem.W.Frag} {elts : List Expr} {kk : Nat} {tpos : Pos} (a e it : Addr) :
    Turn P w K (.Tuple elts kk tpos) (IteT K a) [e, it] e (fun i h => (∃ old, IsEnum h e it ((i : Nat) : Int) old) ∧ h.IsTupleIter it a i ∧ e ≠ it ∧ a ≠ e ∧ a ≠ it) where
  mem := by simp
  obj := fun i h st b hb => by
    obtain ⟨⟨old, he⟩, ⟨o, ho, hc, hd⟩, _⟩ := st
    have e' : b = e ∨ b = it := by simpa using hb
    rcases e' with z | z
    · rw [z]; exact ⟨_, he, fun v q => nomatch q⟩
    · rw [z]; exact ⟨o, ho, fun v q => by rw [hd] at q; cases q⟩
  keep := fun i h h' st k => let ⟨⟨old, he⟩, hi, hne, r⟩ := st; ⟨⟨old, k e (by simp) _ he⟩, hi.at fun o q => k it (by simp) o q, hne, r⟩
  item := by
    intro X hP hw hK hc i pins s σ H E I hf st hg
    subst hP hw hK
    obtain ⟨⟨old, he⟩, hit, hne, ae, ai⟩ := st
    obtain ⟨xs, x, hq, hx⟩ := hg
    obtain ⟨its, rv, p, hz⟩ := I.tuple hq
    obtain ⟨u, hu, ru⟩ := rv.get hx
    have hel : e < s.heap.objs.size := Heap.lt_size he
    have hil : it < s.heap.objs.size := by obtain ⟨_, q, _⟩ := hit; exact Heap.lt_size q
    have lt : i < its.toArray.size := by
      have := (List.getElem?_eq_some_iff.mp hu).1
      simpa using this
    refine wpAny_pyNext_enum_itemD (draws (A := X.A.in1) (show X.A.in1.handled = none from I.ok.hd hc) it a ai its.toArray) he ⟨hit, p⟩ lt hne (by simp [hne, Ne.symm ae]) fun u' h' tk hu' ho hst' hT hsz hk => ?_
    have eu : u' = u := by
      have z : its[i]? = some u' := by simpa using hu'
      rw [hu] at z
      exact (Option.some.inj z).symm
    subst eu
    refine ⟨_, rfl, wpAny_letOwnedTupleGo_enum (s := { s with heap := h', toks := tk + 1 }) ho fun h'' he' sb => ?_⟩
    have hT2 : h''.get? s.heap.objs.size = some { cls := .type "tuple", data := .seq #[.int i tk, u'] } := (sb.2 _ (Nat.ne_of_gt hel)).trans hT
    have new : ObjOk X.prog X.w (upd H s.heap.objs.size (.tup [.int (i : Nat), x])) h'' s.heap.objs.size (.tup [.int (i : Nat), x]) :=
      ⟨by show 2 ≤ sizeLine; decide, [.int i tk, u'], .cons ⟨_, rfl⟩ (.cons ru .nil), ⟨_, hT2, rfl, _, rfl⟩⟩
    have I1 : Inv X pins σ (upd H s.heap.objs.size (.tup [.int (i : Nat), x])) { s with heap := h'', toks := tk + 1 } :=
      I.turnedNew (ch := [e, it]) (fun b ob hb q => (sb.2 b (fun z => hb (by simp [z]))).trans (hk b ob (fun z => hb (by simp [z])) (fun z => hb (by simp [z])) q)) hf (Nat.le_refl _) new
    refine ⟨.ref s.heap.objs.size, _, I1, rfl, ⟨_, x, rfl, I.hok.fresh (Nat.le_refl _), rfl, fun ys hy => by rw [I.tuple_inj hy hq]; exact hx⟩, ⟨⟨u', ?_⟩, hst'.1.at fun o q => (sb.2 it (Ne.symm hne)).trans q, hne, ae, ai⟩, fun b hb => ?_⟩
    · have e1 : ((i + 1 : Nat) : Int) = (i : Int) + 1 := by omega
      rw [e1]; exact he'
    · have hb' : b < s.heap.objs.size := by
        have e' : b = e ∨ b = it := by simpa using hb
        rcases e' with z | z
        · rw [z]; exact hel
        · rw [z]; exact hil
      rw [upd_ne (Nat.ne_of_lt hb')]
      exact (hf b hb).1
  done := by
    intro X hP hw hK hc i pins s σ H E I hf st hg
    subst hP hw hK
    obtain ⟨⟨old, he⟩, hit, hne, ae, ai⟩ := st
    obtain ⟨xs, hq, hx⟩ := hg
    obtain ⟨its, rv, p, hz⟩ := I.tuple hq
    obtain ⟨f0, f1, f2, f3, f4, f5⟩ := hf it (by simp)
    have hl := rv.length
    have key : ∀ (Q : Option Value → Shared → Prop), (∀ h', Heap.ExtBut it s.heap h' → Q none { s with heap := h' }) → wpAny (model X.prog X.w) X.A (pyNext (.ref e)) Q E s := by
      intro Q hQ
      have hT : s.TypeIs (.ref e) "enumerate" := ⟨_, he, rfl⟩
      unfold pyNext
      refine wpAny_bind (wpAny_attempt (wpAny_callSpecial?_slot (name := Str.ofString "__next__") hT F.slot_enumerate_next
        (wpAny_call_entry F.slot_enumerate_next hT F.entry_enumerate_next ?_ (F.args_enumerate_next_1 _))))
      show wpAny _ _ (field (.ref e) 2 >>= _) _ _ _
      refine wpAny_bind (wpAny_field he rfl (x := .ref it) rfl ?_)
      refine wpAny_bind (nextOf_tuple_end (show X.A.in1.handled = none from I.ok.hd hc) hit p (by simp; omega) fun h' x he' hx' => ?_)
      obtain ⟨o, ho, hcx⟩ := hx'
      refine wpAny_bind (wpAny_isInstance (T := "StopIteration") (b := true) ⟨o, ho, hcx⟩ isSubtype_stop ?_)
      exact wpAny_pure (hQ _ he')
    exact key _ fun h' eb => ⟨rfl, I.turned (t' := s.toks) (fun b o hb q => eb b o hb q) f0 f1 f3 f4 f5⟩
  self := fun A i s Q E st h => let ⟨⟨_, he⟩, _⟩ := st; wpAny_pyIter_enum he h
def iEnumT (K : PySem.W.Frag) (ta : TA) : TI := fun σ H R => ta σ H fun vs H1 => ∃ a xs, vs = [.ref a] ∧ SqT K H1 a xs ∧ R (IteT K a) H1
theorem pi_enumT {X : Cx} {e : Expr} {ta : TA} {p pos tpos : Pos} {elts : List Expr} {kk : Nat} (hg : Gl X "enumerate") (hm : X.mg "enumerate" = none) (ha : PA X [e] ta) (hs : starEach [e] X.env = [(false, eval e X.env)] := by rfl) :
    PI X (.Tuple elts kk tpos) (.Call (.Name "enumerate" p) [e] [] pos) (iEnumT X.K ta) := by
  refine ⟨fun pins s σ H R I h => ?_⟩
  refine Call_ (ld_blt I hg hm boot_enumerate (PyProof.Rows.callWith_type1 (thn (ha.run pos pins s σ H _ I h) fun us s1 ⟨vs, H1, I1, r1, q1⟩ => ?_) hs rfl))
  obtain ⟨a, xs, ex, hq, q⟩ := q1
  subst ex
  cases r1 with
  | cons r rr =>
    cases rr
    cases r
    obtain ⟨its, rv, p', hz⟩ := I1.tuple hq
    have la : a < s1.heap.objs.size := p'.lt
    refine call_enumT p' fun h' he hit hsz hk => wpAny_pyIter_enum he ?_
    have I2 : Inv X pins σ H1 { s1 with heap := h' } := I1.kept (t' := s1.toks) hk
    refine ⟨s1.heap.objs.size + 1, [s1.heap.objs.size + 1, s1.heap.objs.size], _, _, H1, rfl, I2, turn_enumT a (s1.heap.objs.size + 1) s1.heap.objs.size, ⟨⟨.none, he⟩, hit, Nat.succ_ne_self _, Nat.ne_of_lt (Nat.lt_succ_of_lt la), Nat.ne_of_lt la⟩, fun b hb => ?_, q⟩
    have e' : b = s1.heap.objs.size + 1 ∨ b = s1.heap.objs.size := by simpa using hb
    have hle : s1.heap.objs.size ≤ b := by
      rcases e' with z | z
      · rw [z]; exact Nat.le_add_right _ _
      · rw [z]; exact Nat.le_refl _
    exact I1.fpOk hle (I1.hok.fresh hle)
/-! ### a list or a tuple -/
def iAny (K : PySem.W.Frag) (tl : TE) : TI := fun σ H R => tl σ H fun x H1 => ∃ a, x = .ref a ∧ ((∃ xs, SqL K H1 a xs ∧ R (Itl K a) H1) ∨ ∃ xs, SqT K H1 a xs ∧ R (Itt K a) H1)
theorem pi_any {X : Cx} {tg l : Expr} {tl : TE} (hl : PE X l tl) : PI X tg l (iAny X.K tl) := by
  refine ⟨fun pins s σ H R I h => ?_⟩
  refine thn (hl.run pins s σ H _ I h) fun v s1 ⟨x, H1, I1, r1, q1⟩ => ?_
  obtain ⟨a, e, q1⟩ := q1
  subst e
  cases r1
  rcases q1 with ⟨xs, hq, q⟩ | ⟨xs, hq, q⟩
  · obtain ⟨its, rv, p, hz⟩ := I1.list hq
    refine wpAny_pyIter_list p.isList ?_
    refine ⟨s1.heap.objs.size, [s1.heap.objs.size], _, _, H1, rfl, I1.kept (t' := s1.toks) fun b o e => Heap.get?_push_of_some _ e, turn_list a _, ⟨_, Heap.get?_push_size _ rfl, rfl, rfl⟩, fun b hb => ?_, q⟩
    have e : b = s1.heap.objs.size := by simpa using hb
    subst e
    exact I1.fpOk (Nat.le_refl _) (I1.hok.fresh (Nat.le_refl _))
  · obtain ⟨its, rv, p, hz⟩ := I1.tuple hq
    refine wpAny_pyIter_tuple (show s1.heap.IsTuple a its.toArray from p) ?_
    refine ⟨s1.heap.objs.size, [s1.heap.objs.size], _, _, H1, rfl, I1.kept (t' := s1.toks) fun b o e => Heap.get?_push_of_some _ e, turn_tuple a _, ⟨_, Heap.get?_push_size _ rfl, rfl, rfl⟩, fun b hb => ?_, q⟩
    have e : b = s1.heap.objs.size := by simpa using hb
    subst e
    exact I1.fpOk (Nat.le_refl _) (I1.hok.fresh (Nat.le_refl _))
end Et

/-! Orders: rows handed in, the object, its dicts. -/
namespace Ad
open PySem PySem.Spec PySem.Calls PyProof.Rows L2
theorem lsq_ty {K : PySem.W.Frag} {H : Hp} {a : Addr} {xs : List V} (h : SqL K H a xs) : TyX K H (.ref a) (.type "list") := by
  rcases h with (h | ⟨o, h⟩) | h
  · exact .base (.lst h)
  · exact .base (.frz h)
  · obtain ⟨o, _, _, e, c, _⟩ := h
    exact .kList e c
theorem kitSS' {K : PySem.W.Frag} : PySem.W.kitOne K (.type "str") (.type "str") = some true := kit_ty (by decide +kernel)
theorem kitIB {K : PySem.W.Frag} : PySem.W.kitOne K (.type "int") (.type "bool") = some false := kit_ty (by decide +kernel)
theorem kitLL {K : PySem.W.Frag} : PySem.W.kitAny K (.type "list") [.type "list", .type "tuple"] = some true := kitAny_cons (b := true) (kit_ty (by decide +kernel)) (fun z => nomatch z) fun _ => rfl
theorem kitTL {K : PySem.W.Frag} : PySem.W.kitAny K (.type "tuple") [.type "list", .type "tuple"] = some true :=
  kitAny_cons (b := false) (kit_ty (by decide +kernel)) (fun _ => kitAny_cons (b := true) (kit_ty (by decide +kernel)) (fun z => nomatch z) fun _ => rfl) (fun z => nomatch z)
/-- a list or a tuple -/
def SqX (K : PySem.W.Frag) (H : Hp) (a : Addr) (xs : List V) : Prop := SqL K H a xs ∨ SqT K H a xs
theorem SqX.same {K : PySem.W.Frag} {H H' : Hp} (s : Same H H') {a : Addr} {xs : List V} (h : SqX K H a xs) : SqX K H' a xs := h.elim (fun q => .inl (s.seq q)) fun q => .inr ((TK.same s).sq q)
theorem sqx_ty {K : PySem.W.Frag} {H : Hp} {a : Addr} {xs : List V} (h : SqX K H a xs) : ∃ t, TyX K H (.ref a) t ∧ PySem.W.kitAny K t [.type "list", .type "tuple"] = some true := by
  rcases h with h | h
  · exact ⟨_, lsq_ty h, kitLL⟩
  · exact ⟨_, sq_ty h, kitTL⟩
/-- a triple, as a list or a tuple -/
def RowX (K : PySem.W.Frag) (H : Hp) (r : Row) (v : V) : Prop := ∃ b, v = .ref b ∧ SqX K H b [.str r.1, .int (r.2.1 : Int), .int r.2.2]
theorem RowX.same {K : PySem.W.Frag} {H H' : Hp} (s : Same H H') (r : Row) (v : V) (h : RowX K H r v) : RowX K H' r v := by
  obtain ⟨b, e, q⟩ := h
  exact ⟨b, e, q.same s⟩
theorem RowV.x {K : PySem.W.Frag} {H : Hp} (r : Row) (v : V) (h : RowV K H r v) : RowX K H r v := by
  obtain ⟨b, e, q⟩ := h
  exact ⟨b, e, .inr q⟩
/-- names in their places -/
def ranked (R S : List Row) : List Row := ("yes", 0, 1) :: (R ++ S)
def wK (rs : List Row) : List (L2.Key × V) := rs.map fun r => (.inr r.1, .int r.2.2)
def pK : Nat → List Row → List (L2.Key × V)
  | _, [] => []
  | n, r :: rs => (.inr r.1, .int (n : Int)) :: pK (n + 1) rs
theorem valV_wK {rs : List Row} (nd : (rs.map (·.1)).Nodup) {r : Row} (h : r ∈ rs) : valV (wK rs) (.inr r.1) = some (.int r.2.2) := by
  induction rs with
  | nil => cases h
  | cons q rs ih =>
    obtain ⟨n1, n2⟩ := List.nodup_cons.mp nd
    rcases List.mem_cons.mp h with e | e
    · rw [e]
      exact valV_pos rfl
    · have ne : ¬ ((.inr q.1 : L2.Key) = .inr r.1) := fun z => n1 (by show q.1 ∈ _; rw [Sum.inr.inj z]; exact List.mem_map.mpr ⟨r, e, rfl⟩)
      show valV ((.inr q.1, .int q.2.2) :: wK rs) _ = _
      rw [valV_neg ne]
      exact ih n2 e
theorem valV_pK {rs : List Row} (nd : (rs.map (·.1)).Nodup) : ∀ (n i : Nat) (r : Row), rs[i]? = some r → valV (pK n rs) (.inr r.1) = some (.int ((n + i : Nat) : Int)) := by
  induction rs with
  | nil => intro n i r h; cases h
  | cons q rs ih =>
    intro n i r h
    obtain ⟨n1, n2⟩ := List.nodup_cons.mp nd
    cases i with
    | zero =>
      cases h
      exact valV_pos rfl
    | succ i =>
      have ne : ¬ ((.inr q.1 : L2.Key) = .inr r.1) := fun z => n1 (by show q.1 ∈ _; rw [Sum.inr.inj z]; exact List.mem_map.mpr ⟨r, List.mem_of_getElem? h, rfl⟩)
      show valV ((.inr q.1, .int (n : Int)) :: pK (n + 1) rs) _ = _
      rw [valV_neg ne, ih n2 (n + 1) i r h]
      have : n + 1 + i = n + (i + 1) := by omega
      rw [this]
theorem wK_app (a b : List Row) : wK (a ++ b) = wK a ++ wK b := List.map_append
theorem pK_app : ∀ (a b : List Row) (n : Nat), pK n (a ++ b) = pK n a ++ pK (n + a.length) b
  | [], b, n => rfl
  | r :: a, b, n => by
    show _ :: pK (n + 1) (a ++ b) = _ :: (pK (n + 1) a ++ pK (n + (a.length + 1)) b)
    rw [pK_app a b (n + 1)]
    have : n + 1 + a.length = n + (a.length + 1) := by omega
    rw [this]
theorem wK_len (rs : List Row) : (wK rs).length = rs.length := List.length_map ..
theorem pK_len : ∀ (rs : List Row) (n : Nat), (pK n rs).length = rs.length
  | [], _ => rfl
  | r :: rs, n => congrArg Nat.succ (pK_len rs (n + 1))
theorem pK_keys : ∀ (rs : List Row) (n : Nat), (pK n rs).map (·.1) = rs.map fun r => Sum.inr r.1
  | [], _ => rfl
  | r :: rs, n => congrArg (Sum.inr r.1 :: ·) (pK_keys rs (n + 1))
theorem wK_put {rs : List Row} {r : Row} (h : r.1 ∉ rs.map (·.1)) : putK (wK rs) (.inr r.1) (.int r.2.2) = wK (rs ++ [r]) := by
  rw [wK_app, putK_new _ (valV_out fun z => ?_)]
  · rfl
  · unfold wK at z
    rw [List.map_map] at z
    obtain ⟨q, hq, e⟩ := List.mem_map.mp z
    exact h (List.mem_map.mpr ⟨q, hq, Sum.inr.inj e⟩)
theorem pK_put {rs : List Row} {r : Row} (h : r.1 ∉ rs.map (·.1)) : putK (pK 0 rs) (.inr r.1) (.int (rs.length : Int)) = pK 0 (rs ++ [r]) := by
  rw [pK_app, putK_new _ (valV_out fun z => ?_), Nat.zero_add]
  · rfl
  · rw [pK_keys] at z
    obtain ⟨q, hq, e⟩ := List.mem_map.mp z
    exact h (List.mem_map.mpr ⟨q, hq, Sum.inr.inj e⟩)
/-- the object's fields -/
def ordF (bt br bw bp : Addr) : List (Str × V) := putF "_places" (.ref bp) (putF "_weights" (.ref bw) (putF "truths" (.ref br) (putF "things" (.ref bt) [])))
theorem nTT : ¬ (("things" : Str) = "truths") := by decide +kernel
theorem nTW : ¬ (("things" : Str) = "_weights") := by decide +kernel
theorem nTP : ¬ (("things" : Str) = "_places") := by decide +kernel
theorem nRW : ¬ (("truths" : Str) = "_weights") := by decide +kernel
theorem nRP : ¬ (("truths" : Str) = "_places") := by decide +kernel
theorem nWP : ¬ (("_weights" : Str) = "_places") := by decide +kernel
section
variable (bt br bw bp : Addr)
theorem ordF_things : (ordF bt br bw bp).lookup ("things" : Str) = some (.ref bt) := by
  unfold ordF
  rw [lookup_putF, if_neg nTP, lookup_putF, if_neg nTW, lookup_putF, if_neg nTT, lookup_putF, if_pos rfl]
theorem ordF_truths : (ordF bt br bw bp).lookup ("truths" : Str) = some (.ref br) := by
  unfold ordF
  rw [lookup_putF, if_neg nRP, lookup_putF, if_neg nRW, lookup_putF, if_pos rfl]
theorem ordF_weights : (ordF bt br bw bp).lookup ("_weights" : Str) = some (.ref bw) := by
  unfold ordF
  rw [lookup_putF, if_neg nWP, lookup_putF, if_pos rfl]
theorem ordF_places : (ordF bt br bw bp).lookup ("_places" : Str) = some (.ref bp) := by
  unfold ordF
  rw [lookup_putF, if_pos rfl]
end
/-- an Order of these rows stands at o -/
structure OrdI (K : PySem.W.Frag) (C : Addr) (H : Hp) (o : Addr) (R S : List Row) : Prop where
  ex : ∃ dx bt br bw bp vs1 vs2, H o = some (.ins C dx (ordF bt br bw bp)) ∧ SqT K H bt vs1 ∧ F2 (RowV K H) R vs1 ∧ SqT K H br vs2 ∧ F2 (RowV K H) S vs2 ∧ H bw = some (.dK (wK (ranked R S))) ∧ H bp = some (.dK (pK 0 (ranked R S)))
theorem OrdI.same {K : PySem.W.Frag} {C : Addr} {H H' : Hp} (s : Same H H') {o : Addr} {R S : List Row} (h : OrdI K C H o R S) : OrdI K C H' o R S := by
  obtain ⟨dx, bt, br, bw, bp, vs1, vs2, e1, e2, e3, e4, e5, e6, e7⟩ := h.ex
  have k := TK.same s
  exact ⟨dx, bt, br, bw, bp, vs1, vs2, s _ _ e1, k.sq e2, e3.mono (RowV.mono k), k.sq e4, e5.mono (RowV.mono k), s _ _ e6, s _ _ e7⟩
theorem OrdI.but {K : PySem.W.Frag} {C : Addr} {H H' : Hp} {p l : Addr} {ns : List Int} {c : Nat} (P : Pn.Pen H p l ns c) (b : Pn.But p H H') {o : Addr} {R S : List Row} (h : OrdI K C H o R S) : OrdI K C H' o R S := by
  obtain ⟨dx, bt, br, bw, bp, vs1, vs2, e1, e2, e3, e4, e5, e6, e7⟩ := h.ex
  have k := pen_tk P b
  obtain ⟨⟨a, d, f, ep, _⟩, _⟩ := P
  have n : ∀ {q : Addr} {ob : HO}, H q = some ob → (∀ f, ob ≠ .dK (Pn.penK l a d (c : Int) f)) → q ≠ p := fun {q ob} e hn z => by
    rw [z, ep] at e
    exact hn f (Option.some.inj e).symm
  have wn : ∀ (kvs : List (L2.Key × V)), (∃ v r, kvs = (.inr "yes", v) :: r) → ∀ f, HO.dK kvs ≠ .dK (Pn.penK l a d (c : Int) f) := by
    rintro kvs ⟨v, r, rfl⟩ f z
    have z' := HO.dK.inj z
    unfold Pn.penK at z'
    have z2 := congrArg (fun x : List (L2.Key × V) => x.head?.map (·.1)) z'
    have z3 : (some (.inr "yes") : Option L2.Key) = some (.inr "cells") := z2
    have z4 : ("yes" : Str) = "cells" := Sum.inr.inj (Option.some.inj z3)
    exact absurd z4 (by decide +kernel)
  exact ⟨dx, bt, br, bw, bp, vs1, vs2, b _ _ (n e1 (fun f z => nomatch z)) e1, k.sq e2, e3.mono (RowV.mono k), k.sq e4, e5.mono (RowV.mono k), b _ _ (n e6 (wn _ ⟨_, _, rfl⟩)) e6, b _ _ (n e7 (wn _ ⟨_, _, rfl⟩)) e7⟩
/-- rows that make an order -/
structure OOk (R S : List Row) : Prop where
  nd : ((ranked R S).map (·.1)).Nodup
  wt : ∀ r ∈ R ++ S, 1 ≤ r.2.2
  const : ∃ r ∈ R, r.2.1 = 0
  few : R.length + S.length ≤ 40000
end Ad

/-! Drawn substitutions. -/
namespace Ad
open PySem PySem.Spec PySem.Calls PyProof.Rows L2
theorem sz_mono {a b : Nat} (h : a ≤ b) : sz a ≤ sz b := by
  induction h with
  | refl => exact Nat.le_refl _
  | step h ih =>
    refine Nat.le_trans ih ?_
    show sz _ ≤ 1 + 3 * sz _
    omega
theorem dn_mono {a b : Nat} (h : a ≤ b) : dn a ≤ dn b := by
  induction h with
  | refl => exact Nat.le_refl _
  | step h ih =>
    refine Nat.le_trans ih ?_
    show dn _ ≤ 2 + 3 * dn _
    omega
theorem DT.mono {R : List Row} {d e : Nat} {nv : Int} {t : T} (h : d ≤ e) (x : DT R d nv t) : DT R e nv t := ⟨x.named, Nat.le_trans x.dep (by omega), Nat.le_trans x.size (sz_mono h), x.vars, x.wf⟩
theorem rising_len : ∀ {l : List Int} {lo hi : Int}, l.Pairwise (· < ·) → (∀ i ∈ l, lo ≤ i ∧ i < hi) → lo ≤ hi → (l.length : Int) ≤ hi - lo
  | [], lo, hi, _, _, h => by
    show ((0 : Nat) : Int) ≤ hi - lo
    omega
  | a :: l, lo, hi, h1, h2, h => by
    obtain ⟨p1, p2⟩ := List.pairwise_cons.mp h1
    obtain ⟨q1, q2⟩ := h2 a List.mem_cons_self
    have := rising_len (lo := a + 1) (hi := hi) p2 (fun i hi' => ⟨by have := p1 i hi'; omega, (h2 i (List.mem_cons_of_mem _ hi')).2⟩) (by omega)
    rw [List.length_cons]
    omega
theorem Sb.mem_put {tb : Sb} {i : Int} {t : T} {e : Int × T} (h : e ∈ tb.put i t) : e = (i, t) ∨ e ∈ tb := by
  unfold Sb.put at h
  split at h
  · obtain ⟨e', he, h'⟩ := List.mem_map.mp h
    split at h'
    · rename_i z
      left
      rw [← h', z]
    · right
      rw [← h']
      exact he
  · rcases List.mem_append.mp h with z | z
    · exact .inr z
    · exact .inl (List.mem_singleton.mp z)
/-- a substitution in its one form, drawn -/
structure DSu (R : List Row) (deep : Nat) (nv : Int) (su : Sb) : Prop where
  rising : (su.map (·.1)).Pairwise (· < ·)
  each : ∀ e ∈ su, 0 ≤ e.1 ∧ e.1 < nv ∧ DT R deep nv e.2
theorem DSu.few {R : List Row} {deep : Nat} {nv : Int} {su : Sb} (h : DSu R deep nv su) (n : 0 ≤ nv) : (su.length : Int) ≤ nv := by
  have := rising_len (lo := 0) (hi := nv) h.rising (fun i hi => by
    obtain ⟨e, he, rfl⟩ := List.mem_map.mp hi
    exact ⟨(h.each e he).1, (h.each e he).2.1⟩) n
  rw [List.length_map] at this
  omega
section
variable {P : Program} {w : World} {K : PySem.W.Frag} {mg : Str → Option Value} {base : Heap}
def spDPairs (K : PySem.W.Frag) (n : Nat) : Sp := fun vs H Q _ => ∃ (p l ra : Addr) (ns : List Int) (c deep nv : Nat) (R : List Row), vs = [.ref p, .ref ra, .int (nv : Int), .int (deep : Int)] ∧ Pn.Pen H p l ns c ∧ ns.length ≤ 1000 ∧ c + nv * (2 + dn deep) ≤ 1000000000 ∧ RowsAt K H ra R ∧ ROk R ∧
  deep < n ∧ deep ≤ 50 ∧ nv ≤ 60 ∧ ∀ su x H' c', DSu R deep nv su → Su K H' su x → c' ≤ c + nv * (2 + dn deep) → Pn.Pen H' p l ns c' → Pn.But p H H' → Q x H'
end
end Ad

/-! Texts of terms and substitutions. -/
namespace Ad
open PySem PySem.Spec PySem.Calls PyProof.Rows L2
theorem tuple_piled (ts : List Str) : (tupleText ts).length ≤ 3 + piled ts := by
  unfold tupleText
  rw [strLen_append, strLen_append]
  have e1 : ((("(" : String) : Str)).length = 1 := rfl
  have e3 : (((if ts.length == 1 then ",)" else ")" : String) : Str)).length ≤ 2 := by split <;> decide
  rw [e1]
  by_cases z : ts = []
  · subst z
    have e4 : (Str.join ", " ([] : List Str)).length = 0 := rfl
    rw [e4]
    omega
  · have h2 := join_length_add ts z
    omega
theorem small_text (i : Int) (h0 : 0 ≤ i) (h : i < 64) : (toString i : Str).length ≤ 2 ∧ i.natAbs.log2 < 1920 := by
  have all : ∀ j : Fin 64, (toString ((j.val : Nat) : Int) : Str).length ≤ 2 ∧ (((j.val : Nat) : Int)).natAbs.log2 < 1920 := by decide +kernel
  have := all ⟨i.toNat, by omega⟩
  have e : ((i.toNat : Nat) : Int) = i := Int.toNat_of_nonneg h0
  rw [show (((⟨i.toNat, by omega⟩ : Fin 64).val : Nat) : Int) = i from e] at this
  exact this
namespace T
mutual
theorem text : ∀ t : T, t.named = true → (∀ j ∈ t.vars, 0 ≤ j ∧ j < 64) → t.d.showable = true ∧ t.d.shown.length + 2 ≤ 17 * t.size
  | .v i, _, h => by
    obtain ⟨a, b⟩ := h i List.mem_cons_self
    obtain ⟨s1, s2⟩ := small_text i a b
    refine ⟨decide_eq_true s2, ?_⟩
    show (toString i : Str).length + 2 ≤ 17 * 1
    omega
  | .f x ts, n, h => by
    have n' : (nameOk x && namedL ts) = true := n
    rw [Bool.and_eq_true] at n'
    obtain ⟨a, b⟩ := texts ts n'.2 h
    refine ⟨?_, ?_⟩
    · show (true && PyData.showableAll (ds ts)) = true
      rw [a]
      rfl
    · have l := tuple_piled (PyData.shownAll (.str x :: ds ts))
      have e : piled (PyData.shownAll (.str x :: ds ts)) = ((PyData.shown (.str x)).length + 2) + piled (PyData.shownAll (ds ts)) := piled_cons _ _
      have s := nameOk_short n'.1
      show (tupleText (PyData.shownAll (.str x :: ds ts))).length + 2 ≤ 17 * (1 + sizeL ts)
      omega
theorem texts : ∀ ts : List T, namedL ts = true → (∀ j ∈ varsL ts, 0 ≤ j ∧ j < 64) → PyData.showableAll (ds ts) = true ∧ piled (PyData.shownAll (ds ts)) ≤ 17 * sizeL ts
  | [], _, _ => ⟨rfl, Nat.zero_le _⟩
  | t :: ts, n, h => by
    have n' : (named t && namedL ts) = true := n
    rw [Bool.and_eq_true] at n'
    obtain ⟨a1, a2⟩ := text t n'.1 fun j hj => h j (List.mem_append_left _ hj)
    obtain ⟨b1, b2⟩ := texts ts n'.2 fun j hj => h j (List.mem_append_right _ hj)
    refine ⟨?_, ?_⟩
    · show (PyData.showable (d t) && PyData.showableAll (ds ts)) = true
      rw [a1, b1]
      rfl
    · have e : piled (PyData.shownAll (d t :: ds ts)) = ((PyData.shown (d t)).length + 2) + piled (PyData.shownAll (ds ts)) := piled_cons _ _
      show piled (PyData.shownAll (d t :: ds ts)) ≤ 17 * (size t + sizeL ts)
      rw [e]
      omega
end
mutual
theorem fill_vars {s : Int → T} {j : Int} : ∀ t : T, j ∈ (fill s t).vars → ∃ i ∈ t.vars, j ∈ (s i).vars
  | .v i, h => ⟨i, List.mem_cons_self, h⟩
  | .f x ts, h => fillL_vars ts h
theorem fillL_vars {s : Int → T} {j : Int} : ∀ ts : List T, j ∈ varsL (fillL s ts) → ∃ i ∈ varsL ts, j ∈ (s i).vars
  | [], h => by cases h
  | t :: ts, h => by
    rcases List.mem_append.mp h with z | z
    · obtain ⟨i, a, b⟩ := fill_vars t z
      exact ⟨i, List.mem_append_left _ a, b⟩
    · obtain ⟨i, a, b⟩ := fillL_vars ts z
      exact ⟨i, List.mem_append_right _ a, b⟩
end
end T
/-- a substitution's data -/
def suD (su : Sb) : PyData := .tuple (su.map fun e => .tuple [.int e.1, e.2.d])
theorem sps_dp {K : PySem.W.Frag} {H : Hp} : ∀ {su : Sb} {bs : List Addr}, F2 (SP K H) su bs → DpAll K H (bs.map V.ref) (su.map fun e => PyData.tuple [.int e.1, e.2.d])
  | [], bs, h => by
    cases (show bs = [] from h)
    exact .nil
  | e :: su, bs, h => by
    obtain ⟨b, r, rfl, ⟨v, s, t⟩, rest⟩ := h
    exact .cons (.tup s (.cons (.int _) (.cons (Tm.dp _ _ t) .nil))) (sps_dp rest)
theorem su_dp {K : PySem.W.Frag} {H : Hp} {su : Sb} {x : V} (h : Su K H su x) : Dp K H x (suD su) := by
  obtain ⟨a, bs, rfl, t, f⟩ := h
  exact .tup t.sq (sps_dp f)
/-- terms that can be shown, with few parts -/
structure Sm (m : Nat) (t : T) : Prop where
  named : t.named = true
  dep : t.dep ≤ 40
  size : t.size ≤ m
  vars : ∀ j ∈ t.vars, 0 ≤ j ∧ j < 64
theorem su_lay : ∀ {su : Sb}, (∀ e ∈ su, e.2.named = true) → PyData.canLayAll0 (su.map fun e => PyData.tuple [.int e.1, e.2.d]) = true
  | [], _ => rfl
  | e :: su, h => by
    show (PyData.canLay0 (.tuple [.int e.1, e.2.d]) && PyData.canLayAll0 (su.map _)) = true
    rw [su_lay fun e he => h e (List.mem_cons_of_mem _ he)]
    show (((PyData.canLay0 (.int e.1) && (PyData.canLay0 e.2.d && true))) && true) = true
    rw [T.d_lay _ (h e List.mem_cons_self)]
    rfl
theorem su_depth : ∀ {su : Sb}, (∀ e ∈ su, e.2.dep ≤ 40) → PyData.depthAll (su.map fun e => PyData.tuple [.int e.1, e.2.d]) ≤ 41
  | [], _ => Nat.zero_le _
  | e :: su, h => by
    show max (PyData.depth (.tuple [.int e.1, e.2.d])) (PyData.depthAll (su.map _)) ≤ 41
    have h1 := su_depth (su := su) fun e he => h e (List.mem_cons_of_mem _ he)
    have h2 : PyData.depth (.tuple [.int e.1, e.2.d]) = max 0 (max e.2.d.depth 0) + 1 := rfl
    have h3 := h e List.mem_cons_self
    rw [T.d_depth] at h2
    omega
theorem su_show {m : Nat} : ∀ {su : Sb}, (∀ e ∈ su, 0 ≤ e.1 ∧ e.1 < 64 ∧ Sm m e.2) → PyData.showableAll (su.map fun e => PyData.tuple [.int e.1, e.2.d]) = true ∧ piled (PyData.shownAll (su.map fun e => PyData.tuple [.int e.1, e.2.d])) ≤ su.length * (17 * m + 9)
  | [], _ => ⟨rfl, Nat.zero_le _⟩
  | e :: su, h => by
    obtain ⟨a, b⟩ := su_show (m := m) (su := su) fun e he => h e (List.mem_cons_of_mem _ he)
    obtain ⟨i0, i1, sm⟩ := h e List.mem_cons_self
    obtain ⟨s1, s2⟩ := T.text e.2 sm.named sm.vars
    obtain ⟨t1, t2⟩ := small_text e.1 i0 i1
    have z := sm.size
    refine ⟨?_, ?_⟩
    · show ((decide (e.1.natAbs.log2 < 1920) && (PyData.showable e.2.d && true)) && PyData.showableAll (su.map _)) = true
      rw [a, s1, decide_eq_true t2]
      rfl
    · have l := tuple_piled [PyData.shown (.int e.1), PyData.shown e.2.d]
      have p : piled [PyData.shown (.int e.1), PyData.shown e.2.d] = ((PyData.shown (.int e.1)).length + 2) + ((PyData.shown e.2.d).length + 2) := by
        rw [piled_cons, piled_cons, piled_nil]
      have t1' : (PyData.shown (.int e.1)).length ≤ 2 := t1
      have q : piled (PyData.shownAll ((e :: su).map fun e => PyData.tuple [.int e.1, e.2.d])) = ((tupleText [PyData.shown (.int e.1), PyData.shown e.2.d]).length + 2) + piled (PyData.shownAll (su.map fun e => PyData.tuple [.int e.1, e.2.d])) := piled_cons _ _
      rw [q, List.length_cons, Nat.succ_mul]
      omega
/-- a small substitution can be shown -/
theorem su_text {m : Nat} {su : Sb} (hm : m ≤ 10000) (few : su.length ≤ 64) (h : ∀ e ∈ su, 0 ≤ e.1 ∧ e.1 < 64 ∧ Sm m e.2) : (suD su).showable = true ∧ (suD su).hasDict = false ∧ (suD su).depth ≤ 60 ∧ (suD su).shown.length ≤ sizeLine := by
  obtain ⟨a, b⟩ := su_show h
  refine ⟨a, PyData.hasDict_of_canLay _ ?_, ?_, ?_⟩
  · exact su_lay fun e he => (h e he).2.2.named
  · have := su_depth (su := su) fun e he => (h e he).2.2.dep
    show PyData.depthAll (su.map _) + 1 ≤ 60
    omega
  · have l := tuple_piled (PyData.shownAll (su.map fun e => PyData.tuple [.int e.1, e.2.d]))
    have mm : su.length * (17 * m + 9) ≤ 64 * (17 * 10000 + 9) := Nat.mul_le_mul few (by omega)
    show (tupleText (PyData.shownAll (su.map fun e => PyData.tuple [.int e.1, e.2.d]))).length ≤ sizeLine
    rw [sizeLine_eq]
    omega
theorem su_shaped {su : Sb} (h : ∀ e ∈ su, e.2.named = true ∧ e.2.dep ≤ 40) : SeqAt.shaped (suD su) = true := by
  have d := su_depth (su := su) fun e he => (h e he).2
  have l := su_lay (su := su) fun e he => (h e he).1
  unfold SeqAt.shaped
  rw [Bool.and_eq_true]
  refine ⟨l, decide_eq_true ?_⟩
  show PyData.depthAll (su.map _) + 1 ≤ _
  omega
theorem eqv_one {d : PyData} (h : SeqAt.shaped d = true) : PyData.eqv d d = true := SeqAt.eqv_refl d (SeqAt.canLay_of_shaped h)
end Ad

/-! zip's next, once a pair of its own still stands. -/
namespace Zl
open PySem RZ
abbrev IsZ (h : Heap) (z TI TO : Addr) (f0 : Value) (b : Bool) : Prop :=
  h.get? z = some { cls := .type "zip", dict := none, data := .fields #[f0, .bool b, .bool false, .ref TI, .ref TO], slots := #[] }
section
variable {prog : Program} {w : World} {A : Around} {E : Value → Shared → Prop} {s : Shared}
theorem wpAny_alive {M : Model} {a : Addr} {Q : Option Obj → Shared → Prop} (h : Q (s.heap.get? a) s) : wpAny M A (loadIfAlive a) Q E s := fun _ _ _ => h
theorem not_free {z TI TO a : Addr} {b : Bool} {oa : Obj} {Q : Bool → Shared → Prop} (hz : IsZ s.heap z TI TO (rawInt a) b) (ha : s.heap.get? a = some oa)
    (h : ∀ h', IsZ h' z TI TO (rawInt a) true → Heap.SameBut z s.heap h' → Q false { s with heap := h' }) : wpAny (model prog w) A (Builtin.SmallTypes.ownedTupleIsFree (.ref z)) Q E s := by
  unfold Builtin.SmallTypes.ownedTupleIsFree
  refine wpAny_bind (wpAny_field hz rfl (x := rawInt a) rfl ?_)
  show wpAny _ _ (loadIfAlive ((a : Int)).toNat >>= _) _ _ _
  rw [Int.toNat_natCast]
  refine wpAny_bind (wpAny_alive ?_)
  rw [ha]
  show wpAny _ _ (field (.ref z) 1 >>= _) _ _ _
  refine wpAny_bind (wpAny_field hz rfl (x := .bool b) rfl ?_)
  cases b with
  | true =>
    first
      | exact wpAny_pure (h s.heap hz (Heap.SameBut.refl ..))
      | exact wpAny_bind (wpAny_pure (wpAny_pure (h s.heap hz ⟨rfl, fun _ _ _ e => e⟩)))
  | false =>
    refine wpAny_bind (wpAny_setField_rec hz (by simp) fun h₁ hz₁ hs₁ => wpAny_pure ?_)
    exact h h₁ hz₁ hs₁
theorem next2_item {z TI TO i1 i2 l1 l2 c : Addr} {k1 k2 : Nat} {xs ys : Array Value} {x y : Value} {b : Bool} {oa : Obj} {Q : Value → Shared → Prop} (D : ZipApart z TI TO i1 i2 l1 l2)
    (hz : IsZ s.heap z TI TO (rawInt c) b) (ha : s.heap.get? c = some oa) (hTI : IsPair s.heap TI (.ref i1) (.ref i2))
    (h1 : s.heap.IsTupleIter i1 l1 k1) (h2 : s.heap.IsTupleIter i2 l2 k2) (hl1 : s.heap.IsTuple l1 xs) (hl2 : s.heap.IsTuple l2 ys) (hx : xs[k1]? = some x) (hy : ys[k2]? = some y)
    (hQ : ∀ h', IsZ h' z TI TO (rawInt c) true → h'.IsTupleIter i1 l1 (k1 + 1) → h'.IsTupleIter i2 l2 (k2 + 1) → IsPair h' s.heap.objs.size x y → h'.objs.size = s.heap.objs.size + 1 →
      (∀ c o, c ≠ z → c ≠ i1 → c ≠ i2 → s.heap.get? c = some o → h'.get? c = some o) → Q (.ref s.heap.objs.size) { s with heap := h' }) :
    wpAny (model prog w) A (Builtin.«zip.__next__» ⟨[.ref z], []⟩) (fun fin s' => ∃ v, fin = .done (.ret v) ∧ Q v s') E s := by
  show wpAny _ _ (field (.ref z) 2 >>= _) _ _ _
  refine wpAny_bind (wpAny_field hz rfl (x := .bool false) rfl ?_)
  show wpAny _ _ (field (.ref z) 3 >>= _) _ _ _
  refine wpAny_bind (wpAny_field hz rfl (x := .ref TI) rfl ?_)
  refine wpAny_bind (wpAny_seqItems hTI rfl ?_)
  show wpAny _ _ (Builtin.SmallTypes.ownedTupleIsFree (.ref z) >>= _) _ _ _
  refine wpAny_bind (not_free hz ha fun h₁ hz₁ hs₁ => ?_)
  simp only [Bool.false_eq_true, if_false]
  refine wpAny_bind ?_
  simp only [List.forIn_toArray, List.forIn_cons, List.forIn_nil]
  refine wpAny_bind (wpAny_bind (wpAny_holding ?_))
  show wpAny _ _ (Builtin.SmallTypes.nextOf (.ref i1) >>= _) _ _ _
  refine wpAny_bind (nextOf_tuple_item (h1.extBut hs₁.extBut D.i1z) (hl1.extBut hs₁.extBut D.l1z) hx fun h₂ h1₂ hs₂ => wpAny_pure ?_)
  refine wpAny_pure ?_
  refine wpAny_bind (wpAny_bind (wpAny_holding ?_))
  show wpAny _ _ (Builtin.SmallTypes.nextOf (.ref i2) >>= _) _ _ _
  refine wpAny_bind (nextOf_tuple_item ((h2.extBut hs₁.extBut D.i2z).extBut hs₂.extBut D.i12.symm) ((hl2.extBut hs₁.extBut D.l2z).extBut hs₂.extBut D.l2i1) hy fun h₃ h2₃ hs₃ => wpAny_pure ?_)
  refine wpAny_pure (wpAny_pure ?_)
  refine wpAny_bind (wpAny_newTuple (hsz := by show 2 ≤ sizeLine; decide) ?_)
  have hsz : h₃.objs.size = s.heap.objs.size := by rw [hs₃.1, hs₂.1, hs₁.1]
  refine wpAny_pure ⟨_, rfl, ?_⟩
  show Q (.ref h₃.objs.size) _
  have up : ∀ c o, c ≠ z → c ≠ i1 → c ≠ i2 → s.heap.get? c = some o → h₃.get? c = some o := fun c o c1 c2 c3 e => hs₃.extBut _ _ c3 (hs₂.extBut _ _ c2 (hs₁.extBut _ _ c1 e))
  have hp : IsPair (h₃.push { cls := .type "tuple", data := .seq #[x, y] }) h₃.objs.size x y := Heap.get?_push_size _ rfl
  rw [hsz] at hp ⊢
  refine hQ _ (Heap.get?_push_of_some _ (hs₃.extBut _ _ D.i2z.symm (hs₂.extBut _ _ D.i1z.symm hz₁))) ((h1₂.extBut hs₃.extBut D.i12).at fun o e => Heap.get?_push_of_some _ e) (h2₃.at fun o e => Heap.get?_push_of_some _ e) hp (by rw [Heap.size_push, hsz]) fun c o c1 c2 c3 e => Heap.get?_push_of_some _ (up c o c1 c2 c3 e)
theorem next2_end {z TI TO i1 i2 l1 l2 c : Addr} {k1 : Nat} {xs : Array Value} {b : Bool} {oa : Obj} {Q : Fin → Shared → Prop} (hh : A.handled = none) (D : ZipApart z TI TO i1 i2 l1 l2)
    (hz : IsZ s.heap z TI TO (rawInt c) b) (ha : s.heap.get? c = some oa) (hTI : IsPair s.heap TI (.ref i1) (.ref i2))
    (h1 : s.heap.IsTupleIter i1 l1 k1) (hl1 : s.heap.IsTuple l1 xs) (hx : xs[k1]? = none)
    (hE : ∀ h' e, (∀ c o, c ≠ z → c ≠ i1 → s.heap.get? c = some o → h'.get? c = some o) → (∃ o, h'.get? e = some o ∧ o.cls = .type "StopIteration") → E (.ref e) { s with heap := h' }) :
    wpAny (model prog w) A (Builtin.«zip.__next__» ⟨[.ref z], []⟩) Q E s := by
  show wpAny _ _ (field (.ref z) 2 >>= _) _ _ _
  refine wpAny_bind (wpAny_field hz rfl (x := .bool false) rfl ?_)
  show wpAny _ _ (field (.ref z) 3 >>= _) _ _ _
  refine wpAny_bind (wpAny_field hz rfl (x := .ref TI) rfl ?_)
  refine wpAny_bind (wpAny_seqItems hTI rfl ?_)
  show wpAny _ _ (Builtin.SmallTypes.ownedTupleIsFree (.ref z) >>= _) _ _ _
  refine wpAny_bind (not_free hz ha fun h₁ hz₁ hs₁ => ?_)
  simp only [Bool.false_eq_true, if_false]
  refine wpAny_bind ?_
  simp only [List.forIn_toArray, List.forIn_cons, List.forIn_nil]
  refine wpAny_bind (wpAny_bind (wpAny_holding ?_))
  show wpAny _ _ (Builtin.SmallTypes.nextOf (.ref i1) >>= _) _ _ _
  refine wpAny_bind (nextOf_tuple_end hh (h1.extBut hs₁.extBut D.i1z) (hl1.extBut hs₁.extBut D.l1z) hx fun h₂ e hs₂ he => ?_)
  exact hE h₂ e (fun c o c1 c2 x => hs₂ _ _ c2 (hs₁.extBut _ _ c1 x)) he
theorem pyNext2_item {z TI TO i1 i2 l1 l2 c : Addr} {k1 k2 : Nat} {xs ys : Array Value} {x y : Value} {b : Bool} {oa : Obj} {Q : Option Value → Shared → Prop} (D : ZipApart z TI TO i1 i2 l1 l2)
    (hz : IsZ s.heap z TI TO (rawInt c) b) (ha : s.heap.get? c = some oa) (hTI : IsPair s.heap TI (.ref i1) (.ref i2))
    (h1 : s.heap.IsTupleIter i1 l1 k1) (h2 : s.heap.IsTupleIter i2 l2 k2) (hl1 : s.heap.IsTuple l1 xs) (hl2 : s.heap.IsTuple l2 ys) (hx : xs[k1]? = some x) (hy : ys[k2]? = some y)
    (hQ : ∀ h', IsZ h' z TI TO (rawInt c) true → h'.IsTupleIter i1 l1 (k1 + 1) → h'.IsTupleIter i2 l2 (k2 + 1) → IsPair h' s.heap.objs.size x y → h'.objs.size = s.heap.objs.size + 1 →
      (∀ c o, c ≠ z → c ≠ i1 → c ≠ i2 → s.heap.get? c = some o → h'.get? c = some o) → Q (some (.ref s.heap.objs.size)) { s with heap := h' }) :
    wpAny (model prog w) A (pyNext (.ref z)) Q E s := by
  have hT : s.TypeIs (.ref z) "zip" := ⟨_, hz, rfl⟩
  unfold pyNext
  exact wpAny_bind (wpAny_attempt (wpAny_callSpecial?_slot (name := Str.ofString "__next__") hT F.slot_zip_next
    (wpAny_call_entry F.slot_zip_next hT F.entry_zip_next
      (next2_item D hz ha hTI h1 h2 hl1 hl2 hx hy fun h' a1 a2 a3 a4 a5 a6 => wpAny_pure (hQ h' a1 a2 a3 a4 a5 a6)) (F.args_zip_next_1 _))))
theorem pyNext2_end {z TI TO i1 i2 l1 l2 c : Addr} {k1 : Nat} {xs : Array Value} {b : Bool} {oa : Obj} {Q : Option Value → Shared → Prop} (hh : A.handled = none) (D : ZipApart z TI TO i1 i2 l1 l2)
    (hz : IsZ s.heap z TI TO (rawInt c) b) (ha : s.heap.get? c = some oa) (hTI : IsPair s.heap TI (.ref i1) (.ref i2))
    (h1 : s.heap.IsTupleIter i1 l1 k1) (hl1 : s.heap.IsTuple l1 xs) (hx : xs[k1]? = none)
    (hQ : ∀ h', (∀ c o, c ≠ z → c ≠ i1 → s.heap.get? c = some o → h'.get? c = some o) → Q none { s with heap := h' }) : wpAny (model prog w) A (pyNext (.ref z)) Q E s := by
  have hT : s.TypeIs (.ref z) "zip" := ⟨_, hz, rfl⟩
  unfold pyNext
  refine wpAny_bind (wpAny_attempt (wpAny_callSpecial?_slot (name := Str.ofString "__next__") hT F.slot_zip_next
    (wpAny_call_entry F.slot_zip_next hT F.entry_zip_next (next2_end hh D hz ha hTI h1 hl1 hx fun h' e hk he => ?_) (F.args_zip_next_1 _))))
  obtain ⟨o, ho, hc⟩ := he
  refine wpAny_bind (wpAny_isInstance (T := "StopIteration") (b := true) ⟨o, ho, hc⟩ isSubtype_stop ?_)
  exact wpAny_pure (hQ _ hk)
end
end Zl

/-! list(zip(t, u)) of two tuples of one length. -/
namespace Zl
open PySem PySem.Spec PySem.Calls PyProof.Rows L2 RZ
/-- where the walk stands -/
structure ZSt (h : Heap) (z TI TO i1 i2 a b : Addr) (k : Nat) : Prop where
  zip : (IsZip h z TI TO .none) ∨ ∃ c bb oa, IsZ h z TI TO (rawInt (c : Nat)) bb ∧ h.get? c = some oa ∧ c ≠ z ∧ c ≠ TI ∧ c ≠ TO ∧ c ≠ i1 ∧ c ≠ i2
  ti : IsPair h TI (.ref i1) (.ref i2)
  to : ∃ x y, IsPair h TO x y
  it1 : h.IsTupleIter i1 a k
  it2 : h.IsTupleIter i2 b k
/-- pairs stand at cs -/
def Prs (G : Hp) (xs ys : List V) (cs : List Addr) : Prop := ∀ (i : Nat) (c : Addr), cs[i]? = some c → ∃ x y, xs[i]? = some x ∧ ys[i]? = some y ∧ G c = some (.tup [x, y])
section
variable {X : Cx} {pins : List (Addr × Obj)} {σ : L2.St} {H : Hp}
theorem loop {A : Around} {R : Result → Shared → Prop} {S z TI TO i1 i2 a b : Addr} {xs ys : List V} {res : Value} (hh : A.handled = none) (D : ZipApart z TI TO i1 i2 a b) (len : xs.length = ys.length) (few : xs.length ≤ sizeLine) (nS : H S = none)
    (hR : ∀ s' G' cs, Inv X pins σ G' s' → Same H G' → G' S = some (.lst (cs.map V.ref)) → cs.length = xs.length → Prs G' xs ys cs → R (.ok (.ret res)) s') :
    ∀ (m k : Nat) (s : Shared) (G : Hp) (cs : List Addr), xs.length = k + m → Inv X pins σ G s → Same H G → G S = some (.lst (cs.map V.ref)) → cs.length = k → Prs G xs ys cs → SqT X.K G a xs → SqT X.K G b ys → (∀ c ∈ [z, TI, TO, i1, i2], FpOk X pins G c) → ZSt s.heap z TI TO i1 i2 a b k →
      codeAny (model X.prog X.w) A (.builtin "list.extend.loop" ⟨[.ref S, .ref z, res], []⟩) R s := by
  intro m
  induction m with
  | zero =>
    intro k s G cs hk I sm gS lcs prs sa sb fp st
    obtain ⟨its, rv, p, _⟩ := I.tuple sa
    obtain ⟨its2, rv2, p2, _⟩ := I.tuple sb
    have l1 := rv.length
    have e1 : its.toArray[k]? = none := by simp; omega
    refine codeAny_builtin F.entry_extend_loop ?_
    rw [Around.under_plainId F.plain_extend_loop _]
    show wpAny _ A.in1 (pyNext (.ref z) >>= _) _ _ s
    obtain ⟨zip, ti, ⟨x0, y0, to⟩, it1, it2⟩ := st
    have fin : ∀ h' : Heap, (∀ c o, c ∉ [z, TI, TO, i1, i2] → s.heap.get? c = some o → h'.get? c = some o) → R (.ok (.ret res)) { s with heap := h' } := fun h' hk' =>
      hR _ G cs (I.turnedL (t' := s.toks) (ch := [z, TI, TO, i1, i2]) hk' fp) sm gS (by omega) prs
    rcases zip with zip | ⟨c, bb, oa, zip, alive, _⟩
    · refine wpAny_bind (pyNext_zipT_end (A := A.in1) hh D zip ti to it1 it2 p p2 (.inl e1) fun h' hk' => wpAny_pure (fin h' fun c o hc e => ?_))
      exact hk' c o (fun q => hc (by simp [q])) (fun q => hc (by simp [q])) (fun q => hc (by simp [q])) (fun q => hc (by simp [q])) e
    · refine wpAny_bind (pyNext2_end (A := A.in1) hh D zip alive ti it1 p e1 fun h' hk' => wpAny_pure (fin h' fun c o hc e => ?_))
      exact hk' c o (fun q => hc (by simp [q])) (fun q => hc (by simp [q])) e
  | succ m ih =>
    intro k s G cs hk I sm gS lcs prs sa sb fp st
    obtain ⟨its, rv, p, _⟩ := I.tuple sa
    obtain ⟨its2, rv2, p2, _⟩ := I.tuple sb
    have hx : xs[k]? = some xs[k] := List.getElem?_eq_getElem (by omega)
    have hy : ys[k]? = some ys[k] := List.getElem?_eq_getElem (by omega)
    generalize xs[k] = x at hx
    generalize ys[k] = y at hy
    obtain ⟨u, hu, ru⟩ := rv.get hx
    obtain ⟨u2, hu2, ru2⟩ := rv2.get hy
    refine codeAny_builtin F.entry_extend_loop ?_
    rw [Around.under_plainId F.plain_extend_loop _]
    show wpAny _ A.in1 (pyNext (.ref z) >>= _) _ _ s
    obtain ⟨zip, ti, ⟨x0, y0, to⟩, it1, it2⟩ := st
    have lt : ∀ {c o}, s.heap.get? c = some o → s.heap.objs.size ≠ c := fun e => Nat.ne_of_gt (Heap.lt_size e)
    have nz : s.heap.objs.size ≠ z := by
      rcases zip with q | ⟨_, _, _, q, _⟩
      · exact lt q
      · exact lt q
    have nTI := lt ti
    have nTO := lt to
    have n1 : s.heap.objs.size ≠ i1 := by obtain ⟨_, e, _⟩ := it1; exact lt e
    have n2 : s.heap.objs.size ≠ i2 := by obtain ⟨_, e, _⟩ := it2; exact lt e
    have on : ∀ h' : Heap, (∀ c o, c ∉ [z, TI, TO, i1, i2] → s.heap.get? c = some o → h'.get? c = some o) → IsPair h' s.heap.objs.size u u2 → ZSt h' z TI TO i1 i2 a b (k + 1) →
        wpAny (model X.prog X.w) A.in1 (updateSeq S (·.push (.ref s.heap.objs.size)) >>= fun _ => again (.builtin "list.extend.loop" ⟨[.ref S, .ref z, res], []⟩))
          (fun fin s' => match fin with | .done f => R (.ok f) s' | .again c' => c'.quiet = true ∧ codeAny (model X.prog X.w) A c' R s') (fun e s' => R (.error e) s') { s with heap := h' } := by
      intro h' hk' hp st'
      have new : ObjOk X.prog X.w (upd G s.heap.objs.size (.tup [x, y])) h' s.heap.objs.size (.tup [x, y]) := ⟨by show 2 ≤ sizeLine; decide, [u, u2], .cons ru (.cons ru2 .nil), ⟨_, hp, rfl, _, rfl⟩⟩
      have fr := I.hok.fresh (Nat.le_refl s.heap.objs.size)
      have I1 : Inv X pins σ (upd G s.heap.objs.size (.tup [x, y])) { s with heap := h' } := I.turnedNew (t' := s.toks) (ch := [z, TI, TO, i1, i2]) hk' fp (Nat.le_refl _) new
      have k1 : Same G (upd G s.heap.objs.size (.tup [x, y])) := fun c o e => by
        rw [upd_ne (ne_of_none e fr)]
        exact e
      have gS1 := k1 _ _ gS
      have m1 : (upd G s.heap.objs.size (.tup [x, y])) s.heap.objs.size = some (.tup [x, y]) := upd_same
      have fp1 : ∀ c ∈ [z, TI, TO, i1, i2], FpOk X pins (upd G s.heap.objs.size (.tup [x, y])) c := by
        intro c hc
        obtain ⟨q1, q2⟩ := fp c hc
        refine ⟨?_, q2⟩
        rw [upd_ne (fun q => ?_)]
        · exact q1
        · simp only [List.mem_cons, List.mem_nil_iff, or_false] at hc
          rcases hc with e | e | e | e | e <;> rw [e] at q <;> first | exact nz q.symm | exact nTI q.symm | exact nTO q.symm | exact n1 q.symm | exact n2 q.symm
      have sa1 : SqT X.K (upd G s.heap.objs.size (.tup [x, y])) a xs := by
        rcases sa with (q | ⟨o, q⟩) | q
        · exact .inl (.inl (k1 _ _ q))
        · exact .inl (.inr ⟨o, k1 _ _ q⟩)
        · exact .inr q
      have sb1 : SqT X.K (upd G s.heap.objs.size (.tup [x, y])) b ys := by
        rcases sb with (q | ⟨o, q⟩) | q
        · exact .inl (.inl (k1 _ _ q))
        · exact .inl (.inr ⟨o, k1 _ _ q⟩)
        · exact .inr q
      have prs1 : Prs (upd G s.heap.objs.size (.tup [x, y])) xs ys cs := fun i c e => by
        obtain ⟨x', y', q1, q2, q3⟩ := prs i c e
        exact ⟨x', y', q1, q2, k1 _ _ q3⟩
      have sm1 : Same H (upd G s.heap.objs.size (.tup [x, y])) := fun c o e => k1 _ _ (sm _ _ e)
      generalize upd G s.heap.objs.size (.tup [x, y]) = G1 at I1 gS1 m1 fp1 sa1 sb1 prs1 sm1
      clear new fr k1
      obtain ⟨_, itsS, nn, rS, hlS, eS⟩ := I1.lstM gS1
      have lS := rS.length
      rw [List.length_map] at lS
      have I2 : Inv X pins σ (upd G1 S (.lst (cs.map V.ref ++ [.ref s.heap.objs.size]))) { ({ s with heap := h' } : Shared) with heap := h'.update S (Obj.mapSeq (·.push (.ref s.heap.objs.size))), toks := s.toks } :=
        I1.lset (its' := itsS ++ [Value.ref s.heap.objs.size]) gS1 eS (by simp) (rS.append (.cons (show L2.RelV (V.ref s.heap.objs.size) (Value.ref s.heap.objs.size) from rfl) .nil)) (by rw [List.length_append, List.length_map, List.length_singleton]; omega)
      have offS : ∀ c ∈ [z, TI, TO, i1, i2], c ≠ S := fun c hc q => by
        have := (fp1 c hc).1
        rw [q, gS1] at this
        cases this
      refine wpAny_bind (wpAny_updateSeq eS rfl (wpAny_pure ⟨plainId_quiet F.plain_extend_loop _, ?_⟩) (by rw [List.size_toArray]; omega) (by show (itsS.toArray.push _).size ≤ sizeLine + 1; rw [Array.size_push, List.size_toArray]; omega))
      have other : ∀ {c o}, c ≠ S → h'.get? c = some o → (h'.update S (Obj.mapSeq (·.push (.ref s.heap.objs.size)))).get? c = some o := fun n e => (Heap.get?_update_other _ _ (Ne.symm n)).trans e
      have bS : ∀ {c o}, G1 c = some o → (∀ l, o ≠ .lst l) → c ≠ S := fun e n q => by
        rw [q, gS1] at e
        exact n _ (Option.some.inj e).symm
      have k2 : ∀ {c o}, G1 c = some o → (∀ l, o ≠ .lst l) → (upd G1 S (.lst (cs.map V.ref ++ [.ref s.heap.objs.size]))) c = some o := fun e n => by
        rw [upd_ne (bS e n)]
        exact e
      refine ih (k + 1) _ (upd G1 S (.lst (cs.map V.ref ++ [.ref s.heap.objs.size]))) (cs ++ [s.heap.objs.size]) (by omega) I2 (fun c o e => ?_) (by rw [List.map_append]; exact upd_same) (by rw [List.length_append, List.length_singleton, lcs]) ?_ ?_ ?_ ?_ ?_
      · rw [upd_ne (ne_of_none e nS)]
        exact sm1 _ _ e
      · intro i c e
        rw [List.getElem?_append] at e
        split at e
        · obtain ⟨x', y', q1, q2, q3⟩ := prs1 i c e
          exact ⟨x', y', q1, q2, k2 q3 (by intro l q; cases q)⟩
        · rename_i hlt
          have i0 : i = k := by
            cases hi : i - cs.length with
            | zero => omega
            | succ j =>
              rw [hi] at e
              cases e
          subst i0
          rw [lcs, Nat.sub_self] at e
          cases e
          exact ⟨x, y, hx, hy, k2 m1 (by intro l q; cases q)⟩
      · rcases sa1 with (q | ⟨o, q⟩) | q
        · exact .inl (.inl (k2 q (by intro l q; cases q)))
        · exact .inl (.inr ⟨o, k2 q (by intro l q; cases q)⟩)
        · exact .inr q
      · rcases sb1 with (q | ⟨o, q⟩) | q
        · exact .inl (.inl (k2 q (by intro l q; cases q)))
        · exact .inl (.inr ⟨o, k2 q (by intro l q; cases q)⟩)
        · exact .inr q
      · intro c hc
        obtain ⟨q1, q2⟩ := fp1 c hc
        exact ⟨by rw [upd_ne (offS c hc)]; exact q1, q2⟩
      · obtain ⟨zip', ti', ⟨x1, y1, to'⟩, it1', it2'⟩ := st'
        refine ⟨?_, other (offS TI (by simp)) ti', ⟨x1, y1, other (offS TO (by simp)) to'⟩, it1'.at fun o e => other (offS i1 (by simp)) e, it2'.at fun o e => other (offS i2 (by simp)) e⟩
        rcases zip' with q | ⟨c, bb, oa, q, al, r⟩
        · exact .inl (other (offS z (by simp)) q)
        · by_cases hc : c = S
          · have al' := al
            rw [hc, eS] at al'
            cases al'
            have e5 := Heap.get?_update_self (Obj.mapSeq (·.push (.ref s.heap.objs.size))) eS rfl
            exact .inr ⟨c, bb, _, other (offS z (by simp)) q, by rw [hc]; exact e5, r⟩
          · exact .inr ⟨c, bb, oa, other (offS z (by simp)) q, other hc al, r⟩
    rcases zip with zip | ⟨c, bb, oa, zip, alive, c1, c2, c3, c4, c5⟩
    · refine wpAny_bind (pyNext_zipT_item (A := A.in1) D zip ti to it1 it2 p p2 (x := u) (y := u2) (by simpa using hu) (by simpa using hu2) fun h' z' TO' h1' h2' hT hsz hk' => ?_)
      refine on h' (fun c o hc e => hk' c o (fun q => hc (by simp [q])) (fun q => hc (by simp [q])) (fun q => hc (by simp [q])) (fun q => hc (by simp [q])) e) hT ?_
      exact ⟨.inr ⟨_, false, _, z', hT, nz, nTI, nTO, n1, n2⟩, hk' _ _ D.TIz D.TITO D.TIi1 D.TIi2 ti, ⟨_, _, TO'⟩, h1', h2'⟩
    · refine wpAny_bind (pyNext2_item (A := A.in1) D zip alive ti it1 it2 p p2 (x := u) (y := u2) (by simpa using hu) (by simpa using hu2) fun h' z' h1' h2' hT hsz hk' => ?_)
      refine on h' (fun c o hc e => hk' c o (fun q => hc (by simp [q])) (fun q => hc (by simp [q])) (fun q => hc (by simp [q])) e) hT ?_
      exact ⟨.inr ⟨c, true, oa, z', hk' _ _ c1 c4 c5 alive, c1, c2, c3, c4, c5⟩, hk' _ _ D.TIz D.TIi1 D.TIi2 ti, ⟨_, _, hk' _ _ D.TOz D.TOi1 D.TOi2 to⟩, h1', h2'⟩
end
end Zl

/-! list(zip(t, u)) as an expression. -/
namespace Zl
open PySem PySem.Spec PySem.Calls PyProof.Rows L2 RZ
theorem zip_no_len : typeLookup (.type "zip") "__len__" = pure none := by rw [typeLookup_type, builtinLookup_eq_fast]; kernel_rfl
theorem zip_no_hint : typeLookup (.type "zip") "__length_hint__" = pure none := by rw [typeLookup_type, builtinLookup_eq_fast]; kernel_rfl
section
variable {X : Cx} {pins : List (Addr × Obj)} {σ : L2.St}
theorem extend {A : Around} {R : Result → Shared → Prop} {S z TI TO i1 i2 a b : Addr} {xs ys : List V} {res : Value} {H G : Hp} {s : Shared} (hh : A.handled = none) (D : ZipApart z TI TO i1 i2 a b) (len : xs.length = ys.length) (few : xs.length ≤ sizeLine) (nS : H S = none)
    (I : Inv X pins σ G s) (sm : Same H G) (gS : G S = some (.lst [])) (sa : SqT X.K G a xs) (sb : SqT X.K G b ys) (fp : ∀ c ∈ [z, TI, TO, i1, i2], FpOk X pins G c) (zip : IsZip s.heap z TI TO .none) (ti : IsPair s.heap TI (.ref i1) (.ref i2)) (to : IsPair s.heap TO .none .none) (it1 : s.heap.IsTupleIter i1 a 0) (it2 : s.heap.IsTupleIter i2 b 0)
    (hR : ∀ s' G' cs, Inv X pins σ G' s' → Same H G' → G' S = some (.lst (cs.map V.ref)) → cs.length = xs.length → Prs G' xs ys cs → R (.ok (.ret res)) s') :
    wpAny (model X.prog X.w) A.in1 (Builtin.List.listExtendWith (.ref S) (.ref z) res)
      (fun fin s' => match fin with | .done f => R (.ok f) s' | .again c' => c'.quiet = true ∧ codeAny (model X.prog X.w) A c' R s') (fun e s' => R (.error e) s') s := by
  have offS : ∀ c ∈ [z, TI, TO, i1, i2], c ≠ S := fun c hc q => by
    have := (fp c hc).1
    rw [q, gS] at this
    cases this
  have hT : s.TypeIs (.ref z) "zip" := ⟨_, zip, rfl⟩
  unfold Builtin.List.listExtendWith
  refine wpAny_bind (wpAny_typeOf hT ?_)
  have h1 : Builtin.List.listSameRef (.ref S) (.ref z) = false := by simp [Builtin.List.listSameRef, Ne.symm (offS z (by simp))]
  have h2 : (Value.type "zip" == Value.type "list") = false := by decide
  have h3 : (Value.type "zip" == Value.type "tuple") = false := by decide
  simp only [h1, h2, h3, Bool.or_false, Bool.false_eq_true, if_false]
  refine wpAny_bind (wpAny_pyIter_zip zip ?_)
  refine wpAny_bind (wpAny_holding ?_)
  unfold Builtin.List.listLengthHint
  refine wpAny_bind (wpAny_specialOf hT zip_no_len ?_)
  show wpAny _ A.in1 (specialOf (Value.ref z) (Str.ofString "__length_hint__") >>= _) _ _ _
  refine wpAny_bind (wpAny_specialOf hT zip_no_hint ?_)
  refine wpAny_pure ?_
  show wpAny _ A.in1 (rule "list.extend.makes-room" >>= fun _ => Builtin.List.listTouch (.ref S) >>= fun _ =>
    again (.builtin "list.extend.loop" ⟨[.ref S, .ref z, res], []⟩)) _ _ _
  refine wpAny_bind (wpAny_rule ?_)
  refine wpAny_bind ?_
  show wpAny _ A.in1 (updateSeq S (·.push .none) >>= fun _ => updateSeq S (·.pop)) _ _ _
  obtain ⟨_, its, nn, r0, hl0, e0⟩ := I.lstM gS
  have i0 : its = [] := by cases r0; rfl
  subst i0
  refine wpAny_bind (wpAny_updateSeq e0 rfl ?_)
  have I1 : Inv X pins σ (upd G S (.lst [.non])) { s with heap := s.heap.update S (Obj.mapSeq (·.push .none)), toks := s.toks } := I.lset (its' := [Value.none]) gS e0 (by simp) (.cons (show L2.RelV V.non Value.none from rfl) .nil) (by show 1 ≤ sizeLine; decide)
  have g1 : (upd G S (.lst [.non])) S = some (.lst [.non]) := upd_same
  have e1 := Heap.get?_update_self (Obj.mapSeq (·.push Value.none)) e0 rfl
  refine wpAny_updateSeq (hz := by seq_fits) e1 rfl ?_
  have I2 : Inv X pins σ (upd (upd G S (.lst [.non])) S (.lst [])) { ({ s with heap := s.heap.update S (Obj.mapSeq (·.push .none)) } : Shared) with heap := (s.heap.update S (Obj.mapSeq (·.push .none))).update S (Obj.mapSeq (·.pop)), toks := s.toks } := by
    obtain ⟨_, its2, nn2, r2, hl2, e2⟩ := I1.lstM g1
    obtain ⟨u0, rfl, _⟩ := Vals.one r2
    exact I1.lset (its := [u0]) (its' := []) g1 e2 (by simp) .nil (Nat.zero_le _)
  have other : ∀ {c o}, c ≠ S → s.heap.get? c = some o → ((s.heap.update S (Obj.mapSeq (·.push .none))).update S (Obj.mapSeq (·.pop))).get? c = some o := fun n e => (Heap.get?_update_other _ _ (Ne.symm n)).trans ((Heap.get?_update_other _ _ (Ne.symm n)).trans e)
  have k2 : ∀ {c o}, G c = some o → (∀ l, o ≠ .lst l) → (upd (upd G S (.lst [.non])) S (.lst [])) c = some o := fun {c o} e n => by
    have q : c ≠ S := fun q => by
      rw [q, gS] at e
      exact n _ (Option.some.inj e).symm
    rw [upd_ne q, upd_ne q]
    exact e
  refine wpAny_pure ⟨plainId_quiet F.plain_extend_loop _, loop hh D len few nS hR xs.length 0 _ _ [] (by omega) I2 (fun c o e => ?_) upd_same rfl (fun i c e => nomatch e) ?_ ?_ (fun c hc => ?_) ⟨.inl (other (offS z (by simp)) zip), other (offS TI (by simp)) ti, ⟨_, _, other (offS TO (by simp)) to⟩, it1.at fun o e => other (offS i1 (by simp)) e, it2.at fun o e => other (offS i2 (by simp)) e⟩⟩
  · rw [upd_ne (ne_of_none e nS), upd_ne (ne_of_none e nS)]
    exact sm _ _ e
  · rcases sa with (q | ⟨o, q⟩) | q
    · exact .inl (.inl (k2 q (by intro l q; cases q)))
    · exact .inl (.inr ⟨o, k2 q (by intro l q; cases q)⟩)
    · exact .inr q
  · rcases sb with (q | ⟨o, q⟩) | q
    · exact .inl (.inl (k2 q (by intro l q; cases q)))
    · exact .inl (.inr ⟨o, k2 q (by intro l q; cases q)⟩)
    · exact .inr q
  · obtain ⟨q1, q2⟩ := fp c hc
    exact ⟨by rw [upd_ne (offS c hc), upd_ne (offS c hc)]; exact q1, q2⟩
def tListZip (K : PySem.W.Frag) (ta : TA) : TE := fun σ H Q => ta σ H fun vs H1 => ∃ a b xs ys, vs = [.ref a, .ref b] ∧ SqT K H1 a xs ∧ SqT K H1 b ys ∧ xs.length = ys.length ∧
  ∀ G p cs, Same H1 G → H1 p = none → G p = some (.lst (cs.map V.ref)) → cs.length = xs.length → Prs G xs ys cs → Q (.ref p) G
theorem pe_listZip {e1 e2 : Expr} {ta : TA} {p p2 pos pos2 : Pos} (ha : PA X [e1, e2] ta) (hgl : Gl X "list") (hml : X.mg "list" = none) (hgz : Gl X "zip") (hmz : X.mg "zip" = none) (calm : X.calm = true)
    (hs : starEach [e1, e2] X.env = (false, eval e1 X.env) :: starEach [e2] X.env := by rfl) (hpl : (backTo pos2 (starEach [e2] X.env)).any (·.1) = false := by rfl)
    (he : starEach [.Call (.Name "zip" p2) [e1, e2] [] pos2] X.env = (false, eval (.Call (.Name "zip" p2) [e1, e2] [] pos2) X.env) :: starEach [] X.env := by rfl) :
    PE X (.Call (.Name "list" p) [.Call (.Name "zip" p2) [e1, e2] [] pos2] [] pos) (tListZip X.K ta) := by
  refine ⟨fun pins s σ H Q I h => ?_⟩
  refine wpAny_Call_Name_kw (ld_blt I hgl hml boot_list ?_)
  refine PyProof.Rows.callWith_type1 ?_ he rfl
  rw [he]
  show wpAny _ _ (spliced ((false, eval _ X.env) :: backTo pos (starEach [] X.env))) _ _ s
  refine Calls.spliced_cons ?_
  refine wpAny_Call_Name_kw (ld_blt I hgz hmz PyProof.Rows.boot_zip (PyProof.Rows.callWith_type1 (thn (ha.run pos2 pins s σ H _ I h) fun us s1 ⟨vs, H1, I1, r1, q1⟩ => ?_) hs hpl))
  obtain ⟨a, b, xs, ys, ex, sa, sb, len, q⟩ := q1
  subst ex
  cases r1 with
  | cons r rr =>
    cases rr with
    | cons r' rr =>
      cases rr
      cases r
      cases r'
      obtain ⟨its, rv, p1, few⟩ := I1.tuple sa
      obtain ⟨its2, rv2, p2, _⟩ := I1.tuple sb
      have la : a < s1.heap.objs.size := p1.lt
      have lb : b < s1.heap.objs.size := p2.lt
      refine call_zipT p1 p2 fun h' hz hTI hTO h1 h2 hsz hk => ?_
      refine Calls.spliced_nil ?_
      have I2 : Inv X pins σ H1 { s1 with heap := h' } := I1.kept (t' := s1.toks) hk
      have fp2 : ∀ c ∈ [s1.heap.objs.size + 4, s1.heap.objs.size + 2, s1.heap.objs.size + 3, s1.heap.objs.size, s1.heap.objs.size + 1], FpOk X pins H1 c ∧ c < h'.objs.size := by
        intro c hcm
        have e' : c = s1.heap.objs.size + 4 ∨ c = s1.heap.objs.size + 2 ∨ c = s1.heap.objs.size + 3 ∨ c = s1.heap.objs.size ∨ c = s1.heap.objs.size + 1 := by simpa using hcm
        have hle : s1.heap.objs.size ≤ c := by
          rcases e' with z | z | z | z | z <;> rw [z] <;> omega
        refine ⟨I1.fpOk hle (I1.hok.fresh hle), ?_⟩
        rcases e' with z | z | z | z | z <;> rw [z, hsz] <;> omega
      have nS : H1 h'.objs.size = none := I2.hok.fresh (Nat.le_refl _)
      refine callType_codes (Q₁ := fun obj s₁ => obj = .ref h'.objs.size ∧ s₁ = { ({ s1 with heap := h' } : Shared) with heap := h'.push { cls := .type "list", data := .seq #[] } }) F.called_list (F.typeCall_list_1 _) F.entry_list_init
        (code_list_new _ ⟨rfl, rfl⟩) fun obj s₁ h₁ => ?_
      obtain ⟨rfl, rfl⟩ := h₁
      have hS : (h'.push { cls := .type "list", data := .seq #[] }).get? h'.objs.size = some { cls := .type "list", data := .seq #[] } := Heap.get?_push_size _ rfl
      have I3 : Inv X pins σ (upd H1 h'.objs.size (.lst [])) { ({ s1 with heap := h' } : Shared) with heap := h'.push { cls := .type "list", data := .seq #[] }, toks := s1.toks } := I2.lnew (its := []) .nil (Nat.zero_le _)
      have g3 : (upd H1 h'.objs.size (.lst [])) h'.objs.size = some (.lst []) := upd_same
      refine ⟨⟨_, hS, rfl⟩, F.args_list_init_2 _ _, ?_⟩
      show wpAny _ _ (do let old ← Builtin.List.listItems (.ref h'.objs.size); Builtin.List.listUpdate (.ref h'.objs.size) (fun _ => #[]); letGo old.toList.reverse; Builtin.List.listExtendWith (.ref h'.objs.size) (.ref (s1.heap.objs.size + 4)) .none) _ _ _
      refine wpAny_bind ?_
      unfold Builtin.List.listItems
      refine wpAny_bind (wpAny_seqItems hS rfl (wpAny_pure ?_))
      show wpAny _ _ (updateSeq h'.objs.size (fun _ => #[]) >>= fun _ => letGo (#[] : Array Value).toList.reverse >>= fun _ => Builtin.List.listExtendWith (.ref h'.objs.size) (.ref (s1.heap.objs.size + 4)) .none) _ _ _
      refine wpAny_bind (wpAny_updateSeq hS rfl ?_)
      have I4 : Inv X pins σ (upd (upd H1 h'.objs.size (.lst [])) h'.objs.size (.lst [])) { ({ s1 with heap := h' } : Shared) with heap := (h'.push { cls := .type "list", data := .seq #[] }).update h'.objs.size (Obj.mapSeq (fun _ => (#[] : Array Value))), toks := s1.toks } :=
        I3.lset (its := []) (its' := []) (n := 0) g3 hS rfl .nil (Nat.zero_le _)
      have other : ∀ {c o}, h'.get? c = some o → ((h'.push { cls := .type "list", data := .seq #[] }).update h'.objs.size (Obj.mapSeq (fun _ => (#[] : Array Value)))).get? c = some o := fun e =>
        (Heap.get?_update_other _ _ (Ne.symm (Nat.ne_of_lt (Heap.lt_size e)))).trans (Heap.get?_push_of_some _ e)
      refine wpAny_bind (wpAny_letGo ?_)
      have k4 : Same H1 (upd (upd H1 h'.objs.size (.lst [])) h'.objs.size (.lst [])) := fun c o e => by
        rw [upd_ne (ne_of_none e nS), upd_ne (ne_of_none e nS)]
        exact e
      have sq : ∀ {c : Addr} {zs : List V}, SqT X.K H1 c zs → SqT X.K (upd (upd H1 h'.objs.size (.lst [])) h'.objs.size (.lst [])) c zs := fun h => by
        rcases h with (q | ⟨o, q⟩) | q
        · exact .inl (.inl (k4 _ _ q))
        · exact .inl (.inr ⟨o, k4 _ _ q⟩)
        · exact .inr q
      refine extend (a := a) (b := b) (I.ok.hd calm) (PySem.W.ktu_apart s1.heap.objs.size a b la lb) len few nS I4 k4 upd_same (sq sa) (sq sb) (fun c hc => ?_) (other hz) (other hTI) (other hTO) (h1.at fun o e => other e) (h2.at fun o e => other e) fun s' G' cs J s4 gS lcs prs => ?_
      · obtain ⟨⟨q1, q2⟩, q3⟩ := fp2 c hc
        have n := Nat.ne_of_lt q3
        exact ⟨by rw [upd_ne n, upd_ne n]; exact q1, q2⟩
      · exact ⟨rfl, .ref h'.objs.size, G', J, rfl, q G' _ cs s4 nS gS lcs prs⟩
end
end Zl

/-! Matching, as a plain function. -/
namespace Ad
open PySem PySem.Spec PySem.Calls PyProof.Rows L2
theorem eqvAll_cons (a b : PyData) (as bs : List PyData) : PyData.eqvAll (a :: as) (b :: bs) = (PyData.eqv a b && PyData.eqvAll as bs) := by
  first
    | rfl
    | rw [PyData.eqvAll]
    | simp only [PyData.eqvAll]
namespace T
mutual
theorem eqv_eq : ∀ t u : T, PyData.eqv t.d u.d = true → t = u
  | .v i, .v j, h => by
    have e : PyData.eqv (.int i) (.int j) = (i == j) := by rw [PyData.eqv]
    have h' : (i == j) = true := by rw [← e]; exact h
    rw [eq_of_beq h']
  | .v i, .f x ts, h => by
    have e : PyData.eqv (.int i) (.tuple (.str x :: ds ts)) = false := by rw [PyData.eqv]
    have h' : PyData.eqv (.int i) (.tuple (.str x :: ds ts)) = true := h
    rw [e] at h'
    cases h'
  | .f x ts, .v i, h => by
    have e : PyData.eqv (.tuple (.str x :: ds ts)) (.int i) = false := by rw [PyData.eqv]
    have h' : PyData.eqv (.tuple (.str x :: ds ts)) (.int i) = true := h
    rw [e] at h'
    cases h'
  | .f x ts, .f y us, h => by
    have e : PyData.eqv (.tuple (.str x :: ds ts)) (.tuple (.str y :: ds us)) = (PyData.eqv (.str x) (.str y) && PyData.eqvAll (ds ts) (ds us)) := by
      rw [← eqvAll_cons]
      have e0 : ∀ as bs : List PyData, PyData.eqv (.tuple as) (.tuple bs) = PyData.eqvAll as bs := fun as bs => by rw [PyData.eqv]
      exact e0 _ _
    have h' : PyData.eqv (.tuple (.str x :: ds ts)) (.tuple (.str y :: ds us)) = true := h
    have es : PyData.eqv (.str x) (.str y) = (x == y) := by rw [PyData.eqv]
    rw [e, es, Bool.and_eq_true] at h'
    rw [eq_of_beq h'.1, eqvs_eq ts us h'.2]
theorem eqvs_eq : ∀ ts us : List T, PyData.eqvAll (ds ts) (ds us) = true → ts = us
  | [], [], _ => rfl
  | [], u :: us, h => by
    have e : PyData.eqvAll [] (d u :: ds us) = false := by rw [PyData.eqvAll]
    have h' : PyData.eqvAll [] (d u :: ds us) = true := h
    rw [e] at h'
    cases h'
  | t :: ts, [], h => by
    have e : PyData.eqvAll (d t :: ds ts) [] = false := by rw [PyData.eqvAll]
    have h' : PyData.eqvAll (d t :: ds ts) [] = true := h
    rw [e] at h'
    cases h'
  | t :: ts, u :: us, h => by
    have e : PyData.eqvAll (d t :: ds ts) (d u :: ds us) = (PyData.eqv (d t) (d u) && PyData.eqvAll (ds ts) (ds us)) := eqvAll_cons _ _ _ _
    have h' : PyData.eqvAll (d t :: ds ts) (d u :: ds us) = true := h
    rw [e, Bool.and_eq_true] at h'
    rw [eqv_eq t u h'.1, eqvs_eq ts us h'.2]
end
theorem mem_varsL {p : T} {j : Int} : ∀ {ps : List T}, p ∈ ps → j ∈ p.vars → j ∈ varsL ps
  | q :: ps, h, hj => by
    rcases List.mem_cons.mp h with w | w
    · exact List.mem_append_left _ (by rw [← w]; exact hj)
    · exact List.mem_append_right _ (mem_varsL w hj)
/-- a name and arguments like those of another term -/
def alike (x : Str) (ps : List T) : T → Bool
  | .v _ => false
  | .f y ts => decide (ps.length = ts.length) && decide (x = y)
end T
/-- a row of pairs, how large its first sides are -/
def psz : List (T × T) → Nat
  | [] => 0
  | e :: r => e.1.size + psz r
theorem psz_app : ∀ a b : List (T × T), psz (a ++ b) = psz a + psz b
  | [], b => (Nat.zero_add _).symm
  | e :: a, b => by
    show e.1.size + psz (a ++ b) = e.1.size + psz a + psz b
    rw [psz_app a b, Nat.add_assoc]
theorem psz_rev (a : List (T × T)) : psz a.reverse = psz a := by
  induction a with
  | nil => rfl
  | cons e a ih =>
    rw [List.reverse_cons, psz_app, ih]
    show psz a + (e.1.size + 0) = e.1.size + psz a
    omega
theorem psz_zip : ∀ ps ts : List T, psz (ps.zip ts) ≤ T.sizeL ps
  | [], _ => Nat.zero_le _
  | p :: ps, [] => Nat.zero_le _
  | p :: ps, t :: ts => by
    have := psz_zip ps ts
    show p.size + psz (ps.zip ts) ≤ T.size p + T.sizeL ps
    omega
theorem psz_len : ∀ a : List (T × T), a.length ≤ psz a
  | [] => Nat.le_refl _
  | e :: a => by
    have h1 := psz_len a
    have h2 := e.1.size_pos
    show a.length + 1 ≤ e.1.size + psz a
    omega
/-- matching; the last pair of the row is the first here -/
def mt : Nat → Sb → List (T × T) → Option Sb
  | 0, _, _ => none
  | _ + 1, tb, [] => some tb
  | n + 1, tb, (.v i, t) :: r => match tb.look i with
    | some u => if PyData.eqv u.d t.d = true then mt n tb r else none
    | none => mt n (tb.put i t) r
  | n + 1, tb, (.f x ps, .f y ts) :: r => if T.alike x ps (.f y ts) = true then mt n tb ((ps.zip ts).reverse ++ r) else none
  | _ + 1, _, (.f _ _, .v _) :: _ => none
theorem Sb.put_same {tb : Sb} {i : Int} {t : T} (nd : (tb.map (·.1)).Nodup) (h : tb.look i = some t) : tb.put i t = tb := by
  unfold Sb.put
  rw [h, if_pos (show (some t).isSome = true from rfl)]
  have key : ∀ e ∈ tb, (if e.1 = i then (e.1, t) else e) = e := by
    intro e he
    split
    · rename_i z
      have := (Sb.mem_look nd (i := e.1) (t := e.2)).1 he
      rw [z, h] at this
      rw [Option.some.inj this]
    · rfl
  have := List.map_congr_left key
  rw [this]
  exact List.map_id' _
/-- what holds of all that stands in the result -/
theorem mt_all {P : T → Prop} {Kp : Int → Prop} (hP : ∀ x ts, P (.f x ts) → ∀ u ∈ ts, P u) : ∀ (n : Nat) (tb : Sb) (es : List (T × T)) (tb' : Sb), mt n tb es = some tb' → (∀ e ∈ tb, Kp e.1 ∧ P e.2) → (∀ e ∈ es, (∀ j ∈ e.1.vars, Kp j) ∧ P e.2) → ∀ e ∈ tb', Kp e.1 ∧ P e.2
  | 0, _, _, _, h, _, _ => nomatch h
  | n + 1, tb, [], tb', h, h1, _ => by
    cases (show some tb = some tb' from h)
    exact h1
  | n + 1, tb, (.v i, t) :: r, tb', h, h1, h2 => by
    have h' : (match tb.look i with | some u => if PyData.eqv u.d t.d = true then mt n tb r else none | none => mt n (tb.put i t) r) = some tb' := h
    obtain ⟨k0, p0⟩ := h2 _ List.mem_cons_self
    have hr : ∀ e ∈ r, (∀ j ∈ e.1.vars, Kp j) ∧ P e.2 := fun e he => h2 e (List.mem_cons_of_mem _ he)
    cases lk : tb.look i with
    | some u =>
      rw [lk] at h'
      by_cases z : PyData.eqv u.d t.d = true
      · have h'' : mt n tb r = some tb' := by
          have e := h'
          simp only [z, if_true] at e
          exact e
        exact mt_all hP n tb r tb' h'' h1 hr
      · have e := h'
        simp only [z, if_false] at e
        cases e
    | none =>
      rw [lk] at h'
      refine mt_all hP n _ r tb' h' (fun e he => ?_) hr
      rcases Sb.mem_put he with z | z
      · rw [z]
        exact ⟨k0 i List.mem_cons_self, p0⟩
      · exact h1 e z
  | n + 1, tb, (.f x ps, .f y ts) :: r, tb', h, h1, h2 => by
    have h' : (if T.alike x ps (.f y ts) = true then mt n tb ((ps.zip ts).reverse ++ r) else none) = some tb' := h
    by_cases z : T.alike x ps (.f y ts) = true
    · rw [if_pos z] at h'
      obtain ⟨k0, p0⟩ := h2 _ List.mem_cons_self
      refine mt_all hP n tb _ tb' h' h1 fun e he => ?_
      rcases List.mem_append.mp he with q | q
      · have q' := List.mem_reverse.mp q
        obtain ⟨q1, q2⟩ : e.1 ∈ ps ∧ e.2 ∈ ts := List.of_mem_zip q'
        refine ⟨fun j hj => k0 j ?_, hP y ts p0 _ q2⟩
        exact T.mem_varsL q1 hj
      · exact h2 e (List.mem_cons_of_mem _ q)
    · rw [if_neg z] at h'
      cases h'
  | n + 1, tb, (.f x ps, .v i) :: r, tb', h, _, _ => nomatch (show none = some tb' from h)
end Ad

/-! Chains as data of any kind: what they lead to. -/
namespace Ad
open PySem PySem.Spec PySem.Calls PyProof.Rows L2
def tyD : PyData → Value
  | .none => .type "NoneType"
  | .bool _ => .type "bool"
  | .int _ => .type "int"
  | .str _ => .type "str"
  | .list _ => .type "list"
  | .tuple _ => .type "tuple"
  | .dict _ => .type "dict"
theorem dp_ty {K : PySem.W.Frag} {H : Hp} {v : V} {d : PyData} (h : Dp K H v d) : TyX K H v (tyD d) := by
  cases h with
  | non => exact .base .non
  | bl b => exact .base (.bl b)
  | int i => exact .base (.int i)
  | str x => exact .base (.str x)
  | lst h _ => exact lsq_ty h
  | tup h _ => exact sq_ty h
def isTu : PyData → Bool
  | .tuple _ => true
  | _ => false
def isIn : PyData → Bool
  | .int _ => true
  | .bool _ => true
  | _ => false
def isBo : PyData → Bool
  | .bool _ => true
  | _ => false
theorem kit_tu {K : PySem.W.Frag} : ∀ d : PyData, PySem.W.kitOne K (tyD d) (.type "tuple") = some (isTu d)
  | .none => kit_ty (a := "NoneType") (b := "tuple") (r := false) (by decide +kernel)
  | .bool _ => kit_ty (a := "bool") (b := "tuple") (r := false) (by decide +kernel)
  | .int _ => kit_ty (a := "int") (b := "tuple") (r := false) (by decide +kernel)
  | .str _ => kit_ty (a := "str") (b := "tuple") (r := false) (by decide +kernel)
  | .list _ => kit_ty (a := "list") (b := "tuple") (r := false) (by decide +kernel)
  | .tuple _ => kit_ty (a := "tuple") (b := "tuple") (r := true) (by decide +kernel)
  | .dict _ => kit_ty (a := "dict") (b := "tuple") (r := false) (by decide +kernel)
theorem kit_in {K : PySem.W.Frag} : ∀ d : PyData, PySem.W.kitOne K (tyD d) (.type "int") = some (isIn d)
  | .none => kit_ty (a := "NoneType") (b := "int") (r := false) (by decide +kernel)
  | .bool _ => kit_ty (a := "bool") (b := "int") (r := true) (by decide +kernel)
  | .int _ => kit_ty (a := "int") (b := "int") (r := true) (by decide +kernel)
  | .str _ => kit_ty (a := "str") (b := "int") (r := false) (by decide +kernel)
  | .list _ => kit_ty (a := "list") (b := "int") (r := false) (by decide +kernel)
  | .tuple _ => kit_ty (a := "tuple") (b := "int") (r := false) (by decide +kernel)
  | .dict _ => kit_ty (a := "dict") (b := "int") (r := false) (by decide +kernel)
theorem kit_bo {K : PySem.W.Frag} : ∀ d : PyData, PySem.W.kitOne K (tyD d) (.type "bool") = some (isBo d)
  | .none => kit_ty (a := "NoneType") (b := "bool") (r := false) (by decide +kernel)
  | .bool _ => kit_ty (a := "bool") (b := "bool") (r := true) (by decide +kernel)
  | .int _ => kit_ty (a := "int") (b := "bool") (r := false) (by decide +kernel)
  | .str _ => kit_ty (a := "str") (b := "bool") (r := false) (by decide +kernel)
  | .list _ => kit_ty (a := "list") (b := "bool") (r := false) (by decide +kernel)
  | .tuple _ => kit_ty (a := "tuple") (b := "bool") (r := false) (by decide +kernel)
  | .dict _ => kit_ty (a := "dict") (b := "bool") (r := false) (by decide +kernel)
mutual
theorem dp_mono {K : PySem.W.Frag} {H H' : Hp} (k : ∀ {a : Addr} {xs : List V}, (SqL K H a xs → SqL K H' a xs) ∧ (SqT K H a xs → SqT K H' a xs)) : ∀ {d : PyData} {v : V}, Dp K H v d → Dp K H' v d
  | _, _, .non => .non
  | _, _, .bl b => .bl b
  | _, _, .int i => .int i
  | _, _, .str x => .str x
  | _, _, .lst h a => .lst (k.1 h) (dpAll_mono k a)
  | _, _, .tup h a => .tup (k.2 h) (dpAll_mono k a)
theorem dpAll_mono {K : PySem.W.Frag} {H H' : Hp} (k : ∀ {a : Addr} {xs : List V}, (SqL K H a xs → SqL K H' a xs) ∧ (SqT K H a xs → SqT K H' a xs)) : ∀ {ds : List PyData} {vs : List V}, DpAll K H vs ds → DpAll K H' vs ds
  | _, _, .nil => .nil
  | _, _, .cons h t => .cons (dp_mono k h) (dpAll_mono k t)
end
theorem dp_same {K : PySem.W.Frag} {H H' : Hp} (s : Same H H') {d : PyData} {v : V} (h : Dp K H v d) : Dp K H' v d := dp_mono (fun {_ _} => ⟨fun q => s.seq q, fun q => (TK.same s).sq q⟩) h
theorem dpAll_same {K : PySem.W.Frag} {H H' : Hp} (s : Same H H') {ds : List PyData} {vs : List V} (h : DpAll K H vs ds) : DpAll K H' vs ds := dpAll_mono (fun {_ _} => ⟨fun q => s.seq q, fun q => (TK.same s).sq q⟩) h
theorem dpAll_len {K : PySem.W.Frag} {H : Hp} : ∀ {ds : List PyData} {vs : List V}, DpAll K H vs ds → vs.length = ds.length
  | _, _, .nil => rfl
  | _, _, .cons _ t => by rw [List.length_cons, List.length_cons, dpAll_len t]
theorem dpAll_get {K : PySem.W.Frag} {H : Hp} : ∀ {ds : List PyData} {vs : List V} {i : Nat} {v : V}, DpAll K H vs ds → vs[i]? = some v → ∃ d, ds[i]? = some d ∧ Dp K H v d
  | _, _, _, _, .nil, e => by cases e
  | _, _, i, v, .cons (d := d) h t, e => by
    cases i with
    | zero =>
      cases e
      exact ⟨d, rfl, h⟩
    | succ i => exact dpAll_get (i := i) t e
theorem dpAll_get' {K : PySem.W.Frag} {H : Hp} : ∀ {ds : List PyData} {vs : List V} {i : Nat} {d : PyData}, DpAll K H vs ds → ds[i]? = some d → ∃ v, vs[i]? = some v ∧ Dp K H v d
  | _, _, _, _, .nil, e => by cases e
  | _, _, i, d, .cons (v := v) h t, e => by
    cases i with
    | zero =>
      cases e
      exact ⟨v, rfl, h⟩
    | succ i => exact dpAll_get' (i := i) t e
theorem dpAll_app {K : PySem.W.Frag} {H : Hp} : ∀ {ds es : List PyData} {vs us : List V}, DpAll K H vs ds → DpAll K H us es → DpAll K H (vs ++ us) (ds ++ es)
  | _, _, _, _, .nil, k => k
  | _, _, _, _, .cons h t, k => .cons h (dpAll_app t k)
theorem dpAll_take {K : PySem.W.Frag} {H : Hp} : ∀ {ds : List PyData} {vs : List V} (n : Nat), DpAll K H vs ds → DpAll K H (vs.take n) (ds.take n)
  | _, _, 0, _ => by rw [List.take_zero, List.take_zero]; exact .nil
  | _, _, n + 1, .nil => .nil
  | _, _, n + 1, .cons h t => .cons h (dpAll_take n t)
theorem dpAll_drop {K : PySem.W.Frag} {H : Hp} : ∀ {ds : List PyData} {vs : List V} (n : Nat), DpAll K H vs ds → DpAll K H (vs.drop n) (ds.drop n)
  | _, _, 0, h => h
  | _, _, n + 1, .nil => .nil
  | _, _, n + 1, .cons h t => dpAll_drop n t
/-- whole numbers alone -/
def wAll : List PyData → Option (List Int)
  | [] => some []
  | .int i :: r => (wAll r).map (i :: ·)
  | _ :: _ => none
theorem wAll_ints : ∀ {ds : List PyData} {p : List Int}, wAll ds = some p → ds = p.map .int
  | [], p, h => by cases h; rfl
  | .int i :: r, p, h => by
    have h' : (wAll r).map (i :: ·) = some p := h
    cases e : wAll r with
    | none => rw [e] at h'; cases h'
    | some q =>
      rw [e] at h'
      cases h'
      rw [wAll_ints e]
      rfl
  | .none :: _, _, h => by cases h
  | .bool _ :: _, _, h => by cases h
  | .str _ :: _, _, h => by cases h
  | .list _ :: _, _, h => by cases h
  | .tuple _ :: _, _, h => by cases h
  | .dict _ :: _, _, h => by cases h
theorem ints_wAll : ∀ p : List Int, wAll (p.map .int) = some p
  | [] => rfl
  | i :: p => by
    show (wAll (p.map .int)).map (i :: ·) = _
    rw [ints_wAll p]
    rfl
def subW (o : Option (List Int)) (t : T) : Option T :=
  match o with
  | some p => T.sub p t
  | none => none
/-- the part at any data -/
def partD (t : T) : PyData → Option T
  | .tuple ps => subW (wAll ps) t
  | _ => none
def pathD : PyData → List Int
  | .tuple ps => (wAll ps).getD []
  | _ => []
def stepG (l r t : T) (p : PyData) : Option T :=
  match partD t p with
  | some u => if PyData.eqv u.d l.d = true then T.put r (pathD p) t else none
  | none => none
def wayG (b : Bool) (l r : T) : T := if b = true then l else r
/-- one step of a chain -/
def stepD (eqs : List (T × T)) (t : T) : PyData → Option T
  | .tuple [p, .int n, .bool b] => if 0 ≤ n then (match eqs[n.toNat]? with
      | some e => stepG (wayG b e.1 e.2) (wayG b e.2 e.1) t p
      | none => none) else none
  | _ => none
def chainD (eqs : List (T × T)) : T → List PyData → Option T
  | t, [] => some t
  | t, d :: ds => match stepD eqs t d with
    | some t' => chainD eqs t' ds
    | none => none
def OptTm (K : PySem.W.Frag) (H : Hp) : Option T → V → Prop
  | none, v => v = .non
  | some t, v => Tm K H t v
/-- a ground term, small -/
structure Gt (m z : Nat) (t : T) : Prop where
  named : t.named = true
  vars : t.vars = []
  dep : t.dep ≤ m
  size : t.size ≤ z
theorem Gt.mono {m n y z : Nat} {t : T} (h : Gt m y t) (a : m ≤ n) (b : y ≤ z) : Gt n z t := ⟨h.named, h.vars, Nat.le_trans h.dep a, Nat.le_trans h.size b⟩
theorem Gt.shape {m z : Nat} {t : T} (h : Gt m z t) (hm : m ≤ 64) : SeqAt.shaped t.d = true := T.shaped h.named (Nat.le_trans h.dep hm)
theorem Gt.head {m z : Nat} {t : T} (h : Gt m z t) : ∃ x ts, t = .f x ts := by
  cases t with
  | v i => cases (show [i] = [] from h.vars)
  | f x ts => exact ⟨x, ts, rfl⟩
theorem varsL_mem : ∀ {ts : List T} {u : T}, T.varsL ts = [] → u ∈ ts → u.vars = []
  | t :: ts, u, h, m => by
    have h' : t.vars ++ T.varsL ts = [] := h
    obtain ⟨h1, h2⟩ := List.append_eq_nil_iff.mp h'
    rcases List.mem_cons.mp m with e | e
    · rw [e]; exact h1
    · exact varsL_mem h2 e
theorem varsL_of : ∀ {ts : List T}, (∀ u ∈ ts, u.vars = []) → T.varsL ts = []
  | [], _ => rfl
  | t :: ts, h => by
    show t.vars ++ T.varsL ts = []
    rw [h t List.mem_cons_self, varsL_of fun u m => h u (List.mem_cons_of_mem _ m)]
    rfl
theorem sub_vars : ∀ {p : List Int} {t u : T}, T.sub p t = some u → t.vars = [] → u.vars = []
  | [], t, u, h, g => by
    cases (show some t = some u from h)
    exact g
  | k :: p, t, u, h, g => by
    obtain ⟨j, x, ts, y, rfl, rfl, e1, e2⟩ := T.sub_cons h
    exact sub_vars e2 (varsL_mem (ts := ts) g (List.mem_of_getElem? e1))
theorem put_vars {new : T} (gn : new.vars = []) : ∀ {p : List Int} {t r : T}, T.put new p t = some r → t.vars = [] → r.vars = []
  | [], t, r, h, _ => by
    cases (show some new = some r from h)
    exact gn
  | k :: p, t, r, h, g => by
    obtain ⟨j, x, ts, y, z, rfl, rfl, e1, e2, rfl⟩ := T.put_cons h
    have gz := put_vars gn e2 (varsL_mem (ts := ts) g (List.mem_of_getElem? e1))
    refine varsL_of (ts := ts.set j z) fun u hu => ?_
    rcases List.mem_or_eq_of_mem_set hu with m | m
    · exact varsL_mem (ts := ts) g m
    · rw [m]; exact gz
/-- what stands at a path, what comes when something is put there -/
theorem Gt.sub {m z : Nat} {t u : T} {p : List Int} (h : Gt m z t) (e : T.sub p t = some u) : Gt m z u := by
  obtain ⟨a, b, c⟩ := T.sub_small e
  exact ⟨a h.named, sub_vars e h.vars, Nat.le_trans b h.dep, Nat.le_trans c h.size⟩
theorem Gt.put {m z n y : Nat} {t u new : T} {p : List Int} (h : Gt m z t) (e : T.sub p t = some u) (k : Gt n y new) : ∃ r, T.put new p t = some r ∧ Gt (m + n) (z + y) r := by
  obtain ⟨r, a, _, _, b, c, d⟩ := T.put_sub new e
  have h1 := h.dep
  have h2 := h.size
  have h3 := k.dep
  have h4 := k.size
  exact ⟨r, a, d h.named k.named, put_vars k.vars a h.vars, by omega, by omega⟩
/-- the sides of equations -/
def Egd (eqs : List (T × T)) : Prop := ∀ e ∈ eqs, Gt 4 40 e.1 ∧ Gt 4 40 e.2
theorem partD_some {t u : T} {d : PyData} (h : partD t d = some u) : ∃ p, d = .tuple (p.map .int) ∧ pathD d = p ∧ T.sub p t = some u := by
  cases d with
  | tuple ps =>
    have h' : subW (wAll ps) t = some u := h
    cases e : wAll ps with
    | none => rw [e] at h'; cases h'
    | some p =>
      rw [e] at h'
      refine ⟨p, by rw [wAll_ints e], ?_, h'⟩
      show (wAll ps).getD [] = p
      rw [e]
      rfl
  | _ => cases h
theorem stepG_gt {m z n y : Nat} {l r t t' : T} {p : PyData} (h : Gt m z t) (k : Gt n y r) (e : stepG l r t p = some t') : Gt (m + n) (z + y) t' := by
  unfold stepG at e
  cases q : partD t p with
  | none => rw [q] at e; cases e
  | some u =>
    rw [q] at e
    dsimp only at e
    obtain ⟨p', _, e2, e3⟩ := partD_some q
    obtain ⟨r', h1, h2⟩ := h.put e3 k
    by_cases c : PyData.eqv u.d l.d = true
    · rw [if_pos c, e2, h1] at e
      cases e
      exact h2
    · rw [if_neg c] at e
      cases e
theorem wayG_gt {m z : Nat} {b : Bool} {l r : T} (h : Gt m z l) (k : Gt m z r) : Gt m z (wayG b l r) := by
  unfold wayG
  cases b
  · exact k
  · exact h
/-- triples of a chain: what else can't be one -/
theorem stepD_other (eqs : List (T × T)) (t : T) {d : PyData} (h : ∀ p n b, d ≠ .tuple [p, .int n, .bool b]) : stepD eqs t d = none := by
  unfold stepD
  split
  · rename_i p n b
    exact absurd rfl (h p n b)
  · rfl
theorem stepD_tri (eqs : List (T × T)) (t : T) (p : PyData) {n : Int} {b : Bool} {e : T × T} (h0 : 0 ≤ n) (he : eqs[n.toNat]? = some e) : stepD eqs t (.tuple [p, .int n, .bool b]) = stepG (wayG b e.1 e.2) (wayG b e.2 e.1) t p := by
  show (if 0 ≤ n then (match eqs[n.toNat]? with | some e => stepG (wayG b e.1 e.2) (wayG b e.2 e.1) t p | none => none) else none) = _
  rw [if_pos h0, he]
theorem stepD_far (eqs : List (T × T)) (t : T) (p : PyData) {n : Int} {b : Bool} (h : ¬ (0 ≤ n ∧ n < eqs.length)) : stepD eqs t (.tuple [p, .int n, .bool b]) = none := by
  show (if 0 ≤ n then (match eqs[n.toNat]? with | some e => stepG (wayG b e.1 e.2) (wayG b e.2 e.1) t p | none => none) else none) = none
  by_cases h0 : 0 ≤ n
  · rw [if_pos h0, List.getElem?_eq_none (by omega)]
  · rw [if_neg h0]
theorem stepD_gt {m z : Nat} {eqs : List (T × T)} {t t' : T} {d : PyData} (hE : Egd eqs) (h : Gt m z t) (e : stepD eqs t d = some t') : Gt (m + 4) (z + 40) t' := by
  unfold stepD at e
  split at e
  · rename_i p n b
    by_cases h0 : 0 ≤ n
    · rw [if_pos h0] at e
      cases q : eqs[n.toNat]? with
      | none => rw [q] at e; cases e
      | some x =>
        rw [q] at e
        dsimp only at e
        obtain ⟨g1, g2⟩ := hE x (List.mem_of_getElem? q)
        exact stepG_gt h (wayG_gt g2 g1) e
    · rw [if_neg h0] at e
      cases e
  · cases e
end Ad

/-! The law: its parts. -/
namespace Ad
open PySem PySem.Spec PySem.Calls PyProof.Rows L2 GxR
/-- a def of the top, with its promise -/
structure Has (P : Program) (w : World) (K : PySem.W.Frag) (mg : Str → Option Value) (base : Heap) (k : Nat) (x : Str) (ps : List Str) (sp : Sp) (f : Addr) (fd : FuncData) : Prop where
  G : FnOk P w K mg base CX0 k f fd ps sp
  g : mg x = some (.ref f)
  kp : PySem.W.keepIn K (.ref f) = true
  b : Binds K fd ps []
structure HasG (P : Program) (w : World) (K : PySem.W.Frag) (mg : Str → Option Value) (base : Heap) (k : Nat) (x : Str) (ps : List Str) (sp : Sp) (f : Addr) (fd : FuncData) : Prop where
  G : FnG P w K mg base CX0 k f fd ps sp
  g : mg x = some (.ref f)
  kp : PySem.W.keepIn K (.ref f) = true
  b : Binds K fd ps []
theorem iteNE {b : Bool} {A B : Prop} (hb : b = true) (h : B) : if (!b) = true then A else B := by
  rw [hb]
  exact iteF h
theorem iteE {b : Bool} {A B : Prop} (hb : b = true) (h : A) : if b = true then A else B := by
  rw [hb]
  exact iteT h
/-! ### written substitutions -/
/-- a written pair -/
def PLit (K : PySem.W.Frag) (tp : TE) (e : Int × T) : Prop := ∀ (σ : L2.St) (H : Hp) (Q : VK), (∀ b G, Same H G → SP K G e b → Q (.ref b) G) → tp σ H Q
theorem plit_v (K : PySem.W.Frag) (i j : Int) : PLit K (tTup (tCons (tC (.int i)) (tCons (tC (.int j)) tNil))) (i, .v j) := fun σ H Q h =>
  ⟨(by show 2 ≤ sizeLine; decide), fun p np => h p _ (same_new (fun b o e => e) np _) ⟨.int j, .inl (.inl upd_same), rfl⟩⟩
theorem plit_f (K : PySem.W.Frag) (i j : Int) (x : Str) : PLit K (tTup (tCons (tC (.int i)) (tCons (tTup (tCons (tC (.str x)) (tCons (tC (.int j)) tNil))) tNil))) (i, .f x [.v j]) := fun σ H Q h =>
  ⟨(by show 2 ≤ sizeLine; decide), fun p1 n1 => ⟨(by show 2 ≤ sizeLine; decide), fun p np => h p _ (same_new (same_new (fun b o e => e) n1 _) np _)
    ⟨.ref p1, .inl (.inl upd_same), p1, [.int j], rfl, (TK.new np _).sq (.inl (.inl upd_same)), .int j, [], rfl, rfl, rfl⟩⟩⟩
theorem sulit0 (K : PySem.W.Frag) {σ : L2.St} {H : Hp} {Q : VK} (h : ∀ x G, Same H G → Su K G [] x → Q x G) : Dt.tTup0 tNil σ H Q :=
  ⟨Nat.zero_le _, fun p o np od => h (.ref p) _ (same_new (fun b o e => e) np _) ⟨p, [], rfl, ⟨o, upd_same, od⟩, rfl⟩⟩
theorem sulit1 {K : PySem.W.Frag} {σ : L2.St} {H : Hp} {Q : VK} {t1 : TE} {e1 : Int × T} (p1 : PLit K t1 e1) (h : ∀ x G, Same H G → Su K G [e1] x → Q x G) : Dt.tTup0 (tCons t1 tNil) σ H Q := by
  show t1 σ H (fun v G => [v].length ≤ sizeLine ∧ ∀ p o, G p = none → o.dict = none → Q (.ref p) (upd G p (.frz o (.tup [v]))))
  exact p1 σ H _ fun b G s sp => ⟨(by show 1 ≤ sizeLine; decide), fun p o np od => h (.ref p) _ (same_new s np _) ⟨p, [b], rfl, ⟨o, upd_same, od⟩, F2.one (SP.mono (TK.new np _) _ _ sp)⟩⟩
theorem sulit2 {K : PySem.W.Frag} {σ : L2.St} {H : Hp} {Q : VK} {t1 t2 : TE} {e1 e2 : Int × T} (p1 : PLit K t1 e1) (p2 : PLit K t2 e2) (h : ∀ x G, Same H G → Su K G [e1, e2] x → Q x G) : Dt.tTup0 (tCons t1 (tCons t2 tNil)) σ H Q := by
  show t1 σ H (fun v G => t2 σ G (fun v2 G2 => [v, v2].length ≤ sizeLine ∧ ∀ p o, G2 p = none → o.dict = none → Q (.ref p) (upd G2 p (.frz o (.tup [v, v2])))))
  exact p1 σ H _ fun b G s sp => p2 σ G _ fun b2 G2 s2 sp2 => ⟨(by show 2 ≤ sizeLine; decide), fun p o np od => h (.ref p) _ (same_new (show Same H G2 from fun b o e => s2 b o (s b o e)) np _)
    ⟨p, [b, b2], rfl, ⟨o, upd_same, od⟩, _, _, rfl, SP.mono ((TK.same s2).trans (TK.new np _)) _ _ sp, F2.one (SP.mono (TK.new np _) _ _ sp2)⟩⟩
/-! ### the law's substitutions -/
theorem dt_v {R : List Row} {j nv : Int} (h0 : 0 ≤ j) (h1 : j < nv) : DT R 2 nv (.v j) := ⟨rfl, Nat.zero_le _, one_sz _, fun i hi => by
  cases List.mem_singleton.mp hi
  exact ⟨h0, h1⟩, True.intro⟩
theorem dt_f {R : List Row} (hf : ∃ r ∈ R, r.1 = ("f" : Str) ∧ r.2.1 = 1) : DT R 2 4 (.f "f" [.v 0]) := ⟨by decide +kernel, (by show 1 + max 0 0 ≤ 3; decide), (by show 1 + (1 + 0) ≤ 13; decide), fun i hi => by
  cases List.mem_singleton.mp (show i ∈ [(0 : Int)] from hi)
  exact ⟨by decide, by decide⟩, ⟨hf, True.intro, True.intro⟩⟩
theorem dsu_a {R : List Row} : DSu R 2 4 [(0, .v 1), (1, .v 0)] := ⟨by simp, fun e he => by
  rcases List.mem_cons.mp he with z | z
  · rw [z]
    exact ⟨by decide, by decide, dt_v (by decide) (by decide)⟩
  · rw [List.mem_singleton.mp z]
    exact ⟨by decide, by decide, dt_v (by decide) (by decide)⟩⟩
theorem dsu_b {R : List Row} (hf : ∃ r ∈ R, r.1 = ("f" : Str) ∧ r.2.1 = 1) : DSu R 2 4 [(0, .v 1), (1, .f "f" [.v 0])] := ⟨by simp, fun e he => by
  rcases List.mem_cons.mp he with z | z
  · rw [z]
    exact ⟨by decide, by decide, dt_v (by decide) (by decide)⟩
  · rw [List.mem_singleton.mp z]
    exact ⟨by decide, by decide, dt_f hf⟩⟩
theorem dsu_c {R : List Row} : DSu R 2 4 [] := ⟨.nil, fun e he => nomatch he⟩
theorem dsu_one {R : List Row} {i : Int} {t : T} (h0 : 0 ≤ i) (h1 : i < 4) (h : DT R 2 4 t) : DSu R 2 4 [(i, t)] := ⟨List.pairwise_singleton _ _, fun e he => by
  rw [List.mem_singleton.mp he]
  exact ⟨h0, h1, h⟩⟩
theorem DSu.nd {R : List Row} {d : Nat} {nv : Int} {su : Sb} (h : DSu R d nv su) : (su.map (·.1)).Nodup := Sb.rising_nodup h.rising
theorem DSu.asg {R : List Row} {su : Sb} (h : DSu R 2 4 su) {j nv : Int} (h4 : 4 ≤ nv) (h0 : 0 ≤ j) (h1 : j < nv) : DT R 2 nv (su.asg j) := by
  show DT R 2 nv ((su.look j).getD (.v j))
  cases e : su.look j with
  | none => exact dt_v h0 h1
  | some t =>
    obtain ⟨_, _, d⟩ := h.each _ (Sb.look_mem e)
    exact ⟨d.named, d.dep, d.size, fun i hi => ⟨(d.vars i hi).1, by have := (d.vars i hi).2; omega⟩, d.wf⟩
theorem put_small {R : List Row} {su : Sb} (h : DSu R 2 4 su) {t : T} {nv : Int} (h4 : 4 ≤ nv) (n : t.named = true) (v : ∀ j ∈ t.vars, 0 ≤ j ∧ j < nv) :
    (T.fill su.asg t).named = true ∧ (T.fill su.asg t).dep ≤ t.dep + 3 ∧ (T.fill su.asg t).size ≤ t.size * 13 ∧ ∀ j ∈ (T.fill su.asg t).vars, 0 ≤ j ∧ j < nv := by
  have d : ∀ j ∈ t.vars, DT R 2 nv (su.asg j) := fun j hj => h.asg h4 (v j hj).1 (v j hj).2
  refine ⟨T.fill_named t n fun j hj => (d j hj).named, T.fill_dep t fun j hj => (d j hj).dep, T.fill_size (by decide) t fun j hj => (d j hj).size, fun j hj => ?_⟩
  obtain ⟨i, hi, hj'⟩ := T.fill_vars t hj
  exact (d i hi).vars j hj'
theorem beh_small {R : List Row} {one two : Sb} (d1 : DSu R 2 4 one) (d2 : DSu R 2 4 two) : ∀ e ∈ Sb.beh one two, 0 ≤ e.1 ∧ e.1 < 4 ∧ e.2.named = true ∧ e.2.dep ≤ 6 ∧ e.2.size ≤ 169 ∧ ∀ j ∈ e.2.vars, 0 ≤ j ∧ j < 4 := by
  intro e he
  have nd : ((Sb.beh one two).map (·.1)).Nodup := Sb.nodup_fold _ one two d2.nd
  have lk := (Sb.mem_look nd (i := e.1) (t := e.2)).1 he
  rw [Sb.beh_look d1.nd] at lk
  cases h : Sb.look one e.1 with
  | some t =>
    rw [h] at lk
    have e2 : T.fill two.asg t = e.2 := Option.some.inj lk
    obtain ⟨a, b, d⟩ := d1.each _ (Sb.look_mem h)
    have d' : DT R 2 4 t := d
    obtain ⟨p1, p2, p3, p4⟩ := put_small d2 (by decide) d'.named d'.vars
    have z1 := d'.dep
    have z2 : t.size ≤ 13 := d'.size
    rw [e2] at p1 p2 p3 p4
    exact ⟨a, b, p1, by omega, by omega, p4⟩
  | none =>
    rw [h] at lk
    obtain ⟨a, b, d⟩ := d2.each _ (Sb.look_mem lk)
    have z1 : e.2.dep ≤ 3 := d.dep
    have z2 : e.2.size ≤ 13 := d.size
    exact ⟨a, b, d.named, by omega, by omega, d.vars⟩
theorem beh_good {R : List Row} {one two : Sb} (d1 : DSu R 2 4 one) (d2 : DSu R 2 4 two) : Good (Sb.beh one two) := fun e he => by
  obtain ⟨_, _, h1, h2, _⟩ := beh_small d1 d2 e he
  exact ⟨h1, by omega⟩
theorem norm_text {R : List Row} {one two su : Sb} (d1 : DSu R 2 4 one) (d2 : DSu R 2 4 two) (n : (Sb.beh one two).Norm su) : (suD su).showable = true ∧ (suD su).hasDict = false ∧ (suD su).depth ≤ 60 ∧ (suD su).shown.length ≤ sizeLine := by
  have each : ∀ e ∈ su, 0 ≤ e.1 ∧ e.1 < 4 ∧ e.2.named = true ∧ e.2.dep ≤ 6 ∧ e.2.size ≤ 169 ∧ ∀ j ∈ e.2.vars, 0 ≤ j ∧ j < 4 := fun e he => beh_small d1 d2 e (Sb.look_mem ((n.has e.1 e.2).1 he).1)
  refine su_text (m := 169) (by decide) ?_ fun e he => ?_
  · have := rising_len (lo := 0) (hi := 4) n.rising (fun i hi => by
      obtain ⟨e, he, rfl⟩ := List.mem_map.mp hi
      exact ⟨(each e he).1, (each e he).2.1⟩) (by decide)
    rw [List.length_map] at this
    omega
  · obtain ⟨a, b, c, d, f, g⟩ := each e he
    exact ⟨a, by omega, c, by omega, f, fun j hj => ⟨(g j hj).1, by have := (g j hj).2; omega⟩⟩
namespace Sb
theorem ren_vars (first : Int) : ∀ (l : List Int) (tb : Sb), (∀ e ∈ tb, ∃ i, e.2 = T.v i) → ∀ e ∈ ren first tb l, ∃ i, e.2 = T.v i
  | [], tb, h => h
  | i :: l, tb, h => by
    show ∀ e ∈ ren first (if (look tb i).isSome = true then tb else put tb i (.v (first + (tb.length : Int)))) l, ∃ i, e.2 = T.v i
    refine ren_vars first l _ ?_
    split
    · exact h
    · intro e he
      rcases mem_put he with z | z
      · rw [z]
        exact ⟨_, rfl⟩
      · exact h e z
theorem ren_asg (first : Int) (l : List Int) (j : Int) : ∃ i, (ren first [] l).asg j = T.v i := by
  show ∃ i, ((ren first [] l).look j).getD (.v j) = T.v i
  cases e : (ren first [] l).look j with
  | none => exact ⟨j, rfl⟩
  | some t => exact ren_vars first l [] (fun e he => nomatch he) _ (look_mem e)
end Sb
theorem ren_shaped {t : T} (n : t.named = true) (d : t.dep ≤ 60) (first : Int) (l : List Int) : SeqAt.shaped (T.fill (Sb.ren first [] l).asg t).d = true := by
  refine T.shaped (T.fill_named t n fun j _ => ?_) ?_
  · obtain ⟨i, e⟩ := Sb.ren_asg first l j
    rw [e]
    rfl
  · have := T.fill_dep (s := (Sb.ren first [] l).asg) (D := 0) t fun j _ => by
      obtain ⟨i, e⟩ := Sb.ren_asg first l j
      rw [e]
      exact Nat.le_refl _
    omega
/-! ### what a lap knows -/
structure Wk (K : PySem.W.Frag) (Pt p l ra : Addr) (ns : List Int) (c : Nat) (R : List Row) (G : Hp) : Prop where
  pen : Pn.Pen G p l ns c
  rows : RowsAt K G ra R
  tab : TabG G Pt
section
variable {K : PySem.W.Frag} {Pt p l ra : Addr} {ns : List Int} {c c' : Nat} {R : List Row} {G G' : Hp}
theorem Wk.same (h : Wk K Pt p l ra ns c R G) (s : Same G G') : Wk K Pt p l ra ns c R G' := ⟨pen_same h.pen s, h.rows.mono (TK.same s), tab_same s h.tab⟩
theorem Wk.new (h : Wk K Pt p l ra ns c R G) {q : Addr} (n : G q = none) (o : HO) : Wk K Pt p l ra ns c R (upd G q o) := h.same (same_new (fun b o e => e) n _)
theorem tab_ne {l : Addr} {ns : List Int} {c : Nat} (P : Pn.Pen G p l ns c) (t : TabG G Pt) : Pt ≠ p ∧ Pt ≠ l := by
  obtain ⟨ps, e, _⟩ := t
  obtain ⟨⟨_, _, _, e0, _⟩, e1⟩ := P
  refine ⟨fun z => ?_, fun z => ?_⟩
  · rw [← z, e] at e0
    cases e0
  · rw [← z, e] at e1
    cases e1
theorem tab_pen {l : Addr} {ns : List Int} {c : Nat} (P : Pn.Pen G p l ns c) (t : TabG G Pt) (b : Pn.But p G G') : TabG G' Pt := by
  have n := (tab_ne P t).1
  obtain ⟨ps, e, ok⟩ := t
  exact ⟨ps, b _ _ n e, ok⟩
theorem Wk.step (h : Wk K Pt p l ra ns c R G) (P : Pn.Pen G' p l ns c') (b : Pn.But p G G') : Wk K Pt p l ra ns c' R G' := ⟨P, h.rows.mono (pen_tk h.pen b), tab_pen h.pen h.tab b⟩
theorem Wk.but (h : Wk K Pt p l ra ns c R G) (b : ∀ q o, q ≠ Pt → G q = some o → G' q = some o) (t : TabG G' Pt) : Wk K Pt p l ra ns c R G' := by
  refine ⟨?_, h.rows.mono (tab_tk h.tab b), t⟩
  obtain ⟨n1, n2⟩ := tab_ne h.pen h.tab
  obtain ⟨⟨a, d, f, e, r⟩, e1⟩ := h.pen
  exact ⟨⟨a, d, f, b _ _ n1.symm e, r⟩, b _ _ n2.symm e1⟩
end
end Ad

/-! x in [..] of texts. -/
namespace Ad
open PySem PySem.Spec PySem.Calls PyProof.Rows L2
theorem inV_two (wd : Str) : inV (.str wd) [.str "all", .str "some"] = (decide (wd = "all") || decide (wd = "some")) := by
  by_cases h1 : wd = "all"
  · subst h1
    decide +kernel
  · by_cases h2 : wd = "some"
    · subst h2
      decide +kernel
    · rw [decide_eq_false h1, decide_eq_false h2]
      unfold inV
      rw [Bool.or_false, List.any_eq_false]
      intro y hy z
      rcases List.mem_cons.mp hy with rfl | hy
      · have e : wd = "all" := by
          first
            | exact beq_iff_eq.mp z
            | exact (beq_iff_eq.mp z).symm
        exact h1 e
      · cases List.mem_singleton.mp hy
        have e : wd = "some" := by
          first
            | exact beq_iff_eq.mp z
            | exact (beq_iff_eq.mp z).symm
        exact h2 e
theorem inV_mem (x : Str) (T : List Str) : inV (.str x) (T.map V.str) = decide (x ∈ T) := by
  by_cases h : x ∈ T
  · rw [decide_eq_true h]
    unfold inV
    refine List.any_eq_true.mpr ⟨.str x, List.mem_map.mpr ⟨x, h, rfl⟩, ?_⟩
    show (x == x) = true
    exact beq_self_eq_true x
  · rw [decide_eq_false h]
    unfold inV
    rw [List.any_eq_false]
    intro y hy z
    obtain ⟨t, ht, rfl⟩ := List.mem_map.mp hy
    have e : x = t := by
      first
        | exact beq_iff_eq.mp z
        | exact (beq_iff_eq.mp z).symm
    rw [e] at h
    exact h ht
theorem flat_texts (T : List Str) : (T.map V.str).all flatV = true := by
  rw [List.all_eq_true]
  intro y hy
  obtain ⟨t, _, rfl⟩ := List.mem_map.mp hy
  rfl
theorem go_out {b : Bool} (h : b = false) {A B : Prop} (q : B) : if b = true then A else B := by
  rw [h]
  exact iteF q
theorem go_in {b : Bool} (h : b = true) {A B : Prop} (q : A) : if b = true then A else B := by
  rw [h]
  exact iteT q
end Ad

/-! Plain texts of terms. -/
namespace Ad
open PySem PySem.Spec PySem.Calls PyProof.Rows L2 Rq
def namB (w : Str) : Bool := wdB w && decide (w ∉ NO)
theorem namB_ok {w : Str} (h : namB w = true) : Nam w := by
  obtain ⟨h1, h2⟩ := Bool.and_eq_true_iff.mp h
  exact ⟨h1, of_decide_eq_true h2⟩
mutual
def tx : T → List Nat
  | .v i => 88 :: digs i.toNat
  | .f x [] => cs x
  | .f x (t :: ts) => cs x ++ 40 :: (tx t ++ (txs ts ++ [41]))
def txs : List T → List Nat
  | [] => []
  | t :: ts => 44 :: 32 :: (tx t ++ txs ts)
end
mutual
def tok : T → Bool
  | .v i => decide (0 ≤ i) && numB i.toNat
  | .f x ts => namB x && toks ts
def toks : List T → Bool
  | [] => true
  | t :: ts => tok t && toks ts
end
mutual
theorem tx_ttx : ∀ {t : T}, tok t = true → TTx t.d (tx t)
  | .v i, h => by
    obtain ⟨h1, h2⟩ := Bool.and_eq_true_iff.mp (show (decide (0 ≤ i) && numB i.toNat) = true from h)
    have e : ((i.toNat : Nat) : Int) = i := Int.toNat_of_nonneg (of_decide_eq_true h1)
    have := TTx.var i.toNat h2
    rw [e] at this
    exact this
  | .f x [], h => by
    obtain ⟨h1, _⟩ := Bool.and_eq_true_iff.mp (show (namB x && true) = true from h)
    exact .con x (namB_ok h1)
  | .f x (t :: ts), h => by
    obtain ⟨h1, h2⟩ := Bool.and_eq_true_iff.mp (show (namB x && (tok t && toks ts)) = true from h)
    obtain ⟨h3, h4⟩ := Bool.and_eq_true_iff.mp h2
    exact .app x t.d (T.ds ts) (tx t) (txs ts) [] [] [] (namB_ok h1) (tx_ttx h3) (txs_ttx h4) .nil .nil .nil
theorem txs_ttx : ∀ {ts : List T}, toks ts = true → TsTx (T.ds ts) (txs ts)
  | [], _ => .nil
  | t :: ts, h => by
    obtain ⟨h3, h4⟩ := Bool.and_eq_true_iff.mp (show (tok t && toks ts) = true from h)
    exact .cons t.d (T.ds ts) (tx t) (txs ts) [] [32] .nil (fun c hc => List.mem_singleton.mp hc) (tx_ttx h3) (txs_ttx h4)
end
theorem num_len {n : Nat} (h : numB n = true) : (digs n).length ≤ 7 := by
  unfold numB at h
  rw [Bool.and_eq_true, Bool.and_eq_true, Bool.and_eq_true, decide_eq_true_eq] at h
  obtain ⟨_, h2, _⟩ := h
  split at h2 <;> omega
theorem nam_len {w : Str} (h : Nam w) : (cs w).length ≤ 12 := by
  obtain ⟨h, _⟩ := h
  unfold wdB at h
  rw [Bool.and_eq_true, Bool.and_eq_true, decide_eq_true_eq] at h
  exact h.2.2
mutual
theorem tx_len : ∀ {t : T}, tok t = true → (tx t).length + 2 ≤ 20 * t.size
  | .v i, h => by
    obtain ⟨h1, h2⟩ := Bool.and_eq_true_iff.mp (show (decide (0 ≤ i) && numB i.toNat) = true from h)
    have := num_len h2
    show (88 :: digs i.toNat).length + 2 ≤ 20 * 1
    rw [List.length_cons]
    omega
  | .f x [], h => by
    obtain ⟨h1, _⟩ := Bool.and_eq_true_iff.mp (show (namB x && true) = true from h)
    have := nam_len (namB_ok h1)
    show (cs x).length + 2 ≤ 20 * (1 + 0)
    omega
  | .f x (t :: ts), h => by
    obtain ⟨h1, h2⟩ := Bool.and_eq_true_iff.mp (show (namB x && (tok t && toks ts)) = true from h)
    obtain ⟨h3, h4⟩ := Bool.and_eq_true_iff.mp h2
    have l1 := nam_len (namB_ok h1)
    have l2 := tx_len h3
    have l3 := txs_len h4
    show (cs x ++ 40 :: (tx t ++ (txs ts ++ [41]))).length + 2 ≤ 20 * (1 + (t.size + T.sizeL ts))
    rw [List.length_append, List.length_cons, List.length_append, List.length_append, List.length_singleton]
    omega
theorem txs_len : ∀ {ts : List T}, toks ts = true → (txs ts).length ≤ 20 * T.sizeL ts
  | [], _ => Nat.zero_le _
  | t :: ts, h => by
    obtain ⟨h3, h4⟩ := Bool.and_eq_true_iff.mp (show (tok t && toks ts) = true from h)
    have l2 := tx_len h3
    have l3 := txs_len h4
    show (44 :: 32 :: (tx t ++ txs ts)).length ≤ 20 * (t.size + T.sizeL ts)
    rw [List.length_cons, List.length_cons, List.length_append]
    omega
end
theorem toks_get {ts : List T} (h : toks ts = true) : ∀ {i : Nat} {t : T}, ts[i]? = some t → tok t = true := by
  induction ts with
  | nil => intro i t e; cases i <;> cases e
  | cons u us ih =>
    obtain ⟨h3, h4⟩ := Bool.and_eq_true_iff.mp (show (tok u && toks us) = true from h)
    intro i t e
    cases i with
    | zero => cases e; exact h3
    | succ i => exact ih h4 e
/-- a text of signs -/
abbrev S (l : List Nat) : Str := ⟨l.toArray⟩
theorem cs_S (l : List Nat) : cs (S l) = l := rfl
theorem S_cs (x : Str) : S (cs x) = x := rfl
theorem S_app (a b : List Nat) : S a ++ S b = S (a ++ b) := by
  refine congrArg (fun z => (⟨z⟩ : Str)) ?_
  show a.toArray ++ b.toArray = (a ++ b).toArray
  simp
theorem S_len (l : List Nat) : (S l).length = l.length := List.size_toArray
theorem join_S (a : List Nat) (ls : List (List Nat)) : Txt.join (S a) (ls.map S) = S (TL.joinL a ls) := by
  have e : Txt.join (S a) (ls.map S) = Str.join (S a) (ls.map S) := TL.join_eq _ _
  rw [e]
  have h := TL.tl_join (S a) (ls.map S)
  rw [List.map_map] at h
  have e2 : ls.map (TL.tl ∘ S) = ls := by
    rw [show (TL.tl ∘ S) = id from funext fun l => rfl, List.map_id]
  rw [e2] at h
  exact (S_cs _).symm.trans (congrArg S h)
theorem join_txs (t : T) (ts : List T) : TL.joinL [44, 32] ((t :: ts).map tx) = tx t ++ txs ts := by
  induction ts generalizing t with
  | nil => exact (List.append_nil _).symm
  | cons u us ih =>
    show tx t ++ ([44, 32] ++ TL.joinL [44, 32] ((u :: us).map tx)) = _
    rw [ih u]
    rfl
theorem sum_len : ∀ ts : List T, toks ts = true → ((ts.map fun t => (tx t).length).sum) ≤ 20 * T.sizeL ts
  | [], _ => Nat.zero_le _
  | t :: ts, h => by
    obtain ⟨h3, h4⟩ := Bool.and_eq_true_iff.mp (show (tok t && toks ts) = true from h)
    have l2 := tx_len h3
    have l3 := sum_len ts h4
    show (tx t).length + (ts.map fun t => (tx t).length).sum ≤ 20 * (t.size + T.sizeL ts)
    omega
theorem num_S {i : Int} (h : 0 ≤ i) : Str.ofString (toString i) = S (digs i.toNat) := by
  unfold digs
  rw [Int.toNat_of_nonneg h]
end Ad

/-! A loop with a measure of one's own. -/
namespace Ad
open PySem PySem.Spec PySem.Calls PyProof.Rows L2
theorem while_g {c : TT} {tb : TS} {D : Ends} {σ : L2.St} {H : Hp} (W : Nat → L2.St → Hp → Prop) (start : ∃ m, W m σ H)
    (turn : ∀ m σ H, W m σ H → c σ H fun b G => if b = true then tb { D with nx := fun σ' H' => ∃ m', m' < m ∧ W m' σ' H', ct := fun σ' H' => ∃ m', m' < m ∧ W m' σ' H', bk := D.nx } σ G else D.nx σ G) (mono : ∀ σ H Q Q', (∀ b G, Q b G → Q' b G) → c σ H Q → c σ H Q') : tWhile c tb D σ H := by
  refine ⟨W, start, fun m σ H h => mono σ H _ _ (fun b G q => ?_) (turn m σ H h)⟩
  cases b with
  | true => exact ⟨_, fun σ' H' z => z, q⟩
  | false => exact q
/-- a if t else b, as a test -/
def tIfT (t ta tb : TT) : TT := fun σ H Q => t σ H fun c H1 => if c = true then ta σ H1 Q else tb σ H1 Q
theorem pt_ifExp {X : Cx} {c a b : Expr} {pos : Pos} {tc ta tb : TT} (hc : PT X c tc) (ha : PT X a ta) (hb : PT X b tb) : PT X (.IfExp c a b pos) (tIfT tc ta tb) := by
  refine ⟨fun pins s σ H Q I h => ?_⟩
  refine isTrue_IfExp (wpAny_mono (hc.run pins s σ H _ I h) (fun d s1 r => ?_) fun _ _ x => x)
  obtain ⟨H1, I1, q1⟩ := r
  cases d with
  | true => exact ha.run pins s1 σ H1 Q I1 q1
  | false => exact hb.run pins s1 σ H1 Q I1 q1
end Ad

/-! The reader as an object. -/
namespace Ad
open PySem PySem.Spec PySem.Calls PyProof.Rows L2
/-- a global that is a scalar -/
def Gs (mg : Str → Option Value) (x : Str) (v : V) : Prop := ∃ u, mg x = some u ∧ RelV v u
/-- what is asked of the reader's class -/
structure RdC (K : PySem.W.Frag) (C : Addr) : Prop where
  cls : Cls K C
  nt : NoAttr K C "text"
  ns : NoAttr K C "spot"
/-- a reader over T with s left -/
def Rd (C : Addr) (H : Hp) (o : Addr) (T : Str) (s : List Nat) : Prop := T.length ≤ 10000000 ∧ ∃ (dx : Addr) (pre : List Nat), Rq.cs T = pre ++ s ∧ H o = some (.ins C dx [("text", .str T), ("spot", .int ((pre.length : Nat) : Int))])
def colV (T : Str) (s : List Nat) : V := .int (((Rq.cs T).length - s.length + 1 : Nat) : Int)
abbrev Rep (α : Type) := Hp → α → V → Prop
def repN : Rep Unit := fun _ _ v => v = .non
def repS : Rep Str := fun _ w v => v = .str w
def repD (K : PySem.W.Frag) : Rep PyData := fun H d v => Dp K H v d
def BadE (C CB o : Addr) (T : Str) (s : List Nat) (H : Hp) (E : XK) : Prop := ∀ d H', Pn.But o H H' → H' d = some (.xd [("column", colV T s)]) → E (.ref CB) (some d) H'
/-- what a reading leaves -/
def After {α : Type} (C CB o : Addr) (T : Str) (rep : Rep α) (r : Rq.Rs α) (H : Hp) (Q : VK) (E : XK) : Prop := match r with
  | .ok a s => ∀ v H', Pn.But o H H' → Rd C H' o T s → rep H' a v → Q v H'
  | .bad s => BadE C CB o T s H E
/-- the sign at hand -/
def sg (s : List Nat) : Str := ⟨(s.take 1).toArray⟩
theorem sg_nil : sg [] = "" := rfl
theorem sg_cons (c : Nat) (s : List Nat) : sg (c :: s) = ⟨#[c]⟩ := rfl
theorem sg_eq (c : Nat) (s : List Nat) : decide (V.str (sg s) = V.str ⟨#[c]⟩) = Rq.isC c s := by
  cases s with
  | nil => exact decide_eq_false (fun z => by cases z)
  | cons d s =>
    rw [Rq.isC_eq, sg_cons]
    by_cases h : d = c
    · subst h
      rw [decide_eq_true rfl, decide_eq_true rfl]
    · rw [decide_eq_false h]
      refine decide_eq_false (fun z => h ?_)
      injection z with z
      injection z with z
      have := congrArg Array.toList z
      simp at this
      exact this
theorem sg_emp (s : List Nat) : decide (V.str (sg s) = V.str "") = s.isEmpty := by
  cases s with
  | nil => exact decide_eq_true rfl
  | cons d s => exact decide_eq_false (fun z => by injection z with z; cases z)
theorem Rd.cut {C : Addr} {H : Hp} {o : Addr} {T : Str} {pre s : List Nat} (e : Rq.cs T = pre ++ s) : cutS T (some ((pre.length : Nat) : Int)) (some (((pre.length : Nat) : Int) + 1)) = sg s := by
  have eT : T.length = pre.length + s.length := by
    show T.cps.size = _
    rw [← Array.length_toList]
    show (Rq.cs T).length = _
    rw [e, List.length_append]
  have e1 : ((pre.length : Nat) : Int) + 1 = ((pre.length + 1 : Nat) : Int) := rfl
  unfold cutS
  rw [e1, HT.sIx_nat, HT.sIx_nat, Nat.min_eq_left (show pre.length ≤ T.length by omega)]
  have e2 : T.cps.toList.drop pre.length = s := by
    show (Rq.cs T).drop pre.length = s
    rw [e, List.drop_left]
  rw [e2]
  unfold sg
  cases s with
  | nil => rw [List.take_nil, List.take_nil]
  | cons c s =>
    rw [Nat.min_eq_left (by rw [eT, List.length_cons]; omega)]
    have : pre.length + 1 - pre.length = 1 := by omega
    rw [this]
theorem Rd.step {C : Addr} {H : Hp} {o dx : Addr} {T : Str} {pre s : List Nat} {c : Nat} (l : T.length ≤ 10000000) (e : Rq.cs T = pre ++ c :: s) : Rd C (upd H o (.ins C dx (putF "spot" (.int (((pre.length : Nat) : Int) + 1)) [("text", .str T), ("spot", .int ((pre.length : Nat) : Int))]))) o T s := by
  refine ⟨l, dx, pre ++ [c], by rw [e]; simp, ?_⟩
  rw [upd_same, List.length_append]
  rfl
theorem Rd.col {T : Str} {pre s : List Nat} (e : Rq.cs T = pre ++ s) : V.int (((pre.length : Nat) : Int) + 1) = colV T s := by
  unfold colV
  rw [e, List.length_append]
  have : pre.length + s.length - s.length + 1 = pre.length + 1 := by omega
  rw [this]
  rfl
def spSign (C : Addr) : Sp := fun vs H Q _ => ∃ (o : Addr) (T : Str) (s : List Nat), vs = [.ref o] ∧ Rd C H o T s ∧ Q (.str (sg s)) H
def spNext (C : Addr) : Sp := fun vs H Q _ => ∃ (o : Addr) (T : Str) (s : List Nat), vs = [.ref o] ∧ Rd C H o T s ∧ ∀ H', Pn.But o H H' → Rd C H' o T (Rq.skip s) → Q (.str (sg (Rq.skip s))) H'
def spIsAt (C : Addr) : Sp := fun vs H Q _ => ∃ (o : Addr) (T : Str) (s : List Nat) (S : Str), vs = [.ref o, .str S] ∧ Rd C H o T s ∧ Q (.bl (Rq.isAt (Rq.cs S) s)) H
def spTake (C CB : Addr) : Sp := fun vs H Q E => ∃ (o : Addr) (T : Str) (s : List Nat) (c : Nat), vs = [.ref o, .str ⟨#[c]⟩] ∧ Rd C H o T s ∧ After C CB o T repN (Rq.takeC c s) H Q E
def endW (s : List Nat) : Rq.Rs Unit := if Rq.isAt (Rq.cs Rq.WORD) s then .bad s else .ok () s
def spEndW (C CB : Addr) : Sp := fun vs H Q E => ∃ (o : Addr) (T : Str) (s : List Nat), vs = [.ref o] ∧ Rd C H o T s ∧ After C CB o T repN (endW s) H Q E
def spRun (C CB : Addr) : Sp := fun vs H Q E => ∃ (o : Addr) (T : Str) (s : List Nat) (S : Str) (m : Nat), vs = [.ref o, .str S, .int ((m : Nat) : Int)] ∧ Rd C H o T s ∧ After C CB o T repS (Rq.run (Rq.cs S) m s) H Q E
def spSmall (C CB : Addr) : Sp := fun vs H Q E => ∃ (o : Addr) (T : Str) (s : List Nat), vs = [.ref o] ∧ Rd C H o T s ∧ After C CB o T repS (Rq.smallW s) H Q E
def spNameOf (C CB : Addr) : Sp := fun vs H Q E => ∃ (o : Addr) (T : Str) (s : List Nat) (w : Str), vs = [.ref o, .str w] ∧ Rd C H o T s ∧ After C CB o T repS (Rq.nameOf w s) H Q E
/-- a call that lets out what the caller lets out -/
theorem passE {X : Cx} {E : XK} {E₁ : Value → Shared → Prop} (hs : X.stack = X.env :: X.outer) (hf : X.env.frame = some X.env.locals) (hex : X.ex = [])
    (hx : X.xe = fun e s' => wpAny (model X.prog X.w) X.A (leaving X.env e) (fun _ s'' => L2.CX X.prog X.w X.outer X.H_0 X.s_0 E e s'') E₁ s') : Passes (L2.CX X.prog X.w) X E := passes_call (takes_of hs hf hex hx) (fun _ _ _ _ h => h)
section
variable {P : Program} {w : World} {K : PySem.W.Frag} {mg : Str → Option Value} {base : Heap}
theorem scRdSign : FnScope ["self"] ["self"] (defScope sRdSign) := ⟨rfl, rfl, rfl, by decide +kernel, rfl, by decide +kernel, by decide +kernel⟩
theorem ok_rdsign {f C : Addr} {fd : FuncData} (F : Fun K "sign" "Reader.sign" sRdSign f fd) (c : RdC K C) : FnOk P w K mg base CX0 1 f fd ["self"] (spSign C) := by
  refine F.ok scRdSign (fun vs H Q E h => ?_) (fun cdv A outer s0 H vs Q E hr h => ?_)
  · obtain ⟨o, T, s, rfl, _⟩ := h
    rfl
  · obtain ⟨o, T, s, rfl, ⟨l, dx, pre, e, eo⟩, q⟩ := h
    refine ⟨_, pss_one (ps_ret (pe_slice sl_str (pe_fld (pv 0) rfl) (po_some (pe_fld (pv 0) rfl)) (po_some (pe_op op_add (pe_fld (pv 0) rfl) pe_int)))), ?_⟩
    rw [← Rd.cut (C := C) (H := H) (o := o) e] at q
    exact ⟨_, rfl, o, C, dx, _, _, rfl, eo, c.cls, c.nt, rfl, _, rfl, o, C, dx, _, _, rfl, eo, c.cls, c.ns, rfl, _, rfl, _, rfl, o, C, dx, _, _, rfl, eo, c.cls, c.ns, rfl, _, _, rfl, rfl, _, rfl, T, rfl, by rw [sizeLine_eq]; omega, q⟩
end
end Ad

/-! The reader's small methods. -/
namespace Ad
open PySem PySem.Spec PySem.Calls PyProof.Rows L2
/-- the error of wrong texts -/
structure BtF (P : Program) (w : World) (K : PySem.W.Frag) (mg : Str → Option Value) (base : Heap) (CB fE : Addr) (fdE : FuncData) : Prop where
  T : Er K CB fE "column"
  G : FnOk P w K mg base CX0 1 fE fdE ["self", "column"] (spEr CB "column")
  g : mg "BadText" = some (.ref CB)
  b : Binds K fdE ["self", "column"] []
theorem But.ofSame {o : Addr} {H H' : Hp} (s : Same H H') : Pn.But o H H' := fun b x _ e => s b x e
theorem Rd.same {C : Addr} {H H' : Hp} {o : Addr} {T : Str} {s : List Nat} (h : Rd C H o T s) (sm : Same H H') : Rd C H' o T s := by
  obtain ⟨l, dx, pre, e, eo⟩ := h
  exact ⟨l, dx, pre, e, sm _ _ eo⟩
theorem After.before {α : Type} {C CB o : Addr} {T : Str} {rep : Rep α} {r : Rq.Rs α} {H H1 : Hp} {Q : VK} {E : XK} (b : Pn.But o H H1) (h : After C CB o T rep r H Q E) : After C CB o T rep r H1 Q E := by
  cases r with
  | ok a s => exact fun v H' b' rd rp => h v H' (b.trans b') rd rp
  | bad s => exact fun d H' b' e => h d H' (b.trans b') e
theorem takeC_pos {c : Nat} {s : List Nat} (h : Rq.isC c s = true) : Rq.takeC c s = .ok () s.tail := by
  rw [Rq.isC_cons h]
  show (if c = c then Rq.Rs.ok () s.tail else _) = _
  rw [if_pos rfl]
  rfl
theorem takeC_neg {c : Nat} {s : List Nat} (h : Rq.isC c s = false) : Rq.takeC c s = .bad s := by
  cases s with
  | nil => rfl
  | cons d s =>
    rw [Rq.isC_eq] at h
    exact if_neg (of_decide_eq_false h)
section
variable {P : Program} {w : World} {K : PySem.W.Frag} {mg : Str → Option Value} {base : Heap}
/-- the call of sign, of is_at, by slot i -/
theorem sign_use {C o : Addr} {T : Str} {s : List Nat} {σ : L2.St} {H : Hp} {Q : VK} {E : XK} {i : Nat} (e : σ[i]? = some (some (.ref o))) (rd : Rd C H o T s) (q : Q (.str (sg s)) H) : tMeth C "sign" (spSign C) [] E (tVar i) tNil σ H Q := by
  obtain ⟨l, dx, pre, e1, eo⟩ := id rd
  exact ⟨.ref o, e, o, dx, _, rfl, eo, rfl, o, T, s, rfl, rd, q⟩
theorem sign_get {C : Addr} {σ : L2.St} {H : Hp} {Q Q' : VK} {E : XK} {i : Nat} (m : ∀ v H, Q v H → Q' v H) (h : tMeth C "sign" (spSign C) [] E (tVar i) tNil σ H Q) : tMeth C "sign" (spSign C) [] E (tVar i) tNil σ H Q' := by
  obtain ⟨x, e, a, dx, fs, ex, ea, l, o, T, s, ev, rd, q⟩ := h
  exact ⟨x, e, a, dx, fs, ex, ea, l, o, T, s, ev, rd, m _ _ q⟩
theorem isat_use {C o : Addr} {T : Str} {s : List Nat} {σ : L2.St} {H : Hp} {Q : VK} {E : XK} {i : Nat} {te : TE} {S : Str} (e : σ[i]? = some (some (.ref o))) (ht : ∀ Q' : VK, Q' (.str S) H → te σ H Q') (rd : Rd C H o T s) (q : Q (.bl (Rq.isAt (Rq.cs S) s)) H) : tMeth C "is_at" (spIsAt C) [] E (tVar i) (tCons te tNil) σ H Q := by
  obtain ⟨l, dx, pre, e1, eo⟩ := id rd
  exact ⟨.ref o, e, o, dx, _, rfl, eo, rfl, ht _ ⟨o, T, s, S, rfl, rd, q⟩⟩
/-- raise BadText(self.spot + 1) -/
theorem throwB {C CB o : Addr} {T : Str} {s : List Nat} {σ : L2.St} {H H0 : Hp} {E : XK} (c : RdC K C) (e : σ[0]? = some (some (.ref o))) (rd : Rd C H o T s) (b : Pn.But o H0 H) (q : BadE C CB o T s H0 E) :
    tMkO CB (spEr CB "column") [] (tCons (tOp (rI0 fun i j => .int (i + j)) (tFld K (tVar 0) "spot") (tC (.int 1))) tNil) σ H (fun cls d H' => E cls d H') := by
  obtain ⟨l, dx, pre, e1, eo⟩ := id rd
  refine mk_row (v := colV T s) ⟨_, e, o, C, dx, _, _, rfl, eo, c.cls, c.ns, rfl, _, _, rfl, rfl, ?_, rfl⟩ (fun d H' sm _ ed => q d H' (b.trans (But.ofSame sm)) ed) (fun m ⟨x, e, a, C, dx, fs, v, ex, ea, c, n, l, i, j, e2, e3, q⟩ => ⟨x, e, a, C, dx, fs, v, ex, ea, c, n, l, i, j, e2, e3, m _ _ q⟩)
  exact congrArg (fun z => [z]) (Rd.col e1)
theorem scRdNext : FnScope ["self"] ["self"] (defScope sRdNext) := ⟨rfl, rfl, rfl, by decide +kernel, rfl, by decide +kernel, by decide +kernel⟩
theorem ok_rdnext {f C fS : Addr} {fd fdS : FuncData} (F : Fun K "next_sign" "Reader.next_sign" sRdNext f fd) (c : RdC K C) (mS : Meth K C "sign" fS) (GS : FnOk P w K mg base CX0 1 fS fdS ["self"] (spSign C)) (bS : Binds K fdS ["self"] []) :
    FnOk P w K mg base CX0 2 f fd ["self"] (spNext C) := by
  refine F.ok scRdNext (fun vs H Q E h => ?_) (fun cdv A outer s0 H vs Q E hr h => ?_)
  · obtain ⟨o, T, s, rfl, _⟩ := h
    rfl
  · obtain ⟨o, T, s, rfl, rd, q⟩ := h
    refine ⟨_, pss_cons (ps_while PassesOwn.never (pt_cmpR op_eq (pe_meth0 (pv 0) c.cls mS GS hr bS .nil pass0) pe_str (nomark _)) (pss_one (ps_fldaug (pv 0) pe_int in_add))) (pss_one (ps_ret (pe_meth0 (pv 0) c.cls mS GS hr bS .nil pass0))), ?_⟩
    refine while_g (fun n σ G => ∃ s', n = s'.length ∧ Rq.skip s' = Rq.skip s ∧ Pn.But o H G ∧ Rd C G o T s' ∧ σ = [some (.ref o)]) ⟨_, s, rfl, rfl, .refl _ _, rd, rfl⟩ ?_ ?_
    · rintro n σ G ⟨s', rfl, e, b, rd', rfl⟩
      refine sign_use rfl rd' ⟨rfl, _, congrArg V.bl (sg_eq 32 s'), ?_⟩
      cases h : Rq.isC 32 s' with
      | true =>
        have es := Rq.isC_cons h
        obtain ⟨l, dx, pre, e1, eo⟩ := id rd'
        rw [es] at e1
        refine iteT ⟨.ref o, rfl, o, C, dx, _, _, rfl, eo, c.cls, c.ns, rfl, _, _, rfl, rfl, dx, _, eo, by show 2 < 1000; decide, ?_⟩
        refine ⟨_, Nat.lt_of_lt_of_eq (Nat.lt_succ_self _) (Rq.isC_len h), s'.tail, rfl, ?_, b.trans (.upd _ _), Rd.step l e1, rfl⟩
        rw [← e]
        conv => rhs; rw [es]
        rw [Rq.skip, if_pos rfl]
      | false =>
        have e2 : Rq.skip s = s' := by
          rw [← e]
          cases s' with
          | nil => rfl
          | cons d s' =>
            rw [Rq.isC_eq] at h
            exact Rq.skip_cons (of_decide_eq_false h) s'
        refine iteF (sign_use rfl rd' ?_)
        rw [← e2]
        exact q G b (by rw [e2]; exact rd')
    · rintro σ G Q1 Q2 h ask
      exact sign_get (fun v H ⟨sc, k, e, q⟩ => ⟨sc, k, e, h _ _ q⟩) ask
theorem scRdIsAt : FnScope ["self", "signs"] ["self", "signs"] (defScope sRdIsAt) := ⟨rfl, rfl, rfl, by decide +kernel, rfl, by decide +kernel, by decide +kernel⟩
theorem ok_rdisat {f C fS : Addr} {fd fdS : FuncData} (F : Fun K "is_at" "Reader.is_at" sRdIsAt f fd) (c : RdC K C) (mS : Meth K C "sign" fS) (GS : FnOk P w K mg base CX0 1 fS fdS ["self"] (spSign C)) (bS : Binds K fdS ["self"] []) :
    FnOk P w K mg base CX0 2 f fd ["self", "signs"] (spIsAt C) := by
  refine F.ok scRdIsAt (fun vs H Q E h => ?_) (fun cdv A outer s0 H vs Q E hr h => ?_)
  · obtain ⟨o, T, s, S, rfl, _⟩ := h
    rfl
  · obtain ⟨o, T, s, S, rfl, rd, q⟩ := h
    refine ⟨_, pss_one (ps_ret (pe_and (pe_cmpR op_ne (pe_meth0 (pv 0) c.cls mS GS hr bS .nil pass0) pe_str (nomark _)) (pe_one (pe_cmpR op_in_sign (pe_meth0 (pv 0) c.cls mS GS hr bS .nil pass0) (pv 1) (by with_unfolding_all rfl))))), ?_⟩
    refine sign_use rfl rd ⟨rfl, _, congrArg (fun b => V.bl (!b)) (sg_emp s), ?_⟩
    cases s with
    | nil => exact iteF q
    | cons d s =>
      refine iteT (sign_use rfl rd ⟨_, rfl, d, S, rfl, rfl, ?_⟩)
      have e : decide (d ∈ S.cps.toList) = Rq.isAt (Rq.cs S) (d :: s) := by
        show _ = (Rq.cs S).contains d
        rw [Bool.eq_iff_iff, decide_eq_true_iff, List.contains_iff_mem]
      rw [e]
      exact q
theorem scRdTake : FnScope ["self", "sign"] ["self", "sign"] (defScope sRdTake) := ⟨rfl, rfl, rfl, by decide +kernel, rfl, by decide +kernel, by decide +kernel⟩
theorem ok_rdtake {f C CB fS fE : Addr} {fd fdS fdE : FuncData} (F : Fun K "take" "Reader.take" sRdTake f fd) (c : RdC K C) (mS : Meth K C "sign" fS) (GS : FnOk P w K mg base CX0 1 fS fdS ["self"] (spSign C)) (bS : Binds K fdS ["self"] []) (B : BtF P w K mg base CB fE fdE) :
    FnOk P w K mg base (L2.CX P w) 3 f fd ["self", "sign"] (spTake C CB) := by
  refine F.okX scRdTake (fun vs H Q E h => ?_) (fun cdv A outer s0 H vs Q E hr h => ?_)
  · obtain ⟨o, T, s, k, rfl, _⟩ := h
    rfl
  · obtain ⟨o, T, s, k, rfl, rd, q⟩ := h
    refine ⟨_, pss_cons (ps_if (pt_cmpR op_ne (pe_meth0 (pv 0) c.cls mS GS (hr.mono (by decide)) bS .nil pass0) (pv 1) (nomark _))
      (pss_one (ps_raise rfl (takes_of rfl rfl rfl rfl) (pmk_oex B.T.ox B.T.ini B.T.tI B.G hr B.b .nil pass0 (by rfl) B.g (pa_cons (pe_op op_add (pe_fld (pv 0) rfl) pe_int) pa_nil)))) pss_nil)
      (pss_one (ps_fldaug (pv 0) pe_int in_add)), ?_⟩
    refine sign_use rfl rd ⟨_, rfl, rfl, _, congrArg (fun b => V.bl (!b)) (sg_eq k s), ?_⟩
    cases h : Rq.isC k s with
    | false =>
      rw [takeC_neg h] at q
      exact iteT (throwB c rfl rd (.refl _ _) q)
    | true =>
      rw [takeC_pos h] at q
      have es := Rq.isC_cons h
      obtain ⟨l, dx, pre, e1, eo⟩ := id rd
      rw [es] at e1
      exact iteF ⟨.ref o, rfl, o, C, dx, _, _, rfl, eo, c.cls, c.ns, rfl, _, _, rfl, rfl, dx, _, eo, by show 2 < 1000; decide, q _ _ (.upd _ _) (Rd.step l e1) rfl⟩
theorem scRdEnd : FnScope ["self"] ["self"] (defScope sRdEnd) := ⟨rfl, rfl, rfl, by decide +kernel, rfl, by decide +kernel, by decide +kernel⟩
theorem ok_rdend {f C CB fA fE : Addr} {fd fdA fdE : FuncData} (F : Fun K "end_word" "Reader.end_word" sRdEnd f fd) (c : RdC K C) (mA : Meth K C "is_at" fA) (GA : FnOk P w K mg base CX0 2 fA fdA ["self", "signs"] (spIsAt C)) (bA : Binds K fdA ["self", "signs"] []) (B : BtF P w K mg base CB fE fdE) (gW : Gs mg "WORD_SIGNS" (.str Rq.WORD)) :
    FnOk P w K mg base (L2.CX P w) 3 f fd ["self"] (spEndW C CB) := by
  refine F.okX scRdEnd (fun vs H Q E h => ?_) (fun cdv A outer s0 H vs Q E hr h => ?_)
  · obtain ⟨o, T, s, rfl, _⟩ := h
    rfl
  · obtain ⟨o, T, s, rfl, rd, q⟩ := h
    obtain ⟨uW, gW, rW⟩ := gW
    refine ⟨_, pss_one (ps_if (pt_val (pe_meth (pv 0) c.cls mA GA hr bA .nil pass0 (pa_cons (pe_glob (v := .str Rq.WORD) (by rfl) gW rW) pa_nil)))
      (pss_one (ps_raise rfl (takes_of rfl rfl rfl rfl) (pmk_oex B.T.ox B.T.ini B.T.tI B.G hr B.b .nil pass0 (by rfl) B.g (pa_cons (pe_op op_add (pe_fld (pv 0) rfl) pe_int) pa_nil)))) pss_nil), ?_⟩
    refine isat_use rfl (fun Q' q => q) rd ⟨_, rfl, ?_⟩
    unfold endW at q
    cases h : Rq.isAt (Rq.cs Rq.WORD) s with
    | true =>
      rw [h, if_pos rfl] at q
      exact iteT (throwB c rfl rd (.refl _ _) q)
    | false =>
      rw [h, if_neg Bool.false_ne_true] at q
      exact iteF (q _ _ (.refl _ _) rd rfl)
end
end Ad

/-! The reader's words. -/
namespace Ad
open PySem PySem.Spec PySem.Calls PyProof.Rows L2
theorem cut_run {T : Str} {pre A s : List Nat} (e : Rq.cs T = pre ++ (A ++ s)) : cutS T (some ((pre.length : Nat) : Int)) (some (((pre ++ A).length : Nat) : Int)) = ⟨A.toArray⟩ := by
  have eT : T.length = pre.length + (A.length + s.length) := by
    show T.cps.size = _
    rw [← Array.length_toList]
    show (Rq.cs T).length = _
    rw [e, List.length_append, List.length_append]
  unfold cutS
  rw [HT.sIx_nat, HT.sIx_nat, Nat.min_eq_left (show pre.length ≤ T.length by omega), Nat.min_eq_left (show (pre ++ A).length ≤ T.length by rw [List.length_append]; omega)]
  have e2 : T.cps.toList.drop pre.length = A ++ s := by
    show (Rq.cs T).drop pre.length = _
    rw [e, List.drop_left]
  have e3 : (pre ++ A).length - pre.length = A.length := by
    rw [List.length_append]
    omega
  rw [e2, e3, List.take_left]
theorem runP_at {S : List Nat} {c : Nat} {s : List Nat} {m : Nat} (h : Rq.isAt S (c :: s) = true) : Rq.runP S (m + 1) (c :: s) = (c :: (Rq.runP S m s).1, (Rq.runP S m s).2) := by
  rw [Rq.runP]
  exact if_pos h
theorem runP_no {S : List Nat} {s : List Nat} {m : Nat} (h : Rq.isAt S s = false ∨ m = 0) : Rq.runP S m s = ([], s) := by
  rcases h with h | rfl
  · cases s with
    | nil => cases m <;> rfl
    | cons c s =>
      cases m with
      | zero => rfl
      | succ m =>
        have h' : S.contains c = false := h
        rw [Rq.runP, if_neg (by rw [h']; exact Bool.false_ne_true)]
  · cases s <;> rfl
theorem rd_pre {pre s : List Nat} {T : Str} {pre' A s' : List Nat} (e : Rq.cs T = pre ++ s) (es : s = A ++ s') (e' : Rq.cs T = pre' ++ s') : pre' = pre ++ A := by
  rw [e, es, ← List.append_assoc] at e'
  exact (List.append_cancel_right e').symm
section
variable {P : Program} {w : World} {K : PySem.W.Frag} {mg : Str → Option Value} {base : Heap}
theorem scRdRun : FnScope ["self", "signs", "most", "start"] ["self", "signs", "most"] (defScope sRdRun) := ⟨rfl, rfl, rfl, by decide +kernel, rfl, by decide +kernel, by decide +kernel⟩
theorem ok_rdrun {f C CB fA fW : Addr} {fd fdA fdW : FuncData} (F : Fun K "run" "Reader.run" sRdRun f fd) (c : RdC K C) (mA : Meth K C "is_at" fA) (GA : FnOk P w K mg base CX0 2 fA fdA ["self", "signs"] (spIsAt C)) (bA : Binds K fdA ["self", "signs"] [])
    (mW : Meth K C "end_word" fW) (GW : FnOk P w K mg base (L2.CX P w) 3 fW fdW ["self"] (spEndW C CB)) (bW : Binds K fdW ["self"] []) :
    FnOk P w K mg base (L2.CX P w) 4 f fd ["self", "signs", "most"] (spRun C CB) := by
  refine F.okX scRdRun (fun vs H Q E h => ?_) (fun cdv A outer s0 H vs Q E hr h => ?_)
  · obtain ⟨o, T, s, S, m, rfl, _⟩ := h
    rfl
  · obtain ⟨o, T, s, S, most, rfl, rd, q⟩ := h
    refine ⟨_, pss_cons (ps_set (i := 3) scRdRun.nd rfl (.inl rfl) (pe_fld (pv 0) rfl))
      (pss_cons (ps_while (passes_of rfl) (PW.pt (pw_and (pt_val (pe_meth (pv 0) c.cls mA GA (hr.mono (by decide)) bA .nil pass0 (pa_cons (pv 1) pa_nil))) (pw_and1 (pt_cmpR op_lt (pe_fld (pv 0) rfl) (pe_op op_add (pv 3) (pv 2)) (nomark _))))) (pss_one (ps_fldaug (pv 0) pe_int in_add)))
      (pss_cons (ps_expr (pe_meth0 (pv 0) c.cls mW GW hr bW .nil (passE rfl rfl rfl rfl)))
      (pss_one (ps_ret (pe_slice sl_str (pe_fld (pv 0) rfl) (po_some (pv 3)) (po_some (pe_fld (pv 0) rfl))))))), ?_⟩
    obtain ⟨l, dx, pre, e0, eo⟩ := id rd
    refine ⟨.ref o, rfl, o, C, dx, _, _, rfl, eo, c.cls, c.ns, rfl, ?_⟩
    have fin : ∀ (B s' : List Nat) (G : Hp), s = B ++ s' → Rq.runP (Rq.cs S) most s = (B, s') → Pn.But o H G → Rd C G o T s' → _ := fun B s' G es er b rd' => by
      refine (show tMeth C "end_word" (spEndW C CB) [] E (tVar 0) tNil [some (.ref o), some (.str S), some (.int ((most : Nat) : Int)), some (.int ((pre.length : Nat) : Int))] G (fun _ H1 => tSl rSlS (tFld K (tVar 0) "text") (tPart (tVar 3)) (tPart (tFld K (tVar 0) "spot")) [some (.ref o), some (.str S), some (.int ((most : Nat) : Int)), some (.int ((pre.length : Nat) : Int))] H1 Q) from ?_)
      obtain ⟨l', dx', pre', e', eo'⟩ := id rd'
      refine ⟨.ref o, rfl, o, dx', _, rfl, eo', rfl, o, T, s', rfl, rd', ?_⟩
      unfold Rq.run at q
      rw [er] at q
      unfold endW
      cases h : Rq.isAt (Rq.cs Rq.WORD) s' with
      | true =>
        have q : After C CB o T repS (if Rq.isAt (Rq.cs Rq.WORD) s' = true then Rq.Rs.bad s' else Rq.Rs.ok (⟨B.toArray⟩ : Str) s') H Q E := q
        rw [h, if_pos rfl] at q
        rw [if_pos rfl]
        exact fun d H' b' ed => q d H' (b.trans b') ed
      | false =>
        have q : After C CB o T repS (if Rq.isAt (Rq.cs Rq.WORD) s' = true then Rq.Rs.bad s' else Rq.Rs.ok (⟨B.toArray⟩ : Str) s') H Q E := q
        rw [h, if_neg Bool.false_ne_true] at q
        rw [if_neg Bool.false_ne_true]
        intro v H' b' rd2 _
        obtain ⟨l2, dx2, pre2, e2, eo2⟩ := id rd2
        have ep := rd_pre e0 es e2
        subst ep
        have q2 := q (.str ⟨B.toArray⟩) H' (b.trans b') rd2 rfl
        rw [← cut_run (pre := pre) (A := B) (s := s') (by rw [e2, List.append_assoc])] at q2
        exact ⟨.ref o, rfl, o, C, dx2, _, _, rfl, eo2, c.cls, c.nt, rfl, _, rfl, _, rfl, .ref o, rfl, o, C, dx2, _, _, rfl, eo2, c.cls, c.ns, rfl, _, rfl, T, rfl, by rw [sizeLine_eq]; omega, q2⟩
    refine while_g (fun n σ G => ∃ B s', s = B ++ s' ∧ B.length + n = most ∧ Rq.runP (Rq.cs S) most s = (B ++ (Rq.runP (Rq.cs S) n s').1, (Rq.runP (Rq.cs S) n s').2) ∧ Pn.But o H G ∧ Rd C G o T s' ∧ σ = [some (.ref o), some (.str S), some (.int ((most : Nat) : Int)), some (.int ((pre.length : Nat) : Int))]) ⟨most, [], s, rfl, by simp, rfl, .refl _ _, rd, rfl⟩ ?_ ?_
    · rintro n σ G ⟨B, s', es, len, er, b, rd', rfl⟩
      obtain ⟨l', dx', pre', e', eo'⟩ := id rd'
      have ep := rd_pre e0 es e'
      subst ep
      refine isat_use rfl (fun Q' q => ⟨_, rfl, q⟩) rd' ⟨_, rfl, ?_⟩
      cases h : Rq.isAt (Rq.cs S) s' with
      | false =>
        rw [runP_no (.inl h), List.append_nil] at er
        exact iteF (iteF (fin B s' G es er b rd'))
      | true =>
        refine iteT ⟨.ref o, rfl, o, C, dx', _, _, rfl, eo', c.cls, c.ns, rfl, _, rfl, _, rfl, _, _, rfl, rfl, _, _, rfl, rfl, _, rfl, ?_⟩
        cases n with
        | zero =>
          rw [runP_no (.inr rfl), List.append_nil] at er
          rw [decide_eq_false (by rw [List.length_append]; omega)]
          exact iteF (fin B s' G es er b rd')
        | succ n =>
          rw [decide_eq_true (by rw [List.length_append]; omega)]
          cases s' with
          | nil => cases h
          | cons d s' =>
            rw [runP_at h] at er
            refine iteT ⟨.ref o, rfl, o, C, dx', _, _, rfl, eo', c.cls, c.ns, rfl, _, _, rfl, rfl, dx', _, eo', by show 2 < 1000; decide, ?_⟩
            refine ⟨n, Nat.lt_succ_self n, B ++ [d], s', by rw [es]; simp, by rw [List.length_append, ← len, List.length_singleton]; omega, by rw [er, List.append_assoc]; rfl, b.trans (.upd _ _), Rd.step l e', rfl⟩
    · rintro σ G Q1 Q2 h ⟨x, e, a, dx, fs, ex, ea, l, v1, e1, o, T, s, S, ev, rd, k, ek, ask⟩
      refine ⟨x, e, a, dx, fs, ex, ea, l, v1, e1, o, T, s, S, ev, rd, k, ek, ?_⟩
      cases k with
      | false => exact iteF (h _ _ ask)
      | true =>
        obtain ⟨x2, e2, A2, C2, d2, fs2, v2, f1, f2, f3, f4, f5, x3, e3, x4, e4, i, j, g1, g2, ii, jj, h1, h2, kk, h3, ask⟩ := ask
        exact iteT ⟨x2, e2, A2, C2, d2, fs2, v2, f1, f2, f3, f4, f5, x3, e3, x4, e4, i, j, g1, g2, ii, jj, h1, h2, kk, h3, h _ _ ask⟩
theorem scRdSmall : FnScope ["self"] ["self"] (defScope sRdSmall) := ⟨rfl, rfl, rfl, by decide +kernel, rfl, by decide +kernel, by decide +kernel⟩
theorem ok_rdsmall {f C CB fA fR fE : Addr} {fd fdA fdR fdE : FuncData} (F : Fun K "small_word" "Reader.small_word" sRdSmall f fd) (c : RdC K C) (mA : Meth K C "is_at" fA) (GA : FnOk P w K mg base CX0 2 fA fdA ["self", "signs"] (spIsAt C)) (bA : Binds K fdA ["self", "signs"] [])
    (mR : Meth K C "run" fR) (GR : FnOk P w K mg base (L2.CX P w) 4 fR fdR ["self", "signs", "most"] (spRun C CB)) (bR : Binds K fdR ["self", "signs", "most"] []) (B : BtF P w K mg base CB fE fdE) (gL : Gs mg "LOWER" (.str Rq.LOWER)) (gD : Gs mg "DIGITS" (.str Rq.DIGITS)) (gN : Gs mg "LONGEST_NAME" (.int 12)) :
    FnOk P w K mg base (L2.CX P w) 5 f fd ["self"] (spSmall C CB) := by
  refine F.okX scRdSmall (fun vs H Q E h => ?_) (fun cdv A outer s0 H vs Q E hr h => ?_)
  · obtain ⟨o, T, s, rfl, _⟩ := h
    rfl
  · obtain ⟨o, T, s, rfl, rd, q⟩ := h
    obtain ⟨uL, gL, rL⟩ := gL
    obtain ⟨uD, gD, rD⟩ := gD
    obtain ⟨uN, gN, rN⟩ := gN
    refine ⟨_, pss_cons (ps_if (pt_not (pt_val (pe_meth (pv 0) c.cls mA GA (hr.mono (by decide)) bA .nil pass0 (pa_cons (pe_glob (v := .str Rq.LOWER) (by rfl) gL rL) pa_nil))))
      (pss_one (ps_raise rfl (takes_of rfl rfl rfl rfl) (pmk_oex B.T.ox B.T.ini B.T.tI B.G (hr.mono (by decide)) B.b .nil pass0 (by rfl) B.g (pa_cons (pe_op op_add (pe_fld (pv 0) rfl) pe_int) pa_nil)))) pss_nil)
      (pss_one (ps_ret (pe_meth (pv 0) c.cls mR GR hr bR .nil (passE rfl rfl rfl rfl) (pa_cons (pe_op op_add_str (pe_op op_add_str (pe_glob (v := .str Rq.LOWER) (by rfl) gL rL) (pe_glob (v := .str Rq.DIGITS) (by rfl) gD rD)) pe_str) (pa_cons (pe_glob (v := .int 12) (by rfl) gN rN) pa_nil))))), ?_⟩
    refine isat_use rfl (fun Q' q => q) rd ⟨_, rfl, ?_⟩
    unfold Rq.smallW at q
    cases h : Rq.isAt (Rq.cs Rq.LOWER) s with
    | false =>
      rw [h, if_neg Bool.false_ne_true] at q
      exact iteT (throwB c rfl rd (.refl _ _) q)
    | true =>
      rw [h, if_pos rfl] at q
      obtain ⟨l, dx, pre, e0, eo⟩ := id rd
      refine iteF ⟨.ref o, rfl, o, dx, _, rfl, eo, rfl, _, _, rfl, rfl, by rw [sizeLine_eq]; decide, _, _, rfl, rfl, by rw [sizeLine_eq]; decide, o, T, s, Rq.LOWER ++ Rq.DIGITS ++ "_", 12, rfl, rd, ?_⟩
      have e : Rq.cs (Rq.LOWER ++ Rq.DIGITS ++ "_") = Rq.cs Rq.LOWER ++ Rq.cs Rq.DIGITS ++ [95] := by decide +kernel
      rw [e]
      exact q
theorem scRdName : FnScope ["self", "word"] ["self", "word"] (defScope sRdName) := ⟨rfl, rfl, rfl, by decide +kernel, rfl, by decide +kernel, by decide +kernel⟩
theorem ok_rdname {f C CB nA fE : Addr} {fd fdE : FuncData} (F : Fun K "name_of" "Reader.name_of" sRdName f fd) (c : RdC K C) (B : BtF P w K mg base CB fE fdE) (gN : mg "NO_NAMES" = some (.ref nA)) (hN : ∀ H, SqT K H nA (Rq.NO.map V.str)) :
    FnOk P w K mg base (L2.CX P w) 3 f fd ["self", "word"] (spNameOf C CB) := by
  refine F.okX scRdName (fun vs H Q E h => ?_) (fun cdv A outer s0 H vs Q E hr h => ?_)
  · obtain ⟨o, T, s, wd, rfl, _⟩ := h
    rfl
  · obtain ⟨o, T, s, wd, rfl, rd, q⟩ := h
    refine ⟨_, pss_cons (ps_if (pt_cmpR op_in_seq (pv 1) (pe_glob (v := .ref nA) (by rfl) gN rfl) (by with_unfolding_all rfl))
      (pss_one (ps_raise rfl (takes_of rfl rfl rfl rfl) (pmk_oex B.T.ox B.T.ini B.T.tI B.G hr B.b .nil pass0 (by rfl) B.g (pa_cons (pe_op op_add (pe_fld (pv 0) rfl) pe_int) pa_nil)))) pss_nil)
      (pss_one (ps_ret (pv 1))), ?_⟩
    refine ⟨_, rfl, nA, _, rfl, .inr (hN H), rfl, rfl, _, congrArg V.bl (inV_mem wd Rq.NO), ?_⟩
    unfold Rq.nameOf at q
    by_cases h : wd ∈ Rq.NO
    · rw [if_pos h] at q
      rw [decide_eq_true h]
      exact iteT (throwB c rfl rd (.refl _ _) q)
    · rw [if_neg h] at q
      rw [decide_eq_false h]
      exact iteF ⟨_, rfl, q _ _ (.refl _ _) rd rfl⟩
end
end Ad

/-! The reader's terms. -/
namespace Ad
open PySem PySem.Spec PySem.Calls PyProof.Rows L2
def TD (d : PyData) : Prop := tpo d = true ∧ ((∃ n, d = .int n) ∨ ∃ l, d = .tuple l)
def spGreat (K : PySem.W.Frag) (C CB : Addr) (gr : List Nat → Rq.Rs PyData) : Sp := fun vs H Q E => ∃ (o : Addr) (T : Str) (s : List Nat), vs = [.ref o] ∧ Rd C H o T s ∧ After C CB o T (repD K) (gr s) H Q E
def spHas (K : PySem.W.Frag) (C : Addr) : Sp := fun vs H Q _ => ∃ (o : Addr) (T : Str) (s : List Nat) (x : V) (d : PyData), vs = [.ref o, x] ∧ Rd C H o T s ∧ Dp K H x d ∧ TD d ∧
  ∀ H', Pn.But o H H' → Rd C H' o T (if Rq.isOne d then Rq.skip s else s) → Q (.bl (Rq.isOne d && Rq.isC 40 (Rq.skip s))) H'
def spWhole (K : PySem.W.Frag) (C CB : Addr) (gr : List Nat → Rq.Rs PyData) : Sp := fun vs H Q E => ∃ (o : Addr) (T : Str) (s : List Nat) (x : V) (d : PyData), vs = [.ref o, x] ∧ Rd C H o T s ∧ Dp K H x d ∧ TD d ∧ After C CB o T (repD K) (Rq.whole gr d s) H Q E
theorem tk_but {C o : Addr} {T : Str} {s : List Nat} {G G' : Hp} (b : Pn.But o G G') (rd : Rd C G o T s) : TK G G' := fun c xs => by
  obtain ⟨_, dx, pre, _, eo⟩ := rd
  exact ⟨fun e => b _ _ (fun z => by rw [z, eo] at e; cases e) e, fun u e => b _ _ (fun z => by rw [z, eo] at e; cases e) e⟩
theorem After.bindTo {α β : Type} {C CB o : Addr} {T : Str} {rep : Rep α} {rep' : Rep β} {r : Rq.Rs α} {k : α → List Nat → Rq.Rs β} {H : Hp} {Q Q1 : VK} {E : XK} (q : After C CB o T rep' (r.bind k) H Q E)
    (h : ∀ a s v H', r = .ok a s → Pn.But o H H' → Rd C H' o T s → rep H' a v → After C CB o T rep' (k a s) H' Q E → Q1 v H') : After C CB o T rep r H Q1 E := by
  cases r with
  | ok a s => exact fun v H' b rd rp => h a s v H' rfl b rd rp (After.before (r := k a s) b q)
  | bad s => exact q
theorem After.fin {α : Type} {C CB o : Addr} {T : Str} {rep : Rep α} {a : α} {s : List Nat} {H H' : Hp} {Q : VK} {E : XK} {v : V} (q : After C CB o T rep (.ok a s) H Q E) (b : Pn.But o H H') (rd : Rd C H' o T s) (rp : rep H' a v) : Q v H' := q v H' b rd rp
theorem head_td {gr : List Nat → Rq.Rs PyData} (hg : ∀ s d r, gr s = .ok d r → TD d) {s : List Nat} {d : PyData} {r : List Nat} (h : Rq.head gr s = .ok d r) : TD d := by
  unfold Rq.head at h
  split at h
  · exact hg _ _ _ h
  · cases e : (Rq.smallW (Rq.skip s)).bind Rq.nameOf with
    | bad t => rw [e] at h; cases h
    | ok w t =>
      rw [e] at h
      cases h
      exact ⟨rfl, .inr ⟨_, rfl⟩⟩
section
variable {P : Program} {w : World} {K : PySem.W.Frag} {mg : Str → Option Value} {base : Heap}
theorem scRdHas : FnScope ["self", "part"] ["self", "part"] (defScope sRdHas) := ⟨rfl, rfl, rfl, by decide +kernel, rfl, by decide +kernel, by decide +kernel⟩
theorem ok_rdhas {f C fN : Addr} {fd fdN : FuncData} (F : Fun K "has_arguments" "Reader.has_arguments" sRdHas f fd) (c : RdC K C) (mN : Meth K C "next_sign" fN) (GN : FnOk P w K mg base CX0 2 fN fdN ["self"] (spNext C)) (bN : Binds K fdN ["self"] [])
    (mi : mg "isinstance" = none) (mT : mg "tuple" = none) (ml : mg "len" = none) : FnOk P w K mg base CX0 3 f fd ["self", "part"] (spHas K C) := by
  refine F.ok scRdHas (fun vs H Q E h => ?_) (fun cdv A outer s0 H vs Q E hr h => ?_)
  · obtain ⟨o, T, s, x, d, rfl, _⟩ := h
    rfl
  · obtain ⟨o, T, s, x, d, rfl, rd, hd, td, q⟩ := h
    refine ⟨_, pss_one (ps_ret (pe_and (pe_callB call_isi (by rfl) mi (by decide +kernel) (pa_cons (pv 1) (pa_cons (pe_bltn (v := .ty "tuple") (by rfl) mT (by decide +kernel) rfl) pa_nil)))
      (pe_and (pe_cmpR op_eq (pe_callB call_len_seq (by rfl) ml (by decide +kernel) (pa_cons (pv 1) pa_nil)) pe_int (nomark _)) (pe_one (pe_cmpR op_eq (pe_meth0 (pv 0) c.cls mN GN hr bN .nil pass0) pe_str (nomark _)))))), ?_⟩
    obtain ⟨_, ⟨n, rfl⟩ | ⟨l, rfl⟩⟩ := td
    · cases hd
      exact ⟨_, rfl, _, .ty "tuple", .type "int", .type "tuple", false, rfl, .ty "tuple", .base (.int n), kitIT, _, rfl, iteF (q H (.refl _ _) rd)⟩
    · cases hd with
      | @tup t xs _ sq all =>
        refine ⟨_, rfl, _, .ty "tuple", .type "tuple", .type "tuple", true, rfl, .ty "tuple", sq_ty sq, kitTT, _, rfl, iteT ⟨_, rfl, t, xs, rfl, .inr sq, rfl, _, rfl, ?_⟩⟩
        have len := dpAll_len all
        cases h1 : Rq.isOne (.tuple l) with
        | true =>
          have l1 : l.length = 1 := by
            match l, h1 with
            | [_], _ => rfl
          rw [h1, if_pos rfl] at q
          have e1 : decide (V.int ((xs.length : Nat) : Int) = V.int 1) = true := decide_eq_true (by rw [len, l1]; rfl)
          rw [e1]
          obtain ⟨lT, dx, pre, e0, eo⟩ := id rd
          refine iteT ⟨.ref o, rfl, o, dx, _, rfl, eo, rfl, o, T, s, rfl, rd, fun H' b rd' => ⟨rfl, ?_⟩⟩
          have e2 : decide (V.str (sg (Rq.skip s)) = V.str "(") = Rq.isC 40 (Rq.skip s) := sg_eq 40 _
          rw [e2]
          exact q H' b rd'
        | false =>
          have l1 : l.length ≠ 1 := fun z => by
            match l, z, h1 with
            | [_], _, h1 => cases h1
          rw [h1, if_neg Bool.false_ne_true] at q
          have e1 : decide (V.int ((xs.length : Nat) : Int) = V.int 1) = false := decide_eq_false (fun z => by
            injection z with z
            omega)
          rw [e1]
          exact iteF (q H (.refl _ _) rd)
theorem scRdHead : FnScope ["self"] ["self"] (defScope sRdHead) := ⟨rfl, rfl, rfl, by decide +kernel, rfl, by decide +kernel, by decide +kernel⟩
theorem ok_rdhead {gr : List Nat → Rq.Rs PyData} {f C CB fN fA fG fM fS : Addr} {fd fdN fdA fdG fdM fdS : FuncData} (F : Fun K "head" "Reader.head" sRdHead f fd) (c : RdC K C) (mN : Meth K C "next_sign" fN) (GN : FnOk P w K mg base CX0 2 fN fdN ["self"] (spNext C)) (bN : Binds K fdN ["self"] [])
    (mA : Meth K C "is_at" fA) (GA : FnOk P w K mg base CX0 2 fA fdA ["self", "signs"] (spIsAt C)) (bA : Binds K fdA ["self", "signs"] []) (mG : Meth K C "great" fG) (GG : FnOk P w K mg base (L2.CX P w) 5 fG fdG ["self"] (spGreat K C CB gr)) (bG : Binds K fdG ["self"] [])
    (mM : Meth K C "name_of" fM) (GM : FnOk P w K mg base (L2.CX P w) 3 fM fdM ["self", "word"] (spNameOf C CB)) (bM : Binds K fdM ["self", "word"] []) (mS : Meth K C "small_word" fS) (GS : FnOk P w K mg base (L2.CX P w) 5 fS fdS ["self"] (spSmall C CB)) (bS : Binds K fdS ["self"] []) (gU : Gs mg "UPPER" (.str Rq.UPPER)) :
    FnOk P w K mg base (L2.CX P w) 6 f fd ["self"] (spGreat K C CB (Rq.head gr)) := by
  refine F.okX scRdHead (fun vs H Q E h => ?_) (fun cdv A outer s0 H vs Q E hr h => ?_)
  · obtain ⟨o, T, s, rfl, _⟩ := h
    rfl
  · obtain ⟨o, T, s, rfl, rd, q⟩ := h
    obtain ⟨uU, gU, rU⟩ := gU
    refine ⟨_, pss_cons (ps_expr (pe_meth0 (pv 0) c.cls mN GN (hr.mono (by decide)) bN .nil pass0))
      (pss_cons (ps_if (pt_val (pe_meth (pv 0) c.cls mA GA (hr.mono (by decide)) bA .nil pass0 (pa_cons (pe_glob (v := .str Rq.UPPER) (by rfl) gU rU) pa_nil)))
        (pss_one (ps_ret (pe_meth0 (pv 0) c.cls mG GG hr bG .nil (passE rfl rfl rfl rfl)))) pss_nil)
      (pss_one (ps_ret (pe_tup (pa_cons (pe_meth (pv 0) c.cls mM GM (hr.mono (by decide)) bM .nil (passE rfl rfl rfl rfl) (pa_cons (pe_meth0 (pv 0) c.cls mS GS hr bS .nil (passE rfl rfl rfl rfl)) pa_nil)) pa_nil))))), ?_⟩
    obtain ⟨lT, dx, pre, e0, eo⟩ := id rd
    refine ⟨.ref o, rfl, o, dx, _, rfl, eo, rfl, o, T, s, rfl, rd, fun H1 b1 rd1 => ?_⟩
    refine isat_use rfl (fun Q' q => q) rd1 ⟨_, rfl, ?_⟩
    have q := q.before b1
    unfold Rq.head at q
    obtain ⟨_, dx1, pre1, _, eo1⟩ := id rd1
    cases h : Rq.isAt (Rq.cs Rq.UPPER) (Rq.skip s) with
    | true =>
      rw [h, if_pos rfl] at q
      exact iteT ⟨.ref o, rfl, o, dx1, _, rfl, eo1, rfl, o, T, _, rfl, rd1, q⟩
    | false =>
      rw [h, if_neg Bool.false_ne_true, Rq.map_bind] at q
      have q2 : After C CB o T (repD K) ((Rq.smallW (Rq.skip s)).bind fun w r => (Rq.nameOf w r).bind fun w s => .ok (.tuple [.str w]) s) H1 Q E := by
        cases e : Rq.smallW (Rq.skip s) with
        | ok w r => rw [e] at q; exact q
        | bad r => rw [e] at q; exact q
      refine iteF ⟨.ref o, rfl, o, dx1, _, rfl, eo1, rfl, .ref o, rfl, o, dx1, _, rfl, eo1, rfl, o, T, _, rfl, rd1, q2.bindTo (fun wd r v H2 _ b2 rd2 rp q3 => ?_)⟩
      cases rp
      refine ⟨o, T, r, wd, rfl, rd2, q3.bindTo (fun wd2 r2 v2 H3 _ b3 rd3 rp3 q4 => ?_)⟩
      cases rp3
      refine ⟨by show 1 ≤ sizeLine; rw [sizeLine_eq]; decide, fun t nt => ?_⟩
      have sm := same_new (H := H3) (fun b o e => e) nt (.tup [.str wd2])
      exact q4.fin (But.ofSame sm) (rd3.same sm) (.tup (.inl (.inl upd_same)) (.cons (.str _) .nil))
end
end Ad

/-! A term with its arguments, by the reader. -/
namespace Ad
open PySem PySem.Spec PySem.Calls PyProof.Rows L2
/-- what is begun: lists of their own, new since H0 -/
def StkI (K : PySem.W.Frag) (H0 G : Hp) (lb : Addr) (r M : Nat) : List Addr → List (List PyData) → Prop
  | [], [] => True
  | a :: as, b :: bs => (H0 a = none ∧ a ≠ lb ∧ a ∉ as ∧ ∃ vs, G a = some (.lst vs) ∧ DpAll K G vs b ∧ tpoL b = true ∧ vs.length + r ≤ M) ∧ StkI K H0 G lb r M as bs
  | _, _ => False
theorem StkI.keep {K : PySem.W.Frag} {H0 G G' : Hp} {lb : Addr} {r r' M : Nat} (k : TK G G') (le : r' ≤ r) : ∀ {as : List Addr} {bg : List (List PyData)}, StkI K H0 G lb r M as bg → (∀ a ∈ as, ∀ vs, G a = some (.lst vs) → G' a = some (.lst vs)) → StkI K H0 G' lb r' M as bg
  | [], [], _, _ => trivial
  | a :: as, b :: bs, ⟨⟨h1, h2, h3, vs, h4, h5, h6, h7⟩, h8⟩, hk => ⟨⟨h1, h2, h3, vs, hk a List.mem_cons_self vs h4, tpo_tkL k _ _ h6 h5, h6, by omega⟩, StkI.keep k le h8 fun c hc => hk c (List.mem_cons_of_mem _ hc)⟩
  | [], _ :: _, h, _ => h.elim
  | _ :: _, [], h, _ => h.elim
theorem StkI.fresh {K : PySem.W.Frag} {H0 G : Hp} {lb : Addr} {r M : Nat} : ∀ {as : List Addr} {bg : List (List PyData)}, StkI K H0 G lb r M as bg → ∀ a ∈ as, H0 a = none ∧ a ≠ lb ∧ ∃ vs, G a = some (.lst vs)
  | a :: as, b :: bs, ⟨⟨h1, h2, _, vs, h4, _⟩, h8⟩, c, hc => by
    rcases List.mem_cons.mp hc with rfl | hc
    · exact ⟨h1, h2, vs, h4⟩
    · exact StkI.fresh h8 c hc
structure Stk (K : PySem.W.Frag) (H0 G : Hp) (lb : Addr) (as : List Addr) (bg : List (List PyData)) (r M : Nat) : Prop where
  lb0 : H0 lb = none
  lbl : G lb = some (.lst (as.reverse.map V.ref))
  inn : StkI K H0 G lb r M as bg
  few : as.length + r ≤ M
theorem Stk.keep {K : PySem.W.Frag} {H0 G G' : Hp} {lb : Addr} {as : List Addr} {bg : List (List PyData)} {r r' M : Nat} (h : Stk K H0 G lb as bg r M) (k : TK G G') (le : r' ≤ r) (hk : ∀ a vs, H0 a = none → G a = some (.lst vs) → G' a = some (.lst vs)) : Stk K H0 G' lb as bg r' M :=
  ⟨h.lb0, hk _ _ h.lb0 h.lbl, h.inn.keep k le fun a ha vs e => hk a vs (h.inn.fresh a ha).1 e, by have := h.few; omega⟩
section
variable {P : Program} {w : World} {K : PySem.W.Frag} {mg : Str → Option Value} {base : Heap}
theorem Stk.but {C o : Addr} {T : Str} {s : List Nat} {H0 G G' : Hp} {lb : Addr} {as : List Addr} {bg : List (List PyData)} {r r' M : Nat} (h : Stk K H0 G lb as bg r M) (b : Pn.But o G G') (rd : Rd C G o T s) (le : r' ≤ r) : Stk K H0 G' lb as bg r' M :=
  h.keep (tk_but b rd) le fun a vs _ e => b _ _ (fun z => by
    obtain ⟨_, dx, pre, _, eo⟩ := rd
    rw [z, eo] at e
    cases e) e
/-- one more is begun -/
theorem Stk.push {H0 G : Hp} {lb la : Addr} {as : List Addr} {bg : List (List PyData)} {r r' M : Nat} {v : V} {d : PyData} (h : Stk K H0 G lb as bg r M) (n0 : H0 la = none) (nG : G la = none) (hd : Dp K G v d) (td : tpo d = true) (lt : r' < r) (hM : 1 ≤ as.length + 1) (h1 : r ≤ M) :
    Stk K H0 (upd (upd G la (.lst [v])) lb (.lst (as.reverse.map V.ref ++ [.ref la]))) lb (la :: as) ([d] :: bg) r' M := by
  have nl : la ≠ lb := fun z => by rw [z, h.lbl] at nG; cases nG
  have s1 : Same G (upd G la (.lst [v])) := same_new (fun b o e => e) nG _
  have k2 : TK G (upd (upd G la (.lst [v])) lb (.lst (as.reverse.map V.ref ++ [.ref la]))) := (TK.same s1).trans (TK.lst (s1 _ _ h.lbl) _)
  have fr := h.few
  refine ⟨h.lb0, by rw [upd_same, List.reverse_cons, List.map_append]; rfl, ⟨⟨n0, nl, fun z => ?_, [v], by rw [upd_ne nl, upd_same], .cons (tpo_tk k2 _ _ td hd) .nil, by show (tpo d && true) = true; rw [td]; rfl, by show 1 + r' ≤ M; omega⟩, h.inn.keep k2 (Nat.le_of_lt lt) fun a ha vs e => ?_⟩, by rw [List.length_cons]; omega⟩
  · obtain ⟨_, _, vs, e⟩ := h.inn.fresh la z
    rw [nG] at e
    cases e
  · obtain ⟨_, n2, _⟩ := h.inn.fresh a ha
    rw [upd_ne n2]
    exact s1 _ _ e
/-- a part more for what was begun last -/
theorem Stk.more {H0 G : Hp} {lb a : Addr} {as : List Addr} {b : List PyData} {bg : List (List PyData)} {r r' M : Nat} {x : V} {d : PyData} {vs : List V} (h : Stk K H0 G lb (a :: as) (b :: bg) r M) (e : G a = some (.lst vs)) (hd : Dp K G x d) (td : tpo d = true) (lt : r' < r) :
    Stk K H0 (upd G a (.lst (vs ++ [x]))) lb (a :: as) ((b ++ [d]) :: bg) r' M := by
  obtain ⟨⟨h1, h2, h3, vs', h4, h5, h6, h7⟩, h8⟩ := h.inn
  rw [e] at h4
  cases h4
  have k := TK.lst e (.lst (vs ++ [x]))
  have fr := h.few
  refine ⟨h.lb0, by rw [upd_ne (fun z => h2 z.symm)]; exact h.lbl, ⟨⟨h1, h2, h3, vs ++ [x], upd_same, ?_, ?_, by rw [List.length_append, List.length_singleton]; omega⟩, h8.keep k (Nat.le_of_lt lt) fun c hc ws ew => ?_⟩, by omega⟩
  · exact dpAll_app (tpo_tkL k _ _ h6 h5) (.cons (tpo_tk k _ _ td hd) .nil)
  · rw [tpoL_app, h6]
    show (true && (tpo d && true)) = true
    rw [td]
    rfl
  · rw [upd_ne (fun z => h3 (by rw [← z]; exact hc))]
    exact ew
/-- what was begun last goes -/
theorem Stk.pop {H0 G : Hp} {lb a : Addr} {as : List Addr} {b : List PyData} {bg : List (List PyData)} {r r' M : Nat} (h : Stk K H0 G lb (a :: as) (b :: bg) r M) (le : r' ≤ r) : Stk K H0 (upd G lb (.lst (as.reverse.map V.ref))) lb as bg r' M := by
  have k := TK.lst h.lbl (.lst (as.reverse.map V.ref))
  have fr := h.few
  refine ⟨h.lb0, upd_same, h.inn.2.keep k le fun c hc ws ew => ?_, by rw [List.length_cons] at fr; omega⟩
  obtain ⟨_, n2, _⟩ := StkI.fresh h.inn.2 c hc
  rw [upd_ne n2]
  exact ew
end
end Ad

/-! The reader's whole. -/
namespace Ad
open PySem PySem.Spec PySem.Calls PyProof.Rows L2
theorem Rd.len {C o : Addr} {H : Hp} {T : Str} {s : List Nat} (h : Rd C H o T s) : s.length ≤ (Rq.cs T).length ∧ (Rq.cs T).length ≤ 10000000 := by
  obtain ⟨l, dx, pre, e, _⟩ := h
  refine ⟨by rw [e, List.length_append]; omega, ?_⟩
  have : (Rq.cs T).length = T.length := Array.length_toList
  omega
theorem Rd.lst {C o lb : Addr} {H : Hp} {T : Str} {s : List Nat} {vs : List V} (h : Rd C H o T s) (e : H lb = some (.lst vs)) (ho : HO) : Rd C (upd H lb ho) o T s := by
  obtain ⟨l, dx, pre, e1, eo⟩ := h
  exact ⟨l, dx, pre, e1, by rw [upd_ne (fun z => by rw [z, e] at eo; cases eo)]; exact eo⟩
theorem but_none {C o : Addr} {T : Str} {s : List Nat} {H G : Hp} {a : Addr} (b : Pn.But o H G) (rd : Rd C G o T s) (n : G a = none) : H a = none := by
  cases e : H a with
  | none => rfl
  | some u =>
    by_cases z : a = o
    · obtain ⟨_, _, _, _, eo⟩ := rd
      rw [z, eo] at n
      cases n
    · rw [b _ _ z e] at n
      cases n
theorem but_upd {o lb : Addr} {H G : Hp} (b : Pn.But o H G) (n : H lb = none) (x : HO) : Pn.But o H (upd G lb x) := fun c u nc e => by
  rw [upd_ne (fun z => by rw [z, n] at e; cases e)]
  exact b c u nc e
section
variable {P : Program} {w : World} {K : PySem.W.Frag} {mg : Str → Option Value} {base : Heap}
theorem has_use {C o : Addr} {T : Str} {s : List Nat} {σ : L2.St} {H : Hp} {Q : VK} {E : XK} {x : V} {d : PyData} (e : σ[0]? = some (some (.ref o))) (e1 : σ[1]? = some (some x)) (rd : Rd C H o T s) (hd : Dp K H x d) (td : TD d)
    (q : ∀ H', Pn.But o H H' → Rd C H' o T (if Rq.isOne d then Rq.skip s else s) → Q (.bl (Rq.isOne d && Rq.isC 40 (Rq.skip s))) H') : tMeth C "has_arguments" (spHas K C) [] E (tVar 0) (tCons (tVar 1) tNil) σ H Q := by
  obtain ⟨l, dx, pre, e2, eo⟩ := id rd
  exact ⟨.ref o, e, o, dx, _, rfl, eo, rfl, x, e1, o, T, s, x, d, rfl, rd, hd, td, q⟩
theorem one_dp {H : Hp} {x : V} {d : PyData} (h : Dp K H x d) (o : Rq.isOne d = true) : ∃ (t : Addr) (v : V) (e : PyData), d = .tuple [e] ∧ x = .ref t ∧ SqT K H t [v] ∧ Dp K H v e := by
  match d, o, h with
  | .tuple [e], _, h =>
    cases h with
    | @tup t xs _ sq all =>
      cases all with
      | cons h1 h2 =>
        cases h2
        exact ⟨t, _, e, rfl, rfl, sq, h1⟩
theorem scRdWhole : FnScope ["self", "part", "begun"] ["self", "part"] (defScope sRdWhole) := ⟨rfl, rfl, rfl, by decide +kernel, rfl, by decide +kernel, by decide +kernel⟩
theorem ok_rdwhole {gr : List Nat → Rq.Rs PyData} {f C CB fN fT fH fA : Addr} {fd fdN fdT fdH fdA : FuncData} (F : Fun K "whole" "Reader.whole" sRdWhole f fd) (c : RdC K C) (hs : Rq.Suf gr) (hg : ∀ s d r, gr s = .ok d r → TD d)
    (mN : Meth K C "next_sign" fN) (GN : FnOk P w K mg base CX0 2 fN fdN ["self"] (spNext C)) (bN : Binds K fdN ["self"] [])
    (mT : Meth K C "take" fT) (GT : FnOk P w K mg base (L2.CX P w) 3 fT fdT ["self", "sign"] (spTake C CB)) (bT : Binds K fdT ["self", "sign"] [])
    (mH : Meth K C "head" fH) (GH : FnOk P w K mg base (L2.CX P w) 6 fH fdH ["self"] (spGreat K C CB (Rq.head gr))) (bH : Binds K fdH ["self"] [])
    (mA : Meth K C "has_arguments" fA) (GA : FnOk P w K mg base CX0 3 fA fdA ["self", "part"] (spHas K C)) (bA : Binds K fdA ["self", "part"] []) (m_tuple : mg "tuple" = none) :
    FnOk P w K mg base (L2.CX P w) 7 f fd ["self", "part"] (spWhole K C CB gr) := by
  refine F.okX scRdWhole (fun vs H Q E h => ?_) (fun cdv A outer s0 H vs Q E hr h => ?_)
  · obtain ⟨o, T, s, x, d, rfl, _⟩ := h
    rfl
  · obtain ⟨o, T, s, x, d, rfl, rd, hd, td, q⟩ := h
    refine ⟨_, pss_cons (ps_set (i := 2) scRdWhole.nd rfl (.inl rfl) (pe_lst pa_nil))
      (pss_cons (ps_while (passes_of rfl) (PW.pt (pw_or (pt_val (pe_meth (pv 0) c.cls mA GA (hr.mono (by decide)) bA .nil pass0 (pa_cons (pv 1) pa_nil))) (pw_or1 (pt_true (pv 2)))))
        (pss_cons (ps_if (pt_val (pe_meth (pv 0) c.cls mA GA (hr.mono (by decide)) bA .nil pass0 (pa_cons (pv 1) pa_nil)))
          (pss_cons (ps_fldaug (pv 0) pe_int in_add)
          (pss_cons (ps_expr (pe_bm PySem.F.plainAttrs_list PySem.F.slot_list_append PySem.F.type_list_append mt_append (pv 2) (pa_cons (pe_lst (pa_cons (pe_ix ix_tup (pv 1) pe_int (fun _ _ => rfl)) pa_nil)) pa_nil)))
          (pss_cons (ps_set (i := 1) scRdWhole.nd rfl (.inl rfl) (pe_meth0 (pv 0) c.cls mH GH hr bH .nil (passE rfl rfl rfl rfl)))
          (pss_one ps_continue)))) pss_nil)
        (pss_cons (ps_expr (pe_bm PySem.F.plainAttrs_list PySem.F.slot_list_append PySem.F.type_list_append mt_append (pe_ix ix_list (pv 2) (pe_un un_neg pe_int) (fun _ _ => rfl)) (pa_cons (pv 1) pa_nil)))
        (pss_one (ps_if (pt_cmpR op_eq (pe_meth0 (pv 0) c.cls mN GN (hr.mono (by decide)) bN .nil pass0) pe_str (nomark _))
          (pss_cons (ps_fldaug (pv 0) pe_int in_add)
          (pss_one (ps_set (i := 1) scRdWhole.nd rfl (.inl rfl) (pe_callTy call_tuple_of (by rfl) m_tuple (by decide +kernel) (pa_cons (pe_bm0 PySem.F.plainAttrs_list PySem.F.slot_list_pop PySem.F.type_list_pop mt_pop (pv 2)) pa_nil)))))
          (pss_cons (ps_expr (pe_meth (pv 0) c.cls mT GT (hr.mono (by decide)) bT .nil (passE rfl rfl rfl rfl) (pa_cons pe_str pa_nil)))
          (pss_one (ps_set (i := 1) scRdWhole.nd rfl (.inl rfl) (pe_meth0 (pv 0) c.cls mH GH hr bH .nil (passE rfl rfl rfl rfl)))))))))) 
      (pss_one (ps_ret (pv 1)))), ?_⟩
    obtain ⟨lT1, lT2⟩ := rd.len
    refine ⟨by decide, fun lb nb => ?_⟩
    obtain ⟨R, eR⟩ : ∃ R, Rq.wholeL gr (s.length + 1) [] d s = R := ⟨_, rfl⟩
    unfold Rq.whole at q
    rw [eR] at q
    have sm0 := same_new (H := H) (fun b o e => e) nb (.lst [])
    refine while_g (fun n σ G => ∃ bg part s' x as, s'.length < n ∧ Rq.wholeL gr n bg part s' = R ∧ Pn.But o H G ∧ Rd C G o T s' ∧ Dp K G x part ∧ TD part ∧ Stk K H G lb as bg s'.length ((Rq.cs T).length + 1) ∧ σ = [some (.ref o), some x, some (.ref lb)])
      ⟨_, [], d, s, x, [], Nat.lt_succ_self _, eR, But.ofSame sm0, rd.same sm0, dp_same sm0 hd, td, ⟨nb, upd_same, trivial, by show 0 + s.length ≤ _; omega⟩, rfl⟩ ?_ ?_
    · rintro n σ G ⟨bg, part, s', x, as, lt, eR, b, rd', hd, td, st, rfl⟩
      cases n with
      | zero => exact absurd lt (Nat.not_lt_zero _)
      | succ n =>
        rw [Rq.wholeL_step] at eR
        have lsk := (Rq.skip_suf s').length_le
        refine has_use rfl rfl rd' hd td fun H1 b1 rd1 => ⟨_, rfl, ?_⟩
        have bt1 := b.trans b1
        have hd1 := tpo_tk (tk_but b1 rd') _ _ td.1 hd
        cases hb : (Rq.isOne part && Rq.isC 40 (Rq.skip s')) with
        | true =>
          rw [hb, if_pos rfl] at eR
          obtain ⟨ho, h40⟩ := Bool.and_eq_true_iff.mp hb
          rw [ho, if_pos rfl] at rd1
          have st1 := st.but b1 rd' lsk
          refine iteT (iteT (has_use rfl rfl rd1 hd1 td fun H2 b2 rd2 => ⟨_, rfl, ?_⟩))
          rw [ho, if_pos rfl, Rq.skip_skip] at rd2
          rw [ho, Rq.skip_skip, h40]
          have st2 := st1.but b2 rd1 (Nat.le_refl _)
          have hd2 := tpo_tk (tk_but b2 rd1) _ _ td.1 hd1
          have bt2 := bt1.trans b2
          obtain ⟨lT, dx, pre, e0, eo⟩ := id rd2
          have es := Rq.isC_cons h40
          have len40 := Rq.isC_len h40
          rw [es] at e0
          refine iteT ⟨.ref o, rfl, o, C, dx, _, _, rfl, eo, c.cls, c.ns, rfl, _, _, rfl, rfl, dx, _, eo, by show 2 < 1000; decide, ?_⟩
          have rd3 := Rd.step (C := C) (H := H2) (o := o) (dx := dx) lT e0
          have b3 : Pn.But o H2 (upd H2 o (.ins C dx (putF "spot" (.int (((pre.length : Nat) : Int) + 1)) [("text", .str T), ("spot", .int ((pre.length : Nat) : Int))]))) := .upd _ _
          have st3 := st2.but b3 rd2 (Nat.le_refl _)
          have hd3 := tpo_tk (tk_but b3 rd2) _ _ td.1 hd2
          have bt3 := bt2.trans b3
          generalize upd H2 o (.ins C dx (putF "spot" (.int (((pre.length : Nat) : Int) + 1)) [("text", .str T), ("spot", .int ((pre.length : Nat) : Int))])) = H3 at rd3 st3 hd3 bt3 ⊢
          obtain ⟨t, v, e, rfl, rfl, sq, hv⟩ := one_dp hd3 ho
          have tde : tpo e = true := (Bool.and_eq_true_iff.mp (show (tpo e && true) = true from td.1)).1
          have few := st3.few
          refine ⟨_, rfl, .inl ⟨rfl, _, .inl (.inl st3.lbl)⟩, _, rfl, t, [v], 0, v, rfl, rfl, sq, rfl, by show 1 ≤ sizeLine; rw [sizeLine_eq]; decide, fun la nla => ⟨lb, _, _, rfl, rfl, same_new (fun b o e => e) nla _ _ _ st3.lbl, by rw [List.length_map, List.length_reverse, sizeLine_eq]; omega, ?_⟩⟩
          have st4 := st3.push (la := la) (r' := (Rq.skip s').tail.length) (but_none bt3 rd3 nla) nla hv tde (by omega) (by omega) (by omega)
          have sm4 := same_new (H := H3) (fun b o e => e) nla (.lst [v])
          have rd4 := (rd3.same sm4).lst (sm4 _ _ st3.lbl) (.lst (as.reverse.map V.ref ++ [.ref la]))
          have bt4 := but_upd (bt3.trans (But.ofSame sm4)) st3.lb0 (.lst (as.reverse.map V.ref ++ [.ref la]))
          generalize upd (upd H3 la (.lst [v])) lb (.lst (as.reverse.map V.ref ++ [.ref la])) = H4 at rd4 st4 bt4 ⊢
          obtain ⟨lT4, dx4, pre4, e4, eo4⟩ := id rd4
          refine ⟨.ref o, rfl, o, dx4, _, rfl, eo4, rfl, o, T, _, rfl, rd4, ?_⟩
          have q4 := After.before bt4 q
          rw [← eR] at q4
          refine q4.bindTo (fun p r v5 H5 eh b5 rd5 rp _ => ?_)
          have suf := Rq.suf_head hs (Rq.skip s').tail
          rw [eh] at suf eR
          have l5 := (show r <:+ (Rq.skip s').tail from suf).length_le
          exact ⟨n, Nat.lt_succ_self n, _, p, r, v5, la :: as, by omega, eR, bt4.trans b5, rd5, rp, head_td hg eh, st4.but b5 rd4 l5, rfl⟩
        | false =>
          rw [hb, if_neg Bool.false_ne_true] at eR
          have l1 : (if Rq.isOne part = true then Rq.skip s' else s').length ≤ s'.length := by
            split
            · exact lsk
            · exact Nat.le_refl _
          have sk1 : Rq.skip (if Rq.isOne part = true then Rq.skip s' else s') = Rq.skip s' := by
            split
            · exact Rq.skip_skip s'
            · rfl
          have st1 := st.but b1 rd' l1
          refine iteF ⟨_, rfl, _, .inl ⟨_, .inl (.inl st1.lbl), rfl⟩, ?_⟩
          match as, bg, st1, eR with
          | [], [], st1, eR =>
            subst eR
            exact iteF ⟨_, rfl, After.fin (After.before bt1 q) (.refl _ _) rd1 hd1⟩
          | [], _ :: _, st1, _ => exact st1.inn.elim
          | _ :: _, [], st1, _ => exact st1.inn.elim
          | a :: as, b0 :: bg, st1, eR =>
            have nz : (!((a :: as).reverse.map V.ref).isEmpty) = true := by simp
            rw [nz]
            refine iteT (has_use rfl rfl rd1 hd1 td fun H2 b2 rd2 => ⟨_, rfl, ?_⟩)
            rw [sk1] at rd2 ⊢
            rw [hb]
            have l2 : (if Rq.isOne part = true then Rq.skip s' else (if Rq.isOne part = true then Rq.skip s' else s')).length ≤ (if Rq.isOne part = true then Rq.skip s' else s').length := by
              cases Rq.isOne part with
              | true => exact Nat.le_refl _
              | false => exact Nat.le_refl _
            have sk2 : Rq.skip (if Rq.isOne part = true then Rq.skip s' else (if Rq.isOne part = true then Rq.skip s' else s')) = Rq.skip s' := by
              cases Rq.isOne part with
              | true => exact Rq.skip_skip s'
              | false => rfl
            have st2 := st1.but b2 rd1 l2
            have hd2 := tpo_tk (tk_but b2 rd1) _ _ td.1 hd1
            have bt2 := bt1.trans b2
            generalize (if Rq.isOne part = true then Rq.skip s' else (if Rq.isOne part = true then Rq.skip s' else s')) = s2 at rd2 st2 sk2 l2
            obtain ⟨⟨h1, h2, h3, vs, h4, h5, h6, h7⟩, h8⟩ := st2.inn
            have eL : H2 lb = some (.lst (as.reverse.map V.ref ++ [.ref a])) := by
              rw [st2.lbl, List.reverse_cons, List.map_append]
              rfl
            refine iteF ⟨_, rfl, _, rfl, lb, _, -1, .ref a, rfl, rfl, .inl (.inl eL), atI_last _ _, .inl ⟨rfl, _, .inl (.inl h4)⟩, _, rfl, a, vs, x, rfl, rfl, h4, by rw [sizeLine_eq]; omega, ?_⟩
            have rd3 := rd2.lst h4 (.lst (vs ++ [x]))
            have bt3 := but_upd bt2 h1 (.lst (vs ++ [x]))
            have st3 : ∀ {r' : Nat}, r' < s2.length → Stk K H (upd H2 a (.lst (vs ++ [x]))) lb (a :: as) ((b0 ++ [part]) :: bg) r' ((Rq.cs T).length + 1) := fun lt => st2.more h4 hd2 td.1 lt
            have all3 : (upd H2 a (.lst (vs ++ [x]))) a = some (.lst (vs ++ [x])) := upd_same
            have k3 := TK.lst h4 (.lst (vs ++ [x]))
            have d3 : DpAll K (upd H2 a (.lst (vs ++ [x]))) (vs ++ [x]) (b0 ++ [part]) := dpAll_app (tpo_tkL k3 _ _ h6 h5) (.cons (tpo_tk k3 _ _ td.1 hd2) .nil)
            have tp3 : tpoL (b0 ++ [part]) = true := by
              rw [tpoL_app, h6]
              show (true && (tpo part && true)) = true
              rw [td.1]
              rfl
            generalize upd H2 a (.lst (vs ++ [x])) = H3 at rd3 bt3 st3 all3 d3 ⊢
            obtain ⟨lT3, dx3, pre3, e3, eo3⟩ := id rd3
            refine ⟨.ref o, rfl, o, dx3, _, rfl, eo3, rfl, o, T, s2, rfl, rd3, fun H4 b4 rd4 => ?_⟩
            rw [sk2] at rd4
            have lk2 : (Rq.skip s').length ≤ s2.length := by
              rw [← sk2]
              exact (Rq.skip_suf s2).length_le
            rw [sk2]
            refine ⟨rfl, _, congrArg V.bl (sg_eq 41 (Rq.skip s')), ?_⟩
            have bt4 := bt3.trans b4
            have k4 := tk_but b4 rd3
            cases h41 : Rq.isC 41 (Rq.skip s') with
            | true =>
              have eR : (if Rq.isC 41 (Rq.skip s') = true then Rq.wholeL gr n bg (PyData.tuple (b0 ++ [part])) (Rq.skip s').tail else (Rq.takeC 44 (Rq.skip s')).bind fun _ r => (Rq.head gr r).bind fun p r2 => Rq.wholeL gr n ((b0 ++ [part]) :: bg) p r2) = R := eR
              rw [h41, if_pos rfl] at eR
              obtain ⟨lT, dx, pre, e0, eo⟩ := id rd4
              have es := Rq.isC_cons h41
              have len41 := Rq.isC_len h41
              rw [es] at e0
              refine iteT ⟨.ref o, rfl, o, C, dx, _, _, rfl, eo, c.cls, c.ns, rfl, _, _, rfl, rfl, dx, _, eo, by show 2 < 1000; decide, ?_⟩
              have rd5 := Rd.step (C := C) (H := H4) (o := o) (dx := dx) lT e0
              have b5 : Pn.But o H4 (upd H4 o (.ins C dx (putF "spot" (.int (((pre.length : Nat) : Int) + 1)) [("text", .str T), ("spot", .int ((pre.length : Nat) : Int))]))) := .upd _ _
              have st5 := ((st3 (r' := (Rq.skip s').tail.length) (by omega)).but b4 rd3 (Nat.le_refl _)).but b5 rd4 (Nat.le_refl _)
              have bt5 := bt4.trans b5
              have k5 := k4.trans (tk_but b5 rd4)
              generalize upd H4 o (.ins C dx (putF "spot" (.int (((pre.length : Nat) : Int) + 1)) [("text", .str T), ("spot", .int ((pre.length : Nat) : Int))])) = H5 at rd5 st5 bt5 k5 ⊢
              obtain ⟨⟨g1, g2, g3, ws, g4, g5, g6, g7⟩, g8⟩ := st5.inn
              have eL5 : H5 lb = some (.lst (as.reverse.map V.ref ++ [.ref a])) := by
                rw [st5.lbl, List.reverse_cons, List.map_append]
                rfl
              refine ⟨_, rfl, .inl ⟨rfl, _, .inl (.inl eL5)⟩, lb, _, .ref a, rfl, rfl, eL5, by simp, ?_⟩
              rw [List.dropLast_concat]
              have st6 := st5.pop (Nat.le_refl _)
              have k6 := TK.lst eL5 (.lst (as.reverse.map V.ref))
              have rd6 := rd5.lst eL5 (.lst (as.reverse.map V.ref))
              have bt6 := but_upd bt5 st5.lb0 (.lst (as.reverse.map V.ref))
              have g46 : (upd H5 lb (.lst (as.reverse.map V.ref))) a = some (.lst ws) := by
                rw [upd_ne g2]
                exact g4
              have g56 := tpo_tkL k6 _ _ g6 g5
              generalize upd H5 lb (.lst (as.reverse.map V.ref)) = H6 at st6 rd6 bt6 g46 g56 ⊢
              refine ⟨a, ws, rfl, .inl ⟨.inl (.inl g46), fun tp ntp => ?_⟩⟩
              have sm7 := same_new (H := H6) (fun b o e => e) ntp (.tup ws)
              exact ⟨n, Nat.lt_succ_self n, bg, .tuple (b0 ++ [part]), _, _, as, by omega, eR, bt6.trans (But.ofSame sm7), rd6.same sm7, .tup (.inl (.inl upd_same)) (dpAll_same sm7 g56), ⟨tp3, .inr ⟨_, rfl⟩⟩, st6.keep (TK.same sm7) (Nat.le_refl _) (fun a vs _ e => sm7 _ _ e), rfl⟩
            | false =>
              have eR : (if Rq.isC 41 (Rq.skip s') = true then Rq.wholeL gr n bg (PyData.tuple (b0 ++ [part])) (Rq.skip s').tail else (Rq.takeC 44 (Rq.skip s')).bind fun _ r => (Rq.head gr r).bind fun p r2 => Rq.wholeL gr n ((b0 ++ [part]) :: bg) p r2) = R := eR
              rw [h41, if_neg Bool.false_ne_true] at eR
              obtain ⟨lT4, dx4, pre4, e4, eo4⟩ := id rd4
              refine iteF ⟨.ref o, rfl, o, dx4, _, rfl, eo4, rfl, o, T, _, 44, rfl, rd4, ?_⟩
              have q4 := After.before bt4 q
              rw [← eR] at q4
              refine q4.bindTo (fun u r5 v5 H5 et b5 rd5 _ q5 => ?_)
              rw [et, Rq.bind_ok] at eR
              have suf5 := Rq.suf_take 44 (Rq.skip s')
              rw [et] at suf5
              have l5 := (show r5 <:+ Rq.skip s' from suf5).length_le
              have l5' : r5.length < (Rq.skip s').length := by
                cases ek : Rq.skip s' with
                | nil => rw [ek] at et; cases et
                | cons d1 s1 =>
                  rw [ek] at et
                  have et : (if d1 = 44 then Rq.Rs.ok () s1 else Rq.Rs.bad (d1 :: s1)) = Rq.Rs.ok u r5 := et
                  by_cases hd1 : d1 = 44
                  · rw [if_pos hd1] at et
                    have : s1 = r5 := by injection et
                    rw [← this, List.length_cons]
                    omega
                  · rw [if_neg hd1] at et
                    cases et
              obtain ⟨lT5, dx5, pre5, e5, eo5⟩ := id rd5
              refine ⟨.ref o, rfl, o, dx5, _, rfl, eo5, rfl, o, T, r5, rfl, rd5, ?_⟩
              refine After.bindTo (r := Rq.head gr r5) q5 (fun p r v6 H6 eh b6 rd6 rp _ => ?_)
              have suf := Rq.suf_head hs r5
              rw [eh] at suf eR
              have l6 := (show r <:+ r5 from suf).length_le
              exact ⟨n, Nat.lt_succ_self n, _, p, r, v6, a :: as, by omega, eR, (bt4.trans b5).trans b6, rd6, rp, head_td hg eh, (((st3 (r' := r5.length) (by omega)).but b4 rd3 (Nat.le_refl _)).but b5 rd4 (Nat.le_refl _)).but b6 rd5 l6, rfl⟩
    · rintro σ G Q1 Q2 h ⟨x, e, a, dx, fs, ex, ea, l, v1, e1, o, T, s, y, d, ev, rd, hd, td, ask⟩
      refine ⟨x, e, a, dx, fs, ex, ea, l, v1, e1, o, T, s, y, d, ev, rd, hd, td, fun H' b rd' => ?_⟩
      obtain ⟨k, ek, ask⟩ := ask H' b rd'
      refine ⟨k, ek, ?_⟩
      cases k with
      | true => exact iteT (h _ _ ask)
      | false =>
        obtain ⟨x2, e2, k2, t2, ask⟩ := ask
        exact iteF ⟨x2, e2, k2, t2, h _ _ ask⟩
end
end Ad

/-! The reader of clauses: great names, sides. -/
namespace Ad
open PySem PySem.Spec PySem.Calls PyProof.Rows L2
theorem run_facts {S : List Nat} {m : Nat} : ∀ {s : List Nat}, (∀ c ∈ (Rq.runP S m s).1, S.contains c = true) ∧ (Rq.runP S m s).1.length ≤ m := by
  induction m with
  | zero =>
    intro s
    have e : Rq.runP S 0 s = ([], s) := by cases s <;> rfl
    rw [e]
    exact ⟨fun c h => (by cases h), Nat.le_refl _⟩
  | succ m ih =>
    intro s
    cases s with
    | nil => exact ⟨fun c h => (by cases h), Nat.zero_le _⟩
    | cons d s =>
      by_cases h : S.contains d = true
      · have e : Rq.runP S (m + 1) (d :: s) = (d :: (Rq.runP S m s).1, (Rq.runP S m s).2) := runP_at h
        rw [e]
        refine ⟨fun c hc => ?_, ?_⟩
        · rcases List.mem_cons.mp hc with rfl | hc
          · exact h
          · exact (ih (s := s)).1 c hc
        · rw [List.length_cons]
          exact Nat.succ_le_succ (ih (s := s)).2
      · have e : Rq.runP S (m + 1) (d :: s) = ([], d :: s) := runP_no (.inl (by
          show S.contains d = false
          cases z : S.contains d with
          | false => rfl
          | true => exact absurd z h))
        rw [e]
        exact ⟨fun c hc => (by cases hc), Nat.zero_le _⟩
theorem run_ok_facts {S : List Nat} {m : Nat} {s r : List Nat} {w : Str} (h : Rq.run S m s = .ok w r) : (∀ c ∈ Rq.cs w, S.contains c = true) ∧ (Rq.cs w).length ≤ m ∧ (Rq.isAt S s = true → 1 ≤ m → Rq.cs w ≠ []) := by
  unfold Rq.run at h
  have f := run_facts (S := S) (m := m) (s := s)
  split at h
  · cases h
  · cases h
    refine ⟨f.1, f.2, fun at1 m1 e => ?_⟩
    cases s with
    | nil => cases at1
    | cons d s =>
      cases m with
      | zero => exact absurd m1 (by decide)
      | succ m =>
        have e2 : Rq.runP S (m + 1) (d :: s) = (d :: (Rq.runP S m s).1, (Rq.runP S m s).2) := runP_at at1
        rw [e2] at e
        cases e
theorem int_run {w : Str} (h1 : ∀ c ∈ Rq.cs w, (Rq.cs Rq.DIGITS).contains c = true) (h2 : (Rq.cs w).length ≤ 10) (h3 : Rq.cs w ≠ []) : intText? w = some ((Rq.digV (Rq.cs w) : Nat) : Int) ∧ w.length ≤ 640 := by
  have len : w.length = (Rq.cs w).length := (Array.length_toList).symm
  refine ⟨PySem.intText_digits (fun c hc => ?_) h3 (by omega), by omega⟩
  have k : ((Rq.cs Rq.DIGITS).all fun c => decide (48 ≤ c ∧ c ≤ 57)) = true := by decide +kernel
  exact of_decide_eq_true (List.all_eq_true.mp k c (List.contains_iff_mem.mp (h1 c hc)))
section
variable {P : Program} {w : World} {K : PySem.W.Frag} {mg : Str → Option Value} {base : Heap}
theorem scCrGreat : FnScope ["self"] ["self"] (defScope sCrGreat) := ⟨rfl, rfl, rfl, by decide +kernel, rfl, by decide +kernel, by decide +kernel⟩
theorem ok_crgreat {f C CB fT fA fR fS fE : Addr} {fd fdT fdA fdR fdS fdE : FuncData} (F : Fun K "great" "ClauseReader.great" sCrGreat f fd) (c : RdC K C)
    (mT : Meth K C "take" fT) (GT : FnOk P w K mg base (L2.CX P w) 3 fT fdT ["self", "sign"] (spTake C CB)) (bT : Binds K fdT ["self", "sign"] [])
    (mA : Meth K C "is_at" fA) (GA : FnOk P w K mg base CX0 2 fA fdA ["self", "signs"] (spIsAt C)) (bA : Binds K fdA ["self", "signs"] [])
    (mR : Meth K C "run" fR) (GR : FnOk P w K mg base (L2.CX P w) 4 fR fdR ["self", "signs", "most"] (spRun C CB)) (bR : Binds K fdR ["self", "signs", "most"] [])
    (mS : Meth K C "sign" fS) (GS : FnOk P w K mg base CX0 1 fS fdS ["self"] (spSign C)) (bS : Binds K fdS ["self"] []) (B : BtF P w K mg base CB fE fdE)
    (gD : Gs mg "DIGITS" (.str Rq.DIGITS)) (gM : Gs mg "MOST_DIGITS" (.int 7)) (m_int : mg "int" = none) :
    FnOk P w K mg base (L2.CX P w) 5 f fd ["self"] (spGreat K C CB Rq.greatC) := by
  refine F.okX scCrGreat (fun vs H Q E h => ?_) (fun cdv A outer s0 H vs Q E hr h => ?_)
  · obtain ⟨o, T, s, rfl, _⟩ := h
    rfl
  · obtain ⟨o, T, s, rfl, rd, q⟩ := h
    obtain ⟨uD, gD, rD⟩ := gD
    obtain ⟨uM, gM, rM⟩ := gM
    refine ⟨_, pss_cons (ps_expr (pe_meth (pv 0) c.cls mT GT (hr.mono (by decide)) bT .nil (passE rfl rfl rfl rfl) (pa_cons pe_str pa_nil)))
      (pss_cons (ps_if (pt_not (pt_val (pe_meth (pv 0) c.cls mA GA (hr.mono (by decide)) bA .nil pass0 (pa_cons (pe_glob (v := .str Rq.DIGITS) (by rfl) gD rD) pa_nil))))
        (pss_one (ps_raise rfl (takes_of rfl rfl rfl rfl) (pmk_oex B.T.ox B.T.ini B.T.tI B.G (hr.mono (by decide)) B.b .nil pass0 (by rfl) B.g (pa_cons (pe_op op_add (pe_fld (pv 0) rfl) pe_int) pa_nil)))) pss_nil)
      (pss_one (ps_ret (pe_callTy call_int_str (by rfl) m_int (by decide +kernel) (pa_cons (pe_meth (pv 0) c.cls mR GR hr bR .nil (passE rfl rfl rfl rfl) (pa_cons (pe_glob (v := .str Rq.DIGITS) (by rfl) gD rD) (pa_cons (pe_ifExp (pt_cmpR op_eq (pe_meth0 (pv 0) c.cls mS GS (hr.mono (by decide)) bS .nil pass0) pe_str (nomark _)) pe_int (pe_glob (v := .int 7) (by rfl) gM rM)) pa_nil))) pa_nil))))), ?_⟩
    obtain ⟨lT, dx, pre, e0, eo⟩ := id rd
    refine ⟨.ref o, rfl, o, dx, _, rfl, eo, rfl, o, T, s, 88, rfl, rd, ?_⟩
    unfold Rq.greatC at q
    refine q.bindTo (fun u r v H1 _ b1 rd1 _ q1 => ?_)
    refine isat_use rfl (fun Q' q => q) rd1 ⟨_, rfl, ?_⟩
    cases h : Rq.isAt (Rq.cs Rq.DIGITS) r with
    | false =>
      rw [h, if_neg Bool.false_ne_true] at q1
      exact iteT (throwB c rfl rd1 (.refl _ _) q1)
    | true =>
      rw [h, if_pos rfl, Rq.map_bind] at q1
      obtain ⟨lT1, dx1, pre1, e1, eo1⟩ := id rd1
      have go : ∀ (m : Nat) (x : V), x = .int ((m : Nat) : Int) → 1 ≤ m → m ≤ 10 → After C CB o T (repD K) ((Rq.run (Rq.cs Rq.DIGITS) m r).bind fun w s => .ok (.int ((Rq.digV (Rq.cs w) : Nat) : Int)) s) H1 Q E → spRun C CB [.ref o, .str Rq.DIGITS, x] H1 (fun x1 H2 => ∃ a n, [x1] = [V.str a] ∧ PySem.intText? a = some n ∧ a.length ≤ 640 ∧ Q (.int n) H2) E := fun m x ex m1 m2 qq => by
        refine ⟨o, T, r, Rq.DIGITS, m, by rw [ex], rd1, qq.bindTo (fun wd r2 v2 H2 er b2 rd2 rp q2 => ?_)⟩
        cases rp
        obtain ⟨f1, f2, f3⟩ := run_ok_facts er
        obtain ⟨g1, g2⟩ := int_run f1 (by omega) (f3 h m1)
        exact ⟨wd, _, rfl, g1, g2, q2.fin (.refl _ _) rd2 (.int _)⟩
      refine iteF ⟨.ref o, rfl, o, dx1, _, rfl, eo1, rfl, sign_use rfl rd1 ⟨rfl, _, congrArg V.bl (sg_eq 48 r), ?_⟩⟩
      cases h0 : Rq.isC 48 r with
      | true =>
        rw [h0] at q1
        exact iteT (go 1 _ rfl (by decide) (by decide) q1)
      | false =>
        rw [h0] at q1
        exact iteF (go 7 _ rfl (by decide) (by decide) q1)
end
end Ad

/-! The reader of clauses: sides and equations. -/
namespace Ad
open PySem PySem.Spec PySem.Calls PyProof.Rows L2
theorem great_td : ∀ (s : List Nat) (d : PyData) (r : List Nat), Rq.greatC s = .ok d r → TD d := fun s d r h => by
  unfold Rq.greatC at h
  cases e : Rq.takeC 88 s with
  | bad t => rw [e] at h; cases h
  | ok u t =>
    rw [e, Rq.bind_ok] at h
    split at h
    · rw [Rq.map_bind] at h
      cases e2 : Rq.run (Rq.cs Rq.DIGITS) (if Rq.isC 48 t = true then 1 else 7) t with
      | bad t2 => rw [e2] at h; cases h
      | ok w t2 =>
        rw [e2] at h
        cases h
        exact ⟨rfl, .inl ⟨_, rfl⟩⟩
    · cases h
theorem name1_tpo {d : PyData} (h : TD d) : tpoL (Rq.nameD1 d) = true := by
  obtain ⟨h1, ⟨n, rfl⟩ | ⟨l, rfl⟩⟩ := h
  · rfl
  · cases l with
    | nil => rfl
    | cons x l =>
      have := (Bool.and_eq_true_iff.mp (show (tpo x && tpoL l) = true from h1)).1
      show (tpo x && true) = true
      rw [this]
      rfl
theorem wholeL_td {gr : List Nat → Rq.Rs PyData} (hg : ∀ s d r, gr s = .ok d r → TD d) : ∀ (f : Nat) (bg : List (List PyData)) (part : PyData) (s : List Nat) (d : PyData) (r : List Nat), TD part → (∀ b ∈ bg, tpoL b = true) → Rq.wholeL gr f bg part s = .ok d r → TD d
  | 0, _, _, _, _, _, _, _, h => by cases h
  | f + 1, bg, part, s, d, r, tp, hb, h => by
    have go : ∀ {bg' : List (List PyData)} {t : List Nat}, (∀ b ∈ bg', tpoL b = true) → ((Rq.head gr t).bind fun p r => Rq.wholeL gr f bg' p r) = .ok d r → TD d := fun {bg' t} hb' h => by
      cases e : Rq.head gr t with
      | bad t2 => rw [e] at h; cases h
      | ok p t2 =>
        rw [e] at h
        exact wholeL_td hg f bg' p t2 d r (head_td hg e) hb' h
    rw [Rq.wholeL_step] at h
    split at h
    · exact go (fun b m => by
        rcases List.mem_cons.mp m with rfl | m
        · exact name1_tpo tp
        · exact hb b m) h
    · cases bg with
      | nil =>
        cases h
        exact tp
      | cons b bs =>
        have t1 : tpoL (b ++ [part]) = true := by
          rw [tpoL_app, hb b List.mem_cons_self]
          show (true && (tpo part && true)) = true
          rw [tp.1]
          rfl
        have h : (if Rq.isC 41 (Rq.skip s) = true then Rq.wholeL gr f bs (.tuple (b ++ [part])) (Rq.skip s).tail else (Rq.takeC 44 (Rq.skip s)).bind fun _ r => (Rq.head gr r).bind fun p r2 => Rq.wholeL gr f ((b ++ [part]) :: bs) p r2) = .ok d r := h
        split at h
        · exact wholeL_td hg f bs (.tuple (b ++ [part])) _ d r ⟨show tpo (.tuple (b ++ [part])) = true from t1, .inr ⟨_, rfl⟩⟩ (fun c m => hb c (List.mem_cons_of_mem _ m)) h
        · cases e : Rq.takeC 44 (Rq.skip s) with
          | bad t2 => rw [e] at h; cases h
          | ok u t2 =>
            rw [e, Rq.bind_ok] at h
            exact go (fun c m => by
              rcases List.mem_cons.mp m with rfl | m
              · exact t1
              · exact hb c (List.mem_cons_of_mem _ m)) h
theorem sideB_td {w : Str} {s : List Nat} {d : PyData} {r : List Nat} (h : Rq.sideB w s = .ok d r) : TD d := by
  unfold Rq.sideB at h
  split at h
  · cases h
    exact ⟨rfl, .inr ⟨_, rfl⟩⟩
  · cases e : Rq.nameOf w s with
    | bad t => rw [e] at h; cases h
    | ok u t =>
      rw [e, Rq.bind_ok] at h
      exact wholeL_td great_td _ _ _ _ _ _ ⟨rfl, .inr ⟨_, rfl⟩⟩ (fun b m => absurd m List.not_mem_nil) h
theorem side_td {s : List Nat} {d : PyData} {r : List Nat} (h : Rq.side s = .ok d r) : TD d := by
  unfold Rq.side at h
  split at h
  · exact great_td _ _ _ h
  · cases e : Rq.smallW (Rq.skip s) with
    | bad t => rw [e] at h; cases h
    | ok u t =>
      rw [e, Rq.bind_ok] at h
      exact sideB_td h
def spSideB (K : PySem.W.Frag) (C CB : Addr) : Sp := fun vs H Q E => ∃ (o : Addr) (T : Str) (s : List Nat) (w : Str), vs = [.ref o, .str w] ∧ Rd C H o T s ∧ After C CB o T (repD K) (Rq.sideB w s) H Q E
def spEqn (K : PySem.W.Frag) (C CB : Addr) : Sp := fun vs H Q E => ∃ (o : Addr) (T : Str) (s : List Nat) (x : V) (l : PyData), vs = [.ref o, x] ∧ Rd C H o T s ∧ Dp K H x l ∧ TD l ∧ After C CB o T (repD K) (Rq.equation l s) H Q E
def spEndT (C CB : Addr) : Sp := fun vs H Q E => ∃ (o : Addr) (T : Str) (s : List Nat), vs = [.ref o] ∧ Rd C H o T s ∧ After C CB o T repN (Rq.endText s) H Q E
theorem rd_ins {C o : Addr} {H : Hp} {T : Str} {s : List Nat} (h : Rd C H o T s) : ∃ dx i, H o = some (.ins C dx [("text", .str T), ("spot", .int i)]) := by
  obtain ⟨_, dx, pre, _, eo⟩ := h
  exact ⟨dx, _, eo⟩
section
variable {P : Program} {w : World} {K : PySem.W.Frag} {mg : Str → Option Value} {base : Heap}
/-- a call without arguments by slot 0 -/
theorem call0 {C o : Addr} {m : Str} {T : Str} {s : List Nat} {sp : Sp} {σ : L2.St} {H : Hp} {Q : VK} {E : XK} (e : σ[0]? = some (some (.ref o))) (rd : Rd C H o T s) (nm : ∀ i : Int, ([("text", V.str T), ("spot", V.int i)] : List (Str × V)).lookup m = none) (q : sp [.ref o] H Q E) : tMeth C m sp [] E (tVar 0) tNil σ H Q := by
  obtain ⟨dx, i, eo⟩ := rd_ins rd
  exact ⟨.ref o, e, o, dx, _, rfl, eo, nm i, q⟩
theorem next_use {C o : Addr} {T : Str} {s : List Nat} {σ : L2.St} {H : Hp} {Q : VK} {E : XK} (e : σ[0]? = some (some (.ref o))) (rd : Rd C H o T s) (q : ∀ H', Pn.But o H H' → Rd C H' o T (Rq.skip s) → Q (.str (sg (Rq.skip s))) H') : tMeth C "next_sign" (spNext C) [] E (tVar 0) tNil σ H Q :=
  call0 e rd (fun _ => rfl) ⟨o, T, s, rfl, rd, q⟩
/-- self.spot += 1 -/
theorem step_use {C o : Addr} {T : Str} {s : List Nat} {c : Nat} {σ : L2.St} {H : Hp} {D : Ends} (hc : RdC K C) (e : σ[0]? = some (some (.ref o))) (rd : Rd C H o T s) (h : Rq.isC c s = true) (q : ∀ H', Pn.But o H H' → Rd C H' o T s.tail → D.nx σ H') : sFldAug K (tVar 0) (tC (.int 1)) rAdd "spot" D σ H := by
  obtain ⟨lT, dx, pre, e0, eo⟩ := id rd
  rw [Rq.isC_cons h] at e0
  exact ⟨.ref o, e, o, C, dx, _, _, rfl, eo, hc.cls, hc.ns, rfl, _, _, rfl, rfl, dx, _, eo, by show 2 < 1000; decide, q _ (.upd _ _) (Rd.step lT e0)⟩
theorem scCrSideB : FnScope ["self", "word"] ["self", "word"] (defScope sCrSideB) := ⟨rfl, rfl, rfl, by decide +kernel, rfl, by decide +kernel, by decide +kernel⟩
theorem ok_crsideb {f C CB yA fM fW : Addr} {fd fdM fdW : FuncData} (F : Fun K "side_behind" "ClauseReader.side_behind" sCrSideB f fd) (c : RdC K C)
    (mM : Meth K C "name_of" fM) (GM : FnOk P w K mg base (L2.CX P w) 3 fM fdM ["self", "word"] (spNameOf C CB)) (bM : Binds K fdM ["self", "word"] [])
    (mW : Meth K C "whole" fW) (GW : FnOk P w K mg base (L2.CX P w) 7 fW fdW ["self", "part"] (spWhole K C CB Rq.greatC)) (bW : Binds K fdW ["self", "part"] []) (gY : mg "YES" = some (.ref yA)) (hY : ∀ H, SqT K H yA [.str "yes"]) :
    FnOk P w K mg base (L2.CX P w) 8 f fd ["self", "word"] (spSideB K C CB) := by
  refine F.okX scCrSideB (fun vs H Q E h => ?_) (fun cdv A outer s0 H vs Q E hr h => ?_)
  · obtain ⟨o, T, s, wd, rfl, _⟩ := h
    rfl
  · obtain ⟨o, T, s, wd, rfl, rd, q⟩ := h
    refine ⟨_, pss_one (ps_ret (pe_ifExp (pt_cmpR op_eq (pv 1) pe_str (nomark _)) (pe_glob (v := .ref yA) (by rfl) gY rfl)
      (pe_meth (pv 0) c.cls mW GW hr bW .nil (passE rfl rfl rfl rfl) (pa_cons (pe_tup (pa_cons (pe_meth (pv 0) c.cls mM GM (hr.mono (by decide)) bM .nil (passE rfl rfl rfl rfl) (pa_cons (pv 1) pa_nil)) pa_nil)) pa_nil)))), ?_⟩
    unfold Rq.sideB at q
    obtain ⟨dx, i, eo⟩ := rd_ins rd
    by_cases h : wd = "yes"
    · subst h
      rw [if_pos rfl] at q
      exact ⟨_, rfl, rfl, _, congrArg V.bl (decide_eq_true rfl), iteT (q.fin (.refl _ _) rd (.tup (hY H) (.cons (.str _) .nil)))⟩
    · rw [if_neg h] at q
      refine ⟨_, rfl, rfl, _, congrArg V.bl (decide_eq_false (fun z => h (by injection z))), iteF ⟨.ref o, rfl, o, dx, _, rfl, eo, rfl, .ref o, rfl, o, dx, _, rfl, eo, rfl, _, rfl, o, T, s, wd, rfl, rd, q.bindTo (fun w2 r v H2 _ b2 rd2 rp q2 => ?_)⟩⟩
      cases rp
      refine ⟨by show 1 ≤ sizeLine; rw [sizeLine_eq]; decide, fun t nt => ?_⟩
      have sm := same_new (H := H2) (fun b o e => e) nt (.tup [.str w2])
      exact ⟨o, T, r, .ref t, .tuple [.str w2], rfl, rd2.same sm, .tup (.inl (.inl upd_same)) (.cons (.str _) .nil), ⟨rfl, .inr ⟨_, rfl⟩⟩, q2.before (But.ofSame sm)⟩
theorem scCrSide : FnScope ["self"] ["self"] (defScope sCrSide) := ⟨rfl, rfl, rfl, by decide +kernel, rfl, by decide +kernel, by decide +kernel⟩
theorem ok_crside {f C CB fN fA fG fS fB : Addr} {fd fdN fdA fdG fdS fdB : FuncData} (F : Fun K "side" "ClauseReader.side" sCrSide f fd) (c : RdC K C) (mN : Meth K C "next_sign" fN) (GN : FnOk P w K mg base CX0 2 fN fdN ["self"] (spNext C)) (bN : Binds K fdN ["self"] [])
    (mA : Meth K C "is_at" fA) (GA : FnOk P w K mg base CX0 2 fA fdA ["self", "signs"] (spIsAt C)) (bA : Binds K fdA ["self", "signs"] []) (mG : Meth K C "great" fG) (GG : FnOk P w K mg base (L2.CX P w) 5 fG fdG ["self"] (spGreat K C CB Rq.greatC)) (bG : Binds K fdG ["self"] [])
    (mS : Meth K C "small_word" fS) (GS : FnOk P w K mg base (L2.CX P w) 5 fS fdS ["self"] (spSmall C CB)) (bS : Binds K fdS ["self"] []) (mB : Meth K C "side_behind" fB) (GB : FnOk P w K mg base (L2.CX P w) 8 fB fdB ["self", "word"] (spSideB K C CB)) (bB : Binds K fdB ["self", "word"] []) (gU : Gs mg "UPPER" (.str Rq.UPPER)) :
    FnOk P w K mg base (L2.CX P w) 9 f fd ["self"] (spGreat K C CB Rq.side) := by
  refine F.okX scCrSide (fun vs H Q E h => ?_) (fun cdv A outer s0 H vs Q E hr h => ?_)
  · obtain ⟨o, T, s, rfl, _⟩ := h
    rfl
  · obtain ⟨o, T, s, rfl, rd, q⟩ := h
    obtain ⟨uU, gU, rU⟩ := gU
    refine ⟨_, pss_cons (ps_expr (pe_meth0 (pv 0) c.cls mN GN (hr.mono (by decide)) bN .nil pass0))
      (pss_one (ps_ret (pe_ifExp (pt_val (pe_meth (pv 0) c.cls mA GA (hr.mono (by decide)) bA .nil pass0 (pa_cons (pe_glob (v := .str Rq.UPPER) (by rfl) gU rU) pa_nil)))
        (pe_meth0 (pv 0) c.cls mG GG (hr.mono (by decide)) bG .nil (passE rfl rfl rfl rfl))
        (pe_meth (pv 0) c.cls mB GB hr bB .nil (passE rfl rfl rfl rfl) (pa_cons (pe_meth0 (pv 0) c.cls mS GS (hr.mono (by decide)) bS .nil (passE rfl rfl rfl rfl)) pa_nil))))), ?_⟩
    refine next_use rfl rd fun H1 b1 rd1 => isat_use rfl (fun Q' q => q) rd1 ⟨_, rfl, ?_⟩
    have q := q.before b1
    unfold Rq.side at q
    obtain ⟨dx1, i1, eo1⟩ := rd_ins rd1
    cases h : Rq.isAt (Rq.cs Rq.UPPER) (Rq.skip s) with
    | true =>
      rw [h, if_pos rfl] at q
      exact iteT (call0 rfl rd1 (fun _ => rfl) ⟨o, T, _, rfl, rd1, q⟩)
    | false =>
      rw [h, if_neg Bool.false_ne_true] at q
      refine iteF ⟨.ref o, rfl, o, dx1, _, rfl, eo1, rfl, call0 rfl rd1 (fun _ => rfl) ⟨o, T, _, rfl, rd1, q.bindTo (fun wd r v H2 _ b2 rd2 rp q2 => ?_)⟩⟩
      cases rp
      exact ⟨o, T, r, wd, rfl, rd2, q2⟩
theorem dp_lit {H : Hp} {t : Addr} {b : Bool} {x y : V} {l r : PyData} (e : H t = some (.tup [.bl b, x, y])) (hx : Dp K H x l) (hy : Dp K H y r) : Dp K H (.ref t) (Rq.lit3 b l r) := .tup (.inl (.inl e)) (.cons (.bl b) (.cons hx (.cons hy .nil)))
theorem scCrEqn : FnScope ["self", "left", "sign"] ["self", "left"] (defScope sCrEqn) := ⟨rfl, rfl, rfl, by decide +kernel, rfl, by decide +kernel, by decide +kernel⟩
theorem ok_creqn {f C CB yA fN fT fS fE : Addr} {fd fdN fdT fdS fdE : FuncData} (F : Fun K "equation" "ClauseReader.equation" sCrEqn f fd) (c : RdC K C) (mN : Meth K C "next_sign" fN) (GN : FnOk P w K mg base CX0 2 fN fdN ["self"] (spNext C)) (bN : Binds K fdN ["self"] [])
    (mT : Meth K C "take" fT) (GT : FnOk P w K mg base (L2.CX P w) 3 fT fdT ["self", "sign"] (spTake C CB)) (bT : Binds K fdT ["self", "sign"] []) (mS : Meth K C "side" fS) (GS : FnOk P w K mg base (L2.CX P w) 9 fS fdS ["self"] (spGreat K C CB Rq.side)) (bS : Binds K fdS ["self"] []) (B : BtF P w K mg base CB fE fdE)
    (gY : mg "YES" = some (.ref yA)) (hY : ∀ H, SqT K H yA [.str "yes"]) (mi : mg "isinstance" = none) (mI : mg "int" = none) :
    FnOk P w K mg base (L2.CX P w) 10 f fd ["self", "left"] (spEqn K C CB) := by
  refine F.okX scCrEqn (fun vs H Q E h => ?_) (fun cdv A outer s0 H vs Q E hr h => ?_)
  · obtain ⟨o, T, s, x, l, rfl, _⟩ := h
    rfl
  · obtain ⟨o, T, s, x, l, rfl, rd, hx, tl, q⟩ := h
    refine ⟨_, pss_cons (ps_set (i := 2) scCrEqn.nd rfl (.inl rfl) (pe_meth0 (pv 0) c.cls mN GN (hr.mono (by decide)) bN .nil pass0))
      (pss_cons (ps_if (pt_cmpR op_eq (pv 2) pe_str (nomark _)) (pss_cons (ps_fldaug (pv 0) pe_int in_add) (pss_one (ps_ret (pe_tup (pa_cons pe_bl (pa_cons (pv 1) (pa_cons (pe_meth0 (pv 0) c.cls mS GS hr bS .nil (passE rfl rfl rfl rfl)) pa_nil))))))) pss_nil)
      (pss_cons (ps_if (pt_cmpR op_eq (pv 2) pe_str (nomark _)) (pss_cons (ps_fldaug (pv 0) pe_int in_add) (pss_cons (ps_expr (pe_meth (pv 0) c.cls mT GT (hr.mono (by decide)) bT .nil (passE rfl rfl rfl rfl) (pa_cons pe_str pa_nil))) (pss_one (ps_ret (pe_tup (pa_cons pe_bl (pa_cons (pv 1) (pa_cons (pe_meth0 (pv 0) c.cls mS GS hr bS .nil (passE rfl rfl rfl rfl)) pa_nil)))))))) pss_nil)
      (pss_cons (ps_if (pt_val (pe_callB call_isi (by rfl) mi (by decide +kernel) (pa_cons (pv 1) (pa_cons (pe_bltn (v := .ty "int") (by rfl) mI (by decide +kernel) rfl) pa_nil))))
        (pss_one (ps_raise rfl (takes_of rfl rfl rfl rfl) (pmk_oex B.T.ox B.T.ini B.T.tI B.G (hr.mono (by decide)) B.b .nil pass0 (by rfl) B.g (pa_cons (pe_op op_add (pe_fld (pv 0) rfl) pe_int) pa_nil)))) pss_nil)
      (pss_one (ps_ret (pe_tup (pa_cons pe_bl (pa_cons (pv 1) (pa_cons (pe_glob (v := .ref yA) (by rfl) gY rfl) pa_nil))))))))), ?_⟩
    refine next_use rfl rd fun H1 b1 rd1 => ?_
    have q := q.before b1
    have hx1 := tpo_tk (tk_but b1 rd) _ _ tl.1 hx
    unfold Rq.equation at q
    have fin : ∀ (b : Bool) (t : List Nat) (G : Hp), Pn.But o H1 G → Rd C G o T t → After C CB o T (repD K) ((Rq.side t).map (Rq.lit3 b l)) G Q E → tTup (tCons (tC (.bl b)) (tCons (tVar 1) (tCons (tMeth C "side" (spGreat K C CB Rq.side) [] E (tVar 0) tNil) tNil))) [some (.ref o), some x, some (.str (sg (Rq.skip s)))] G Q := fun b t G bG rdG qG => by
      rw [Rq.map_bind] at qG
      refine ⟨x, rfl, call0 rfl rdG (fun _ => rfl) ⟨o, T, t, rfl, rdG, qG.bindTo (fun d r v H2 _ b2 rd2 rp q2 => ?_)⟩⟩
      refine ⟨by show 3 ≤ sizeLine; rw [sizeLine_eq]; decide, fun tt nt => ?_⟩
      have sm := same_new (H := H2) (fun b o e => e) nt (.tup [.bl b, x, v])
      have hx2 := tpo_tk (tk_but b2 rdG) _ _ tl.1 (tpo_tk (tk_but bG rd1) _ _ tl.1 hx1)
      exact q2.fin (But.ofSame sm) (rd2.same sm) (dp_lit upd_same (dp_same sm hx2) (dp_same sm rp))
    refine ⟨_, rfl, rfl, _, congrArg V.bl (sg_eq 61 (Rq.skip s)), ?_⟩
    cases h61 : Rq.isC 61 (Rq.skip s) with
    | true =>
      rw [h61, if_pos rfl] at q
      exact iteT (step_use c rfl rd1 h61 fun H2 b2 rd2 => fin true _ H2 b2 rd2 (q.before b2))
    | false =>
      rw [h61, if_neg Bool.false_ne_true] at q
      refine iteF ⟨_, rfl, rfl, _, congrArg V.bl (sg_eq 33 (Rq.skip s)), ?_⟩
      cases h33 : Rq.isC 33 (Rq.skip s) with
      | true =>
        rw [h33, if_pos rfl] at q
        refine iteT (step_use c rfl rd1 h33 fun H2 b2 rd2 => ?_)
        obtain ⟨dx2, i2, eo2⟩ := rd_ins rd2
        refine ⟨.ref o, rfl, o, dx2, _, rfl, eo2, rfl, o, T, _, 61, rfl, rd2, (q.before b2).bindTo (fun u r v H3 _ b3 rd3 _ q3 => ?_)⟩
        exact fin false r H3 (b2.trans b3) rd3 q3
      | false =>
        rw [h33, if_neg Bool.false_ne_true] at q
        refine iteF ?_
        obtain ⟨_, ⟨n, rfl⟩ | ⟨ds, rfl⟩⟩ := tl
        · cases hx1
          exact ⟨_, rfl, _, .ty "int", .type "int", .type "int", true, rfl, .ty "int", .base (.int n), kitII, _, rfl, iteT (throwB c rfl rd1 (.refl _ _) q)⟩
        · cases hx1 with
          | @tup t xs _ sq all =>
            refine ⟨_, rfl, _, .ty "int", .type "tuple", .type "int", false, rfl, .ty "int", sq_ty sq, kitTI, _, rfl, iteF ⟨_, rfl, by show 3 ≤ sizeLine; rw [sizeLine_eq]; decide, fun tt nt => ?_⟩⟩
            have sm := same_new (H := H1) (fun b o e => e) nt (.tup [.bl true, .ref t, .ref yA])
            have q : After C CB o T (repD K) (.ok (Rq.lit3 true (.tuple ds) Rq.yesD) (Rq.skip s)) H1 Q E := q
            exact q.fin (But.ofSame sm) (rd1.same sm) (dp_lit upd_same (dp_same sm (.tup sq all)) (.tup (hY _) (.cons (.str _) .nil)))
end
end Ad

/-! The program's texts. -/
namespace Ad
open PySem PySem.Spec PySem.Calls PyProof.Rows L2 GxR
/-- a literal as data: sign, left, right -/
abbrev L3 := Bool × T × T
abbrev yesT : T := .f "yes" []
def L3.d (q : L3) : PyData := Rq.lit3 q.1 q.2.1.d q.2.2.d
def LitV (K : PySem.W.Frag) (H : Hp) (q : L3) (v : V) : Prop := ∃ a x y, v = .ref a ∧ SqT K H a [.bl q.1, x, y] ∧ Tm K H q.2.1 x ∧ Tm K H q.2.2 y
theorem LitV.tk {K : PySem.W.Frag} {H H' : Hp} (k : TK H H') {q : L3} {v : V} (h : LitV K H q v) : LitV K H' q v := by
  obtain ⟨a, x, y, e, sq, h1, h2⟩ := h
  exact ⟨a, x, y, e, k.sq sq, h1.mono k, h2.mono k⟩
def isY : T → Bool
  | .f x [] => decide (x = "yes")
  | _ => false
theorem isY_ok {t : T} (h : isY t = true) : t = yesT := by
  match t, h with
  | .f x [], h =>
    have : x = "yes" := of_decide_eq_true h
    rw [this]
theorem isY_no {t : T} (h : isY t = false) : t ≠ yesT := fun z => by
  rw [z] at h
  cases h
/-- the plain text of a literal -/
def lx (q : L3) : List Nat := if isY q.2.2 = true then (if q.1 = true then tx q.2.1 else Rq.cs "not " ++ tx q.2.1) else tx q.2.1 ++ ((if q.1 = true then Rq.cs " = " else Rq.cs " != ") ++ tx q.2.2)
def lsx : List L3 → List Nat
  | [] => []
  | q :: qs => 32 :: 124 :: 32 :: (lx q ++ lsx qs)
def cx : List L3 → List Nat
  | [] => [91, 93]
  | q :: qs => lx q ++ lsx qs
theorem join_lsx (q : L3) (qs : List L3) : TL.joinL [32, 124, 32] ((q :: qs).map lx) = lx q ++ lsx qs := by
  induction qs generalizing q with
  | nil => exact (List.append_nil _).symm
  | cons u us ih =>
    show lx q ++ ([32, 124, 32] ++ TL.joinL [32, 124, 32] ((u :: us).map lx)) = _
    rw [ih u]
    rfl
/-- what the texts' defs ask of a side -/
structure SideOk (t : T) : Prop where
  ok : t = yesT ∨ tok t = true
  dep : t.dep < 10
  size : t.size ≤ 1000
theorem side_len {t : T} (h : SideOk t) : (tx t).length ≤ 20000 := by
  rcases h.ok with rfl | h1
  · show (3 : Nat) ≤ 20000
    decide
  · have := tx_len h1
    have := h.size
    omega
section
variable {P : Program} {w : World} {K : PySem.W.Frag} {mg : Str → Option Value} {base : Heap}
abbrev sTT : Stmt := topS 17
theorem scTT : FnScope ["term", "part"] ["term"] (defScope sTT) := ⟨rfl, rfl, rfl, by decide +kernel, rfl, by decide +kernel, by decide +kernel⟩
def spTT (K : PySem.W.Frag) (n : Nat) : Sp := fun vs H Q _ => ∃ (t : T) (x : V), vs = [x] ∧ Tm K H t x ∧ (t = yesT ∨ tok t = true) ∧ t.dep < n ∧ t.size ≤ 1000 ∧ ∀ H', Same H H' → Q (.str (S (tx t))) H'
theorem kitTS' : PySem.W.kitOne K (.type "tuple") (.type "str") = some false := kit_ty (by decide +kernel)
theorem kitIS' : PySem.W.kitOne K (.type "int") (.type "str") = some false := kit_ty (by decide +kernel)
theorem small_num {i : Int} (h : 0 ≤ i) (h2 : Rq.numB i.toNat = true) : i.natAbs.log2 < 1920 := by
  unfold Rq.numB at h2
  rw [Bool.and_eq_true, Bool.and_eq_true, Bool.and_eq_true, decide_eq_true_eq, decide_eq_true_eq] at h2
  obtain ⟨ha, hb, hc, _⟩ := h2
  have hl : (Rq.digs i.toNat).length ≤ 7 := by split at hb <;> omega
  have key : ∀ l : List Nat, (∀ c ∈ l, (Rq.cs Rq.DIGITS).contains c = true) → ∀ a : Nat, List.foldl (fun n c => n * 10 + (c - 48)) a l + 1 ≤ (a + 1) * 10 ^ l.length := fun l => by
    induction l with
    | nil => intro _ a; simp
    | cons c l ih =>
      intro hm a
      have k : ((Rq.cs Rq.DIGITS).all fun c => decide (c - 48 ≤ 9)) = true := by decide +kernel
      have hc : c - 48 ≤ 9 := of_decide_eq_true (List.all_eq_true.mp k c (List.contains_iff_mem.mp (hm c List.mem_cons_self)))
      have := ih (fun d hd => hm d (List.mem_cons_of_mem _ hd)) (a * 10 + (c - 48))
      rw [List.foldl_cons, List.length_cons, Nat.pow_succ]
      refine Nat.le_trans this ?_
      have e1 : (a + 1) * (10 ^ l.length * 10) = ((a + 1) * 10) * 10 ^ l.length := by
        rw [Nat.mul_comm (10 ^ l.length) 10, Nat.mul_assoc]
      rw [e1]
      exact Nat.mul_le_mul_right _ (by omega)
  have hv := key _ (fun c hc => List.all_eq_true.mp ha c hc) 0
  have hv2 : List.foldl (fun n c => n * 10 + (c - 48)) 0 (Rq.digs i.toNat) = i.toNat := hc
  rw [hv2] at hv
  have hp : 10 ^ (Rq.digs i.toNat).length ≤ 10 ^ 7 := Nat.pow_le_pow_right (by decide) hl
  have en : i.natAbs = i.toNat := by omega
  rw [en]
  by_cases z : i.toNat = 0
  · rw [z]
    decide
  · have : i.toNat.log2 < 24 := (Nat.log2_lt z).mpr (by omega)
    omega
theorem ok_tt {f : Addr} {fd : FuncData} {k : Nat} (F : Fun K "_term_text" "_term_text" sTT f fd) (gF : mg "_term_text" = some (.ref f)) (bF : Binds K fd ["term"] []) (mi : mg "isinstance" = none) (mS : mg "str" = none) (mI : mg "int" = none) (ml : mg "len" = none) :
    ∀ n, FnOk P w K mg base CX0 (k + n) f fd ["term"] (spTT K n)
  | 0 => vac fun vs H Q E ⟨t, x, _, _, _, z, _⟩ => absurd z (Nat.not_lt_zero _)
  | n + 1 => by
    have IH := ok_tt (k := k) F gF bF mi mS mI ml n
    refine F.ok scTT (fun vs H Q E h => ?_) (fun cdv A outer s0 H vs Q E hr h => ?_)
    · obtain ⟨t, x, rfl, _⟩ := h
      rfl
    · obtain ⟨t, x, rfl, ht, ok, dep, size, q⟩ := h
      refine ⟨_, pss_cons (ps_if (pt_val (pe_callB call_isi (by rfl) mi (by decide +kernel) (pa_cons (pv 0) (pa_cons (pe_bltn (v := .ty "str") (by rfl) mS (by decide +kernel) rfl) pa_nil)))) (pss_one (ps_ret (pv 0))) pss_nil)
        (pss_cons (ps_if (pt_val (pe_callB call_isi (by rfl) mi (by decide +kernel) (pa_cons (pv 0) (pa_cons (pe_bltn (v := .ty "int") (by rfl) mI (by decide +kernel) rfl) pa_nil)))) (pss_one (ps_ret (pe_op op_add_str pe_str (pe_callTy call_str_int (by rfl) mS (by decide +kernel) (pa_cons (pv 0) pa_nil))))) pss_nil)
        (pss_cons (ps_if (pt_cmpR op_eq (pe_callB call_len_seq (by rfl) ml (by decide +kernel) (pa_cons (pv 0) pa_nil)) pe_int (nomark _)) (pss_one (ps_ret (pe_ix ix_tup (pv 0) pe_int (fun _ _ => rfl)))) pss_nil)
        (pss_one (ps_ret (pe_op op_add_str (pe_op op_add_str (pe_op op_add_str (pe_ix ix_tup (pv 0) pe_int (fun _ _ => rfl)) pe_str)
          (pe_join pe_str (pe_lc (own := [("part", 1)]) (g := gName 1) (tt := tYes) rfl scTT.nd (pi_tup (pe_slice sl_tup (pv 0) (po_some pe_int) po_none)) (blkOk_by (N := ["term", "part"]) (sc := defScope sTT) (by decide +kernel))
            (fun _ _ _ _ _ => pg_name (i := 1) scTT.nd rfl (.inl rfl)) (fun _ _ _ _ _ => pts_nil) (fun _ _ _ _ _ => pe_call IH hr (by rfl) gF F.kp bF .nil pass0 (pa_cons (pv 1) pa_nil))))) pe_str))))), ?_⟩
      cases t with
      | v i =>
        cases (show x = .int i from ht)
        have tk : tok (.v i) = true := ok.elim (fun z => nomatch z) id
        obtain ⟨h1, h2⟩ := Bool.and_eq_true_iff.mp (show (decide (0 ≤ i) && Rq.numB i.toNat) = true from tk)
        have h1 := of_decide_eq_true h1
        refine ⟨_, rfl, _, .ty "str", .type "int", .type "str", false, rfl, .ty "str", .base (.int i), kitIS', _, rfl, iteF ⟨_, rfl, _, .ty "int", .type "int", .type "int", true, rfl, .ty "int", .base (.int i), kitII, _, rfl, iteT ⟨_, rfl, i, rfl, small_num h1 h2, S [88], _, rfl, rfl, ?_, ?_⟩⟩⟩
        · have e := num_S h1
          have := num_len h2
          show (S [88]).length + (Str.ofString (toString i)).length ≤ sizeLine
          rw [e, S_len, S_len, sizeLine_eq]
          show 1 + _ ≤ _
          omega
        · have e := num_S h1
          show Q (.str (S [88] ++ Str.ofString (toString i))) H
          rw [e, S_app]
          exact q H (fun b o e => e)
      | f nm ts =>
        obtain ⟨a, zs, rfl, sq, all⟩ := ht
        have lz := all.len
        refine ⟨_, rfl, _, .ty "str", .type "tuple", .type "str", false, rfl, .ty "str", sq_ty sq, kitTS', _, rfl, iteF ⟨_, rfl, _, .ty "int", .type "tuple", .type "int", false, rfl, .ty "int", sq_ty sq, kitTI, _, rfl, iteF ⟨_, rfl, a, _, rfl, .inr sq, rfl, _, rfl, ?_⟩⟩⟩
        cases ts with
        | nil =>
          have z0 : zs = [] := List.length_eq_zero_iff.mp lz
          subst z0
          exact iteT ⟨_, rfl, a, _, 0, .str nm, rfl, rfl, sq, rfl, q H (fun b o e => e)⟩
        | cons t1 ts =>
          have tk : tok (.f nm (t1 :: ts)) = true := ok.elim (fun z => nomatch z) id
          obtain ⟨k1, k2⟩ := Bool.and_eq_true_iff.mp (show (namB nm && toks (t1 :: ts)) = true from tk)
          have nl := nam_len (namB_ok k1)
          have ne : decide (V.int (((V.str nm :: zs).length : Nat) : Int) = V.int 1) = false := decide_eq_false (fun z => by
            injection z with z
            rw [List.length_cons, lz, List.length_cons] at z
            omega)
          rw [ne]
          have enm : (nm : Str).length = (Rq.cs nm).length := Array.length_toList.symm
          refine iteF ⟨_, rfl, a, _, 0, .str nm, rfl, rfl, sq, atI_nat (j := 0) rfl, _, _, rfl, rfl, by rw [sizeLine_eq, enm]; show _ + 1 ≤ _; omega, ?_⟩
          refine ⟨⟨_, rfl⟩, .ref a, rfl, 1, rfl, a, _, rfl, sq, cut_args.1, fun p1 n1 => ⟨p1, rfl, ⟨_, .inl (.inl upd_same)⟩, fun D nD => ?_⟩⟩
          rw [cut_args.2] at nD ⊢
          have sm1 : Same H (upd H p1 (.tup zs)) := same_new (fun b o e => e) n1 _
          have m1 : (upd H p1 (.tup zs)) p1 = some (.tup zs) := upd_same
          replace all := Tms.mono (TK.new n1 (.tup zs)) _ _ all
          generalize upd H p1 (.tup zs) = H1 at nD sm1 m1 all ⊢
          refine lc_tup (K := K) (a := p1) (xs := zs) (fun i G => Same H1 G ∧ G D = some (.lst ((((t1 :: ts).take i).map fun t => V.str (S (tx t)))))) ⟨same_new (fun b o e => e) nD _, upd_same⟩ (fun i G _ ⟨sm, _⟩ => .inl (.inl (sm _ _ m1))) ?_ ?_
          · rintro i y G hy ⟨sm, g⟩
            obtain ⟨u, hu, tu⟩ := (Tms.mono (TK.same sm) _ _ all).get hy
            have hm := List.mem_of_getElem? hu
            have d1 := T.dep_mem hm
            have d2 : T.dep (.f nm (t1 :: ts)) = 1 + T.depL (t1 :: ts) := rfl
            have d3 := T.size_mem hm
            have szu : T.size (.f nm (t1 :: ts)) = 1 + T.sizeL (t1 :: ts) := rfl
            have ilt := (List.getElem?_eq_some_iff.mp hu).1
            have lts := T.len_sizeL (t1 :: ts)
            refine ⟨rfl, y, rfl, u, y, rfl, tu, .inr (toks_get k2 hu), by omega, by omega, fun G2 sm2 => ⟨_, sm2 _ _ g, by rw [List.length_map, List.length_take, sizeLine_eq]; omega, ?_, ?_⟩⟩
            · exact same_on (show Same H1 G2 from fun b o e => sm2 _ _ (sm _ _ e)) nD _
            · rw [upd_same, List.take_add_one, hu, List.map_append]
              rfl
          · rintro G ⟨sm, g⟩
            rw [lz, List.take_length] at g
            have sl := sum_len _ k2
            have szu : T.size (.f nm (t1 :: ts)) = 1 + T.sizeL (t1 :: ts) := rfl
            have lts := T.len_sizeL (t1 :: ts)
            have jl : (S (TL.joinL [44, 32] ((t1 :: ts).map tx))).length ≤ 20 * T.sizeL (t1 :: ts) := by
              rw [join_txs, S_len, List.length_append]
              obtain ⟨q1, q2⟩ := Bool.and_eq_true_iff.mp (show (tok t1 && toks ts) = true from k2)
              have a1 := tx_len q1
              have a2 := txs_len q2
              have a3 : T.sizeL (t1 :: ts) = t1.size + T.sizeL ts := rfl
              omega
            have nj : (nm ++ "(" : Str).length = (Rq.cs nm).length + 1 := by
              show (S (Rq.cs nm) ++ S [40]).length = _
              rw [S_app, S_len, List.length_append]
              rfl
            refine ⟨S [44, 32], D, ((t1 :: ts).map tx).map S, rfl, rfl, .inl (.inl (.inl (by rw [g, List.map_map, List.map_map]; rfl))), ?_, ?_⟩
            · have e1 : (((t1 :: ts).map tx).map S).map (fun z : Str => z.length) = (t1 :: ts).map fun t => (tx t).length := by
                rw [List.map_map, List.map_map]
                exact List.map_congr_left fun t _ => S_len _
              rw [e1, List.length_map, List.length_map, S_len]
              show _ + (t1 :: ts).length * 2 ≤ _
              omega
            · rw [join_S]
              refine ⟨_, _, rfl, rfl, by rw [sizeLine_eq, nj]; omega, ?_⟩
              have e2 : (nm ++ "(" : Str) ++ S (TL.joinL [44, 32] ((t1 :: ts).map tx)) = S (Rq.cs nm ++ 40 :: (tx t1 ++ txs ts)) := by
                rw [join_txs]
                show (S (Rq.cs nm) ++ S [40]) ++ S (tx t1 ++ txs ts) = _
                rw [S_app, S_app, List.append_assoc]
                rfl
              refine (show (fun x H1 => tC (V.str ")") _ H1 fun y H2 => (fun x y H Q => ∃ i j, x = V.str i ∧ y = V.str j ∧ i.length + j.length ≤ sizeLine ∧ Q (V.str (i ++ j)) H) x y H2 Q) (V.str (nm ++ "(" ++ S (TL.joinL [44, 32] ((t1 :: ts).map tx)))) G from ?_)
              rw [e2]
              refine ⟨_, S [41], rfl, rfl, ?_, ?_⟩
              · rw [S_len, S_len, List.length_append, List.length_cons, sizeLine_eq]
                rw [join_txs, S_len] at jl
                show _ + 1 ≤ _
                omega
              · have e3 : S (Rq.cs nm ++ 40 :: (tx t1 ++ txs ts)) ++ S [41] = S (tx (.f nm (t1 :: ts))) := by
                  rw [S_app]
                  exact congrArg S (by show _ = Rq.cs nm ++ 40 :: (tx t1 ++ (txs ts ++ [41])); simp)
                rw [e3]
                exact q G (sm1.trans sm)
end
end Ad

/-! The program's texts of literals and clauses. -/
namespace Ad
open PySem PySem.Spec PySem.Calls PyProof.Rows L2 GxR
theorem eqv_noT {s t : T} (e : s ≠ t) : PyData.eqv s.d t.d = false := by
  cases h : PyData.eqv s.d t.d with
  | false => rfl
  | true => exact absurd (T.eqv_eq _ _ h) e
theorem isY_neg {t : T} (h : t ≠ yesT) : isY t = false := by
  cases z : isY t with
  | false => rfl
  | true => exact absurd (isY_ok z) h
/-- is a side yes -/
theorem yes_eq {K : PySem.W.Frag} {X : Cx} {t : T} (n : t.named = true) (dep : t.dep ≤ 60) : SeqAt.shaped t.d = true ∧ SeqAt.shaped (PyData.tuple [.str "yes"]) = true ∧ PyData.eqv t.d (.tuple [.str "yes"]) = isY t := by
  have s1 : SeqAt.shaped t.d = true := T.shaped n (by omega)
  have s2 : SeqAt.shaped (PyData.tuple [.str "yes"]) = true := T.shaped (t := yesT) (by decide +kernel) (by decide)
  refine ⟨s1, s2, ?_⟩
  by_cases h : t = yesT
  · subst h
    exact eqv_one s2
  · rw [isY_neg h]
    exact eqv_noT (t := yesT) h
structure SideN (t : T) : Prop extends SideOk t where
  named : t.named = true
structure LitOk3 (q : L3) : Prop where
  l : SideN q.2.1
  r : SideN q.2.2
theorem lx_len {q : L3} (h : LitOk3 q) : (lx q).length ≤ 40010 := by
  have h1 := side_len h.l.toSideOk
  have h2 := side_len h.r.toSideOk
  have e1 : (Rq.cs "not ").length = 4 := by decide +kernel
  have e2 : (Rq.cs " = ").length = 3 := by decide +kernel
  have e3 : (Rq.cs " != ").length = 4 := by decide +kernel
  unfold lx
  split
  · split
    · omega
    · rw [List.length_append]
      omega
  · rw [List.length_append, List.length_append]
    split <;> omega
section
variable {P : Program} {w : World} {K : PySem.W.Frag} {mg : Str → Option Value} {base : Heap}
abbrev sLT : Stmt := topS 19
theorem scLT : FnScope ["literal", "sign", "left", "right"] ["literal"] (defScope sLT) := ⟨rfl, rfl, rfl, by decide +kernel, rfl, by decide +kernel, by decide +kernel⟩
def spLT (K : PySem.W.Frag) : Sp := fun vs H Q _ => ∃ (q : L3) (v : V), vs = [v] ∧ LitV K H q v ∧ LitOk3 q ∧ ∀ H', Same H H' → Q (.str (S (lx q))) H'
theorem strq {a b : List Nat} {x y : Str} (hx : x = S a) (hy : y = S b) : x ++ y = S (a ++ b) := by
  rw [hx, hy, S_app]
theorem ok_lt {f fT : Addr} {fd fdT : FuncData} {k : Nat} (F : Fun K "_literal_text" "_literal_text" sLT f fd) (hTermText : Has P w K mg base (k + 10) "_term_text" ["term"] (spTT K 10) fT fdT) :
    FnOk P w K mg base CX0 (k + 11) f fd ["literal"] (spLT K) := by
  refine F.ok scLT (fun vs H Q E h => ?_) (fun cdv A outer s0 H vs Q E hr h => ?_)
  · obtain ⟨q, v, rfl, _⟩ := h
    rfl
  · obtain ⟨q, v, rfl, ⟨a, x, y, rfl, sq, hx, hy⟩, ok, qq⟩ := h
    refine ⟨_, pss_cons (ps_asg (pv 0) (pg_tup rfl (pgs_cons (pg_name (i := 1) scLT.nd rfl (.inl rfl)) (pgs_cons (pg_name (i := 2) scLT.nd rfl (.inl rfl)) (pgs_cons (pg_name (i := 3) scLT.nd rfl (.inl rfl)) pgs_nil)))))
    (pss_cons (ps_if (pt_cmpR (op_eqD (hu64 hr)) (pv 3) (pe_tup (pa_cons pe_str pa_nil)) (nomark _))
      (pss_one (ps_ret (pe_ifExp (pt_true (pv 1)) (pe_call hTermText.G hr (by rfl) hTermText.g hTermText.kp hTermText.b .nil pass0 (pa_cons (pv 2) pa_nil)) (pe_op op_add_str pe_str (pe_call hTermText.G hr (by rfl) hTermText.g hTermText.kp hTermText.b .nil pass0 (pa_cons (pv 2) pa_nil)))))) pss_nil)
    (pss_one (ps_ret (pe_op op_add_str (pe_op op_add_str (pe_call hTermText.G hr (by rfl) hTermText.g hTermText.kp hTermText.b .nil pass0 (pa_cons (pv 2) pa_nil)) (pe_ifExp (pt_true (pv 1)) pe_str pe_str)) (pe_call hTermText.G hr (by rfl) hTermText.g hTermText.kp hTermText.b .nil pass0 (pa_cons (pv 3) pa_nil)))))), ?_⟩
    refine ⟨_, rfl, _, _, rfl, sq, rfl, _, _, rfl, _, _, rfl, _, _, rfl, rfl, ?_⟩
    refine ⟨y, rfl, by show 1 ≤ sizeLine; rw [sizeLine_eq]; decide, fun t nt => ?_⟩
    have sm := same_new (H := H) (fun b o e => e) nt (.tup [.str "yes"])
    have k1 := TK.same sm
    have hd : Dp K (upd H t (.tup [.str "yes"])) (.ref t) (.tuple [.str "yes"]) := .tup (.inl (.inl upd_same)) (.cons (.str _) .nil)
    have hx1 := hx.mono k1
    have hy1 := hy.mono k1
    generalize upd H t (.tup [.str "yes"]) = H1 at sm hd hx1 hy1 ⊢
    obtain ⟨s1, s2, s3⟩ := yes_eq (K := K) (X := cxOf CX0 P w K mg base [] "" (defScope sLT) f cdv A outer s0 H E) ok.r.named (by have := ok.r.dep; omega)
    refine ⟨_, _, hy1.dp, hd, s1, s2, _, congrArg V.bl s3, ?_⟩
    have lenl := side_len ok.l.toSideOk
    have lenr := side_len ok.r.toSideOk
    obtain ⟨b, l, r⟩ := q
    cases hY : isY r with
    | true =>
      refine iteT ⟨.bl b, rfl, b, rfl, ?_⟩
      cases b with
      | true =>
        refine iteT ⟨x, rfl, l, x, rfl, hx1, ok.l.ok, ok.l.dep, ok.l.size, fun H2 sm2 => ?_⟩
        have := qq H2 (sm.trans sm2)
        unfold lx at this
        rw [if_pos hY, if_pos rfl] at this
        exact this
      | false =>
        refine iteF ⟨x, rfl, l, x, rfl, hx1, ok.l.ok, ok.l.dep, ok.l.size, fun H2 sm2 => ⟨_, _, rfl, rfl, ?_, ?_⟩⟩
        · have e4 : ("not " : Str).length = 4 := by decide +kernel
          have lenl : (tx l).length ≤ 20000 := lenl
          show ("not " : Str).length + (S (tx l)).length ≤ sizeLine
          rw [e4, S_len, sizeLine_eq]
          omega
        · have := qq H2 (sm.trans sm2)
          unfold lx at this
          rw [if_pos hY, if_neg (show ¬ (false = true) from Bool.false_ne_true), ← S_app] at this
          exact this
    | false =>
      refine iteF ⟨x, rfl, l, x, rfl, hx1, ok.l.ok, ok.l.dep, ok.l.size, fun H2 sm2 => ⟨.bl b, rfl, b, rfl, ?_⟩⟩
      have hy2 := hy1.mono (TK.same sm2)
      have fin : ∀ z : Str, z = (if b = true then (" = " : Str) else " != ") → z.length ≤ 4 → ∃ i j, V.str (S (tx l)) = V.str i ∧ V.str z = V.str j ∧ i.length + j.length ≤ sizeLine ∧ tCall (spTT K 10) [] E0 (tCons (tVar 3) tNil) [some (.ref a), some (.bl b), some x, some y] H2 (fun y H3 => ∃ i' j', V.str (i ++ j) = V.str i' ∧ y = V.str j' ∧ i'.length + j'.length ≤ sizeLine ∧ Q (V.str (i' ++ j')) H3) := fun z ez lz => by
        refine ⟨_, _, rfl, rfl, by rw [S_len, sizeLine_eq]; have lenl : (tx l).length ≤ 20000 := lenl; omega, y, rfl, r, y, rfl, hy2, ok.r.ok, ok.r.dep, ok.r.size, fun H3 sm3 => ⟨_, _, rfl, rfl, ?_, ?_⟩⟩
        · have e : (S (tx l) ++ z).length = (tx l).length + z.length := by
            rw [← S_cs z, S_app, S_len, List.length_append, S_len]
          show (S (tx l) ++ z).length + (S (tx r)).length ≤ sizeLine
          rw [e, S_len (tx r), sizeLine_eq]
          have lenl : (tx l).length ≤ 20000 := lenl
          have lenr : (tx r).length ≤ 20000 := lenr
          omega
        · have := qq H3 ((sm.trans sm2).trans sm3)
          unfold lx at this
          rw [if_neg (by show ¬ isY r = true; rw [hY]; exact Bool.false_ne_true)] at this
          have e : (S (tx l) ++ z) ++ S (tx r) = S (tx l ++ ((if b = true then Rq.cs " = " else Rq.cs " != ") ++ tx r)) := by
            have ez2 : z = S (if b = true then Rq.cs " = " else Rq.cs " != ") := by
              rw [ez]
              cases b <;> rfl
            rw [ez2, S_app, S_app, List.append_assoc]
          rw [e]
          exact this
      cases b with
      | true => exact iteT (fin _ rfl (by decide))
      | false => exact iteF (fin _ rfl (by decide))
abbrev sCT : Stmt := topS 18
theorem scCT : FnScope ["clause", "literal"] ["clause"] (defScope sCT) := ⟨rfl, rfl, rfl, by decide +kernel, rfl, by decide +kernel, by decide +kernel⟩
def ClV (K : PySem.W.Frag) (H : Hp) (qs : List L3) (v : V) : Prop := ∃ a vs, v = .ref a ∧ SqT K H a vs ∧ F2 (LitV K H) qs vs
theorem ClV.tk {K : PySem.W.Frag} {H H' : Hp} (k : TK H H') {qs : List L3} {v : V} (h : ClV K H qs v) : ClV K H' qs v := by
  obtain ⟨a, vs, e, sq, f⟩ := h
  exact ⟨a, vs, e, k.sq sq, f.mono (fun q v => LitV.tk k)⟩
def spCT (K : PySem.W.Frag) : Sp := fun vs H Q _ => ∃ (qs : List L3) (v : V), vs = [v] ∧ ClV K H qs v ∧ (∀ q ∈ qs, LitOk3 q) ∧ qs.length ≤ 10 ∧ ∀ H', Same H H' → Q (.str (S (cx qs))) H'
theorem lsum_len : ∀ qs : List L3, (∀ q ∈ qs, LitOk3 q) → (qs.map fun q => (lx q).length).sum ≤ 40010 * qs.length
  | [], _ => Nat.zero_le _
  | q :: qs, h => by
    have l1 := lx_len (h q List.mem_cons_self)
    have l2 := lsum_len qs fun p hp => h p (List.mem_cons_of_mem _ hp)
    show (lx q).length + (qs.map fun q => (lx q).length).sum ≤ 40010 * (qs.length + 1)
    omega
theorem ok_ct {f fL : Addr} {fd fdL : FuncData} {k : Nat} (F : Fun K "clause_text" "clause_text" sCT f fd) (hLit : Has P w K mg base k "_literal_text" ["literal"] (spLT K) fL fdL) (ml : mg "len" = none) :
    FnOk P w K mg base CX0 (k + 1) f fd ["clause"] (spCT K) := by
  refine F.ok scCT (fun vs H Q E h => ?_) (fun cdv A outer s0 H vs Q E hr h => ?_)
  · obtain ⟨q, v, rfl, _⟩ := h
    rfl
  · obtain ⟨qs, v, rfl, ⟨a, vs, rfl, sq, all⟩, ok, few, qq⟩ := h
    refine ⟨_, pss_cons (ps_if (pt_cmpR op_eq (pe_callB call_len_seq (by rfl) ml (by decide +kernel) (pa_cons (pv 0) pa_nil)) pe_int (nomark _)) (pss_one (ps_ret pe_str)) pss_nil)
      (pss_one (ps_ret (pe_join pe_str (pe_lc (own := [("literal", 1)]) (g := gName 1) (tt := tYes) rfl scCT.nd (pi_tup (pv 0)) (blkOk_by (N := ["clause", "literal"]) (sc := defScope sCT) (by decide +kernel))
            (fun _ _ _ _ _ => pg_name (i := 1) scCT.nd rfl (.inl rfl)) (fun _ _ _ _ _ => pts_nil) (fun _ _ _ _ _ => pe_call hLit.G hr (by rfl) hLit.g hLit.kp hLit.b .nil pass0 (pa_cons (pv 1) pa_nil)))))), ?_⟩
    have lz := all.len
    refine ⟨_, rfl, a, vs, rfl, .inr sq, rfl, _, rfl, ?_⟩
    match qs, lz, few, ok, all, qq with
    | [], lz, few, ok, all, qq =>
      have e : decide (V.int ((vs.length : Nat) : Int) = V.int 0) = true := decide_eq_true (by rw [lz]; rfl)
      rw [e]
      exact iteT (qq H (fun b o e => e))
    | q :: qs, lz, few, ok, all, qq =>
      have e : decide (V.int ((vs.length : Nat) : Int) = V.int 0) = false := decide_eq_false (fun z => by
        injection z with z
        rw [List.length_cons] at lz
        omega)
      rw [e]
      refine iteF ⟨⟨_, rfl⟩, .ref a, rfl, a, rfl, ⟨_, sq⟩, fun D nD => ?_⟩
      refine lc_tup (K := K) (a := a) (xs := vs) (fun i G => Same H G ∧ G D = some (.lst (((q :: qs).take i).map fun q => V.str (S (lx q))))) ⟨same_new (fun b o e => e) nD _, upd_same⟩ (fun i G _ ⟨sm, _⟩ => (TK.same sm).sq sq) ?_ ?_
      · rintro i y G hy ⟨sm, g⟩
        obtain ⟨u, hu, tu⟩ := all.get hy
        have hm := List.mem_of_getElem? hu
        refine ⟨rfl, y, rfl, u, y, rfl, tu.tk (TK.same sm), ok u hm, fun G2 sm2 => ⟨_, sm2 _ _ g, by rw [List.length_map, List.length_take, sizeLine_eq]; omega, ?_, ?_⟩⟩
        · exact same_on (show Same H G2 from fun b o e => sm2 _ _ (sm _ _ e)) nD _
        · rw [upd_same, List.take_add_one, hu, List.map_append]
          rfl
      · rintro G ⟨sm, g⟩
        rw [lz, List.take_length] at g
        have sl := lsum_len _ ok
        refine ⟨S [32, 124, 32], D, ((q :: qs).map lx).map S, rfl, rfl, .inl (.inl (.inl (by rw [g, List.map_map, List.map_map]; rfl))), ?_, ?_⟩
        · have e1 : (((q :: qs).map lx).map S).map (fun z : Str => z.length) = (q :: qs).map fun q => (lx q).length := by
            rw [List.map_map, List.map_map]
            exact List.map_congr_left fun t _ => S_len _
          rw [e1, List.length_map, List.length_map, S_len]
          show _ + (q :: qs).length * 3 ≤ _
          omega
        · rw [join_S, join_lsx]
          exact qq G sm
end
end Ad

/-! Up to two spaces: ' ' * n. -/
namespace Ad
open PySem PySem.Spec PySem.Calls PyProof.Rows L2
def spcs (n : Nat) : Str := ⟨(List.replicate n 32).toArray⟩
theorem op_spaces {X : Cx} : OpR X (binaryOp .Mult) (fun x y H Q => ∃ n : Nat, x = .str " " ∧ y = .int ((n : Nat) : Int) ∧ n ≤ 2 ∧ Q (.str (spcs n)) H) := by
  intro pins s σ H x y v u Q I rx ry h
  obtain ⟨n, rfl, rfl, hn, q⟩ := h
  obtain ⟨t, rfl⟩ := rx
  obtain ⟨t', rfl⟩ := ry
  obtain ⟨h1, h2, h3⟩ := PyProof.Rows.mulOk_of (x := (" " : Str)) (n := ((n : Nat) : Int)) 1 2 (by decide) (by omega) (by omega) (by decide) (by decide)
  refine PySem.P.mul_str h1 h2 h3 ?_
  match n, hn with
  | 0, _ => exact ⟨by decide, ⟨.str (spcs 0), H, I.tok _, ⟨_, rfl⟩, q⟩⟩
  | 1, _ => exact ⟨.str (spcs 1), H, I, ⟨_, rfl⟩, q⟩
  | 2, _ => exact ⟨by decide, ⟨.str (spcs 2), H, I.tok _, ⟨_, rfl⟩, q⟩⟩
end Ad

/-! The law's texts: spaces; by a pen or plain. -/
namespace Ad
open PySem PySem.Spec PySem.Calls PyProof.Rows L2 GxR
abbrev Mode := Option (Addr × Addr × List Int)
/-- the pen at c draws, or none -/
def PS (m : Mode) (x : V) (H : Hp) (c : Nat) : Prop := match m with
  | none => x = .non
  | some (p, l, ns) => x = .ref p ∧ Pn.Pen H p l ns c ∧ ns.length ≤ 1000
def Fr (m : Mode) (H H' : Hp) : Prop := match m with
  | none => Same H H'
  | some (p, _, _) => Pn.But p H H'
def Apart (m : Mode) (D : Addr) : Prop := match m with
  | none => True
  | some (p, l, _) => D ≠ p ∧ D ≠ l
theorem PS.non {m : Mode} {x : V} {H : Hp} {c : Nat} (h : PS m x H c) : decide (x = .non) = m.isNone := by
  match m, h with
  | none, h => exact decide_eq_true h
  | some (p, l, ns), h =>
    obtain ⟨rfl, _⟩ := h
    exact decide_eq_false (fun z => nomatch z)
theorem Fr.ofSame {m : Mode} {H H' : Hp} (s : Same H H') : Fr m H H' := by
  match m with
  | none => exact s
  | some (p, l, ns) => exact fun b x _ e => s b x e
theorem Fr.refl (m : Mode) (H : Hp) : Fr m H H := Fr.ofSame fun b o e => e
theorem Fr.trans {m : Mode} {H H1 H2 : Hp} (a : Fr m H H1) (b : Fr m H1 H2) : Fr m H H2 := by
  match m, a, b with
  | none, a, b => exact fun c o e => b c o (a c o e)
  | some (p, l, ns), a, b => exact Pn.But.trans a b
theorem Fr.tk {m : Mode} {x : V} {H H' : Hp} {c : Nat} (f : Fr m H H') (h : PS m x H c) : TK H H' := by
  match m, h, f with
  | none, _, f => exact TK.same f
  | some (p, l, ns), ⟨_, P, _⟩, f => exact pen_tk P f
theorem Fr.lst {m : Mode} {x : V} {H H' : Hp} {c : Nat} {D : Addr} {xs : List V} (f : Fr m H H') (h : PS m x H c) (e : H D = some (.lst xs)) : H' D = some (.lst xs) := by
  match m, h, f with
  | none, _, f => exact f _ _ e
  | some (p, l, ns), ⟨_, ⟨⟨a, d, g, ep, r⟩, hl⟩, _⟩, f => exact f _ _ (fun z => by rw [z, ep] at e; cases e) e
theorem PS.same {m : Mode} {x : V} {H H' : Hp} {c : Nat} (h : PS m x H c) (s : Same H H') : PS m x H' c := by
  match m, h with
  | none, h => exact h
  | some (p, l, ns), ⟨e, P, n⟩ => exact ⟨e, pen_same P s, n⟩
theorem PS.fresh {m : Mode} {x : V} {H : Hp} {c : Nat} {D : Addr} (h : PS m x H c) (n : H D = none) : Apart m D := by
  match m, h with
  | none, _ => trivial
  | some (p, l, ns), ⟨_, ⟨⟨a, d, f, e, r⟩, hl⟩, _⟩ => exact ⟨fun z => (by rw [z, e] at n; cases n), fun z => (by rw [z, hl] at n; cases n)⟩
theorem PS.put {m : Mode} {x : V} {H : Hp} {c : Nat} {D : Addr} (h : PS m x H c) (a : Apart m D) (o : HO) : PS m x (upd H D o) c := by
  match m, h, a with
  | none, h, _ => exact h
  | some (p, l, ns), ⟨e, ⟨⟨aa, d, f, ep, r⟩, hl⟩, n⟩, ⟨n1, n2⟩ => exact ⟨e, ⟨⟨aa, d, f, by rw [upd_ne (fun z => n1 z.symm)]; exact ep, r⟩, by rw [upd_ne (fun z => n2 z.symm)]; exact hl⟩, n⟩
theorem Fr.put {m : Mode} {H G : Hp} {D : Addr} (f : Fr m H G) (n : H D = none) (o : HO) : Fr m H (upd G D o) := by
  match m, f with
  | none, f => exact same_on f n o
  | some (p, l, ns), f => exact but_upd f n o
/-- what is told of the end: w drawn in at most k draws -/
def Ends1 (m : Mode) (x : V) (c k : Nat) (H : Hp) (Q : VK) (ok : Str → Prop) : Prop := ∀ w H' c', ok w → c' ≤ c + k → PS m x H' c' → Fr m H H' → Q (.str w) H'
def LooseOk (m : Mode) (w : Str) : Prop := Rq.Sps (Rq.cs w) ∧ (Rq.cs w).length ≤ 1 ∧ (m = none → w = "")
def GapOk (m : Mode) (w : Str) : Prop := Rq.Sps (Rq.cs w) ∧ Rq.cs w ≠ [] ∧ (Rq.cs w).length ≤ 2 ∧ (m = none → w = " ")
def spGap : Sp := fun vs H Q _ => ∃ (m : Mode) (x : V) (c : Nat), vs = [x] ∧ PS m x H c ∧ c ≤ 900000000 ∧ Ends1 m x c 1 H Q (GapOk m)
def spLoose : Sp := fun vs H Q _ => ∃ (m : Mode) (x : V) (c : Nat), vs = [x] ∧ PS m x H c ∧ c ≤ 900000000 ∧ Ends1 m x c 1 H Q (LooseOk m)
theorem spcs_sps (n : Nat) : Rq.Sps (Rq.cs (spcs n)) ∧ (Rq.cs (spcs n)).length = n := ⟨fun c h => List.eq_of_mem_replicate (show c ∈ List.replicate n 32 from h), List.length_replicate⟩
section
variable {P : Program} {w : World} {K : PySem.W.Frag} {mg : Str → Option Value} {base : Heap}
abbrev sLGap : Stmt := topS 32
theorem scLGap : FnScope ["_law_pen_here"] ["_law_pen_here"] (defScope sLGap) := ⟨rfl, rfl, rfl, by decide +kernel, rfl, by decide +kernel, by decide +kernel⟩
theorem ok_lgap {f fD : Addr} {fd fdD : FuncData} {k : Nat} (F : Fun K "_law_gap" "_law_gap" sLGap f fd) (hLDraw : Has P w K mg base k "_law_draw" ["_law_pen_here", "_law_many"] Pn.spDraw fD fdD) : FnOk P w K mg base CX0 (k + 1) f fd ["_law_pen_here"] spGap := by
  refine F.ok scLGap (fun vs H Q E h => ?_) (fun cdv A outer s0 H vs Q E hr h => ?_)
  · obtain ⟨m, x, c, rfl, _⟩ := h
    rfl
  · obtain ⟨m, x, c, rfl, ps, hc, q⟩ := h
    refine ⟨_, (pss_one (ps_ret (pe_ifExp (pt_cmpR op_isN (pv 0) pe_non (nomark _)) pe_str (pe_op op_spaces pe_str (pe_op op_add pe_int (pe_call hLDraw.G hr (by rfl) hLDraw.g hLDraw.kp hLDraw.b .nil pass0 (pa_cons (pv 0) (pa_cons pe_int pa_nil)))))))), ?_⟩
    refine ⟨x, rfl, rfl, _, congrArg V.bl ps.non, ?_⟩
    match m, ps, q with
    | none, ps, q => exact iteT (q " " H c ⟨fun d h => List.mem_singleton.mp h, by decide +kernel, by decide +kernel, fun _ => rfl⟩ (Nat.le_add_right _ _) ps (.refl _ _))
    | some (p, l, ns), ⟨ex, pen, few⟩, q =>
      subst ex
      refine iteF ⟨_, rfl, p, l, ns, c, 2, rfl, pen, few, by omega, by omega, by omega, fun r H' r0 r2 pen' b => ⟨_, _, rfl, rfl, ?_⟩⟩
      obtain ⟨n, rfl⟩ := Int.eq_ofNat_of_zero_le r0
      refine ⟨1 + n, rfl, rfl, by omega, q (spcs (1 + n)) H' (c + 1) ⟨(spcs_sps _).1, ?_, by rw [(spcs_sps _).2]; omega, fun z => nomatch z⟩ (Nat.le_refl _) ⟨rfl, pen', few⟩ b⟩
      intro z
      have := (spcs_sps (1 + n)).2
      rw [z, List.length_nil] at this
      omega
abbrev sLLoose : Stmt := topS 33
theorem scLLoose : FnScope ["_law_pen_here"] ["_law_pen_here"] (defScope sLLoose) := ⟨rfl, rfl, rfl, by decide +kernel, rfl, by decide +kernel, by decide +kernel⟩
theorem ok_lloose {f fD : Addr} {fd fdD : FuncData} {k : Nat} (F : Fun K "_law_loose" "_law_loose" sLLoose f fd) (hLDraw : Has P w K mg base k "_law_draw" ["_law_pen_here", "_law_many"] Pn.spDraw fD fdD) : FnOk P w K mg base CX0 (k + 1) f fd ["_law_pen_here"] spLoose := by
  refine F.ok scLLoose (fun vs H Q E h => ?_) (fun cdv A outer s0 H vs Q E hr h => ?_)
  · obtain ⟨m, x, c, rfl, _⟩ := h
    rfl
  · obtain ⟨m, x, c, rfl, ps, hc, q⟩ := h
    refine ⟨_, (pss_one (ps_ret (pe_ifExp (pt_cmpR op_isN (pv 0) pe_non (nomark _)) pe_str (pe_op op_spaces pe_str (pe_call hLDraw.G hr (by rfl) hLDraw.g hLDraw.kp hLDraw.b .nil pass0 (pa_cons (pv 0) (pa_cons pe_int pa_nil))))))), ?_⟩
    refine ⟨x, rfl, rfl, _, congrArg V.bl ps.non, ?_⟩
    match m, ps, q with
    | none, ps, q => exact iteT (q "" H c ⟨fun d h => absurd h List.not_mem_nil, by decide +kernel, fun _ => rfl⟩ (Nat.le_add_right _ _) ps (.refl _ _))
    | some (p, l, ns), ⟨ex, pen, few⟩, q =>
      subst ex
      refine iteF ⟨_, rfl, p, l, ns, c, 2, rfl, pen, few, by omega, by omega, by omega, fun r H' r0 r2 pen' b => ?_⟩
      obtain ⟨n, rfl⟩ := Int.eq_ofNat_of_zero_le r0
      exact ⟨n, rfl, rfl, by omega, q (spcs n) H' (c + 1) ⟨(spcs_sps _).1, by rw [(spcs_sps _).2]; omega, fun z => nomatch z⟩ (Nat.le_refl _) ⟨rfl, pen', few⟩ b⟩
/-- spaces, a text, spaces -/
def AroundOk (m : Mode) (mid plain : List Nat) (w : Str) : Prop := ∃ s1 s2, Rq.Sps s1 ∧ Rq.Sps s2 ∧ s1.length ≤ 1 ∧ s2.length ≤ 1 ∧ ((m = none ∧ Rq.cs w = plain) ∨ Rq.cs w = s1 ++ (mid ++ s2))
theorem loose_use {E : XK} {m : Mode} {x : V} {c i : Nat} {σ : L2.St} {H : Hp} {Q : VK} (e : σ[i]? = some (some x)) (ps : PS m x H c) (hc : c ≤ 900000000) (q : Ends1 m x c 1 H Q (LooseOk m)) : tCall spLoose [] E (tCons (tVar i) tNil) σ H Q := ⟨x, e, m, x, c, rfl, ps, hc, q⟩
end
end Ad

/-! The law's texts of terms. -/
namespace Ad
open PySem PySem.Spec PySem.Calls PyProof.Rows L2 GxR
abbrev rAddS : R2 := fun x y H Q => ∃ i j, x = .str i ∧ y = .str j ∧ i.length + j.length ≤ sizeLine ∧ Q (.str (i ++ j)) H
theorem cs_app (a b : Str) : Rq.cs (a ++ b) = Rq.cs a ++ Rq.cs b := Array.toList_append
theorem cs_len (a : Str) : (Rq.cs a).length = a.length := Array.length_toList
def SepOk (m : Mode) (mid p1 p2 : List Nat) (w : Str) : Prop := ∃ s1 s2, Rq.Sps s1 ∧ Rq.Sps s2 ∧ s1.length ≤ 1 ∧ s2.length ≤ 1 ∧ Rq.cs w = s1 ++ (mid ++ s2) ∧ (m = none → s1 = p1 ∧ s2 = p2)
theorem two_loose {E : XK} {m : Mode} {x : V} {c : Nat} {σ : L2.St} {H : Hp} {Q : VK} {te : TE} {md : Str} (e : σ[0]? = some (some x)) (ps : PS m x H c) (hc : c + 2 ≤ 900000000) (ht : ∀ (G : Hp) (Q' : VK), Q' (.str md) G → te σ G Q') (lm : md.length ≤ 100)
    (q : ∀ w H' c', SepOk m (Rq.cs md) [] [] w → c' ≤ c + 2 → PS m x H' c' → Fr m H H' → Q (.str w) H') :
    tOp rAddS (tOp rAddS (tCall spLoose [] E (tCons (tVar 0) tNil)) te) (tCall spLoose [] E (tCons (tVar 0) tNil)) σ H Q := by
  refine loose_use e ps (by omega) fun w1 H1 c1 ok1 l1 ps1 f1 => ht _ _ ⟨_, _, rfl, rfl, ?_, ?_⟩
  · have := ok1.2.1
    rw [cs_len] at this
    rw [sizeLine_eq]
    omega
  · refine loose_use e ps1 (by omega) fun w2 H2 c2 ok2 l2 ps2 f2 => ⟨_, _, rfl, rfl, ?_, ?_⟩
    · have h1 := ok1.2.1
      have h2 := ok2.2.1
      have e1 : (w1 ++ md).length = w1.length + md.length := by
        rw [← cs_len, cs_app, List.length_append, cs_len, cs_len]
      rw [cs_len] at h1 h2
      rw [sizeLine_eq, e1]
      omega
    · refine q _ H2 c2 ⟨Rq.cs w1, Rq.cs w2, ok1.1, ok2.1, ok1.2.1, ok2.2.1, by rw [cs_app, cs_app, List.append_assoc], fun z => ⟨by rw [ok1.2.2 z]; rfl, by rw [ok2.2.2 z]; rfl⟩⟩ (by omega) ps2 (f1.trans f2)
/-- plain, or between spaces -/
theorem sep_use {E : XK} {m : Mode} {x : V} {c : Nat} {σ : L2.St} {H : Hp} {Q : VK} {te tp : TE} {md pl : Str} {p1 p2 : List Nat} (e : σ[0]? = some (some x)) (ps : PS m x H c) (hc : c + 2 ≤ 900000000) (ht : ∀ (G : Hp) (Q' : VK), Q' (.str md) G → te σ G Q') (lm : md.length ≤ 100)
    (hp : ∀ (G : Hp) (Q' : VK), Q' (.str pl) G → tp σ G Q') (epl : Rq.cs pl = p1 ++ (Rq.cs md ++ p2)) (h1 : Rq.Sps p1) (h2 : Rq.Sps p2) (h3 : p1.length ≤ 1) (h4 : p2.length ≤ 1)
    (q : ∀ w H' c', SepOk m (Rq.cs md) p1 p2 w → c' ≤ c + 2 → PS m x H' c' → Fr m H H' → Q (.str w) H') :
    tIf (tTest (tOp (fun x y H Q => y = .non ∧ Q (.bl (decide (x = .non))) H) (tVar 0) (tC .non))) tp (tOp rAddS (tOp rAddS (tCall spLoose [] E (tCons (tVar 0) tNil)) te) (tCall spLoose [] E (tCons (tVar 0) tNil))) σ H Q := by
  refine ⟨x, e, rfl, _, congrArg V.bl ps.non, ?_⟩
  match m, ps, q with
  | none, ps, q => exact iteT (hp _ _ (q pl H c ⟨p1, p2, h1, h2, h3, h4, epl, fun _ => ⟨rfl, rfl⟩⟩ (by omega) ps (.refl _ _)))
  | some mm, ps, q => exact iteF (two_loose e ps hc ht lm fun w H' c' ⟨s1, s2, a1, a2, a3, a4, a5, _⟩ l ps' f => q w H' c' ⟨s1, s2, a1, a2, a3, a4, a5, fun z => nomatch z⟩ l ps' f)
def TL1 (m : Mode) (t : T) (l : List Nat) : Prop := Rq.TTx t.d l ∧ (m = none → l = tx t) ∧ l.length + 4 ≤ 30 * t.size
def TLs (m : Mode) : List T → List (List Nat) → Prop
  | [], [] => True
  | t :: ts, l :: ls => TL1 m t l ∧ TLs m ts ls
  | _, _ => False
theorem TLs.snoc {m : Mode} {t : T} {l : List Nat} (h : TL1 m t l) : ∀ {ts : List T} {ls : List (List Nat)}, TLs m ts ls → TLs m (ts ++ [t]) (ls ++ [l])
  | [], [], _ => ⟨h, trivial⟩
  | _ :: _, _ :: _, ⟨h1, h2⟩ => ⟨h1, TLs.snoc h h2⟩
  | [], _ :: _, z => z.elim
  | _ :: _, [], z => z.elim
theorem TLs.len {m : Mode} : ∀ {ts : List T} {ls : List (List Nat)}, TLs m ts ls → ls.length = ts.length
  | [], [], _ => rfl
  | _ :: _, _ :: _, ⟨_, h2⟩ => congrArg Nat.succ (TLs.len h2)
  | [], _ :: _, z => z.elim
  | _ :: _, [], z => z.elim
theorem TLs.sum {m : Mode} : ∀ {ts : List T} {ls : List (List Nat)}, TLs m ts ls → (ls.map List.length).sum + 4 * ts.length ≤ 30 * T.sizeL ts
  | [], [], _ => Nat.zero_le _
  | t :: ts, l :: ls, ⟨⟨_, _, h1⟩, h2⟩ => by
    have := TLs.sum h2
    show l.length + (ls.map List.length).sum + 4 * (ts.length + 1) ≤ 30 * (t.size + T.sizeL ts)
    omega
  | [], _ :: _, z => z.elim
  | _ :: _, [], z => z.elim
theorem joinL_len (a : List Nat) (h : a.length ≤ 3) : ∀ ls : List (List Nat), (TL.joinL a ls).length ≤ (ls.map List.length).sum + 3 * ls.length
  | [] => Nat.zero_le _
  | [l] => by show l.length ≤ l.length + 0 + 3 * 1; omega
  | l :: l2 :: ls => by
    have := joinL_len a h (l2 :: ls)
    show (l ++ (a ++ TL.joinL a (l2 :: ls))).length ≤ l.length + ((l2 :: ls).map List.length).sum + 3 * ((l2 :: ls).length + 1)
    rw [List.length_append, List.length_append]
    omega
theorem join_tls {m : Mode} {s1 s2 : List Nat} (h1 : Rq.Sps s1) (h2 : Rq.Sps s2) : ∀ {ts : List T} {ls : List (List Nat)} {t : T} {l : List Nat}, TLs m (t :: ts) (l :: ls) → ∃ r, TL.joinL (s1 ++ ([44] ++ s2)) (l :: ls) = l ++ r ∧ Rq.TsTx (T.ds ts) r
  | [], [], t, l, _ => ⟨[], (List.append_nil _).symm, .nil⟩
  | t2 :: ts, l2 :: ls, t, l, ⟨_, h3, h4⟩ => by
    obtain ⟨r, e, tr⟩ := join_tls h1 h2 (t := t2) (l := l2) ⟨h3, h4⟩
    refine ⟨s1 ++ 44 :: (s2 ++ (l2 ++ r)), ?_, .cons t2.d (T.ds ts) l2 r s1 s2 h1 h2 h3.1 tr⟩
    show l ++ ((s1 ++ ([44] ++ s2)) ++ TL.joinL (s1 ++ ([44] ++ s2)) (l2 :: ls)) = _
    rw [e]
    simp
  | [], _ :: _, _, _, ⟨_, z⟩ => z.elim
  | _ :: _, [], _, _, ⟨_, z⟩ => z.elim
theorem tls_plain {m : Mode} (hm : m = none) : ∀ {ts : List T} {ls : List (List Nat)}, TLs m ts ls → ls = ts.map tx
  | [], [], _ => rfl
  | t :: ts, l :: ls, ⟨h1, h2⟩ => by rw [h1.2.1 hm, tls_plain hm h2]; rfl
  | [], _ :: _, z => z.elim
  | _ :: _, [], z => z.elim
theorem sizeL_take {ts : List T} : ∀ {i : Nat} {u : T}, ts[i]? = some u → T.sizeL (ts.take (i + 1)) = T.sizeL (ts.take i) + u.size ∧ T.sizeL (ts.take (i + 1)) ≤ T.sizeL ts := by
  induction ts with
  | nil => intro i u e; cases i <;> cases e
  | cons t ts ih =>
    intro i u e
    cases i with
    | zero =>
      cases e
      refine ⟨?_, ?_⟩
      · show t.size + T.sizeL (ts.take 0) = 0 + t.size
        rw [List.take_zero]
        show t.size + 0 = 0 + t.size
        omega
      · show t.size + T.sizeL (ts.take 0) ≤ t.size + T.sizeL ts
        rw [List.take_zero]
        exact Nat.add_le_add_left (Nat.zero_le _) _
    | succ i =>
      obtain ⟨h1, h2⟩ := ih (i := i) (u := u) e
      refine ⟨?_, ?_⟩
      · show t.size + T.sizeL (ts.take (i + 1)) = t.size + T.sizeL (ts.take i) + u.size
        omega
      · show t.size + T.sizeL (ts.take (i + 1)) ≤ t.size + T.sizeL ts
        omega
section
variable {P : Program} {w : World} {K : PySem.W.Frag} {mg : Str → Option Value} {base : Heap}
def spRel : Sp := fun vs H Q _ => ∃ (m : Mode) (x : V) (c : Nat) (sg : Str), vs = [x, .str sg] ∧ PS m x H c ∧ c + 2 ≤ 900000000 ∧ sg.length ≤ 10 ∧ ∀ w H' c', SepOk m (Rq.cs sg) [32] [32] w → c' ≤ c + 2 → PS m x H' c' → Fr m H H' → Q (.str w) H'
abbrev sLRel : Stmt := topS 34
theorem scLRel : FnScope ["_law_pen_here", "_law_sign"] ["_law_pen_here", "_law_sign"] (defScope sLRel) := ⟨rfl, rfl, rfl, by decide +kernel, rfl, by decide +kernel, by decide +kernel⟩
theorem sps1 : Rq.Sps [32] := fun c h => List.mem_singleton.mp h
theorem ok_lrel {f fL : Addr} {fd fdL : FuncData} {k : Nat} (F : Fun K "_law_relation" "_law_relation" sLRel f fd) (hLLoose : Has P w K mg base k "_law_loose" ["_law_pen_here"] spLoose fL fdL) : FnOk P w K mg base CX0 (k + 1) f fd ["_law_pen_here", "_law_sign"] spRel := by
  refine F.ok scLRel (fun vs H Q E h => ?_) (fun cdv A outer s0 H vs Q E hr h => ?_)
  · obtain ⟨m, x, c, sg, rfl, _⟩ := h
    rfl
  · obtain ⟨m, x, c, sg, rfl, ps, hc, lg, q⟩ := h
    refine ⟨_, (pss_one (ps_ret (pe_ifExp (pt_cmpR op_isN (pv 0) pe_non (nomark _)) (pe_op op_add_str (pe_op op_add_str pe_str (pv 1)) pe_str) (pe_op op_add_str (pe_op op_add_str (pe_call hLLoose.G hr (by rfl) hLLoose.g hLLoose.kp hLLoose.b .nil pass0 (pa_cons (pv 0) pa_nil)) (pv 1)) (pe_call hLLoose.G hr (by rfl) hLLoose.g hLLoose.kp hLLoose.b .nil pass0 (pa_cons (pv 0) pa_nil)))))), ?_⟩
    refine sep_use (md := sg) (pl := " " ++ sg ++ " ") (p1 := [32]) (p2 := [32]) rfl ps hc (fun G Q' h => ⟨_, rfl, h⟩) (by omega) (fun G Q' h => ⟨_, rfl, _, _, rfl, rfl, ?_, _, _, rfl, rfl, ?_, h⟩) ?_ sps1 sps1 (Nat.le_refl _) (Nat.le_refl _) q
    · rw [sizeLine_eq]
      show 1 + sg.length ≤ _
      omega
    · have e : ((" " : Str) ++ sg).length = 1 + sg.length := by rw [← cs_len, cs_app, List.length_append, cs_len sg]; rfl
      rw [sizeLine_eq, e]
      show 1 + sg.length + 1 ≤ _
      omega
    · rw [cs_app, cs_app, List.append_assoc]
      rfl
end
end Ad

/-! The law's text of a term. -/
namespace Ad
open PySem PySem.Spec PySem.Calls PyProof.Rows L2 GxR
def spLTx (K : PySem.W.Frag) (n : Nat) : Sp := fun vs H Q _ => ∃ (m : Mode) (x : V) (c : Nat) (t : T) (v : V), vs = [x, v] ∧ PS m x H c ∧ c + 8 * t.size ≤ 900000000 ∧ Tm K H t v ∧ (t = yesT ∨ tok t = true) ∧ t.dep < n ∧ t.size ≤ 1000 ∧
  ∀ w H' c', (t = yesT → Rq.cs w = Rq.cs "yes") → (tok t = true → TL1 m t (Rq.cs w)) → c' ≤ c + 8 * t.size → PS m x H' c' → Fr m H H' → Q (.str w) H'
theorem add_use {ta tb : TE} {σ : L2.St} {H : Hp} {Q : VK} {a : Str} (h : ta σ H fun x H1 => x = .str a ∧ tb σ H1 fun y H2 => ∃ b, y = .str b ∧ a.length + b.length ≤ sizeLine ∧ Q (.str (a ++ b)) H2)
    (mono : ∀ {Q1 Q2 : VK}, (∀ v G, Q1 v G → Q2 v G) → ta σ H Q1 → ta σ H Q2) (mono2 : ∀ {G : Hp} {Q1 Q2 : VK}, (∀ v G, Q1 v G → Q2 v G) → tb σ G Q1 → tb σ G Q2) : tOp rAddS ta tb σ H Q :=
  mono (fun x H1 ⟨e, h2⟩ => by
    subst e
    exact mono2 (fun y H2 ⟨b, e, l, q⟩ => ⟨a, b, rfl, e, l, q⟩) h2) h
section
variable {P : Program} {w : World} {K : PySem.W.Frag} {mg : Str → Option Value} {base : Heap}
abbrev sLTx : Stmt := topS 36
theorem scLTx : FnScope ["_law_pen_here", "_law_term", "_law_comma", "_law_inner", "_law_part"] ["_law_pen_here", "_law_term"] (defScope sLTx) := ⟨rfl, rfl, rfl, by decide +kernel, rfl, by decide +kernel, by decide +kernel⟩
theorem ok_ltx {f fL : Addr} {fd fdL : FuncData} {k : Nat} (F : Fun K "_law_term_text" "_law_term_text" sLTx f fd) (gF : mg "_law_term_text" = some (.ref f)) (bF : Binds K fd ["_law_pen_here", "_law_term"] []) (hLLoose : Has P w K mg base k "_law_loose" ["_law_pen_here"] spLoose fL fdL)
    (mi : mg "isinstance" = none) (mS : mg "str" = none) (mI : mg "int" = none) (ml : mg "len" = none) :
    ∀ n, FnOk P w K mg base CX0 (k + n) f fd ["_law_pen_here", "_law_term"] (spLTx K n)
  | 0 => vac fun vs H Q E ⟨m, x, c, t, v, _, _, _, _, _, z, _⟩ => absurd z (Nat.not_lt_zero _)
  | n + 1 => by
    have IH := ok_ltx (k := k) F gF bF hLLoose mi mS mI ml n
    refine F.ok scLTx (fun vs H Q E h => ?_) (fun cdv A outer s0 H vs Q E hr h => ?_)
    · obtain ⟨m, x, c, t, v, rfl, _⟩ := h
      rfl
    · obtain ⟨m, x, c, t, v, rfl, ps, hc, ht, ok, dep, size, q⟩ := h
      have hrL := hr.mono (Nat.le_add_right k n)
      refine ⟨_, pss_cons (ps_if (pt_val (pe_callB call_isi (by rfl) mi (by decide +kernel) (pa_cons (pv 1) (pa_cons (pe_bltn (v := .ty "int") (by rfl) mI (by decide +kernel) rfl) pa_nil)))) (pss_one (ps_ret (pe_op op_add_str pe_str (pe_callTy call_str_int (by rfl) mS (by decide +kernel) (pa_cons (pv 1) pa_nil))))) pss_nil)
        (pss_cons (ps_if (pt_cmpR op_eq (pe_callB call_len_seq (by rfl) ml (by decide +kernel) (pa_cons (pv 1) pa_nil)) pe_int (nomark _)) (pss_one (ps_ret (pe_ix ix_tup (pv 1) pe_int (fun _ _ => rfl)))) pss_nil)
        (pss_cons (ps_set (i := 2) scLTx.nd rfl (.inl rfl) (pe_ifExp (pt_cmpR op_isN (pv 0) pe_non (nomark _)) pe_str (pe_op op_add_str (pe_op op_add_str (pe_call hLLoose.G hrL (by rfl) hLLoose.g hLLoose.kp hLLoose.b .nil pass0 (pa_cons (pv 0) pa_nil)) pe_str) (pe_call hLLoose.G hrL (by rfl) hLLoose.g hLLoose.kp hLLoose.b .nil pass0 (pa_cons (pv 0) pa_nil)))))
        (pss_cons (ps_set (i := 3) scLTx.nd rfl (.inl rfl) (pe_join (pv 2) (pe_lc (own := [("_law_part", 4)]) (g := gName 4) (tt := tYes) rfl scLTx.nd (pi_tup (pe_slice sl_tup (pv 1) (po_some pe_int) po_none)) (blkOk_by (N := ["_law_pen_here", "_law_term", "_law_comma", "_law_inner", "_law_part"]) (sc := defScope sLTx) (by decide +kernel))
            (fun _ _ _ _ _ => pg_name (i := 4) scLTx.nd rfl (.inl rfl)) (fun _ _ _ _ _ => pts_nil) (fun _ _ _ _ _ => pe_call IH hr (by rfl) gF F.kp bF .nil pass0 (pa_cons (pv 0) (pa_cons (pv 4) pa_nil))))))
        (pss_one (ps_ret (pe_op op_add_str (pe_op op_add_str (pe_op op_add_str (pe_op op_add_str (pe_op op_add_str (pe_op op_add_str (pe_ix ix_tup (pv 1) pe_int (fun _ _ => rfl)) (pe_call hLLoose.G hrL (by rfl) hLLoose.g hLLoose.kp hLLoose.b .nil pass0 (pa_cons (pv 0) pa_nil))) pe_str) (pe_call hLLoose.G hrL (by rfl) hLLoose.g hLLoose.kp hLLoose.b .nil pass0 (pa_cons (pv 0) pa_nil))) (pv 3)) (pe_call hLLoose.G hrL (by rfl) hLLoose.g hLLoose.kp hLLoose.b .nil pass0 (pa_cons (pv 0) pa_nil))) pe_str)))))), ?_⟩
      cases t with
      | v i =>
        cases (show v = .int i from ht)
        have tk : tok (.v i) = true := ok.elim (fun z => nomatch z) id
        obtain ⟨h1, h2⟩ := Bool.and_eq_true_iff.mp (show (decide (0 ≤ i) && Rq.numB i.toNat) = true from tk)
        have h1 := of_decide_eq_true h1
        have e := num_S h1
        have ln := num_len h2
        refine ⟨_, rfl, _, .ty "int", .type "int", .type "int", true, rfl, .ty "int", .base (.int i), kitII, _, rfl, iteT ⟨_, rfl, i, rfl, small_num h1 h2, S [88], _, rfl, rfl, ?_, ?_⟩⟩
        · show (S [88]).length + (Str.ofString (toString i)).length ≤ sizeLine
          rw [e, S_len, S_len, sizeLine_eq]
          show 1 + _ ≤ _
          omega
        · show Q (.str (S [88] ++ Str.ofString (toString i))) H
          rw [e, S_app]
          refine q _ H c (fun z => nomatch z) (fun tk => ⟨tx_ttx tk, fun _ => rfl, ?_⟩) (Nat.le_add_right _ _) ps (.refl _ _)
          show (88 :: Rq.digs i.toNat).length + 4 ≤ 30 * 1
          rw [List.length_cons]
          omega
      | f nm ts =>
        obtain ⟨a, zs, rfl, sq, all⟩ := ht
        have lz := all.len
        refine ⟨_, rfl, _, .ty "int", .type "tuple", .type "int", false, rfl, .ty "int", sq_ty sq, kitTI, _, rfl, iteF ⟨_, rfl, a, _, rfl, .inr sq, rfl, _, rfl, ?_⟩⟩
        cases ts with
        | nil =>
          have z0 : zs = [] := List.length_eq_zero_iff.mp lz
          subst z0
          refine iteT ⟨_, rfl, a, _, 0, .str nm, rfl, rfl, sq, rfl, q nm H c (fun z => by cases z; rfl) (fun tk => ⟨tx_ttx tk, fun _ => rfl, ?_⟩) (Nat.le_add_right _ _) ps (.refl _ _)⟩
          obtain ⟨h1, _⟩ := Bool.and_eq_true_iff.mp (show (namB nm && true) = true from tk)
          have := nam_len (namB_ok h1)
          show _ + 4 ≤ 30 * (1 + 0)
          omega
        | cons t1 ts =>
          have tk : tok (.f nm (t1 :: ts)) = true := ok.elim (fun z => nomatch z) id
          obtain ⟨k1, k2⟩ := Bool.and_eq_true_iff.mp (show (namB nm && toks (t1 :: ts)) = true from tk)
          have nl := nam_len (namB_ok k1)
          have ne : decide (V.int (((V.str nm :: zs).length : Nat) : Int) = V.int 1) = false := decide_eq_false (fun z => by
            injection z with z
            rw [List.length_cons, lz, List.length_cons] at z
            omega)
          rw [ne]
          have enm : (nm : Str).length = (Rq.cs nm).length := Array.length_toList.symm
          have d2 : T.dep (.f nm (t1 :: ts)) = 1 + T.depL (t1 :: ts) := rfl
          have szu : T.size (.f nm (t1 :: ts)) = 1 + T.sizeL (t1 :: ts) := rfl
          have lts := T.len_sizeL (t1 :: ts)
          refine iteF (sep_use (md := S [44]) (pl := ", ") (p1 := []) (p2 := [32]) rfl ps (by omega) (fun G Q' h => h) (by decide) (fun G Q' h => h) rfl .nil sps1 (Nat.zero_le _) (Nat.le_refl _) fun cm H0 c0 okc lc ps0 f0 => ?_)
          obtain ⟨s1, s2, b1, b2, b3, b4, b5, b6⟩ := okc
          have sq0 := (f0.tk ps).sq sq
          have all0 := Tms.mono (f0.tk ps) _ _ all
          refine ⟨_, rfl, ⟨_, rfl⟩, .ref a, rfl, 1, rfl, a, _, rfl, sq0, cut_args.1, fun p1 n1 => ⟨p1, rfl, ⟨_, .inl (.inl upd_same)⟩, fun D nD => ?_⟩⟩
          rw [cut_args.2] at nD ⊢
          have sm1 : Same H0 (upd H0 p1 (.tup zs)) := same_new (fun b o e => e) n1 _
          have m1 : (upd H0 p1 (.tup zs)) p1 = some (.tup zs) := upd_same
          have all1 := Tms.mono (TK.new n1 (.tup zs)) _ _ all0
          have sq1 := (TK.same sm1).sq sq0
          have ps1 := ps0.same sm1
          have f1 := f0.trans (.ofSame sm1)
          generalize upd H0 p1 (.tup zs) = H1 at nD sm1 m1 all1 sq1 ps1 f1 ⊢
          have ap := ps1.fresh nD
          refine lc_tup (K := K) (a := p1) (xs := zs) (fun i G => ∃ ls c', G D = some (.lst (ls.map fun l => V.str (S l))) ∧ TLs m ((t1 :: ts).take i) ls ∧ PS m x G c' ∧ Fr m H1 G ∧ c' ≤ c0 + 8 * T.sizeL ((t1 :: ts).take i))
            ⟨[], c0, upd_same, trivial, ps1.put ap _, (Fr.refl m H1).put nD _, Nat.le_add_right _ _⟩ (fun i G _ ⟨_, _, _, _, _, f, _⟩ => (f.tk ps1).sq (.inl (.inl m1))) ?_ ?_
          · rintro i y G hy ⟨ls, c1, g, tls, psG, fG, lc1⟩
            obtain ⟨u, hu, tu⟩ := (Tms.mono (fG.tk ps1) _ _ all1).get hy
            have hm := List.mem_of_getElem? hu
            have d1 := T.dep_mem hm
            have d3 := T.size_mem hm
            have ilt := (List.getElem?_eq_some_iff.mp hu).1
            obtain ⟨z1, z2⟩ := sizeL_take hu
            have ll := tls.len
            rw [List.length_take] at ll
            refine ⟨rfl, x, rfl, y, rfl, m, x, c1, u, y, rfl, psG, by omega, tu, .inr (toks_get k2 hu), by omega, by omega, fun w2 G2 c2 _ ht2 l2 ps2 f2 => ⟨_, f2.lst psG g, by rw [List.length_map, sizeLine_eq]; omega, ls ++ [Rq.cs w2], c2, ?_, ?_, ps2.put ap _, (fG.trans f2).put nD _, by omega⟩⟩
            · rw [upd_same, List.map_append]
              rfl
            · rw [List.take_add_one, hu]
              exact TLs.snoc (ht2 (toks_get k2 hu)) tls
          · rintro G ⟨ls, c1, g, tls, psG, fG, lc1⟩
            rw [lz, List.take_length] at tls lc1
            have sumb := tls.sum
            have lenb := tls.len
            have cl : (Rq.cs cm).length ≤ 3 := by
              rw [b5, List.length_append, List.length_append]
              show _ + (1 + _) ≤ 3
              omega
            have jb := joinL_len (Rq.cs cm) cl ls
            refine ⟨cm, D, ls.map S, rfl, rfl, .inl (.inl (.inl (by rw [g, List.map_map]; rfl))), ?_, ?_⟩
            · have e1 : (ls.map S).map (fun z : Str => z.length) = ls.map List.length := by
                rw [List.map_map]
                exact List.map_congr_left fun t _ => S_len _
              rw [e1, List.length_map, ← cs_len cm]
              have : ls.length * (Rq.cs cm).length ≤ ls.length * 3 := Nat.mul_le_mul_left _ cl
              omega
            · have ej : Txt.join cm (ls.map S) = S (TL.joinL (Rq.cs cm) ls) := join_S (Rq.cs cm) ls
              rw [ej]
              have sqG := (fG.tk ps1).sq sq1
              have lsize : T.sizeL (t1 :: ts) ≤ 1000 := by omega
              have cb : c1 + 3 ≤ 900000000 := by omega
              refine ⟨_, rfl, a, _, 0, .str nm, rfl, rfl, sqG, atI_nat (j := 0) rfl, loose_use rfl psG (by omega) fun w1 G1 c2 ok1 l1 ps1' f1' => ⟨_, _, rfl, rfl, ?_, _, S [40], rfl, rfl, ?_, loose_use rfl ps1' (by omega) fun w2 G2 c3 ok2 l2 ps2' f2' => ⟨_, _, rfl, rfl, ?_, _, rfl, _, _, rfl, rfl, ?_, loose_use rfl ps2' (by omega) fun w3 G3 c4 ok3 l3 ps3' f3' => ⟨_, _, rfl, rfl, ?_, _, S [41], rfl, rfl, ?_, ?_⟩⟩⟩⟩
              all_goals
                have o1 := ok1.2.1
                try have o2 := ok2.2.1
                try have o3 := ok3.2.1
              · rw [sizeLine_eq, ← cs_len, ← cs_len]
                omega
              · rw [sizeLine_eq, ← cs_len, ← cs_len, cs_app, List.length_append]
                show _ + 1 ≤ _
                omega
              · rw [sizeLine_eq, ← cs_len, ← cs_len, cs_app, cs_app, List.length_append, List.length_append]
                show _ + 1 + _ ≤ _
                omega
              · rw [sizeLine_eq, ← cs_len, ← cs_len, cs_app, cs_app, cs_app, List.length_append, List.length_append, List.length_append]
                show _ + 1 + _ + (TL.joinL (Rq.cs cm) ls).length ≤ _
                omega
              · rw [sizeLine_eq, ← cs_len, ← cs_len, cs_app, cs_app, cs_app, cs_app, List.length_append, List.length_append, List.length_append, List.length_append]
                show _ + 1 + _ + (TL.joinL (Rq.cs cm) ls).length + _ ≤ _
                omega
              · rw [sizeLine_eq, ← cs_len, ← cs_len, cs_app, cs_app, cs_app, cs_app, cs_app, List.length_append, List.length_append, List.length_append, List.length_append, List.length_append]
                show _ + 1 + _ + (TL.joinL (Rq.cs cm) ls).length + _ + 1 ≤ _
                omega
              · match ls, tls, jb, sumb, lenb with
                | l1' :: ls, tls, jb, sumb, lenb =>
                  obtain ⟨r, er, tr⟩ := join_tls b1 b2 tls
                  rw [← b5] at er
                  have ew : Rq.cs (nm ++ w1 ++ S [40] ++ w2 ++ S (TL.joinL (Rq.cs cm) (l1' :: ls)) ++ w3 ++ S [41]) = Rq.cs nm ++ (Rq.cs w1 ++ 40 :: (Rq.cs w2 ++ (l1' ++ (r ++ (Rq.cs w3 ++ [41]))))) := by
                    rw [er]
                    simp only [cs_app, cs_S]
                    simp
                  refine q _ G3 c4 (fun z => nomatch z) (fun _ => ?_) (by omega) ps3' (((f1.trans fG).trans f1').trans (f2'.trans f3'))
                  refine ⟨by rw [ew]; exact .app nm t1.d (T.ds ts) l1' r _ _ _ (namB_ok k1) tls.1.1 tr ok1.1 ok2.1 ok3.1, fun hm => ?_, ?_⟩
                  · rw [ew, ok1.2.2 hm, ok2.2.2 hm, ok3.2.2 hm]
                    have e2 := tls_plain hm tls
                    have e3 := join_txs t1 ts
                    have e4 : Rq.cs cm = [44, 32] := by rw [b5, (b6 hm).1, (b6 hm).2]; rfl
                    rw [e4, e2, e3] at er
                    show Rq.cs nm ++ 40 :: (l1' ++ (r ++ [41])) = Rq.cs nm ++ 40 :: (tx t1 ++ (txs ts ++ [41]))
                    rw [← List.append_assoc l1', ← er, List.append_assoc]
                  · rw [ew]
                    rw [er, List.length_append] at jb
                    simp only [List.length_append, List.length_cons, List.length_nil]
                    omega
end
end Ad

/-! The law's texts of literals and clauses. -/
namespace Ad
open PySem PySem.Spec PySem.Calls PyProof.Rows L2 GxR
/-- a literal that the law tells -/
structure LitT (q : L3) : Prop extends LitOk3 q where
  y : isY q.2.2 = true → ∃ nm ts, q.2.1 = .f nm ts
def LL1 (m : Mode) (q : L3) (l : List Nat) : Prop := Rq.LTx q.d l ∧ (m = none → l = lx q) ∧ l.length ≤ 61000
theorem stx_of {m : Mode} {t : T} {l : List Nat} (ok : t = yesT ∨ tok t = true) (size : t.size ≤ 1000) (h1 : t = yesT → l = Rq.cs "yes") (h2 : tok t = true → TL1 m t l) : Rq.STx t.d l ∧ (m = none → l = tx t) ∧ l.length ≤ 30000 := by
  rcases ok with rfl | tk
  · have e := h1 rfl
    subst e
    exact ⟨.inl ⟨rfl, rfl⟩, fun _ => rfl, by decide +kernel⟩
  · obtain ⟨a, b, c⟩ := h2 tk
    exact ⟨.inr a, b, by omega⟩
theorem l3_canLay {q : L3} (h : LitOk3 q) : q.d.canLay0 = true ∧ q.d.depth ≤ 20 := by
  obtain ⟨b, l, r⟩ := q
  have n1 := h.l.named
  have n2 := h.r.named
  have d1 := h.l.dep
  have d2 := h.r.dep
  refine ⟨?_, ?_⟩
  · show (true && (l.d.canLay0 && (r.d.canLay0 && true))) = true
    rw [T.d_lay l n1, T.d_lay r n2]
    rfl
  · show max 0 (max l.d.depth (max r.d.depth 0)) + 1 ≤ 20
    rw [T.d_depth, T.d_depth]
    have d1 : l.dep < 10 := d1
    have d2 : r.dep < 10 := d2
    omega
def cD (qs : List L3) : PyData := .tuple (qs.map L3.d)
theorem cD_shaped {qs : List L3} (h : ∀ q ∈ qs, LitOk3 q) : SeqAt.shaped (cD qs) = true ∧ (cD qs).canLay0 = true ∧ (cD qs).depth ≤ 21 := by
  have key : ∀ qs : List L3, (∀ q ∈ qs, LitOk3 q) → PyData.canLayAll0 (qs.map L3.d) = true ∧ PyData.depthAll (qs.map L3.d) ≤ 20 := fun qs => by
    induction qs with
    | nil => exact fun _ => ⟨rfl, Nat.zero_le _⟩
    | cons q qs ih =>
      intro h
      obtain ⟨a1, a2⟩ := l3_canLay (h q List.mem_cons_self)
      obtain ⟨b1, b2⟩ := ih fun p hp => h p (List.mem_cons_of_mem _ hp)
      refine ⟨?_, ?_⟩
      · show (q.d.canLay0 && PyData.canLayAll0 (qs.map L3.d)) = true
        rw [a1, b1]
        rfl
      · show max q.d.depth (PyData.depthAll (qs.map L3.d)) ≤ 20
        omega
  obtain ⟨k1, k2⟩ := key qs h
  have e : (cD qs).depth ≤ 21 := by
    show PyData.depthAll (qs.map L3.d) + 1 ≤ 21
    omega
  refine ⟨?_, k1, e⟩
  unfold SeqAt.shaped
  rw [show (cD qs).canLay0 = true from k1]
  exact decide_eq_true (by omega)
theorem LitV.dp {K : PySem.W.Frag} {H : Hp} {q : L3} {v : V} (h : LitV K H q v) : Dp K H v q.d := by
  obtain ⟨a, x, y, rfl, sq, h1, h2⟩ := h
  exact .tup sq (.cons (.bl _) (.cons h1.dp (.cons h2.dp .nil)))
theorem ClV.dp {K : PySem.W.Frag} {H : Hp} {qs : List L3} {v : V} (h : ClV K H qs v) : Dp K H v (cD qs) := by
  obtain ⟨a, vs, rfl, sq, f⟩ := h
  refine .tup sq ?_
  clear sq
  induction qs generalizing vs with
  | nil => cases (show vs = [] from f); exact .nil
  | cons q qs ih =>
    obtain ⟨v, vs', rfl, h1, h2⟩ := f
    exact .cons h1.dp (ih vs' h2)
theorem eqvT_nil' (ds : List PyData) : PyData.eqv (.tuple ds) (.tuple []) = ds.isEmpty := by
  cases ds <;> first | rfl | (simp [PyData.eqv, PyData.eqvAll])
section
variable {P : Program} {w : World} {K : PySem.W.Frag} {mg : Str → Option Value} {base : Heap}
def spLLit (K : PySem.W.Frag) : Sp := fun vs H Q _ => ∃ (m : Mode) (x : V) (c : Nat) (q : L3) (v : V), vs = [x, v] ∧ PS m x H c ∧ c + 20000 ≤ 900000000 ∧ LitV K H q v ∧ LitT q ∧ ∀ w H' c', LL1 m q (Rq.cs w) → c' ≤ c + 17000 → PS m x H' c' → Fr m H H' → Q (.str w) H'
abbrev sLLit : Stmt := topS 37
theorem scLLit : FnScope ["_law_pen_here", "_law_literal", "_law_sign", "_law_left", "_law_right"] ["_law_pen_here", "_law_literal"] (defScope sLLit) := ⟨rfl, rfl, rfl, by decide +kernel, rfl, by decide +kernel, by decide +kernel⟩
theorem tt_use {E : XK} {m : Mode} {x : V} {c i : Nat} {σ : L2.St} {H : Hp} {Q : VK} {t : T} {v : V} (e0 : σ[0]? = some (some x)) (e : σ[i]? = some (some v)) (ps : PS m x H c) (hc : c + 8 * t.size ≤ 900000000) (ht : Tm K H t v) (ok : SideN t)
    (q : ∀ w H' c', Rq.STx t.d (Rq.cs w) → (m = none → Rq.cs w = tx t) → (Rq.cs w).length ≤ 30000 → c' ≤ c + 8 * t.size → PS m x H' c' → Fr m H H' → Q (.str w) H') : tCall (spLTx K 10) [] E (tCons (tVar 0) (tCons (tVar i) tNil)) σ H Q :=
  ⟨x, e0, v, e, m, x, c, t, v, rfl, ps, hc, ht, ok.ok, ok.dep, ok.size, fun w H' c' h1 h2 l ps' f => by
    obtain ⟨a, b, cc⟩ := stx_of ok.ok ok.size h1 h2
    exact q w H' c' a b cc l ps' f⟩
theorem ok_llit {f fG fT fR : Addr} {fd fdG fdT fdR : FuncData} {k : Nat} (F : Fun K "_law_literal_text" "_law_literal_text" sLLit f fd) (hLGap : Has P w K mg base k "_law_gap" ["_law_pen_here"] spGap fG fdG)
    (hLTermText : Has P w K mg base k "_law_term_text" ["_law_pen_here", "_law_term"] (spLTx K 10) fT fdT) (hLRelation : Has P w K mg base k "_law_relation" ["_law_pen_here", "_law_sign"] spRel fR fdR) (mi : mg "isinstance" = none) (mT : mg "tuple" = none) :
    FnOk P w K mg base CX0 (k + 1) f fd ["_law_pen_here", "_law_literal"] (spLLit K) := by
  refine F.ok scLLit (fun vs H Q E h => ?_) (fun cdv A outer s0 H vs Q E hr h => ?_)
  · obtain ⟨m, x, c, q, v, rfl, _⟩ := h
    rfl
  · obtain ⟨m, x, c, q, v, rfl, ps, hc, ⟨a, y, z, rfl, sq, hy, hz⟩, ok, qq⟩ := h
    refine ⟨_, pss_cons (ps_asg (pv 1) (pg_tup rfl (pgs_cons (pg_name (i := 2) scLLit.nd rfl (.inl rfl)) (pgs_cons (pg_name (i := 3) scLLit.nd rfl (.inl rfl)) (pgs_cons (pg_name (i := 4) scLLit.nd rfl (.inl rfl)) pgs_nil)))))
    (pss_cons (ps_if (PW.pt (pw_and (pt_cmpR (op_eqD (hu64 hr)) (pv 4) (pe_tup (pa_cons pe_str pa_nil)) (nomark _)) (pw_and1 (PW.pt (pw_or (pt_cmpR op_isN (pv 0) pe_non (nomark _)) (pw_or1 (pt_val (pe_callB call_isi (by rfl) mi (by decide +kernel) (pa_cons (pv 3) (pa_cons (pe_bltn (v := .ty "tuple") (by rfl) mT (by decide +kernel) rfl) pa_nil))))))))))
      (pss_one (ps_ret (pe_op op_add_str (pe_ifExp (pt_true (pv 2)) pe_str (pe_op op_add_str pe_str (pe_call hLGap.G hr (by rfl) hLGap.g hLGap.kp hLGap.b .nil pass0 (pa_cons (pv 0) pa_nil)))) (pe_call hLTermText.G hr (by rfl) hLTermText.g hLTermText.kp hLTermText.b .nil pass0 (pa_cons (pv 0) (pa_cons (pv 3) pa_nil)))))) pss_nil)
    (pss_one (ps_ret (pe_op op_add_str (pe_op op_add_str (pe_call hLTermText.G hr (by rfl) hLTermText.g hLTermText.kp hLTermText.b .nil pass0 (pa_cons (pv 0) (pa_cons (pv 3) pa_nil))) (pe_call hLRelation.G hr (by rfl) hLRelation.g hLRelation.kp hLRelation.b .nil pass0 (pa_cons (pv 0) (pa_cons (pe_ifExp (pt_true (pv 2)) pe_str pe_str) pa_nil)))) (pe_call hLTermText.G hr (by rfl) hLTermText.g hLTermText.kp hLTermText.b .nil pass0 (pa_cons (pv 0) (pa_cons (pv 4) pa_nil))))))), ?_⟩
    refine ⟨_, rfl, _, _, rfl, sq, rfl, _, _, rfl, _, _, rfl, _, _, rfl, rfl, ?_⟩
    refine ⟨z, rfl, by show 1 ≤ sizeLine; rw [sizeLine_eq]; decide, fun t nt => ?_⟩
    have sm := same_new (H := H) (fun b o e => e) nt (.tup [.str "yes"])
    have k1 := TK.same sm
    have hd : Dp K (upd H t (.tup [.str "yes"])) (.ref t) (.tuple [.str "yes"]) := .tup (.inl (.inl upd_same)) (.cons (.str _) .nil)
    have hy1 := hy.mono k1
    have hz1 := hz.mono k1
    have ps1 := ps.same sm
    generalize upd H t (.tup [.str "yes"]) = H1 at sm hd hy1 hz1 ps1 ⊢
    obtain ⟨s1, s2, s3⟩ := yes_eq (K := K) (X := cxOf CX0 P w K mg base [] "" (defScope sLLit) f cdv A outer s0 H E) ok.r.named (by have := ok.r.dep; omega)
    refine ⟨_, _, hz1.dp, hd, s1, s2, _, congrArg V.bl s3, ?_⟩
    obtain ⟨b, l, r⟩ := q
    have szl : l.size ≤ 1000 := ok.l.size
    have szr : r.size ≤ 1000 := ok.r.size
    replace hy1 : Tm K H1 l y := hy1
    replace hz1 : Tm K H1 r z := hz1
    have okl : SideN l := ok.l
    have okr : SideN r := ok.r
    cases hY : isY r with
    | true =>
      obtain ⟨nm, ts, el⟩ := ok.y hY
      have el : l = .f nm ts := el
      have eD : L3.d (b, l, r) = Rq.lit3 b l.d Rq.yesD := by rw [isY_ok hY]; rfl
      have hI : Rq.isI l.d = false := by rw [el]; rfl
      have test : ∀ Q' : Bool → Hp → Prop, Q' true H1 → tOr (tTest (tOp (fun x y H Q => y = .non ∧ Q (.bl (decide (x = .non))) H) (tVar 0) (tC .non))) (tB (tCB (rIsi K) (tCons (tVar 3) (tCons (tC (.ty "tuple")) tNil)))) [some x, some (.ref a), some (.bl b), some y, some z] H1 Q' := fun Q' h => by
        refine ⟨x, rfl, rfl, _, congrArg V.bl ps.non, ?_⟩
        cases m with
        | none => exact iteT h
        | some mm =>
          refine iteF ⟨_, rfl, _, .ty "tuple", .type "tuple", .type "tuple", true, rfl, .ty "tuple", ?_, kitTT, _, rfl, h⟩
          rw [el] at hy1
          exact tm_tuple hy1
      refine iteT (test _ (iteT ⟨.bl b, rfl, b, rfl, ?_⟩))
      cases b with
      | true =>
        refine iteT (tt_use rfl rfl ps1 (by omega) hy1 okl fun w2 H2 c2 st pl ln lc ps2 f2 => ⟨_, _, rfl, rfl, ?_, ?_⟩)
        · rw [sizeLine_eq, ← cs_len, ← cs_len]
          show 0 + _ ≤ _
          omega
        · have e : Rq.cs (("" : Str) ++ w2) = Rq.cs w2 := by rw [cs_app]; rfl
          refine qq _ H2 c2 ⟨by rw [e, eD]; exact .yes _ _ st hI, fun hm => ?_, by rw [e]; omega⟩ (by omega) ps2 ((Fr.ofSame sm).trans f2)
          rw [e, pl hm]
          unfold lx
          rw [if_pos hY, if_pos rfl]
      | false =>
        refine iteF ⟨x, rfl, m, x, c, rfl, ps1, by omega, fun g H2 c2 okg lc ps2 f2 => ⟨_, _, rfl, rfl, ?_, ?_⟩⟩
        · have := okg.2.2.1
          rw [sizeLine_eq, ← cs_len, ← cs_len]
          show 3 + _ ≤ _
          omega
        · have hy2 := hy1.mono (f2.tk ps1)
          refine tt_use rfl rfl ps2 (by omega) hy2 okl fun w2 H3 c3 st pl ln lc3 ps3 f3 => ⟨_, _, rfl, rfl, ?_, ?_⟩
          · have := okg.2.2.1
            rw [sizeLine_eq, ← cs_len, ← cs_len, cs_app, List.length_append]
            show 3 + _ + _ ≤ _
            omega
          · have e : Rq.cs (("not" : Str) ++ g ++ w2) = Rq.cs "not" ++ (Rq.cs g ++ Rq.cs w2) := by rw [cs_app, cs_app, List.append_assoc]
            refine qq _ H3 c3 ⟨by rw [e, eD]; exact .no _ _ _ st hI okg.1 okg.2.1, fun hm => ?_, ?_⟩ (by omega) ps3 ((Fr.ofSame sm).trans (f2.trans f3))
            · rw [e, pl hm, okg.2.2.2 hm]
              unfold lx
              rw [if_pos hY, if_neg (show ¬ (false = true) from Bool.false_ne_true)]
              rfl
            · have := okg.2.2.1
              rw [e, List.length_append, List.length_append]
              show 3 + _ ≤ _
              omega
    | false =>
      refine iteF (iteF ?_)
      refine tt_use rfl rfl ps1 (by omega) hy1 okl fun w2 H2 c2 st pl ln lc ps2 f2 => ⟨x, rfl, .bl b, rfl, b, rfl, ?_⟩
      have hz2 := hz1.mono (f2.tk ps1)
      have fin : ∀ (sg : Str) (mid : List Nat), Rq.cs sg = mid → sg.length ≤ 2 → (∀ s1 s2 y2, Rq.Sps s1 → Rq.Sps s2 → Rq.STx r.d y2 → Rq.LTx (L3.d (b, l, r)) (Rq.cs w2 ++ (s1 ++ (mid ++ (s2 ++ y2))))) → (lx (b, l, r) = tx l ++ ([32] ++ (mid ++ ([32] ++ tx r)))) →
          spRel [x, .str sg] H2 (fun y3 H3 => rAddS (.str w2) y3 H3 fun x4 H4 => tCall (spLTx K 10) [] E0 (tCons (tVar 0) (tCons (tVar 4) tNil)) [some x, some (.ref a), some (.bl b), some y, some z] H4 fun y5 H5 => rAddS x4 y5 H5 Q) E0 := fun sg mid em ls hL hx => by
        refine ⟨m, x, c2, sg, rfl, ps2, by omega, by omega, fun w3 H3 c3 ⟨s1, s2, a1, a2, a3, a4, a5, a6⟩ lc3 ps3 f3 => ⟨_, _, rfl, rfl, ?_, ?_⟩⟩
        · rw [sizeLine_eq, ← cs_len, ← cs_len, a5, List.length_append, List.length_append, cs_len sg]
          omega
        · have hz3 := hz2.mono (f3.tk ps2)
          refine tt_use rfl rfl ps3 (by omega) hz3 okr fun w4 H4 c4 st4 pl4 ln4 lc4 ps4 f4 => ⟨_, _, rfl, rfl, ?_, ?_⟩
          · rw [sizeLine_eq, ← cs_len, ← cs_len, cs_app, a5, List.length_append, List.length_append, List.length_append, cs_len sg]
            omega
          · have e : Rq.cs (w2 ++ w3 ++ w4) = Rq.cs w2 ++ (s1 ++ (mid ++ (s2 ++ Rq.cs w4))) := by
              rw [cs_app, cs_app, a5, em]
              simp
            have lm : mid.length ≤ 2 := by rw [← em, cs_len]; exact ls
            refine qq _ H4 c4 ⟨by rw [e]; exact hL s1 s2 _ a1 a2 st4, fun hm => ?_, ?_⟩ (by omega) ps4 ((Fr.ofSame sm).trans ((f2.trans f3).trans f4))
            · rw [e, pl hm, pl4 hm, (a6 hm).1, (a6 hm).2, hx]
            · rw [e, List.length_append, List.length_append, List.length_append, List.length_append]
              omega
      have nY : ¬ isY r = true := by rw [hY]; exact Bool.false_ne_true
      cases b with
      | true =>
        refine iteT (fin "=" [61] rfl (by decide) (fun s1 s2 y2 a1 a2 st2 => ?_) ?_)
        · exact .eqn l.d r.d (Rq.cs w2) y2 s1 s2 st st2 a1 a2
        · unfold lx
          rw [if_neg nY, if_pos rfl]
          rfl
      | false =>
        refine iteF (fin "!=" [33, 61] rfl (by decide) (fun s1 s2 y2 a1 a2 st2 => ?_) ?_)
        · exact .nqn l.d r.d (Rq.cs w2) y2 s1 s2 st st2 a1 a2
        · unfold lx
          rw [if_neg nY, if_neg (show ¬ (false = true) from Bool.false_ne_true)]
          rfl
end
end Ad

/-! The law's text of a clause. -/
namespace Ad
open PySem PySem.Spec PySem.Calls PyProof.Rows L2 GxR
def LLs (m : Mode) : List L3 → List (List Nat) → Prop
  | [], [] => True
  | q :: qs, l :: ls => LL1 m q l ∧ LLs m qs ls
  | _, _ => False
theorem LLs.snoc {m : Mode} {q : L3} {l : List Nat} (h : LL1 m q l) : ∀ {qs : List L3} {ls : List (List Nat)}, LLs m qs ls → LLs m (qs ++ [q]) (ls ++ [l])
  | [], [], _ => ⟨h, trivial⟩
  | _ :: _, _ :: _, ⟨h1, h2⟩ => ⟨h1, LLs.snoc h h2⟩
  | [], _ :: _, z => z.elim
  | _ :: _, [], z => z.elim
theorem LLs.sum {m : Mode} : ∀ {qs : List L3} {ls : List (List Nat)}, LLs m qs ls → (ls.map List.length).sum ≤ 61000 * qs.length ∧ ls.length = qs.length
  | [], [], _ => ⟨Nat.zero_le _, rfl⟩
  | q :: qs, l :: ls, ⟨⟨_, _, h1⟩, h2⟩ => by
    obtain ⟨a, b⟩ := LLs.sum h2
    refine ⟨?_, congrArg Nat.succ b⟩
    show l.length + (ls.map List.length).sum ≤ 61000 * (qs.length + 1)
    omega
  | [], _ :: _, z => z.elim
  | _ :: _, [], z => z.elim
theorem join_lls {m : Mode} {s1 s2 : List Nat} (h1 : Rq.Sps s1) (h2 : Rq.Sps s2) : ∀ {qs : List L3} {ls : List (List Nat)} {q : L3} {l : List Nat}, LLs m (q :: qs) (l :: ls) → ∃ r, TL.joinL (s1 ++ ([124] ++ s2)) (l :: ls) = l ++ r ∧ Rq.LsTx (qs.map L3.d) r
  | [], [], q, l, _ => ⟨[], (List.append_nil _).symm, .nil⟩
  | q2 :: qs, l2 :: ls, q, l, ⟨_, h3, h4⟩ => by
    obtain ⟨r, e, tr⟩ := join_lls h1 h2 (q := q2) (l := l2) ⟨h3, h4⟩
    refine ⟨s1 ++ 124 :: (s2 ++ (l2 ++ r)), ?_, .cons q2.d (qs.map L3.d) l2 r s1 s2 h1 h2 h3.1 tr⟩
    show l ++ ((s1 ++ ([124] ++ s2)) ++ TL.joinL (s1 ++ ([124] ++ s2)) (l2 :: ls)) = _
    rw [e]
    simp
  | [], _ :: _, _, _, ⟨_, z⟩ => z.elim
  | _ :: _, [], _, _, ⟨_, z⟩ => z.elim
theorem lls_plain {m : Mode} (hm : m = none) : ∀ {qs : List L3} {ls : List (List Nat)}, LLs m qs ls → ls = qs.map lx
  | [], [], _ => rfl
  | q :: qs, l :: ls, ⟨h1, h2⟩ => by rw [h1.2.1 hm, lls_plain hm h2]; rfl
  | [], _ :: _, z => z.elim
  | _ :: _, [], z => z.elim
section
variable {P : Program} {w : World} {K : PySem.W.Frag} {mg : Str → Option Value} {base : Heap}
def spLText (K : PySem.W.Frag) : Sp := fun vs H Q _ => ∃ (m : Mode) (x : V) (c : Nat) (qs : List L3) (v : V), vs = [x, v] ∧ PS m x H c ∧ c + 300000 ≤ 900000000 ∧ ClV K H qs v ∧ (∀ q ∈ qs, LitT q) ∧ qs.length ≤ 10 ∧
  ∀ w H' c', Rq.CTx (cD qs) (Rq.cs w) → (m = none → Rq.cs w = cx qs) → (Rq.cs w).length ≤ 700000 → c' ≤ c + 200000 → PS m x H' c' → Fr m H H' → Q (.str w) H'
abbrev sLText : Stmt := topS 38
theorem scLText : FnScope ["_law_pen_here", "_law_clause", "_law_bar", "_law_literal"] ["_law_pen_here", "_law_clause"] (defScope sLText) := ⟨rfl, rfl, rfl, by decide +kernel, rfl, by decide +kernel, by decide +kernel⟩
theorem ok_ltext {f fL fT : Addr} {fd fdL fdT : FuncData} {k : Nat} (F : Fun K "_law_text" "_law_text" sLText f fd) (hLLoose : Has P w K mg base k "_law_loose" ["_law_pen_here"] spLoose fL fdL) (hLLit : Has P w K mg base k "_law_literal_text" ["_law_pen_here", "_law_literal"] (spLLit K) fT fdT) :
    FnOk P w K mg base CX0 (k + 1) f fd ["_law_pen_here", "_law_clause"] (spLText K) := by
  refine F.ok scLText (fun vs H Q E h => ?_) (fun cdv A outer s0 H vs Q E hr h => ?_)
  · obtain ⟨m, x, c, qs, v, rfl, _⟩ := h
    rfl
  · obtain ⟨m, x, c, qs, v, rfl, ps, hc, cl, ok, few, qq⟩ := h
    refine ⟨_, pss_cons (ps_if (pt_cmpR (op_eqD (hu64 hr)) (pv 1) (pe_tup pa_nil) (nomark _))
      (pss_one (ps_ret (pe_op op_add_str (pe_op op_add_str (pe_call hLLoose.G hr (by rfl) hLLoose.g hLLoose.kp hLLoose.b .nil pass0 (pa_cons (pv 0) pa_nil)) pe_str) (pe_call hLLoose.G hr (by rfl) hLLoose.g hLLoose.kp hLLoose.b .nil pass0 (pa_cons (pv 0) pa_nil))))) pss_nil)
    (pss_cons (ps_set (i := 2) scLText.nd rfl (.inl rfl) (pe_ifExp (pt_cmpR op_isN (pv 0) pe_non (nomark _)) pe_str (pe_op op_add_str (pe_op op_add_str (pe_call hLLoose.G hr (by rfl) hLLoose.g hLLoose.kp hLLoose.b .nil pass0 (pa_cons (pv 0) pa_nil)) pe_str) (pe_call hLLoose.G hr (by rfl) hLLoose.g hLLoose.kp hLLoose.b .nil pass0 (pa_cons (pv 0) pa_nil)))))
    (pss_one (ps_ret (pe_op op_add_str (pe_op op_add_str (pe_call hLLoose.G hr (by rfl) hLLoose.g hLLoose.kp hLLoose.b .nil pass0 (pa_cons (pv 0) pa_nil)) (pe_join (pv 2) (pe_lc (own := [("_law_literal", 3)]) (g := gName 3) (tt := tYes) rfl scLText.nd (pi_tup (pv 1)) (blkOk_by (N := ["_law_pen_here", "_law_clause", "_law_bar", "_law_literal"]) (sc := defScope sLText) (by decide +kernel))
            (fun _ _ _ _ _ => pg_name (i := 3) scLText.nd rfl (.inl rfl)) (fun _ _ _ _ _ => pts_nil) (fun _ _ _ _ _ => pe_call hLLit.G hr (by rfl) hLLit.g hLLit.kp hLLit.b .nil pass0 (pa_cons (pv 0) (pa_cons (pv 3) pa_nil)))))) (pe_call hLLoose.G hr (by rfl) hLLoose.g hLLoose.kp hLLoose.b .nil pass0 (pa_cons (pv 0) pa_nil)))))), ?_⟩
    obtain ⟨a, vs, rfl, sq, all⟩ := cl
    refine ⟨_, rfl, Nat.zero_le _, fun t nt => ?_⟩
    have sm := same_new (H := H) (fun b o e => e) nt (.tup [])
    have hd : Dp K (upd H t (.tup [])) (.ref t) (.tuple []) := .tup (.inl (.inl upd_same)) .nil
    have ps1 := ps.same sm
    have cl1 : ClV K (upd H t (.tup [])) qs (.ref a) := ClV.tk (TK.same sm) ⟨a, vs, rfl, sq, all⟩
    have sq1 := (TK.same sm).sq sq
    have all1 := all.mono (fun q v => LitV.tk (K := K) (q := q) (v := v) (TK.same sm))
    generalize upd H t (.tup []) = H1 at sm hd ps1 cl1 sq1 all1 ⊢
    refine ⟨_, _, cl1.dp, hd, (cD_shaped fun q hq => (ok q hq).toLitOk3).1, rfl, _, congrArg V.bl (eqvT_nil' _), ?_⟩
    have lz := all1.len
    match qs, lz, few, ok, all1, qq with
    | [], lz, few, ok, all1, qq =>
      refine iteT (two_loose (md := "[]") rfl ps1 (by omega) (fun G Q' h => h) (by decide) fun w H2 c2 ⟨s1, s2, a1, a2, a3, a4, a5, a6⟩ lc ps2 f2 => ?_)
      refine qq w H2 c2 (by rw [a5]; exact .nil s1 s2 a1 a2) (fun hm => by rw [a5, (a6 hm).1, (a6 hm).2]; rfl) ?_ (by omega) ps2 ((Fr.ofSame sm).trans f2)
      rw [a5, List.length_append, List.length_append]
      show _ + (2 + _) ≤ _
      omega
    | q :: qs, lz, few, ok, all1, qq =>
      refine iteF (sep_use (md := "|") (pl := " | ") (p1 := [32]) (p2 := [32]) rfl ps1 (by omega) (fun G Q' h => h) (by decide) (fun G Q' h => h) rfl sps1 sps1 (Nat.le_refl _) (Nat.le_refl _) fun bm H2 c2 ⟨s1, s2, a1, a2, a3, a4, a5, a6⟩ lc2 ps2 f2 => ?_)
      refine loose_use rfl ps2 (by omega) fun w1 H3 c3 ok1 lc3 ps3 f3 => ⟨_, rfl, ⟨_, rfl⟩, .ref a, rfl, a, rfl, ?_, fun D nD => ?_⟩
      · exact ⟨_, (f3.tk ps2).sq ((f2.tk ps1).sq sq1)⟩
      have sq3 := (f3.tk ps2).sq ((f2.tk ps1).sq sq1)
      have all3 := all1.mono (fun q v => LitV.tk (K := K) (q := q) (v := v) ((f2.tk ps1).trans (f3.tk ps2)))
      have ap := ps3.fresh nD
      have f03 := ((Fr.ofSame sm).trans f2).trans f3
      refine lc_tup (K := K) (a := a) (xs := vs) (fun i G => ∃ ls c', G D = some (.lst (ls.map fun l => V.str (S l))) ∧ LLs m ((q :: qs).take i) ls ∧ PS m x G c' ∧ Fr m H3 G ∧ c' ≤ c3 + 17000 * i)
        ⟨[], c3, upd_same, trivial, ps3.put ap _, (Fr.refl m H3).put nD _, Nat.le_add_right _ _⟩ (fun i G _ ⟨_, _, _, _, _, f, _⟩ => (f.tk ps3).sq sq3) ?_ ?_
      · rintro i y G hy ⟨ls, c4, g, lls, psG, fG, lc4⟩
        obtain ⟨u, hu, tu⟩ := (all3.mono (fun q v => LitV.tk (K := K) (q := q) (v := v) (fG.tk ps3))).get hy
        have hm := List.mem_of_getElem? hu
        have ilt := (List.getElem?_eq_some_iff.mp hu).1
        have ll := lls.sum.2
        rw [List.length_take] at ll
        refine ⟨rfl, x, rfl, y, rfl, m, x, c4, u, y, rfl, psG, by omega, tu, ok u hm, fun w2 G2 c5 h2 l2 ps5 f5 => ⟨_, f5.lst psG g, by rw [List.length_map, sizeLine_eq]; omega, ls ++ [Rq.cs w2], c5, ?_, ?_, ps5.put ap _, (fG.trans f5).put nD _, by rw [Nat.mul_add]; omega⟩⟩
        · rw [upd_same, List.map_append]
          rfl
        · rw [List.take_add_one, hu]
          exact LLs.snoc h2 lls
      · rintro G ⟨ls, c4, g, lls, psG, fG, lc4⟩
        rw [lz, List.take_length] at lls
        rw [lz] at lc4
        obtain ⟨sumb, lenb⟩ := lls.sum
        have cl : (Rq.cs bm).length ≤ 3 := by
          rw [a5, List.length_append, List.length_append]
          show _ + (1 + _) ≤ 3
          omega
        have jb := joinL_len (Rq.cs bm) cl ls
        refine ⟨bm, D, ls.map S, rfl, rfl, .inl (.inl (.inl (by rw [g, List.map_map]; rfl))), ?_, ?_⟩
        · have e1 : (ls.map S).map (fun z : Str => z.length) = ls.map List.length := by
            rw [List.map_map]
            exact List.map_congr_left fun t _ => S_len _
          rw [e1, List.length_map, ← cs_len bm]
          have : ls.length * (Rq.cs bm).length ≤ ls.length * 3 := Nat.mul_le_mul_left _ cl
          omega
        · have ej : Txt.join bm (ls.map S) = S (TL.joinL (Rq.cs bm) ls) := join_S (Rq.cs bm) ls
          rw [ej]
          have o1 := ok1.2.1
          refine ⟨_, _, rfl, rfl, ?_, loose_use rfl psG (by omega) fun w2 G2 c5 ok2 lc5 ps5 f5 => ⟨_, _, rfl, rfl, ?_, ?_⟩⟩
          · rw [sizeLine_eq, ← cs_len, ← cs_len]
            show _ + (TL.joinL (Rq.cs bm) ls).length ≤ _
            omega
          · have o2 := ok2.2.1
            rw [sizeLine_eq, ← cs_len, ← cs_len, cs_app, List.length_append]
            show _ + (TL.joinL (Rq.cs bm) ls).length + _ ≤ _
            omega
          · have o2 := ok2.2.1
            match ls, lls, jb, sumb, lenb with
            | l1 :: ls, lls, jb, sumb, lenb =>
              obtain ⟨r, er, tr⟩ := join_lls a1 a2 lls
              have ew : Rq.cs (w1 ++ S (TL.joinL (Rq.cs bm) (l1 :: ls)) ++ w2) = Rq.cs w1 ++ (l1 ++ (r ++ Rq.cs w2)) := by
                have er' : TL.joinL (Rq.cs bm) (l1 :: ls) = l1 ++ r := by rw [a5]; exact er
                rw [er']
                simp only [cs_app, cs_S]
                simp
              have er' : TL.joinL (Rq.cs bm) (l1 :: ls) = l1 ++ r := by rw [a5]; exact er
              refine qq _ G2 c5 (by rw [ew]; exact .cons q.d (qs.map L3.d) l1 r _ _ ok1.1 ok2.1 lls.1.1 tr) (fun hm => ?_) ?_ (by omega) ps5 ((f03.trans fG).trans f5)
              · rw [ew, ok1.2.2 hm, ok2.2.2 hm]
                have e2 := lls_plain hm lls
                have e3 := join_lsx q qs
                have e4 : Rq.cs bm = [32, 124, 32] := by rw [a5, (a6 hm).1, (a6 hm).2]; rfl
                rw [e4, e2, e3] at er'
                show ([] : List Nat) ++ (l1 ++ (r ++ [])) = lx q ++ lsx qs
                rw [List.append_nil, List.nil_append, ← er']
              · rw [er', List.length_append] at jb
                rw [ew, List.length_append, List.length_append, List.length_append]
                omega
end
end Ad

/-! The reader of clauses: literals, clauses. -/
namespace Ad
open PySem PySem.Spec PySem.Calls PyProof.Rows L2
theorem lit_tpo {b : Bool} {l r : PyData} (h1 : tpo l = true) (h2 : tpo r = true) : tpo (Rq.lit3 b l r) = true := by
  show (true && (tpo l && (tpo r && true))) = true
  rw [h1, h2]
  rfl
theorem equation_tpo {l : PyData} {s : List Nat} {d : PyData} {r : List Nat} (hl : tpo l = true) (h : Rq.equation l s = .ok d r) : tpo d = true := by
  unfold Rq.equation at h
  split at h
  · rw [Rq.map_bind] at h
    cases e : Rq.side (Rq.skip s).tail with
    | bad t => rw [e] at h; cases h
    | ok u t => rw [e] at h; cases h; exact lit_tpo hl (side_td e).1
  · split at h
    · cases e : Rq.takeC 61 (Rq.skip s).tail with
      | bad t => rw [e] at h; cases h
      | ok u t =>
        rw [e, Rq.bind_ok, Rq.map_bind] at h
        cases e2 : Rq.side t with
        | bad t2 => rw [e2] at h; cases h
        | ok u2 t2 => rw [e2] at h; cases h; exact lit_tpo hl (side_td e2).1
    · split at h
      · cases h
      · cases h
        exact lit_tpo hl rfl
theorem literal_tpo {s : List Nat} {d : PyData} {r : List Nat} (h : Rq.literal s = .ok d r) : tpo d = true := by
  unfold Rq.literal at h
  split at h
  · cases e : Rq.greatC (Rq.skip s) with
    | bad t => rw [e] at h; cases h
    | ok u t => rw [e, Rq.bind_ok] at h; exact equation_tpo (great_td _ _ _ e).1 h
  · cases e : Rq.smallW (Rq.skip s) with
    | bad t => rw [e] at h; cases h
    | ok w t =>
      rw [e, Rq.bind_ok] at h
      have h : (if w = "not" then ((Rq.smallW (Rq.skip t)).bind Rq.sideB).map fun l => Rq.lit3 false l Rq.yesD else (Rq.sideB w t).bind Rq.equation) = .ok d r := h
      split at h
      · rw [Rq.map_bind] at h
        cases e2 : Rq.smallW (Rq.skip t) with
        | bad t2 => rw [e2] at h; cases h
        | ok w2 t2 =>
          rw [e2, Rq.bind_ok] at h
          cases e3 : Rq.sideB w2 t2 with
          | bad t3 => rw [e3] at h; cases h
          | ok l t3 => rw [e3] at h; cases h; exact lit_tpo (sideB_td e3).1 rfl
      · cases e2 : Rq.sideB w t with
        | bad t2 => rw [e2] at h; cases h
        | ok l t2 => rw [e2, Rq.bind_ok] at h; exact equation_tpo (sideB_td e2).1 h
theorem litsL_step (f : Nat) (acc : List PyData) (s : List Nat) : Rq.litsL (f + 1) acc s = if Rq.isC 124 (Rq.skip s) then (Rq.literal (Rq.skip s).tail).bind fun l r => Rq.litsL f (acc ++ [l]) r else (Rq.endText (Rq.skip s)).map fun _ => .tuple acc := rfl
section
variable {P : Program} {w : World} {K : PySem.W.Frag} {mg : Str → Option Value} {base : Heap}
theorem scCrEnd : FnScope ["self"] ["self"] (defScope sCrEnd) := ⟨rfl, rfl, rfl, by decide +kernel, rfl, by decide +kernel, by decide +kernel⟩
theorem ok_crend {f C CB fN fE : Addr} {fd fdN fdE : FuncData} (F : Fun K "end_text" "ClauseReader.end_text" sCrEnd f fd) (c : RdC K C) (mN : Meth K C "next_sign" fN) (GN : FnOk P w K mg base CX0 2 fN fdN ["self"] (spNext C)) (bN : Binds K fdN ["self"] []) (B : BtF P w K mg base CB fE fdE) :
    FnOk P w K mg base (L2.CX P w) 3 f fd ["self"] (spEndT C CB) := by
  refine F.okX scCrEnd (fun vs H Q E h => ?_) (fun cdv A outer s0 H vs Q E hr h => ?_)
  · obtain ⟨o, T, s, rfl, _⟩ := h
    rfl
  · obtain ⟨o, T, s, rfl, rd, q⟩ := h
    refine ⟨_, pss_one (ps_if (pt_cmpR op_ne (pe_meth0 (pv 0) c.cls mN GN hr bN .nil pass0) pe_str (nomark _))
      (pss_one (ps_raise rfl (takes_of rfl rfl rfl rfl) (pmk_oex B.T.ox B.T.ini B.T.tI B.G hr B.b .nil pass0 (by rfl) B.g (pa_cons (pe_op op_add (pe_fld (pv 0) rfl) pe_int) pa_nil)))) pss_nil), ?_⟩
    refine next_use rfl rd fun H1 b1 rd1 => ⟨rfl, _, congrArg (fun b => V.bl (!b)) (sg_emp _), ?_⟩
    have q := q.before b1
    unfold Rq.endText at q
    cases e : Rq.skip s with
    | nil =>
      rw [e] at q rd1
      exact iteF (q.fin (.refl _ _) rd1 rfl)
    | cons d t =>
      rw [e] at q rd1
      exact iteT (throwB c rfl rd1 (.refl _ _) q)
theorem scCrLit : FnScope ["self", "word"] ["self"] (defScope sCrLit) := ⟨rfl, rfl, rfl, by decide +kernel, rfl, by decide +kernel, by decide +kernel⟩
theorem ok_crlit {f C CB yA fN fA fG fQ fS fB : Addr} {fd fdN fdA fdG fdQ fdS fdB : FuncData} (F : Fun K "literal" "ClauseReader.literal" sCrLit f fd) (c : RdC K C) (mN : Meth K C "next_sign" fN) (GN : FnOk P w K mg base CX0 2 fN fdN ["self"] (spNext C)) (bN : Binds K fdN ["self"] [])
    (mA : Meth K C "is_at" fA) (GA : FnOk P w K mg base CX0 2 fA fdA ["self", "signs"] (spIsAt C)) (bA : Binds K fdA ["self", "signs"] []) (mG : Meth K C "great" fG) (GG : FnOk P w K mg base (L2.CX P w) 5 fG fdG ["self"] (spGreat K C CB Rq.greatC)) (bG : Binds K fdG ["self"] [])
    (mQ : Meth K C "equation" fQ) (GQ : FnOk P w K mg base (L2.CX P w) 10 fQ fdQ ["self", "left"] (spEqn K C CB)) (bQ : Binds K fdQ ["self", "left"] [])
    (mS : Meth K C "small_word" fS) (GS : FnOk P w K mg base (L2.CX P w) 5 fS fdS ["self"] (spSmall C CB)) (bS : Binds K fdS ["self"] []) (mB : Meth K C "side_behind" fB) (GB : FnOk P w K mg base (L2.CX P w) 8 fB fdB ["self", "word"] (spSideB K C CB)) (bB : Binds K fdB ["self", "word"] []) (gU : Gs mg "UPPER" (.str Rq.UPPER))
    (gY : mg "YES" = some (.ref yA)) (hY : ∀ H, SqT K H yA [.str "yes"]) :
    FnOk P w K mg base (L2.CX P w) 11 f fd ["self"] (spGreat K C CB Rq.literal) := by
  refine F.okX scCrLit (fun vs H Q E h => ?_) (fun cdv A outer s0 H vs Q E hr h => ?_)
  · obtain ⟨o, T, s, rfl, _⟩ := h
    rfl
  · obtain ⟨o, T, s, rfl, rd, q⟩ := h
    obtain ⟨uU, gU, rU⟩ := gU
    refine ⟨_, pss_cons (ps_expr (pe_meth0 (pv 0) c.cls mN GN (hr.mono (by decide)) bN .nil pass0))
      (pss_cons (ps_if (pt_val (pe_meth (pv 0) c.cls mA GA (hr.mono (by decide)) bA .nil pass0 (pa_cons (pe_glob (v := .str Rq.UPPER) (by rfl) gU rU) pa_nil)))
        (pss_one (ps_ret (pe_meth (pv 0) c.cls mQ GQ hr bQ .nil (passE rfl rfl rfl rfl) (pa_cons (pe_meth0 (pv 0) c.cls mG GG (hr.mono (by decide)) bG .nil (passE rfl rfl rfl rfl)) pa_nil)))) pss_nil)
      (pss_cons (ps_set (i := 1) scCrLit.nd rfl (.inl rfl) (pe_meth0 (pv 0) c.cls mS GS (hr.mono (by decide)) bS .nil (passE rfl rfl rfl rfl)))
      (pss_cons (ps_if (pt_cmpR op_ne (pv 1) pe_str (nomark _))
        (pss_one (ps_ret (pe_meth (pv 0) c.cls mQ GQ hr bQ .nil (passE rfl rfl rfl rfl) (pa_cons (pe_meth (pv 0) c.cls mB GB (hr.mono (by decide)) bB .nil (passE rfl rfl rfl rfl) (pa_cons (pv 1) pa_nil)) pa_nil)))) pss_nil)
      (pss_cons (ps_expr (pe_meth0 (pv 0) c.cls mN GN (hr.mono (by decide)) bN .nil pass0))
      (pss_one (ps_ret (pe_tup (pa_cons pe_bl (pa_cons (pe_meth (pv 0) c.cls mB GB (hr.mono (by decide)) bB .nil (passE rfl rfl rfl rfl) (pa_cons (pe_meth0 (pv 0) c.cls mS GS (hr.mono (by decide)) bS .nil (passE rfl rfl rfl rfl)) pa_nil)) (pa_cons (pe_glob (v := .ref yA) (by rfl) gY rfl) pa_nil)))))))))), ?_⟩
    refine next_use rfl rd fun H1 b1 rd1 => isat_use rfl (fun Q' q => q) rd1 ⟨_, rfl, ?_⟩
    have q := q.before b1
    unfold Rq.literal at q
    obtain ⟨dx1, i1, eo1⟩ := rd_ins rd1
    cases h : Rq.isAt (Rq.cs Rq.UPPER) (Rq.skip s) with
    | true =>
      rw [h, if_pos rfl] at q
      refine iteT ⟨.ref o, rfl, o, dx1, _, rfl, eo1, rfl, call0 rfl rd1 (fun _ => rfl) ⟨o, T, _, rfl, rd1, q.bindTo (fun l r v H2 el b2 rd2 rp q2 => ?_)⟩⟩
      exact ⟨o, T, r, v, l, rfl, rd2, rp, great_td _ _ _ el, q2⟩
    | false =>
      rw [h, if_neg Bool.false_ne_true] at q
      refine iteF (call0 rfl rd1 (fun _ => rfl) ⟨o, T, _, rfl, rd1, q.bindTo (fun wd r v H2 _ b2 rd2 rp q2 => ?_)⟩)
      cases rp
      have q2 : After C CB o T (repD K) (if wd = "not" then ((Rq.smallW (Rq.skip r)).bind Rq.sideB).map fun l => Rq.lit3 false l Rq.yesD else (Rq.sideB wd r).bind Rq.equation) H2 Q E := q2
      obtain ⟨dx2, i2, eo2⟩ := rd_ins rd2
      by_cases hn : wd = "not"
      · subst hn
        rw [if_pos rfl] at q2
        refine ⟨_, rfl, rfl, _, congrArg (fun b => V.bl (!b)) (decide_eq_true rfl), iteF (next_use rfl rd2 fun H3 b3 rd3 => ?_)⟩
        have q3 : After C CB o T (repD K) ((Rq.smallW (Rq.skip r)).bind fun w r => (Rq.sideB w r).bind fun l s => .ok (Rq.lit3 false l Rq.yesD) s) H3 Q E := by
          have q3 := q2.before b3
          rw [Rq.map_bind] at q3
          cases e : Rq.smallW (Rq.skip r) with
          | ok w r => rw [e] at q3; exact q3
          | bad r => rw [e] at q3; exact q3
        obtain ⟨dx3, i3, eo3⟩ := rd_ins rd3
        refine ⟨.ref o, rfl, o, dx3, _, rfl, eo3, rfl, call0 rfl rd3 (fun _ => rfl) ⟨o, T, _, rfl, rd3, q3.bindTo (fun w4 r4 v4 H4 _ b4 rd4 rp4 q4 => ?_)⟩⟩
        cases rp4
        refine ⟨o, T, r4, w4, rfl, rd4, q4.bindTo (fun l r5 v5 H5 _ b5 rd5 rp5 q5 => ?_)⟩
        refine ⟨by show 3 ≤ sizeLine; rw [sizeLine_eq]; decide, fun t nt => ?_⟩
        have sm := same_new (H := H5) (fun b o e => e) nt (.tup [.bl false, v5, .ref yA])
        exact q5.fin (But.ofSame sm) (rd5.same sm) (dp_lit upd_same (dp_same sm rp5) (.tup (hY _) (.cons (.str _) .nil)))
      · rw [if_neg hn] at q2
        refine ⟨_, rfl, rfl, _, congrArg (fun b => V.bl (!b)) (decide_eq_false (fun z => hn (by injection z))), iteT ⟨.ref o, rfl, o, dx2, _, rfl, eo2, rfl, .ref o, rfl, o, dx2, _, rfl, eo2, rfl, _, rfl, o, T, r, wd, rfl, rd2, q2.bindTo (fun l r3 v3 H3 el b3 rd3 rp3 q3 => ?_)⟩⟩
        exact ⟨o, T, r3, v3, l, rfl, rd3, rp3, sideB_td el, q3⟩
theorem scCrClause : FnScope ["self", "literals"] ["self"] (defScope sCrClause) := ⟨rfl, rfl, rfl, by decide +kernel, rfl, by decide +kernel, by decide +kernel⟩
theorem ok_crclause {f C CB fN fT fL fD : Addr} {fd fdN fdT fdL fdD : FuncData} (F : Fun K "clause" "ClauseReader.clause" sCrClause f fd) (c : RdC K C) (mN : Meth K C "next_sign" fN) (GN : FnOk P w K mg base CX0 2 fN fdN ["self"] (spNext C)) (bN : Binds K fdN ["self"] [])
    (mT : Meth K C "take" fT) (GT : FnOk P w K mg base (L2.CX P w) 3 fT fdT ["self", "sign"] (spTake C CB)) (bT : Binds K fdT ["self", "sign"] [])
    (mL : Meth K C "literal" fL) (GL : FnOk P w K mg base (L2.CX P w) 11 fL fdL ["self"] (spGreat K C CB Rq.literal)) (bL : Binds K fdL ["self"] [])
    (mD : Meth K C "end_text" fD) (GD : FnOk P w K mg base (L2.CX P w) 3 fD fdD ["self"] (spEndT C CB)) (bD : Binds K fdD ["self"] []) (m_tuple : mg "tuple" = none) :
    FnOk P w K mg base (L2.CX P w) 12 f fd ["self"] (spGreat K C CB Rq.clause) := by
  refine F.okX scCrClause (fun vs H Q E h => ?_) (fun cdv A outer s0 H vs Q E hr h => ?_)
  · obtain ⟨o, T, s, rfl, _⟩ := h
    rfl
  · obtain ⟨o, T, s, rfl, rd, q⟩ := h
    refine ⟨_, pss_cons (ps_if (pt_cmpR op_eq (pe_meth0 (pv 0) c.cls mN GN (hr.mono (by decide)) bN .nil pass0) pe_str (nomark _))
        (pss_cons (ps_fldaug (pv 0) pe_int in_add) (pss_cons (ps_expr (pe_meth (pv 0) c.cls mT GT (hr.mono (by decide)) bT .nil (passE rfl rfl rfl rfl) (pa_cons pe_str pa_nil))) (pss_cons (ps_expr (pe_meth0 (pv 0) c.cls mD GD (hr.mono (by decide)) bD .nil (passE rfl rfl rfl rfl))) (pss_one (ps_ret (pe_tup pa_nil)))))) pss_nil)
      (pss_cons (ps_set (i := 1) scCrClause.nd rfl (.inl rfl) (pe_lst (pa_cons (pe_meth0 (pv 0) c.cls mL GL hr bL .nil (passE rfl rfl rfl rfl)) pa_nil)))
      (pss_cons (ps_while (passes_of rfl) (pt_cmpR op_eq (pe_meth0 (pv 0) c.cls mN GN (hr.mono (by decide)) bN .nil pass0) pe_str (nomark _))
        (pss_cons (ps_fldaug (pv 0) pe_int in_add)
        (pss_one (ps_expr (pe_bm PySem.F.plainAttrs_list PySem.F.slot_list_append PySem.F.type_list_append mt_append (pv 1) (pa_cons (pe_meth0 (pv 0) c.cls mL GL hr bL .nil (passE rfl rfl rfl rfl)) pa_nil))))))
      (pss_cons (ps_expr (pe_meth0 (pv 0) c.cls mD GD (hr.mono (by decide)) bD .nil (passE rfl rfl rfl rfl)))
      (pss_one (ps_ret (pe_callTy call_tuple_of (by rfl) m_tuple (by decide +kernel) (pa_cons (pv 1) pa_nil))))))), ?_⟩
    refine next_use rfl rd fun H1 b1 rd1 => ⟨rfl, _, congrArg V.bl (sg_eq 91 _), ?_⟩
    have q := q.before b1
    unfold Rq.clause at q
    cases h : Rq.isC 91 (Rq.skip s) with
    | true =>
      rw [h, if_pos rfl] at q
      refine iteT (step_use c rfl rd1 h fun H2 b2 rd2 => ?_)
      obtain ⟨dx2, i2, eo2⟩ := rd_ins rd2
      refine ⟨.ref o, rfl, o, dx2, _, rfl, eo2, rfl, o, T, _, 93, rfl, rd2, (q.before b2).bindTo (fun u r v H3 _ b3 rd3 _ q3 => ?_)⟩
      rw [Rq.map_bind] at q3
      refine call0 rfl rd3 (fun _ => rfl) ⟨o, T, r, rfl, rd3, q3.bindTo (fun u4 r4 v4 H4 _ b4 rd4 _ q4 => ?_)⟩
      refine ⟨Nat.zero_le _, fun t nt => ?_⟩
      have sm := same_new (H := H4) (fun b o e => e) nt (.tup [])
      exact q4.fin (But.ofSame sm) (rd4.same sm) (.tup (.inl (.inl upd_same)) .nil)
    | false =>
      rw [h, if_neg Bool.false_ne_true] at q
      refine iteF (call0 rfl rd1 (fun _ => rfl) ⟨o, T, _, rfl, rd1, q.bindTo (fun l0 r v H2 e0 b2 rd2 rp q2 => ?_)⟩)
      refine ⟨by show 1 ≤ sizeLine; rw [sizeLine_eq]; decide, fun lp np => ?_⟩
      obtain ⟨lT1, lT2⟩ := rd2.len
      have sm := same_new (H := H2) (fun b o e => e) np (.lst [v])
      obtain ⟨R, eR⟩ : ∃ R, Rq.litsL (r.length + 1) [l0] r = R := ⟨_, rfl⟩
      rw [eR] at q2
      have n2 : H2 lp = none := np
      refine while_g (fun n σ G => ∃ acc s' vs, s'.length < n ∧ Rq.litsL n acc s' = R ∧ Pn.But o H2 G ∧ Rd C G o T s' ∧ G lp = some (.lst vs) ∧ DpAll K G vs acc ∧ tpoL acc = true ∧ vs.length + s'.length ≤ (Rq.cs T).length + 1 ∧ σ = [some (.ref o), some (.ref lp)])
        ⟨_, [l0], r, [v], Nat.lt_succ_self _, eR, But.ofSame sm, rd2.same sm, upd_same, .cons (dp_same sm rp) .nil, by show (tpo l0 && true) = true; rw [literal_tpo e0]; rfl, by show 1 + r.length ≤ _; omega, rfl⟩ ?_ ?_
      · rintro n σ G ⟨acc, s', vs, lt, eR, b, rd', eL, da, ta, few, rfl⟩
        cases n with
        | zero => exact absurd lt (Nat.not_lt_zero _)
        | succ n =>
          rw [litsL_step] at eR
          have lsk := (Rq.skip_suf s').length_le
          refine next_use rfl rd' fun H3 b3 rd3 => ⟨rfl, _, congrArg V.bl (sg_eq 124 _), ?_⟩
          have bt3 := b.trans b3
          have k3 := tk_but b3 rd'
          have eL3 := b3 _ _ (fun z => by
            obtain ⟨dx, i, eo⟩ := rd_ins rd'
            rw [z, eo] at eL
            cases eL) eL
          have da3 := tpo_tkL k3 _ _ ta da
          cases h : Rq.isC 124 (Rq.skip s') with
          | true =>
            rw [h, if_pos rfl] at eR
            have len := Rq.isC_len h
            refine iteT (step_use c rfl rd3 h fun H4 b4 rd4 => ?_)
            have bt4 := bt3.trans b4
            have ne : lp ≠ o := fun z => by
              obtain ⟨dx, i, eo⟩ := rd_ins rd'
              rw [z, eo] at eL
              cases eL
            have eL4 := b4 _ _ ne eL3
            have da4 := tpo_tkL (tk_but b4 rd3) _ _ ta da3
            have q4 := q2.before bt4
            rw [← eR] at q4
            refine ⟨_, rfl, .inl ⟨rfl, _, .inl (.inl eL4)⟩, call0 rfl rd4 (fun _ => rfl) ⟨o, T, _, rfl, rd4, q4.bindTo (fun l r5 v5 H5 el b5 rd5 rp5 _ => ?_)⟩⟩
            have eL5 := b5 _ _ ne eL4
            have da5 := tpo_tkL (tk_but b5 rd4) _ _ ta da4
            have suf := Rq.suf_literal (Rq.skip s').tail
            rw [el] at suf eR
            have l5 := (show r5 <:+ (Rq.skip s').tail from suf).length_le
            refine ⟨lp, vs, v5, rfl, rfl, eL5, by rw [sizeLine_eq]; omega, ?_⟩
            have k6 := TK.lst eL5 (.lst (vs ++ [v5]))
            refine ⟨n, Nat.lt_succ_self n, acc ++ [l], r5, vs ++ [v5], by omega, eR, but_upd (bt4.trans b5) n2 _, rd5.lst eL5 _, upd_same, dpAll_app (tpo_tkL k6 _ _ ta da5) (.cons (tpo_tk k6 _ _ (literal_tpo el) rp5) .nil), ?_, by rw [List.length_append, List.length_singleton]; omega, rfl⟩
            rw [tpoL_app, ta]
            show (true && (tpo l && true)) = true
            rw [literal_tpo el]
            rfl
          | false =>
            rw [h, if_neg Bool.false_ne_true] at eR
            have q3 := q2.before bt3
            rw [← eR, Rq.map_bind] at q3
            refine iteF (call0 rfl rd3 (fun _ => rfl) ⟨o, T, _, rfl, rd3, q3.bindTo (fun u r4 v4 H4 _ b4 rd4 _ q4 => ?_)⟩)
            have ne : lp ≠ o := fun z => by
              obtain ⟨dx, i, eo⟩ := rd_ins rd'
              rw [z, eo] at eL
              cases eL
            refine ⟨_, rfl, lp, vs, rfl, .inl ⟨.inl (.inl (b4 _ _ ne eL3)), fun t nt => ?_⟩⟩
            have sm := same_new (H := H4) (fun b o e => e) nt (.tup vs)
            exact q4.fin (But.ofSame sm) (rd4.same sm) (.tup (.inl (.inl upd_same)) (dpAll_same sm (tpo_tkL (tk_but b4 rd3) _ _ ta da3)))
      · rintro σ G Q1 Q2 h ⟨x, e, a, dx, fs, ex, ea, l, o, T, s, ev, rd, ask⟩
        exact ⟨x, e, a, dx, fs, ex, ea, l, o, T, s, ev, rd, fun H' b rd' => (fun ⟨sc, k, ek, q⟩ => ⟨sc, k, ek, h _ _ q⟩) (ask H' b rd')⟩
end
end Ad

/-! try: .. with several clauses except X as n. -/
namespace Tm
open PySem PySem.Spec PySem.Calls PyProof.Rows L2
/-- the ends of a suite whose name goes behind it -/
abbrev gone (i : Nat) (D : Ends) : Ends := { nx := fun τ G => D.nx (τ.set i none) G, rt := D.rt, bk := fun τ G => D.bk (τ.set i none) G, ct := fun τ G => D.ct (τ.set i none) G }
abbrev Suite := Addr → Value → Option Addr → TS
/-- what the clauses wish of an exception, one after another; slot i is their name's -/
def wish (K : PySem.W.Frag) (Wout : WX) (D : Ends) (i : Nat) : List (Value × Suite) → WX
  | [] => Wout
  | (c, ts) :: l => fun cls d σ H => ∃ b, PySem.W.exmOne K cls c = some b ∧ (b = true → ∀ a, H a = none → i < σ.length → ts a cls d (gone i D) (σ.set i (some (.ref a))) H) ∧ (b = false → wish K Wout D i l cls d σ H)
/-- the clauses -/
inductive Clauses (X : Cx) (n : Str) : List ExceptHandler → List (Value × Suite) → Prop
  | done : Clauses X n [] []
  | next {x : Str} {c : Value} {ts : Suite} {st : Stmt} {sts : List Stmt} {p1 p2 : Pos} {hs : List ExceptHandler} {l : List (Value × Suite)} (named : Names X x c)
      (suite : ∀ (a : Addr) (oe : Obj) (cls : Value) (d : Option Addr) (pn : List (Addr × Obj)), Zc cls d oe → (∃ vs, oe.data = .fields vs) → PSs (X.suite a ((a, oe) :: pn)) (st :: sts) (ts a cls d)) (rest : Clauses X n hs l) :
      Clauses X n (.ExceptHandler (some (.Name x p1)) (some n) (st :: sts) p2 :: hs) ((c, ts) :: l)
section
variable {X : Cx} {n : Str} {i : Nat} {body : List Stmt} {h₀ : ExceptHandler} {hs : List ExceptHandler} {l : List (Value × Suite)} {pos : Pos} {tb : WX → TS} {Wout : WX}
theorem ps_tryAs (stk : X.stack = X.env :: X.outer) (frm : X.env.frame = some X.env.locals) (nod : X.N.Nodup) (slot : X.N[i]? = some n) (loc : X.env.kindOf n = some .local) (tk : Takes X Wout)
    (hb : ∀ (W : WX) (pn : List (Addr × Obj)) (xe : Value → Shared → Prop), Takes (X.tr pn xe) W → PassesOwn (model X.prog X.w) X.A X.env xe → PSs (X.tr pn xe) body (tb W))
    (cl : Clauses X n (h₀ :: hs) l) : PS X (.Try body (h₀ :: hs) [] [] pos) (fun D σ H => tb (wish X.K Wout D i l) D σ H) := by
  refine ⟨fun pins s σ H D J ask => ?_⟩
  have okx := J.ok
  have frs' : X.A.frames = some (X.env :: X.outer) := by rw [okx.frames, stk]
  have lc : Loc X.env.scope n := .inl loc
  refine wpAny_Try_except ?_
  have bodyRun := (hb (wish X.K Wout D i l) (X.pn ++ pins) (fun e s1 => wpAny (model X.prog X.w) X.A (noteFrame e X.env) (fun _ s2 => wpAny (model X.prog X.w) X.A (setFlight e none) (fun _ s3 => wpAny (model X.prog X.w) X.A (handleBy e X.env (h₀ :: hs)) (SP X pins D) X.xe s3) X.xe s2) X.xe s1) ?caught PassesOwn.looking).run [] s σ H D (J.toTry _) ask
  case caught =>
    rintro u s' ⟨a, B, sI, pins', σ', G, cls, d, rfl, JI, kept, up1, fly, free, os, bare, wsh⟩
    have J1 : Inv X pins σ' G sI := JI.ofTry okx
    have fly1 : Sky B (X.env :: X.outer) a (Zc cls d) X.env.locals s'.heap := stk ▸ fly
    show wpAny (model X.prog X.w) X.A (noteFrame (.ref a) X.env) _ _ _
    refine Sky.land Zc.steady frs' frm fly1 fun h3 low up3 => ?_
    have J3 : Inv X pins σ' G { s' with heap := h3 } := J1.landed kept low.1 (up1.trans up3) os bare
    obtain ⟨o3, v3, look3, z3, dat3⟩ := low.there
    have out : ∀ {h : Heap} {o : Obj} {vs : Array Value}, h.FunFrames B (X.env :: X.outer) → h.get? a = some o → o.data = .fields vs → a ∉ frs (X.env :: X.outer) := by
      intro h o vs ff e dd m
      obtain ⟨_, o2, e2, no⟩ := ff.mem m
      rw [e] at e2
      cases e2
      exact no _ dd
    have notF := out low.2.2.1 look3 dat3
    have notL : a ≠ X.env.locals := fun z => notF (List.mem_filterMap.mpr ⟨X.env, List.mem_cons_self, by rw [frm, z]⟩)
    have notS : a ∉ X.fs := by
      intro m
      obtain ⟨e, me, q⟩ := List.mem_filterMap.mp m
      exact notF (List.mem_filterMap.mpr ⟨e, List.mem_cons_of_mem _ me, q⟩)
    have S3 := J3.suite look3 dat3 free notL notS
    have go : ∀ {hs' : List ExceptHandler} {l' : List (Value × Suite)}, Clauses X n hs' l' → wish X.K Wout D i l' cls d σ' G → wpAny (model X.prog X.w) X.A (handleBy (.ref a) X.env hs') (SP X pins D) X.xe { s' with heap := h3 } := by
      intro hs' l' c
      induction c with
      | done =>
        intro wo
        refine wpAny_handleBy_nil ?_
        obtain ⟨_, _, _, o4, v4, T4, oT, _, look4, _, dat4, one4, _⟩ := id low
        unfold PySem.passOn
        refine wpAny_bind (wpAny_field look4 dat4 one4 ?_)
        rw [if_neg (show ¬ ((Value.ref T4 == Value.none) = true) by simp)]
        have again : wpAny (model X.prog X.w) X.A (setFlight (.ref a) X.env.frame) (fun _ s4 => wpAny (model X.prog X.w) X.A (throw (.ref a) : Sem Flow) (SP X pins D) X.xe s4) X.xe { s' with heap := h3 } := by
          rw [frm]
          refine HandSPX.setFlight_upZ low fun h4 held up4 => wpAny_throw (tk _ _ ?_)
          exact ⟨a, B, sI, pins, σ', G, cls, d, rfl, J1, kept, (up1.trans up3).trans up4, .inr (.inr (stk ▸ held)), free, os, bare, wo⟩
        first
          | exact wpAny_bind (wpAny_pure (wpAny_bind again))
          | exact wpAny_bind again
      | @next x c ts st sts p1 p2 hs2 l2 named suite rest ih =>
        intro ⟨b, eb, yes, no⟩
        refine wpAny_handleBy_cons (codeAny_handlers_test ?_) (by intro q; cases q)
        have LT : PySem.W.Looks (model X.prog X.w) h3 (typeOf (.ref a)) cls := fun A Q E s4 kk q => wpAny_typeOf_ref (kk _ _ look3) (by rw [z3.1]; exact q)
        have LM := PySem.W.exm_one (M := model X.prog X.w) J3.kIn LT eb
        have said : ∀ {Q E : Value → Shared → Prop}, Q c { s' with heap := h3 } → wpAny (model X.prog X.w) (X.A.mark (some (.ref a))) (eval (.Name x p1) X.env) Q E { s' with heap := h3 } := by
          intro Q E q
          obtain ⟨gl, db, there | ⟨gone', bt, nn⟩⟩ := named
          · exact ld_glob (X := X.suite a ((a, o3) :: (X.pn ++ pins))) S3 gl there q db
          · exact ld_blt (X := X.suite a ((a, o3) :: (X.pn ++ pins))) S3 gl gone' bt q nn db
        refine said (LM.here ?_)
        match b, yes, no with
        | true, yes, _ =>
          refine codeAny_handlers_suite_as ?_
          refine HandSPX.lands_againZ low fun h4 low4 up4 => ?_
          have J4 : Inv X pins σ' G { s' with heap := h4 } := J1.landed kept low4.1 ((up1.trans up3).trans up4) os bare
          obtain ⟨o4, v4, look4, z4, dat4⟩ := low4.there
          have S4 := J4.suite look4 dat4 free notL notS
          refine store_ok (X := X.suite a ((a, o4) :: (X.pn ++ pins))) (v := .ref a) S4 nod slot lc rfl (fun s5 S5 => ?_) (.inr loc)
          have ends : ∀ {σ6 : L2.St} {G6 : Hp} {s6 : Shared} {Q : Shared → Prop}, Inv (X.suite a ((a, o4) :: (X.pn ++ pins))) [] σ6 G6 s6 → (∀ s7, Inv X pins (σ6.set i none) G6 s7 → Q s7) →
              wpAny (model X.prog X.w) X.A (do bindName X.env n .none; unbindBehindTheSuite X.env n p2) (fun _ s7 => Q s7) X.xe s6 := fun S6 q => gone_ok (S6.unsuite okx) nod slot loc q
          refine wpAny_mono ((suite a o4 cls d (X.pn ++ pins) z4 ⟨_, dat4⟩).run [] s5 _ G _ S5 (yes rfl a free (by rw [J1.len]; exact (List.getElem?_eq_some_iff.mp slot).1))) (fun fl s6 back => ?_) (fun _ _ z => False.elim z)
          match fl, back with
          | .next, ⟨_, _, S6, q6⟩ => exact ends S6 fun s7 J7 => ⟨_, _, J7, q6⟩
          | .brk, ⟨_, _, S6, q6⟩ => exact ends S6 fun s7 J7 => ⟨_, _, J7, q6⟩
          | .cont, ⟨_, _, S6, q6⟩ => exact ends S6 fun s7 J7 => ⟨_, _, J7, q6⟩
          | .ret u, ⟨_, _, _, S6, r6, q6⟩ => exact ends S6 fun s7 J7 => ⟨_, _, _, J7, r6, q6⟩
        | false, _, no =>
          show wpAny _ X.A (handleBy (.ref a) X.env hs2) _ _ _
          exact ih (no rfl)
    exact go cl wsh
  refine wpAny_mono bodyRun (fun fl s1 back => ?_) (fun e s1 z => z)
  match fl, back with
  | .next, ⟨_, _, J', q⟩ => exact wpAny_execs_nil ⟨_, _, J'.ofTry okx, q⟩
  | .brk, ⟨_, _, J', q⟩ => exact ⟨_, _, J'.ofTry okx, q⟩
  | .cont, ⟨_, _, J', q⟩ => exact ⟨_, _, J'.ofTry okx, q⟩
  | .ret u, ⟨_, _, _, J', r, q⟩ => exact ⟨_, _, _, J'.ofTry okx, r, q⟩
end
end Tm

/-! clause_of; the column of a wrong text. -/
namespace Ad
open PySem PySem.Spec PySem.Calls PyProof.Rows L2
def spRInit (C : Addr) : Sp := fun vs H Q _ => ∃ (o dx : Addr) (T : Str), vs = [.ref o, .str T] ∧ H o = some (.ins C dx []) ∧ ∀ H', Pn.But o H H' → H' o = some (.ins C dx [("text", .str T), ("spot", .int 0)]) → Q .non H'
def NoText (K : PySem.W.Frag) (H : Hp) (v : V) : Prop := ∃ ty, TyX K H v ty ∧ PySem.W.kitOne K ty (.type "str") = some false
def spClauseOf (K : PySem.W.Frag) (CB : Addr) : Sp := fun vs H Q E => (∃ v, vs = [v] ∧ NoText K H v ∧ ∀ d H', Same H H' → H' d = some (.xd [("column", .int 0)]) → E (.ref CB) (some d) H') ∨
  ∃ (T : Str), vs = [.str T] ∧ T.length ≤ 10000000 ∧ (∀ d r v H', Rq.clause (Rq.cs T) = .ok d r → Same H H' → Dp K H' v d → Q v H') ∧ ∀ s d H', Rq.clause (Rq.cs T) = .bad s → Same H H' → H' d = some (.xd [("column", colV T s)]) → E (.ref CB) (some d) H'
/-- the column of a wrong text, None of a right one -/
def whyV (T : Str) : V := match Rq.clause (Rq.cs T) with
  | .ok _ _ => .non
  | .bad s => colV T s
def spWhyC (K : PySem.W.Frag) : Sp := fun vs H Q _ => ∃ v r, vs = [v] ∧ ((NoText K H v ∧ r = .int 0) ∨ ∃ T : Str, v = .str T ∧ T.length ≤ 10000000 ∧ r = whyV T) ∧ ∀ H', Same H H' → Q r H'
section
variable {P : Program} {w : World} {K : PySem.W.Frag} {mg : Str → Option Value} {base : Heap}
theorem scBtInit : FnScope ["self", "column"] ["self", "column"] (defScope sBtInit) := ⟨rfl, rfl, rfl, by decide +kernel, rfl, by decide +kernel, by decide +kernel⟩
theorem ok_btinit {f C : Addr} {fd : FuncData} (F : Fun K "__init__" "BadText.__init__" sBtInit f fd) (T : Er K C f "column") : FnOk P w K mg base CX0 1 f fd ["self", "column"] (spEr C "column") := by
  refine F.ok scBtInit (fun vs H Q E h => ?_) (fun cdv A outer s H vs Q E hr h => ?_)
  · obtain ⟨a, v, rfl, _⟩ := h
    rfl
  · obtain ⟨a, v, rfl, ea, q⟩ := h
    refine ⟨_, pss_one (ps_ost (pv 0) (pv 1)), ?_⟩
    refine ⟨v, rfl, .ref a, rfl, a, C, rfl, T.ox, T.no, .inl ⟨ea, fun d nd ne => ?_⟩⟩
    exact q d _ nd ne (fun b h1 h2 => by rw [upd_ne h2, upd_ne h1]) upd_same (by rw [upd_ne ne, upd_same])
theorem scRdInit : FnScope ["self", "text"] ["self", "text"] (defScope sRdInit) := ⟨rfl, rfl, rfl, by decide +kernel, rfl, by decide +kernel, by decide +kernel⟩
theorem ok_rdinit {f C : Addr} {fd : FuncData} (F : Fun K "__init__" "Reader.__init__" sRdInit f fd) (c : RdC K C) : FnOk P w K mg base CX0 1 f fd ["self", "text"] (spRInit C) := by
  refine F.ok scRdInit (fun vs H Q E h => ?_) (fun cdv A outer s H vs Q E hr h => ?_)
  · obtain ⟨o, dx, T, rfl, _⟩ := h
    rfl
  · obtain ⟨o, dx, T, rfl, eo, q⟩ := h
    refine ⟨_, pss_cons (ps_fld (pv 0) (pv 1) rfl) (pss_one (ps_fld (pv 0) pe_int rfl)), ?_⟩
    refine ⟨_, rfl, .ref o, rfl, o, C, dx, _, rfl, eo, c.cls, c.nt, by show 0 < 1000; decide, .ref o, rfl, o, C, dx, _, rfl, upd_same, c.cls, c.ns, by show 1 < 1000; decide, ?_⟩
    rw [upd_upd]
    exact q _ (.upd _ _) upd_same
abbrev sClauseOf : Stmt := topS 20
theorem scClauseOf : FnScope ["text"] ["text"] (defScope sClauseOf) := ⟨rfl, rfl, rfl, by decide +kernel, rfl, by decide +kernel, by decide +kernel⟩
theorem ok_clauseof {f C CB fI fC fE : Addr} {fd fdI fdC fdE : FuncData} (F : Fun K "clause_of" "clause_of" sClauseOf f fd) (c : RdC K C) (M : Mk K C fI) (GI : FnOk P w K mg base CX0 1 fI fdI ["self", "text"] (spRInit C)) (bI : Binds K fdI ["self", "text"] []) (gC : mg "ClauseReader" = some (.ref C))
    (mC : Meth K C "clause" fC) (GC : FnOk P w K mg base (L2.CX P w) 12 fC fdC ["self"] (spGreat K C CB Rq.clause)) (bC : Binds K fdC ["self"] []) (B : BtF P w K mg base CB fE fdE) (mi : mg "isinstance" = none) (mS : mg "str" = none) :
    FnOk P w K mg base (L2.CX P w) 13 f fd ["text"] (spClauseOf K CB) := by
  refine F.okX scClauseOf (fun vs H Q E h => ?_) (fun cdv A outer s0 H vs Q E hr h => ?_)
  · rcases h with ⟨v, rfl, _⟩ | ⟨T, rfl, _⟩ <;> rfl
  · refine ⟨_, pss_cons (ps_if (pt_not (pt_val (pe_callB call_isi (by rfl) mi (by decide +kernel) (pa_cons (pv 0) (pa_cons (pe_bltn (v := .ty "str") (by rfl) mS (by decide +kernel) rfl) pa_nil)))))
      (pss_one (ps_raise rfl (takes_of rfl rfl rfl rfl) (pmk_oex B.T.ox B.T.ini B.T.tI B.G (hr.mono (by decide)) B.b .nil pass0 (by rfl) B.g (pa_cons pe_int pa_nil)))) pss_nil)
      (pss_one (ps_ret (pe_meth0 (pe_make M GI (hr.mono (by decide)) (by rfl) gC bI .nil pass0 (pa_cons (pv 0) pa_nil)) c.cls mC GC hr bC .nil (passE rfl rfl rfl rfl)))), ?_⟩
    rcases h with ⟨v, rfl, ⟨ty, tv, kt⟩, e⟩ | ⟨T, rfl, lT, q, e⟩
    · refine ⟨_, rfl, _, .ty "str", ty, .type "str", false, rfl, .ty "str", tv, kt, _, rfl, iteT ?_⟩
      exact mk_row (v := .int 0) ⟨rfl, rfl⟩ (fun d H' sm _ ed => e d H' sm ed) (fun m h => m _ _ h)
    · refine ⟨_, rfl, _, .ty "str", .type "str", .type "str", true, rfl, .ty "str", .base (.str T), kit_ty (by decide +kernel), _, rfl, iteF ⟨_, rfl, fun o dx no ndx ne => ⟨o, dx, T, rfl, upd_same, fun H1 b1 e1 => ⟨rfl, ?_⟩⟩⟩⟩
      have ndx' : H dx = none := ndx
      have s0 : Same H (upd H dx (.own o)) := same_new (fun b o e => e) ndx' _
      have no' : (upd H dx (.own o)) o = none := by rw [upd_ne ne.symm]; exact no
      have s1 : Same H (upd (upd H dx (.own o)) o (.ins C dx [])) := s0.trans (same_new (fun b o e => e) no' _)
      have all : ∀ {G : Hp}, Pn.But o H1 G → Same H G := fun {G} b a x ex => by
        have na : a ≠ o := fun z => by rw [z, no] at ex; cases ex
        exact b a x na (b1 a x na (s1 a x ex))
      have rd : Rd C H1 o T (Rq.cs T) := ⟨lT, dx, [], rfl, e1⟩
      refine ⟨o, dx, _, rfl, e1, rfl, o, T, _, rfl, rd, ?_⟩
      cases ec : Rq.clause (Rq.cs T) with
      | ok d r => exact fun v H' b _ dv => q d r v H' ec (all b) dv
      | bad s => exact fun d H' b ed => e s d H' ec (all b) ed
abbrev sWhyC : Stmt := topS 35
theorem scWhyC : FnScope ["_law_text_here", "e"] ["_law_text_here"] (defScope sWhyC) := ⟨rfl, rfl, rfl, by decide +kernel, rfl, by decide +kernel, by decide +kernel⟩
theorem ok_whyc {f CB fC fE : Addr} {fd fdC : FuncData} (F : Fun K "_law_why" "_law_why" sWhyC f fd) (T : Er K CB fE "column") (gB : mg "BadText" = some (.ref CB)) (xB : PySem.W.exmOne K (.ref CB) (.ref CB) = some true)
    (GC : FnOk P w K mg base (L2.CX P w) 13 fC fdC ["text"] (spClauseOf K CB)) (gC : mg "clause_of" = some (.ref fC)) (kC : PySem.W.keepIn K (.ref fC) = true) (bC : Binds K fdC ["text"] []) :
    FnOk P w K mg base CX0 14 f fd ["_law_text_here"] (spWhyC K) := by
  refine F.ok scWhyC (fun vs H Q E h => ?_) (fun cdv A outer s0 H vs Q E hr h => ?_)
  · obtain ⟨v, r, rfl, _⟩ := h
    rfl
  · obtain ⟨v, r, rfl, hv, q⟩ := h
    refine ⟨_, pss_cons (Tm.ps_tryAs (i := 1) (Wout := fun _ _ _ _ => False) (tb := fun W D σ H => tCall (spClauseOf K CB) [] (fun cls d H' => ∀ σ', W cls d σ' H') (tCons (tVar 0) tNil) σ H (fun _ H' => D.nx σ H'))
      rfl rfl scWhyC.nd rfl (by rfl) LamX.takes0 (fun W pn xe tk _ => ?_)
      (.next (c := .ref CB) ⟨by rfl, by decide, .inl gB⟩ (fun a oe cls d pn z fs => pss_one (ps_ret (pe_xf T.xf T.no z fs (pv 1)))) .done)) (pss_one (ps_ret pe_non)), ?_⟩
    · exact pss_one (ps_expr (pe_call GC hr (by rfl) gC kC bC .nil (passes_call tk (fun cls d σ H h => h σ)) (pa_cons (pv 0) pa_nil)))
    · refine ⟨v, rfl, ?_⟩
      rcases hv with ⟨nt, er⟩ | ⟨T', rfl, lT, er⟩
      · exact .inl ⟨v, rfl, nt, fun d H' sm ed σ' => ⟨true, xB, fun _ a na lt => ⟨.ref a, by simp [lt], rfl, rfl, d, _, _, rfl, ed, rfl, by rw [← er]; exact q H' sm⟩, fun z => nomatch z⟩⟩
      · unfold whyV at er
        refine .inr ⟨T', rfl, lT, fun d t v H' ec sm _ => ?_, fun s d H' ec sm ed => ?_⟩
        · rw [ec] at er
          have er : r = .non := er
          subst er
          exact q H' sm
        · rw [ec] at er
          exact fun σ' => ⟨true, xB, fun _ a na lt => ⟨.ref a, by simp [lt], rfl, rfl, d, _, _, rfl, ed, rfl, by
            have er : r = colV T' s := er
            rw [← er]
            exact q H' sm⟩, fun z => nomatch z⟩
end
end Ad

namespace Ad
open PySem PySem.Spec PySem.Calls PyProof.Rows L2
abbrev sDrawn : Stmt := topS 29
theorem scDrawn : FnScope ["_law_pen_here", "_law_rows", "_law_deep", "_law_variables", "_law_some", "_law_name", "_law_arity", "_law_weight", "_law_row", "_law_k"] ["_law_pen_here", "_law_rows", "_law_deep", "_law_variables"] (defScope sDrawn) := ⟨rfl, rfl, rfl, by decide +kernel, rfl, by decide +kernel, by decide +kernel⟩
section
variable {P : Program} {w : World} {K : PySem.W.Frag} {mg : Str → Option Value} {base : Heap}
theorem ok_drawn {f fD fP : Addr} {fd fdD fdP : FuncData} {k : Nat} (F : Fun K "_law_drawn_term" "_law_drawn_term" sDrawn f fd) (gF : mg "_law_drawn_term" = some (.ref f)) (bF : Binds K fd ["_law_pen_here", "_law_rows", "_law_deep", "_law_variables"] [])
    (GD : FnOk P w K mg base CX0 k fD fdD ["_law_pen_here", "_law_many"] Pn.spDraw) (gD : mg "_law_draw" = some (.ref fD)) (kD : PySem.W.keepIn K (.ref fD) = true) (bD : Binds K fdD ["_law_pen_here", "_law_many"] [])
    (GP : FnOk P w K mg base CX0 k fP fdP ["_law_pen_here", "_law_some"] (Pn.spPick K)) (gP : mg "_law_pick" = some (.ref fP)) (kP : PySem.W.keepIn K (.ref fP) = true) (bP : Binds K fdP ["_law_pen_here", "_law_some"] []) (mt : mg "tuple" = none) (mr : mg "range" = none) :
    ∀ n, FnOk P w K mg base CX0 (k + n) f fd ["_law_pen_here", "_law_rows", "_law_deep", "_law_variables"] (spDrawn K n)
  | 0 => vac fun vs H Q E ⟨p, l, ra, ns, c, deep, nv, R, _, _, _, _, _, _, z, _⟩ => absurd z (Nat.not_lt_zero _)
  | n + 1 => by
    have IH := ok_drawn F gF bF GD gD kD bD GP gP kP bP mt mr n
    refine F.ok scDrawn (fun vs H Q E h => ?_) (fun cdv A outer s H vs Q E hr h => ?_)
    · obtain ⟨p, l, ra, ns, c, deep, nv, R, rfl, _⟩ := h
      rfl
    · obtain ⟨p, l, ra, ns, c, deep, nv, R, rfl, hP, hlen, hc, hR, ok, hd, nv0, nv1, q⟩ := h
      have hr0 := hr.mono (Nat.le_add_right k n)
      refine ⟨_, C8.pss_cut (ps_if (pw_and (pt_cmpR op_gt (pv 3) pe_int (nomark _)) (pw_and1 (pt_cmpR op_eq (pe_call GD hr0 (by rfl) gD kD bD .nil pass0 (pa_cons (pv 0) (pa_cons pe_int pa_nil))) pe_int (nomark _)))).pt
          (pss_one (ps_ret (pe_call GD hr0 (by rfl) gD kD bD .nil pass0 (pa_cons (pv 0) (pa_cons (pv 3) pa_nil))))) pss_nil)
        (pss_cons (ps_setLc (i := 4) (own := [("_law_row", 8)]) (g := gName 8) (tt := tOr (tTest (tOp (rI0 fun i j => .bl (decide (j < i))) (tVar 2) (tC (.int 0)))) (tTest (tOp rEq (tOp (rIxT K) (tVar 8) (tC (.int 1))) (tC (.int 0))))) (te := tVar 8) rfl scDrawn.nd rfl rfl (sw_true rfl rfl rfl (by decide +kernel))
            (pi_tup (pe_ix ix_tup (pv 1) pe_int (fun _ _ => rfl)))
            (blkOk_by (N := ["_law_pen_here", "_law_rows", "_law_deep", "_law_variables", "_law_some", "_law_name", "_law_arity", "_law_weight", "_law_row", "_law_k"]) (sc := defScope sDrawn) (by decide +kernel))
            (fun _ _ _ _ _ => pg_name (i := 8) scDrawn.nd rfl (.inl rfl))
            (fun _ _ _ _ _ => pts_one (pw_or (pt_cmpR op_gt (pv 2) pe_int (nomark _)) (pw_or1 (pt_cmpR op_eq (pe_ix (r := rIxT K) ix_tup (pv 8) pe_int (fun _ _ => rfl)) pe_int (nomark _)))).pt)
            (fun _ _ _ _ _ => pv 8))
        (pss_cons (ps_asg (pe_call GP hr0 (by rfl) gP kP bP .nil pass0 (pa_cons (pv 0) (pa_cons (pv 4) pa_nil))) (pg_tup rfl (pgs_cons (pg_name (i := 5) scDrawn.nd rfl (.inl rfl)) (pgs_cons (pg_name (i := 6) scDrawn.nd rfl (.inl rfl)) (pgs_cons (pg_name (i := 7) scDrawn.nd rfl (.inl rfl)) pgs_nil)))))
        (pss_one (ps_ret (pe_op op_catT (pe_tup (pa_cons (pv 5) pa_nil)) (pe_callTy call_tuple_of (by rfl) mt (by decide +kernel) (pa_cons
          (pe_lc (own := [("_law_k", 9)]) (g := gName 9) (tt := tYes) rfl scDrawn.nd (pi_range1 (by rfl) mr (pa_cons (pv 6) pa_nil))
            (blkOk_by (N := ["_law_pen_here", "_law_rows", "_law_deep", "_law_variables", "_law_some", "_law_name", "_law_arity", "_law_weight", "_law_row", "_law_k"]) (sc := defScope sDrawn) (by decide +kernel))
            (fun _ _ _ _ _ => pg_name (i := 9) scDrawn.nd rfl (.inl rfl)) (fun _ _ _ _ _ => pts_nil)
            (fun _ _ _ _ _ => pe_call IH hr (by rfl) gF F.kp bF .nil pass0 (pa_cons (pv 0) (pa_cons (pv 1) (pa_cons (pe_op op_sub (pv 2) pe_int) (pa_cons (pv 3) pa_nil)))))) pa_nil))))))), ?_⟩
      refine ⟨fun σ G => ∃ c1, σ = [some (.ref p), some (.ref ra), some (.int (deep : Int)), some (.int nv), none, none, none, none, none, none] ∧ c1 ≤ c + 1 ∧ Pn.Pen G p l ns c1 ∧ Pn.But p H G, ?_, ?_⟩
      · have d2 := two_dn deep
        refine ⟨.int nv, rfl, nv, 0, rfl, rfl, _, rfl, ?_⟩
        refine ite2 (fun hpos => ?_) (fun _ => ?_)
        · have hpos' : 0 < nv := of_decide_eq_true hpos
          refine ⟨.ref p, rfl, p, l, ns, c, 3, rfl, hP, hlen, by omega, by decide, by decide, fun r G r0 r1 P1 b1 => ⟨rfl, _, rfl, ?_⟩⟩
          refine ite2 (fun _ => ?_) (fun _ => ?_)
          · refine ⟨.ref p, rfl, .int nv, rfl, p, l, ns, c + 1, nv, rfl, P1, hlen, by omega, by omega, by omega, fun r' G' r0' r1' P2 b2 => ?_⟩
            refine q (.v r') _ G' (c + 1 + 1) rfl ⟨rfl, Nat.zero_le _, one_sz _, fun j hj => ?_, True.intro⟩ (by omega) P2 (b1.trans b2)
            cases List.mem_singleton.mp hj
            exact ⟨r0', r1'⟩
          · exact ⟨c + 1, rfl, Nat.le_refl _, P1, b1⟩
        · exact ⟨c, rfl, Nat.le_succ _, hP, Pn.But.refl _ _⟩
      · rintro σ G ⟨c1, rfl, hc1, P1, b1⟩
        have hR1 := hR.mono (pen_tk hP b1)
        obtain ⟨rb, ry, rs, q1, q2, rows⟩ := hR1
        refine ⟨.ref ra, rfl, ra, _, 0, .ref rb, rfl, rfl, q1, atI_nat (j := 0) rfl, rb, rfl, ⟨rs, q2⟩, fun D nD => ?_⟩
        have lrs := rows.len
        obtain ⟨jc, rc, hjc, rc0⟩ := ok.const
        refine lc_tup (K := K) (a := rb) (xs := rs) (fun i G2 => ∃ acc, Same G G2 ∧ G2 D = some (.lst acc) ∧ (∀ v ∈ acc, ∃ r ∈ R, RowV K G r v ∧ (0 < deep ∨ r.2.1 = 0)) ∧ acc.length ≤ i ∧ (jc < i → acc ≠ [])) ⟨[], same_new (fun b o e => e) nD _, upd_same, (fun v hv => nomatch hv), Nat.le_refl _, fun z => absurd z (Nat.not_lt_zero _)⟩
          (fun i G2 _ ⟨acc, sm, _⟩ => (TK.same sm).sq q2) ?_ ?_
        · rintro i y G2 hy ⟨acc, sm, gD, mem, few, full⟩
          obtain ⟨r, hri, hrv⟩ := rows.get hy
          have hmem := List.mem_of_getElem? hri
          have hilt := (List.getElem?_eq_some_iff.mp hri).1
          have hfew := ok.few
          have yes : (0 < deep ∨ r.2.1 = 0) → ∃ acc', G2 D = some (.lst acc') ∧ acc'.length < sizeLine ∧ ∃ acc2, Same G (upd G2 D (.lst (acc' ++ [y]))) ∧ (upd G2 D (.lst (acc' ++ [y]))) D = some (.lst acc2) ∧ (∀ v ∈ acc2, ∃ r ∈ R, RowV K G r v ∧ (0 < deep ∨ r.2.1 = 0)) ∧ acc2.length ≤ i + 1 ∧ (jc < i + 1 → acc2 ≠ []) := by
            intro fit
            refine ⟨acc, gD, by rw [sizeLine_eq]; omega, _, same_on sm nD _, upd_same, fun v hv => ?_, ?_, fun _ => by simp⟩
            · rcases List.mem_append.mp hv with z | z
              · exact mem v z
              · cases List.mem_singleton.mp z
                exact ⟨r, hmem, hrv, fit⟩
            · rw [List.length_append, List.length_singleton]
              omega
          refine ⟨rfl, .int (deep : Int), rfl, _, _, rfl, rfl, _, rfl, ?_⟩
          refine ite2 (fun hpos => ?_) (fun hneg => ?_)
          · have hpos' : (0 : Int) < (deep : Int) := of_decide_eq_true hpos
            refine iteT ?_
            exact ⟨y, rfl, yes (.inl (by omega))⟩
          · obtain ⟨b, rfl, sqb⟩ := hrv
            refine ⟨.ref b, rfl, b, _, 1, .int (r.2.1 : Int), rfl, rfl, (TK.same sm).sq sqb, atI_nat (j := 1) rfl, rfl, _, rfl, ?_⟩
            by_cases z : r.2.1 = 0
            · have e : decide (V.int (r.2.1 : Int) = V.int 0) = true := by rw [z]; rfl
              rw [e]
              refine iteT ?_
              exact ⟨.ref b, rfl, yes (.inr z)⟩
            · have e : decide (V.int (r.2.1 : Int) = V.int 0) = false := by
                refine decide_eq_false fun w => z ?_
                have := V.int.inj w
                omega
              rw [e]
              refine iteF ?_
              refine ⟨acc, sm, gD, mem, Nat.le_succ_of_le few, fun lt => ?_⟩
              rcases Nat.lt_succ_iff_lt_or_eq.mp lt with w | w
              · exact full w
              · rw [← w, hjc] at hri
                cases hri
                exact absurd rc0 z
        · rintro G2 ⟨acc, sm, gD, mem, few, full⟩
          have hne : acc ≠ [] := full (by
            rw [lrs]
            exact (List.getElem?_eq_some_iff.mp hjc).1)
          have P2 := pen_same P1 sm
          have pD : D ≠ p := fun z => by
            obtain ⟨⟨_, _, _, e, _⟩, _⟩ := P1
            rw [z, e] at nD
            cases nD
          have d2 := two_dn deep
          have hfew := ok.few
          refine ⟨.ref p, rfl, .ref D, rfl, p, l, D, ns, c1, acc, rfl, P2, hlen, by omega, .inl (.inl (.inl gD)), hne, by omega, pD, fun x G3 hx P3 b3 => ?_⟩
          obtain ⟨r, hrR, ⟨b, rfl, sqb⟩, fit⟩ := mem x hx
          have k3 : TK G G3 := (TK.same sm).trans (pen_tk P2 b3)
          have hR3 := hR.mono ((pen_tk hP b1).trans k3)
          have b13 : Pn.But p H G3 := (b1.trans (Pn.But.of sm)).trans b3
          refine ⟨b, _, rfl, k3.sq sqb, rfl, .str r.1, _, rfl, .int (r.2.1 : Int), _, rfl, .int r.2.2, _, rfl, rfl, ?_⟩
          obtain ⟨strOk, ar3⟩ := ok.names r hrR
          refine ⟨.str r.1, rfl, (by show 1 ≤ sizeLine; decide), fun p4 n4 => ?_⟩
          have m4 : (upd G3 p4 (.tup [.str r.1])) p4 = some (.tup [.str r.1]) := upd_same
          have s4 : Same G3 (upd G3 p4 (.tup [.str r.1])) := same_new (fun b o e => e) n4 _
          have P4 := pen_same P3 s4
          have R4 := hR3.mono (TK.same s4)
          have b14 := b13.trans (Pn.But.of s4)
          generalize upd G3 p4 (.tup [.str r.1]) = G4 at m4 s4 P4 R4 b14
          refine ⟨.int (r.2.1 : Int), rfl, _, rfl, by omega, by omega, fun D2 nD2 => ?_⟩
          have pD2 : D2 ≠ p := fun z => by
            obtain ⟨⟨_, _, _, e, _⟩, _⟩ := P4
            rw [z, e] at nD2
            cases nD2
          have P4' := pen_same P4 (same_new (fun b o e => e) nD2 (.lst []))
          refine lc_range (lo := 0) (n := ((r.2.1 : Int)).toNat) (fun i G5 => ∃ (ts : List T) (acc : List V) (c5 : Nat), Pn.But p G4 G5 ∧ G5 D2 = some (.lst acc) ∧ Tms K G5 ts acc ∧ ts.length = i ∧ Pn.Pen G5 p l ns c5 ∧ c5 ≤ c1 + 1 + i * dn (deep - 1) ∧
            (∀ t ∈ ts, DT R (deep - 1) nv t)) ⟨[], [], c1 + 1, Pn.But.of (same_new (fun b o e => e) nD2 _), upd_same, rfl, rfl, P4', by omega, fun t ht => nomatch ht⟩ ?_ ?_
          · rintro i G5 hi ⟨ts, acc, c5, b5, gD, all, len, P5, hc5, dts⟩
            have hi' : i < r.2.1 := by omega
            have dpos : 0 < deep := by
              rcases fit with z | z
              · exact z
              · omega
            obtain ⟨d', rfl⟩ : ∃ d', deep = d' + 1 := ⟨deep - 1, by omega⟩
            have ed : d' + 1 - 1 = d' := Nat.add_sub_cancel ..
            rw [ed] at hc5 dts
            have hm : i * dn d' ≤ 2 * dn d' := Nat.mul_le_mul_right _ (by omega)
            have dd : dn (d' + 1) = 2 + 3 * dn d' := rfl
            have ez : (((d' + 1 : Nat)) : Int) - 1 = (d' : Int) := by omega
            have b45 := b14.trans b5
            refine ⟨rfl, .ref p, rfl, .ref ra, rfl, .int ((d' + 1 : Nat) : Int), rfl, _, _, rfl, rfl, .int nv, rfl, p, l, ra, ns, c5, d', nv, R, ?_, P5, hlen, by omega, hR.mono (pen_tk hP b45), ok, by omega, nv0, nv1, fun t v G6 c6 tv dt hc6 P6 b6 => ?_⟩
            · show [V.ref p, V.ref ra, V.int (((d' + 1 : Nat) : Int) - 1), V.int nv] = _
              rw [ez]
            · have g6 : G6 D2 = some (.lst acc) := b6 _ _ pD2 gD
              have k6 : TK G5 G6 := pen_tk P5 b6
              have kl : TK G6 (upd G6 D2 (.lst (acc ++ [v]))) := TK.lst g6 _
              have la := all.len
              refine ⟨acc, g6, by rw [sizeLine_eq]; omega, ts ++ [t], acc ++ [v], c6, ?_, upd_same, Tms.app (Tms.mono (k6.trans kl) _ _ all) (Tms.one (Tm.mono kl _ _ tv)), by rw [List.length_append, List.length_singleton, len], ?_, ?_, ?_⟩
              · intro b o nb e
                have e2 := b6 _ _ nb (b5 _ _ nb e)
                have nbD : b ≠ D2 := fun z => by rw [z, nD2] at e; cases e
                rw [upd_ne nbD]
                exact e2
              · obtain ⟨⟨a1, a2, a3, a4, a5⟩, a6⟩ := P6
                have lD : l ≠ D2 := fun z => by
                  have e := P4.ls
                  rw [z, nD2] at e
                  cases e
                exact ⟨⟨a1, a2, a3, by rw [upd_ne pD2.symm]; exact a4, a5⟩, by rw [upd_ne lD]; exact a6⟩
              · rw [ed, Nat.succ_mul]
                omega
              · intro t' ht'
                rw [ed]
                rcases List.mem_append.mp ht' with z | z
                · exact dts t' z
                · rw [List.mem_singleton.mp z]
                  exact dt
          · rintro G5 ⟨ts, acc, c5, b5, gD, all, len, P5, hc5, dts⟩
            have b45 := b14.trans b5
            have la := all.len
            have ar : ts.length = r.2.1 := by omega
            have n4p : p4 ≠ p := fun z => by
              obtain ⟨⟨_, _, _, e, _⟩, _⟩ := P3
              rw [z, e] at n4
              cases n4
            have m4' : G5 p4 = some (.tup [.str r.1]) := b5 _ _ n4p m4
            refine ⟨D2, acc, rfl, .inl ⟨.inl (.inl gD), fun p6 n6 => ?_⟩⟩
            have s6 : Same G5 (upd G5 p6 (.tup acc)) := same_new (fun b o e => e) n6 _
            have m6 : (upd G5 p6 (.tup acc)) p6 = some (.tup acc) := upd_same
            have P6 := pen_same P5 s6
            have b16 := b45.trans (Pn.But.of s6)
            have all6 := Tms.mono (TK.same s6) _ _ all
            have m4'' := s6 _ _ m4'
            generalize upd G5 p6 (.tup acc) = G6 at s6 m6 P6 b16 all6 m4''
            have dt : DT R deep nv (.f r.1 ts) ∧ c5 ≤ c + dn deep := by
              have named : ∀ us : List T, (∀ t ∈ us, t.named = true) → T.namedL us = true := by
                intro us
                induction us with
                | nil => intro _; rfl
                | cons u us ih =>
                  intro h
                  show (T.named u && T.namedL us) = true
                  rw [h u List.mem_cons_self, ih fun t ht => h t (List.mem_cons_of_mem _ ht)]
                  rfl
              have deps : ∀ (m : Nat) (us : List T), (∀ t ∈ us, t.dep ≤ m) → T.depL us ≤ m := by
                intro m us
                induction us with
                | nil => intro _; exact Nat.zero_le _
                | cons u us ih =>
                  intro h
                  have h1 := h u List.mem_cons_self
                  have h2 := ih fun t ht => h t (List.mem_cons_of_mem _ ht)
                  show max (T.dep u) (T.depL us) ≤ m
                  omega
              have sizes : ∀ (m : Nat) (us : List T), (∀ t ∈ us, t.size ≤ m) → T.sizeL us ≤ us.length * m := by
                intro m us
                induction us with
                | nil => intro _; exact Nat.zero_le _
                | cons u us ih =>
                  intro h
                  have h1 := h u List.mem_cons_self
                  have h2 := ih fun t ht => h t (List.mem_cons_of_mem _ ht)
                  show T.size u + T.sizeL us ≤ (us.length + 1) * m
                  rw [Nat.succ_mul]
                  omega
              have vars : ∀ us : List T, (∀ t ∈ us, ∀ j ∈ t.vars, 0 ≤ j ∧ j < nv) → ∀ j ∈ T.varsL us, 0 ≤ j ∧ j < nv := by
                intro us
                induction us with
                | nil => intro _ j hj; cases hj
                | cons u us ih =>
                  intro h j hj
                  rcases List.mem_append.mp (show j ∈ T.vars u ++ T.varsL us from hj) with z | z
                  · exact h u List.mem_cons_self j z
                  · exact ih (fun t ht => h t (List.mem_cons_of_mem _ ht)) j z
              have hs := sizes (sz (deep - 1)) ts fun t ht => (dts t ht).size
              have hv := vars ts fun t ht => (dts t ht).vars
              have hn := named ts fun t ht => (dts t ht).named
              have hd := deps (deep - 1 + 1) ts fun t ht => (dts t ht).dep
              cases deep with
              | zero =>
                have z : r.2.1 = 0 := by
                  rcases fit with y | y
                  · exact absurd y (Nat.lt_irrefl _)
                  · exact y
                have e : ts = [] := List.length_eq_zero_iff.mp (by omega)
                subst e
                have z2 : ((r.2.1 : Int)).toNat = 0 := by omega
                rw [z2] at hc5
                refine ⟨⟨?_, Nat.le_refl _, Nat.le_refl _, (fun j hj => nomatch hj), ⟨⟨r, hrR, rfl, ar.symm⟩, True.intro⟩⟩, ?_⟩
                · show (nameOk r.1 && true) = true
                  rw [strOk]
                  rfl
                · show c5 ≤ c + 2
                  omega
              | succ d' =>
                have ed : d' + 1 - 1 = d' := Nat.add_sub_cancel ..
                rw [ed] at hs hd hc5
                have hm : ts.length * sz d' ≤ 3 * sz d' := Nat.mul_le_mul_right _ (by omega)
                have hm2 : ((r.2.1 : Int)).toNat * dn d' ≤ 3 * dn d' := Nat.mul_le_mul_right _ (by omega)
                refine ⟨⟨?_, ?_, ?_, hv, ⟨⟨r, hrR, rfl, ar.symm⟩, Kb.wfL_of fun t ht => (dts t ht).wf⟩⟩, ?_⟩
                · show (nameOk r.1 && T.namedL ts) = true
                  rw [strOk, hn]
                  rfl
                · show 1 + T.depL ts ≤ d' + 1 + 1
                  omega
                · show 1 + T.sizeL ts ≤ 1 + 3 * sz d'
                  omega
                · show c5 ≤ c + (2 + 3 * dn d')
                  omega
            refine ⟨p4, p6, _, _, rfl, rfl, .inl (.inl m4''), .inl (.inl m6), by simp, by rw [List.length_singleton, sizeLine_eq]; omega, fun e => ?_, fun e p7 n7 => ?_⟩
            · refine q (.f r.1 ts) _ G6 c5 ⟨p4, acc, rfl, ?_, all6⟩ dt.1 dt.2 P6 b16
              rw [e]
              exact .inl (.inl m4'')
            · have s7 : Same G6 (upd G6 p7 (.tup ([.str r.1] ++ acc))) := same_new (fun b o e => e) n7 _
              exact q (.f r.1 ts) _ _ c5 ⟨p7, acc, rfl, .inl (.inl upd_same), Tms.mono (TK.same s7) _ _ all6⟩ dt.1 dt.2 (pen_same P6 s7) (b16.trans (Pn.But.of s7))
end
end Ad

/-! picking from a tuple, wherever it stands -/
namespace Ad
open PySem PySem.Spec PySem.Calls PyProof.Rows L2
section
variable {P : Program} {w : World} {K : PySem.W.Frag} {mg : Str → Option Value} {base : Heap}
def spPickT (K : PySem.W.Frag) : Sp := fun vs H Q _ => ∃ (p l s : Addr) (ns : List Int) (c : Nat) (xs : List V), vs = [.ref p, .ref s] ∧ Pn.Pen H p l ns c ∧ ns.length ≤ 1000 ∧ c ≤ 1000000000 ∧ SqT K H s xs ∧ xs ≠ [] ∧ xs.length ≤ 1000000 ∧
  ∀ x H', x ∈ xs → Pn.Pen H' p l ns (c + 1) → Pn.But p H H' → Q x H'
theorem ok_pickT {f fD : Addr} {fd fdD : FuncData} {k : Nat} (F : Fun K "_law_pick" "_law_pick" Pn.sPick f fd) (G : FnOk P w K mg base CX0 (k + 1) fD fdD ["_law_pen_here", "_law_many"] Pn.spDraw) (gD : mg "_law_draw" = some (.ref fD)) (kD : PySem.W.keepIn K (.ref fD) = true) (bD : Binds K fdD ["_law_pen_here", "_law_many"] [])
    (ml : mg "len" = none) : FnOk P w K mg base CX0 (k + 2) f fd ["_law_pen_here", "_law_some"] (spPickT K) := by
  refine F.ok Pn.scPick (fun vs H Q E h => ?_) (fun cdv A outer s H vs Q E hr h => ?_)
  · obtain ⟨p, l, s, ns, c, xs, rfl, _⟩ := h
    rfl
  · obtain ⟨p, l, s, ns, c, xs, rfl, hP, hlen, hc, hS, hne, hx, q⟩ := h
    refine ⟨_, pss_one (ps_ret (pe_ix ix_tup (pv 1) (pe_call G hr (by rfl) gD kD bD .nil pass0 (pa_cons (pv 0) (pa_cons (pe_callB call_len_seq (by rfl) ml PySem.boot_len (pa_cons (pv 1) pa_nil)) pa_nil))) (fun _ _ => rfl))), ?_⟩
    have hpos : 1 ≤ xs.length := by
      cases xs with
      | nil => exact absurd rfl hne
      | cons x r => rw [List.length_cons]; omega
    refine ⟨.ref s, rfl, .ref p, rfl, .ref s, rfl, s, xs, rfl, .inr hS, p, l, ns, c, _, rfl, hP, hlen, hc, by omega, by omega, fun r H' r0 r1 hP' b' => ?_⟩
    obtain ⟨j, rfl⟩ : ∃ j : Nat, r = (j : Int) := ⟨r.toNat, by omega⟩
    have hj : j < xs.length := by omega
    have hg : xs[j]? = some xs[j] := List.getElem?_eq_getElem hj
    exact ⟨s, xs, _, _, rfl, rfl, (pen_tk hP b').sq hS, atI_nat hg, q _ _ (List.getElem_mem hj) hP' b'⟩
end
end Ad

namespace Ad
open PySem PySem.Spec PySem.Calls PyProof.Rows L2
abbrev sLAtom : Stmt := topS 30
theorem scLAtom : FnScope ["_law_pen_here", "_law_rows", "_law_deep", "_law_variables", "_law_name", "_law_arity", "_law_weight", "_law_k"] ["_law_pen_here", "_law_rows", "_law_deep", "_law_variables"] (defScope sLAtom) := ⟨rfl, rfl, rfl, by decide +kernel, rfl, by decide +kernel, by decide +kernel⟩
/-- a drawn atom -/
structure DA (R S : List Row) (deep : Nat) (nv : Int) (t : T) : Prop where
  named : t.named = true
  dep : t.dep ≤ deep + 1
  size : t.size ≤ sz deep
  vars : ∀ j ∈ t.vars, 0 ≤ j ∧ j < nv
  wf : Kb.Wf (R ++ S) t
  hd : ∃ x ts, t = .f x ts ∧ ∃ r ∈ S, r.1 = x
/-- names of truths -/
structure TOk (S : List Row) : Prop where
  names : ∀ r ∈ S, nameOk r.1 = true ∧ r.2.1 ≤ 3
  some : S ≠ []
  few : S.length ≤ 1000
section
variable {P : Program} {w : World} {K : PySem.W.Frag} {mg : Str → Option Value} {base : Heap}
def spLAtom (K : PySem.W.Frag) (n : Nat) : Sp := fun vs H Q _ => ∃ (p l ra : Addr) (ns : List Int) (c d' : Nat) (nv : Int) (R S : List Row), vs = [.ref p, .ref ra, .int ((d' + 1 : Nat) : Int), .int nv] ∧ Pn.Pen H p l ns c ∧ ns.length ≤ 1000 ∧ c + dn (d' + 1) ≤ 1000000000 ∧ OrdAt K H ra R S ∧ ROk R ∧ TOk S ∧
  d' < n ∧ 0 ≤ nv ∧ nv ≤ 1000 ∧ ∀ t v H' c', Tm K H' t v → DA R S (d' + 1) nv t → c' ≤ c + dn (d' + 1) → Pn.Pen H' p l ns c' → Pn.But p H H' → Q v H'
theorem ok_latom {f fP fT : Addr} {fd fdP fdT : FuncData} {k n : Nat} (F : Fun K "_law_drawn_atom" "_law_drawn_atom" sLAtom f fd)
    (GP : FnOk P w K mg base CX0 k fP fdP ["_law_pen_here", "_law_some"] (spPickT K)) (gP : mg "_law_pick" = some (.ref fP)) (kP : PySem.W.keepIn K (.ref fP) = true) (bP : Binds K fdP ["_law_pen_here", "_law_some"] [])
    (IH : FnOk P w K mg base CX0 k fT fdT ["_law_pen_here", "_law_rows", "_law_deep", "_law_variables"] (spDrawn K n)) (gF : mg "_law_drawn_term" = some (.ref fT)) (kF : PySem.W.keepIn K (.ref fT) = true) (bF : Binds K fdT ["_law_pen_here", "_law_rows", "_law_deep", "_law_variables"] []) (mt : mg "tuple" = none) (mr : mg "range" = none) :
    FnOk P w K mg base CX0 (k + 1) f fd ["_law_pen_here", "_law_rows", "_law_deep", "_law_variables"] (spLAtom K n) := by
  refine F.ok scLAtom (fun vs H Q E h => ?_) (fun cdv A outer s H vs Q E hr h => ?_)
  · obtain ⟨p, l, ra, ns, c, d', nv, R, S, rfl, _⟩ := h
    rfl
  · obtain ⟨p, l, ra, ns, c, d', nv, R, S, rfl, hP, hlen, hc, hO, ok, tok, hd, nv0, nv1, q⟩ := h
    have hR := hO.rows
    refine ⟨_, (pss_cons (ps_asg (pe_call GP hr (by rfl) gP kP bP .nil pass0 (pa_cons (pv 0) (pa_cons (pe_ix ix_tup (pv 1) pe_int (fun _ _ => rfl)) pa_nil))) (pg_tup rfl (pgs_cons (pg_name (i := 4) scLAtom.nd rfl (.inl rfl)) (pgs_cons (pg_name (i := 5) scLAtom.nd rfl (.inl rfl)) (pgs_cons (pg_name (i := 6) scLAtom.nd rfl (.inl rfl)) pgs_nil)))))
    (pss_one (ps_ret (pe_op op_catT (pe_tup (pa_cons (pv 4) pa_nil)) (pe_callTy call_tuple_of (by rfl) mt (by decide +kernel) (pa_cons (pe_lc (own := [("_law_k", 7)]) (g := gName 7) (tt := tYes) rfl scLAtom.nd (pi_range1 (by rfl) mr (pa_cons (pv 5) pa_nil)) (blkOk_by (N := ["_law_pen_here", "_law_rows", "_law_deep", "_law_variables", "_law_name", "_law_arity", "_law_weight", "_law_k"]) (sc := defScope sLAtom) (by decide +kernel)) (fun _ _ _ _ _ => (pg_name (i := 7) scLAtom.nd rfl (.inl rfl))) (fun _ _ _ _ _ => pts_nil) (fun _ _ _ _ _ => (pe_call IH hr (by rfl) gF kF bF .nil pass0 (pa_cons (pv 0) (pa_cons (pv 1) (pa_cons (pe_op op_sub (pv 2) pe_int) (pa_cons (pv 3) pa_nil))))))) pa_nil)))))), ?_⟩
    have dd : dn (d' + 1) = 2 + 3 * dn d' := rfl
    obtain ⟨b1, b2, vs1, vs2, sq0, sq1, sq2, f1, f2⟩ := hO
    have l2 := f2.len
    have fewS := tok.few
    have ne2 : vs2 ≠ [] := fun e => tok.some (by
      rw [e] at l2
      exact List.length_eq_zero_iff.mp l2.symm)
    obtain ⟨c1, ec1⟩ : ∃ c1, c1 = c := ⟨c, rfl⟩
    refine ⟨.ref p, rfl, .ref ra, rfl, ra, _, 1, .ref b2, rfl, rfl, sq0, atI_nat (j := 1) rfl, p, l, b2, ns, c, vs2, rfl, hP, hlen, by omega, sq2, ne2, by omega, fun x G3 hx P3 b13 => ?_⟩
    rw [← ec1] at P3
    have k3 := pen_tk hP b13
    have hR3 := hR.mono k3
    obtain ⟨r, hrR, ⟨b, rfl, sqb⟩⟩ := f2.mem hx
    obtain ⟨strOk, ar3⟩ := tok.names r hrR
    refine ⟨b, _, rfl, k3.sq sqb, rfl, .str r.1, _, rfl, .int (r.2.1 : Int), _, rfl, .int r.2.2, _, rfl, rfl, ?_⟩
    obtain ⟨strOk, ar3⟩ := tok.names r hrR
    refine ⟨.str r.1, rfl, (by show 1 ≤ sizeLine; decide), fun p4 n4 => ?_⟩
    have m4 : (upd G3 p4 (.tup [.str r.1])) p4 = some (.tup [.str r.1]) := upd_same
    have s4 : Same G3 (upd G3 p4 (.tup [.str r.1])) := same_new (fun b o e => e) n4 _
    have P4 := pen_same P3 s4
    have R4 := hR3.mono (TK.same s4)
    have b14 := b13.trans (Pn.But.of s4)
    generalize upd G3 p4 (.tup [.str r.1]) = G4 at m4 s4 P4 R4 b14
    refine ⟨.int (r.2.1 : Int), rfl, _, rfl, by omega, by omega, fun D2 nD2 => ?_⟩
    have pD2 : D2 ≠ p := fun z => by
      obtain ⟨⟨_, _, _, e, _⟩, _⟩ := P4
      rw [z, e] at nD2
      cases nD2
    have P4' := pen_same P4 (same_new (fun b o e => e) nD2 (.lst []))
    refine lc_range (lo := 0) (n := ((r.2.1 : Int)).toNat) (fun i G5 => ∃ (ts : List T) (acc : List V) (c5 : Nat), Pn.But p G4 G5 ∧ G5 D2 = some (.lst acc) ∧ Tms K G5 ts acc ∧ ts.length = i ∧ Pn.Pen G5 p l ns c5 ∧ c5 ≤ c1 + 1 + i * dn d' ∧
      (∀ t ∈ ts, DT R d' nv t)) ⟨[], [], c1 + 1, Pn.But.of (same_new (fun b o e => e) nD2 _), upd_same, rfl, rfl, P4', by omega, fun t ht => nomatch ht⟩ ?_ ?_
    · rintro i G5 hi ⟨ts, acc, c5, b5, gD, all, len, P5, hc5, dts⟩
      have hi' : i < r.2.1 := by omega
      have hm : i * dn d' ≤ 2 * dn d' := Nat.mul_le_mul_right _ (by omega)
      have ez : (((d' + 1 : Nat)) : Int) - 1 = (d' : Int) := by omega
      have b45 := b14.trans b5
      refine ⟨rfl, .ref p, rfl, .ref ra, rfl, .int ((d' + 1 : Nat) : Int), rfl, _, _, rfl, rfl, .int nv, rfl, p, l, ra, ns, c5, d', nv, R, ?_, P5, hlen, by omega, hR.mono (pen_tk hP b45), ok, by omega, nv0, nv1, fun t v G6 c6 tv dt hc6 P6 b6 => ?_⟩
      · show [V.ref p, V.ref ra, V.int (((d' + 1 : Nat) : Int) - 1), V.int nv] = _
        rw [ez]
      · have g6 : G6 D2 = some (.lst acc) := b6 _ _ pD2 gD
        have k6 : TK G5 G6 := pen_tk P5 b6
        have kl : TK G6 (upd G6 D2 (.lst (acc ++ [v]))) := TK.lst g6 _
        have la := all.len
        refine ⟨acc, g6, by rw [sizeLine_eq]; omega, ts ++ [t], acc ++ [v], c6, ?_, upd_same, Tms.app (Tms.mono (k6.trans kl) _ _ all) (Tms.one (Tm.mono kl _ _ tv)), by rw [List.length_append, List.length_singleton, len], ?_, ?_, ?_⟩
        · intro b o nb e
          have e2 := b6 _ _ nb (b5 _ _ nb e)
          have nbD : b ≠ D2 := fun z => by rw [z, nD2] at e; cases e
          rw [upd_ne nbD]
          exact e2
        · obtain ⟨⟨a1, a2, a3, a4, a5⟩, a6⟩ := P6
          have lD : l ≠ D2 := fun z => by
            have e := P4.ls
            rw [z, nD2] at e
            cases e
          exact ⟨⟨a1, a2, a3, by rw [upd_ne pD2.symm]; exact a4, a5⟩, by rw [upd_ne lD]; exact a6⟩
        · rw [Nat.succ_mul]
          omega
        · intro t' ht'
          rcases List.mem_append.mp ht' with z | z
          · exact dts t' z
          · rw [List.mem_singleton.mp z]
            exact dt
    · rintro G5 ⟨ts, acc, c5, b5, gD, all, len, P5, hc5, dts⟩
      have b45 := b14.trans b5
      have la := all.len
      have ar : ts.length = r.2.1 := by omega
      have n4p : p4 ≠ p := fun z => by
        obtain ⟨⟨_, _, _, e, _⟩, _⟩ := P3
        rw [z, e] at n4
        cases n4
      have m4' : G5 p4 = some (.tup [.str r.1]) := b5 _ _ n4p m4
      refine ⟨D2, acc, rfl, .inl ⟨.inl (.inl gD), fun p6 n6 => ?_⟩⟩
      have s6 : Same G5 (upd G5 p6 (.tup acc)) := same_new (fun b o e => e) n6 _
      have m6 : (upd G5 p6 (.tup acc)) p6 = some (.tup acc) := upd_same
      have P6 := pen_same P5 s6
      have b16 := b45.trans (Pn.But.of s6)
      have all6 := Tms.mono (TK.same s6) _ _ all
      have m4'' := s6 _ _ m4'
      generalize upd G5 p6 (.tup acc) = G6 at s6 m6 P6 b16 all6 m4''
      have dt : DA R S (d' + 1) nv (.f r.1 ts) ∧ c5 ≤ c + dn (d' + 1) := by
        have named : ∀ us : List T, (∀ t ∈ us, t.named = true) → T.namedL us = true := by
          intro us
          induction us with
          | nil => intro _; rfl
          | cons u us ih =>
            intro h
            show (T.named u && T.namedL us) = true
            rw [h u List.mem_cons_self, ih fun t ht => h t (List.mem_cons_of_mem _ ht)]
            rfl
        have deps : ∀ (m : Nat) (us : List T), (∀ t ∈ us, t.dep ≤ m) → T.depL us ≤ m := by
          intro m us
          induction us with
          | nil => intro _; exact Nat.zero_le _
          | cons u us ih =>
            intro h
            have h1 := h u List.mem_cons_self
            have h2 := ih fun t ht => h t (List.mem_cons_of_mem _ ht)
            show max (T.dep u) (T.depL us) ≤ m
            omega
        have sizes : ∀ (m : Nat) (us : List T), (∀ t ∈ us, t.size ≤ m) → T.sizeL us ≤ us.length * m := by
          intro m us
          induction us with
          | nil => intro _; exact Nat.zero_le _
          | cons u us ih =>
            intro h
            have h1 := h u List.mem_cons_self
            have h2 := ih fun t ht => h t (List.mem_cons_of_mem _ ht)
            show T.size u + T.sizeL us ≤ (us.length + 1) * m
            rw [Nat.succ_mul]
            omega
        have vars : ∀ us : List T, (∀ t ∈ us, ∀ j ∈ t.vars, 0 ≤ j ∧ j < nv) → ∀ j ∈ T.varsL us, 0 ≤ j ∧ j < nv := by
          intro us
          induction us with
          | nil => intro _ j hj; cases hj
          | cons u us ih =>
            intro h j hj
            rcases List.mem_append.mp (show j ∈ T.vars u ++ T.varsL us from hj) with z | z
            · exact h u List.mem_cons_self j z
            · exact ih (fun t ht => h t (List.mem_cons_of_mem _ ht)) j z
        have hs := sizes (sz d') ts fun t ht => (dts t ht).size
        have hv := vars ts fun t ht => (dts t ht).vars
        have hn := named ts fun t ht => (dts t ht).named
        have hd := deps (d' + 1) ts fun t ht => (dts t ht).dep
        have szd : sz (d' + 1) = 1 + 3 * sz d' := rfl
        have hm : ts.length * sz d' ≤ 3 * sz d' := Nat.mul_le_mul_right _ (by omega)
        have hm2 : ((r.2.1 : Int)).toNat * dn d' ≤ 3 * dn d' := Nat.mul_le_mul_right _ (by omega)
        refine ⟨⟨?_, ?_, ?_, hv, ⟨⟨r, List.mem_append_right _ hrR, rfl, ar.symm⟩, Kb.wfL_of fun t ht => (dts t ht).wf.mono fun r hr => List.mem_append_left _ hr⟩, ⟨_, _, rfl, r, hrR, rfl⟩⟩, ?_⟩
        · show (nameOk r.1 && T.namedL ts) = true
          rw [strOk, hn]
          rfl
        · show 1 + T.depL ts ≤ d' + 1 + 1
          omega
        · show 1 + T.sizeL ts ≤ 1 + 3 * sz d'
          omega
        · show c5 ≤ c + (2 + 3 * dn d')
          omega
      refine ⟨p4, p6, _, _, rfl, rfl, .inl (.inl m4''), .inl (.inl m6), by simp, by rw [List.length_singleton, sizeLine_eq]; omega, fun e => ?_, fun e p7 n7 => ?_⟩
      · refine q (.f r.1 ts) _ G6 c5 ⟨p4, acc, rfl, ?_, all6⟩ dt.1 dt.2 P6 b16
        rw [e]
        exact .inl (.inl m4'')
      · have s7 : Same G6 (upd G6 p7 (.tup ([.str r.1] ++ acc))) := same_new (fun b o e => e) n7 _
        exact q (.f r.1 ts) _ _ c5 ⟨p7, acc, rfl, .inl (.inl upd_same), Tms.mono (TK.same s7) _ _ all6⟩ dt.1 dt.2 (pen_same P6 s7) (b16.trans (Pn.But.of s7))
end
end Ad

namespace Ad
open PySem PySem.Spec PySem.Calls PyProof.Rows L2 GxR
abbrev sLPut : Stmt := topS 27
theorem scLPut : FnScope ["_law_term", "_law_known", "_law_part"] ["_law_term", "_law_known"] (defScope sLPut) := ⟨rfl, rfl, rfl, by decide +kernel, rfl, by decide +kernel, by decide +kernel⟩
section
variable {P : Program} {w : World} {K : PySem.W.Frag} {mg : Str → Option Value} {base : Heap}
theorem ok_lput {f fV : Addr} {fd fdV : FuncData} {k : Nat} (F : Fun K "_law_put" "_law_put" sLPut f fd) (gF : mg "_law_put" = some (.ref f)) (bF : Binds K fd ["_law_term", "_law_known"] [])
    (G : FnOk P w K mg base CX0 k fV fdV ["_law_term"] (spIsVar K)) (gV : mg "_law_is_var" = some (.ref fV)) (kV : PySem.W.keepIn K (.ref fV) = true) (bV : Binds K fdV ["_law_term"] []) (mt : mg "tuple" = none) :
    ∀ n, FnOk P w K mg base CX0 (k + n) f fd ["_law_term", "_law_known"] (spFilled K n)
  | 0 => vac fun vs H Q E ⟨t, x, d, tb, kvs, _, _, _, _, z, _⟩ => absurd z (Nat.not_lt_zero _)
  | n + 1 => by
    have IH := ok_lput F gF bF G gV kV bV mt n
    refine F.ok scLPut (fun vs H Q E h => ?_) (fun cdv A outer s H vs Q E hr h => ?_)
    · obtain ⟨t, x, d, tb, kvs, rfl, _⟩ := h
      rfl
    · obtain ⟨t, x, d, tb, kvs, rfl, ht, hd, htb, shallow, small, q⟩ := h
      refine ⟨_, pss_cons (ps_if (pt_val (pe_call G (hr.mono (Nat.le_add_right _ _)) (by rfl) gV kV bV .nil pass0 (pa_cons (pv 0) pa_nil))) (pss_one (ps_ret (pe_dget2 (hu1 hr) (pv 1) (pv 0) (pv 0) ⟨rfl, rfl, rfl, rfl⟩))) pss_nil)
        (pss_one (ps_ret (pe_op op_catT (pe_tup (pa_cons (pe_ix ix_tup (pv 0) pe_int (fun _ _ => rfl)) pa_nil)) (pe_callTy call_tuple_of (by rfl) mt (by decide +kernel) (pa_cons
          (pe_lc (own := [("_law_part", 2)]) (g := gName 2) (tt := tYes) rfl scLPut.nd (pi_tup (pe_slice sl_tup (pv 0) (po_some pe_int) po_none)) (blkOk_by (N := ["_law_term", "_law_known", "_law_part"]) (sc := defScope sLPut) (by decide +kernel))
            (fun _ _ _ _ _ => pg_name (i := 2) scLPut.nd rfl (.inl rfl)) (fun _ _ _ _ _ => pts_nil)
            (fun _ _ _ _ _ => pe_call IH hr (by rfl) gF F.kp bF .nil pass0 (pa_cons (pv 2) (pa_cons (pv 1) pa_nil)))) pa_nil))))), ?_⟩
      refine ⟨x, rfl, t, x, rfl, ht, _, rfl, ?_⟩
      cases t with
      | v i =>
        cases (show x = .int i from ht)
        refine iteT ?_
        refine ⟨.ref d, rfl, d, rfl, .inl ⟨kvs, .inl hd⟩, .int i, rfl, .int i, rfl, _, DGet.k (k := Sum.inl i) hd, ?_⟩
        rcases htb.val i with ⟨a, b⟩ | ⟨t', v', a, b, tv⟩
        · rw [b]
          refine q (.int i) H (fun b o e => e) ?_
          show Tm K H ((tb.look i).getD (.v i)) (.int i)
          rw [a]
          exact rfl
        · rw [b]
          refine q v' H (fun b o e => e) ?_
          show Tm K H ((tb.look i).getD (.v i)) v'
          rw [a]
          exact tv
      | f nm ts =>
        obtain ⟨a, zs, rfl, sq, all⟩ := ht
        refine iteF ?_
        refine ⟨.ref a, rfl, a, _, 0, .str nm, rfl, rfl, sq, atI_nat (j := 0) rfl, (by show 1 ≤ sizeLine; decide), fun p0 n0 => ?_⟩
        have k0 := TK.new n0 (.tup [.str nm])
        have sm0 : Same H (upd H p0 (.tup [.str nm])) := same_new (fun b o e => e) n0 _
        have m0 : (upd H p0 (.tup [.str nm])) p0 = some (.tup [.str nm]) := upd_same
        replace sq := k0.sq sq
        replace all := Tms.mono k0 _ _ all
        generalize upd H p0 (.tup [.str nm]) = H0 at sm0 m0 sq all
        refine ⟨.ref a, rfl, 1, rfl, a, _, rfl, sq, cut_args.1, fun p1 n1 => ⟨p1, rfl, ⟨_, .inl (.inl upd_same)⟩, fun D nD => ?_⟩⟩
        rw [cut_args.2] at nD ⊢
        have sm1 : Same H (upd H0 p1 (.tup zs)) := same_new sm0 n1 _
        have m1 : (upd H0 p1 (.tup zs)) p1 = some (.tup zs) := upd_same
        have m01 : (upd H0 p1 (.tup zs)) p0 = some (.tup [.str nm]) := by rw [upd_ne (ne_of_none m0 n1)]; exact m0
        replace all := Tms.mono (TK.new n1 (.tup zs)) _ _ all
        generalize upd H0 p1 (.tup zs) = H1 at nD sm1 m1 m01 all ⊢
        have lz := all.len
        have szu : T.size (.f nm ts) = 1 + T.sizeL ts := rfl
        have lts := T.len_sizeL ts
        refine lc_tup (K := K) (a := p1) (xs := zs) (fun i G => ∃ acc, Same H1 G ∧ G D = some (.lst acc) ∧ Tms K G ((ts.take i).map (T.fill tb.asg)) acc) ⟨[], same_new (fun b o e => e) nD _, upd_same, rfl⟩ (fun i G _ ⟨_, sm, _⟩ => .inl (.inl (sm _ _ m1))) ?_ ?_
        · rintro i y G hy ⟨acc, sm, g, done⟩
          obtain ⟨u, hu, tu⟩ := (Tms.mono (TK.same sm) _ _ all).get hy
          have hm := List.mem_of_getElem? hu
          have d1 := T.dep_mem hm
          have d2 : T.dep (.f nm ts) = 1 + T.depL ts := rfl
          have d3 := T.size_mem hm
          have la := done.len
          rw [List.length_map, List.length_take] at la
          have smH : Same H G := fun b o e => sm _ _ (sm1 _ _ e)
          refine ⟨rfl, y, rfl, .ref d, rfl, u, y, d, tb, kvs, rfl, tu, smH _ _ hd, htb.mono (TK.same smH), by omega, by omega, fun v G2 sm2 tv => ⟨acc, sm2 _ _ g, by rw [sizeLine_eq]; omega, acc ++ [v], ?_, upd_same, ?_⟩⟩
          · have sm3 : Same H1 G2 := fun b o e => sm2 _ _ (sm _ _ e)
            exact same_on sm3 nD _
          · have k3 : TK G2 (upd G2 D (.lst (acc ++ [v]))) := TK.lst (sm2 _ _ g) _
            rw [List.take_add_one, hu, List.map_append]
            exact Tms.app (Tms.mono ((TK.same sm2).trans k3) _ _ done) (Tms.one (Tm.mono k3 _ _ tv))
        · rintro G ⟨acc, sm, g, done⟩
          rw [lz, List.take_length] at done
          have la := done.len
          rw [List.length_map] at la
          refine ⟨D, acc, rfl, .inl ⟨.inl (.inl g), fun p5 n5 => ?_⟩⟩
          have s5 : Same G (upd G p5 (.tup acc)) := same_new (fun b o e => e) n5 _
          have m5 : (upd G p5 (.tup acc)) p5 = some (.tup acc) := upd_same
          have m0' := s5 _ _ (sm _ _ m01)
          replace done := Tms.mono (TK.same s5) _ _ done
          have smH : Same H (upd G p5 (.tup acc)) := fun b o e => s5 _ _ (sm _ _ (sm1 _ _ e))
          generalize upd G p5 (.tup acc) = G5 at m5 m0' done smH
          refine ⟨p0, p5, _, _, rfl, rfl, .inl (.inl m0'), .inl (.inl m5), by simp, by rw [List.length_singleton, sizeLine_eq]; omega, fun e => ?_, fun e p6 n6 => ?_⟩
          · refine q _ _ smH ⟨p0, acc, rfl, ?_, ?_⟩
            · rw [e]
              exact .inl (.inl m0')
            · rw [T.fillL_map]
              exact done
          · refine q _ _ (same_new smH n6 _) ⟨p6, acc, rfl, .inl (.inl upd_same), ?_⟩
            rw [T.fillL_map]
            exact Tms.mono (TK.new n6 _) _ _ done
end
end Ad

/-! Drawn literals; putting numbers into a clause. -/
namespace Ad
open PySem PySem.Spec PySem.Calls PyProof.Rows L2 GxR
mutual
/-- good names throughout -/
def gdN : T → Bool
  | .v _ => true
  | .f x ts => namB x && gdNs ts
def gdNs : List T → Bool
  | [] => true
  | t :: ts => gdN t && gdNs ts
end
def NamR (R : List Row) : Prop := ∀ r ∈ R, namB r.1 = true
mutual
theorem wf_gdN {R : List Row} (h : NamR R) : ∀ t : T, Kb.Wf R t → gdN t = true
  | .v _, _ => rfl
  | .f x ts, ⟨⟨r, hr, e, _⟩, w⟩ => by
    show (namB x && gdNs ts) = true
    rw [← e, h r hr, wfs_gdN h ts w]
    rfl
theorem wfs_gdN {R : List Row} (h : NamR R) : ∀ ts : List T, Kb.WfL R ts → gdNs ts = true
  | [], _ => rfl
  | t :: ts, ⟨h1, h2⟩ => by
    show (gdN t && gdNs ts) = true
    rw [wf_gdN h t h1, wfs_gdN h ts h2]
    rfl
end
mutual
theorem fill_tok {s : Int → T} : ∀ t : T, gdN t = true → (∀ j ∈ t.vars, tok (s j) = true) → tok (T.fill s t) = true
  | .v i, _, h => h i (List.mem_singleton.mpr rfl)
  | .f x ts, g, h => by
    obtain ⟨g1, g2⟩ := Bool.and_eq_true_iff.mp (show (namB x && gdNs ts) = true from g)
    show (namB x && toks (T.fillL s ts)) = true
    rw [g1, fills_tok ts g2 h]
    rfl
theorem fills_tok {s : Int → T} : ∀ ts : List T, gdNs ts = true → (∀ j ∈ T.varsL ts, tok (s j) = true) → toks (T.fillL s ts) = true
  | [], _, _ => rfl
  | t :: ts, g, h => by
    obtain ⟨g1, g2⟩ := Bool.and_eq_true_iff.mp (show (gdN t && gdNs ts) = true from g)
    show (tok (T.fill s t) && toks (T.fillL s ts)) = true
    rw [fill_tok t g1 fun j hj => h j (List.mem_append_left _ hj), fills_tok ts g2 fun j hj => h j (List.mem_append_right _ hj)]
    rfl
end
/-- a side as drawn -/
structure Raw (t : T) : Prop where
  named : t.named = true
  dep : t.dep ≤ 5
  size : t.size ≤ 100
  vars : ∀ j ∈ t.vars, 0 ≤ j ∧ j < 3
  good : t = yesT ∨ gdN t = true
structure RawL (q : L3) : Prop where
  l : Raw q.2.1
  r : Raw q.2.2
  y : isY q.2.2 = true → ∃ nm ts, q.2.1 = .f nm ts
theorem raw_yes : Raw yesT := ⟨by decide +kernel, by decide, by decide, fun j hj => absurd hj List.not_mem_nil, .inl rfl⟩
theorem DT.raw {R : List Row} (hR : NamR R) {t : T} (h : DT R 2 3 t) : Raw t := ⟨h.named, by have := h.dep; omega, by have := h.size; have e : sz 2 = 13 := rfl; omega, h.vars, .inr (wf_gdN hR t h.wf)⟩
theorem DA.raw {R S : List Row} (hR : NamR (R ++ S)) {t : T} (h : DA R S 2 3 t) : Raw t := ⟨h.named, by have := h.dep; omega, by have := h.size; have e : sz 2 = 13 := rfl; omega, h.vars, .inr (wf_gdN hR t h.wf)⟩
/-- the known numbers -/
structure Nums3 (tb : Sb) : Prop where
  ok : ∀ j : Int, 0 ≤ j → j < 3 → tok (tb.asg j) = true ∧ (tb.asg j).named = true ∧ (tb.asg j).dep = 0 ∧ (tb.asg j).size = 1
def L3.fill (s : Int → T) (q : L3) : L3 := (q.1, T.fill s q.2.1, T.fill s q.2.2)
theorem raw_side {tb : Sb} (n : Nums3 tb) {t : T} (h : Raw t) : SideN (T.fill tb.asg t) := by
  have hv : ∀ j ∈ t.vars, tok (tb.asg j) = true ∧ (tb.asg j).named = true ∧ (tb.asg j).dep = 0 ∧ (tb.asg j).size = 1 := fun j hj => n.ok j (h.vars j hj).1 (h.vars j hj).2
  refine ⟨⟨?_, ?_, ?_⟩, ?_⟩
  · rcases h.good with rfl | g
    · exact .inl rfl
    · exact .inr (fill_tok t g fun j hj => (hv j hj).1)
  · have := T.fill_dep (s := tb.asg) (D := 0) t fun j hj => Nat.le_of_eq (hv j hj).2.2.1
    have := h.dep
    omega
  · have := T.fill_size (s := tb.asg) (M := 1) (Nat.le_refl _) t fun j hj => Nat.le_of_eq (hv j hj).2.2.2
    have := h.size
    omega
  · exact T.fill_named t h.named fun j hj => (hv j hj).2.1
theorem fill_yes {tb : Sb} (n : Nums3 tb) {t : T} (h : Raw t) (hy : isY (T.fill tb.asg t) = true) : isY t = true := by
  have e := isY_ok hy
  cases t with
  | v i =>
    have e : tb.asg i = yesT := e
    have := (n.ok i (h.vars i (List.mem_singleton.mpr rfl)).1 (h.vars i (List.mem_singleton.mpr rfl)).2).1
    rw [e] at this
    exact absurd this (by decide +kernel)
  | f x ts =>
    have e : T.f x (T.fillL tb.asg ts) = .f "yes" [] := e
    injection e with e1 e2
    subst e1
    cases ts with
    | nil => rfl
    | cons t ts => cases e2
theorem rawL_lit {tb : Sb} (n : Nums3 tb) {q : L3} (h : RawL q) : LitT (q.fill tb.asg) := by
  refine ⟨⟨raw_side n h.l, raw_side n h.r⟩, fun hy => ?_⟩
  obtain ⟨nm, ts, e⟩ := h.y (fill_yes n h.r hy)
  exact ⟨nm, T.fillL tb.asg ts, by show T.fill tb.asg q.2.1 = _; rw [e]; rfl⟩
section
variable {P : Program} {w : World} {K : PySem.W.Frag} {mg : Str → Option Value} {base : Heap}
def spLDLit (K : PySem.W.Frag) : Sp := fun vs H Q _ => ∃ (p l ra : Addr) (ns : List Int) (c : Nat) (R S : List Row), vs = [.ref p, .ref ra, .int 2, .int 3] ∧ Pn.Pen H p l ns c ∧ ns.length ≤ 1000 ∧ c ≤ 900000000 ∧ OrdAt K H ra R S ∧ ROk R ∧ TOk S ∧ NamR (R ++ S) ∧
  ∀ q v H' c', LitV K H' q v → RawL q → c' ≤ c + 100 → Pn.Pen H' p l ns c' → Pn.But p H H' → Q v H'
abbrev sLDLit : Stmt := topS 31
theorem scLDLit : FnScope ["_law_pen_here", "_law_rows", "_law_deep", "_law_variables", "_law_sign", "_law_one", "_law_two"] ["_law_pen_here", "_law_rows", "_law_deep", "_law_variables"] (defScope sLDLit) := ⟨rfl, rfl, rfl, by decide +kernel, rfl, by decide +kernel, by decide +kernel⟩
theorem ok_ldlit {f fD fA fT : Addr} {fd fdD fdA fdT : FuncData} {k : Nat} (F : Fun K "_law_drawn_literal" "_law_drawn_literal" sLDLit f fd) (hLDraw : Has P w K mg base k "_law_draw" ["_law_pen_here", "_law_many"] Pn.spDraw fD fdD)
    (hLDrawnAtom : Has P w K mg base k "_law_drawn_atom" ["_law_pen_here", "_law_rows", "_law_deep", "_law_variables"] (spLAtom K 5) fA fdA) (hLDrawnTerm : Has P w K mg base k "_law_drawn_term" ["_law_pen_here", "_law_rows", "_law_deep", "_law_variables"] (spDrawn K 5) fT fdT) :
    FnOk P w K mg base CX0 (k + 1) f fd ["_law_pen_here", "_law_rows", "_law_deep", "_law_variables"] (spLDLit K) := by
  refine F.ok scLDLit (fun vs H Q E h => ?_) (fun cdv A outer s0 H vs Q E hr h => ?_)
  · obtain ⟨p, l, ra, ns, c, R, S, rfl, _⟩ := h
    rfl
  · obtain ⟨p, l, ra, ns, c, R, S, rfl, hP, hlen, hc, hO, ok, tokS, nam, q⟩ := h
    refine ⟨_, (pss_cons (ps_set (i := 4) scLDLit.nd rfl (.inl rfl) (pe_cmpR op_eq (pe_call hLDraw.G hr (by rfl) hLDraw.g hLDraw.kp hLDraw.b .nil pass0 (pa_cons (pv 0) (pa_cons pe_int pa_nil))) pe_int (nomark _)))
    (pss_cons (ps_if (pt_cmpR op_eq (pe_call hLDraw.G hr (by rfl) hLDraw.g hLDraw.kp hLDraw.b .nil pass0 (pa_cons (pv 0) (pa_cons pe_int pa_nil))) pe_int (nomark _))
      (pss_one (ps_ret (pe_tup (pa_cons (pv 4) (pa_cons (pe_call hLDrawnAtom.G hr (by rfl) hLDrawnAtom.g hLDrawnAtom.kp hLDrawnAtom.b .nil pass0 (pa_cons (pv 0) (pa_cons (pv 1) (pa_cons (pv 2) (pa_cons (pv 3) pa_nil))))) (pa_cons (pe_tup (pa_cons pe_str pa_nil)) pa_nil)))))) pss_nil)
    (pss_cons (ps_par (i := 5) (j := 6) (by rfl) scLDLit.nd rfl rfl (by decide) rfl rfl (pa_cons (pe_call hLDrawnTerm.G hr (by rfl) hLDrawnTerm.g hLDrawnTerm.kp hLDrawnTerm.b .nil pass0 (pa_cons (pv 0) (pa_cons (pv 1) (pa_cons (pv 2) (pa_cons (pv 3) pa_nil))))) (pa_cons (pe_call hLDrawnTerm.G hr (by rfl) hLDrawnTerm.g hLDrawnTerm.kp hLDrawnTerm.b .nil pass0 (pa_cons (pv 0) (pa_cons (pv 1) (pa_cons (pv 2) (pa_cons (pv 3) pa_nil))))) pa_nil)) (by rfl))
    (pss_one (ps_ret (pe_tup (pa_cons (pv 4) (pa_cons (pv 5) (pa_cons (pv 6) pa_nil))))))))), ?_⟩
    have dn2 : dn 2 = 26 := rfl
    refine ⟨_, rfl, p, l, ns, c, 2, rfl, hP, hlen, by omega, by omega, by omega, fun r1 H1 _ _ hP1 b1 => ⟨rfl, ?_⟩⟩
    generalize decide (V.int r1 = V.int 0) = sgn
    refine ⟨_, rfl, p, l, ns, c + 1, 2, rfl, hP1, hlen, by omega, by omega, by omega, fun r2 H2 _ _ hP2 b2 => ⟨rfl, _, rfl, ?_⟩⟩
    have k2 := (pen_tk hP b1).trans (pen_tk hP1 b2)
    have hO2 := hO.mono k2
    cases decide (V.int r2 = V.int 0) with
    | true =>
      refine iteT ⟨_, rfl, _, rfl, _, rfl, _, rfl, _, rfl, p, l, ra, ns, c + 1 + 1, 1, 3, R, S, rfl, hP2, hlen, by show c + 1 + 1 + dn 2 ≤ _; omega, hO2, ok, tokS, by omega, by omega, by omega, fun t v H3 c3 ht da lc hP3 b3 => ?_⟩
      have lc : c3 ≤ c + 1 + 1 + dn 2 := lc
      have da : DA R S 2 3 t := da
      refine ⟨by show 1 ≤ sizeLine; rw [sizeLine_eq]; decide, fun ty nty => ⟨by show 3 ≤ sizeLine; rw [sizeLine_eq]; decide, fun tl ntl => ?_⟩⟩
      have sm1 := same_new (H := H3) (fun b o e => e) nty (.tup [.str "yes"])
      have mY : (upd H3 ty (.tup [.str "yes"])) ty = some (.tup [.str "yes"]) := upd_same
      generalize upd H3 ty (.tup [.str "yes"]) = H4 at sm1 mY ntl ⊢
      have sm2 := same_new (H := H4) (fun b o e => e) ntl (.tup [.bl sgn, v, .ref ty])
      have mL : (upd H4 tl (.tup [.bl sgn, v, .ref ty])) tl = some (.tup [.bl sgn, v, .ref ty]) := upd_same
      generalize upd H4 tl (.tup [.bl sgn, v, .ref ty]) = H5 at sm2 mL ⊢
      have k35 := (TK.same sm1).trans (TK.same sm2)
      obtain ⟨nm, ts, et, _⟩ := da.hd
      exact q (sgn, t, yesT) _ H5 c3 ⟨tl, v, .ref ty, rfl, .inl (.inl mL), ht.mono k35, ⟨ty, [], rfl, .inl (.inl (sm2 _ _ mY)), rfl⟩⟩ ⟨da.raw nam, raw_yes, fun _ => ⟨nm, ts, et⟩⟩ (by omega) (pen_same (pen_same hP3 sm1) sm2) (fun b o n e => sm2 _ _ (sm1 _ _ (b3 _ _ n (b2 _ _ n (b1 _ _ n e)))))
    | false =>
      refine iteF ⟨_, rfl, _, rfl, _, rfl, _, rfl, p, l, ra, ns, c + 1 + 1, 2, 3, R, rfl, hP2, hlen, by omega, hO2.rows, ok, by omega, by omega, by omega, fun t v H3 c3 ht dt lc hP3 b3 => ?_⟩
      have hO3 := hO2.mono (pen_tk hP2 b3)
      refine ⟨_, rfl, _, rfl, _, rfl, _, rfl, p, l, ra, ns, c3, 2, 3, R, rfl, hP3, hlen, by omega, hO3.rows, ok, by omega, by omega, by omega, fun u y H4 c4 hu du lc4 hP4 b4 => ?_⟩
      refine ⟨v, y, rfl, ?_⟩
      refine ⟨_, rfl, _, rfl, _, rfl, by show 3 ≤ sizeLine; rw [sizeLine_eq]; decide, fun tl ntl => ?_⟩
      have sm2 := same_new (H := H4) (fun b o e => e) ntl (.tup [.bl sgn, v, y])
      have mL : (upd H4 tl (.tup [.bl sgn, v, y])) tl = some (.tup [.bl sgn, v, y]) := upd_same
      have namR : NamR R := fun r hr => nam r (List.mem_append_left _ hr)
      refine q (sgn, t, u) _ _ c4 ⟨tl, v, y, rfl, .inl (.inl mL), (ht.mono (pen_tk hP3 b4)).mono (TK.same sm2), hu.mono (TK.same sm2)⟩ ⟨dt.raw namR, du.raw namR, fun hy => ?_⟩ (by omega) (pen_same hP4 sm2) (fun b o n e => sm2 _ _ (b4 _ _ n (b3 _ _ n (b2 _ _ n (b1 _ _ n e)))))
      have : gdN u = true := wf_gdN namR u du.wf
      have hy : isY u = true := hy
      rw [isY_ok hy] at this
      exact absurd this (by decide +kernel)
end
end Ad

/-! Numbers put into a clause; a drawn clause. -/
namespace Ad
open PySem PySem.Spec PySem.Calls PyProof.Rows L2 GxR
section
variable {P : Program} {w : World} {K : PySem.W.Frag} {mg : Str → Option Value} {base : Heap}
def spPutC (K : PySem.W.Frag) : Sp := fun vs H Q _ => ∃ (qs : List L3) (x : V) (d : Addr) (tb : Sb) (kvs : List (L2.Key × V)), vs = [x, .ref d] ∧ ClV K H qs x ∧ H d = some (.dK kvs) ∧ TV K H tb kvs ∧ Nums3 tb ∧ (∀ q ∈ qs, RawL q) ∧ qs.length ≤ 10 ∧
  ∀ v H', Same H H' → ClV K H' (qs.map (L3.fill tb.asg)) v → Q v H'
abbrev sPutC : Stmt := topS 28
theorem scPutC : FnScope ["_law_clause", "_law_known", "_law_sign", "_law_left", "_law_right"] ["_law_clause", "_law_known"] (defScope sPutC) := ⟨rfl, rfl, rfl, by decide +kernel, rfl, by decide +kernel, by decide +kernel⟩
theorem ok_putc {f fP : Addr} {fd fdP : FuncData} {k : Nat} (F : Fun K "_law_put_clause" "_law_put_clause" sPutC f fd) (hLPut : Has P w K mg base k "_law_put" ["_law_term", "_law_known"] (spFilled K 10) fP fdP) (m_tuple : mg "tuple" = none) :
    FnOk P w K mg base CX0 (k + 1) f fd ["_law_clause", "_law_known"] (spPutC K) := by
  refine F.ok scPutC (fun vs H Q E h => ?_) (fun cdv A outer s0 H vs Q E hr h => ?_)
  · obtain ⟨qs, x, d, tb, kvs, rfl, _⟩ := h
    rfl
  · obtain ⟨qs, x, d, tb, kvs, rfl, ⟨a, vs, rfl, sq, all⟩, hd, tv, n3, raw, few, q⟩ := h
    refine ⟨_, (pss_one (ps_ret (pe_callTy call_tuple_of (by rfl) m_tuple (by decide +kernel) (pa_cons (pe_lc (own := [("_law_sign", 2), ("_law_left", 3), ("_law_right", 4)]) (g := gTup K 3 (gCons (gName 2) (gCons (gName 3) (gCons (gName 4) gNil)))) (tt := tYes) rfl scPutC.nd (pi_tup (pv 0)) (blkOk_by (N := ["_law_clause", "_law_known", "_law_sign", "_law_left", "_law_right"]) (sc := defScope sPutC) (by decide +kernel)) (fun _ _ _ _ _ => (pg_tup rfl (pgs_cons (pg_name (i := 2) scPutC.nd rfl (.inl rfl)) (pgs_cons (pg_name (i := 3) scPutC.nd rfl (.inl rfl)) (pgs_cons (pg_name (i := 4) scPutC.nd rfl (.inl rfl)) pgs_nil))))) (fun _ _ _ _ _ => pts_nil) (fun _ _ _ _ _ => (pe_tup (pa_cons (pv 2) (pa_cons (pe_call hLPut.G hr (by rfl) hLPut.g hLPut.kp hLPut.b .nil pass0 (pa_cons (pv 3) (pa_cons (pv 1) pa_nil))) (pa_cons (pe_call hLPut.G hr (by rfl) hLPut.g hLPut.kp hLPut.b .nil pass0 (pa_cons (pv 4) (pa_cons (pv 1) pa_nil))) pa_nil)))))) pa_nil)))), ?_⟩
    have lz := all.len
    refine ⟨.ref a, rfl, a, rfl, ⟨_, sq⟩, fun D nD => ?_⟩
    refine lc_tup (K := K) (a := a) (xs := vs) (fun i G => ∃ acc, Same H G ∧ G D = some (.lst acc) ∧ F2 (LitV K G) ((qs.take i).map (L3.fill tb.asg)) acc) ⟨[], same_new (fun b o e => e) nD _, upd_same, rfl⟩ (fun i G _ ⟨_, sm, _⟩ => (TK.same sm).sq sq) ?_ ?_
    · rintro i y G hy ⟨acc, sm, g, done⟩
      obtain ⟨u, hu, tu⟩ := (all.mono (fun q v => LitV.tk (K := K) (q := q) (v := v) (TK.same sm))).get hy
      obtain ⟨b, y1, y2, rfl, sqy, h1, h2⟩ := tu
      have hm := List.mem_of_getElem? hu
      have ilt := (List.getElem?_eq_some_iff.mp hu).1
      have la := done.len
      rw [List.length_map, List.length_take] at la
      have r1 := (raw u hm).l
      have r2 := (raw u hm).r
      have d1 := r1.dep
      have d2 := r2.dep
      have z1 := r1.size
      have z2 := r2.size
      refine ⟨b, _, rfl, sqy, rfl, _, _, rfl, _, _, rfl, _, _, rfl, rfl, rfl, ?_⟩
      refine ⟨_, rfl, _, rfl, _, rfl, u.2.1, y1, d, tb, kvs, rfl, h1, sm _ _ hd, tv.mono (TK.same sm), by omega, by omega, fun v1 G2 sm2 t1 => ?_⟩
      have sm02 : Same H G2 := fun b o e => sm2 _ _ (sm _ _ e)
      refine ⟨_, rfl, _, rfl, u.2.2, y2, d, tb, kvs, rfl, h2.mono (TK.same sm2), sm02 _ _ hd, tv.mono (TK.same sm02), by omega, by omega, fun v2 G3 sm3 t2 => ?_⟩
      refine ⟨by show 3 ≤ sizeLine; rw [sizeLine_eq]; decide, fun tl ntl => ?_⟩
      have sm4 := same_new (H := G3) (fun b o e => e) ntl (.tup [.bl u.1, v1, v2])
      have m4 : (upd G3 tl (.tup [.bl u.1, v1, v2])) tl = some (.tup [.bl u.1, v1, v2]) := upd_same
      generalize upd G3 tl (.tup [.bl u.1, v1, v2]) = G4 at sm4 m4 ⊢
      have sm24 : Same G G4 := fun b o e => sm4 _ _ (sm3 _ _ (sm2 _ _ e))
      have sm04 : Same H G4 := fun b o e => sm24 _ _ (sm _ _ e)
      have gD := sm24 _ _ g
      refine ⟨acc, gD, by rw [sizeLine_eq]; omega, acc ++ [.ref tl], same_on sm04 nD _, upd_same, ?_⟩
      have kk : TK G4 (upd G4 D (.lst (acc ++ [.ref tl]))) := TK.lst gD _
      rw [List.take_add_one, hu, List.map_append]
      refine F2.app (done.mono (fun q v => LitV.tk (K := K) (q := q) (v := v) ((TK.same sm24).trans kk))) (F2.one (LitV.tk kk ⟨tl, v1, v2, rfl, .inl (.inl m4), ?_, t2.mono (TK.same sm4)⟩))
      exact (t1.mono (TK.same sm3)).mono (TK.same sm4)
    · rintro G ⟨acc, sm, g, done⟩
      rw [lz, List.take_length] at done
      refine ⟨D, acc, rfl, .inl ⟨.inl (.inl g), fun p5 n5 => ?_⟩⟩
      have s5 := same_new (H := G) (fun b o e => e) n5 (.tup acc)
      exact q _ _ (fun b o e => s5 _ _ (sm _ _ e)) ⟨p5, acc, rfl, .inl (.inl upd_same), done.mono (fun q v => LitV.tk (K := K) (q := q) (v := v) (TK.same s5))⟩
def spLDrawn (K : PySem.W.Frag) : Sp := fun vs H Q _ => ∃ (p l ra : Addr) (ns : List Int) (c : Nat) (R S : List Row), vs = [.ref p, .ref ra] ∧ Pn.Pen H p l ns c ∧ ns.length ≤ 1000 ∧ c ≤ 800000000 ∧ OrdAt K H ra R S ∧ ROk R ∧ TOk S ∧ NamR (R ++ S) ∧
  ∀ qs v H' c', ClV K H' qs v → (∀ q ∈ qs, LitT q) → qs.length ≤ 3 → c' ≤ c + 1000 → Pn.Pen H' p l ns c' → Pn.But p H H' → Q v H'
abbrev sLDrawn : Stmt := topS 39
theorem scLDrawn : FnScope ["_law_pen_here", "_law_rows", "_law_many", "_law_clause", "_law_k", "_law_sign", "_law_left", "_law_right", "_law_known"] ["_law_pen_here", "_law_rows"] (defScope sLDrawn) := ⟨rfl, rfl, rfl, by decide +kernel, rfl, by decide +kernel, by decide +kernel⟩
def knownT (a b : Int) : Sb := [(0, .v a), (1, .v b), (2, .v 9999999)]
theorem known_ok {a b : Int} (a0 : 0 ≤ a) (a1 : a < 100) (b0 : 0 ≤ b) (b1 : b < 100) : Nums3 (knownT a b) := by
  have key : ∀ i : Int, 0 ≤ i → (i < 100 ∨ i = 9999999) → tok (.v i) = true := fun i h0 h1 => by
    show (decide (0 ≤ i) && Rq.numB i.toNat) = true
    rw [decide_eq_true h0, Rq.nums_ok i.toNat (by omega)]
    rfl
  refine ⟨fun j j0 j3 => ?_⟩
  obtain rfl | rfl | rfl : j = 0 ∨ j = 1 ∨ j = 2 := by omega
  · have e : (knownT a b).asg 0 = .v a := rfl
    rw [e]
    exact ⟨key a a0 (.inl a1), rfl, rfl, rfl⟩
  · have e : (knownT a b).asg 1 = .v b := rfl
    rw [e]
    exact ⟨key b b0 (.inl b1), rfl, rfl, rfl⟩
  · have e : (knownT a b).asg 2 = .v 9999999 := rfl
    rw [e]
    exact ⟨key _ (by decide) (.inr rfl), rfl, rfl, rfl⟩
theorem nk {i j : Int} (h : i ≠ j) : ¬ ((Sum.inl i : L2.Key) = Sum.inl j) := fun z => h (Sum.inl.inj z)
theorem known_kv (a b : V) : mergeK [] [((Sum.inl 0 : L2.Key), a), (.inl 1, b), (.inl 2, .int 9999999)] = [((Sum.inl 0 : L2.Key), a), (.inl 1, b), (.inl 2, .int 9999999)] := by
  have e1 : putK ([] : List (L2.Key × V)) (.inl 0) a = [(.inl 0, a)] := putK_new _ rfl
  have e2 : putK ([(.inl 0, a)] : List (L2.Key × V)) (.inl 1) b = [(.inl 0, a), (.inl 1, b)] := putK_new _ (by rw [valV_neg (nk (by decide))]; rfl)
  have e3 : putK ([(.inl 0, a), (.inl 1, b)] : List (L2.Key × V)) (.inl 2) (.int 9999999) = [(.inl 0, a), (.inl 1, b), (.inl 2, .int 9999999)] := putK_new _ (by rw [valV_neg (nk (by decide)), valV_neg (nk (by decide))]; rfl)
  show putK (putK (putK ([] : List (L2.Key × V)) (.inl 0) a) (.inl 1) b) (.inl 2) (.int 9999999) = _
  rw [e1, e2, e3]
end
end Ad

/-! A drawn clause. -/
namespace Ad
open PySem PySem.Spec PySem.Calls PyProof.Rows L2 GxR
def DrInv (K : PySem.W.Frag) (H : Hp) (p l ra lc : Addr) (ns : List Int) (c : Nat) (many : Int) (i : Nat) (σ : L2.St) (G : Hp) : Prop := ∃ v4 v5 v6 v7 qs acc c1, σ = [some (.ref p), some (.ref ra), some (.int many), some (.ref lc), v4, v5, v6, v7, none] ∧ Pn.Pen G p l ns c1 ∧ c1 ≤ c + i * 110 ∧ Pn.But p H G ∧ G lc = some (.lst acc) ∧ F2 (LitV K G) qs acc ∧ (∀ q ∈ qs, RawL q) ∧ qs.length = i
section
variable {P : Program} {w : World} {K : PySem.W.Frag} {mg : Str → Option Value} {base : Heap}
theorem dr_app {H G : Hp} {p l ra lc : Addr} {ns : List Int} {c c1 i : Nat} {many : Int} {v4 : Option V} {q : L3} {v6 v7 : V} {qs : List L3} {acc : List V} {P0 : Pn.Pen H p l ns c} (n0 : H lc = none) (hP : Pn.Pen G p l ns c1) (hc : c1 ≤ c + (i + 1) * 110) (b : Pn.But p H G) (gl : G lc = some (.lst acc))
    (f : F2 (LitV K G) qs acc) (raw : ∀ q ∈ qs, RawL q) (len : qs.length = i) (hi : i ≤ 100) (h6 : Tm K G q.2.1 v6) (h7 : Tm K G q.2.2 v7) (rq : RawL q) :
    tBM K "list" rAppend (tVar 3) (tCons (tTup (tCons (tVar 5) (tCons (tVar 6) (tCons (tVar 7) tNil)))) tNil) [some (.ref p), some (.ref ra), some (.int many), some (.ref lc), v4, some (.bl q.1), some v6, some v7, none] G (fun _ G' => DrInv K H p l ra lc ns c many (i + 1) [some (.ref p), some (.ref ra), some (.int many), some (.ref lc), v4, some (.bl q.1), some v6, some v7, none] G') := by
  have la := f.len
  refine ⟨.ref lc, rfl, .inl ⟨rfl, _, .inl (.inl gl)⟩, _, rfl, _, rfl, _, rfl, by show 3 ≤ sizeLine; rw [sizeLine_eq]; decide, fun tl ntl => ?_⟩
  have sm := same_new (H := G) (fun b o e => e) ntl (.tup [.bl q.1, v6, v7])
  have m4 : (upd G tl (.tup [.bl q.1, v6, v7])) tl = some (.tup [.bl q.1, v6, v7]) := upd_same
  have h6 := h6.mono (TK.same sm)
  have h7 := h7.mono (TK.same sm)
  have f1 := f.mono (fun q v => LitV.tk (K := K) (q := q) (v := v) (TK.same sm))
  have hP1 := pen_same hP sm
  have b1 : Pn.But p H _ := b.trans (Pn.But.of sm)
  have gl1 := sm _ _ gl
  generalize upd G tl (.tup [.bl q.1, v6, v7]) = G1 at m4 h6 h7 f1 hP1 b1 gl1 ⊢
  have kk : TK G1 (upd G1 lc (.lst (acc ++ [.ref tl]))) := TK.lst gl1 _
  refine ⟨lc, acc, .ref tl, rfl, rfl, gl1, by rw [sizeLine_eq]; omega, v4, _, _, _, qs ++ [q], acc ++ [.ref tl], c1, rfl, pen_on P0 n0 hP1 _, hc, but_on b1 n0 _, upd_same, F2.app (f1.mono (fun q v => LitV.tk (K := K) (q := q) (v := v) kk)) (F2.one (LitV.tk kk ⟨tl, v6, v7, rfl, .inl (.inl m4), h6, h7⟩)), fun u hu => ?_, by rw [List.length_append, len]; rfl⟩
  rcases List.mem_append.mp hu with z | z
  · exact raw u z
  · rw [List.mem_singleton.mp z]
    exact rq
theorem ok_ldrawn {f fD fL fP fC : Addr} {fd fdD fdL fdP fdC : FuncData} {k : Nat} (F : Fun K "_law_drawn" "_law_drawn" sLDrawn f fd) (hLDraw : Has P w K mg base k "_law_draw" ["_law_pen_here", "_law_many"] Pn.spDraw fD fdD) (hLDrawnLiteral : Has P w K mg base k "_law_drawn_literal" ["_law_pen_here", "_law_rows", "_law_deep", "_law_variables"] (spLDLit K) fL fdL)
    (hLPick : Has P w K mg base k "_law_pick" ["_law_pen_here", "_law_some"] (Pn.spPick K) fP fdP) (hLPutClause : Has P w K mg base k "_law_put_clause" ["_law_clause", "_law_known"] (spPutC K) fC fdC) (m_range : mg "range" = none) (m_tuple : mg "tuple" = none) :
    FnOk P w K mg base CX0 (k + 1) f fd ["_law_pen_here", "_law_rows"] (spLDrawn K) := by
  refine F.ok scLDrawn (fun vs H Q E h => ?_) (fun cdv A outer s0 H vs Q E hr h => ?_)
  · obtain ⟨p, l, ra, ns, c, R, S, rfl, _⟩ := h
    rfl
  · obtain ⟨p, l, ra, ns, c, R, S, rfl, hP, hlen, hc, hO, ok, tokS, nam, q⟩ := h
    refine ⟨_, (pss_cons (ps_set (i := 2) scLDrawn.nd rfl (.inl rfl) (pe_call hLDraw.G hr (by rfl) hLDraw.g hLDraw.kp hLDraw.b .nil pass0 (pa_cons (pv 0) (pa_cons pe_int pa_nil))))
    (pss_cons (ps_set (i := 3) scLDrawn.nd rfl (.inl rfl) (pe_lst pa_nil))
    (pss_cons (ps_for PassesOwn.never rfl (pi_range1 (by rfl) m_range (pa_cons (pv 2) pa_nil)) (pg_name (i := 4) scLDrawn.nd rfl (.inl rfl))
      (pss_cons (ps_asg (pe_call hLDrawnLiteral.G hr (by rfl) hLDrawnLiteral.g hLDrawnLiteral.kp hLDrawnLiteral.b .nil pass0 (pa_cons (pv 0) (pa_cons (pv 1) (pa_cons pe_int (pa_cons pe_int pa_nil))))) (pg_tup rfl (pgs_cons (pg_name (i := 5) scLDrawn.nd rfl (.inl rfl)) (pgs_cons (pg_name (i := 6) scLDrawn.nd rfl (.inl rfl)) (pgs_cons (pg_name (i := 7) scLDrawn.nd rfl (.inl rfl)) pgs_nil)))))
      (pss_cons (ps_if (PW.pt (pw_and (pt_cmpR (op_eqD (hu64 hr)) (pv 7) (pe_tup (pa_cons pe_str pa_nil)) (nomark _)) (pw_and1 (pt_cmpR op_eq (pe_call hLDraw.G hr (by rfl) hLDraw.g hLDraw.kp hLDraw.b .nil pass0 (pa_cons (pv 0) (pa_cons pe_int pa_nil))) pe_int (nomark _)))))
        (pss_one (ps_par (i := 6) (j := 7) (by rfl) scLDrawn.nd rfl rfl (by decide) rfl rfl (pa_cons (pe_tup (pa_cons pe_str pa_nil)) (pa_cons (pe_call hLPick.G hr (by rfl) hLPick.g hLPick.kp hLPick.b .nil pass0 (pa_cons (pv 0) (pa_cons (pe_lst (pa_cons (pv 6) (pa_cons (pe_tup (pa_cons pe_str pa_nil)) pa_nil))) pa_nil))) pa_nil)) (by rfl))) pss_nil)
      (pss_one (ps_expr (pe_bm PySem.F.plainAttrs_list PySem.F.slot_list_append PySem.F.type_list_append mt_append (pv 3) (pa_cons (pe_tup (pa_cons (pv 5) (pa_cons (pv 6) (pa_cons (pv 7) pa_nil)))) pa_nil)))))))
    (pss_cons (ps_set (i := 8) scLDrawn.nd rfl (.inl rfl) (pe_disp (pps_cons pe_int (pe_call hLDraw.G hr (by rfl) hLDraw.g hLDraw.kp hLDraw.b .nil pass0 (pa_cons (pv 0) (pa_cons pe_int pa_nil))) (pps_cons pe_int (pe_op op_add pe_int (pe_call hLDraw.G hr (by rfl) hLDraw.g hLDraw.kp hLDraw.b .nil pass0 (pa_cons (pv 0) (pa_cons pe_int pa_nil)))) (pps_cons pe_int pe_int pps_nil))) rfl rfl (by simp) (by decide)))
    (pss_one (ps_ret (pe_call hLPutClause.G hr (by rfl) hLPutClause.g hLPutClause.kp hLPutClause.b .nil pass0 (pa_cons (pe_callTy call_tuple_of (by rfl) m_tuple (by decide +kernel) (pa_cons (pv 3) pa_nil)) (pa_cons (pv 8) pa_nil))))))))), ?_⟩
    refine ⟨_, rfl, p, l, ns, c, 4, rfl, hP, hlen, by omega, by omega, by omega, fun many H0 m0 m4 hP0 b0 => ⟨Nat.zero_le _, fun lc nlc => ?_⟩⟩
    have smc := same_new (H := H0) (fun b o e => e) nlc (.lst [])
    have Pc := pen_same hP0 smc
    have ec : (upd H0 lc (.lst [])) lc = some (.lst []) := upd_same
    have bc : Pn.But p H0 (upd H0 lc (.lst [])) := Pn.But.of smc
    generalize upd H0 lc (.lst []) = Hc at Pc ec bc ⊢
    have hO0 := hO.mono (pen_tk hP b0)
    refine ⟨_, rfl, _, rfl, by omega, by omega, for_range (lo := 0) (n := many.toNat) (DrInv K H0 p l ra lc ns (c + 1) many) ⟨none, none, none, none, [], [], c + 1, rfl, Pc, by omega, bc, ec, rfl, fun q hq => absurd hq List.not_mem_nil, rfl⟩ ?_ ?_⟩
    · rintro i σ G hi ⟨v4, v5, v6, v7, qs, acc, c1, rfl, P1, hc1, b1, gl, fq, raw, len⟩
      have hi' : i < 4 := by omega
      have hO1 := hO0.mono (pen_tk hP0 b1)
      have lcp := pen_kept hP0 nlc
      refine ⟨_, rfl, _, rfl, p, l, ra, ns, c1, R, S, rfl, P1, hlen, by omega, hO1, ok, tokS, nam, fun u v G2 c2 lit ru lc2 P2 b2 => ?_⟩
      obtain ⟨a2, y1, y2, rfl, sq2, h1, h2⟩ := lit
      have b12 := b1.trans b2
      have gl2 := b2 _ _ lcp gl
      have fq2 := fq.mono (fun q v => LitV.tk (K := K) (q := q) (v := v) (pen_tk P1 b2))
      refine ⟨a2, _, rfl, sq2, rfl, _, _, rfl, _, _, rfl, _, _, rfl, rfl, ?_⟩
      refine ⟨y2, rfl, by show 1 ≤ sizeLine; rw [sizeLine_eq]; decide, fun t nt => ?_⟩
      have sm := same_new (H := G2) (fun b o e => e) nt (.tup [.str "yes"])
      have hd : Dp K (upd G2 t (.tup [.str "yes"])) (.ref t) (.tuple [.str "yes"]) := .tup (.inl (.inl upd_same)) (.cons (.str _) .nil)
      have h1' := h1.mono (TK.same sm)
      have h2' := h2.mono (TK.same sm)
      have P3 := pen_same P2 sm
      have b13 := b12.trans (Pn.But.of sm)
      have gl3 := sm _ _ gl2
      have fq3 := fq2.mono (fun q v => LitV.tk (K := K) (q := q) (v := v) (TK.same sm))
      generalize upd G2 t (.tup [.str "yes"]) = G3 at hd h1' h2' P3 b13 gl3 fq3 ⊢
      obtain ⟨s1, s2, s3⟩ := yes_eq (K := K) (X := cxOf CX0 P w K mg base [] "" (defScope sLDrawn) f cdv A outer s0 H E) ru.r.named (by have := ru.r.dep; omega)
      refine ⟨_, _, h2'.dp, hd, s1, s2, _, congrArg V.bl s3, ?_⟩
      cases hY : isY u.2.2 with
      | false => exact iteF (iteF (dr_app (P0 := hP0) nlc P3 (by omega) b13 gl3 fq3 raw len (by omega) h1' h2' ru))
      | true =>
        refine iteT ⟨_, rfl, p, l, ns, c2, 5, rfl, P3, hlen, by omega, by omega, by omega, fun r5 G4 _ _ P4 b4 => ⟨rfl, _, rfl, ?_⟩⟩
        have b14 := b13.trans b4
        have gl4 := b4 _ _ lcp gl3
        have k34 := pen_tk P3 b4
        have h14 := h1'.mono k34
        have h24 := h2'.mono k34
        have fq4 := fq3.mono (fun q v => LitV.tk (K := K) (q := q) (v := v) k34)
        cases decide (V.int r5 = V.int 0) with
        | false => exact iteF (dr_app (P0 := hP0) nlc P4 (by omega) b14 gl4 fq4 raw len (by omega) h14 h24 ru)
        | true =>
          refine iteT ⟨by show 1 ≤ sizeLine; rw [sizeLine_eq]; decide, fun t1 n1 => ⟨_, rfl, _, rfl, by show 1 ≤ sizeLine; rw [sizeLine_eq]; decide, fun t2 n2 => ⟨by show 2 ≤ sizeLine; rw [sizeLine_eq]; decide, fun l2 nl2 => ?_⟩⟩⟩
          have sm1 := same_new (H := G4) (fun b o e => e) n1 (.tup [.str "yes"])
          have m1 : (upd G4 t1 (.tup [.str "yes"])) t1 = some (.tup [.str "yes"]) := upd_same
          generalize upd G4 t1 (.tup [.str "yes"]) = G5 at sm1 m1 n2 nl2 ⊢
          have sm2 := same_new (H := G5) (fun b o e => e) n2 (.tup [.str "yes"])
          have m2 : (upd G5 t2 (.tup [.str "yes"])) t2 = some (.tup [.str "yes"]) := upd_same
          generalize upd G5 t2 (.tup [.str "yes"]) = G6 at sm2 m2 nl2 ⊢
          have sm3 := same_new (H := G6) (fun b o e => e) nl2 (.lst [y1, .ref t2])
          have m3 : (upd G6 l2 (.lst [y1, .ref t2])) l2 = some (.lst [y1, .ref t2]) := upd_same
          have P6 := pen_same (pen_same P4 sm1) sm2
          have l2p := pen_kept P6 nl2
          generalize upd G6 l2 (.lst [y1, .ref t2]) = G7 at sm3 m3 ⊢
          have s47 : Same G4 G7 := fun b o e => sm3 _ _ (sm2 _ _ (sm1 _ _ e))
          have P7 := pen_same P4 s47
          refine ⟨p, l, l2, ns, c2 + 1, [y1, .ref t2], rfl, P7, hlen, by omega, .inl (.inl (.inl m3)), by simp, by simp, l2p, fun x G8 hx P8 b8 => ⟨_, _, rfl, ?_⟩⟩
          have k48 := (TK.same s47).trans (pen_tk P7 b8)
          have y1T : Tm K G8 yesT (.ref t1) := ⟨t1, [], rfl, (pen_tk P7 b8).sq (.inl (.inl (sm3 _ _ (sm2 _ _ m1)))), rfl⟩
          have xT : ∃ r', Raw r' ∧ Tm K G8 r' x := by
            rcases List.mem_cons.mp hx with rfl | hx
            · exact ⟨_, ru.l, h14.mono k48⟩
            · rw [List.mem_singleton.mp hx]
              exact ⟨yesT, raw_yes, ⟨t2, [], rfl, (pen_tk P7 b8).sq (.inl (.inl (sm3 _ _ m2))), rfl⟩⟩
          obtain ⟨r', rr, hx'⟩ := xT
          exact dr_app (P0 := hP0) (q := (u.1, yesT, r')) nlc P8 (by omega) ((b14.trans (Pn.But.of s47)).trans b8) (b8 _ _ lcp (s47 _ _ gl4)) (fq4.mono (fun q v => LitV.tk (K := K) (q := q) (v := v) k48)) raw len (by omega) y1T hx' ⟨raw_yes, rr, fun _ => ⟨"yes", [], rfl⟩⟩
    · rintro σ G ⟨v4, v5, v6, v7, qs, acc, c1, rfl, P1, hc1, b1, gl, fq, raw, len⟩
      have lcp := pen_kept hP0 nlc
      have l4 : qs.length ≤ 3 := by omega
      intro d nd
      have smd := same_new (H := G) (fun b o e => e) nd (.dK [])
      have md : (upd G d (.dK [])) d = some (.dK []) := upd_same
      have Pd := pen_same P1 smd
      have dp := pen_kept P1 nd
      generalize upd G d (.dK []) = G1 at smd md Pd ⊢
      refine ⟨_, rfl, p, l, ns, c1, 4, rfl, Pd, hlen, by omega, by omega, by omega, fun n0 G2 n00 n01 P2 b2 => ⟨_, rfl, p, l, ns, c1 + 1, 90, rfl, P2, hlen, by omega, by omega, by omega, fun n1 G3 n10 n11 P3 b3 => ⟨_, _, rfl, rfl, ?_⟩⟩⟩
      refine ⟨b3 _ _ dp (b2 _ _ dp md), [((Sum.inl 0 : L2.Key), .int n0), (.inl 1, .int (10 + n1)), (.inl 2, .int 9999999)], rfl, by show 3 ≤ 15; decide, ?_⟩
      rw [known_kv]
      have gl3 := b3 _ _ lcp (b2 _ _ lcp (smd _ _ gl))
      have dlc : lc ≠ d := fun z => by rw [z, nd] at gl; cases gl
      have e4 : (upd G3 d (.dK [((Sum.inl 0 : L2.Key), V.int n0), (.inl 1, .int (10 + n1)), (.inl 2, .int 9999999)])) d = some (.dK [((Sum.inl 0 : L2.Key), V.int n0), (.inl 1, .int (10 + n1)), (.inl 2, .int 9999999)]) := upd_same
      have k4 : TK G3 (upd G3 d (.dK [((Sum.inl 0 : L2.Key), V.int n0), (.inl 1, .int (10 + n1)), (.inl 2, .int 9999999)])) := dk_tk (b3 _ _ dp (b2 _ _ dp md)) _
      have gl4 : (upd G3 d (.dK [((Sum.inl 0 : L2.Key), V.int n0), (.inl 1, .int (10 + n1)), (.inl 2, .int 9999999)])) lc = _ := (upd_ne dlc).trans gl3
      have nd0 : G d = none := nd
      have P4 : Pn.Pen (upd G3 d (.dK [((Sum.inl 0 : L2.Key), V.int n0), (.inl 1, .int (10 + n1)), (.inl 2, .int 9999999)])) p l ns (c1 + 1 + 1) := pen_on P1 nd P3 _
      have b4 : Pn.But p G (upd G3 d (.dK [((Sum.inl 0 : L2.Key), V.int n0), (.inl 1, .int (10 + n1)), (.inl 2, .int 9999999)])) := but_on (((Pn.But.of smd).trans b2).trans b3) nd _
      generalize upd G3 d (.dK [((Sum.inl 0 : L2.Key), V.int n0), (.inl 1, .int (10 + n1)), (.inl 2, .int 9999999)]) = G4 at e4 k4 gl4 P4 b4 ⊢
      have fq4 := fq.mono (fun q v => LitV.tk (K := K) (q := q) (v := v) ((((TK.same smd).trans (pen_tk Pd b2)).trans (pen_tk P2 b3)).trans k4))
      refine ⟨_, rfl, lc, acc, rfl, .inl ⟨.inl (.inl gl4), fun tc ntc => ?_⟩⟩
      have smt := same_new (H := G4) (fun b o e => e) ntc (.tup acc)
      have mt : (upd G4 tc (.tup acc)) tc = some (.tup acc) := upd_same
      generalize upd G4 tc (.tup acc) = G5 at smt mt ⊢
      have n3 : Nums3 (knownT n0 (10 + n1)) := known_ok n00 (by omega) (by omega) (by omega)
      refine ⟨_, rfl, qs, .ref tc, d, knownT n0 (10 + n1), _, rfl, ⟨tc, acc, rfl, .inl (.inl mt), fq4.mono (fun q v => LitV.tk (K := K) (q := q) (v := v) (TK.same smt))⟩, smt _ _ e4, ⟨_, _, rfl, ⟨rfl, rfl⟩, _, _, rfl, ⟨rfl, rfl⟩, _, _, rfl, ⟨rfl, rfl⟩, rfl⟩, n3, raw, by omega, fun v H' smv cl => ?_⟩
      refine q _ v H' (c1 + 1 + 1) cl (fun u hu => ?_) (by rw [List.length_map]; exact l4) (by omega) (pen_same (pen_same P4 smt) smv) (((b0.trans b1).trans b4).trans ((Pn.But.of smt).trans (Pn.But.of smv)))
      obtain ⟨u0, hu0, rfl⟩ := List.mem_map.mp hu
      exact rawL_lit n3 (raw u0 hu0)
end
end Ad

/-! The law's wrong texts; a clause told of a right text. -/
namespace Ad
open PySem PySem.Spec PySem.Calls PyProof.Rows L2 GxR
/-- no exception comes out where the promise lets none out -/
theorem FnOk.quiet {P : Program} {w : World} {K : PySem.W.Frag} {mg : Str → Option Value} {base : Heap} {k : Nat} {f : Addr} {fd : FuncData} {ps : List Str} {sp : Sp} (F : FnOk P w K mg base (L2.CX P w) k f fd ps sp) :
    FnOk P w K mg base CX0 k f fd ps (fun vs H Q _ => sp vs H Q fun _ _ _ => False) :=
  ⟨fun vs H Q E q => F.len vs H Q _ q, fun A outer s H args us vs Q E hr he hb hv hs => codeAny_mono (F.run A outer s H args us vs Q (fun _ _ _ => False) hr he hb hv hs) fun r s' h => by
    cases r with
    | ok fl => cases fl <;> exact h
    | error e =>
      obtain ⟨a, B, H', cls, d, _, _, _, _, _, _, _, z⟩ := h
      exact z.elim⟩
def spClauseQ (K : PySem.W.Frag) : Sp := fun vs H Q _ => ∃ (T : Str) (d : PyData), vs = [.str T] ∧ T.length ≤ 10000000 ∧ Rq.CTx d (Rq.cs T) ∧ ∀ v H', Same H H' → Dp K H' v d → Q v H'
theorem clauseQ {P : Program} {w : World} {K : PySem.W.Frag} {mg : Str → Option Value} {base : Heap} {k : Nat} {f CB : Addr} {fd : FuncData} {ps : List Str} (F : FnOk P w K mg base (L2.CX P w) k f fd ps (spClauseOf K CB)) : FnOk P w K mg base CX0 k f fd ps (spClauseQ K) :=
  (Ad.FnOk.quiet F).imp fun vs H Q E ⟨T, d, e, l, h, q⟩ => .inr ⟨T, e, l, fun d' r v H' ec sm dv => by
    rw [Rq.clause_ok h] at ec
    cases ec
    exact q v H' sm dv, fun s d' H' ec _ _ => by
    rw [Rq.clause_ok h] at ec
    cases ec⟩
def PairW (K : PySem.W.Frag) (H : Hp) (q : Str × Nat) (v : V) : Prop := ∃ t, v = .ref t ∧ SqT K H t [.str q.1, .int ((q.2 : Nat) : Int)]
theorem PairW.tk {K : PySem.W.Frag} {H H' : Hp} (k : TK H H') (q : Str × Nat) (v : V) (h : PairW K H q v) : PairW K H' q v := by
  obtain ⟨t, e, sq⟩ := h
  exact ⟨t, e, k.sq sq⟩
def tW : List (Str × Nat) → TA
  | [] => tNil
  | q :: r => tCons (tTup (tCons (tC (.str q.1)) (tCons (tC (.int ((q.2 : Nat) : Int))) tNil))) (tW r)
theorem tW_run {K : PySem.W.Frag} {σ : L2.St} : ∀ (L : List (Str × Nat)) {H : Hp} {Q : List V → Hp → Prop}, (∀ vs H', Same H H' → F2 (PairW K H') L vs → Q vs H') → tW L σ H Q
  | [], H, Q, h => h [] H (fun b o e => e) rfl
  | q :: r, H, Q, h => by
    refine ⟨by show 2 ≤ sizeLine; rw [sizeLine_eq]; decide, fun t nt => ?_⟩
    have sm := same_new (H := H) (fun b o e => e) nt (.tup [.str q.1, .int ((q.2 : Nat) : Int)])
    have mt : (upd H t (.tup [.str q.1, .int ((q.2 : Nat) : Int)])) t = some (.tup [.str q.1, .int ((q.2 : Nat) : Int)]) := upd_same
    generalize upd H t (.tup [.str q.1, .int ((q.2 : Nat) : Int)]) = H1 at sm mt ⊢
    exact tW_run r fun vs H' sm2 f => h (.ref t :: vs) H' (fun b o e => sm2 _ _ (sm _ _ e)) ⟨_, _, rfl, ⟨t, rfl, .inl (.inl (sm2 _ _ mt))⟩, f⟩
theorem pa_as {X : Cx} {es : List Expr} {t t' : TA} (e : t = t') (h : PA X es t') : PA X es t := e ▸ h
/-- a list of pairs by a reading that is not looked into -/
theorem w_step {K : PySem.W.Frag} {p a : Addr} {G : Hp} {vs : List V} {L1 : List (Str × Nat)} {Q : VK} {ta : TA} (L2' : List (Str × Nat)) (run : ∀ {σ : L2.St} {H : Hp} {Q : List V → Hp → Prop}, (∀ vs H', Same H H' → F2 (PairW K H') L2' vs → Q vs H') → ta σ H Q) (e : G a = some (.lst vs)) (f : F2 (PairW K G) L1 vs) (h1 : L1.length ≤ 100) (h2 : L2'.length ≤ 100)
    (q : ∀ b H' vs', Same G H' → H' b = some (.lst vs') → F2 (PairW K H') (L1 ++ L2') vs' → Q (.ref b) H') : tOp rCat (tVar 1) (tLst ta) [some (.ref p), some (.ref a)] G Q := by
  refine ⟨_, rfl, run fun vs2 H2 sm2 f2 => ⟨by have := f2.len; rw [sizeLine_eq]; omega, fun b nb => ?_⟩⟩
  have sm3 := same_new (H := H2) (fun b o e => e) nb (.lst vs2)
  have l1 := f.len
  have l2 := f2.len
  refine ⟨a, b, vs, vs2, rfl, rfl, sm3 _ _ (sm2 _ _ e), upd_same, by rw [sizeLine_eq]; omega, fun r nr => ?_⟩
  have sm4 := same_new (H := upd H2 b (.lst vs2)) (fun b o e => e) nr (.lst (vs ++ vs2))
  have s24 : Same H2 (upd (upd H2 b (.lst vs2)) r (.lst (vs ++ vs2))) := fun b o e => sm4 _ _ (sm3 _ _ e)
  exact q r _ (vs ++ vs2) (fun b o e => s24 _ _ (sm2 _ _ e)) upd_same (F2.app (f.mono (PairW.tk (TK.same fun b o e => s24 _ _ (sm2 _ _ e)))) (f2.mono (PairW.tk (TK.same s24))))
abbrev W0 : List (Str × Nat) := [("", 1), (" ", 2), ("X", 2), ("X1", 3), ("X1 | p", 4), ("not X1", 5), ("not", 4), ("not ", 5)]
abbrev W1 : List (Str × Nat) := [("X01 = a", 3), ("X12345678 = a", 9), ("Y1 = a", 1), ("x1 = Y", 6), ("X1x = a", 3)]
abbrev W2 : List (Str × Nat) := [("p q", 3), ("p |", 4), ("p | ", 5), ("| p", 1), ("p || q", 4), ("p or q", 3), ("p(", 3)]
abbrev W3 : List (Str × Nat) := [("p()", 3), ("p(yes)", 6), ("p(not)", 6), ("p(a", 4), ("p(X1 X2)", 6), ("p(a,)", 5)]
abbrev W4 : List (Str × Nat) := [("yes(a)", 4), ("not p = q", 7), ("not not p", 8), ("not and", 8), ("p = not q", 8)]
abbrev W5 : List (Str × Nat) := [("p = q = r", 7), ("p = ", 5), ("p !", 4), ("p ! q", 4), ("p == q", 4), ("[", 2), ("[ ]", 2)]
abbrev W6 : List (Str × Nat) := [("[] |", 4), ("[]p", 3), ("p | []", 5), ("(p)", 1), ("all X1: p", 4), ("some", 5)]
abbrev W7 : List (Str × Nat) := [("same = a", 5), ("p & q", 3), ("abcdefghijklm", 13), ("not p(X1) q", 11), ("p& | q", 2)]
abbrev W8 : List (Str × Nat) := [("X1 != X", 8), ("f(X1, g(X2)) = X3 |", 20)]
section
variable {P : Program} {w : World} {K : PySem.W.Frag} {mg : Str → Option Value} {base : Heap}
def spWrong (K : PySem.W.Frag) : Sp := fun vs H Q _ => ∃ (p l : Addr) (ns : List Int) (c : Nat), vs = [.ref p] ∧ Pn.Pen H p l ns c ∧ ns.length ≤ 1000 ∧ c ≤ 900000000 ∧ ∀ u v H' c', u ∈ Rq.wrongL → PairW K H' u v → c' ≤ c + 1 → Pn.Pen H' p l ns c' → Pn.But p H H' → Q v H'
abbrev sWrong : Stmt := topS 40
theorem scWrong : FnScope ["_law_pen_here", "_law_ways"] ["_law_pen_here"] (defScope sWrong) := ⟨rfl, rfl, rfl, by decide +kernel, rfl, by decide +kernel, by decide +kernel⟩
theorem ok_wrong {f fP : Addr} {fd fdP : FuncData} {k : Nat} (F : Fun K "_law_wrong" "_law_wrong" sWrong f fd) (hLPick : Has P w K mg base k "_law_pick" ["_law_pen_here", "_law_some"] (Pn.spPick K) fP fdP) :
    FnOk P w K mg base CX0 (k + 1) f fd ["_law_pen_here"] (spWrong K) := by
  refine F.ok scWrong (fun vs H Q E h => ?_) (fun cdv A outer s0 H vs Q E hr h => ?_)
  · obtain ⟨p, l, ns, c, rfl, _⟩ := h
    rfl
  · obtain ⟨p, l, ns, c, rfl, hP, hlen, hc, q⟩ := h
    obtain ⟨t0, e0⟩ : ∃ t, t = tW W0 := ⟨_, rfl⟩
    have r0 : ∀ {σ : L2.St} {H : Hp} {Q : List V → Hp → Prop}, (∀ vs H', Same H H' → F2 (PairW K H') W0 vs → Q vs H') → t0 σ H Q := fun h => by rw [e0]; exact tW_run W0 h
    obtain ⟨t1, e1⟩ : ∃ t, t = tW W1 := ⟨_, rfl⟩
    have r1 : ∀ {σ : L2.St} {H : Hp} {Q : List V → Hp → Prop}, (∀ vs H', Same H H' → F2 (PairW K H') W1 vs → Q vs H') → t1 σ H Q := fun h => by rw [e1]; exact tW_run W1 h
    obtain ⟨t2, e2⟩ : ∃ t, t = tW W2 := ⟨_, rfl⟩
    have r2 : ∀ {σ : L2.St} {H : Hp} {Q : List V → Hp → Prop}, (∀ vs H', Same H H' → F2 (PairW K H') W2 vs → Q vs H') → t2 σ H Q := fun h => by rw [e2]; exact tW_run W2 h
    obtain ⟨t3, e3⟩ : ∃ t, t = tW W3 := ⟨_, rfl⟩
    have r3 : ∀ {σ : L2.St} {H : Hp} {Q : List V → Hp → Prop}, (∀ vs H', Same H H' → F2 (PairW K H') W3 vs → Q vs H') → t3 σ H Q := fun h => by rw [e3]; exact tW_run W3 h
    obtain ⟨t4, e4⟩ : ∃ t, t = tW W4 := ⟨_, rfl⟩
    have r4 : ∀ {σ : L2.St} {H : Hp} {Q : List V → Hp → Prop}, (∀ vs H', Same H H' → F2 (PairW K H') W4 vs → Q vs H') → t4 σ H Q := fun h => by rw [e4]; exact tW_run W4 h
    obtain ⟨t5, e5⟩ : ∃ t, t = tW W5 := ⟨_, rfl⟩
    have r5 : ∀ {σ : L2.St} {H : Hp} {Q : List V → Hp → Prop}, (∀ vs H', Same H H' → F2 (PairW K H') W5 vs → Q vs H') → t5 σ H Q := fun h => by rw [e5]; exact tW_run W5 h
    obtain ⟨t6, e6⟩ : ∃ t, t = tW W6 := ⟨_, rfl⟩
    have r6 : ∀ {σ : L2.St} {H : Hp} {Q : List V → Hp → Prop}, (∀ vs H', Same H H' → F2 (PairW K H') W6 vs → Q vs H') → t6 σ H Q := fun h => by rw [e6]; exact tW_run W6 h
    obtain ⟨t7, e7⟩ : ∃ t, t = tW W7 := ⟨_, rfl⟩
    have r7 : ∀ {σ : L2.St} {H : Hp} {Q : List V → Hp → Prop}, (∀ vs H', Same H H' → F2 (PairW K H') W7 vs → Q vs H') → t7 σ H Q := fun h => by rw [e7]; exact tW_run W7 h
    obtain ⟨t8, e8⟩ : ∃ t, t = tW W8 := ⟨_, rfl⟩
    have r8 : ∀ {σ : L2.St} {H : Hp} {Q : List V → Hp → Prop}, (∀ vs H', Same H H' → F2 (PairW K H') W8 vs → Q vs H') → t8 σ H Q := fun h => by rw [e8]; exact tW_run W8 h
    refine ⟨_, (pss_cons (ps_set (i := 1) scWrong.nd rfl (.inl rfl) (pe_lst (pa_as e0 (pa_cons (pe_tup (pa_cons pe_str (pa_cons pe_int pa_nil))) (pa_cons (pe_tup (pa_cons pe_str (pa_cons pe_int pa_nil))) (pa_cons (pe_tup (pa_cons pe_str (pa_cons pe_int pa_nil))) (pa_cons (pe_tup (pa_cons pe_str (pa_cons pe_int pa_nil))) (pa_cons (pe_tup (pa_cons pe_str (pa_cons pe_int pa_nil))) (pa_cons (pe_tup (pa_cons pe_str (pa_cons pe_int pa_nil))) (pa_cons (pe_tup (pa_cons pe_str (pa_cons pe_int pa_nil))) (pa_cons (pe_tup (pa_cons pe_str (pa_cons pe_int pa_nil))) pa_nil)))))))))))
    (pss_cons (ps_set (i := 1) scWrong.nd rfl (.inl rfl) (pe_op op_cat (pv 1) (pe_lst (pa_as e1 (pa_cons (pe_tup (pa_cons pe_str (pa_cons pe_int pa_nil))) (pa_cons (pe_tup (pa_cons pe_str (pa_cons pe_int pa_nil))) (pa_cons (pe_tup (pa_cons pe_str (pa_cons pe_int pa_nil))) (pa_cons (pe_tup (pa_cons pe_str (pa_cons pe_int pa_nil))) (pa_cons (pe_tup (pa_cons pe_str (pa_cons pe_int pa_nil))) pa_nil)))))))))
    (pss_cons (ps_set (i := 1) scWrong.nd rfl (.inl rfl) (pe_op op_cat (pv 1) (pe_lst (pa_as e2 (pa_cons (pe_tup (pa_cons pe_str (pa_cons pe_int pa_nil))) (pa_cons (pe_tup (pa_cons pe_str (pa_cons pe_int pa_nil))) (pa_cons (pe_tup (pa_cons pe_str (pa_cons pe_int pa_nil))) (pa_cons (pe_tup (pa_cons pe_str (pa_cons pe_int pa_nil))) (pa_cons (pe_tup (pa_cons pe_str (pa_cons pe_int pa_nil))) (pa_cons (pe_tup (pa_cons pe_str (pa_cons pe_int pa_nil))) (pa_cons (pe_tup (pa_cons pe_str (pa_cons pe_int pa_nil))) pa_nil)))))))))))
    (pss_cons (ps_set (i := 1) scWrong.nd rfl (.inl rfl) (pe_op op_cat (pv 1) (pe_lst (pa_as e3 (pa_cons (pe_tup (pa_cons pe_str (pa_cons pe_int pa_nil))) (pa_cons (pe_tup (pa_cons pe_str (pa_cons pe_int pa_nil))) (pa_cons (pe_tup (pa_cons pe_str (pa_cons pe_int pa_nil))) (pa_cons (pe_tup (pa_cons pe_str (pa_cons pe_int pa_nil))) (pa_cons (pe_tup (pa_cons pe_str (pa_cons pe_int pa_nil))) (pa_cons (pe_tup (pa_cons pe_str (pa_cons pe_int pa_nil))) pa_nil))))))))))
    (pss_cons (ps_set (i := 1) scWrong.nd rfl (.inl rfl) (pe_op op_cat (pv 1) (pe_lst (pa_as e4 (pa_cons (pe_tup (pa_cons pe_str (pa_cons pe_int pa_nil))) (pa_cons (pe_tup (pa_cons pe_str (pa_cons pe_int pa_nil))) (pa_cons (pe_tup (pa_cons pe_str (pa_cons pe_int pa_nil))) (pa_cons (pe_tup (pa_cons pe_str (pa_cons pe_int pa_nil))) (pa_cons (pe_tup (pa_cons pe_str (pa_cons pe_int pa_nil))) pa_nil)))))))))
    (pss_cons (ps_set (i := 1) scWrong.nd rfl (.inl rfl) (pe_op op_cat (pv 1) (pe_lst (pa_as e5 (pa_cons (pe_tup (pa_cons pe_str (pa_cons pe_int pa_nil))) (pa_cons (pe_tup (pa_cons pe_str (pa_cons pe_int pa_nil))) (pa_cons (pe_tup (pa_cons pe_str (pa_cons pe_int pa_nil))) (pa_cons (pe_tup (pa_cons pe_str (pa_cons pe_int pa_nil))) (pa_cons (pe_tup (pa_cons pe_str (pa_cons pe_int pa_nil))) (pa_cons (pe_tup (pa_cons pe_str (pa_cons pe_int pa_nil))) (pa_cons (pe_tup (pa_cons pe_str (pa_cons pe_int pa_nil))) pa_nil)))))))))))
    (pss_cons (ps_set (i := 1) scWrong.nd rfl (.inl rfl) (pe_op op_cat (pv 1) (pe_lst (pa_as e6 (pa_cons (pe_tup (pa_cons pe_str (pa_cons pe_int pa_nil))) (pa_cons (pe_tup (pa_cons pe_str (pa_cons pe_int pa_nil))) (pa_cons (pe_tup (pa_cons pe_str (pa_cons pe_int pa_nil))) (pa_cons (pe_tup (pa_cons pe_str (pa_cons pe_int pa_nil))) (pa_cons (pe_tup (pa_cons pe_str (pa_cons pe_int pa_nil))) (pa_cons (pe_tup (pa_cons pe_str (pa_cons pe_int pa_nil))) pa_nil))))))))))
    (pss_cons (ps_set (i := 1) scWrong.nd rfl (.inl rfl) (pe_op op_cat (pv 1) (pe_lst (pa_as e7 (pa_cons (pe_tup (pa_cons pe_str (pa_cons pe_int pa_nil))) (pa_cons (pe_tup (pa_cons pe_str (pa_cons pe_int pa_nil))) (pa_cons (pe_tup (pa_cons pe_str (pa_cons pe_int pa_nil))) (pa_cons (pe_tup (pa_cons pe_str (pa_cons pe_int pa_nil))) (pa_cons (pe_tup (pa_cons pe_str (pa_cons pe_int pa_nil))) pa_nil)))))))))
    (pss_cons (ps_set (i := 1) scWrong.nd rfl (.inl rfl) (pe_op op_cat (pv 1) (pe_lst (pa_as e8 (pa_cons (pe_tup (pa_cons pe_str (pa_cons pe_int pa_nil))) (pa_cons (pe_tup (pa_cons pe_str (pa_cons pe_int pa_nil))) pa_nil))))))
    (pss_one (ps_ret (pe_call hLPick.G hr (by rfl) hLPick.g hLPick.kp hLPick.b .nil pass0 (pa_cons (pv 0) (pa_cons (pv 1) pa_nil)))))))))))))), ?_⟩
    clear e0 e1 e2 e3 e4 e5 e6 e7 e8
    refine r0 fun vs2 H2 sm2 f2 => ⟨by have := f2.len; rw [sizeLine_eq]; show vs2.length ≤ _; rw [this]; decide, fun b nb => ?_⟩
    have sm3 := same_new (H := H2) (fun b o e => e) nb (.lst vs2)
    have mb : (upd H2 b (.lst vs2)) b = some (.lst vs2) := upd_same
    have f3 := f2.mono (PairW.tk (K := K) (TK.same sm3))
    have s3 : Same H (upd H2 b (.lst vs2)) := fun b o e => sm3 _ _ (sm2 _ _ e)
    generalize upd H2 b (.lst vs2) = G0 at mb f3 s3 ⊢
    clear f2
    refine w_step (p := p) W1 r1 mb f3 (by decide) (by decide) fun b1 G1 vs1 s1 m1 f1 => ?_
    refine w_step (p := p) W2 r2 m1 f1 (by decide) (by decide) fun b2 G2 vs2 s2 m2 f2 => ?_
    refine w_step (p := p) W3 r3 m2 f2 (by decide) (by decide) fun b3 G3 vs3 s4 m3 f3 => ?_
    refine w_step (p := p) W4 r4 m3 f3 (by decide) (by decide) fun b4 G4 vs4 s5 m4 f4 => ?_
    refine w_step (p := p) W5 r5 m4 f4 (by decide) (by decide) fun b5 G5 vs5 s6 m5 f5 => ?_
    refine w_step (p := p) W6 r6 m5 f5 (by decide) (by decide) fun b6 G6 vs6 s7 m6 f6 => ?_
    refine w_step (p := p) W7 r7 m6 f6 (by decide) (by decide) fun b7 G7 vs7 s8 m7 f7 => ?_
    refine w_step (p := p) W8 r8 m7 f7 (by decide) (by decide) fun b8 G8 vs8 s9 m8 f8 => ?_
    have sA : Same H G8 := fun b o e => s9 _ _ (s8 _ _ (s7 _ _ (s6 _ _ (s5 _ _ (s4 _ _ (s2 _ _ (s1 _ _ (s3 _ _ e))))))))
    have P8 := pen_same hP sA
    have l8 := f8.len
    have np : b8 ≠ p := fun z => by
      obtain ⟨⟨_, _, _, ep, _⟩, _⟩ := P8
      rw [z, ep] at m8
      cases m8
    refine ⟨_, rfl, _, rfl, p, l, b8, ns, c, vs8, rfl, P8, hlen, by omega, .inl (.inl (.inl m8)), fun z => (by rw [z] at l8; cases l8), by rw [l8]; decide, np, fun x H' hx P' b' => ?_⟩
    obtain ⟨i, hi, e⟩ := List.getElem_of_mem hx
    obtain ⟨u, hu, pu⟩ := f8.get (List.getElem?_eq_some_iff.mpr ⟨hi, e⟩)
    exact q u x H' (c + 1) (List.mem_of_getElem? hu) (PairW.tk (pen_tk P8 b') _ _ pu) (Nat.le_refl _) P' (fun b o n e => b' _ _ n (sA _ _ e))
end
end Ad

/-! What the law of k03 rests on. -/
namespace Ad
open PySem PySem.Spec PySem.Calls PyProof.Rows L2 GxR
theorem nam_mixed {B D : List Pr} {R S : List Row} (hB : B ∈ thingsB) (hD : D ∈ truthsB) (mR : Mixed B R) (mS : Mixed D S) : NamR (R ++ S) := fun r hr => by
  have k : (thingsB.all fun B => truthsB.all fun D => (B ++ D).all fun r => namB r.1) = true := by decide +kernel
  have k1 := List.all_eq_true.mp (List.all_eq_true.mp k B hB) D hD
  have hm : (r.1, r.2.1) ∈ B ++ D := by
    rcases List.mem_append.mp hr with z | z
    · exact List.mem_append_left _ (mR.perm.mem_iff.mp (List.mem_map.mpr ⟨r, z, rfl⟩))
    · exact List.mem_append_right _ (mS.perm.mem_iff.mp (List.mem_map.mpr ⟨r, z, rfl⟩))
  exact List.all_eq_true.mp k1 _ hm
/-- a strange sign -/
theorem why_odd {T : Str} {d : PyData} (h : Rq.CTx d (Rq.cs T)) {c : Nat} (hc : c ∈ ([63, 38, 59, 45] : List Nat)) (n : Nat) (hn : n ≤ (Rq.cs T).length) {x : Str} (hx : Rq.cs x = (Rq.cs T).take n ++ c :: (Rq.cs T).drop n) : whyV x = .int ((n + 1 : Nat) : Int) := by
  have e : Rq.clause ((Rq.cs T).take n ++ (Rq.cs T).drop n) = .ok d [] := by
    rw [List.take_append_drop]
    exact Rq.clause_ok h
  have e2 := Rq.clause_odd (Rq.odd_signs c hc) e
  unfold whyV
  rw [hx, e2]
  show colV x _ = _
  unfold colV
  rw [hx]
  have : ((Rq.cs T).take n ++ c :: (Rq.cs T).drop n).length - (c :: (Rq.cs T).drop n).length + 1 = n + 1 := by
    rw [List.length_append, List.length_take]
    omega
  rw [this]
/-- a wrong text behind spaces -/
theorem why_wrong {u : Str × Nat} (h : u ∈ Rq.wrongL) {k : Nat} {x : Str} (hx : Rq.cs x = List.replicate k 32 ++ Rq.cs u.1) : whyV x = .int ((u.2 + k : Nat) : Int) := by
  have e := List.all_eq_true.mp Rq.wrong_ok u h
  have e : Rq.colOf u.1 = some u.2 := by
    cases z : Rq.colOf u.1 with
    | none => rw [z] at e; cases e
    | some m => rw [z] at e; exact congrArg some (beq_iff_eq.mp e)
  have sp : Rq.Sps (List.replicate k 32) := fun c hc => List.eq_of_mem_replicate hc
  unfold whyV
  rw [hx, Rq.clause_sps sp]
  unfold Rq.colOf at e
  cases z : Rq.clause (Rq.cs u.1) with
  | ok d r => rw [z] at e; cases e
  | bad s =>
    rw [z] at e
    have e : (Rq.cs u.1).length - s.length + 1 = u.2 := Option.some.inj e
    have hl : s.length ≤ (Rq.cs u.1).length := by
      have := Rq.suf_clause (Rq.cs u.1)
      rw [z] at this
      exact (show s <:+ Rq.cs u.1 from this).length_le
    show colV x s = _
    unfold colV
    rw [hx, List.length_append, List.length_replicate]
    have : k + (Rq.cs u.1).length - s.length + 1 = u.2 + k := by omega
    rw [this]
theorem cut_to {T : Str} {n : Nat} (h : n ≤ (Rq.cs T).length) : Rq.cs (cutS T none (some ((n : Nat) : Int))) = (Rq.cs T).take n := by
  have e : T.length = (Rq.cs T).length := (cs_len T).symm
  unfold cutS
  rw [HT.sIx_nat, HT.sIx_none, Nat.min_eq_left (by omega)]
  rfl
theorem cut_from {T : Str} {n : Nat} (h : n ≤ (Rq.cs T).length) : Rq.cs (cutS T (some ((n : Nat) : Int)) none) = (Rq.cs T).drop n := by
  have e : T.length = (Rq.cs T).length := (cs_len T).symm
  unfold cutS
  rw [HT.sIx_nat, HT.sIx_none, Nat.min_eq_left (by omega)]
  show ((Rq.cs T).drop n).take (T.length - n) = _
  rw [List.take_of_length_le]
  rw [List.length_drop]
  omega
section
variable {K : PySem.W.Frag} {H : Hp}
theorem no_non : NoText K H .non := ⟨_, .base .non, kit_ty (by decide +kernel)⟩
theorem no_int (i : Int) : NoText K H (.int i) := ⟨_, .base (.int i), kit_ty (by decide +kernel)⟩
theorem no_bl (b : Bool) : NoText K H (.bl b) := ⟨_, .base (.bl b), kit_ty (by decide +kernel)⟩
theorem no_lst {a : Addr} {xs : List V} (e : H a = some (.lst xs)) : NoText K H (.ref a) := ⟨_, .base (.lst e), kit_ty (by decide +kernel)⟩
theorem no_tup {a : Addr} {xs : List V} (e : H a = some (.tup xs)) : NoText K H (.ref a) := ⟨_, .base (.tup e), kit_ty (by decide +kernel)⟩
end
end Ad

namespace Ad
open PySem PySem.Spec PySem.Calls PyProof.Rows L2
abbrev sOrder : Stmt := topS 25
theorem scOrder : FnScope ["_law_pen_here", "_law_things", "_law_truths", "_law_rows", "_law_kind", "_law_blend", "_law_lap", "_law_name", "_law_arity"] ["_law_pen_here"] (defScope sOrder) := ⟨rfl, rfl, rfl, by decide +kernel, rfl, by decide +kernel, by decide +kernel⟩
section
variable {P : Program} {w : World} {K : PySem.W.Frag} {mg : Str → Option Value} {base : Heap}
theorem ok_order {f fD fP : Addr} {fd fdD fdP : FuncData} {k : Nat} (F : Fun K "_law_drawn_order" "_law_drawn_order" sOrder f fd)
    (GD : FnOk P w K mg base CX0 k fD fdD ["_law_pen_here", "_law_many"] Pn.spDraw) (gD : mg "_law_draw" = some (.ref fD)) (kD : PySem.W.keepIn K (.ref fD) = true) (bD : Binds K fdD ["_law_pen_here", "_law_many"] [])
    (GP : FnOk P w K mg base CX0 k fP fdP ["_law_pen_here", "_law_some"] (Pn.spPick K)) (gP : mg "_law_pick" = some (.ref fP)) (kP : PySem.W.keepIn K (.ref fP) = true) (bP : Binds K fdP ["_law_pen_here", "_law_some"] []) (mt : mg "tuple" = none) (mr : mg "range" = none) (mL : mg "list" = none) (ml : mg "len" = none) :
    FnOk P w K mg base CX0 (k + 1) f fd ["_law_pen_here"] (spOrder K) := by
  refine F.ok scOrder (fun vs H Q E h => ?_) (fun cdv A outer s H vs Q E hr h => ?_)
  · obtain ⟨p, l, ns, c, rfl, _⟩ := h
    rfl
  · obtain ⟨p, l, ns, c, rfl, hP, hlen, hc, q⟩ := h
    refine' ⟨_, C8.pss_cut ?s1 (C8.pss_cut ?s2 (C8.pss_cut ?s3 (pss_cons ?s4 (pss_cons ?s5 (pss_one ?s6))))), ?_⟩
    case s1 => exact (ps_set (i := 1) scOrder.nd rfl (.inl rfl) (pe_op op_cat (pe_op op_cat (pe_lst (pa_cons (pe_tup (pa_cons pe_str (pa_cons pe_int pa_nil))) (pa_cons (pe_tup (pa_cons pe_str (pa_cons pe_int pa_nil))) pa_nil)))
          (pe_ifExp (pt_cmpR op_eq (pe_call GD hr (by rfl) gD kD bD .nil pass0 (pa_cons (pv 0) (pa_cons pe_int pa_nil))) pe_int (nomark _)) (pe_lst (pa_cons (pe_tup (pa_cons pe_str (pa_cons pe_int pa_nil))) pa_nil)) (pe_lst pa_nil)))
          (pe_lst (pa_cons (pe_tup (pa_cons pe_str (pa_cons pe_int pa_nil))) pa_nil))))
    case s2 => exact (ps_set (i := 1) scOrder.nd rfl (.inl rfl) (pe_op op_cat (pv 1)
          (pe_ifExp (pt_cmpR op_eq (pe_call GD hr (by rfl) gD kD bD .nil pass0 (pa_cons (pv 0) (pa_cons pe_int pa_nil))) pe_int (nomark _)) (pe_lst (pa_cons (pe_tup (pa_cons pe_str (pa_cons pe_int pa_nil))) pa_nil)) (pe_lst pa_nil))))
    case s3 => exact (ps_set (i := 2) scOrder.nd rfl (.inl rfl) (pe_op op_cat (pe_lst (pa_cons (pe_tup (pa_cons pe_str (pa_cons pe_int pa_nil))) pa_nil))
          (pe_call GP hr (by rfl) gP kP bP .nil pass0 (pa_cons (pv 0) (pa_cons (pe_lst (pa_cons (pe_lst (pa_cons (pe_tup (pa_cons pe_str (pa_cons pe_int pa_nil))) pa_nil)) (pa_cons (pe_lst (pa_cons (pe_tup (pa_cons pe_str (pa_cons pe_int pa_nil))) pa_nil)) (pa_cons (pe_lst (pa_cons (pe_tup (pa_cons pe_str (pa_cons pe_int pa_nil))) (pa_cons (pe_tup (pa_cons pe_str (pa_cons pe_int pa_nil))) pa_nil))) pa_nil)))) pa_nil)))))
    case s4 => exact (ps_set (i := 3) scOrder.nd rfl (.inl rfl) (pe_lst pa_nil))
    case s5 => exact (ps_for PassesOwn.never rfl (pi_list (pe_lst (pa_cons (pv 1) (pa_cons (pv 2) pa_nil)))) (pg_name (i := 4) scOrder.nd rfl (.inl rfl))
        (pss_cons (ps_par (i := 4) (j := 5) (by rfl) scOrder.nd rfl rfl (by decide) rfl rfl (pa_cons (pe_callTy call_list_of (by rfl) mL (by decide +kernel) (pa_cons (pv 4) pa_nil)) (pa_cons (pe_lst pa_nil) pa_nil)) (by rfl))
        (pss_cons (ps_for PassesOwn.never rfl (pi_range1 (by rfl) mr (pa_cons (pe_callB call_len_seq (by rfl) ml PySem.boot_len (pa_cons (pv 4) pa_nil)) pa_nil)) (pg_name (i := 6) scOrder.nd rfl (.inl rfl))
          (pss_cons (ps_asg (pe_bm PySem.F.plainAttrs_list PySem.F.slot_list_pop PySem.F.type_list_pop mt_popAt (pv 4) (pa_cons (pe_call GD hr (by rfl) gD kD bD .nil pass0 (pa_cons (pv 0) (pa_cons (pe_callB call_len_seq (by rfl) ml PySem.boot_len (pa_cons (pv 4) pa_nil)) pa_nil))) pa_nil)) (pg_tup rfl (pgs_cons (pg_name (i := 7) scOrder.nd rfl (.inl rfl)) (pgs_cons (pg_name (i := 8) scOrder.nd rfl (.inl rfl)) pgs_nil))))
          (pss_one (ps_expr (pe_bm PySem.F.plainAttrs_list PySem.F.slot_list_append PySem.F.type_list_append mt_append (pv 5) (pa_cons (pe_tup (pa_cons (pv 7) (pa_cons (pv 8) (pa_cons (pe_call GP hr (by rfl) gP kP bP .nil pass0 (pa_cons (pv 0) (pa_cons (pe_lst (pa_cons pe_int (pa_cons pe_int (pa_cons pe_int pa_nil)))) pa_nil))) pa_nil)))) pa_nil))))))
        (pss_one (ps_expr (pe_bm PySem.F.plainAttrs_list PySem.F.slot_list_append PySem.F.type_list_append mt_append (pv 3) (pa_cons (pe_callTy call_tuple_of (by rfl) mt (by decide +kernel) (pa_cons (pv 5) pa_nil)) pa_nil)))))))
    case s6 => exact (ps_ret (pe_tup (pa_cons (pe_ix ix_list (pv 3) pe_int (fun _ _ => rfl)) (pa_cons (pe_ix ix_list (pv 3) pe_int (fun _ _ => rfl)) pa_nil))))
    refine ⟨fun σ G => ∃ (th : Addr) (R : List Pr) (c1 : Nat), σ = [some (.ref p), some (.ref th), none, none, none, none, none, none, none] ∧ LsP K G R th ∧ H th = none ∧ R ∈ [[(("a" : Str), 0), ("b", 0), ("c", 0), ("f", 1)], [("a", 0), ("b", 0), ("f", 1)]] ∧ Pn.Pen G p l ns c1 ∧ c1 ≤ c + 1 ∧ Pn.But p H G, ?_, ?_⟩
    · dsimp only [tAsg, tOp, tIf, tTest]
      refine lit_ls2 K (x := "a") (y := "b") (n := 0) (m := 0) fun a1 G1 s1 n1 L1 => ?_
      have P1 := pen_same hP s1
      refine ⟨.ref p, rfl, p, l, ns, c, 3, rfl, P1, hlen, by omega, by decide, by decide, fun r G2 r0 r1 P2 b2 => ⟨rfl, _, rfl, ?_⟩⟩
      have na := pen_kept hP n1
      replace L1 := LsP.but P1 b2 na L1
      have b12 : Pn.But p H G2 := (Pn.But.of s1).trans b2
      refine ite2 (fun _ => ?_) (fun _ => ?_)
      · refine lit_ls1 K (x := "c") (n := 0) fun a3 G3 s3 n3 L3 => ?_
        refine cat_prs (L1.same s3) L3 (by decide) fun a4 G4 s4 n4 L4 => ?_
        refine lit_ls1 K (x := "f") (n := 1) fun a5 G5 s5 n5 L5 => ?_
        refine cat_prs (L4.same s5) L5 (by decide) fun a6 G6 s6 n6 L6 => ?_
        have sm : Same G2 G5 := fun b o e => s5 b o (s4 b o (s3 b o e))
        have b5 := b12.trans (Pn.But.of sm)
        exact ⟨a6, _, c + 1, rfl, L6, fresh_back b5 (pen_same P2 sm) n6, by simp, pen_same (pen_same P2 sm) s6, Nat.le_refl _, b5.trans (Pn.But.of s6)⟩
      · refine lit_ls0 K fun a3 G3 s3 n3 L3 => ?_
        refine cat_prs (L1.same s3) L3 (by decide) fun a4 G4 s4 n4 L4 => ?_
        refine lit_ls1 K (x := "f") (n := 1) fun a5 G5 s5 n5 L5 => ?_
        refine cat_prs (L4.same s5) L5 (by decide) fun a6 G6 s6 n6 L6 => ?_
        have sm : Same G2 G5 := fun b o e => s5 b o (s4 b o (s3 b o e))
        have b5 := b12.trans (Pn.But.of sm)
        exact ⟨a6, _, c + 1, rfl, L6, fresh_back b5 (pen_same P2 sm) n6, by simp, pen_same (pen_same P2 sm) s6, Nat.le_refl _, b5.trans (Pn.But.of s6)⟩
    rintro σ G ⟨th, R, c1, rfl, LR, nth, hR, P1, hc1, b1⟩
    refine ⟨fun σ G => ∃ (th : Addr) (R : List Pr) (c1 : Nat), σ = [some (.ref p), some (.ref th), none, none, none, none, none, none, none] ∧ LsP K G R th ∧ H th = none ∧ R ∈ thingsB ∧ Pn.Pen G p l ns c1 ∧ c1 ≤ c + 2 ∧ Pn.But p H G, ?_, ?_⟩
    · dsimp only [tAsg, tOp, tIf, tTest]
      refine ⟨.ref th, rfl, .ref p, rfl, p, l, ns, c1, 2, rfl, P1, hlen, by omega, by decide, by decide, fun r G2 r0 r1 P2 b2 => ⟨rfl, _, rfl, ?_⟩⟩
      have na := pen_kept hP nth
      replace LR := LsP.but P1 b2 na LR
      have b12 : Pn.But p H G2 := b1.trans b2
      refine ite2 (fun _ => ?_) (fun _ => ?_)
      · refine lit_ls1 K (x := "g") (n := 2) fun a3 G3 s3 n3 L3 => ?_
        refine cat_prs (LR.same s3) L3 ?_ fun a4 G4 s4 n4 L4 => ?_
        · rcases List.mem_cons.mp hR with e | e
          · rw [e]; decide
          · rw [List.mem_singleton.mp e]; decide
        have b5 := b12.trans (Pn.But.of s3)
        refine ⟨a4, _, c1 + 1, rfl, L4, fresh_back b5 (pen_same P2 s3) n4, ?_, pen_same (pen_same P2 s3) s4, by omega, b5.trans (Pn.But.of s4)⟩
        rcases List.mem_cons.mp hR with e | e
        · rw [e]; decide
        · rw [List.mem_singleton.mp e]; decide
      · refine lit_ls0 K fun a3 G3 s3 n3 L3 => ?_
        refine cat_prs (LR.same s3) L3 ?_ fun a4 G4 s4 n4 L4 => ?_
        · rcases List.mem_cons.mp hR with e | e
          · rw [e]; decide
          · rw [List.mem_singleton.mp e]; decide
        have b5 := b12.trans (Pn.But.of s3)
        refine ⟨a4, _, c1 + 1, rfl, L4, fresh_back b5 (pen_same P2 s3) n4, ?_, pen_same (pen_same P2 s3) s4, by omega, b5.trans (Pn.But.of s4)⟩
        rcases List.mem_cons.mp hR with e | e
        · rw [e]; decide
        · rw [List.mem_singleton.mp e]; decide
    clear hR LR nth P1 hc1 b1 R th c1 G
    rintro σ G ⟨th, R, c1, rfl, LR, nth, hR, P1, hc1, b1⟩
    refine ⟨fun σ G => ∃ (tr : Addr) (S : List Pr) (c1 : Nat), σ = [some (.ref p), some (.ref th), some (.ref tr), none, none, none, none, none, none] ∧ LsP K G R th ∧ LsP K G S tr ∧ H tr = none ∧ S ∈ truthsB ∧ Pn.Pen G p l ns c1 ∧ c1 ≤ c + 3 ∧ Pn.But p H G, ?_, ?_⟩
    · dsimp only [tAsg, tOp, tCall]
      refine lit_ls1 K (x := "p") (n := 1) fun a1 G1 s1 n1 L1 => ?_
      refine ⟨.ref p, rfl, ?_⟩
      refine lit_truths K fun a2 G2 xs s2 n2 e2 len2 mem2 => ?_
      have sm : Same G G2 := fun b o e => s2 b o (s1 b o e)
      have P2 := pen_same P1 sm
      have na1 : a1 ≠ p := pen_kept P1 n1
      have na2 : a2 ≠ p := pen_kept (pen_same P1 s1) n2
      refine ⟨p, l, a2, ns, c1, xs, rfl, P2, hlen, by omega, .inl (.inl (.inl e2)), (by intro z; rw [z] at len2; cases len2), by omega, na2, fun x G3 hx P3 b3 => ?_⟩
      obtain ⟨b, S, rfl, nb, Lb, hS⟩ := mem2 x hx
      have nbp : b ≠ p := pen_kept (pen_same P1 s1) nb
      refine cat_prs (LsP.but P2 b3 na1 (L1.same s2)) (LsP.but P2 b3 nbp Lb) ?_ fun a4 G4 s4 n4 L4 => ?_
      · simp only [List.mem_cons, List.mem_nil_iff, or_false] at hS
        rcases hS with e | e | e <;> rw [e] <;> decide
      have b5 := (b1.trans (Pn.But.of sm)).trans b3
      refine ⟨a4, _, c1 + 1, rfl, ?_, L4, fresh_back b5 P3 n4, ?_, pen_same P3 s4, by omega, b5.trans (Pn.But.of s4)⟩
      · exact (LsP.but P2 b3 (pen_kept hP nth) (LR.same sm)).same s4
      · simp only [List.mem_cons, List.mem_nil_iff, or_false] at hS
        rcases hS with e | e | e <;> rw [e] <;> decide
    clear LR P1 hc1 b1 c1 G
    rintro σ G ⟨tr, S, c1, rfl, LR, LS, ntr, hS, P1, hc1, b1⟩
    refine ⟨by decide, fun rw nrw => ?_⟩
    have nrwH := fresh_back b1 P1 nrw
    have thrw : th ≠ rw := by
      obtain ⟨vs, e, _⟩ := LR
      exact ne_of_none e nrw
    have trrw : tr ≠ rw := by
      obtain ⟨vs, e, _⟩ := LS
      exact ne_of_none e nrw
    have s0 : Same G (upd G rw (.lst [])) := same_new (fun b o e => e) nrw _
    replace LR := LR.same s0
    replace LS := LS.same s0
    replace P1 := pen_same P1 s0
    replace b1 := b1.trans (Pn.But.of s0)
    have erw : (upd G rw (.lst [])) rw = some (.lst []) := upd_same
    clear s0 nrw
    generalize upd G rw (.lst []) = G0 at LR LS P1 b1 erw ⊢
    refine ⟨.ref th, rfl, .ref tr, rfl, (by show 2 ≤ sizeLine; decide), fun it nit => ⟨it, rfl, ⟨_, .inl (.inl upd_same)⟩, ?_⟩⟩
    have nitH := fresh_back b1 P1 nit
    have itrw : it ≠ rw := fun z => by rw [z, erw] at nit; cases nit
    have s0 : Same G0 (upd G0 it (.lst [.ref th, .ref tr])) := same_new (fun b o e => e) nit _
    replace LR := LR.same s0
    replace LS := LS.same s0
    replace P1 := pen_same P1 s0
    replace b1 := b1.trans (Pn.But.of s0)
    replace erw := s0 _ _ erw
    have eit : (upd G0 it (.lst [.ref th, .ref tr])) it = some (.lst [.ref th, .ref tr]) := upd_same
    clear s0 nit
    generalize upd G0 it (.lst [.ref th, .ref tr]) = G1 at LR LS P1 b1 erw eit ⊢
    have thp := pen_kept hP nth
    have trp := pen_kept hP ntr
    have rwp := pen_kept hP nrwH
    have itp := pen_kept hP nitH
    refine for_list (K := K) (a := it) (xs := [.ref th, .ref tr]) (fun i σ G => ∃ (v4 v5 v6 v7 v8 : Option V) (c2 : Nat) (rvs : List V), σ = [some (.ref p), some (.ref th), some (.ref tr), some (.ref rw), v4, v5, v6, v7, v8] ∧ Pn.Pen G p l ns c2 ∧ c2 ≤ c + 3 + i * 10 ∧ Pn.But p H G ∧ LsP K G R th ∧ LsP K G S tr ∧
      G rw = some (.lst rvs) ∧ F2 (KdV K G) ([R, S].take i) rvs ∧ G it = some (.lst [.ref th, .ref tr])) ⟨none, none, none, none, none, c1, [], rfl, P1, by omega, b1, LR, LS, erw, rfl, eit⟩ (fun i σ G _ ⟨_, _, _, _, _, _, _, _, _, _, _, _, _, _, _, e⟩ => .inl (.inl e)) ?_ ?_
    · clear LR LS P1 b1 erw eit G1 G0 hc1 c1 G
      rintro i x σ G hx ⟨v4, v5, v6, v7, v8, c2, rvs, rfl, P2, hc2, b2, LR, LS, erw, frw, eit⟩
      obtain ⟨kd0, B, hB, rfl, LB, nkp, hlt, fewB⟩ : ∃ kd0 B, [R, S][i]? = some B ∧ x = .ref kd0 ∧ LsP K G B kd0 ∧ kd0 ≠ p ∧ i < 2 ∧ B.length ≤ 5 := by
        match i, hx with
        | 0, hx =>
          refine ⟨th, R, rfl, (Option.some.inj hx).symm, LR, thp, by omega, ?_⟩
          have : (thingsB.all fun B => decide (B.length ≤ 5)) = true := by decide
          exact of_decide_eq_true (List.all_eq_true.mp this R hR)
        | 1, hx =>
          refine ⟨tr, S, rfl, (Option.some.inj hx).symm, LS, trp, by omega, ?_⟩
          have : (truthsB.all fun B => decide (B.length ≤ 5)) = true := by decide
          exact of_decide_eq_true (List.all_eq_true.mp this S hS)
      obtain ⟨ks, ek, fk⟩ := LB
      refine ⟨.ref kd0, rfl, kd0, ks, rfl, .inl (.inl (.inl ek)), fun kd nkd => ⟨Nat.zero_le _, fun bl nbl => ⟨.ref kd, .ref bl, rfl, ?_⟩⟩⟩
      have nkdH := fresh_back b2 P2 nkd
      have s0 : Same G (upd G kd (.lst ks)) := same_new (fun b o e => e) nkd _
      have ekd : (upd G kd (.lst ks)) kd = some (.lst ks) := upd_same
      have rwkd : rw ≠ kd := ne_of_none erw nkd
      have thkd : th ≠ kd := by
        obtain ⟨vs, e, _⟩ := LR
        exact ne_of_none e nkd
      have trkd : tr ≠ kd := by
        obtain ⟨vs, e, _⟩ := LS
        exact ne_of_none e nkd
      have itkd : it ≠ kd := ne_of_none eit nkd
      replace LR := LR.same s0
      replace LS := LS.same s0
      replace P2 := pen_same P2 s0
      replace b2 := b2.trans (Pn.But.of s0)
      replace erw := s0 _ _ erw
      replace eit := s0 _ _ eit
      replace fk := fk.mono (PrV.mono (TK.same s0))
      replace frw := frw.mono (KdV.mono (TK.same s0))
      clear s0 nkd ek
      generalize upd G kd (.lst ks) = G2 at ekd LR LS P2 b2 erw eit fk frw nbl ⊢
      have nblH := fresh_back b2 P2 nbl
      have s0 : Same G2 (upd G2 bl (.lst [])) := same_new (fun b o e => e) nbl _
      have ebl : (upd G2 bl (.lst [])) bl = some (.lst []) := upd_same
      have rwbl : rw ≠ bl := ne_of_none erw nbl
      have thbl : th ≠ bl := by
        obtain ⟨vs, e, _⟩ := LR
        exact ne_of_none e nbl
      have trbl : tr ≠ bl := by
        obtain ⟨vs, e, _⟩ := LS
        exact ne_of_none e nbl
      have itbl : it ≠ bl := ne_of_none eit nbl
      have kdbl : kd ≠ bl := ne_of_none ekd nbl
      replace LR := LR.same s0
      replace LS := LS.same s0
      replace P2 := pen_same P2 s0
      replace b2 := b2.trans (Pn.But.of s0)
      replace erw := s0 _ _ erw
      replace eit := s0 _ _ eit
      replace ekd := s0 _ _ ekd
      replace fk := fk.mono (PrV.mono (TK.same s0))
      replace frw := frw.mono (KdV.mono (TK.same s0))
      clear s0 nbl
      generalize upd G2 bl (.lst []) = G3 at ekd ebl LR LS P2 b2 erw eit fk frw ⊢
      have kdp := pen_kept hP nkdH
      have blp := pen_kept hP nblH
      have lk := fk.len
      refine ⟨.ref kd, rfl, kd, ks, rfl, .inl (.inl (.inl ekd)), _, rfl, by omega, by omega, for_range (lo := 0) (n := ((ks.length : Int)).toNat) (fun j σ G => ∃ (v6 v7 v8 : Option V) (c3 : Nat) (rest : List Pr) (done : List Row) (rs ds : List V), σ = [some (.ref p), some (.ref th), some (.ref tr), some (.ref rw), some (.ref kd), some (.ref bl), v6, v7, v8] ∧
        Pn.Pen G p l ns c3 ∧ c3 ≤ c2 + j * 2 ∧ Pn.But p H G ∧ Bt p kd bl G3 G ∧ G kd = some (.lst rs) ∧ G bl = some (.lst ds) ∧ F2 (PrV K G) rest rs ∧ F2 (RowV K G) done ds ∧ done.length = j ∧ (rest ++ done.map fun r => (r.1, r.2.1)).Perm B ∧ ∀ r ∈ done, r.2.2 = 1 ∨ r.2.2 = 2)
        ⟨v6, v7, v8, c2, B, [], ks, [], rfl, P2, by omega, b2, Bt.refl _, ekd, ebl, fk, rfl, rfl, by rw [List.map_nil, List.append_nil], fun r hr => nomatch hr⟩ ?_ ?_⟩
      · rintro j σ G4 hj ⟨v6, v7, v8, c3, rest, done, rs, ds, rfl, P4, hc3, b4, t4, gk, gb, fr, fd, ld, perm, wts⟩
        have lr := fr.len
        have lds := fd.len
        have tot := perm.length_eq
        rw [List.length_append, List.length_map] at tot
        refine ⟨_, rfl, .inl ⟨rfl, _, .inl (.inl gk)⟩, .ref p, rfl, .ref kd, rfl, kd, rs, rfl, .inl (.inl (.inl gk)), p, l, ns, c3, _, rfl, P4, hlen, by omega, by omega, by omega, fun r G5 r0 r1 P5 b5 => ?_⟩
        obtain ⟨m, rfl⟩ : ∃ m : Nat, r = (m : Int) := ⟨r.toNat, by omega⟩
        have hm : m < rs.length := by omega
        have hg : rs[m]? = some rs[m] := List.getElem?_eq_getElem hm
        generalize rs[m] = y at hg
        have gk5 := b5 _ _ kdp gk
        have gb5 := b5 _ _ blp gb
        have k5 := pen_tk P4 b5
        obtain ⟨pr, hpr, ⟨b, rfl, sqb⟩⟩ := (fr.mono (PrV.mono k5)).get hg
        refine ⟨kd, rs, (m : Int), m, .ref b, rfl, rfl, gk5, by omega, by omega, sx_nat hm, hg, ?_⟩
        have k6 : TK G5 (upd G5 kd (.lst (rs.eraseIdx m))) := TK.lst gk5 _
        have gk6 : (upd G5 kd (.lst (rs.eraseIdx m))) kd = some (.lst (rs.eraseIdx m)) := upd_same
        have gb6 : (upd G5 kd (.lst (rs.eraseIdx m))) bl = some (.lst ds) := by rw [upd_ne kdbl.symm]; exact gb5
        have P6 := pen_on hP nkdH P5 (.lst (rs.eraseIdx m))
        have b6 := but_on (b4.trans b5) nkdH (.lst (rs.eraseIdx m))
        have t6 := (t4.but b5).u (.lst (rs.eraseIdx m))
        replace sqb := k6.sq sqb
        have fr6 := F2.erase m (fr.mono (PrV.mono (k5.trans k6)))
        have fd6 := fd.mono (RowV.mono (k5.trans k6))
        clear k5 k6 P5 b5 P4 b4 t4 gk gb fr fd gk5 gb5
        generalize upd G5 kd (.lst (rs.eraseIdx m)) = G6 at gk6 gb6 P6 b6 t6 sqb fr6 fd6 ⊢
        refine ⟨b, _, rfl, sqb, rfl, .str pr.1, _, rfl, .int (pr.2 : Int), _, rfl, rfl, ?_⟩
        refine ⟨_, rfl, .inl ⟨rfl, _, .inl (.inl gb6)⟩, .str pr.1, rfl, .int (pr.2 : Int), rfl, .ref p, rfl, (by show 3 ≤ sizeLine; decide), fun q4 n4 => ?_⟩
        have s7 : Same G6 (upd G6 q4 (.lst [.int 1, .int 1, .int 2])) := same_new (fun b o e => e) n4 _
        have e7 : (upd G6 q4 (.lst [.int 1, .int 1, .int 2])) q4 = some (.lst [.int 1, .int 1, .int 2]) := upd_same
        have q4p := pen_kept P6 n4
        have P7 := pen_same P6 s7
        refine ⟨p, l, q4, ns, c3 + 1, _, rfl, P7, hlen, by omega, .inl (.inl (.inl e7)), (by intro z; cases z), (by show 3 ≤ 1000000; decide), q4p, fun x G8 hx P8 b8 => ?_⟩
        obtain ⟨wt, rfl, hwt⟩ : ∃ wt : Int, x = .int wt ∧ (wt = 1 ∨ wt = 2) := by
          simp only [List.mem_cons, List.mem_nil_iff, or_false] at hx
          rcases hx with e | e | e <;> rw [e]
          · exact ⟨1, rfl, .inl rfl⟩
          · exact ⟨1, rfl, .inl rfl⟩
          · exact ⟨2, rfl, .inr rfl⟩
        refine ⟨(by show 3 ≤ sizeLine; decide), fun q6 n6 => ?_⟩
        have s9 : Same G8 (upd G8 q6 (.tup [.str pr.1, .int (pr.2 : Int), .int wt])) := same_new (fun b o e => e) n6 _
        have e9 : (upd G8 q6 (.tup [.str pr.1, .int (pr.2 : Int), .int wt])) q6 = some (.tup [.str pr.1, .int (pr.2 : Int), .int wt]) := upd_same
        have k9 : TK G6 (upd G8 q6 (.tup [.str pr.1, .int (pr.2 : Int), .int wt])) := ((TK.same s7).trans (pen_tk P7 b8)).trans (TK.same s9)
        have gk9 := s9 _ _ (b8 _ _ kdp (s7 _ _ gk6))
        have gb9 := s9 _ _ (b8 _ _ blp (s7 _ _ gb6))
        have P9 := pen_same P8 s9
        have b9 := ((b6.trans (Pn.But.of s7)).trans b8).trans (Pn.But.of s9)
        have t9 := ((t6.but (Pn.But.of s7)).but b8).but (Pn.But.of s9)
        replace fr6 := fr6.mono (PrV.mono k9)
        replace fd6 := fd6.mono (RowV.mono k9)
        clear k9 s9 P8 b8 n6 P7 q4p e7 s7 n4 sqb P6 b6 t6 gk6 gb6
        generalize upd G8 q6 (.tup [.str pr.1, .int (pr.2 : Int), .int wt]) = G9 at e9 gk9 gb9 P9 b9 t9 fr6 fd6 ⊢
        refine ⟨bl, ds, .ref q6, rfl, rfl, gb9, by rw [sizeLine_eq]; omega, ?_⟩
        have kA : TK G9 (upd G9 bl (.lst (ds ++ [.ref q6]))) := TK.lst gb9 _
        refine ⟨_, _, _, c3 + 2, rest.eraseIdx m, done ++ [(pr.1, pr.2, wt)], rs.eraseIdx m, ds ++ [.ref q6], rfl, pen_on hP nblH P9 _, by omega, but_on b9 nblH _, t9.v _, by rw [upd_ne kdbl]; exact gk9, upd_same, fr6.mono (PrV.mono kA), (fd6.mono (RowV.mono kA)).app (F2.one ⟨q6, rfl, kA.sq (.inl (.inl e9))⟩), by rw [List.length_append, List.length_singleton, ld], ?_, ?_⟩
        · refine List.Perm.trans ?_ perm
          rw [List.map_append]
          show (rest.eraseIdx m ++ (done.map (fun r => (r.1, r.2.1)) ++ [pr])).Perm (rest ++ done.map fun r => (r.1, r.2.1))
          have e1 := erase_perm hpr
          rw [← List.append_assoc]
          refine (List.perm_append_singleton pr _).trans ?_
          exact (e1.symm.append_right _)
        · intro r hr
          rcases List.mem_append.mp hr with z | z
          · exact wts r z
          · rw [List.mem_singleton.mp z]
            exact hwt
      · rintro σ G4 ⟨v6, v7, v8, c3, rest, done, rs, ds, rfl, P4, hc3, b4, t4, gk, gb, fr, fd, ld, perm, wts⟩
        have tot := perm.length_eq
        rw [List.length_append, List.length_map] at tot
        have re : rest = [] := List.length_eq_zero_iff.mp (by omega)
        subst re
        have k4 := t4.tk P2 ekd ebl
        have rw4 := t4 _ _ rwp rwkd rwbl erw
        have it4 := t4 _ _ itp itkd itbl eit
        have ls : ∀ {R a}, LsP K G3 R a → a ≠ p → a ≠ kd → a ≠ bl → LsP K G4 R a := fun h n1 n2 n3 => by
          obtain ⟨vs, e, f⟩ := h
          exact ⟨vs, t4 _ _ n1 n2 n3 e, f.mono (PrV.mono k4)⟩
        have LR4 := ls LR thp thkd thbl
        have LS4 := ls LS trp trkd trbl
        have frw4 := frw.mono (KdV.mono k4)
        refine ⟨_, rfl, .inl ⟨rfl, _, .inl (.inl rw4)⟩, .ref bl, rfl, bl, ds, rfl, .inl ⟨.inl (.inl gb), fun q5 n5 => ?_⟩⟩
        have s5 : Same G4 (upd G4 q5 (.tup ds)) := same_new (fun b o e => e) n5 _
        have e5 : (upd G4 q5 (.tup ds)) q5 = some (.tup ds) := upd_same
        replace LR4 := LR4.same s5
        replace LS4 := LS4.same s5
        replace P4 := pen_same P4 s5
        replace b4 := b4.trans (Pn.But.of s5)
        replace rw4 := s5 _ _ rw4
        replace it4 := s5 _ _ it4
        replace fd := fd.mono (RowV.mono (TK.same s5))
        replace frw4 := frw4.mono (KdV.mono (TK.same s5))
        clear s5 n5 ls k4 t4 gk gb
        generalize upd G4 q5 (.tup ds) = G5 at e5 LR4 LS4 P4 b4 rw4 it4 fd frw4 ⊢
        have lrv := frw4.len
        refine ⟨rw, rvs, .ref q5, rfl, rfl, rw4, by rw [sizeLine_eq, lrv, List.length_take]; omega, ?_⟩
        have kA : TK G5 (upd G5 rw (.lst (rvs ++ [.ref q5]))) := TK.lst rw4 _
        have up : ∀ {R a}, LsP K G5 R a → a ≠ rw → LsP K (upd G5 rw (.lst (rvs ++ [.ref q5]))) R a := fun h n => by
          obtain ⟨vs, e, f⟩ := h
          exact ⟨vs, by rw [upd_ne n]; exact e, f.mono (PrV.mono kA)⟩
        refine ⟨_, _, _, _, _, c3, rvs ++ [.ref q5], rfl, pen_on hP nrwH P4 _, by omega, but_on b4 nrwH _, up LR4 thrw, up LS4 trrw, upd_same, ?_, by rw [upd_ne itrw]; exact it4⟩
        rw [List.take_add_one, hB]
        exact (frw4.mono (KdV.mono kA)).app (F2.one ⟨q5, done, ds, rfl, ⟨perm, wts⟩, kA.sq (.inl (.inl e5)), fd.mono (RowV.mono kA)⟩)
    · rintro σ G ⟨v4, v5, v6, v7, v8, c2, rvs, rfl, P2, hc2, b2, _, _, erw2, frw, _⟩
      obtain ⟨x1, r1, rfl, ⟨k1, R1, vs1, rfl, m1, sq1, f1⟩, ⟨x2, r2, rfl, ⟨k2, R2, vs2, rfl, m2, sq2, f2⟩, fe⟩⟩ := frw
      cases (show r2 = [] from fe)
      refine ⟨.ref rw, rfl, rw, _, 0, _, rfl, rfl, .inl (.inl erw2), atI_nat (j := 0) rfl, .ref rw, rfl, rw, _, 1, _, rfl, rfl, .inl (.inl erw2), atI_nat (j := 1) rfl, (by show 2 ≤ sizeLine; decide), fun q5 n5 => ?_⟩
      have s5 : Same G (upd G q5 (.tup [.ref k1, .ref k2])) := same_new (fun b o e => e) n5 _
      have k5 := TK.same s5
      exact q q5 R1 R2 R S _ c2 ⟨k1, k2, vs1, vs2, .inl (.inl upd_same), k5.sq sq1, k5.sq sq2, f1.mono (RowV.mono k5), f2.mono (RowV.mono k5)⟩ hR hS m1 m2 (by simp only [List.length_cons, List.length_nil] at hc2; omega) (pen_same P2 s5) (b2.trans (Pn.But.of s5))
end
end Ad

/-! The law keeps its word. -/
namespace Ad
open PySem PySem.Spec PySem.Calls PyProof.Rows L2 GxR
abbrev sLaw : Stmt := topS 41
theorem scLaw : FnScope ["_law_script", "_law_pen_here", "_law_rows", "_law_lap", "_law_clause", "_law_plain", "_law_loose_here", "_law_at", "_law_wrong_here", "_law_column", "_law_pad", "_law_sign", "_law_left", "_law_right"] ["_law_script"] (defScope sLaw) := ⟨rfl, rfl, rfl, by decide +kernel, rfl, by decide +kernel, by decide +kernel⟩
theorem dp_nil {K : PySem.W.Frag} {H : Hp} {a : Addr} (e : H a = some (.lst [])) : Dp K H (.ref a) (.list []) := .lst (.inl (.inl e)) .nil
theorem tok_truths {D : List Pr} {S : List Row} (hD : D ∈ truthsB) (m : Mixed D S) : TOk S := by
  have k : (truthsB.all fun D => D.all (fun r => nameOk r.1 && decide (r.2 ≤ 3)) && (!D.isEmpty && decide (D.length ≤ 5))) = true := by decide +kernel
  have k1 := List.all_eq_true.mp k D hD
  rw [Bool.and_eq_true, Bool.and_eq_true, decide_eq_true_eq] at k1
  obtain ⟨k2, k3, k4⟩ := k1
  have lS : S.length = D.length := by
    have := m.perm.length_eq
    rw [List.length_map] at this
    exact this
  refine ⟨fun r hr => ?_, fun z => ?_, by omega⟩
  · have := List.all_eq_true.mp k2 (r.1, r.2.1) (m.perm.mem_iff.mp (List.mem_map.mpr ⟨r, hr, rfl⟩))
    rw [Bool.and_eq_true, decide_eq_true_eq] at this
    exact this
  · rw [z] at lS
    cases D with
    | nil => cases k3
    | cons d D => cases lS
section
variable {P : Program} {w : World} {K : PySem.W.Frag} {mg : Str → Option Value} {base : Heap}
def LawInv (H : Hp) (p l ra : Addr) (ns : List Int) (a : Addr) (c : Nat) (i : Nat) (σ : L2.St) (G : Hp) : Prop := ∃ v3 v4 v5 v6 v7 v11 v12 v13 c1, σ = [some (.ref a), some (.ref p), some (.ref ra), v3, v4, v5, v6, v7, none, none, none, v11, v12, v13] ∧ Pn.Pen G p l ns c1 ∧ c1 ≤ c + i * 300000 ∧ Pn.But p H G
def spLaw (K : PySem.W.Frag) : Sp := fun vs H Q _ => ∃ (a : Addr) (ns : List Int), vs = [.ref a] ∧ SqL K H a (ns.map V.int) ∧ ns.length ≤ 63 ∧ ∀ H', Q (.bl true) H'
theorem ok_law {f : Addr} {fd : FuncData} {k : Nat} (F : Fun K "law" "law" sLaw f fd) {f1 f2 f3 f4 f5 f6 f7 f8 f9 fa : Addr} {d1 d2 d3 d4 d5 d6 d7 d8 d9 da : FuncData}
    (hLPen : Has P w K mg base k "_law_pen" ["_law_script"] (Pn.spPen K) f1 d1) (hLDraw : Has P w K mg base k "_law_draw" ["_law_pen_here", "_law_many"] Pn.spDraw f2 d2) (hLPick : Has P w K mg base k "_law_pick" ["_law_pen_here", "_law_some"] (Pn.spPick K) f3 d3) (hLDrawnOrder : Has P w K mg base k "_law_drawn_order" ["_law_pen_here"] (spOrder K) f4 d4)
    (hLDrawn : Has P w K mg base k "_law_drawn" ["_law_pen_here", "_law_rows"] (spLDrawn K) f5 d5) (hLText : Has P w K mg base k "_law_text" ["_law_pen_here", "_law_clause"] (spLText K) f6 d6) (hClauseText : Has P w K mg base k "clause_text" ["clause"] (spCT K) f7 d7) (hClauseOf : Has P w K mg base k "clause_of" ["text"] (spClauseQ K) f8 d8)
    (hLWhy : Has P w K mg base k "_law_why" ["_law_text_here"] (spWhyC K) f9 d9) (hLWrong : Has P w K mg base k "_law_wrong" ["_law_pen_here"] (spWrong K) fa da) (m_range : mg "range" = none) (m_len : mg "len" = none) (m_isinstance : mg "isinstance" = none) (m_int : mg "int" = none) :
    FnOk P w K mg base CX0 (k + 1) f fd ["_law_script"] (spLaw K) := by
  refine F.ok scLaw (fun vs H Q E h => ?_) (fun cdv A outer s0 H vs Q E hr h => ?_)
  · obtain ⟨a, ns, rfl, _⟩ := h
    rfl
  · obtain ⟨a, ns, rfl, hS, few, q⟩ := h
    refine ⟨_, (pss_cons (ps_set (i := 1) scLaw.nd rfl (.inl rfl) (pe_call hLPen.G hr (by rfl) hLPen.g hLPen.kp hLPen.b .nil pass0 (pa_cons (pv 0) pa_nil)))
    (pss_cons (ps_set (i := 2) scLaw.nd rfl (.inl rfl) (pe_call hLDrawnOrder.G hr (by rfl) hLDrawnOrder.g hLDrawnOrder.kp hLDrawnOrder.b .nil pass0 (pa_cons (pv 1) pa_nil)))
    (pss_cons (ps_for PassesOwn.never rfl (pi_range1 (by rfl) m_range (pa_cons pe_int pa_nil)) (pg_name (i := 3) scLaw.nd rfl (.inl rfl))
      (pss_cons (ps_set (i := 4) scLaw.nd rfl (.inl rfl) (pe_call hLDrawn.G hr (by rfl) hLDrawn.g hLDrawn.kp hLDrawn.b .nil pass0 (pa_cons (pv 1) (pa_cons (pv 2) pa_nil))))
      (pss_cons (ps_set (i := 5) scLaw.nd rfl (.inl rfl) (pe_call hLText.G hr (by rfl) hLText.g hLText.kp hLText.b .nil pass0 (pa_cons pe_non (pa_cons (pv 4) pa_nil))))
      (pss_cons (ps_if (pt_cmpR op_ne (pe_call hClauseText.G hr (by rfl) hClauseText.g hClauseText.kp hClauseText.b .nil pass0 (pa_cons (pv 4) pa_nil)) (pv 5) (nomark _))
        (pss_one (ps_ret pe_bl)) pss_nil)
      (pss_cons (ps_if (pt_cmpR (op_neD (hu64 hr)) (pe_lc (own := [("_law_sign", 11), ("_law_left", 12), ("_law_right", 13)]) (g := gTup K 3 (gCons (gName 11) (gCons (gName 12) (gCons (gName 13) gNil)))) (tt := tAnd (tTest (tOp (rEqD K) (tVar 13) (tTup (tCons (tC (.str "yes")) tNil)))) (tB (tCB (rIsi K) (tCons (tVar 12) (tCons (tC (.ty "int")) tNil))))) (te := tC (.int 1)) rfl scLaw.nd (pi_tup (pv 4)) (blkOk_by (N := ["_law_script", "_law_pen_here", "_law_rows", "_law_lap", "_law_clause", "_law_plain", "_law_loose_here", "_law_at", "_law_wrong_here", "_law_column", "_law_pad", "_law_sign", "_law_left", "_law_right"]) (sc := defScope sLaw) (by decide +kernel)) (fun _ _ _ _ _ => (pg_tup rfl (pgs_cons (pg_name (i := 11) scLaw.nd rfl (.inl rfl)) (pgs_cons (pg_name (i := 12) scLaw.nd rfl (.inl rfl)) (pgs_cons (pg_name (i := 13) scLaw.nd rfl (.inl rfl)) pgs_nil))))) (fun _ _ _ _ _ => pts_one (PW.pt (pw_and (pt_cmpR (op_eqD (hu64 hr)) (pv 13) (pe_tup (pa_cons pe_str pa_nil)) (nomark _)) (pw_and1 (pt_val (pe_callB call_isi (by rfl) m_isinstance (by decide +kernel) (pa_cons (pv 12) (pa_cons (pe_bltn (v := .ty "int") (by rfl) m_int (by decide +kernel) rfl) pa_nil)))))))) (fun _ _ _ _ _ => pe_int)) (pe_lst pa_nil) (nomark _))
        (pss_one ps_continue) pss_nil)
      (pss_cons (ps_set (i := 6) scLaw.nd rfl (.inl rfl) (pe_call hLText.G hr (by rfl) hLText.g hLText.kp hLText.b .nil pass0 (pa_cons (pv 1) (pa_cons (pv 4) pa_nil))))
      (pss_cons (ps_if (PW.pt (pw_or (pt_cmpR (op_neD (hu64 hr)) (pe_call hClauseOf.G hr (by rfl) hClauseOf.g hClauseOf.kp hClauseOf.b .nil pass0 (pa_cons (pv 5) pa_nil)) (pv 4) (nomark _)) (pw_or1 (pt_cmpR (op_neD (hu64 hr)) (pe_call hClauseOf.G hr (by rfl) hClauseOf.g hClauseOf.kp hClauseOf.b .nil pass0 (pa_cons (pv 6) pa_nil)) (pv 4) (nomark _)))))
        (pss_one (ps_ret pe_bl)) pss_nil)
      (pss_cons (ps_set (i := 7) scLaw.nd rfl (.inl rfl) (pe_call hLDraw.G hr (by rfl) hLDraw.g hLDraw.kp hLDraw.b .nil pass0 (pa_cons (pv 1) (pa_cons (pe_op op_add (pe_callB call_len_str (by rfl) m_len (by decide +kernel) (pa_cons (pv 6) pa_nil)) pe_int) pa_nil))))
      (pss_one (ps_if (pt_cmpR op_ne (pe_call hLWhy.G hr (by rfl) hLWhy.g hLWhy.kp hLWhy.b .nil pass0 (pa_cons (pe_op op_add_str (pe_op op_add_str (pe_slice sl_str (pv 6) po_none (po_some (pv 7))) (pe_call hLPick.G hr (by rfl) hLPick.g hLPick.kp hLPick.b .nil pass0 (pa_cons (pv 1) (pa_cons (pe_lst (pa_cons pe_str (pa_cons pe_str (pa_cons pe_str (pa_cons pe_str pa_nil))))) pa_nil)))) (pe_slice sl_str (pv 6) (po_some (pv 7)) po_none)) pa_nil)) (pe_op op_add (pv 7) pe_int) (nomark _))
        (pss_one (ps_ret pe_bl)) pss_nil))))))))))
    (pss_cons (ps_asg (pe_call hLWrong.G hr (by rfl) hLWrong.g hLWrong.kp hLWrong.b .nil pass0 (pa_cons (pv 1) pa_nil)) (pg_tup rfl (pgs_cons (pg_name (i := 8) scLaw.nd rfl (.inl rfl)) (pgs_cons (pg_name (i := 9) scLaw.nd rfl (.inl rfl)) pgs_nil))))
    (pss_cons (ps_set (i := 10) scLaw.nd rfl (.inl rfl) (pe_call hLDraw.G hr (by rfl) hLDraw.g hLDraw.kp hLDraw.b .nil pass0 (pa_cons (pv 1) (pa_cons pe_int pa_nil))))
    (pss_cons (ps_if (pt_cmpR op_ne (pe_call hLWhy.G hr (by rfl) hLWhy.g hLWhy.kp hLWhy.b .nil pass0 (pa_cons (pe_op op_add_str (pe_op op_spaces pe_str (pv 10)) (pv 8)) pa_nil)) (pe_op op_add (pv 9) (pv 10)) (nomark _))
      (pss_one (ps_ret pe_bl)) pss_nil)
    (pss_one (ps_ret (pe_cmpR op_eq (pe_call hLWhy.G hr (by rfl) hLWhy.g hLWhy.kp hLWhy.b .nil pass0 (pa_cons (pe_call hLPick.G hr (by rfl) hLPick.g hLPick.kp hLPick.b .nil pass0 (pa_cons (pv 1) (pa_cons (pe_lst (pa_cons pe_non (pa_cons pe_int (pa_cons (pe_lst (pa_cons pe_str pa_nil)) (pa_cons pe_bl (pa_cons (pe_tup pa_nil) pa_nil)))))) pa_nil))) pa_nil)) pe_int (nomark _)))))))))), ?_⟩
    refine ⟨_, rfl, a, ns, rfl, hS, few, fun H1 p l sm1 np nl P1 => ?_⟩
    have hlen : ns.length ≤ 1000 := by omega
    refine ⟨_, rfl, p, l, ns, 0, rfl, P1, hlen, by omega, fun ra R S B D H2 c2 hO hB hD mR mS lc2 P2 b2 => ?_⟩
    have okR := mixed_ok hB mR
    have nam := nam_mixed hB hD mR mS
    have okS : TOk S := tok_truths hD mS
    refine ⟨4, rfl, by decide, by decide, for_range (lo := 0) (n := 4) (LawInv H2 p l ra ns a c2) ⟨_, _, _, _, _, _, _, _, c2, rfl, P2, by omega, Pn.But.refl p H2⟩ ?_ ?_⟩
    · rintro i σ G hi ⟨v3, v4, v5, v6, v7, v11, v12, v13, c1, rfl, PG, lc1, bG⟩
      have hOG := hO.mono (pen_tk P2 bG)
      refine ⟨_, rfl, _, rfl, p, l, ra, ns, c1, R, S, rfl, PG, hlen, by omega, hOG, okR, okS, nam, fun qs v G2 c3 cl lits lenq lc3 P3 b3 => ?_⟩
      refine ⟨_, rfl, none, .non, 0, qs, v, rfl, rfl, by omega, cl, lits, by omega, fun w1 G3 _ ct1 pl1 ln1 _ _ s3 => ?_⟩
      have s3 : Same G2 G3 := s3
      have cl3 := cl.tk (TK.same s3)
      have P4 := pen_same P3 s3
      have e1 : w1 = Ad.S (cx qs) := (S_cs w1).symm.trans (congrArg Ad.S (pl1 rfl))
      refine ⟨_, rfl, qs, v, rfl, cl3, fun q hq => (lits q hq).toLitOk3, by omega, fun G4 s4 => ⟨_, rfl, rfl, _, congrArg (fun b => V.bl (!b)) (decide_eq_true (by rw [e1])), iteF ?_⟩⟩
      have cl4 := cl3.tk (TK.same s4)
      have P5 := pen_same P4 s4
      have b4 : Pn.But p H2 G4 := (bG.trans b3).trans ((Pn.But.of s3).trans (Pn.But.of s4))
      clear cl cl3 PG P3 P4 s3 s4
      obtain ⟨ca, vs, rfl, sqc, all⟩ := id cl4
      have lz := all.len
      refine ⟨_, rfl, ca, rfl, ⟨_, sqc⟩, fun D nD => lc_tup (K := K) (a := ca) (xs := vs) (fun i G' => Same G4 G' ∧ G' D = some (.lst [])) ⟨same_new (fun b o e => e) nD _, upd_same⟩ (fun i G' _ ⟨sm, _⟩ => (TK.same sm).sq sqc) ?_ ?_⟩
      · rintro j y G' hy ⟨sm, gD⟩
        obtain ⟨u, hu, tu⟩ := (all.mono (fun q v => LitV.tk (K := K) (q := q) (v := v) (TK.same sm))).get hy
        obtain ⟨b', y1, y2, rfl, sqy, h1, h2⟩ := tu
        have lu := lits u (List.mem_of_getElem? hu)
        refine ⟨b', _, rfl, sqy, rfl, _, _, rfl, _, _, rfl, _, _, rfl, rfl, rfl, ?_⟩
        refine ⟨_, rfl, by show 1 ≤ sizeLine; rw [sizeLine_eq]; decide, fun t nt => ?_⟩
        have smt := same_new (H := G') (fun b o e => e) nt (.tup [.str "yes"])
        have hd : Dp K (upd G' t (.tup [.str "yes"])) (.ref t) (.tuple [.str "yes"]) := .tup (.inl (.inl upd_same)) (.cons (.str _) .nil)
        have h1' := h1.mono (TK.same smt)
        have h2' := h2.mono (TK.same smt)
        have gD' := smt _ _ gD
        have sm' : Same G4 _ := fun b o e => smt _ _ (sm _ _ e)
        generalize upd G' t (.tup [.str "yes"]) = G5 at hd h1' h2' gD' sm' ⊢
        obtain ⟨z1, z2, z3⟩ := yes_eq (K := K) (X := cxOf CX0 P w K mg base [] "" (defScope sLaw) f cdv A outer s0 H E) lu.r.named (by have := lu.r.dep; omega)
        refine ⟨_, _, h2'.dp, hd, z1, z2, _, congrArg V.bl z3, ?_⟩
        cases hY : isY u.2.2 with
        | false => exact iteF (iteF ⟨sm', gD'⟩)
        | true =>
          obtain ⟨nm, ts, el⟩ := lu.y hY
          rw [el] at h1'
          exact iteT ⟨_, rfl, _, .ty "int", .type "tuple", .type "int", false, rfl, .ty "int", tm_tuple h1', kitTI, _, rfl, iteF ⟨sm', gD'⟩⟩
      · rintro G5 ⟨s5, gD⟩
        refine ⟨Nat.zero_le _, fun e0 ne0 => ?_⟩
        have s6 := same_new (H := G5) (fun b o e => e) ne0 (.lst [])
        refine ⟨.list [], .list [], dp_nil (s6 _ _ gD), dp_nil upd_same, rfl, rfl, _, congrArg (fun b => V.bl (!b)) (show PyData.eqv (.list []) (.list []) = true from rfl), iteF ?_⟩
        have s46 : Same G4 (upd G5 e0 (.lst [])) := fun b o e => s6 _ _ (s5 _ _ e)
        have P6 := pen_same P5 s46
        have cl6 := cl4.tk (TK.same s46)
        have b6 : Pn.But p H2 (upd G5 e0 (.lst [])) := b4.trans (Pn.But.of s46)
        generalize upd G5 e0 (.lst []) = G6 at P6 cl6 b6 ⊢
        clear s5 s6 s46 cl4 P5 b4 gD ne0
        refine ⟨_, rfl, _, rfl, some (p, l, ns), .ref p, c3, qs, .ref ca, rfl, ⟨rfl, P6, hlen⟩, by omega, cl6, lits, by omega, fun w2 G7 c4 ct2 _ ln2 lc4 ps7 b7 => ?_⟩
        obtain ⟨_, P7, _⟩ := ps7
        have b7 : Pn.But p G6 G7 := b7
        have cl7 := cl6.tk (pen_tk P6 b7)
        obtain ⟨sh1, sh2, sh3⟩ := cD_shaped fun q hq => (lits q hq).toLitOk3
        have eqc : PyData.eqv (cD qs) (cD qs) = true := eqv_one sh1
        refine ⟨_, rfl, w1, cD qs, rfl, by rw [← cs_len]; omega, ct1, fun x1 G8 s8 dx1 => ⟨_, rfl, cD qs, cD qs, dx1, dp_same s8 cl7.dp, sh1, sh1, _, congrArg (fun b => V.bl (!b)) eqc, iteF ?_⟩⟩
        refine ⟨_, rfl, w2, cD qs, rfl, by rw [← cs_len]; omega, ct2, fun x2 G9 s9 dx2 => ⟨_, rfl, cD qs, cD qs, dx2, dp_same s9 (dp_same s8 cl7.dp), sh1, sh1, _, congrArg (fun b => V.bl (!b)) eqc, iteF ?_⟩⟩
        have P9 := pen_same (pen_same P7 s8) s9
        have b9 : Pn.But p H2 G9 := (b6.trans b7).trans ((Pn.But.of s8).trans (Pn.But.of s9))
        have lw2 : w2.length = (Rq.cs w2).length := (cs_len w2).symm
        refine ⟨_, rfl, _, rfl, w2, rfl, by rw [sizeLine_eq]; omega, _, _, rfl, rfl, p, l, ns, c4, _, rfl, P9, hlen, by omega, by omega, by omega, fun r Ga r0 r1 Pa ba => ?_⟩
        obtain ⟨n, rfl⟩ := Int.eq_ofNat_of_zero_le r0
        have hn : n ≤ (Rq.cs w2).length := by omega
        have lcut1 : (cutS w2 none (some ((n : Nat) : Int))).length ≤ 700000 := by rw [← cs_len, cut_to hn, List.length_take]; omega
        have lcut2 : (cutS w2 (some ((n : Nat) : Int)) none).length ≤ 700000 := by rw [← cs_len, cut_from hn, List.length_drop]; omega
        refine ⟨_, rfl, _, rfl, _, rfl, w2, rfl, by rw [sizeLine_eq]; omega, _, rfl, by show 4 ≤ sizeLine; rw [sizeLine_eq]; decide, fun l4 n4 => ?_⟩
        have sm4 := same_new (H := Ga) (fun b o e => e) n4 (.lst [.str "?", .str "&", .str ";", .str "-"])
        have P4 := pen_same Pa sm4
        refine ⟨p, l, l4, ns, c4 + 1, [.str "?", .str "&", .str ";", .str "-"], rfl, P4, hlen, by omega, .inl (.inl (.inl upd_same)), by simp, by simp, pen_kept Pa n4, fun x Gb hx Pb bb => ?_⟩
        obtain ⟨ch, hch, rfl⟩ : ∃ ch, ch ∈ ([63, 38, 59, 45] : List Nat) ∧ x = .str ⟨#[ch]⟩ := by
          simp only [List.mem_cons, List.not_mem_nil, or_false] at hx
          rcases hx with rfl | rfl | rfl | rfl
          · exact ⟨63, by decide, rfl⟩
          · exact ⟨38, by decide, rfl⟩
          · exact ⟨59, by decide, rfl⟩
          · exact ⟨45, by decide, rfl⟩
        have l1c : (⟨#[ch]⟩ : Str).length = 1 := rfl
        have lsum : (cutS w2 none (some ((n : Nat) : Int)) ++ (⟨#[ch]⟩ : Str)).length ≤ 700001 := by rw [← cs_len, cs_app, List.length_append, cs_len, cs_len]; omega
        refine ⟨_, _, rfl, rfl, by rw [sizeLine_eq]; omega, _, rfl, _, rfl, _, rfl, w2, rfl, by rw [sizeLine_eq]; omega, _, _, rfl, rfl, by rw [sizeLine_eq]; omega, ?_⟩
        have hX : Rq.cs (cutS w2 none (some ((n : Nat) : Int)) ++ (⟨#[ch]⟩ : Str) ++ cutS w2 (some ((n : Nat) : Int)) none) = (Rq.cs w2).take n ++ ch :: (Rq.cs w2).drop n := by
          rw [cs_app, cs_app, cut_to hn, cut_from hn, List.append_assoc]
          rfl
        have hw := why_odd ct2 hch n hn hX
        refine ⟨_, .int ((n + 1 : Nat) : Int), rfl, .inr ⟨_, rfl, ?_, hw.symm⟩, fun Gc sc => ⟨_, rfl, _, _, rfl, rfl, rfl, _, congrArg (fun b => V.bl (!b)) (decide_eq_true rfl), iteF ?_⟩⟩
        · rw [← cs_len, cs_app, List.length_append, cs_len, cs_len]
          omega
        · exact ⟨_, _, _, _, _, _, _, _, c4 + 1 + 1, rfl, pen_same Pb sc, by omega, ((b9.trans ba).trans (Pn.But.of sm4)).trans (bb.trans (Pn.But.of sc))⟩
    · rintro σ G ⟨v3, v4, v5, v6, v7, v11, v12, v13, c1, rfl, PG, lc1, bG⟩
      refine ⟨_, rfl, p, l, ns, c1, rfl, PG, hlen, by omega, fun u v Gw c3 hu pw lcw Pw bw => ?_⟩
      obtain ⟨t, rfl, sqt⟩ := pw
      refine ⟨t, _, rfl, sqt, rfl, _, _, rfl, _, _, rfl, rfl, ?_⟩
      refine ⟨_, rfl, p, l, ns, c3, 3, rfl, Pw, hlen, by omega, by omega, by omega, fun r G3 r0 r3 P3 b3 => ?_⟩
      obtain ⟨n, rfl⟩ := Int.eq_ofNat_of_zero_le r0
      have lu : u.1.length ≤ 1000 := by
        have k : (Rq.wrongL.all fun u => decide (u.1.length ≤ 1000)) = true := by decide +kernel
        exact of_decide_eq_true (List.all_eq_true.mp k u hu)
      have lsp : (spcs n).length = n := by rw [← cs_len]; exact (spcs_sps n).2
      refine ⟨_, rfl, n, rfl, rfl, by omega, _, rfl, _, _, rfl, rfl, by rw [sizeLine_eq, lsp]; omega, ?_⟩
      have hX : Rq.cs (spcs n ++ u.1) = List.replicate n 32 ++ Rq.cs u.1 := by rw [cs_app]; rfl
      have hw := why_wrong hu hX
      refine ⟨_, .int ((u.2 + n : Nat) : Int), rfl, .inr ⟨_, rfl, ?_, hw.symm⟩, fun G4 s4 => ⟨_, rfl, _, rfl, _, _, rfl, rfl, rfl, _, congrArg (fun b => V.bl (!b)) (decide_eq_true rfl), iteF ?_⟩⟩
      · rw [← cs_len, cs_app, List.length_append, cs_len, cs_len, lsp]
        omega
      · have P4 := pen_same P3 s4
        refine ⟨_, rfl, by show 1 ≤ sizeLine; rw [sizeLine_eq]; decide, fun la na => ⟨Nat.zero_le _, fun tb nb => ⟨by show 5 ≤ sizeLine; rw [sizeLine_eq]; decide, fun lc nc => ?_⟩⟩⟩
        have s1 := same_new (H := G4) (fun b o e => e) na (.lst [.str "p"])
        have m1 : (upd G4 la (.lst [.str "p"])) la = some (.lst [.str "p"]) := upd_same
        generalize upd G4 la (.lst [.str "p"]) = G5 at s1 m1 nb nc ⊢
        have s2 := same_new (H := G5) (fun b o e => e) nb (.tup [])
        have m2 : (upd G5 tb (.tup [])) tb = some (.tup []) := upd_same
        generalize upd G5 tb (.tup []) = G6 at s2 m2 nc ⊢
        have P6 := pen_same (pen_same P4 s1) s2
        have s3 := same_new (H := G6) (fun b o e => e) nc (.lst [.non, .int 5, .ref la, .bl true, .ref tb])
        refine ⟨p, l, lc, ns, c3 + 1, [.non, .int 5, .ref la, .bl true, .ref tb], rfl, pen_same P6 s3, hlen, by omega, .inl (.inl (.inl upd_same)), by simp, by simp, pen_kept P6 nc, fun x G7 hx P7 b7 => ?_⟩
        have lap : la ≠ p := fun z => by
          obtain ⟨⟨_, _, _, ep, _⟩, _⟩ := P4
          rw [z, ep] at na
          cases na
        have nt : NoText K G7 x := by
          simp only [List.mem_cons, List.not_mem_nil, or_false] at hx
          rcases hx with rfl | rfl | rfl | rfl | rfl
          · exact no_non
          · exact no_int 5
          · exact no_lst (b7 _ _ lap (s3 _ _ (s2 _ _ m1)))
          · exact no_bl true
          · exact no_tup ((pen_tk (pen_same P6 s3) b7 _ _).1 (s3 _ _ m2))
        refine ⟨x, .int 0, rfl, .inl ⟨nt, rfl⟩, fun G8 s8 => ⟨rfl, ?_⟩⟩
        rw [decide_eq_true rfl]
        exact q G8
end
end Ad

namespace Ad
open PySem PySem.Spec PySem.Calls PyProof.Rows L2
abbrev sLVar : Stmt := topS 26
theorem scLVar : FnScope ["_law_term"] ["_law_term"] (defScope sLVar) := ⟨rfl, rfl, rfl, by decide +kernel, rfl, by decide +kernel, by decide +kernel⟩
section
variable {P : Program} {w : World} {K : PySem.W.Frag} {mg : Str → Option Value} {base : Heap}
theorem ok_isvar {f : Addr} {fd : FuncData} {k : Nat} (F : Fun K "_law_is_var" "_law_is_var" sLVar f fd) (mi : mg "isinstance" = none) (mI : mg "int" = none) : FnOk P w K mg base CX0 (k + 1) f fd ["_law_term"] (spIsVar K) := by
  refine F.ok scLVar (fun vs H Q E h => ?_) (fun cdv A outer s H vs Q E hr h => ?_)
  · obtain ⟨t, x, rfl, _⟩ := h
    rfl
  · obtain ⟨t, x, rfl, ht, q⟩ := h
    refine ⟨_, pss_one (ps_ret (pe_callB call_isi (by rfl) mi (by decide +kernel) (pa_cons (pv 0) (pa_cons (pe_bltn (v := .ty "int") (by rfl) mI (by decide +kernel) rfl) pa_nil)))), ?_⟩
    cases t with
    | v i =>
      cases (show x = .int i from ht)
      exact ⟨.int i, rfl, _, .ty "int", .type "int", .type "int", true, rfl, .ty "int", .base (.int i), kitII, q⟩
    | f nm ts => exact ⟨x, rfl, _, .ty "int", .type "tuple", .type "int", false, rfl, .ty "int", tm_tuple ht, kitTI, q⟩
end
end Ad

/-! What the head tells, put together. -/
namespace Ad
open PySem PySem.Spec PyProof.Rows L2 GxR
theorem fun_of {K : PySem.W.Frag} {x q : Str} {st : Stmt} {f : Addr} {fd : FuncData} (F : FunD K x q (defArgs st) (defBody st) (defScope st) [] [] f fd) : Fun K x q st f fd := by
  obtain ⟨oc, od, dV, kV, doc, pm, an, cdv, ct, osl, e, lk, code, dfl, _⟩ := F.ex
  rcases dfl with ⟨_, rfl⟩ | ⟨z, _⟩
  · exact ⟨⟨oc, od, kV, doc, pm, an, cdv, ct, osl, e, lk, code⟩, F.kp⟩
  · exact absurd rfl z
theorem funC_of {K : PySem.W.Frag} {x q : Str} {st : Stmt} {p : He.Defn} {fd : FuncData} (F : FunD K x q (defArgs st) (defBody st) (defScope st) [] [] (He.fAd K p) fd) : FunC K x q st (He.fAd K p) (.ref (He.codeOf K p)) fd := by
  obtain ⟨oc, od, dV, kV, doc, pm, an, cdv, ct, osl, e, lk, code, dfl, _⟩ := F.ex
  rcases dfl with ⟨_, rfl⟩ | ⟨z, _⟩
  · obtain ⟨c, rfl⟩ := He.codeIn_ref code
    have e2 : He.codeOf K p = c := He.codeOf_eq lk (by rw [e]; first | done | rfl)
    rw [e2]
    exact ⟨⟨oc, od, kV, doc, pm, an, ct, osl, e, lk, code⟩, F.kp⟩
  · exact absurd rfl z
section
variable {w : World} {K : PySem.W.Frag} {h : Heap} {mg : Str → Option Value} {f : Addr}
theorem facts (X : K.In h) (G : h.Ns mainGlobals mg) (hfa : mg ("law" : Str) = some (.ref f)) (c : He.SaysX faL fnL [] tfL exL w h K) : LawGAt PySem.Challenge.rw_downtoground_k03_whole_texts_of_clauses w K CX0 15 63 "_law_script" mg f h := by
  have cd := c.t.d
  obtain ⟨d17, E17⟩ : ∃ fd, FunD K "_term_text" "_term_text" (defArgs (topS 17)) (defBody (topS 17)) (defScope (topS 17)) [] [] (He.fAd K ("_term_text", none)) fd := cd.def_ 0 (d := dd 17 "_term_text") rfl
  have F17 := fun_of E17
  have g17 : mg "_term_text" = some (.ref (He.fAd K ("_term_text", none))) := He.glo_ok X G (cd.fact 0 (f := .glo "_term_text") rfl)
  have b17 : Binds K d17 ["term"] [] := (fun_of E17).binds fun _ _ _ _ _ _ us hl => match us, hl with | [_], _ => rfl
  obtain ⟨d18, E18⟩ : ∃ fd, FunD K "clause_text" "clause_text" (defArgs (topS 18)) (defBody (topS 18)) (defScope (topS 18)) [] [] (He.fAd K ("clause_text", none)) fd := cd.def_ 1 (d := dd 18 "clause_text") rfl
  have F18 := fun_of E18
  have g18 : mg "clause_text" = some (.ref (He.fAd K ("clause_text", none))) := He.glo_ok X G (cd.fact 1 (f := .glo "clause_text") rfl)
  have b18 : Binds K d18 ["clause"] [] := (fun_of E18).binds fun _ _ _ _ _ _ us hl => match us, hl with | [_], _ => rfl
  obtain ⟨d19, E19⟩ : ∃ fd, FunD K "_literal_text" "_literal_text" (defArgs (topS 19)) (defBody (topS 19)) (defScope (topS 19)) [] [] (He.fAd K ("_literal_text", none)) fd := cd.def_ 2 (d := dd 19 "_literal_text") rfl
  have F19 := fun_of E19
  have g19 : mg "_literal_text" = some (.ref (He.fAd K ("_literal_text", none))) := He.glo_ok X G (cd.fact 2 (f := .glo "_literal_text") rfl)
  have b19 : Binds K d19 ["literal"] [] := (fun_of E19).binds fun _ _ _ _ _ _ us hl => match us, hl with | [_], _ => rfl
  obtain ⟨d20, E20⟩ : ∃ fd, FunD K "clause_of" "clause_of" (defArgs (topS 20)) (defBody (topS 20)) (defScope (topS 20)) [] [] (He.fAd K ("clause_of", none)) fd := cd.def_ 3 (d := dd 20 "clause_of") rfl
  have F20 := fun_of E20
  have g20 : mg "clause_of" = some (.ref (He.fAd K ("clause_of", none))) := He.glo_ok X G (cd.fact 3 (f := .glo "clause_of") rfl)
  have b20 : Binds K d20 ["text"] [] := (fun_of E20).binds fun _ _ _ _ _ _ us hl => match us, hl with | [_], _ => rfl
  obtain ⟨d22, E22⟩ : ∃ fd, FunD K "_law_pen" "_law_pen" (defArgs (topS 22)) (defBody (topS 22)) (defScope (topS 22)) [] [] (He.fAd K ("_law_pen", none)) fd := cd.def_ 4 (d := dd 22 "_law_pen") rfl
  have F22 := fun_of E22
  have g22 : mg "_law_pen" = some (.ref (He.fAd K ("_law_pen", none))) := He.glo_ok X G (cd.fact 4 (f := .glo "_law_pen") rfl)
  have b22 : Binds K d22 ["_law_script"] [] := (fun_of E22).binds fun _ _ _ _ _ _ us hl => match us, hl with | [_], _ => rfl
  obtain ⟨d23, E23⟩ : ∃ fd, FunD K "_law_draw" "_law_draw" (defArgs (topS 23)) (defBody (topS 23)) (defScope (topS 23)) [] [] (He.fAd K ("_law_draw", none)) fd := cd.def_ 5 (d := dd 23 "_law_draw") rfl
  have F23 := fun_of E23
  have g23 : mg "_law_draw" = some (.ref (He.fAd K ("_law_draw", none))) := He.glo_ok X G (cd.fact 5 (f := .glo "_law_draw") rfl)
  have b23 : Binds K d23 ["_law_pen_here", "_law_many"] [] := (fun_of E23).binds fun _ _ _ _ _ _ us hl => match us, hl with | [_, _], _ => rfl
  obtain ⟨d24, E24⟩ : ∃ fd, FunD K "_law_pick" "_law_pick" (defArgs (topS 24)) (defBody (topS 24)) (defScope (topS 24)) [] [] (He.fAd K ("_law_pick", none)) fd := cd.def_ 6 (d := dd 24 "_law_pick") rfl
  have F24 := fun_of E24
  have g24 : mg "_law_pick" = some (.ref (He.fAd K ("_law_pick", none))) := He.glo_ok X G (cd.fact 6 (f := .glo "_law_pick") rfl)
  have b24 : Binds K d24 ["_law_pen_here", "_law_some"] [] := (fun_of E24).binds fun _ _ _ _ _ _ us hl => match us, hl with | [_, _], _ => rfl
  obtain ⟨d25, E25⟩ : ∃ fd, FunD K "_law_drawn_order" "_law_drawn_order" (defArgs (topS 25)) (defBody (topS 25)) (defScope (topS 25)) [] [] (He.fAd K ("_law_drawn_order", none)) fd := cd.def_ 7 (d := dd 25 "_law_drawn_order") rfl
  have F25 := fun_of E25
  have g25 : mg "_law_drawn_order" = some (.ref (He.fAd K ("_law_drawn_order", none))) := He.glo_ok X G (cd.fact 7 (f := .glo "_law_drawn_order") rfl)
  have b25 : Binds K d25 ["_law_pen_here"] [] := (fun_of E25).binds fun _ _ _ _ _ _ us hl => match us, hl with | [_], _ => rfl
  obtain ⟨d26, E26⟩ : ∃ fd, FunD K "_law_is_var" "_law_is_var" (defArgs (topS 26)) (defBody (topS 26)) (defScope (topS 26)) [] [] (He.fAd K ("_law_is_var", none)) fd := cd.def_ 8 (d := dd 26 "_law_is_var") rfl
  have F26 := fun_of E26
  have g26 : mg "_law_is_var" = some (.ref (He.fAd K ("_law_is_var", none))) := He.glo_ok X G (cd.fact 8 (f := .glo "_law_is_var") rfl)
  have b26 : Binds K d26 ["_law_term"] [] := (fun_of E26).binds fun _ _ _ _ _ _ us hl => match us, hl with | [_], _ => rfl
  obtain ⟨d27, E27⟩ : ∃ fd, FunD K "_law_put" "_law_put" (defArgs (topS 27)) (defBody (topS 27)) (defScope (topS 27)) [] [] (He.fAd K ("_law_put", none)) fd := cd.def_ 9 (d := dd 27 "_law_put") rfl
  have F27 := fun_of E27
  have g27 : mg "_law_put" = some (.ref (He.fAd K ("_law_put", none))) := He.glo_ok X G (cd.fact 9 (f := .glo "_law_put") rfl)
  have b27 : Binds K d27 ["_law_term", "_law_known"] [] := (fun_of E27).binds fun _ _ _ _ _ _ us hl => match us, hl with | [_, _], _ => rfl
  obtain ⟨d28, E28⟩ : ∃ fd, FunD K "_law_put_clause" "_law_put_clause" (defArgs (topS 28)) (defBody (topS 28)) (defScope (topS 28)) [] [] (He.fAd K ("_law_put_clause", none)) fd := cd.def_ 10 (d := dd 28 "_law_put_clause") rfl
  have F28 := fun_of E28
  have g28 : mg "_law_put_clause" = some (.ref (He.fAd K ("_law_put_clause", none))) := He.glo_ok X G (cd.fact 10 (f := .glo "_law_put_clause") rfl)
  have b28 : Binds K d28 ["_law_clause", "_law_known"] [] := (fun_of E28).binds fun _ _ _ _ _ _ us hl => match us, hl with | [_, _], _ => rfl
  obtain ⟨d29, E29⟩ : ∃ fd, FunD K "_law_drawn_term" "_law_drawn_term" (defArgs (topS 29)) (defBody (topS 29)) (defScope (topS 29)) [] [] (He.fAd K ("_law_drawn_term", none)) fd := cd.def_ 11 (d := dd 29 "_law_drawn_term") rfl
  have F29 := fun_of E29
  have g29 : mg "_law_drawn_term" = some (.ref (He.fAd K ("_law_drawn_term", none))) := He.glo_ok X G (cd.fact 11 (f := .glo "_law_drawn_term") rfl)
  have b29 : Binds K d29 ["_law_pen_here", "_law_rows", "_law_deep", "_law_variables"] [] := (fun_of E29).binds fun _ _ _ _ _ _ us hl => match us, hl with | [_, _, _, _], _ => rfl
  obtain ⟨d30, E30⟩ : ∃ fd, FunD K "_law_drawn_atom" "_law_drawn_atom" (defArgs (topS 30)) (defBody (topS 30)) (defScope (topS 30)) [] [] (He.fAd K ("_law_drawn_atom", none)) fd := cd.def_ 12 (d := dd 30 "_law_drawn_atom") rfl
  have F30 := fun_of E30
  have g30 : mg "_law_drawn_atom" = some (.ref (He.fAd K ("_law_drawn_atom", none))) := He.glo_ok X G (cd.fact 12 (f := .glo "_law_drawn_atom") rfl)
  have b30 : Binds K d30 ["_law_pen_here", "_law_rows", "_law_deep", "_law_variables"] [] := (fun_of E30).binds fun _ _ _ _ _ _ us hl => match us, hl with | [_, _, _, _], _ => rfl
  obtain ⟨d31, E31⟩ : ∃ fd, FunD K "_law_drawn_literal" "_law_drawn_literal" (defArgs (topS 31)) (defBody (topS 31)) (defScope (topS 31)) [] [] (He.fAd K ("_law_drawn_literal", none)) fd := cd.def_ 13 (d := dd 31 "_law_drawn_literal") rfl
  have F31 := fun_of E31
  have g31 : mg "_law_drawn_literal" = some (.ref (He.fAd K ("_law_drawn_literal", none))) := He.glo_ok X G (cd.fact 13 (f := .glo "_law_drawn_literal") rfl)
  have b31 : Binds K d31 ["_law_pen_here", "_law_rows", "_law_deep", "_law_variables"] [] := (fun_of E31).binds fun _ _ _ _ _ _ us hl => match us, hl with | [_, _, _, _], _ => rfl
  obtain ⟨d32, E32⟩ : ∃ fd, FunD K "_law_gap" "_law_gap" (defArgs (topS 32)) (defBody (topS 32)) (defScope (topS 32)) [] [] (He.fAd K ("_law_gap", none)) fd := cd.def_ 14 (d := dd 32 "_law_gap") rfl
  have F32 := fun_of E32
  have g32 : mg "_law_gap" = some (.ref (He.fAd K ("_law_gap", none))) := He.glo_ok X G (cd.fact 14 (f := .glo "_law_gap") rfl)
  have b32 : Binds K d32 ["_law_pen_here"] [] := (fun_of E32).binds fun _ _ _ _ _ _ us hl => match us, hl with | [_], _ => rfl
  obtain ⟨d33, E33⟩ : ∃ fd, FunD K "_law_loose" "_law_loose" (defArgs (topS 33)) (defBody (topS 33)) (defScope (topS 33)) [] [] (He.fAd K ("_law_loose", none)) fd := cd.def_ 15 (d := dd 33 "_law_loose") rfl
  have F33 := fun_of E33
  have g33 : mg "_law_loose" = some (.ref (He.fAd K ("_law_loose", none))) := He.glo_ok X G (cd.fact 15 (f := .glo "_law_loose") rfl)
  have b33 : Binds K d33 ["_law_pen_here"] [] := (fun_of E33).binds fun _ _ _ _ _ _ us hl => match us, hl with | [_], _ => rfl
  obtain ⟨d34, E34⟩ : ∃ fd, FunD K "_law_relation" "_law_relation" (defArgs (topS 34)) (defBody (topS 34)) (defScope (topS 34)) [] [] (He.fAd K ("_law_relation", none)) fd := cd.def_ 16 (d := dd 34 "_law_relation") rfl
  have F34 := fun_of E34
  have g34 : mg "_law_relation" = some (.ref (He.fAd K ("_law_relation", none))) := He.glo_ok X G (cd.fact 16 (f := .glo "_law_relation") rfl)
  have b34 : Binds K d34 ["_law_pen_here", "_law_sign"] [] := (fun_of E34).binds fun _ _ _ _ _ _ us hl => match us, hl with | [_, _], _ => rfl
  obtain ⟨d35, E35⟩ : ∃ fd, FunD K "_law_why" "_law_why" (defArgs (topS 35)) (defBody (topS 35)) (defScope (topS 35)) [] [] (He.fAd K ("_law_why", none)) fd := cd.def_ 17 (d := dd 35 "_law_why") rfl
  have F35 := fun_of E35
  have g35 : mg "_law_why" = some (.ref (He.fAd K ("_law_why", none))) := He.glo_ok X G (cd.fact 17 (f := .glo "_law_why") rfl)
  have b35 : Binds K d35 ["_law_text_here"] [] := (fun_of E35).binds fun _ _ _ _ _ _ us hl => match us, hl with | [_], _ => rfl
  obtain ⟨d36, E36⟩ : ∃ fd, FunD K "_law_term_text" "_law_term_text" (defArgs (topS 36)) (defBody (topS 36)) (defScope (topS 36)) [] [] (He.fAd K ("_law_term_text", none)) fd := cd.def_ 18 (d := dd 36 "_law_term_text") rfl
  have F36 := fun_of E36
  have g36 : mg "_law_term_text" = some (.ref (He.fAd K ("_law_term_text", none))) := He.glo_ok X G (cd.fact 18 (f := .glo "_law_term_text") rfl)
  have b36 : Binds K d36 ["_law_pen_here", "_law_term"] [] := (fun_of E36).binds fun _ _ _ _ _ _ us hl => match us, hl with | [_, _], _ => rfl
  obtain ⟨d37, E37⟩ : ∃ fd, FunD K "_law_literal_text" "_law_literal_text" (defArgs (topS 37)) (defBody (topS 37)) (defScope (topS 37)) [] [] (He.fAd K ("_law_literal_text", none)) fd := cd.def_ 19 (d := dd 37 "_law_literal_text") rfl
  have F37 := fun_of E37
  have g37 : mg "_law_literal_text" = some (.ref (He.fAd K ("_law_literal_text", none))) := He.glo_ok X G (cd.fact 19 (f := .glo "_law_literal_text") rfl)
  have b37 : Binds K d37 ["_law_pen_here", "_law_literal"] [] := (fun_of E37).binds fun _ _ _ _ _ _ us hl => match us, hl with | [_, _], _ => rfl
  obtain ⟨d38, E38⟩ : ∃ fd, FunD K "_law_text" "_law_text" (defArgs (topS 38)) (defBody (topS 38)) (defScope (topS 38)) [] [] (He.fAd K ("_law_text", none)) fd := cd.def_ 20 (d := dd 38 "_law_text") rfl
  have F38 := fun_of E38
  have g38 : mg "_law_text" = some (.ref (He.fAd K ("_law_text", none))) := He.glo_ok X G (cd.fact 20 (f := .glo "_law_text") rfl)
  have b38 : Binds K d38 ["_law_pen_here", "_law_clause"] [] := (fun_of E38).binds fun _ _ _ _ _ _ us hl => match us, hl with | [_, _], _ => rfl
  obtain ⟨d39, E39⟩ : ∃ fd, FunD K "_law_drawn" "_law_drawn" (defArgs (topS 39)) (defBody (topS 39)) (defScope (topS 39)) [] [] (He.fAd K ("_law_drawn", none)) fd := cd.def_ 21 (d := dd 39 "_law_drawn") rfl
  have F39 := fun_of E39
  have g39 : mg "_law_drawn" = some (.ref (He.fAd K ("_law_drawn", none))) := He.glo_ok X G (cd.fact 21 (f := .glo "_law_drawn") rfl)
  have b39 : Binds K d39 ["_law_pen_here", "_law_rows"] [] := (fun_of E39).binds fun _ _ _ _ _ _ us hl => match us, hl with | [_, _], _ => rfl
  obtain ⟨d40, E40⟩ : ∃ fd, FunD K "_law_wrong" "_law_wrong" (defArgs (topS 40)) (defBody (topS 40)) (defScope (topS 40)) [] [] (He.fAd K ("_law_wrong", none)) fd := cd.def_ 22 (d := dd 40 "_law_wrong") rfl
  have F40 := fun_of E40
  have g40 : mg "_law_wrong" = some (.ref (He.fAd K ("_law_wrong", none))) := He.glo_ok X G (cd.fact 22 (f := .glo "_law_wrong") rfl)
  have b40 : Binds K d40 ["_law_pen_here"] [] := (fun_of E40).binds fun _ _ _ _ _ _ us hl => match us, hl with | [_], _ => rfl
  obtain ⟨d41, E41⟩ : ∃ fd, FunD K "law" "law" (defArgs (topS 41)) (defBody (topS 41)) (defScope (topS 41)) [] [] (He.fAd K ("law", none)) fd := cd.def_ 23 (d := dd 41 "law") rfl
  have F41 := fun_of E41
  have g41 : mg "law" = some (.ref (He.fAd K ("law", none))) := He.glo_ok X G (cd.fact 23 (f := .glo "law") rfl)
  have b41 : Binds K d41 ["_law_script"] [] := (fun_of E41).binds fun _ _ _ _ _ _ us hl => match us, hl with | [_], _ => rfl
  obtain ⟨dBT, EBT⟩ : ∃ fd, FunD K "__init__" "BadText.__init__" (defArgs sBtInit) (defBody sBtInit) (defScope sBtInit) [] [] (He.fAd K ("BadText", some "__init__")) fd := cd.def_ 24 (d := ddBT) rfl
  have FBT := fun_of EBT
  have bBT : Binds K dBT ["self", "column"] [] := (fun_of EBT).binds fun _ _ _ _ _ _ us hl => match us, hl with | [_, _], _ => rfl
  obtain ⟨dRI, ERI⟩ : ∃ fd, FunD K "__init__" "Reader.__init__" (defArgs sRdInit) (defBody sRdInit) (defScope sRdInit) [] [] (He.fAd K ("ClauseReader", some "__init__")) fd := cd.def_ 25 (d := ddRI) rfl
  have FRI := fun_of ERI
  have bRI : Binds K dRI ["self", "text"] [] := (fun_of ERI).binds fun _ _ _ _ _ _ us hl => match us, hl with | [_, _], _ => rfl
  obtain ⟨dSG, ESG⟩ : ∃ fd, FunD K "sign" "Reader.sign" (defArgs sRdSign) (defBody sRdSign) (defScope sRdSign) [] [] (He.fAd K ("ClauseReader", some "sign")) fd := cd.def_ 26 (d := ddSG) rfl
  have FSG := fun_of ESG
  have bSG : Binds K dSG ["self"] [] := (fun_of ESG).binds fun _ _ _ _ _ _ us hl => match us, hl with | [_], _ => rfl
  obtain ⟨dNX, ENX⟩ : ∃ fd, FunD K "next_sign" "Reader.next_sign" (defArgs sRdNext) (defBody sRdNext) (defScope sRdNext) [] [] (He.fAd K ("ClauseReader", some "next_sign")) fd := cd.def_ 27 (d := ddNX) rfl
  have FNX := fun_of ENX
  have bNX : Binds K dNX ["self"] [] := (fun_of ENX).binds fun _ _ _ _ _ _ us hl => match us, hl with | [_], _ => rfl
  obtain ⟨dIA, EIA⟩ : ∃ fd, FunD K "is_at" "Reader.is_at" (defArgs sRdIsAt) (defBody sRdIsAt) (defScope sRdIsAt) [] [] (He.fAd K ("ClauseReader", some "is_at")) fd := cd.def_ 28 (d := ddIA) rfl
  have FIA := fun_of EIA
  have bIA : Binds K dIA ["self", "signs"] [] := (fun_of EIA).binds fun _ _ _ _ _ _ us hl => match us, hl with | [_, _], _ => rfl
  obtain ⟨dTA, ETA⟩ : ∃ fd, FunD K "take" "Reader.take" (defArgs sRdTake) (defBody sRdTake) (defScope sRdTake) [] [] (He.fAd K ("ClauseReader", some "take")) fd := cd.def_ 29 (d := ddTA) rfl
  have FTA := fun_of ETA
  have bTA : Binds K dTA ["self", "sign"] [] := (fun_of ETA).binds fun _ _ _ _ _ _ us hl => match us, hl with | [_, _], _ => rfl
  obtain ⟨dEW, EEW⟩ : ∃ fd, FunD K "end_word" "Reader.end_word" (defArgs sRdEnd) (defBody sRdEnd) (defScope sRdEnd) [] [] (He.fAd K ("ClauseReader", some "end_word")) fd := cd.def_ 30 (d := ddEW) rfl
  have FEW := fun_of EEW
  have bEW : Binds K dEW ["self"] [] := (fun_of EEW).binds fun _ _ _ _ _ _ us hl => match us, hl with | [_], _ => rfl
  obtain ⟨dRU, ERU⟩ : ∃ fd, FunD K "run" "Reader.run" (defArgs sRdRun) (defBody sRdRun) (defScope sRdRun) [] [] (He.fAd K ("ClauseReader", some "run")) fd := cd.def_ 31 (d := ddRU) rfl
  have FRU := fun_of ERU
  have bRU : Binds K dRU ["self", "signs", "most"] [] := (fun_of ERU).binds fun _ _ _ _ _ _ us hl => match us, hl with | [_, _, _], _ => rfl
  obtain ⟨dSM, ESM⟩ : ∃ fd, FunD K "small_word" "Reader.small_word" (defArgs sRdSmall) (defBody sRdSmall) (defScope sRdSmall) [] [] (He.fAd K ("ClauseReader", some "small_word")) fd := cd.def_ 32 (d := ddSM) rfl
  have FSM := fun_of ESM
  have bSM : Binds K dSM ["self"] [] := (fun_of ESM).binds fun _ _ _ _ _ _ us hl => match us, hl with | [_], _ => rfl
  obtain ⟨dNO, ENO⟩ : ∃ fd, FunD K "name_of" "Reader.name_of" (defArgs sRdName) (defBody sRdName) (defScope sRdName) [] [] (He.fAd K ("ClauseReader", some "name_of")) fd := cd.def_ 33 (d := ddNO) rfl
  have FNO := fun_of ENO
  have bNO : Binds K dNO ["self", "word"] [] := (fun_of ENO).binds fun _ _ _ _ _ _ us hl => match us, hl with | [_, _], _ => rfl
  obtain ⟨dHE, EHE⟩ : ∃ fd, FunD K "head" "Reader.head" (defArgs sRdHead) (defBody sRdHead) (defScope sRdHead) [] [] (He.fAd K ("ClauseReader", some "head")) fd := cd.def_ 34 (d := ddHE) rfl
  have FHE := fun_of EHE
  have bHE : Binds K dHE ["self"] [] := (fun_of EHE).binds fun _ _ _ _ _ _ us hl => match us, hl with | [_], _ => rfl
  obtain ⟨dWH, EWH⟩ : ∃ fd, FunD K "whole" "Reader.whole" (defArgs sRdWhole) (defBody sRdWhole) (defScope sRdWhole) [] [] (He.fAd K ("ClauseReader", some "whole")) fd := cd.def_ 35 (d := ddWH) rfl
  have FWH := fun_of EWH
  have bWH : Binds K dWH ["self", "part"] [] := (fun_of EWH).binds fun _ _ _ _ _ _ us hl => match us, hl with | [_, _], _ => rfl
  obtain ⟨dHA, EHA⟩ : ∃ fd, FunD K "has_arguments" "Reader.has_arguments" (defArgs sRdHas) (defBody sRdHas) (defScope sRdHas) [] [] (He.fAd K ("ClauseReader", some "has_arguments")) fd := cd.def_ 36 (d := ddHA) rfl
  have FHA := fun_of EHA
  have bHA : Binds K dHA ["self", "part"] [] := (fun_of EHA).binds fun _ _ _ _ _ _ us hl => match us, hl with | [_, _], _ => rfl
  obtain ⟨dGR, EGR⟩ : ∃ fd, FunD K "great" "ClauseReader.great" (defArgs sCrGreat) (defBody sCrGreat) (defScope sCrGreat) [] [] (He.fAd K ("ClauseReader", some "great")) fd := cd.def_ 37 (d := ddGR) rfl
  have FGR := fun_of EGR
  have bGR : Binds K dGR ["self"] [] := (fun_of EGR).binds fun _ _ _ _ _ _ us hl => match us, hl with | [_], _ => rfl
  obtain ⟨dSB, ESB⟩ : ∃ fd, FunD K "side_behind" "ClauseReader.side_behind" (defArgs sCrSideB) (defBody sCrSideB) (defScope sCrSideB) [] [] (He.fAd K ("ClauseReader", some "side_behind")) fd := cd.def_ 38 (d := ddSB) rfl
  have FSB := fun_of ESB
  have bSB : Binds K dSB ["self", "word"] [] := (fun_of ESB).binds fun _ _ _ _ _ _ us hl => match us, hl with | [_, _], _ => rfl
  obtain ⟨dSI, ESI⟩ : ∃ fd, FunD K "side" "ClauseReader.side" (defArgs sCrSide) (defBody sCrSide) (defScope sCrSide) [] [] (He.fAd K ("ClauseReader", some "side")) fd := cd.def_ 39 (d := ddSI) rfl
  have FSI := fun_of ESI
  have bSI : Binds K dSI ["self"] [] := (fun_of ESI).binds fun _ _ _ _ _ _ us hl => match us, hl with | [_], _ => rfl
  obtain ⟨dEQ, EEQ⟩ : ∃ fd, FunD K "equation" "ClauseReader.equation" (defArgs sCrEqn) (defBody sCrEqn) (defScope sCrEqn) [] [] (He.fAd K ("ClauseReader", some "equation")) fd := cd.def_ 40 (d := ddEQ) rfl
  have FEQ := fun_of EEQ
  have bEQ : Binds K dEQ ["self", "left"] [] := (fun_of EEQ).binds fun _ _ _ _ _ _ us hl => match us, hl with | [_, _], _ => rfl
  obtain ⟨dET, EET⟩ : ∃ fd, FunD K "end_text" "ClauseReader.end_text" (defArgs sCrEnd) (defBody sCrEnd) (defScope sCrEnd) [] [] (He.fAd K ("ClauseReader", some "end_text")) fd := cd.def_ 41 (d := ddET) rfl
  have FET := fun_of EET
  have bET : Binds K dET ["self"] [] := (fun_of EET).binds fun _ _ _ _ _ _ us hl => match us, hl with | [_], _ => rfl
  obtain ⟨dLI, ELI⟩ : ∃ fd, FunD K "literal" "ClauseReader.literal" (defArgs sCrLit) (defBody sCrLit) (defScope sCrLit) [] [] (He.fAd K ("ClauseReader", some "literal")) fd := cd.def_ 42 (d := ddLI) rfl
  have FLI := fun_of ELI
  have bLI : Binds K dLI ["self"] [] := (fun_of ELI).binds fun _ _ _ _ _ _ us hl => match us, hl with | [_], _ => rfl
  obtain ⟨dCL, ECL⟩ : ∃ fd, FunD K "clause" "ClauseReader.clause" (defArgs sCrClause) (defBody sCrClause) (defScope sCrClause) [] [] (He.fAd K ("ClauseReader", some "clause")) fd := cd.def_ 43 (d := ddCL) rfl
  have FCL := fun_of ECL
  have bCL : Binds K dCL ["self"] [] := (fun_of ECL).binds fun _ _ _ _ _ _ us hl => match us, hl with | [_], _ => rfl
  have m_isinstance : mg "isinstance" = none := He.free_ok X G (cd.fact 24 (f := .free "isinstance") rfl)
  have m_int : mg "int" = none := He.free_ok X G (cd.fact 25 (f := .free "int") rfl)
  have m_list : mg "list" = none := He.free_ok X G (cd.fact 26 (f := .free "list") rfl)
  have m_tuple : mg "tuple" = none := He.free_ok X G (cd.fact 27 (f := .free "tuple") rfl)
  have m_len : mg "len" = none := He.free_ok X G (cd.fact 28 (f := .free "len") rfl)
  have m_str : mg "str" = none := He.free_ok X G (cd.fact 29 (f := .free "str") rfl)
  have m_range : mg "range" = none := He.free_ok X G (cd.fact 30 (f := .free "range") rfl)
  have gClauseReader : mg "ClauseReader" = some (.ref (He.ga K "ClauseReader")) := He.glo_ok X G (cd.fact 31 (f := .glo "ClauseReader") rfl)
  have gBadText : mg "BadText" = some (.ref (He.ga K "BadText")) := He.glo_ok X G (cd.fact 32 (f := .glo "BadText") rfl)
  have gYES : mg "YES" = some (.ref (He.ga K "YES")) := He.glo_ok X G (cd.fact 33 (f := .glo "YES") rfl)
  have gNO_NAMES : mg "NO_NAMES" = some (.ref (He.ga K "NO_NAMES")) := He.glo_ok X G (cd.fact 34 (f := .glo "NO_NAMES") rfl)
  have cls : Cls K (He.ga K "ClauseReader") := He.cls_ok (cd.fact 35 (f := .cls "ClauseReader") rfl)
  have MK : L2.Mk K (He.ga K "ClauseReader") (He.fAd K ("ClauseReader", some "__init__")) := He.mkr_ok (cd.fact 36 (f := .mkr "ClauseReader") rfl)
  have nt : NoAttr K (He.ga K "ClauseReader") "text" := He.noat_ok (cd.fact 37 (f := .noat "ClauseReader" "text") rfl)
  have ns : NoAttr K (He.ga K "ClauseReader") "spot" := He.noat_ok (cd.fact 38 (f := .noat "ClauseReader" "spot") rfl)
  have mtSG : Meth K (He.ga K "ClauseReader") "sign" (He.fAd K ("ClauseReader", some "sign")) := He.meth_ok (cd.fact 39 (f := .meth "ClauseReader" "sign") rfl)
  have mtNX : Meth K (He.ga K "ClauseReader") "next_sign" (He.fAd K ("ClauseReader", some "next_sign")) := He.meth_ok (cd.fact 40 (f := .meth "ClauseReader" "next_sign") rfl)
  have mtIA : Meth K (He.ga K "ClauseReader") "is_at" (He.fAd K ("ClauseReader", some "is_at")) := He.meth_ok (cd.fact 41 (f := .meth "ClauseReader" "is_at") rfl)
  have mtTA : Meth K (He.ga K "ClauseReader") "take" (He.fAd K ("ClauseReader", some "take")) := He.meth_ok (cd.fact 42 (f := .meth "ClauseReader" "take") rfl)
  have mtEW : Meth K (He.ga K "ClauseReader") "end_word" (He.fAd K ("ClauseReader", some "end_word")) := He.meth_ok (cd.fact 43 (f := .meth "ClauseReader" "end_word") rfl)
  have mtRU : Meth K (He.ga K "ClauseReader") "run" (He.fAd K ("ClauseReader", some "run")) := He.meth_ok (cd.fact 44 (f := .meth "ClauseReader" "run") rfl)
  have mtSM : Meth K (He.ga K "ClauseReader") "small_word" (He.fAd K ("ClauseReader", some "small_word")) := He.meth_ok (cd.fact 45 (f := .meth "ClauseReader" "small_word") rfl)
  have mtNO : Meth K (He.ga K "ClauseReader") "name_of" (He.fAd K ("ClauseReader", some "name_of")) := He.meth_ok (cd.fact 46 (f := .meth "ClauseReader" "name_of") rfl)
  have mtHE : Meth K (He.ga K "ClauseReader") "head" (He.fAd K ("ClauseReader", some "head")) := He.meth_ok (cd.fact 47 (f := .meth "ClauseReader" "head") rfl)
  have mtWH : Meth K (He.ga K "ClauseReader") "whole" (He.fAd K ("ClauseReader", some "whole")) := He.meth_ok (cd.fact 48 (f := .meth "ClauseReader" "whole") rfl)
  have mtHA : Meth K (He.ga K "ClauseReader") "has_arguments" (He.fAd K ("ClauseReader", some "has_arguments")) := He.meth_ok (cd.fact 49 (f := .meth "ClauseReader" "has_arguments") rfl)
  have mtGR : Meth K (He.ga K "ClauseReader") "great" (He.fAd K ("ClauseReader", some "great")) := He.meth_ok (cd.fact 50 (f := .meth "ClauseReader" "great") rfl)
  have mtSB : Meth K (He.ga K "ClauseReader") "side_behind" (He.fAd K ("ClauseReader", some "side_behind")) := He.meth_ok (cd.fact 51 (f := .meth "ClauseReader" "side_behind") rfl)
  have mtSI : Meth K (He.ga K "ClauseReader") "side" (He.fAd K ("ClauseReader", some "side")) := He.meth_ok (cd.fact 52 (f := .meth "ClauseReader" "side") rfl)
  have mtEQ : Meth K (He.ga K "ClauseReader") "equation" (He.fAd K ("ClauseReader", some "equation")) := He.meth_ok (cd.fact 53 (f := .meth "ClauseReader" "equation") rfl)
  have mtET : Meth K (He.ga K "ClauseReader") "end_text" (He.fAd K ("ClauseReader", some "end_text")) := He.meth_ok (cd.fact 54 (f := .meth "ClauseReader" "end_text") rfl)
  have mtLI : Meth K (He.ga K "ClauseReader") "literal" (He.fAd K ("ClauseReader", some "literal")) := He.meth_ok (cd.fact 55 (f := .meth "ClauseReader" "literal") rfl)
  have mtCL : Meth K (He.ga K "ClauseReader") "clause" (He.fAd K ("ClauseReader", some "clause")) := He.meth_ok (cd.fact 56 (f := .meth "ClauseReader" "clause") rfl)
  have xB : PySem.W.exmOne K (.ref (He.ga K "BadText")) (.ref (He.ga K "BadText")) = some true := He.exm_ok (cd.fact 57 (f := .exm "BadText" "BadText" true) rfl)
  have sLOWER : ∃ t, mg "LOWER" = some (.str Rq.LOWER t) := He.str_ok X G (cd.fact 58 (f := .str "LOWER" Rq.LOWER) rfl)
  have sUPPER : ∃ t, mg "UPPER" = some (.str Rq.UPPER t) := He.str_ok X G (cd.fact 59 (f := .str "UPPER" Rq.UPPER) rfl)
  have sDIGITS : ∃ t, mg "DIGITS" = some (.str Rq.DIGITS t) := He.str_ok X G (cd.fact 60 (f := .str "DIGITS" Rq.DIGITS) rfl)
  have sWORD_SIGNS : ∃ t, mg "WORD_SIGNS" = some (.str Rq.WORD t) := He.str_ok X G (cd.fact 61 (f := .str "WORD_SIGNS" Rq.WORD) rfl)
  have iLONGEST_NAME : ∃ t, mg "LONGEST_NAME" = some (.int 12 t) := He.int_ok X G (cd.fact 62 (f := .int "LONGEST_NAME" 12) rfl)
  have iMOST_DIGITS : ∃ t, mg "MOST_DIGITS" = some (.int 7 t) := He.int_ok X G (cd.fact 63 (f := .int "MOST_DIGITS" 7) rfl)
  have law0 : f = He.fAd K ("law", none) := by
    have e := hfa.symm.trans g41
    cases e
    rfl
  subst law0
  obtain ⟨hEr, hB2⟩ := Bool.and_eq_true_iff.mp (show (erB K (He.ga K "BadText") (He.fAd K ("BadText", some "__init__")) "column" && (He.tupB K "YES" [.str "yes"] && He.tupB K "NO_NAMES" [.str "all", .str "some", .str "not", .str "and", .str "or", .str "then", .str "same", .str "yes"])) = true from c.more)
  obtain ⟨hYB, hNB⟩ := Bool.and_eq_true_iff.mp hB2
  have TR : Er K (He.ga K "BadText") (He.fAd K ("BadText", some "__init__")) "column" := erB_ok hEr
  have hY : ∀ H : Hp, SqT K H (He.ga K "YES") [.str "yes"] := fun H => He.tupB_ok hYB H
  have hN : ∀ H : Hp, SqT K H (He.ga K "NO_NAMES") (Rq.NO.map V.str) := fun H => He.tupB_ok hNB H
  have rc : RdC K (He.ga K "ClauseReader") := ⟨cls, nt, ns⟩
  obtain ⟨tL, eL⟩ := sLOWER
  obtain ⟨tU, eU⟩ := sUPPER
  obtain ⟨tD, eD⟩ := sDIGITS
  obtain ⟨tW, eW⟩ := sWORD_SIGNS
  obtain ⟨tLN, eLN⟩ := iLONGEST_NAME
  obtain ⟨tMD, eMD⟩ := iMOST_DIGITS
  have gsL : Gs mg "LOWER" (.str Rq.LOWER) := ⟨_, eL, _, rfl⟩
  have gsU : Gs mg "UPPER" (.str Rq.UPPER) := ⟨_, eU, _, rfl⟩
  have gsD : Gs mg "DIGITS" (.str Rq.DIGITS) := ⟨_, eD, _, rfl⟩
  have gsW : Gs mg "WORD_SIGNS" (.str Rq.WORD) := ⟨_, eW, _, rfl⟩
  have giN : Gs mg "LONGEST_NAME" (.int 12) := ⟨_, eLN, _, rfl⟩
  have giM : Gs mg "MOST_DIGITS" (.int 7) := ⟨_, eMD, _, rfl⟩
  refine ⟨d41, [], spLaw K, ?_, ?_, ?_, ?_, ?_, ?_⟩
  · intro p hp
    cases hp
  · intro p hp
    cases hp
  · intro p hp
    cases hp
  · exact fun s v => FunD.bindsA (ps := ["_law_script"]) E41 (fun _ _ _ _ _ _ us hl => match us, hl with | [_], _ => rfl) s [v] rfl
  · intro H a ns few tabs seq
    exact ⟨a, ns, rfl, seq, few, fun _ => rfl⟩
  · intro base inB nsB tb
    have GBT : FnOk PySem.Challenge.rw_downtoground_k03_whole_texts_of_clauses.prog w K mg base CX0 1 _ dBT ["self", "column"] (spEr (He.ga K "BadText") "column") := ok_btinit FBT TR
    have BF : BtF PySem.Challenge.rw_downtoground_k03_whole_texts_of_clauses.prog w K mg base (He.ga K "BadText") _ dBT := ⟨TR, GBT, gBadText, bBT⟩
    have GRI : FnOk PySem.Challenge.rw_downtoground_k03_whole_texts_of_clauses.prog w K mg base CX0 1 _ dRI ["self", "text"] (spRInit (He.ga K "ClauseReader")) := ok_rdinit FRI rc
    have GSG : FnOk PySem.Challenge.rw_downtoground_k03_whole_texts_of_clauses.prog w K mg base CX0 1 _ dSG ["self"] (spSign (He.ga K "ClauseReader")) := ok_rdsign FSG rc
    have GNX : FnOk PySem.Challenge.rw_downtoground_k03_whole_texts_of_clauses.prog w K mg base CX0 2 _ dNX ["self"] (spNext (He.ga K "ClauseReader")) := ok_rdnext FNX rc mtSG GSG bSG
    have GIA : FnOk PySem.Challenge.rw_downtoground_k03_whole_texts_of_clauses.prog w K mg base CX0 2 _ dIA ["self", "signs"] (spIsAt (He.ga K "ClauseReader")) := ok_rdisat FIA rc mtSG GSG bSG
    have GTA : FnOk PySem.Challenge.rw_downtoground_k03_whole_texts_of_clauses.prog w K mg base (L2.CX PySem.Challenge.rw_downtoground_k03_whole_texts_of_clauses.prog w) 3 _ dTA ["self", "sign"] (spTake (He.ga K "ClauseReader") (He.ga K "BadText")) := ok_rdtake FTA rc mtSG GSG bSG BF
    have GEW : FnOk PySem.Challenge.rw_downtoground_k03_whole_texts_of_clauses.prog w K mg base (L2.CX PySem.Challenge.rw_downtoground_k03_whole_texts_of_clauses.prog w) 3 _ dEW ["self"] (spEndW (He.ga K "ClauseReader") (He.ga K "BadText")) := ok_rdend FEW rc mtIA GIA bIA BF gsW
    have GRU : FnOk PySem.Challenge.rw_downtoground_k03_whole_texts_of_clauses.prog w K mg base (L2.CX PySem.Challenge.rw_downtoground_k03_whole_texts_of_clauses.prog w) 4 _ dRU ["self", "signs", "most"] (spRun (He.ga K "ClauseReader") (He.ga K "BadText")) := ok_rdrun FRU rc mtIA GIA bIA mtEW GEW bEW
    have GSM : FnOk PySem.Challenge.rw_downtoground_k03_whole_texts_of_clauses.prog w K mg base (L2.CX PySem.Challenge.rw_downtoground_k03_whole_texts_of_clauses.prog w) 5 _ dSM ["self"] (spSmall (He.ga K "ClauseReader") (He.ga K "BadText")) := ok_rdsmall FSM rc mtIA GIA bIA mtRU GRU bRU BF gsL gsD giN
    have GNO : FnOk PySem.Challenge.rw_downtoground_k03_whole_texts_of_clauses.prog w K mg base (L2.CX PySem.Challenge.rw_downtoground_k03_whole_texts_of_clauses.prog w) 3 _ dNO ["self", "word"] (spNameOf (He.ga K "ClauseReader") (He.ga K "BadText")) := ok_rdname FNO rc BF gNO_NAMES hN
    have GGR : FnOk PySem.Challenge.rw_downtoground_k03_whole_texts_of_clauses.prog w K mg base (L2.CX PySem.Challenge.rw_downtoground_k03_whole_texts_of_clauses.prog w) 5 _ dGR ["self"] (spGreat K (He.ga K "ClauseReader") (He.ga K "BadText") Rq.greatC) := ok_crgreat FGR rc mtTA GTA bTA mtIA GIA bIA mtRU GRU bRU mtSG GSG bSG BF gsD giM m_int
    have GHE : FnOk PySem.Challenge.rw_downtoground_k03_whole_texts_of_clauses.prog w K mg base (L2.CX PySem.Challenge.rw_downtoground_k03_whole_texts_of_clauses.prog w) 6 _ dHE ["self"] (spGreat K (He.ga K "ClauseReader") (He.ga K "BadText") (Rq.head Rq.greatC)) := ok_rdhead FHE rc mtNX GNX bNX mtIA GIA bIA mtGR GGR bGR mtNO GNO bNO mtSM GSM bSM gsU
    have GHA : FnOk PySem.Challenge.rw_downtoground_k03_whole_texts_of_clauses.prog w K mg base CX0 3 _ dHA ["self", "part"] (spHas K (He.ga K "ClauseReader")) := ok_rdhas FHA rc mtNX GNX bNX m_isinstance m_tuple m_len
    have GWH : FnOk PySem.Challenge.rw_downtoground_k03_whole_texts_of_clauses.prog w K mg base (L2.CX PySem.Challenge.rw_downtoground_k03_whole_texts_of_clauses.prog w) 7 _ dWH ["self", "part"] (spWhole K (He.ga K "ClauseReader") (He.ga K "BadText") Rq.greatC) := ok_rdwhole FWH rc Rq.suf_greatC great_td mtNX GNX bNX mtTA GTA bTA mtHE GHE bHE mtHA GHA bHA m_tuple
    have GSB : FnOk PySem.Challenge.rw_downtoground_k03_whole_texts_of_clauses.prog w K mg base (L2.CX PySem.Challenge.rw_downtoground_k03_whole_texts_of_clauses.prog w) 8 _ dSB ["self", "word"] (spSideB K (He.ga K "ClauseReader") (He.ga K "BadText")) := ok_crsideb FSB rc mtNO GNO bNO mtWH GWH bWH gYES hY
    have GSI : FnOk PySem.Challenge.rw_downtoground_k03_whole_texts_of_clauses.prog w K mg base (L2.CX PySem.Challenge.rw_downtoground_k03_whole_texts_of_clauses.prog w) 9 _ dSI ["self"] (spGreat K (He.ga K "ClauseReader") (He.ga K "BadText") Rq.side) := ok_crside FSI rc mtNX GNX bNX mtIA GIA bIA mtGR GGR bGR mtSM GSM bSM mtSB GSB bSB gsU
    have GEQ : FnOk PySem.Challenge.rw_downtoground_k03_whole_texts_of_clauses.prog w K mg base (L2.CX PySem.Challenge.rw_downtoground_k03_whole_texts_of_clauses.prog w) 10 _ dEQ ["self", "left"] (spEqn K (He.ga K "ClauseReader") (He.ga K "BadText")) := ok_creqn FEQ rc mtNX GNX bNX mtTA GTA bTA mtSI GSI bSI BF gYES hY m_isinstance m_int
    have GET : FnOk PySem.Challenge.rw_downtoground_k03_whole_texts_of_clauses.prog w K mg base (L2.CX PySem.Challenge.rw_downtoground_k03_whole_texts_of_clauses.prog w) 3 _ dET ["self"] (spEndT (He.ga K "ClauseReader") (He.ga K "BadText")) := ok_crend FET rc mtNX GNX bNX BF
    have GLI : FnOk PySem.Challenge.rw_downtoground_k03_whole_texts_of_clauses.prog w K mg base (L2.CX PySem.Challenge.rw_downtoground_k03_whole_texts_of_clauses.prog w) 11 _ dLI ["self"] (spGreat K (He.ga K "ClauseReader") (He.ga K "BadText") Rq.literal) := ok_crlit FLI rc mtNX GNX bNX mtIA GIA bIA mtGR GGR bGR mtEQ GEQ bEQ mtSM GSM bSM mtSB GSB bSB gsU gYES hY
    have GCL : FnOk PySem.Challenge.rw_downtoground_k03_whole_texts_of_clauses.prog w K mg base (L2.CX PySem.Challenge.rw_downtoground_k03_whole_texts_of_clauses.prog w) 12 _ dCL ["self"] (spGreat K (He.ga K "ClauseReader") (He.ga K "BadText") Rq.clause) := ok_crclause FCL rc mtNX GNX bNX mtTA GTA bTA mtLI GLI bLI mtET GET bET m_tuple
    have GCo : FnOk PySem.Challenge.rw_downtoground_k03_whole_texts_of_clauses.prog w K mg base (L2.CX PySem.Challenge.rw_downtoground_k03_whole_texts_of_clauses.prog w) 13 _ d20 ["text"] (spClauseOf K (He.ga K "BadText")) := ok_clauseof F20 rc MK GRI bRI gClauseReader mtCL GCL bCL BF m_isinstance m_str
    have GCq : FnOk PySem.Challenge.rw_downtoground_k03_whole_texts_of_clauses.prog w K mg base CX0 13 _ d20 ["text"] (spClauseQ K) := clauseQ GCo
    have GWy : FnOk PySem.Challenge.rw_downtoground_k03_whole_texts_of_clauses.prog w K mg base CX0 14 _ d35 ["_law_text_here"] (spWhyC K) := ok_whyc F35 TR gBadText xB GCo g20 F20.kp b20
    have GDr : FnOk PySem.Challenge.rw_downtoground_k03_whole_texts_of_clauses.prog w K mg base CX0 1 _ d23 ["_law_pen_here", "_law_many"] Pn.spDraw := Pn.ok_draw F23 m_int m_len
    have GPi : FnOk PySem.Challenge.rw_downtoground_k03_whole_texts_of_clauses.prog w K mg base CX0 2 _ d24 ["_law_pen_here", "_law_some"] (Pn.spPick K) := Pn.ok_pick F24 GDr g23 F23.kp b23 m_len
    have GPt : FnOk PySem.Challenge.rw_downtoground_k03_whole_texts_of_clauses.prog w K mg base CX0 2 _ d24 ["_law_pen_here", "_law_some"] (spPickT K) := ok_pickT F24 GDr g23 F23.kp b23 m_len
    have GPe : FnOk PySem.Challenge.rw_downtoground_k03_whole_texts_of_clauses.prog w K mg base CX0 1 _ d22 ["_law_script"] (Pn.spPen K) := Pn.ok_pen (k := 0) F22 m_int m_list
    have GOr : FnOk PySem.Challenge.rw_downtoground_k03_whole_texts_of_clauses.prog w K mg base CX0 3 _ d25 ["_law_pen_here"] (spOrder K) := ok_order F25 (GDr.mono (by decide : 1 ≤ 2)) g23 F23.kp b23 GPi g24 F24.kp b24 m_tuple m_range m_list m_len
    have GDt : FnOk PySem.Challenge.rw_downtoground_k03_whole_texts_of_clauses.prog w K mg base CX0 7 _ d29 ["_law_pen_here", "_law_rows", "_law_deep", "_law_variables"] (spDrawn K 5) := ok_drawn (k := 2) F29 g29 b29 (GDr.mono (by decide : 1 ≤ 2)) g23 F23.kp b23 GPi g24 F24.kp b24 m_tuple m_range 5
    have GDa : FnOk PySem.Challenge.rw_downtoground_k03_whole_texts_of_clauses.prog w K mg base CX0 8 _ d30 ["_law_pen_here", "_law_rows", "_law_deep", "_law_variables"] (spLAtom K 5) := ok_latom (k := 7) F30 (GPt.mono (by decide)) g24 F24.kp b24 GDt g29 F29.kp b29 m_tuple m_range
    have GDl : FnOk PySem.Challenge.rw_downtoground_k03_whole_texts_of_clauses.prog w K mg base CX0 9 _ d31 ["_law_pen_here", "_law_rows", "_law_deep", "_law_variables"] (spLDLit K) := ok_ldlit (k := 8) F31 ⟨GDr.mono (by decide), g23, F23.kp, b23⟩ ⟨GDa.mono (by decide), g30, F30.kp, b30⟩ ⟨GDt.mono (by decide), g29, F29.kp, b29⟩
    have GIv : FnOk PySem.Challenge.rw_downtoground_k03_whole_texts_of_clauses.prog w K mg base CX0 1 _ d26 ["_law_term"] (spIsVar K) := ok_isvar (k := 0) F26 m_isinstance m_int
    have GPu : FnOk PySem.Challenge.rw_downtoground_k03_whole_texts_of_clauses.prog w K mg base CX0 11 _ d27 ["_law_term", "_law_known"] (spFilled K 10) := ok_lput (k := 1) F27 g27 b27 GIv g26 F26.kp b26 m_tuple 10
    have GPc : FnOk PySem.Challenge.rw_downtoground_k03_whole_texts_of_clauses.prog w K mg base CX0 12 _ d28 ["_law_clause", "_law_known"] (spPutC K) := ok_putc (k := 11) F28 ⟨GPu.mono (by decide), g27, F27.kp, b27⟩ m_tuple
    have GDn : FnOk PySem.Challenge.rw_downtoground_k03_whole_texts_of_clauses.prog w K mg base CX0 13 _ d39 ["_law_pen_here", "_law_rows"] (spLDrawn K) := ok_ldrawn (k := 12) F39 ⟨GDr.mono (by decide), g23, F23.kp, b23⟩ ⟨GDl.mono (by decide), g31, F31.kp, b31⟩ ⟨GPi.mono (by decide), g24, F24.kp, b24⟩ ⟨GPc.mono (by decide), g28, F28.kp, b28⟩ m_range m_tuple
    have GGa : FnOk PySem.Challenge.rw_downtoground_k03_whole_texts_of_clauses.prog w K mg base CX0 2 _ d32 ["_law_pen_here"] spGap := ok_lgap (k := 1) F32 ⟨GDr.mono (by decide), g23, F23.kp, b23⟩
    have GLo : FnOk PySem.Challenge.rw_downtoground_k03_whole_texts_of_clauses.prog w K mg base CX0 2 _ d33 ["_law_pen_here"] spLoose := ok_lloose (k := 1) F33 ⟨GDr.mono (by decide), g23, F23.kp, b23⟩
    have GRe : FnOk PySem.Challenge.rw_downtoground_k03_whole_texts_of_clauses.prog w K mg base CX0 3 _ d34 ["_law_pen_here", "_law_sign"] spRel := ok_lrel (k := 2) F34 ⟨GLo.mono (by decide), g33, F33.kp, b33⟩
    have GLt : FnOk PySem.Challenge.rw_downtoground_k03_whole_texts_of_clauses.prog w K mg base CX0 12 _ d36 ["_law_pen_here", "_law_term"] (spLTx K 10) := ok_ltx (k := 2) F36 g36 b36 ⟨GLo.mono (by decide), g33, F33.kp, b33⟩ m_isinstance m_str m_int m_len 10
    have GLl : FnOk PySem.Challenge.rw_downtoground_k03_whole_texts_of_clauses.prog w K mg base CX0 13 _ d37 ["_law_pen_here", "_law_literal"] (spLLit K) := ok_llit (k := 12) F37 ⟨GGa.mono (by decide), g32, F32.kp, b32⟩ ⟨GLt.mono (by decide), g36, F36.kp, b36⟩ ⟨GRe.mono (by decide), g34, F34.kp, b34⟩ m_isinstance m_tuple
    have GLx : FnOk PySem.Challenge.rw_downtoground_k03_whole_texts_of_clauses.prog w K mg base CX0 14 _ d38 ["_law_pen_here", "_law_clause"] (spLText K) := ok_ltext (k := 13) F38 ⟨GLo.mono (by decide), g33, F33.kp, b33⟩ ⟨GLl.mono (by decide), g37, F37.kp, b37⟩
    have GTt : FnOk PySem.Challenge.rw_downtoground_k03_whole_texts_of_clauses.prog w K mg base CX0 10 _ d17 ["term"] (spTT K 10) := ok_tt (k := 0) F17 g17 b17 m_isinstance m_str m_int m_len 10
    have GTl : FnOk PySem.Challenge.rw_downtoground_k03_whole_texts_of_clauses.prog w K mg base CX0 11 _ d19 ["literal"] (spLT K) := ok_lt (k := 0) F19 ⟨GTt.mono (by decide), g17, F17.kp, b17⟩
    have GCt : FnOk PySem.Challenge.rw_downtoground_k03_whole_texts_of_clauses.prog w K mg base CX0 12 _ d18 ["clause"] (spCT K) := ok_ct (k := 11) F18 ⟨GTl.mono (by decide), g19, F19.kp, b19⟩ m_len
    have GWr : FnOk PySem.Challenge.rw_downtoground_k03_whole_texts_of_clauses.prog w K mg base CX0 3 _ d40 ["_law_pen_here"] (spWrong K) := ok_wrong (k := 2) F40 ⟨GPi.mono (by decide), g24, F24.kp, b24⟩
    exact FnG.of (ok_law (k := 14) F41 ⟨GPe.mono (by decide), g22, F22.kp, b22⟩ ⟨GDr.mono (by decide), g23, F23.kp, b23⟩ ⟨GPi.mono (by decide), g24, F24.kp, b24⟩ ⟨GOr.mono (by decide), g25, F25.kp, b25⟩ ⟨GDn.mono (by decide), g39, F39.kp, b39⟩ ⟨GLx.mono (by decide), g38, F38.kp, b38⟩ ⟨GCt.mono (by decide), g18, F18.kp, b18⟩ ⟨GCq.mono (by decide), g20, F20.kp, b20⟩ ⟨GWy.mono (by decide), g35, F35.kp, b35⟩ ⟨GWr.mono (by decide), g40, F40.kp, b40⟩ m_range m_len m_isinstance m_int)
end
end Ad

open PySem PySem.W PySem.Calls PyProof.Rows
theorem PySem.Challenge.cw_downtoground_k03_whole_texts_of_clauses_holds : PySem.Challenge.rw_downtoground_k03_whole_texts_of_clauses.Holds := by
  w_on
  o_law
  refine HandSHeadRun.head_any (r := OpenLaw.row PySem.Challenge.rw_downtoground_k03_whole_texts_of_clauses) (q := view (OpenLaw.row PySem.Challenge.rw_downtoground_k03_whole_texts_of_clauses).prog [41]) (H := Ad.hkL) (ob := Ad.obL) (M := 6000) (loose := Ad.looseL)
    (d := HandSHeadRun.topDef (OpenLaw.row PySem.Challenge.rw_downtoground_k03_whole_texts_of_clauses).prog 41) (kwd := []) Ad.obL_eq (by kernel_rfl) (fun s => by kernel_rfl) Ad.runL (by kernel_rfl) (by kernel_rfl) (by kernel_rfl) (by rfl) (by first | assumption | decide +kernel) (by decide +kernel) ⟨rfl, rfl, rfl, rfl, rfl, by decide +kernel⟩ ?hw ?hc
  case hw => w_witness2
  case hc =>
    refine Ad.walkGT (l := PySem.Challenge.rw_downtoground_k03_whole_texts_of_clauses) (n := 63) (k := 15) (x := "_law_script") (CX := fun _ => L2.CX0) rfl (by decide) (by kernel_rfl) ⟨rfl, by decide, by decide⟩ ?F (fun _ _ _ _ _ z => z)
    intro w mg fa h ⟨K, KX, c⟩ G named
    have e : (HandSHeadRun.topDef (OpenLaw.row PySem.Challenge.rw_downtoground_k03_whole_texts_of_clauses).prog 41).name = ("law" : PySem.Str) := by kernel_rfl
    rw [e] at named
    exact ⟨K, KX, Ad.facts KX G named c⟩

