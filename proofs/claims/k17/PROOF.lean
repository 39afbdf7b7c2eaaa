import PyProof.Rows.All
import Wide.All
import OpenK.AllK
import Wide.FinOn
import HandS.ForMost
import HandS.More
import HandS.Style
import HandS.TupAny
import HandS.IsInst
import HandS.Codes
import HandS.Exc
import HandS.Ends
import PyProof.P3Eq
import PyProof.ReprReads
import PyProof.TupleIter
import HandS.GenList
import HandS.AnyAll
import PyProof.GenComp
import PyProof.TupleOfGen
import HandS.Conv
import HandS.WordsDict
import HandS.Zip
import HandS.Zip0
import PyProof.Draws
import PyProof.EnumMake
import PyProof.EnumFor
import PyProof.CollectWalk
import PyProof.ListNew
import HandS.Deep
import HandS.Walk
import HandS.DictComp
import HandS.EndTab
import HandS.Head0
import HandS.Head1
import HandS.Head2
import HandS.HeadEnd
import HandS.HeadHook1
import HandS.HeadHook2
import HandS.HeadHook3
import HandS.HeadHook4
import PySem.Challenge.RW_downtoground_k17_whole_chains
set_option Elab.async false
set_option linter.all false
set_option maxRecDepth 100000
set_option maxHeartbeats 0
namespace Ad
open PySem PySem.Spec PySem.Calls PyProof.Rows L2
def topS (i : Nat) : Stmt := PySem.Challenge.pw_downtoground_k17_whole_chains.main.body.getD i (.Pass ⟨0, 0, 0, 0⟩)
end Ad

/-! A tuple's tail from behind: t[:0:-1]. -/
namespace Ad
open PySem PySem.Spec PySem.Calls PyProof.Rows L2
section
variable {prog : Program} {w : World} {A : Around} {E : Value → Shared → Prop} {s : Shared}
theorem adj_back {n : Nat} (h : 1 ≤ n) : Builtin.Slice.sliceAdjust none (some 0) (-1) (n : Int) = ((n : Int) - 1, 0) := by
  unfold Builtin.Slice.sliceAdjust
  have h1 : ((-1 : Int) < 0) := by decide
  have h0 : ¬ ((0 : Int) < 0) := by decide
  simp only [h1, h0, if_true, if_false]
  congr 1
  omega
theorem places_back (n : Nat) : Builtin.Slice.slicePlaces ((n : Int) - 1) 0 (-1) = n - 1 := by
  unfold Builtin.Slice.slicePlaces
  have h1 : ¬ ((-1 : Int) > 0) := by decide
  have h2 : (- (-1 : Int)) = 1 := by decide
  simp only [h1, if_false, h2, Int.ediv_one]
  split <;> omega
theorem pick_back (xs : Array Value) : ((List.range (xs.size - 1)).filterMap fun (k : Nat) => xs[(((xs.size : Int) - 1) + (k : Int) * (-1)).toNat]?).toArray = (xs.toList.drop 1).reverse.toArray := by
  congr 1
  obtain ⟨l⟩ := xs
  simp only [List.size_toArray]
  have key : ∀ m, m ≤ l.length - 1 → (List.range m).filterMap (fun (k : Nat) => (l.toArray)[(((l.length : Int) - 1) + (k : Int) * (-1)).toNat]?) = (l.drop (l.length - m)).reverse := by
    intro m
    induction m with
    | zero =>
      intro _
      rw [List.range_zero, List.filterMap_nil, Nat.sub_zero, List.drop_length, List.reverse_nil]
    | succ m ih =>
      intro hm
      rw [List.range_succ, List.filterMap_append, ih (by omega), List.filterMap_cons, List.filterMap_nil]
      have e : (((l.length : Int) - 1) + (m : Int) * (-1)).toNat = l.length - (m + 1) := by omega
      rw [e]
      have hlt : l.length - (m + 1) < l.length := by omega
      rw [List.getElem?_toArray, List.getElem?_eq_getElem hlt]
      have d : l.drop (l.length - (m + 1)) = l[l.length - (m + 1)] :: l.drop (l.length - m) := by
        rw [List.drop_eq_getElem_cons hlt]
        congr 2
        omega
      rw [d, List.reverse_cons]
  have k1 := key (l.length - 1) (Nat.le_refl _)
  rw [k1]
  by_cases h : l.length = 0
  · have : l = [] := List.length_eq_zero_iff.mp h
    subst this
    rfl
  · congr 2
    omega
theorem applied_back {sl : Addr} {vu vs : Value} {n : Nat} {Q : Int × Int × Nat → Shared → Prop} (here : s.heap.IsSliceOf sl .none vu vs) (pu : IsPart vu (some 0)) (ps : IsPart vs (some (-1))) (hn : 1 ≤ n)
    (h : Q ((n : Int) - 1, -1, n - 1) s) : wpAny (model prog w) A (Builtin.Slice.sliceApplied (.ref sl) (pure (n : Int))) Q E s := by
  obtain ⟨ob, at', _, dat⟩ := id here
  unfold Builtin.Slice.sliceApplied Builtin.Slice.sliceFields
  refine wpAny_bind (wpAny_bind ?_)
  refine wpAny_field at' dat (x := .none) rfl (wpAny_bind ?_)
  refine wpAny_field at' dat (x := vu) rfl (wpAny_bind ?_)
  refine wpAny_field at' dat (x := vs) rfl (wpAny_pure ?_)
  refine wpAny_bind (HT.slicePart_ ps ?_)
  show wpAny _ _ (if ((-1 : Int) == 0) = true then _ else _) _ _ s
  rw [if_neg (by decide)]
  refine wpAny_bind (slicePart_none (wpAny_bind ?_))
  refine HT.slicePart_ pu (wpAny_bind (wpAny_pure ?_))
  show wpAny _ _ (match Builtin.Slice.sliceAdjust none (some 0) (-1) (n : Int) with | (lo, hi) => pure (lo, (-1 : Int), Builtin.Slice.slicePlaces lo hi (-1))) _ _ s
  rw [adj_back hn]
  show wpAny _ _ (pure ((n : Int) - 1, (-1 : Int), Builtin.Slice.slicePlaces ((n : Int) - 1) 0 (-1))) _ _ s
  rw [places_back]
  exact wpAny_pure h
theorem item_back {t sl : Addr} {items : Array Value} {vu vs : Value} {Q : Value → Shared → Prop} (ht : IsTup s.heap t items) (here : s.heap.IsSliceOf sl .none vu vs) (pu : IsPart vu (some 0)) (ps : IsPart vs (some (-1))) (hn : 1 ≤ items.size)
    (h : Q (.ref s.heap.objs.size) { s with heap := s.heap.push { cls := .type "tuple", data := .seq (items.toList.drop 1).reverse.toArray } }) (hsz : items.size ≤ sizeLine) :
    wpAny (model prog w) A (getItem (.ref t) (.ref sl)) Q E s := by
  have fits : sizeOk (.seq (items.toList.drop 1).reverse.toArray) := by
    show (items.toList.drop 1).reverse.toArray.size ≤ sizeLine
    rw [List.size_toArray, List.length_reverse, List.length_drop, Array.length_toList]
    omega
  obtain ⟨ob, at', cl, _⟩ := id here
  have isSl : s.TypeIs (.ref sl) "slice" := ⟨ob, at', cl⟩
  unfold getItem
  try (with_reducible refine wpAny_holding ?_)
  first
    | refine wpAny_bind (wpAny_pure ?_)
    | skip
  refine wpAny_bind (wpAny_sequenceKey ht.typeIs (by decide) ?_)
  refine wpAny_bind (wpAny_callSpecial?_slot (name := Str.ofString "__getitem__") ht.typeIs slot_tuple_getitem ?_)
  refine wpAny_call_entry slot_tuple_getitem ht.typeIs entry_tuple_getitem ?_ (args_tuple_getitem _ _)
  show wpAny _ _ (Builtin.Tuple.tupleItemsOf (.ref t) >>= _) _ _ s
  refine wpAny_bind (tupleItemsOf_ ht (wpAny_bind (wpAny_typeOf isSl ?_)))
  rw [if_pos (by decide)]
  refine wpAny_bind (applied_back here pu ps hn ?_)
  have not1 : ¬ ((((items.size : Int) - 1) == 0 && (-1 : Int) == 1 && (items.size - 1) == items.size) = true) := by
    intro q
    rw [Bool.and_eq_true, Bool.and_eq_true] at q
    exact absurd q.1.2 (by decide)
  show wpAny _ _ (if (((items.size : Int) - 1) == 0 && (-1 : Int) == 1 && (items.size - 1) == items.size) = true then _ else _) _ _ s
  rw [if_neg not1]
  rw [pick_back]
  first
    | exact wpAny_bind (wpAny_bind (m := Builtin.Tuple.tupleExact _) (wpAny_newObj_type (wpAny_pure ⟨_, rfl, wpAny_pure h⟩) fits))
    | exact wpAny_bind (wpAny_bind (m := Builtin.Tuple.tupleExact _) (wpAny_newObj_type (wpAny_pure (wpAny_pure ⟨_, rfl, wpAny_pure h⟩)) fits))
    | exact wpAny_bind (m := Builtin.Tuple.tupleExact _) (wpAny_newObj_type (wpAny_bind (wpAny_pure (wpAny_pure ⟨_, rfl, wpAny_pure h⟩))) fits)
    | exact wpAny_bind (m := Builtin.Tuple.tupleExact _) (wpAny_newObj_type (wpAny_pure ⟨_, rfl, wpAny_pure h⟩) fits)
end
section
variable {X : Cx}
/-- t[:0:-1], t a tuple that is not empty -/
def tBack (K : PySem.W.Frag) (te : TE) : TE := fun σ H Q => te σ H fun x G => ∃ a xs, x = .ref a ∧ SqT K G a xs ∧ 1 ≤ xs.length ∧ ∀ p, G p = none → Q (.ref p) (upd G p (.tup (xs.drop 1).reverse))
theorem pe_back {e : Expr} {te : TE} {k k0 : Nat} {p0 p1 p2 p3 pos : Pos} (he : PE X e te) :
    PE X (.Subscript e (.Slice none (some (.Constant (.int 0) k0 p0)) (some (.UnaryOp .USub (.Constant (.int 1) k p1) p2)) p3) pos) (tBack X.K te) := by
  constructor
  intro pins s0 σ H Q J ask
  refine Subscript_ (thn (he.run pins s0 σ H _ J ask) fun v s1 back => ?_)
  obtain ⟨x, G, J1, rx, a, xs, rfl, hx, hne, q⟩ := back
  cases rx
  have up : PO X (some (.Constant (.int 0) k0 p0)) (tPart (tC (.int 0))) := po_some pe_int
  have st : PO X (some (.UnaryOp .USub (.Constant (.int 1) k p1) p2)) (tPart (tUn (rU fun i => .int (-i)) (tC (.int 1)))) := po_some (pe_un un_neg pe_int)
  refine wpAny_Slice (thn (po_none.run pins s1 σ G (fun o G2 => o = none ∧ G2 = G) J1 ⟨rfl, rfl⟩) fun vl s2 r2 => ?_)
  obtain ⟨l, G2, J2, pl, rfl, rfl⟩ := r2
  refine thn (up.run pins s2 σ G2 (fun o G3 => o = some 0 ∧ G3 = G2) J2 ⟨0, rfl, rfl, rfl⟩) fun vu s3 r3 => ?_
  obtain ⟨u, G3, J3, pu, rfl, rfl⟩ := r3
  refine thn (st.run pins s3 σ G3 (fun o G4 => o = some (-1) ∧ G4 = G3) J3 ⟨1, rfl, -1, rfl, rfl, rfl⟩) fun vs s4 r4 => ?_
  obtain ⟨o, G4, J4, ps, rfl, rfl⟩ := r4
  cases pl
  have J5 : Inv X pins σ G4 { s4 with heap := s4.heap.push { cls := .type "slice", data := .fields #[.none, vu, vs] } } := J4.kept (t' := s4.toks) fun b ob z => Heap.get?_push_of_some _ z
  obtain ⟨its, r, ht, hz⟩ := J5.tuple hx
  have len := r.length
  show wpAny (model X.prog X.w) X.A (subscriptTail e (.Slice none (some (.Constant (.int 0) k0 p0)) (some (.UnaryOp .USub (.Constant (.int 1) k p1) p2)) p3) (.ref a) (.ref s4.heap.objs.size)) (EP X pins σ Q) X.xe _
  refine tail_any (ops := [.ref a, .ref s4.heap.objs.size]) ht.typeIs slot_tuple_getitem.lookup ?_ (by with_unfolding_all rfl)
  refine item_back ht (Heap.IsSliceOf.new _ .none vu vs) pu ps (by rw [List.size_toArray]; omega) ?_ (by rw [List.size_toArray]; omega)
  refine ⟨.ref _, _, J5.laid (t' := s4.toks) (o := .tup (xs.drop 1).reverse) (fun b ob z => Heap.get?_push_of_some _ z) (Nat.le_refl _) ?_, rfl, q _ (J5.hok.fresh (Nat.le_refl _))⟩
  refine ⟨by rw [List.length_reverse, List.length_drop]; omega, _, (r.drop 1).reverse, IsTup.new _ _⟩
end
end Ad

/-! Defs that are called where no repr is under way; repr of data; the end of a law of such a def. -/
namespace Ad
open PySem PySem.Spec PySem.Calls PyProof.Rows L2
theorem deeper_guards {A : Around} {env : Env} (h : A.guards = some []) : (A.deeper env).guards = some [] := by
  first
    | exact h
    | (show (A.deeper env).guards = _; simp [Around.deeper, h])
    | (obtain ⟨a, b, c, d, e⟩ := A; cases h; rfl)
/-- a def's promise, kept wherever no repr is under way -/
structure FnG (P : Program) (w : World) (K : PySem.W.Frag) (mg : Str → Option Value) (base : Heap) (CX : CXT) (k : Nat) (f : Addr) (fd : FuncData) (ps : List Str) (sp : Sp) : Prop where
  len : ∀ vs H Q E, sp vs H Q E → vs.length = ps.length
  run : ∀ (A : Around) (outer : List Env) (s : Shared) (H : Hp) (args : Args) (us : List Value) (vs : List V) (Q : VK) (E : XK), A.guards = some [] → Room k A → Env0 P w K mg base A outer s H → BindsTo s fd args (ps.zip us) → Vals vs us → sp vs H Q E →
    codeAny (model P w) A (.call (.ref f) args) (CR CX outer P w H s Q E) s
/-- a def of the text, its code object told -/
structure FunC (K : PySem.W.Frag) (x qual : Str) (st : Stmt) (f : Addr) (cdv : Value) (fd : FuncData) : Prop where
  ex : ∃ (oc : Value) (od : Option Addr) (kV doc pm : Value) (an : Option Addr) (ct : Value) (osl : Array (Option Value)),
    fd = PySem.W.fnOf x qual (defArgs st) (defBody st) (defScope st) .none kV doc pm an cdv ct ∧ K.lookup f = some ⟨oc, od, .func fd, osl⟩ ∧ PySem.W.codeIn K cdv qual = true
  kp : PySem.W.keepIn K (.ref f) = true
theorem FunC.fun {K : PySem.W.Frag} {x qual : Str} {st : Stmt} {f : Addr} {cdv : Value} {fd : FuncData} (F : FunC K x qual st f cdv fd) : Fun K x qual st f fd := by
  obtain ⟨⟨oc, od, kV, doc, pm, an, ct, osl, h⟩, k⟩ := F
  exact ⟨⟨oc, od, kV, doc, pm, an, cdv, ct, osl, h⟩, k⟩
theorem fng_ofC {CX : CXT} {P : Program} {w : World} {K : PySem.W.Frag} {mg : Str → Option Value} {base : Heap} {k : Nat} {x qual : Str} {st : Stmt} {f : Addr} {cdv : Value} {fd : FuncData} {N ps : List Str} {sp : Sp} (F : FunC K x qual st f cdv fd) (S : FnScope N ps (defScope st))
    (len : ∀ vs H Q E, sp vs H Q E → vs.length = ps.length)
    (body : ∀ (A : Around) (outer : List Env) (s : Shared) (H : Hp) (vs : List V) (Q : VK) (E : XK), A.guards = some [] → Room k (A.deeper (envOfC qual (defScope st) s.heap.objs.size f cdv)) → sp vs H Q E →
      ∃ t, PSs (cxOf CX P w K mg base N qual (defScope st) f cdv A outer s H E) (defBody st) t ∧ t { nx := fun _ H' => Q .non H', rt := Q } (start N vs) H) : FnG P w K mg base CX (k + 1) f fd ps sp := by
  obtain ⟨oc, od, kV, doc, pm, an, ct, osl, rfl, look, code⟩ := F.ex
  constructor
  · exact len
  · intro A outer s H args us vs Q E gd room e0 binds rel asked
    have many := len _ _ _ _ asked
    have kin : K.In s.heap := e0.mod.kin.keeps fun b o e => (e0.bs b o e).1
    have lim : s.heap.NoLimit := e0.mod.nolimit.keeps fun b o e => (e0.bs b o e).1
    have kinds : ∀ y ∈ ps.zip us, (defScope st).names.lookup y.1 = some .local ∨ ((defScope st).names.lookup y.1 = some .cell ∧ ((cellsFrom (s.heap.objs.size + 1) (defScope st).names []).lookup y.1).isSome = true) := by
      rintro ⟨n, v⟩ hy
      rcases S.par n (List.of_mem_zip hy).1 with q | q
      · exact .inl q
      · exact .inr ⟨q, PySem.W.cellsFrom_some _ _ _ (.inl q)⟩
    refine codeAny_call_function room.depth (kin _ _ look) rfl S.co S.gen rfl (PySem.W.codeRec_of kin code) (binds _ _ _ _ ?_)
    refine wpAny_newFunctionEnv_cells S.kind kinds fun env he s1 ready => ?_
    subst he
    refine ⟨lim.keeps ready.toInCall.keep, codeAny_func ?_⟩
    obtain ⟨t, ht, hq⟩ := body A outer s H vs Q E gd (room.deeper _) asked
    have J : Inv (cxOf CX P w K mg base N qual (defScope st) f cdv A outer s H E) [] (start N vs) H s1 := inv_start S room.hd e0 many rel ready
    refine wpAny_mono (ht.run [] s1 (start N vs) H _ J hq) (fun fl s' hs => ?_) fun e s' hs => hs
    have fin : ∀ {σ' : L2.St} {H' : Hp} {v : V} {u : Value}, Inv (cxOf CX P w K mg base N qual (defScope st) f cdv A outer s H E) [] σ' H' s' → RelV v u → Q v H' → CE outer P w H s Q u s' := by
      intro σ' H' v u J' rv q
      exact ⟨v, H', J'.os, J'.bare, J'.base, J'.hok, rv, q⟩
    match fl, hs with
    | .ret u, ⟨v, σ', H', J', rv, q⟩ => exact fin J' rv q
    | .next, ⟨σ', H', J', q⟩ => exact fin (v := V.non) (u := Value.none) J' rfl q
    | .brk, ⟨_, _, _, q⟩ => exact False.elim q
    | .cont, ⟨_, _, _, q⟩ => exact False.elim q
theorem fng_of {CX : CXT} {P : Program} {w : World} {K : PySem.W.Frag} {mg : Str → Option Value} {base : Heap} {k : Nat} {x qual : Str} {st : Stmt} {f : Addr} {fd : FuncData} {N ps : List Str} {sp : Sp} (F : Fun K x qual st f fd) (S : FnScope N ps (defScope st))
    (len : ∀ vs H Q E, sp vs H Q E → vs.length = ps.length)
    (body : ∀ (cdv : Value) (A : Around) (outer : List Env) (s : Shared) (H : Hp) (vs : List V) (Q : VK) (E : XK), A.guards = some [] → Room k (A.deeper (envOfC qual (defScope st) s.heap.objs.size f cdv)) → sp vs H Q E →
      ∃ t, PSs (cxOf CX P w K mg base N qual (defScope st) f cdv A outer s H E) (defBody st) t ∧ t { nx := fun _ H' => Q .non H', rt := Q } (start N vs) H) : FnG P w K mg base CX (k + 1) f fd ps sp := by
  obtain ⟨⟨oc, od, kV, doc, pm, an, cdv, ct, osl, h⟩, kp⟩ := F
  exact fng_ofC (F := ⟨⟨oc, od, kV, doc, pm, an, ct, osl, h⟩, kp⟩) S len (body cdv)
/-- a def that keeps its promise everywhere -/
theorem FnG.of {CX : CXT} {P : Program} {w : World} {K : PySem.W.Frag} {mg : Str → Option Value} {base : Heap} {k : Nat} {f : Addr} {fd : FuncData} {ps : List Str} {sp : Sp} (F : FnOk P w K mg base CX k f fd ps sp) : FnG P w K mg base CX k f fd ps sp :=
  ⟨F.len, fun A outer s H args us vs Q E _ => F.run A outer s H args us vs Q E⟩
section
variable {X : Cx} {CX : CXT} {k : Nat} {f : Addr} {fd : FuncData} {ps : List Str} {sp : Sp} {E : XK} {x : Str} {p pos : Pos} {e : Expr} {es : List Expr} {t : TA}
/-- f(e, ..) of such a def, where no repr is under way -/
theorem pe_callG (F : FnG X.prog X.w X.K X.mg X.base CX k f fd ps sp) (gd : X.A.guards = some []) (hr : Room k X.A) (hg : Gl X x) (hm : X.mg x = some (.ref f)) (hk : PySem.W.keepIn X.K (.ref f) = true) (hb : Binds X.K fd ps []) (hx : Passes CX X E)
    (pa : PA X (e :: es) t) (hdb : (x == ("__debug__" : Str)) = false := by decide) (hst : starEach (e :: es) X.env = (false, eval e X.env) :: starEach es X.env := by rfl) (hpl : (backTo pos (starEach es X.env)).any (·.1) = false := by rfl) :
    PE X (.Call (.Name x p) (e :: es) [] pos) (tCall sp [] E t) := by
  constructor
  intro pins s σ H Q J ask
  refine wpAny_Call_Name_kw (ld_glob J hg hm ?_ hdb)
  refine PySem.W.callWith_K (h₀ := X.base) J.ok.mod.kin hk (thn (pa.run pos pins s σ H _ (J.tok _) ask) fun us s1 back => ?_) hst hpl
  obtain ⟨vs, G, J1, rel, q⟩ := back
  refine ⟨J1.kIn, ?_⟩
  have q' : sp vs G Q E := by
    have z : sp (vs ++ []) G Q E := q
    rw [List.append_nil] at z
    exact z
  have many : us.length = ps.length := by
    rw [← rel.length]
    exact F.len _ _ _ _ q'
  have b := hb s1 us J1.kIn (by rw [List.append_nil]; exact many)
  rw [List.append_nil] at b
  refine wpAny_call (codeAny_mono (F.run X.A X.stack s1 G ⟨us, []⟩ us vs Q E gd hr J1.env0 b rel q') fun r s' back => ?_)
  match r, back with
  | .error er, back => exact hx pins σ G s1 er s' J1 back
  | .ok (.ret u), back => exact J1.after back
  | .ok .next, back => exact False.elim back
  | .ok .brk, back => exact False.elim back
  | .ok .cont, back => exact False.elim back
/-- repr(x) of data, where no repr is under way -/
theorem call_reprD (gd : X.A.guards = some []) (hu : X.A.units + 64 < cLine) : CallR X (.builtin "repr") (fun xs H Q => ∃ (v : V) (d : PyData), xs = [v] ∧ Dp X.K H v d ∧ d.showable = true ∧ d.hasDict = false ∧ d.depth ≤ 60 ∧ d.shown.length ≤ sizeLine ∧ Q (.str d.shown) H) := by
  intro pins s σ H xs us Q J rel ask
  obtain ⟨v, d, rfl, hd, show', plain, deep, fits, q⟩ := ask
  match us, rel with
  | [u], .cons r .nil =>
    obtain ⟨as, reads⟩ := Dp.reads J d v u hd r
    cases reads with
    | none => exact P.repr_of_none ⟨.str _, H, J.tok _, ⟨_, rfl⟩, q⟩
    | bool b =>
      refine P.repr_of_bool ⟨.str _, H, J.tok _, ⟨_, rfl⟩, ?_⟩
      cases b <;> exact q
    | int i tk => exact P.repr_of_int (of_decide_eq_true show') ⟨.str _, H, J.tok _, ⟨_, rfl⟩, q⟩
    | str z tk => exact P.repr_of_str ⟨.str _, H, J.tok _, ⟨_, rfl⟩, q⟩ fits
    | list h1 h2 h3 h4 => exact repr_of_reads' (Reads.list h1 h2 h3 h4) show' (PyData.noDict_hsm plain) gd (by omega) (fun _ _ z => z) (fun h' u tk kp => ⟨.str _, H, J.kept (t' := tk) kp, ⟨_, rfl⟩, q⟩) fits
    | tuple h1 h2 h3 h4 => exact repr_of_reads' (Reads.tuple h1 h2 h3 h4) show' (PyData.noDict_hsm plain) gd (by omega) (fun _ _ z => z) (fun h' u tk kp => ⟨.str _, H, J.kept (t' := tk) kp, ⟨_, rfl⟩, q⟩) fits
    | dict h1 h2 h3 h4 h5 => cases plain
end
/-- the call of a law by such a def, from the state behind the top -/
theorem lawG {P : Program} {w : World} {K : PySem.W.Frag} {mg mb : Str → Option Value} {CX : CXT} {k : Nat} {fa a : Addr} {fd : FuncData} {x : Str} {sp : Sp} {s : Shared} {vs : List Value} {ns : List Int}
    (kin : K.In s.heap) (gl : s.heap.Ns mainGlobals mg) (bl : s.heap.Ns builtinsNs mb) (same : ∀ x : Str, x ≠ "__name__" → mb x = bootBuiltins x) (lim : s.heap.NoLimit) (gens : s.gens = #[])
    (at' : s.heap.get? a = some { cls := .type "list", data := .seq vs.toArray }) (nums : IntsAre vs ns) (few : ns.length ≤ sizeLine) (room : Room k callerA)
    (F : ∀ base : Heap, K.In base → base.Ns mainGlobals mg → FnG P w K mg base CX k fa fd [x] sp) (bind : ∀ (s : Shared) (u : Value), BindsTo s fd ⟨[u], []⟩ [(x, u)])
    (asked : ∀ H : Hp, Only H → SqL K H a (ns.map V.int) → sp [.ref a] H (fun v _ => v = .bl true) fun _ _ _ => False) (noExc : ∀ H e s', CX [] H s (fun _ _ _ => False) e s' → False) :
    codeAny (model P w) callerA (.call (.ref fa) ⟨[.ref a], []⟩) (fun r s' => r = .ok (.ret (.bool true)) ∧ OldK s.heap s'.heap ∧ s'.os = s.os ∧ AllBare s'.gens) s := by
  have rel := vals_ints nums
  have many := nums.length
  have from' : ∀ H : Hp, Only H → SqL K H a (ns.map V.int) → HOk P w H s.heap → (∀ b, H b ≠ none → b = a) → (H a ≠ none → K.lookup a = none) →
      codeAny (model P w) callerA (.call (.ref fa) ⟨[.ref a], []⟩) (fun r s' => r = .ok (.ret (.bool true)) ∧ OldK s.heap s'.heap ∧ s'.os = s.os ∧ AllBare s'.gens) s := by
    intro H only seq ok onlyA notK
    have hid : ∀ {b : Addr} {o : Obj}, s.heap.get? b = some o → H b = none → (hidT s.heap H).get? b = some o := by
      intro b o e n
      exact hidT_get e n
    have dict0 : ∀ {b : Addr} {o : Obj} {es : Array DictEntry} {ep : Nat}, s.heap.get? b = some o → o.data = .dict es ep → H b = none := by
      intro b o es ep e d
      cases q : H b with
      | none => rfl
      | some u =>
        obtain rfl : b = a := onlyA b (by rw [q]; exact Option.some_ne_none u)
        rw [at'] at e
        cases e
        exact nomatch (show Data.seq vs.toArray _ = Data.dict es ep from d)
    have ns' : ∀ {b : Addr} {m : Str → Option Value}, s.heap.Ns b m → (hidT s.heap H).Ns b m := by
      rintro b m ⟨o, es, ep, e, d, r⟩
      exact ⟨o, es, ep, hid e (dict0 e d), d, r⟩
    have kin' : K.In (hidT s.heap H) := by
      intro b o e
      refine hid (kin b o e) ?_
      cases q : H b with
      | none => rfl
      | some u =>
        obtain rfl : b = a := onlyA b (by rw [q]; exact Option.some_ne_none u)
        rw [notK (by rw [q]; exact Option.some_ne_none u)] at e
        cases e
    have mod : Mod K mg (hidT s.heap H) := by
      refine ⟨kin', ns' gl, ⟨mb, ns' bl, same⟩, ?_⟩
      obtain ⟨mc, h1, h2⟩ := lim
      exact ⟨mc, ns' h1, h2⟩
    have none' : ∀ {q : Prop} (b : Addr), b ∈ ([] : List Addr) → q := fun {q} b hb => absurd hb (by simp)
    have env : Env0 P w K mg (hidT s.heap H) callerA [] s H := ⟨rfl, mod, fun b o e => of_hidT e, Nat.le_of_eq (hidT_size _ _), trivial, fun b hb => none' b hb, ok, .of_eq gens⟩
    have run := (F _ kin' (ns' gl)).run callerA [] s H ⟨[.ref a], []⟩ [.ref a] [.ref a] _ _ rfl room env (bind s (.ref a)) (.cons rfl .nil) (asked H only seq)
    refine codeAny_mono run fun r s' back => ?_
    match r, back with
    | .error e, back => exact (noExc H e s' back).elim
    | .ok .next, back => exact False.elim back
    | .ok .brk, back => exact False.elim back
    | .ok .cont, back => exact False.elim back
    | .ok (.ret u), ⟨v, H', os, bare, un, ok', rv, (q : v = .bl true)⟩ =>
      subst q
      obtain rfl : u = Value.bool true := rv
      refine ⟨rfl, OldK.of_keep fun b o e => ?_, os, bare⟩
      cases q : H b with
      | none => exact un.keep b o e q (fun z => none' b z) (by simp)
      | some u =>
        rcases only b with z | ⟨ob, xs, z⟩
        · rw [q] at z
          cases z
        · obtain ⟨e1, _⟩ := ok b _ z
          obtain ⟨e2, _⟩ := ok' b _ (un.frzs b ob _ z)
          rw [e] at e1
          cases e1
          exact e2
  cases look : K.lookup a with
  | some o =>
    have e := kin a o look
    rw [at'] at e
    cases e
    refine from' (fun _ => none) (fun _ => .inl rfl) (.inr ⟨_, vs.toArray, _, look, rfl, rfl, rfl, ?_, by simpa using rel⟩) ?_ (fun b z => absurd rfl z) fun z => absurd rfl z
    · rw [List.size_toArray, many]
      exact few
    · intro b u z
      exact nomatch (show (none : Option HO) = some u from z)
  | none =>
    refine from' (fun b => if b = a then some (.frz { cls := .type "list", data := .seq vs.toArray } (.lst (ns.map V.int))) else none) (fun b => ?_) (.inl (.inr ⟨{ cls := .type "list", data := .seq vs.toArray }, if_pos rfl⟩)) (fun b u z => ?_) (fun b z => ?_) fun _ => look
    all_goals by_cases hb : b = a
    · exact .inr ⟨_, _, if_pos hb⟩
    · exact .inl (if_neg hb)
    · cases (if_pos hb).symm.trans z
      subst hb
      refine ⟨at', ?_, vs, _, rel, at'⟩
      rw [List.length_map]
      exact few
    · cases (if_neg hb).symm.trans z
    · exact hb
    · exact absurd (if_neg hb) z
/-- the head's goal from such a law's promise -/
theorem walkG {l : PySem.W.OpenLaw} {n k : Nat} {q : Program} {loose : List Str} {XP : (Str → Option Value) → Heap → Prop} {YP : World → Heap → Prop} {d : DefRec} {K : Params → PySem.W.Frag} {CX : World → CXT} {sp : World → Sp} {x : Str}
    (hn : l.most = some n) (hn2 : n ≤ sizeLine) (hdf : d.params.defaults = []) (room : Room k callerA) (hY : ∀ (w : World) (h : Heap), YP w h → (K w.params).In h)
    (F : ∀ (w : World) (mg : Str → Option Value) (fa : Addr) (h : Heap), (K w.params).In h → h.Ns mainGlobals mg → mg d.name = some (.ref fa) →
      ∃ fd : FuncData, (∀ (s : Shared) (u : Value), BindsTo s fd ⟨[u], []⟩ [(x, u)]) ∧ ∀ base : Heap, (K w.params).In base → base.Ns mainGlobals mg → FnG l.prog w (K w.params) mg base (CX w) k fa fd [x] (sp w))
    (asked : ∀ (w : World) (H : Hp) (a : Addr) (ns : List Int), ns.length ≤ n → Only H → SqL (K w.params) H a (ns.map V.int) → sp w [.ref a] H (fun v _ => v = .bl true) fun _ _ _ => False)
    (noExc : ∀ (w : World) (H : Hp) (s : Shared) (e : Value) (s' : Shared), CX w [] H s (fun _ _ _ => False) e s' → False) :
    PySem.W.WalkO q loose XP YP l.row.toRowW d [] (fun f vs => PySem.call f vs) := by
  refine Att.attach_call hn hdf ?_
  intro w s0 s1 mg mb fa o pm cd doc a vs ns G Y ho hd hcd hmg hobj nums short gens
  have kin := hY w _ Y
  obtain ⟨fd, binds, prom⟩ := F w mg fa _ kin G.T.g hmg
  exact lawG kin G.T.g G.T.b G.T.builtins G.T.nolimit gens hobj nums (Nat.le_trans short hn2) room prom binds (fun H only seq => asked w H a ns short only seq) fun H e s' => noExc w H s1 e s'
end Ad

/-! xs.extend(t) of a tuple. -/
namespace Ad
open PySem PySem.Spec PySem.Calls PyProof.Rows L2
section
variable {X : Cx}
/-- xs.extend(t), t a tuple that may carry more than its items -/
theorem ext_tuple (l : Addr) (items : Array Value) (n : Nat) (b : Addr) (zs : Array Value) (m : Nat) (dd : Option Addr) (sl : Array (Option Value)) (notLong : ¬(!items.isEmpty && Builtin.List.listTooLong (items.size + zs.size)) = true) (short : items.size ≤ sizeLine) (both : items.size + zs.size ≤ sizeLine + 1) :
    Meets (Builtin.«list.extend» ⟨[.ref l, .ref b], []⟩) (fun _ R s => s.heap.get? l = some { cls := .type "list", dict := none, data := .seq items n, slots := #[] } ∧ s.heap.get? b = some { cls := .type "tuple", dict := dd, data := .seq zs m, slots := sl } ∧
      R (.ok (.ret Value.none)) { s with heap := s.heap.update l (Obj.mapSeq fun x => x ++ zs), toks := s.toks }) :=
  .of_wp fun prog w A R s h => by
    obtain ⟨hp, g, d, tk, os⟩ := s
    obtain ⟨hl, hb, h⟩ := h
    have f1 := AutoSeq1.idx_int
    have f2 := AutoSeq1.sub_tuple_tuple
    have f3 := AutoSeq1.sub_list_list
    have f4 := AutoSeq1.sub_tuple_list
    have f5 := AutoSeq1.sub_list_tuple
    have size2 : (items ++ zs).size ≤ sizeLine + 1 := by rw [Array.size_append]; exact both
    wp_walk using (wpAny_updateSeq hl rfl (hz := short) (_hz' := size2)), AutoSeq1.wpAny_loadPart' hl, AutoSeq1.wpAny_loadPart' hb
    exact ⟨_, rfl, h⟩
/-- xs.extend(t), t a tuple -/
def rExtT (K : PySem.W.Frag) : V → List V → Hp → VK → Prop := fun x vs H Q => ∃ l b xs zs, x = .ref l ∧ vs = [.ref b] ∧ H l = some (.lst xs) ∧ SqT K H b zs ∧ xs.length + zs.length ≤ sizeLine ∧ Q .non (upd H l (.lst (xs ++ zs)))
theorem mt_extT : MtM X "list.extend" (rExtT X.K) := by
  intro pins s σ H x vs v us Q I rx rv h
  obtain ⟨l, b, xs, zs, rfl, rfl, hH, hB, hz, q⟩ := h
  cases rx
  obtain ⟨u, rfl, ru⟩ := rv.one
  cases ru
  obtain ⟨z, its, n, r, hl, e⟩ := I.lstM hH
  obtain ⟨its2, r2, ⟨⟨cls, dd, data, sl⟩, ho, hcl, n2, hd⟩, _⟩ := I.tuple hB
  simp only at hcl hd
  subst hcl hd
  have hl2 := r2.length
  have short : its.toArray.size + its2.toArray.size ≤ sizeLine := by rw [List.size_toArray, List.size_toArray]; omega
  have notLong : ¬ (!its.toArray.isEmpty && Builtin.List.listTooLong (its.toArray.size + its2.toArray.size)) = true := by
    rw [notLongL short, Bool.and_false]
    exact Bool.false_ne_true
  refine call_meets F.slot_list_extend ⟨_, e, rfl⟩ F.entry_list_extend (F.args_list_extend_2 _ _) (ext_tuple l its.toArray n b its2.toArray n2 dd sl notLong (by rw [List.size_toArray]; omega) (by omega)) ⟨e, ho, ?_⟩
  refine ⟨.non, _, I.lset (its' := its ++ its2) hH e (by simp) (r.append r2) ?_, rfl, q⟩
  rw [List.length_append]
  omega
end
end Ad

/-! Terms: a variable's number, or a name with arguments; where they stand. -/
namespace Ad
open PySem PySem.Spec PySem.Calls PyProof.Rows L2
/-- a name whose text is short -/
def nameOk (x : Str) : Bool := PyData.strOk x && decide ((PyData.shown (.str x)).length ≤ 10)
theorem nameOk_lay {x : Str} (h : nameOk x = true) : PyData.strOk x = true := (Bool.and_eq_true_iff.mp h).1
theorem nameOk_short {x : Str} (h : nameOk x = true) : (PyData.shown (.str x)).length ≤ 10 := of_decide_eq_true (Bool.and_eq_true_iff.mp h).2
inductive T where
  | v (i : Int)
  | f (x : Str) (ts : List T)
namespace T
mutual
def d : T → PyData
  | .v i => .int i
  | .f x ts => .tuple (.str x :: ds ts)
def ds : List T → List PyData
  | [] => []
  | t :: ts => d t :: ds ts
end
mutual
/-- all that stands in a term -/
def parts : T → List T
  | .v i => [.v i]
  | .f x ts => .f x ts :: partsL ts
def partsL : List T → List T
  | [] => []
  | t :: ts => parts t ++ partsL ts
end
mutual
def size : T → Nat
  | .v _ => 1
  | .f _ ts => 1 + sizeL ts
def sizeL : List T → Nat
  | [] => 0
  | t :: ts => size t + sizeL ts
end
mutual
def dep : T → Nat
  | .v _ => 0
  | .f _ ts => 1 + depL ts
def depL : List T → Nat
  | [] => 0
  | t :: ts => max (dep t) (depL ts)
end
mutual
/-- the variables, as often as they stand there -/
def vars : T → List Int
  | .v i => [i]
  | .f _ ts => varsL ts
def varsL : List T → List Int
  | [] => []
  | t :: ts => vars t ++ varsL ts
end
mutual
/-- all names can be laid -/
def named : T → Bool
  | .v _ => true
  | .f x ts => nameOk x && namedL ts
def namedL : List T → Bool
  | [] => true
  | t :: ts => named t && namedL ts
end
mutual
theorem parts_len : ∀ t : T, t.parts.length = t.size
  | .v _ => rfl
  | .f x ts => by
    show (partsL ts).length + 1 = 1 + sizeL ts
    rw [partsL_len ts]
    omega
theorem partsL_len : ∀ ts : List T, (partsL ts).length = sizeL ts
  | [] => rfl
  | t :: ts => by
    show (parts t ++ partsL ts).length = size t + sizeL ts
    rw [List.length_append, parts_len t, partsL_len ts]
end
theorem size_pos : ∀ t : T, 1 ≤ t.size
  | .v _ => Nat.le_refl _
  | .f _ _ => Nat.le_add_right _ _
mutual
theorem dep_size : ∀ t : T, t.dep ≤ t.size
  | .v _ => Nat.zero_le _
  | .f x ts => by
    show 1 + depL ts ≤ 1 + sizeL ts
    have h := depL_size ts
    omega
theorem depL_size : ∀ ts : List T, depL ts ≤ sizeL ts
  | [] => Nat.le_refl _
  | t :: ts => by
    show max (dep t) (depL ts) ≤ size t + sizeL ts
    have h1 := dep_size t
    have h2 := depL_size ts
    omega
end
mutual
theorem d_depth : ∀ t : T, t.d.depth = t.dep
  | .v _ => rfl
  | .f x ts => by
    show max 0 (PyData.depthAll (ds ts)) + 1 = 1 + depL ts
    rw [ds_depth ts]
    omega
theorem ds_depth : ∀ ts : List T, PyData.depthAll (ds ts) = depL ts
  | [] => rfl
  | t :: ts => by
    show max (PyData.depth (d t)) (PyData.depthAll (ds ts)) = max (dep t) (depL ts)
    rw [d_depth t, ds_depth ts]
end
mutual
theorem d_lay : ∀ t : T, t.named = true → t.d.canLay0 = true
  | .v _, _ => rfl
  | .f x ts, h => by
    have h' : (nameOk x && namedL ts) = true := h
    rw [Bool.and_eq_true] at h'
    show (PyData.strOk x && PyData.canLayAll0 (ds ts)) = true
    rw [nameOk_lay h'.1, ds_lay ts h'.2]
    rfl
theorem ds_lay : ∀ ts : List T, namedL ts = true → PyData.canLayAll0 (ds ts) = true
  | [], _ => rfl
  | t :: ts, h => by
    have h' : (named t && namedL ts) = true := h
    rw [Bool.and_eq_true] at h'
    show (PyData.canLay0 (d t) && PyData.canLayAll0 (ds ts)) = true
    rw [d_lay t h'.1, ds_lay ts h'.2]
    rfl
end
theorem shaped {t : T} (h : t.named = true) (small : t.dep ≤ 64) : SeqAt.shaped t.d = true := by
  unfold SeqAt.shaped
  rw [d_lay t h, d_depth t]
  exact decide_eq_true small
theorem ds_map : ∀ ts : List T, ds ts = ts.map d
  | [] => rfl
  | t :: ts => by
    show d t :: ds ts = _
    rw [ds_map ts]
    rfl
theorem partsL_append : ∀ (as bs : List T), partsL (as ++ bs) = partsL as ++ partsL bs
  | [], _ => rfl
  | t :: ts, bs => by
    show parts t ++ partsL (ts ++ bs) = parts t ++ partsL ts ++ partsL bs
    rw [partsL_append ts bs, List.append_assoc]
theorem sizeL_append : ∀ (as bs : List T), sizeL (as ++ bs) = sizeL as + sizeL bs
  | [], _ => (Nat.zero_add _).symm
  | t :: ts, bs => by
    show size t + sizeL (ts ++ bs) = size t + sizeL ts + sizeL bs
    rw [sizeL_append ts bs, Nat.add_assoc]
theorem sizeL_reverse : ∀ ts : List T, sizeL ts.reverse = sizeL ts
  | [] => rfl
  | t :: ts => by
    rw [List.reverse_cons, sizeL_append, sizeL_reverse ts]
    show sizeL ts + (size t + 0) = size t + sizeL ts
    omega
theorem size_mem {t : T} {ts : List T} (h : t ∈ ts) : t.size ≤ sizeL ts := by
  induction ts with
  | nil => cases h
  | cons u us ih =>
    show t.size ≤ size u + sizeL us
    rcases List.mem_cons.mp h with e | e
    · rw [e]; omega
    · have := ih e; omega
theorem len_sizeL : ∀ ts : List T, ts.length ≤ sizeL ts
  | [] => Nat.le_refl _
  | t :: ts => by
    show ts.length + 1 ≤ size t + sizeL ts
    have h1 := size_pos t
    have h2 := len_sizeL ts
    omega
theorem dep_mem {t : T} {ts : List T} (h : t ∈ ts) : t.dep ≤ depL ts := by
  induction ts with
  | nil => cases h
  | cons u us ih =>
    show t.dep ≤ max (dep u) (depL us)
    rcases List.mem_cons.mp h with e | e
    · rw [e]; omega
    · have := ih e; omega
theorem named_mem {t : T} {ts : List T} (h : t ∈ ts) (n : namedL ts = true) : t.named = true := by
  induction ts with
  | nil => cases h
  | cons u us ih =>
    have n' : (named u && namedL us) = true := n
    rw [Bool.and_eq_true] at n'
    rcases List.mem_cons.mp h with e | e
    · rw [e]; exact n'.1
    · exact ih e n'.2
end T
/-- tuples stay -/
def TK (H H' : Hp) : Prop := ∀ b xs, (H b = some (.tup xs) → H' b = some (.tup xs)) ∧ (∀ o, H b = some (.frz o (.tup xs)) → H' b = some (.frz o (.tup xs)))
theorem TK.refl (H : Hp) : TK H H := fun _ _ => ⟨id, fun _ => id⟩
theorem TK.trans {H H1 H2 : Hp} (a : TK H H1) (b : TK H1 H2) : TK H H2 := fun c xs => ⟨fun e => (b c xs).1 ((a c xs).1 e), fun o e => (b c xs).2 o ((a c xs).2 o e)⟩
theorem TK.same {H H' : Hp} (s : Same H H') : TK H H' := fun b _ => ⟨s b _, fun _ => s b _⟩
theorem TK.lst {H : Hp} {p : Addr} {ys : List V} (h : H p = some (.lst ys)) (o : HO) : TK H (upd H p o) := fun b xs => by
  refine ⟨fun e => ?_, fun u e => ?_⟩
  · have n : b ≠ p := fun z => by rw [z, h] at e; cases e
    rw [upd_ne n]; exact e
  · have n : b ≠ p := fun z => by rw [z, h] at e; cases e
    rw [upd_ne n]; exact e
theorem TK.new {H : Hp} {p : Addr} (h : H p = none) (o : HO) : TK H (upd H p o) := fun b xs => by
  refine ⟨fun e => ?_, fun u e => ?_⟩
  · have n : b ≠ p := fun z => by rw [z, h] at e; cases e
    rw [upd_ne n]; exact e
  · have n : b ≠ p := fun z => by rw [z, h] at e; cases e
    rw [upd_ne n]; exact e
section
variable {K : PySem.W.Frag} {H H' : Hp}
theorem TK.sq (k : TK H H') {a : Addr} {xs : List V} (h : SqT K H a xs) : SqT K H' a xs := by
  rcases h with (h | ⟨o, h⟩) | h
  · exact .inl (.inl ((k a xs).1 h))
  · exact .inl (.inr ⟨o, (k a xs).2 o h⟩)
  · exact .inr h
mutual
/-- a value is a term -/
def Tm (K : PySem.W.Frag) (H : Hp) : T → V → Prop
  | .v i, x => x = .int i
  | .f n ts, x => ∃ a xs, x = .ref a ∧ SqT K H a (.str n :: xs) ∧ Tms K H ts xs
def Tms (K : PySem.W.Frag) (H : Hp) : List T → List V → Prop
  | [], xs => xs = []
  | t :: ts, xs => ∃ y ys, xs = y :: ys ∧ Tm K H t y ∧ Tms K H ts ys
end
mutual
theorem Tm.mono (k : TK H H') : ∀ (t : T) (x : V), Tm K H t x → Tm K H' t x
  | .v _, _, h => h
  | .f n ts, x, h => by
    obtain ⟨a, xs, e, sq, all⟩ := h
    exact ⟨a, xs, e, k.sq sq, Tms.mono k ts xs all⟩
theorem Tms.mono (k : TK H H') : ∀ (ts : List T) (xs : List V), Tms K H ts xs → Tms K H' ts xs
  | [], _, h => h
  | t :: ts, xs, h => by
    obtain ⟨y, ys, e, one, all⟩ := h
    exact ⟨y, ys, e, Tm.mono k t y one, Tms.mono k ts ys all⟩
end
mutual
theorem Tm.dp : ∀ (t : T) (x : V), Tm K H t x → Dp K H x t.d
  | .v i, x, h => by
    cases (show x = .int i from h)
    exact .int i
  | .f n ts, x, h => by
    obtain ⟨a, xs, rfl, sq, all⟩ := h
    exact .tup sq (.cons (.str n) (Tms.dp ts xs all))
theorem Tms.dp : ∀ (ts : List T) (xs : List V), Tms K H ts xs → DpAll K H xs (T.ds ts)
  | [], xs, h => by
    cases (show xs = [] from h)
    exact .nil
  | t :: ts, xs, h => by
    obtain ⟨y, ys, rfl, one, all⟩ := h
    exact .cons (Tm.dp t y one) (Tms.dp ts ys all)
end
theorem Tms.len : ∀ {ts : List T} {xs : List V}, Tms K H ts xs → xs.length = ts.length
  | [], xs, h => by
    cases (show xs = [] from h)
    rfl
  | t :: ts, xs, h => by
    obtain ⟨y, ys, rfl, _, all⟩ := h
    rw [List.length_cons, List.length_cons, Tms.len all]
theorem Tms.app : ∀ {as : List T} {xs : List V} {bs : List T} {ys : List V}, Tms K H as xs → Tms K H bs ys → Tms K H (as ++ bs) (xs ++ ys)
  | [], xs, _, _, h, k => by
    cases (show xs = [] from h)
    exact k
  | t :: ts, xs, _, _, h, k => by
    obtain ⟨y, zs, rfl, one, all⟩ := h
    exact ⟨y, _, rfl, one, Tms.app all k⟩
theorem Tms.one {t : T} {x : V} (h : Tm K H t x) : Tms K H [t] [x] := ⟨x, [], rfl, h, rfl⟩
theorem Tms.rev : ∀ {ts : List T} {xs : List V}, Tms K H ts xs → Tms K H ts.reverse xs.reverse
  | [], xs, h => by
    cases (show xs = [] from h)
    exact rfl
  | t :: ts, xs, h => by
    obtain ⟨y, ys, rfl, one, all⟩ := h
    rw [List.reverse_cons, List.reverse_cons]
    exact Tms.app (Tms.rev all) (Tms.one one)
theorem Tms.get : ∀ {ts : List T} {xs : List V} {i : Nat} {x : V}, Tms K H ts xs → xs[i]? = some x → ∃ t, ts[i]? = some t ∧ Tm K H t x
  | [], xs, i, x, h, e => by
    cases (show xs = [] from h)
    cases e
  | t :: ts, xs, i, x, h, e => by
    obtain ⟨y, ys, rfl, one, all⟩ := h
    cases i with
    | zero =>
      cases e
      exact ⟨t, rfl, one⟩
    | succ i => exact Tms.get (ts := ts) (xs := ys) (i := i) all e
theorem Tms.get' : ∀ {ts : List T} {xs : List V} {i : Nat} {t : T}, Tms K H ts xs → ts[i]? = some t → ∃ x, xs[i]? = some x ∧ Tm K H t x
  | [], xs, i, x, h, e => by cases e
  | t :: ts, xs, i, x, h, e => by
    obtain ⟨y, ys, rfl, one, all⟩ := h
    cases i with
    | zero =>
      cases e
      exact ⟨y, rfl, one⟩
    | succ i => exact Tms.get' (ts := ts) (xs := ys) (i := i) all e
/-- the last of them -/
theorem Tms.last : ∀ {ts : List T} {xs : List V}, Tms K H ts xs → ts ≠ [] → ∃ us u ys y, ts = us ++ [u] ∧ xs = ys ++ [y] ∧ Tms K H us ys ∧ Tm K H u y
  | [], _, _, n => absurd rfl n
  | [t], xs, h, _ => by
    obtain ⟨y, ys, rfl, one, all⟩ := h
    cases (show ys = [] from all)
    exact ⟨[], t, [], y, rfl, rfl, rfl, one⟩
  | t :: u :: ts, xs, h, _ => by
    obtain ⟨y, ys, rfl, one, all⟩ := h
    obtain ⟨us, w, zs, z, e1, e2, a, b⟩ := Tms.last (ts := u :: ts) all (by simp)
    exact ⟨t :: us, w, y :: zs, z, by rw [e1]; rfl, by rw [e2]; rfl, ⟨y, zs, rfl, one, a⟩, b⟩
end
end Ad

/-! What stands in a term. -/
namespace Ad
open PySem PySem.Spec PySem.Calls PyProof.Rows L2
theorem sq_ty {K : PySem.W.Frag} {H : Hp} {a : Addr} {xs : List V} (h : SqT K H a xs) : TyX K H (.ref a) (.type "tuple") := by
  rcases h with (h | ⟨o, h⟩) | h
  · exact .base (.tup h)
  · exact .fTuple h
  · obtain ⟨o, _, _, e, c, _⟩ := h
    exact .kTuple e c
theorem tm_tuple {K : PySem.W.Frag} {H : Hp} {n : Str} {ts : List T} {x : V} (h : Tm K H (.f n ts) x) : TyX K H x (.type "tuple") := by
  obtain ⟨a, xs, rfl, sq, _⟩ := h
  exact sq_ty sq
theorem kitTT {K : PySem.W.Frag} : PySem.W.kitOne K (.type "tuple") (.type "tuple") = some true := kit_ty (by decide +kernel)
theorem kitIT {K : PySem.W.Frag} : PySem.W.kitOne K (.type "int") (.type "tuple") = some false := kit_ty (by decide +kernel)
theorem kitTI {K : PySem.W.Frag} : PySem.W.kitOne K (.type "tuple") (.type "int") = some false := kit_ty (by decide +kernel)
theorem kitII {K : PySem.W.Frag} : PySem.W.kitOne K (.type "int") (.type "int") = some true := kit_ty (by decide +kernel)
def lenAt (H : Hp) (p : Addr) : Nat := match H p with
  | some (.lst xs) => xs.length
  | _ => 0
theorem lenAt_of {H : Hp} {p : Addr} {xs : List V} (h : H p = some (.lst xs)) : lenAt H p = xs.length := by
  unfold lenAt
  rw [h]
theorem same_on {H H' : Hp} {p : Addr} (s : Same H H') (n : H p = none) (o : HO) : Same H (upd H' p o) := fun b u e => by
  rw [upd_ne (ne_of_none e n)]
  exact s b u e
/-- the truth of a value, as a test -/
def tTrue (K : PySem.W.Frag) (te : TE) : TT := fun σ H Q => te σ H fun x G => ∃ b, TruV K x G b ∧ Q b G
theorem pt_true {X : Cx} {e : Expr} {te : TE} (he : PE X e te) (plain : ∀ whole, isTrue e X.env whole = (do let v ← whole; standAt e.pos; holding [v] (truthy v)) := by intro _; rfl) : PT X e (tTrue X.K te) := pt_truth he plain
/-- a while by a word and a measure -/
theorem while_m {c : TT} {tb : TS} {D : Ends} {σ : L2.St} {H : Hp} (Pv : L2.St → Hp → Prop) (μ : L2.St → Hp → Nat) (start : Pv σ H)
    (turn : ∀ σ H, Pv σ H → c σ H fun b G => if b = true then tb { D with nx := fun σ' H' => Pv σ' H' ∧ μ σ' H' < μ σ H, ct := fun σ' H' => Pv σ' H' ∧ μ σ' H' < μ σ H, bk := D.nx } σ G else D.nx σ G) (mono : ∀ σ H Q Q', (∀ b G, Q b G → Q' b G) → c σ H Q → c σ H Q') :
    ∃ W : Nat → L2.St → Hp → Prop, (∃ m, W m σ H) ∧ ∀ m σ H, W m σ H → c σ H fun b G => if b = true then ∃ N : L2.St → Hp → Prop, (∀ σ' H', N σ' H' → ∃ m', m' < m ∧ W m' σ' H') ∧ tb { D with nx := N, ct := N, bk := D.nx } σ G else D.nx σ G :=
  while_by Pv μ start turn mono
theorem mono_true {K : PySem.W.Frag} {te : TE} (m : ∀ σ H (Q Q' : VK), (∀ v G, Q v G → Q' v G) → te σ H Q → te σ H Q') : ∀ σ H (Q Q' : Bool → Hp → Prop), (∀ b G, Q b G → Q' b G) → tTrue K te σ H Q → tTrue K te σ H Q' := fun σ H Q Q' imp h => m σ H _ _ (fun v G ⟨b, t, q⟩ => ⟨b, t, imp _ _ q⟩) h
theorem mono_var {i : Nat} : ∀ σ H (Q Q' : VK), (∀ v G, Q v G → Q' v G) → tVar i σ H Q → tVar i σ H Q' := fun _ _ _ _ imp ⟨v, e, q⟩ => ⟨v, e, imp _ _ q⟩
end Ad

/-! Paths; places_of. -/
namespace Ad
open PySem PySem.Spec PySem.Calls PyProof.Rows L2
/-- two lists, item by item -/
def F2 {α β : Type} (R : α → β → Prop) : List α → List β → Prop
  | [], ys => ys = []
  | x :: xs, ys => ∃ y zs, ys = y :: zs ∧ R x y ∧ F2 R xs zs
section
variable {α β : Type} {R S : α → β → Prop}
theorem F2.mono (imp : ∀ a b, R a b → S a b) : ∀ {xs : List α} {ys : List β}, F2 R xs ys → F2 S xs ys
  | [], _, h => h
  | x :: xs, _, h => by
    obtain ⟨y, zs, rfl, r, t⟩ := h
    exact ⟨y, zs, rfl, imp _ _ r, F2.mono imp t⟩
theorem F2.len : ∀ {xs : List α} {ys : List β}, F2 R xs ys → ys.length = xs.length
  | [], ys, h => by
    cases (show ys = [] from h)
    rfl
  | x :: xs, _, h => by
    obtain ⟨y, zs, rfl, r, t⟩ := h
    rw [List.length_cons, List.length_cons, F2.len t]
theorem F2.app : ∀ {xs xs' : List α} {ys ys' : List β}, F2 R xs ys → F2 R xs' ys' → F2 R (xs ++ xs') (ys ++ ys')
  | [], _, ys, _, h, k => by
    cases (show ys = [] from h)
    exact k
  | x :: xs, _, _, _, h, k => by
    obtain ⟨y, zs, rfl, r, t⟩ := h
    exact ⟨y, _, rfl, r, F2.app t k⟩
theorem F2.one {a : α} {b : β} (h : R a b) : F2 R [a] [b] := ⟨b, [], rfl, h, rfl⟩
theorem F2.last : ∀ {xs : List α} {ys : List β}, F2 R xs ys → xs ≠ [] → ∃ us u zs z, xs = us ++ [u] ∧ ys = zs ++ [z] ∧ F2 R us zs ∧ R u z
  | [], _, _, n => absurd rfl n
  | [x], ys, h, _ => by
    obtain ⟨y, zs, rfl, r, t⟩ := h
    cases (show zs = [] from t)
    exact ⟨[], x, [], y, rfl, rfl, rfl, r⟩
  | x :: x2 :: xs, ys, h, _ => by
    obtain ⟨y, zs, rfl, r, t⟩ := h
    obtain ⟨us, u, qs, q, e1, e2, a, b⟩ := F2.last (xs := x2 :: xs) t (by simp)
    exact ⟨x :: us, u, y :: qs, q, by rw [e1]; rfl, by rw [e2]; rfl, ⟨y, qs, rfl, r, a⟩, b⟩
theorem F2.get : ∀ {xs : List α} {ys : List β} {i : Nat} {y : β}, F2 R xs ys → ys[i]? = some y → ∃ x, xs[i]? = some x ∧ R x y
  | [], ys, i, y, h, e => by
    cases (show ys = [] from h)
    cases e
  | x :: xs, ys, i, y, h, e => by
    obtain ⟨z, zs, rfl, r, t⟩ := h
    cases i with
    | zero =>
      cases e
      exact ⟨x, rfl, r⟩
    | succ i => exact F2.get (xs := xs) (ys := zs) (i := i) t e
theorem F2.get' : ∀ {xs : List α} {ys : List β} {i : Nat} {x : α}, F2 R xs ys → xs[i]? = some x → ∃ y, ys[i]? = some y ∧ R x y
  | [], ys, i, x, h, e => by cases e
  | x :: xs, ys, i, y, h, e => by
    obtain ⟨z, zs, rfl, r, t⟩ := h
    cases i with
    | zero =>
      cases e
      exact ⟨z, rfl, r⟩
    | succ i => exact F2.get' (xs := xs) (ys := zs) (i := i) t e
theorem F2.mem : ∀ {xs : List α} {ys : List β} {y : β}, F2 R xs ys → y ∈ ys → ∃ x, x ∈ xs ∧ R x y := fun h m => by
  obtain ⟨i, hi, rfl⟩ := List.mem_iff_getElem.mp m
  obtain ⟨x, e, r⟩ := h.get (List.getElem?_eq_getElem hi)
  exact ⟨x, List.mem_of_getElem? e, r⟩
end
end Ad

/-! at, put_at. -/
namespace Ad
open PySem PySem.Spec PySem.Calls PyProof.Rows L2
def iD (ns : List Int) : PyData := .tuple (ns.map .int)
theorem int_lay : ∀ ns : List Int, PyData.canLayAll0 (ns.map .int) = true
  | [] => rfl
  | n :: ns => by
    show (true && PyData.canLayAll0 (ns.map .int)) = true
    rw [int_lay ns]
    rfl
theorem int_depth : ∀ ns : List Int, PyData.depthAll (ns.map .int) = 0
  | [] => rfl
  | n :: ns => by
    show max 0 (PyData.depthAll (ns.map .int)) = 0
    rw [int_depth ns]
    rfl
theorem iD_shaped (ns : List Int) : SeqAt.shaped (iD ns) = true := by
  unfold SeqAt.shaped
  have h1 : (iD ns).canLay0 = true := int_lay ns
  have h2 : (iD ns).depth = 1 := by
    show PyData.depthAll (ns.map .int) + 1 = 1
    rw [int_depth]
  rw [h1, h2]
  rfl
theorem ints_dp {K : PySem.W.Frag} {H : Hp} : ∀ ns : List Int, DpAll K H (ns.map V.int) (ns.map .int)
  | [] => .nil
  | n :: ns => .cons (.int n) (ints_dp ns)
theorem iD_dp {K : PySem.W.Frag} {H : Hp} {a : Addr} {ns : List Int} (h : SqT K H a (ns.map V.int)) : Dp K H (.ref a) (iD ns) := .tup h (ints_dp ns)
theorem iD_nil (ns : List Int) : PyData.eqv (iD ns) (iD []) = ns.isEmpty := by
  cases ns <;> first | rfl | (simp [iD, PyData.eqv, PyData.eqvAll])
theorem hu1 {k : Nat} {A : Around} (hr : Room k A) : A.units + 1 < cLine := by
  have := hr.un
  omega
theorem hu64 {k : Nat} {A : Around} (hr : Room k A) : A.units + 64 < cLine := by
  have := hr.un
  omega
section
variable {P : Program} {w : World} {K : PySem.W.Frag} {mg : Str → Option Value} {base : Heap}
theorem same_new {H H' : Hp} {p : Addr} (s : Same H H') (n : H' p = none) (o : HO) : Same H (upd H' p o) := fun b u e => by
  rw [upd_ne (ne_of_none (s b u e) n)]
  exact s b u e
theorem vac {k : Nat} {f : Addr} {fd : FuncData} {ps : List Str} {sp : Sp} (no : ∀ vs H Q E, ¬ sp vs H Q E) : FnOk P w K mg base CX0 k f fd ps sp :=
  ⟨fun vs H Q E h => absurd h (no vs H Q E), fun A outer s H args us vs Q E _ _ _ _ h => absurd h (no vs H Q E)⟩
end
end Ad

/-! The law's own going: is it a variable, size, variables. -/
namespace Ad
open PySem PySem.Spec PySem.Calls PyProof.Rows L2
namespace T
mutual
theorem v_parts (j : Int) : ∀ t : T, .v j ∈ parts t ↔ j ∈ vars t
  | .v i => by
    show T.v j ∈ [T.v i] ↔ j ∈ [i]
    rw [List.mem_singleton, List.mem_singleton]
    exact ⟨fun e => T.v.inj e, fun e => congrArg T.v e⟩
  | .f x ts => by
    show T.v j ∈ T.f x ts :: partsL ts ↔ j ∈ varsL ts
    rw [List.mem_cons, ← v_partsL j ts]
    exact ⟨fun h => h.elim (fun e => nomatch e) id, .inr⟩
theorem v_partsL (j : Int) : ∀ ts : List T, .v j ∈ partsL ts ↔ j ∈ varsL ts
  | [] => ⟨(fun h => nomatch h), (fun h => nomatch h)⟩
  | t :: ts => by
    show T.v j ∈ parts t ++ partsL ts ↔ j ∈ vars t ++ varsL ts
    rw [List.mem_append, List.mem_append, v_parts j t, v_partsL j ts]
end
mutual
theorem vars_len : ∀ t : T, t.vars.length ≤ t.size
  | .v _ => Nat.le_refl _
  | .f x ts => by
    show (varsL ts).length ≤ 1 + sizeL ts
    have := varsL_len ts
    omega
theorem varsL_len : ∀ ts : List T, (varsL ts).length ≤ sizeL ts
  | [] => Nat.le_refl _
  | t :: ts => by
    show (vars t ++ varsL ts).length ≤ size t + sizeL ts
    have h1 := vars_len t
    have h2 := varsL_len ts
    rw [List.length_append]
    omega
end
end T
def T.isV : T → Bool
  | .v _ => true
  | .f _ _ => false
def spIsVar (K : PySem.W.Frag) : Sp := fun vs H Q _ => ∃ (t : T) (x : V), vs = [x] ∧ Tm K H t x ∧ Q (.bl t.isV) H
theorem cut_args {x : V} {xs : List V} : ¬ (HT.sIx (x :: xs).length 0 (some 1) = 0 ∧ HT.sIx (x :: xs).length (x :: xs).length none = (x :: xs).length) ∧ cutV (x :: xs) (some 1) none = xs := by
  have e2 : HT.sIx (x :: xs).length 0 (some ((1 : Nat) : Int)) = 1 := by
    rw [HT.sIx_nat, List.length_cons]
    omega
  have e3 : HT.sIx (x :: xs).length 0 (some 1) = 1 := e2
  constructor
  · rw [e3]
    omega
  · unfold cutV
    rw [e3, HT.sIx_none]
    show xs.take _ = _
    rw [List.take_of_length_le]
    rw [List.length_cons]
    omega
theorem sum_sizes : ∀ ts : List T, (ts.map fun t => (t.size : Int)).sum = (T.sizeL ts : Int)
  | [] => rfl
  | t :: ts => by
    rw [List.map_cons, List.sum_cons, sum_sizes ts]
    show (t.size : Int) + (T.sizeL ts : Int) = ((t.size + T.sizeL ts : Nat) : Int)
    omega
section
variable {P : Program} {w : World} {K : PySem.W.Frag} {mg : Str → Option Value} {base : Heap}
theorem T.varsL_append : ∀ (as bs : List T), T.varsL (as ++ bs) = T.varsL as ++ T.varsL bs
  | [], _ => rfl
  | t :: ts, bs => by
    show T.vars t ++ T.varsL (ts ++ bs) = T.vars t ++ T.varsL ts ++ T.varsL bs
    rw [T.varsL_append ts bs, List.append_assoc]
theorem T.varsL_take (ts : List T) (i : Nat) : (T.varsL (ts.take i)).length ≤ T.sizeL ts := by
  have h1 := T.varsL_len (ts.take i)
  have h2 := T.sizeL_append (ts.take i) (ts.drop i)
  rw [List.take_append_drop] at h2
  omega
end
end Ad

/-! The pen of a law: its cells, its draws, its picks. -/
namespace Pn
open PySem PySem.Spec PyProof.Rows L2
abbrev sPen : Stmt := Ad.topS 9
abbrev sDraw : Stmt := Ad.topS 10
abbrev sPick : Stmt := Ad.topS 11
theorem scPen : FnScope ["_law_script", "_law_fold", "_law_cell"] ["_law_script"] (defScope sPen) := ⟨rfl, rfl, rfl, by decide +kernel, rfl, by decide +kernel, by decide +kernel⟩
theorem scDraw : FnScope ["_law_pen_here", "_law_many", "_law_cell", "_law_digit", "_law_blend"] ["_law_pen_here", "_law_many"] (defScope sDraw) := ⟨rfl, rfl, rfl, by decide +kernel, rfl, by decide +kernel, by decide +kernel⟩
theorem scPick : FnScope ["_law_pen_here", "_law_some"] ["_law_pen_here", "_law_some"] (defScope sPick) := ⟨rfl, rfl, rfl, by decide +kernel, rfl, by decide +kernel, by decide +kernel⟩
/-! ### the pen's dict -/
abbrev kC : Key := .inr "cells"
abbrev kA : Key := .inr "at"
abbrev kD : Key := .inr "digits"
abbrev kN : Key := .inr "count"
abbrev kF : Key := .inr "fold"
theorem nCA : ¬ (kC = kA) := by decide +kernel
theorem nCD : ¬ (kC = kD) := by decide +kernel
theorem nCN : ¬ (kC = kN) := by decide +kernel
theorem nCF : ¬ (kC = kF) := by decide +kernel
theorem nAD : ¬ (kA = kD) := by decide +kernel
theorem nAN : ¬ (kA = kN) := by decide +kernel
theorem nAF : ¬ (kA = kF) := by decide +kernel
theorem nDN : ¬ (kD = kN) := by decide +kernel
theorem nDF : ¬ (kD = kF) := by decide +kernel
theorem nNF : ¬ (kN = kF) := by decide +kernel
def penK (l : Addr) (a d n f : Int) : List (Key × V) := [(kC, .ref l), (kA, .int a), (kD, .int d), (kN, .int n), (kF, .int f)]
section
variable (l : Addr) (a d n f x : Int)
theorem getC : valV (penK l a d n f) kC = some (.ref l) := valV_pos rfl
theorem getA : valV (penK l a d n f) kA = some (.int a) := by
  unfold penK; rw [valV_neg nCA, valV_pos rfl]
theorem getD : valV (penK l a d n f) kD = some (.int d) := by
  unfold penK; rw [valV_neg nCD, valV_neg nAD, valV_pos rfl]
theorem getN : valV (penK l a d n f) kN = some (.int n) := by
  unfold penK; rw [valV_neg nCN, valV_neg nAN, valV_neg nDN, valV_pos rfl]
theorem getF : valV (penK l a d n f) kF = some (.int f) := by
  unfold penK; rw [valV_neg nCF, valV_neg nAF, valV_neg nDF, valV_neg nNF, valV_pos rfl]
theorem put_is {kvs : List (Key × V)} {k : Key} {v : V} (h : valV kvs k = some v) (y : V) : putK kvs k y = kvs.map fun kv => if kv.1 = k then (kv.1, y) else kv := by
  unfold putK
  rw [valV_any, h]
  rfl
theorem putA : putK (penK l a d n f) kA (.int x) = penK l x d n f := by
  rw [put_is (getA l a d n f)]
  show [_, _, _, _, _] = _
  dsimp only
  rw [if_neg nCA, if_pos rfl, if_neg (Ne.symm nAD), if_neg (Ne.symm nAN), if_neg (Ne.symm nAF)]
  rfl
theorem putD : putK (penK l a d n f) kD (.int x) = penK l a x n f := by
  rw [put_is (getD l a d n f)]
  show [_, _, _, _, _] = _
  dsimp only
  rw [if_neg nCD, if_neg nAD, if_pos rfl, if_neg (Ne.symm nDN), if_neg (Ne.symm nDF)]
  rfl
theorem putN : putK (penK l a d n f) kN (.int x) = penK l a d x f := by
  rw [put_is (getN l a d n f)]
  show [_, _, _, _, _] = _
  dsimp only
  rw [if_neg nCN, if_neg nAN, if_neg nDN, if_pos rfl, if_neg (Ne.symm nNF)]
  rfl
theorem putF' : putK (penK l a d n f) kF (.int x) = penK l a d n x := by
  rw [put_is (getF l a d n f)]
  show [_, _, _, _, _] = _
  dsimp only
  rw [if_neg nCF, if_neg nAF, if_neg nDF, if_neg nNF, if_pos rfl]
  rfl
theorem merge_pen : mergeK [] [(kC, .ref l), (kA, .int a), (kD, .int d), (kN, .int n), (kF, .int f)] = penK l a d n f := by
  unfold mergeK penK
  simp only [List.foldl_cons, List.foldl_nil]
  rw [putK_new (kvs := []) (k := kC) _ rfl]
  rw [putK_new (k := kA) _ (by rw [List.nil_append, valV_neg nCA]; rfl)]
  rw [putK_new (k := kD) _ (by rw [List.nil_append, List.cons_append, valV_neg nCD, List.nil_append, valV_neg nAD]; rfl)]
  rw [putK_new (k := kN) _ (by simp only [List.nil_append, List.cons_append]; rw [valV_neg nCN, valV_neg nAN, valV_neg nDN]; rfl)]
  rw [putK_new (k := kF) _ (by simp only [List.nil_append, List.cons_append]; rw [valV_neg nCF, valV_neg nAF, valV_neg nDF, valV_neg nNF]; rfl)]
  rfl
end
/-- a pen stands at p, its cells at l, so many draws done -/
structure Pen (H : Hp) (p l : Addr) (ns : List Int) (c : Nat) : Prop where
  ex : ∃ (a : Nat) (d f : Int), H p = some (.dK (penK l (a : Int) d (c : Int) f)) ∧ a ≤ ns.length ∧ 0 ≤ d ∧ 0 ≤ f ∧ f < 2147483648
  ls : H l = some (.lst (ns.map V.int))
theorem pen_ne {H : Hp} {p l : Addr} {ns : List Int} {c : Nat} (h : Pen H p l ns c) : p ≠ l := by
  obtain ⟨⟨a, d, f, e, _⟩, q⟩ := h
  exact ne_of e q (by intro z; cases z)
/-- all but the pen's dict stays -/
def But (p : Addr) (H H' : Hp) : Prop := ∀ b o, b ≠ p → H b = some o → H' b = some o
theorem But.refl (p : Addr) (H : Hp) : But p H H := fun _ _ _ h => h
theorem But.trans {p : Addr} {H H1 H2 : Hp} (a : But p H H1) (b : But p H1 H2) : But p H H2 := fun c o n h => b c o n (a c o n h)
theorem But.upd {p : Addr} (H : Hp) (o : HO) : But p H (L2.upd H p o) := fun b u n h => by rw [upd_ne n]; exact h
theorem But.of {p : Addr} {H H' : Hp} (s : Same H H') : But p H H' := fun b o _ h => s b o h
theorem same_upd {H : Hp} {p : Addr} {o : HO} (h : H p = none) : Same H (L2.upd H p o) := fun b x e => by
  rw [upd_ne (ne_of_none e h)]
  exact e
section
variable {P : Program} {w : World} {K : PySem.W.Frag} {mg : Str → Option Value} {base : Heap}
def spPen (K : PySem.W.Frag) : Sp := fun vs H Q _ => ∃ (a : Addr) (ns : List Int), vs = [.ref a] ∧ SqL K H a (ns.map V.int) ∧ ns.length ≤ 63 ∧
  ∀ H' p l, Same H H' → H p = none → H l = none → Pen H' p l ns 0 → Q (.ref p) H'
theorem ok_pen {f : Addr} {fd : FuncData} {k : Nat} (F : Fun K "_law_pen" "_law_pen" sPen f fd) (mi : mg "int" = none) (ml : mg "list" = none) : FnOk P w K mg base CX0 (k + 1) f fd ["_law_script"] (spPen K) := by
  refine F.ok scPen (fun vs H Q E h => ?_) (fun cdv A outer s H vs Q E hr h => ?_)
  · obtain ⟨a, ns, rfl, _⟩ := h
    rfl
  · obtain ⟨a, ns, rfl, hS, hlen, q⟩ := h
    refine ⟨_, pss_cons (ps_set (i := 1) scPen.nd rfl (.inl rfl) pe_int)
      (pss_cons (ps_for PassesOwn.never rfl (pi_list (pv 0)) (pg_name (i := 2) scPen.nd rfl (.inl rfl))
        (pss_one (ps_set (i := 1) scPen.nd rfl (.inl rfl) (pe_op op_mod (pe_callTy call_int1 (by rfl) mi (by decide +kernel) (pa_cons (pe_op op_add (pe_op op_mul (pv 1) pe_int) (pv 2)) pa_nil)) pe_int))))
      (pss_one (ps_ret (pe_disp (pps_cons pe_str (pe_callTy call_list_of (by rfl) ml (by decide +kernel) (pa_cons (pv 0) pa_nil))
        (pps_cons pe_str pe_int (pps_cons pe_str pe_int (pps_cons pe_str pe_int (pps_cons pe_str (pv 1) pps_nil))))) (by rfl) (by rfl) (fun z => by cases z) (by decide))))), ?_⟩
    refine ⟨.ref a, rfl, a, rfl, ⟨_, hS⟩, for_list (K := K) (a := a) (xs := ns.map V.int) (fun i σ H2 => ∃ (g : Int) (v : Option V), σ = [some (.ref a), some (.int g), v] ∧ H2 = H ∧ 0 ≤ g ∧ g < 1000000007)
      ⟨0, none, rfl, rfl, by decide, by decide⟩ (fun i σ H2 _ ⟨_, _, _, e, _⟩ => by rw [e]; exact hS) ?_ ?_⟩
    · rintro i y σ H2 hi ⟨g, v, rfl, rfl, g0, g1⟩
      obtain ⟨z, rfl⟩ : ∃ z, y = V.int z := by
        rw [List.getElem?_map] at hi
        cases e : ns[i]? with
        | none =>
          rw [e] at hi
          cases hi
        | some z =>
          rw [e] at hi
          exact ⟨z, (Option.some.inj hi).symm⟩
      refine ⟨.int g, rfl, _, _, rfl, rfl, .inr ⟨by decide, by decide⟩, .int z, rfl, _, _, rfl, rfl, .inl ⟨_, rfl, _, _, rfl, rfl, (by show (0 : Int) < 1000000007; decide), ?_⟩⟩
      exact ⟨(g * 47 + z) % 1000000007, some (.int z), rfl, rfl, Int.emod_nonneg _ (by decide), Int.emod_lt_of_pos _ (by decide)⟩
    · rintro σ H2 ⟨g, v, rfl, rfl, g0, g1⟩
      intro p hp
      refine ⟨.ref a, rfl, a, _, rfl, .inl ((same_upd hp).seq hS), fun l hl => ?_⟩
      have nlp : l ≠ p := fun e => by
        rw [e, upd_same] at hl
        cases hl
      have hl0 : H2 l = none := by rw [upd_ne nlp] at hl; exact hl
      refine ⟨.int g, rfl, by rw [upd_ne nlp.symm, upd_same], [(kC, .ref l), (kA, .int 0), (kD, .int 0), (kN, .int 0), (kF, .int g)], rfl, (by show 5 ≤ 15; decide), ?_⟩
      rw [merge_pen]
      refine q _ p l ?_ hp hl0 ⟨⟨0, 0, g, upd_same, Nat.zero_le _, by decide, g0, by omega⟩, ?_⟩
      · intro b o e
        have b1 : b ≠ p := ne_of_none e hp
        have b2 : b ≠ l := ne_of_none e hl0
        rw [upd_ne b1, upd_ne b2, upd_ne b1]
        exact e
      · rw [upd_ne nlp, upd_same]
end
end Pn

namespace Pn
open PySem PySem.Spec PyProof.Rows L2
theorem pget {H : Hp} {p : Addr} {kvs : List (Key × V)} {k : Key} {v : V} (e : H p = some (.dK kvs)) (h : valV kvs k = some v) : DGet H p (kV k) (some v) := by
  have q : DGet H p (kV k) (valV kvs k) := DGet.k e
  rw [h] at q
  exact q
theorem pput {H : Hp} {p : Addr} {kvs kvs' : List (Key × V)} {k : Key} {v : V} (e : H p = some (.dK kvs)) (hl : kvs.length < sizeLine) (h : putK kvs k v = kvs') : DPut H p (kV k) v (L2.upd H p (.dK kvs')) := by
  have q : DPut H p (kV k) v (L2.upd H p (.dK (putK kvs k v))) := DPut.k e hl
  rw [h] at q
  exact q
theorem penl (l : Addr) (a d n f : Int) : (penK l a d n f).length < sizeLine := by
  show 5 < sizeLine
  decide
theorem pow17 {b : Int} (h0 : 0 ≤ b) : 0 ≤ b ^ (17 : Int).toNat := Int.pow_nonneg h0
section
variable {P : Program} {w : World} {K : PySem.W.Frag} {mg : Str → Option Value} {base : Heap}
def spDraw : Sp := fun vs H Q _ => ∃ (p l : Addr) (ns : List Int) (c : Nat) (m : Int), vs = [.ref p, .int m] ∧ Pen H p l ns c ∧ ns.length ≤ 1000 ∧ c ≤ 1000000000 ∧ 1 ≤ m ∧ m ≤ 1000000 ∧
  ∀ r H', 0 ≤ r → r < m → Pen H' p l ns (c + 1) → But p H H' → Q (.int r) H'
theorem ok_draw {f : Addr} {fd : FuncData} {k : Nat} (F : Fun K "_law_draw" "_law_draw" sDraw f fd) (mi : mg "int" = none) (ml : mg "len" = none) : FnOk P w K mg base CX0 (k + 1) f fd ["_law_pen_here", "_law_many"] spDraw := by
  refine F.ok scDraw (fun vs H Q E h => ?_) (fun cdv A outer s H vs Q E hr h => ?_)
  · obtain ⟨p, l, ns, c, m, rfl, _⟩ := h
    rfl
  · obtain ⟨p, l, ns, c, m, rfl, hP, hlen, hc, m1, m2, q⟩ := h
    have hu := hu_of hr
    have npl : p ≠ l := pen_ne hP
    obtain ⟨⟨a, d, f0, e, ha, hd, hf, hf2⟩, hl⟩ := hP
    refine ⟨_, pss_cons (ps_dput hu (pv 0) pe_str (pe_op op_add (pe_dget hu (pv 0) pe_str (fun _ _ => rfl)) pe_int) rfl)
      (C8.pss_cut (ps_if (pw_and (pt_cmpR op_eq (pe_dget hu (pv 0) pe_str (fun _ _ => rfl)) pe_int (nomark _)) (pw_and1 (pt_cmpR op_lt (pe_dget hu (pv 0) pe_str (fun _ _ => rfl)) (pe_callB call_len_seq (by rfl) ml PySem.boot_len (pa_cons (pe_dget hu (pv 0) pe_str (fun _ _ => rfl)) pa_nil)) (nomark _)))).pt
        (pss_cons (ps_set (i := 2) scDraw.nd rfl (.inl rfl) (pe_ix ix_list (pe_dget hu (pv 0) pe_str (fun _ _ => rfl)) (pe_dget hu (pv 0) pe_str (fun _ _ => rfl)) (fun _ _ => rfl)))
        (pss_cons (ps_dput hu (pv 0) pe_str (pe_op op_add (pe_dget hu (pv 0) pe_str (fun _ _ => rfl)) pe_int) rfl)
        (pss_one (ps_if (pt_cmpR op_ge (pv 2) (pe_op op_pow pe_int pe_int) (nomark _))
          (pss_one (ps_dput hu (pv 0) pe_str (pe_op op_sub (pv 2) (pe_op op_pow pe_int pe_int)) rfl))
          (pss_one (ps_dput hu (pv 0) pe_str (pe_op op_mod (pe_callTy call_int1 (by rfl) mi (by decide +kernel) (pa_cons (pe_op op_add (pe_op op_mul (pe_dget hu (pv 0) pe_str (fun _ _ => rfl)) pe_int) (pv 2)) pa_nil)) pe_int) rfl))))))
        pss_nil)
      (pss_cons (ps_if (pt_cmpR op_gt (pe_dget hu (pv 0) pe_str (fun _ _ => rfl)) pe_int (nomark _))
        (pss_cons (ps_set (i := 3) scDraw.nd rfl (.inl rfl) (pe_op op_mod (pe_callTy call_int1 (by rfl) mi (by decide +kernel) (pa_cons (pe_dget hu (pv 0) pe_str (fun _ _ => rfl)) pa_nil)) (pv 1)))
        (pss_cons (ps_dput hu (pv 0) pe_str (pe_op op_fdiv (pe_dget hu (pv 0) pe_str (fun _ _ => rfl)) (pv 1)) rfl)
        (pss_one (ps_ret (pv 3)))))
        pss_nil)
      (pss_cons (ps_set (i := 4) scDraw.nd rfl (.inl rfl) (pe_op op_add (pe_op op_add (pe_dget hu (pv 0) pe_str (fun _ _ => rfl)) (pe_op op_mul (pe_dget hu (pv 0) pe_str (fun _ _ => rfl)) pe_int)) pe_int))
      (pss_one (ps_ret (pe_op op_mod (pe_op op_fdiv (pe_callTy call_int1 (by rfl) mi (by decide +kernel) (pa_cons (pe_op op_mod (pe_op op_pow (pv 4) pe_int) pe_int) pa_nil)) pe_int) (pv 1))))))), ?_⟩
    -- count
    refine ⟨.ref p, rfl, p, _, rfl, pget e (getN ..), _, _, rfl, rfl, .ref p, rfl, p, _, rfl, pput e (penl ..) (putN ..), ?_⟩
    have e1 : (L2.upd H p (.dK (penK l (a : Int) d ((c : Int) + 1) f0))) p = some (.dK (penK l (a : Int) d ((c : Int) + 1) f0)) := upd_same
    have l1 : (L2.upd H p (.dK (penK l (a : Int) d ((c : Int) + 1) f0))) l = some (.lst (ns.map V.int)) := by rw [upd_ne npl.symm]; exact hl
    have b1 : But p H (L2.upd H p (.dK (penK l (a : Int) d ((c : Int) + 1) f0))) := But.upd _ _
    generalize L2.upd H p (.dK (penK l (a : Int) d ((c : Int) + 1) f0)) = H1 at e1 l1 b1
    -- the cell
    refine ⟨fun σ H' => ∃ (v2 : Option V) (a : Nat) (d f : Int), σ = [some (.ref p), some (.int m), v2, none, none] ∧ H' p = some (.dK (penK l (a : Int) d ((c : Int) + 1) f)) ∧ a ≤ ns.length ∧ 0 ≤ d ∧ 0 ≤ f ∧ f < 2147483648 ∧ H' l = some (.lst (ns.map V.int)) ∧ But p H H', ?_, ?_⟩
    · refine ⟨.ref p, rfl, p, _, rfl, pget e1 (getD ..), rfl, _, rfl, ?_⟩
      refine ite2 (fun hd0 => ?_) (fun _ => ?_)
      · refine ⟨.ref p, rfl, p, _, rfl, pget e1 (getA ..), .ref p, rfl, p, _, rfl, pget e1 (getC ..), l, _, rfl, .inl (.inl (.inl l1)), _, _, rfl, rfl, _, rfl, ?_⟩
        refine ite2 (fun hlt => ?_) (fun _ => ?_)
        · have hlt' : (a : Int) < ((ns.map V.int).length : Int) := of_decide_eq_true hlt
          have hlt2 : a < ns.length := by
            rw [List.length_map] at hlt'
            omega
          have hz : (ns.map V.int)[a]? = some (.int ns[a]) := by
            rw [List.getElem?_map, List.getElem?_eq_getElem hlt2]
            rfl
          refine ⟨.ref p, rfl, p, _, rfl, pget e1 (getC ..), .ref p, rfl, p, _, rfl, pget e1 (getA ..), l, _, _, _, rfl, rfl, .inl (.inl l1), atI_nat hz, ?_⟩
          refine ⟨.ref p, rfl, p, _, rfl, pget e1 (getA ..), _, _, rfl, rfl, .ref p, rfl, p, _, rfl, pput e1 (penl ..) (putA ..), ?_⟩
          have e2 : (L2.upd H1 p (.dK (penK l ((a : Int) + 1) d ((c : Int) + 1) f0))) p = some (.dK (penK l ((a + 1 : Nat) : Int) d ((c : Int) + 1) f0)) := upd_same
          have l2 : (L2.upd H1 p (.dK (penK l ((a : Int) + 1) d ((c : Int) + 1) f0))) l = some (.lst (ns.map V.int)) := by rw [upd_ne npl.symm]; exact l1
          have b2 : But p H (L2.upd H1 p (.dK (penK l ((a : Int) + 1) d ((c : Int) + 1) f0))) := b1.trans (But.upd _ _)
          generalize L2.upd H1 p (.dK (penK l ((a : Int) + 1) d ((c : Int) + 1) f0)) = H2 at e2 l2 b2
          refine ⟨.int ns[a], rfl, _, _, rfl, rfl, ⟨by decide, by decide, by decide⟩, _, _, rfl, rfl, _, rfl, ?_⟩
          refine ite2 (fun hbig => ?_) (fun _ => ?_)
          · have hb : (10 : Int) ^ (18 : Int).toNat ≤ ns[a] := of_decide_eq_true hbig
            refine ⟨.int ns[a], rfl, _, _, rfl, rfl, ⟨by decide, by decide, by decide⟩, _, _, rfl, rfl, .ref p, rfl, p, _, rfl, pput e2 (penl ..) (putD ..), ?_⟩
            exact ⟨_, a + 1, _, f0, rfl, upd_same, hlt2, by omega, hf, hf2, by rw [upd_ne npl.symm]; exact l2, b2.trans (But.upd _ _)⟩
          · refine ⟨.ref p, rfl, p, _, rfl, pget e2 (getF ..), _, _, rfl, rfl, .inr ⟨by decide, by decide⟩, .int ns[a], rfl, _, _, rfl, rfl, .inl ⟨_, rfl, _, _, rfl, rfl, (by show (0 : Int) < 2147483587; decide), .ref p, rfl, p, _, rfl, pput e2 (penl ..) (putF' ..), ?_⟩⟩
            refine ⟨_, a + 1, d, _, rfl, upd_same, hlt2, hd, Int.emod_nonneg _ (by decide), Int.lt_trans (Int.emod_lt_of_pos _ (by decide)) (by decide), by rw [upd_ne npl.symm]; exact l2, b2.trans (But.upd _ _)⟩
        · exact ⟨none, a, d, f0, rfl, e1, ha, hd, hf, hf2, l1, b1⟩
      · refine iteF ?_
        exact ⟨none, a, d, f0, rfl, e1, ha, hd, hf, hf2, l1, b1⟩
    · rintro σ' H2 ⟨v2, a, d, f0, rfl, e2, ha, hd, hf, hf2, l2, b2⟩
      refine ⟨.ref p, rfl, p, _, rfl, pget e2 (getD ..), _, _, rfl, rfl, _, rfl, ?_⟩
      refine ite2 (fun _ => ?_) (fun _ => ?_)
      · refine ⟨.ref p, rfl, p, _, rfl, pget e2 (getD ..), .inl ⟨_, rfl, .int m, rfl, _, _, rfl, rfl, (by show 0 < m; omega), ?_⟩⟩
        refine ⟨.ref p, rfl, p, _, rfl, pget e2 (getD ..), .int m, rfl, _, _, rfl, rfl, ⟨(by omega), (by omega)⟩, .ref p, rfl, p, _, rfl, pput e2 (penl ..) (putD ..), ?_⟩
        refine ⟨.int (d % m), rfl, ?_⟩
        refine q _ _ (Int.emod_nonneg _ (by omega)) (Int.emod_lt_of_pos _ (by omega)) ⟨⟨a, d / m, f0, upd_same, ha, Int.ediv_nonneg hd (by omega), hf, hf2⟩, by rw [upd_ne npl.symm]; exact l2⟩ (b2.trans (But.upd _ _))
      · refine ⟨.ref p, rfl, p, _, rfl, pget e2 (getF ..), .ref p, rfl, p, _, rfl, pget e2 (getN ..), _, _, rfl, rfl, .inr ⟨by decide, by decide⟩, _, _, rfl, rfl, _, _, rfl, rfl, ?_⟩
        refine ⟨.int (f0 + ((c : Int) + 1) * 7907 + 43), rfl, _, _, rfl, rfl, ⟨by decide, by decide, by omega⟩, _, _, rfl, rfl, (by show (0 : Int) < 2305843009213693951; decide), .inl ⟨_, rfl, _, _, rfl, rfl, ⟨by decide, by decide⟩, .int m, rfl, _, _, rfl, rfl, (by show 0 < m; omega), ?_⟩⟩
        exact q _ _ (Int.emod_nonneg _ (by omega)) (Int.emod_lt_of_pos _ (by omega)) ⟨⟨a, d, f0, e2, ha, hd, hf, hf2⟩, l2⟩ b2
def spPick (K : PySem.W.Frag) : Sp := fun vs H Q _ => ∃ (p l s : Addr) (ns : List Int) (c : Nat) (xs : List V), vs = [.ref p, .ref s] ∧ Pen H p l ns c ∧ ns.length ≤ 1000 ∧ c ≤ 1000000000 ∧ (SqL K H s xs ∨ SqT K H s xs) ∧ xs ≠ [] ∧ xs.length ≤ 1000000 ∧ s ≠ p ∧
  ∀ x H', x ∈ xs → Pen H' p l ns (c + 1) → But p H H' → Q x H'
theorem But.sq {H H' : Hp} {p s : Addr} {xs : List V} (b : But p H H') (n : s ≠ p) (h : SqL K H s xs) : SqL K H' s xs := by
  rcases h with (h | ⟨o, h⟩) | h
  · exact .inl (.inl (b _ _ n h))
  · exact .inl (.inr ⟨o, b _ _ n h⟩)
  · exact .inr h
end
end Pn

namespace Pn
open PySem PySem.Spec PyProof.Rows L2
theorem ix_or {X : Cx} : IxR X (fun x y H Q => rIxL X.K x y H Q ∨ rIxT X.K x y H Q) := ix_list.or ix_tup
section
variable {P : Program} {w : World} {K : PySem.W.Frag} {mg : Str → Option Value} {base : Heap}
theorem ok_pick {f fD : Addr} {fd fdD : FuncData} {k : Nat} (F : Fun K "_law_pick" "_law_pick" sPick f fd) (G : FnOk P w K mg base CX0 (k + 1) fD fdD ["_law_pen_here", "_law_many"] spDraw) (gD : mg "_law_draw" = some (.ref fD)) (kD : PySem.W.keepIn K (.ref fD) = true) (bD : Binds K fdD ["_law_pen_here", "_law_many"] [])
    (ml : mg "len" = none) : FnOk P w K mg base CX0 (k + 2) f fd ["_law_pen_here", "_law_some"] (spPick K) := by
  refine F.ok scPick (fun vs H Q E h => ?_) (fun cdv A outer s H vs Q E hr h => ?_)
  · obtain ⟨p, l, s, ns, c, xs, rfl, _⟩ := h
    rfl
  · obtain ⟨p, l, s, ns, c, xs, rfl, hP, hlen, hc, hS, hne, hx, hsp, q⟩ := h
    refine ⟨_, pss_one (ps_ret (pe_ix ix_or (pv 1) (pe_call G hr (by rfl) gD kD bD .nil pass0 (pa_cons (pv 0) (pa_cons (pe_callB call_len_seq (by rfl) ml PySem.boot_len (pa_cons (pv 1) pa_nil)) pa_nil))) (fun _ _ => rfl))), ?_⟩
    have hpos : 1 ≤ xs.length := by
      cases xs with
      | nil => exact absurd rfl hne
      | cons x r => rw [List.length_cons]; omega
    refine ⟨.ref s, rfl, .ref p, rfl, .ref s, rfl, s, xs, rfl, hS, p, l, ns, c, _, rfl, hP, hlen, hc, by omega, by omega, fun r H' r0 r1 hP' b' => ?_⟩
    obtain ⟨j, rfl⟩ : ∃ j : Nat, r = (j : Int) := ⟨r.toNat, by omega⟩
    have hj : j < xs.length := by omega
    have hg : xs[j]? = some xs[j] := List.getElem?_eq_getElem hj
    rcases hS with hS | hS
    · exact .inl ⟨s, xs, _, _, rfl, rfl, b'.sq hsp hS, atI_nat hg, q _ _ (List.getElem_mem hj) hP' b'⟩
    · refine .inr ⟨s, xs, _, _, rfl, rfl, ?_, atI_nat hg, q _ _ (List.getElem_mem hj) hP' b'⟩
      rcases hS with (h | ⟨o, h⟩) | h
      · exact .inl (.inl (b' _ _ hsp h))
      · exact .inl (.inr ⟨o, b' _ _ hsp h⟩)
      · exact .inr h
end
end Pn

/-! Drawn terms. -/
namespace Ad
open PySem PySem.Spec PySem.Calls PyProof.Rows L2
/-- a row: name, number of arguments, weight -/
abbrev Row := Str × Nat × Int
def RowV (K : PySem.W.Frag) (H : Hp) (r : Row) (v : V) : Prop := ∃ b, v = .ref b ∧ SqT K H b [.str r.1, .int (r.2.1 : Int), .int r.2.2]
def RowsAt (K : PySem.W.Frag) (H : Hp) (a : Addr) (R : List Row) : Prop := ∃ b y vs, SqT K H a [.ref b, y] ∧ SqT K H b vs ∧ F2 (RowV K H) R vs
theorem RowV.mono {K : PySem.W.Frag} {H H' : Hp} (k : TK H H') (r : Row) (v : V) (h : RowV K H r v) : RowV K H' r v := by
  obtain ⟨b, e, s⟩ := h
  exact ⟨b, e, k.sq s⟩
theorem RowsAt.mono {K : PySem.W.Frag} {H H' : Hp} (k : TK H H') {a : Addr} {R : List Row} (h : RowsAt K H a R) : RowsAt K H' a R := by
  obtain ⟨b, y, vs, s1, s2, f⟩ := h
  exact ⟨b, y, vs, k.sq s1, k.sq s2, f.mono (RowV.mono k)⟩
/-- rows to draw from: names that can be laid, at most three arguments, one without any -/
structure ROk (R : List Row) : Prop where
  names : ∀ r ∈ R, nameOk r.1 = true ∧ r.2.1 ≤ 3
  const : ∃ (j : Nat) (r : Row), R[j]? = some r ∧ r.2.1 = 0
  few : R.length ≤ 1000
def sz : Nat → Nat
  | 0 => 1
  | d + 1 => 1 + 3 * sz d
def dn : Nat → Nat
  | 0 => 2
  | d + 1 => 2 + 3 * dn d
theorem two_dn : ∀ d, 2 ≤ dn d
  | 0 => Nat.le_refl _
  | _ + 1 => Nat.le_add_right _ _
theorem one_sz : ∀ d, 1 ≤ sz d
  | 0 => Nat.le_refl _
  | _ + 1 => Nat.le_add_right _ _
namespace Kb
mutual
/-- all names with their arities stand in the rows -/
def Wf (rk : List Row) : T → Prop
  | .v _ => True
  | .f x ts => (∃ r ∈ rk, r.1 = x ∧ r.2.1 = ts.length) ∧ WfL rk ts
def WfL (rk : List Row) : List T → Prop
  | [] => True
  | t :: ts => Wf rk t ∧ WfL rk ts
end
theorem wfL_of {rk : List Row} : ∀ {ts : List T}, (∀ t ∈ ts, Wf rk t) → WfL rk ts
  | [], _ => True.intro
  | t :: ts, h => ⟨h t (List.mem_cons_self ..), wfL_of fun u hu => h u (List.mem_cons_of_mem _ hu)⟩
mutual
theorem Wf.mono {rk rl : List Row} (h : ∀ r ∈ rk, r ∈ rl) : ∀ {t : T}, Wf rk t → Wf rl t
  | .v _, _ => True.intro
  | .f x ts, ⟨⟨r, hr, e⟩, k⟩ => ⟨⟨r, h r hr, e⟩, WfL.mono h k⟩
theorem WfL.mono {rk rl : List Row} (h : ∀ r ∈ rk, r ∈ rl) : ∀ {ts : List T}, WfL rk ts → WfL rl ts
  | [], _ => True.intro
  | t :: ts, ⟨a, b⟩ => ⟨Wf.mono h a, WfL.mono h b⟩
end
end Kb
/-- a drawn term of a depth, its variables below a number -/
structure DT (R : List Row) (deep : Nat) (nv : Int) (t : T) : Prop where
  named : t.named = true
  dep : t.dep ≤ deep + 1
  size : t.size ≤ sz deep
  vars : ∀ j ∈ t.vars, 0 ≤ j ∧ j < nv
  wf : Kb.Wf R t
theorem pen_tk {H H' : Hp} {p l : Addr} {ns : List Int} {c : Nat} (P : Pn.Pen H p l ns c) (b : Pn.But p H H') : TK H H' := by
  obtain ⟨⟨a, d, f, e, _⟩, _⟩ := P
  intro q xs
  refine ⟨fun h => b _ _ (fun z => ?_) h, fun o h => b _ _ (fun z => ?_) h⟩
  · rw [z, e] at h
    cases h
  · rw [z, e] at h
    cases h
theorem pen_same {H H' : Hp} {p l : Addr} {ns : List Int} {c : Nat} (P : Pn.Pen H p l ns c) (s : Same H H') : Pn.Pen H' p l ns c := by
  obtain ⟨⟨a, d, f, e, r⟩, h⟩ := P
  exact ⟨⟨a, d, f, s _ _ e, r⟩, s _ _ h⟩
def spDrawn (K : PySem.W.Frag) (n : Nat) : Sp := fun vs H Q _ => ∃ (p l ra : Addr) (ns : List Int) (c deep : Nat) (nv : Int) (R : List Row), vs = [.ref p, .ref ra, .int (deep : Int), .int nv] ∧ Pn.Pen H p l ns c ∧ ns.length ≤ 1000 ∧ c + dn deep ≤ 1000000000 ∧ RowsAt K H ra R ∧ ROk R ∧
  deep < n ∧ 0 ≤ nv ∧ nv ≤ 1000 ∧ ∀ t v H' c', Tm K H' t v → DT R deep nv t → c' ≤ c + dn deep → Pn.Pen H' p l ns c' → Pn.But p H H' → Q v H'
end Ad

/-! dict(t) of a tuple of pairs. -/
namespace Dt
open PySem PySem.Spec PySem.Calls PyProof.Rows L2
theorem tuple_keys_none : typeLookup (.type "tuple") "keys" = pure none := am_miss_of_fast (by first | decide +kernel | rfl)
section
variable {prog : Program} {w : World} {A : Around} {E : Value → Shared → Prop}
/-- a tuple has no attribute 'keys' -/
theorem no_keys {s : Shared} {a : Addr} {o : Obj} {xs : Array Value} {k : Nat} {Q : Option Value → Shared → Prop} (hx : s.heap.get? a = some o) (hc : o.cls = .type "tuple") (hdat : o.data = .seq xs k) (hd : o.dict = none) (hA : A.handled = none)
    (h : ∀ h' tk, (∀ b ob, s.heap.get? b = some ob → h'.get? b = some ob) → Q none { s with heap := h', toks := tk }) : wpAny (model prog w) A (getAttr? (.ref a) "keys") Q E s := by
  obtain ⟨c, dct, dat, sl⟩ := o
  simp only at hc hdat hd
  subst hc hdat hd
  obtain ⟨hp, g, d, tk, os⟩ := s
  have isT : ∀ tk', (⟨hp, g, d, tk', os⟩ : Shared).TypeIs (.ref a) "tuple" := fun _ => ⟨_, hx, rfl⟩
  have g1 := tuple_keys_none
  have g2 : (["__module__", "__name__", "__qualname__", "__doc__", "__annotations__"] : List Str).contains "keys" = false := by decide +kernel
  have g3 : ("keys" : Str).length + 100 ≤ sizeLine := by first | size_fits | decide +kernel
  have g4 := sub_AttributeError
  have g5 := PySem.F.slot_tuple_getattribute.lookup
  have g6 := PySem.F.slot_tuple_getattribute.bind (.ref a)
  have g7 := am_tuple_getattr_none
  unfold getAttr? getAttrBy? getAttrBy
  repeat (any_goals (first | assumption | exact isT _ | ((with_reducible show wpAny _ _ (call (Value.builtin "tuple.__getattribute__") _ _) _ _ _); refine call_meets PySem.F.slot_tuple_getattribute (isT _) am_entry_tuple_getattribute (PySem.F.args_tuple_getattribute_2 _ _) (meets_getattribute_miss_tuple a xs k sl "keys" _ g1 g2 g3) ⟨hx, hA, fun h' tk' e hx' => ?_⟩) | wp_step))
  obtain ⟨t', u', he⟩ := hx'.there
  show wpAny _ _ (getattributeRaised _ _ _ _ _ _ _) _ _ _
  unfold getattributeRaised
  repeat (any_goals (first | assumption | wp_step))
  all_goals first | exact h _ _ hx'.keeps | (dsimp only; repeat (any_goals (first | assumption | exact h _ _ hx'.keeps | wp_step)))
theorem walk {R : Result → Shared → Prop} {S I l : Addr} {items : Array Value} {res : Value} (hh : A.handled = none) (lI : l ≠ I) (sI : S ≠ I) (sl : S ≠ l) :
    ∀ (rest : List (L2.Key × Value)) (i : Nat) (acc : List (L2.Key × Value)) (ix : Int) (t : Tok) (s : Shared), items.size = i + rest.length → acc.length + rest.length ≤ sizeLine →
      (∀ (j : Nat) (q : L2.Key × Value), rest[j]? = some q → ∃ (b : Addr) (u : Value), items[i + j]? = some (.ref b) ∧ b ≠ S ∧ b ≠ I ∧ IsTup s.heap b #[u, q.2] ∧ keyIs q.1 u = true) →
      s.heap.IsTupleIter I l i → s.heap.IsTuple l items → s.heap.DictOf (mixKind prog w) S acc →
      (∀ h' tk, h'.DictOf (mixKind prog w) S (merged acc rest) → (∀ b o, b ≠ S → b ≠ I → s.heap.get? b = some o → h'.get? b = some o) → R (.ok (.ret res)) { s with heap := h', toks := tk }) →
      codeAny (model prog w) A (.builtin "dict.update.loop" ⟨[.ref S, .ref I, .int ix t, res], []⟩) R s
  | [], i, acc, ix, t, s, hsz, hln, ht, hit, hl, hm, hR => by
    refine codeAny_builtin ud_entry ?_
    rw [Around.under_plainId ud_plain _]
    show wpAny _ A.in1 (pyNext (.ref I) >>= _) _ _ s
    refine wpAny_bind (wpAny_pyNext_tuple_end (A := A.in1) hh hit hl (by first | exact Array.getElem?_eq_none (Nat.le_of_eq hsz) | (simp at hsz; simp; omega)) fun h' he => ?_)
    show wpAny _ A.in1 (Builtin.Dict.addKeywords S [] >>= _) _ _ _
    refine wpAny_bind (wpAny_pure (wpAny_pure ?_))
    exact hR h' s.toks (hm.extBut he sI) fun b o _ hb e => he b o hb e
  | q :: rest, i, acc, ix, t, s, hsz, hln, ht, hit, hl, hm, hR => by
    obtain ⟨b, u, hb, hbS, hbI, htup, hk⟩ := ht 0 q rfl
    rw [List.length_cons] at hsz hln
    refine codeAny_builtin ud_entry ?_
    rw [Around.under_plainId ud_plain _]
    show wpAny _ A.in1 (pyNext (.ref I) >>= _) _ _ s
    refine wpAny_bind (wpAny_pyNext_tuple_item (x := .ref b) hit hl (by simpa using hb) fun h1 hit1 hs1 => ?_)
    have tup1 : IsTup h1 b #[u, q.2] := htup.extBut hs1.extBut hbI
    have hl1 : h1.IsTuple l items := by
      obtain ⟨o, e, r⟩ := id hl
      exact ⟨o, hs1.extBut l o lI e, r⟩
    have hm1 : h1.DictOf (mixKind prog w) S acc := hm.extBut hs1.extBut sI
    obtain ⟨o, ho, hc, n, hd⟩ := id tup1
    show wpAny _ A.in1 (holding [Value.ref b] _ >>= _) _ _ _
    refine wpAny_bind (wpAny_holding (wpAny_bind (wpAny_tryCatch ?_)))
    unfold Builtin.Dict.pairItems
    refine wpAny_bind (wpAny_typeOf (T := "tuple") ⟨o, ho, hc⟩ ?_)
    rw [if_pos (by first | decide | rfl | simp)]
    refine wpAny_bind (wpAny_seqItems ho hd (wpAny_pure ?_))
    show wpAny _ A.in1 (holding [u, q.2] (dictSet S u q.2)) _ _ _
    refine wpAny_holding (wpAny_dictSet_pairs (knd := mixKind prog w) (k := q.1) hk hm1 (fun h2 hm2 hs2 => ?_) (by omega))
    refine wpAny_pure ⟨plainId_quiet ud_plain _, walk (items := items) hh lI sI sl rest (i + 1) (stored acc q.1 q.2) (ix + 1) 0 _ (show items.size = i + 1 + rest.length by omega) ?_ (fun j q' e => ?_) ?_ ?_ hm2 fun h' tk hd' k => ?_⟩
    · have z := stored_length_le acc q.1 q.2
      omega
    · obtain ⟨b', u', hb', hbS', hbI', htup', hk'⟩ := ht (j + 1) q' (by simpa using e)
      refine ⟨b', u', ?_, hbS', hbI', (htup'.extBut hs1.extBut hbI').extBut hs2.extBut hbS', hk'⟩
      rw [show i + 1 + j = i + (j + 1) by omega]
      exact hb'
    · exact hit1.at fun o' e => hs2.extBut I o' (Ne.symm sI) e
    · obtain ⟨o', e, r⟩ := id hl1
      exact ⟨o', hs2.extBut l o' (Ne.symm sl) e, r⟩
    · exact hR h' tk hd' fun c oc h3 h4 e => k c oc h3 h4 (hs2.extBut c oc h3 (hs1.extBut c oc h4 e))
theorem new_dict {s : Shared} {l : Addr} {ol : Obj} {items : Array Value} {n : Nat} {prs : List (L2.Key × Value)} {Q : Value → Shared → Prop} (hh : A.handled = none) (hl : s.heap.get? l = some ol) (hc : ol.cls = .type "tuple") (hd : ol.dict = none)
    (hdat : ol.data = .seq items n) (hsz : items.size = prs.length) (hln : prs.length ≤ sizeLine)
    (ht : ∀ (j : Nat) (q : L2.Key × Value), prs[j]? = some q → ∃ (b : Addr) (u : Value), items[j]? = some (.ref b) ∧ IsTup s.heap b #[u, q.2] ∧ keyIs q.1 u = true)
    (h : ∀ h' tk, h'.DictOf (mixKind prog w) s.heap.objs.size (merged [] prs) → (∀ b o, s.heap.get? b = some o → h'.get? b = some o) → Q (.ref s.heap.objs.size) { s with heap := h', toks := tk }) :
    wpAny (model prog w) A (call (.type "dict") [.ref l]) Q E s := by
  refine callType_codes (Q₁ := fun v sA => v = .ref s.heap.objs.size ∧ sA = { s with heap := s.heap.push { cls := .type "dict", data := .dict #[] } }) PySem.F.kt_called_dict (PySem.F.kt_typeCall_dict_1 _) PySem.F.entry_dict_init (kt_code_dict_new _ ⟨rfl, rfl⟩) ?_
  rintro v sA ⟨rfl, rfl⟩
  have made : (s.heap.push { cls := .type "dict", data := .dict #[] }).DictOf (mixKind prog w) s.heap.objs.size [] := Heap.DictOf.new s.heap
  have k0 : ∀ b o, s.heap.get? b = some o → (s.heap.push { cls := .type "dict", data := .dict #[] }).get? b = some o := fun b o e => Heap.get?_push_of_some _ e
  refine ⟨made.typeIs, PySem.F.args_dict_init_2 _ _, ?_⟩
  unfold Builtin.«dict.__init__»
  refine wpAny_bind ?_
  unfold Builtin.Dict.selfAndRest
  refine wpAny_bind (wpAny_notOrdered_dict made.typeIs ?_)
  show wpAny _ _ (pure (s.heap.objs.size, [Value.ref l])) _ _ _
  refine wpAny_pure ?_
  show wpAny _ _ (Builtin.Dict.updateFrom "dict.__init__" s.heap.objs.size (.ref l) [] .none) _ _ _
  unfold Builtin.Dict.updateFrom
  refine wpAny_bind (wpAny_typeOf (T := "tuple") ⟨ol, k0 _ _ hl, hc⟩ ?_)
  rw [if_pos (by first | decide | rfl | simp)]
  refine wpAny_bind (no_keys (k0 _ _ hl) hc hdat hd hh fun h1 tk1 hk1 => ?_)
  rw [if_pos (show (none : Option Value).isNone = true from rfl)]
  refine wpAny_bind (wpAny_rule ?_)
  have hl1 : h1.IsTuple l items := ⟨ol, hk1 _ _ (k0 _ _ hl), hc, n, hdat⟩
  have hS1 : s.heap.objs.size < h1.objs.size := by
    have e : (s.heap.push { cls := .type "dict", data := .dict #[] }).get? s.heap.objs.size = some { cls := .type "dict", data := .dict #[] } := Heap.get?_push_size _ rfl
    exact Heap.lt_size (hk1 _ _ e)
  refine wpAny_bind (wpAny_pyIter_tuple hl1 ?_)
  have k2 : ∀ b o, h1.get? b = some o → (h1.push { cls := .type "tuple_iterator", data := .fields #[.ref l, .int 0 0] }).get? b = some o := fun b o e => Heap.get?_push_of_some _ e
  have low : l < s.heap.objs.size := Heap.lt_size hl
  have key := walk (prog := prog) (w := w) (A := A.in1) (R := wants (fun r sB => r = .none ∧ Q (.ref s.heap.objs.size) sB) E) (S := s.heap.objs.size) (I := h1.objs.size) (l := l) (items := items) (res := Value.none) hh
    (Nat.ne_of_lt (Nat.lt_trans low hS1)) (Nat.ne_of_lt hS1) (Nat.ne_of_gt low) prs 0 [] 0 0
    { s with heap := h1.push { cls := .type "tuple_iterator", data := .fields #[.ref l, .int 0 0] }, toks := tk1 } (by rw [hsz, Nat.zero_add]) (by rw [List.length_nil, Nat.zero_add]; exact hln)
    (fun j q e => by
      obtain ⟨b, u, e1, e2, e3⟩ := ht j q e
      have hb : b < s.heap.objs.size := e2.lt
      exact ⟨b, u, by rw [Nat.zero_add]; exact e1, Nat.ne_of_lt hb, Nat.ne_of_lt (Nat.lt_trans hb hS1), e2.keeps fun c o z => k2 _ _ (hk1 _ _ (k0 _ _ z)), e3⟩)
    ⟨_, Heap.get?_push_size _ rfl, rfl, rfl⟩ (by
      obtain ⟨o', e, r⟩ := id hl1
      exact ⟨o', k2 _ _ e, r⟩) ((made.at fun o e => hk1 _ _ e).at fun o e => k2 _ _ e)
    (fun h' tk hd' k => ⟨rfl, h h' tk hd' fun b o e => k b o (Nat.ne_of_lt (Heap.lt_size e)) (Nat.ne_of_lt (Nat.lt_trans (Heap.lt_size e) hS1)) (k2 _ _ (hk1 _ _ (k0 _ _ e)))⟩)
  first
    | exact wpAny_pure ⟨plainId_quiet ud_plain _, key⟩
    | exact wpAny_bind (wpAny_pure (wpAny_pure ⟨plainId_quiet ud_plain _, key⟩))
end
/-- a tuple whose object is known: it bears no dict of its own -/
def Tup0 (H : Hp) (a : Addr) (xs : List V) : Prop := ∃ o : Obj, H a = some (.frz o (.tup xs)) ∧ o.dict = none
theorem Tup0.sq {K : PySem.W.Frag} {H : Hp} {a : Addr} {xs : List V} (h : Tup0 H a xs) : SqT K H a xs := by
  obtain ⟨o, e, _⟩ := h
  exact .inl (.inr ⟨o, e⟩)
section
variable {X : Cx}
/-- dict(t), t a tuple of pairs -/
theorem call_dictT (calm : X.calm = true) : CallR X (.type "dict") (fun xs H Q => ∃ (a : Addr) (ps : List Addr) (kvs : List (L2.Key × V)), xs = [.ref a] ∧ Tup0 H a (ps.map V.ref) ∧ Paired (fun p kv => SqT X.K H p [kV kv.1, kv.2]) ps kvs ∧
    ∀ p, H p = none → Q (.ref p) (upd H p (.dK (mergeK [] kvs)))) := by
  intro pins s σ H xs us Q I r q
  obtain ⟨a, ps, kvs, rfl, ⟨o, e, hd⟩, hp, q⟩ := q
  rw [Vals.ref1 r]
  obtain ⟨ho, hz, its, rv, ⟨o', ho', hc, n, hdat⟩⟩ := (show ObjOk X.prog X.w H s.heap a (.frz o (.tup (ps.map V.ref))) from I.hok a _ e)
  rw [ho] at ho'
  cases ho'
  have ei := refs_at rv
  subst ei
  rw [List.length_map] at hz
  obtain ⟨prs, rel, hl, hpr⟩ := pairs_of I hp
  refine new_dict (prs := prs) (I.ok.hd calm) ho hc hd hdat (by simp [hl]) (by rw [hl]; exact hz) (fun j q' e => ?_) fun h' tk hd' k => ?_
  · obtain ⟨b, u, e1, e2, e3⟩ := hpr j q' e
    exact ⟨b, u, by simp [e1], e2, e3⟩
  · have hm : (s.heap.objs.size == sysModules) = false := beq_eq_false_iff_ne.mpr (Nat.ne_of_gt I.big)
    have short : (mergeK [] kvs).length ≤ sizeLine := by
      refine Nat.le_trans (length_mergeK kvs []) ?_
      rw [List.length_nil, Nat.zero_add, rel.length, hl]
      exact hz
    exact ⟨.ref s.heap.objs.size, upd H s.heap.objs.size (.dK (mergeK [] kvs)), I.laid (t' := tk) k (Nat.le_refl _) (show ObjOk X.prog X.w _ _ _ (.dK (mergeK [] kvs)) from ⟨short, hm, merged [] prs, KV.merge rel .nil, hd'⟩), rfl, q _ (I.hok.fresh (Nat.le_refl _))⟩
/-- (a, b, ..), its object known -/
def tTup0 (t : TA) : TE := fun σ H Q => t σ H fun xs G => xs.length ≤ sizeLine ∧ ∀ p o, G p = none → o.dict = none → Q (.ref p) (upd G p (.frz o (.tup xs)))
theorem pe_tup0 {es : List Expr} {t : TA} {x1 : Nat} {pos : Pos} (h : PA X es t) : PE X (.Tuple es x1 pos) (tTup0 t) := by
  refine ⟨fun pins s σ H Q I hq => ?_⟩
  refine wpAny_Tuple_spliced (thn (h.run pos pins s σ H _ I hq) fun us s1 ⟨xs, H1, I1, r, z, q⟩ => ⟨by rw [← r.length]; exact z, ?_⟩)
  refine ⟨.ref s1.heap.objs.size, _, I1.laid (t' := s1.toks) (o := .frz { cls := .type "tuple", data := .seq us.toArray } (.tup xs)) (fun b u e => Heap.get?_push_of_some _ e) (Nat.le_refl _) ?_, rfl, q _ _ (I1.hok.fresh (Nat.le_refl _)) rfl⟩
  exact ⟨Heap.get?_push_size _ rfl, z, us, r, ⟨_, Heap.get?_push_size _ rfl, rfl, _, rfl⟩⟩
/-- tuple(xs) of a list, its object known -/
theorem call_tuple0 : CallR X (.type "tuple") (fun xs H Q => ∃ p ys, xs = [.ref p] ∧ SqL X.K H p ys ∧ ∀ q o, H q = none → o.dict = none → Q (.ref q) (upd H q (.frz o (.tup ys)))) := by
  intro pins s σ H xs us Q I r h
  obtain ⟨p, ys, rfl, hq, q⟩ := h
  rw [Vals.ref1 r]
  obtain ⟨its, r', pl, hz⟩ := I.list hq
  have len := r'.length
  refine call_tuple_list pl.isList (fun h' kp => ?_) (by simp only [List.size_toArray] <;> omega)
  have I1 : Inv X pins σ H { s with heap := h' } := I.kept (t' := s.toks) kp
  refine ⟨.ref h'.objs.size, _, I1.laid (t' := s.toks) (o := .frz { cls := .type "tuple", data := .seq its.toArray } (.tup ys)) (fun b o e => Heap.get?_push_of_some _ e) (Nat.le_refl _) ?_, rfl, q _ _ (I1.hok.fresh (Nat.le_refl _)) rfl⟩
  exact ⟨Heap.get?_push_size _ rfl, hz, its, r', IsTup.new _ _⟩
end
end Dt

/-! Substitutions. -/
namespace Ad
open PySem PySem.Spec PySem.Calls PyProof.Rows L2
abbrev Sb := List (Int × T)
namespace Sb
def look : Sb → Int → Option T
  | [], _ => none
  | (j, t) :: r, i => if j = i then some t else look r i
def put (tb : Sb) (i : Int) (t : T) : Sb := if (look tb i).isSome = true then tb.map (fun e => if e.1 = i then (e.1, t) else e) else tb ++ [(i, t)]
/-- what a variable becomes -/
def asg (tb : Sb) (i : Int) : T := (look tb i).getD (.v i)
theorem look_app (tb : Sb) (i : Int) (t : T) (j : Int) : look (tb ++ [(i, t)]) j = match look tb j with
    | some u => some u
    | none => if i = j then some t else none := by
  induction tb with
  | nil => rfl
  | cons e r ih =>
    obtain ⟨k, u⟩ := e
    show (if k = j then some u else look (r ++ [(i, t)]) j) = match (if k = j then some u else look r j) with | some u => some u | none => _
    by_cases h : k = j
    · rw [if_pos h, if_pos h]
    · rw [if_neg h, if_neg h, ih]
theorem look_map (tb : Sb) (i : Int) (t : T) (j : Int) : look (tb.map (fun e => if e.1 = i then (e.1, t) else e)) j = if i = j ∧ (look tb j).isSome = true then some t else look tb j := by
  induction tb with
  | nil =>
    rw [if_neg (by intro h; cases h.2)]
    rfl
  | cons e r ih =>
    obtain ⟨k, u⟩ := e
    show look ((if k = i then (k, t) else (k, u)) :: _) j = _
    by_cases h : k = i
    · rw [if_pos h]
      show (if k = j then some t else look (r.map _) j) = if i = j ∧ (if k = j then some u else look r j).isSome = true then some t else (if k = j then some u else look r j)
      by_cases hj : k = j
      · rw [if_pos hj, if_pos hj, if_pos ⟨h.symm.trans hj, rfl⟩]
      · have ne : ¬ i = j := fun z => hj (h.trans z)
        rw [if_neg hj, if_neg hj, ih]
    · rw [if_neg h]
      show (if k = j then some u else look (r.map _) j) = if i = j ∧ (if k = j then some u else look r j).isSome = true then some t else (if k = j then some u else look r j)
      by_cases hj : k = j
      · rw [if_pos hj, if_pos hj, if_neg (fun z => h (hj.trans z.1.symm))]
      · rw [if_neg hj, if_neg hj, ih]
theorem look_put (tb : Sb) (i : Int) (t : T) (j : Int) : look (put tb i t) j = if i = j then some t else look tb j := by
  unfold put
  by_cases h : (look tb i).isSome = true
  · rw [if_pos h, look_map]
    by_cases e : i = j
    · subst e
      rw [if_pos ⟨rfl, h⟩, if_pos rfl]
    · rw [if_neg (fun z => e z.1), if_neg e]
  · rw [if_neg h, look_app]
    by_cases e : i = j
    · subst e
      rw [if_pos rfl]
      cases z : look tb i with
      | none =>
        show some t = if i = i then some t else none
        exact (if_pos rfl).symm
      | some u =>
        rw [z] at h
        exact absurd rfl h
    · rw [if_neg e, if_neg e]
      cases look tb j <;> rfl
theorem look_key (tb : Sb) (i : Int) : (look tb i).isSome = true ↔ i ∈ tb.map (·.1) := by
  induction tb with
  | nil => exact ⟨(fun h => nomatch h), (fun h => nomatch h)⟩
  | cons e r ih =>
    obtain ⟨k, u⟩ := e
    show (if k = i then some u else look r i).isSome = true ↔ i ∈ k :: r.map (·.1)
    by_cases h : k = i
    · rw [if_pos h]
      exact ⟨fun _ => h ▸ List.mem_cons_self, fun _ => rfl⟩
    · rw [if_neg h, ih, List.mem_cons]
      exact ⟨.inr, fun z => z.elim (fun y => absurd y.symm h) id⟩
theorem keys_put (tb : Sb) (i : Int) (t : T) : (put tb i t).map (·.1) = if i ∈ tb.map (·.1) then tb.map (·.1) else tb.map (·.1) ++ [i] := by
  unfold put
  by_cases h : (look tb i).isSome = true
  · rw [if_pos h, if_pos ((look_key tb i).1 h), List.map_map]
    refine List.map_congr_left fun e _ => ?_
    show (if e.1 = i then (e.1, t) else e).1 = e.1
    split <;> rfl
  · rw [if_neg h, if_neg (fun z => h ((look_key tb i).2 z)), List.map_append]
    rfl
theorem nodup_put {tb : Sb} (h : (tb.map (·.1)).Nodup) (i : Int) (t : T) : ((put tb i t).map (·.1)).Nodup := by
  rw [keys_put]
  split
  · exact h
  · rename_i z
    rw [List.nodup_append]
    exact ⟨h, List.nodup_cons.mpr ⟨(fun y => nomatch y), List.nodup_nil⟩, fun a ha b hb e => z (by rw [List.mem_singleton.mp hb] at e; exact e ▸ ha)⟩
theorem len_put (tb : Sb) (i : Int) (t : T) : (put tb i t).length ≤ tb.length + 1 := by
  unfold put
  split
  · rw [List.length_map]
    exact Nat.le_succ _
  · rw [List.length_append]
    exact Nat.le_refl _
theorem mem_look {tb : Sb} (h : (tb.map (·.1)).Nodup) {i : Int} {t : T} : (i, t) ∈ tb ↔ look tb i = some t := by
  induction tb with
  | nil => exact ⟨(fun h => nomatch h), (fun h => nomatch h)⟩
  | cons e r ih =>
    obtain ⟨k, u⟩ := e
    obtain ⟨h1, h2⟩ := List.nodup_cons.mp h
    show _ ↔ (if k = i then some u else look r i) = some t
    by_cases z : k = i
    · rw [if_pos z, List.mem_cons]
      subst z
      constructor
      · rintro (y | y)
        · cases y
          rfl
        · exact absurd (List.mem_map.mpr ⟨_, y, rfl⟩) h1
      · intro y
        cases y
        exact .inl rfl
    · rw [if_neg z, List.mem_cons, ← ih h2]
      exact ⟨fun y => y.elim (fun x => absurd (congrArg Prod.fst x).symm z) id, .inr⟩
theorem look_mem {tb : Sb} {i : Int} {t : T} (h : look tb i = some t) : (i, t) ∈ tb := by
  induction tb with
  | nil => cases h
  | cons e r ih =>
    obtain ⟨k, u⟩ := e
    have h' : (if k = i then some u else look r i) = some t := h
    by_cases z : k = i
    · rw [if_pos z] at h'
      cases h'
      subst z
      exact List.mem_cons_self
    · rw [if_neg z] at h'
      exact List.mem_cons_of_mem _ (ih h')
end Sb
namespace T
mutual
def fill (s : Int → T) : T → T
  | .v i => s i
  | .f x ts => .f x (fillL s ts)
def fillL (s : Int → T) : List T → List T
  | [] => []
  | t :: ts => fill s t :: fillL s ts
end
theorem fillL_map (s : Int → T) : ∀ ts : List T, fillL s ts = ts.map (fill s)
  | [] => rfl
  | t :: ts => congrArg (fill s t :: ·) (fillL_map s ts)
mutual
theorem fill_fill (s r : Int → T) : ∀ t : T, fill r (fill s t) = fill (fun i => fill r (s i)) t
  | .v i => rfl
  | .f x ts => congrArg (T.f x) (fillL_fill s r ts)
theorem fillL_fill (s r : Int → T) : ∀ ts : List T, fillL r (fillL s ts) = fillL (fun i => fill r (s i)) ts
  | [] => rfl
  | t :: ts => by
    show fill r (fill s t) :: fillL r (fillL s ts) = _
    rw [fill_fill s r t, fillL_fill s r ts]
    rfl
end
mutual
theorem fill_congr {s r : Int → T} : ∀ t : T, (∀ j ∈ t.vars, s j = r j) → fill s t = fill r t
  | .v i, h => h i List.mem_cons_self
  | .f x ts, h => congrArg (T.f x) (fillL_congr ts h)
theorem fillL_congr {s r : Int → T} : ∀ ts : List T, (∀ j ∈ varsL ts, s j = r j) → fillL s ts = fillL r ts
  | [], _ => rfl
  | t :: ts, h => by
    show fill s t :: fillL s ts = _
    rw [fill_congr t fun j hj => h j (List.mem_append_left _ hj), fillL_congr ts fun j hj => h j (List.mem_append_right _ hj)]
    rfl
end
mutual
theorem fill_size {s : Int → T} {M : Nat} (one : 1 ≤ M) : ∀ t : T, (∀ j ∈ t.vars, (s j).size ≤ M) → (fill s t).size ≤ t.size * M
  | .v i, h => by
    have := h i List.mem_cons_self
    show (s i).size ≤ 1 * M
    omega
  | .f x ts, h => by
    have := fillL_size one ts h
    show 1 + sizeL (fillL s ts) ≤ (1 + sizeL ts) * M
    rw [Nat.add_mul]
    omega
theorem fillL_size {s : Int → T} {M : Nat} (one : 1 ≤ M) : ∀ ts : List T, (∀ j ∈ varsL ts, (s j).size ≤ M) → sizeL (fillL s ts) ≤ sizeL ts * M
  | [], _ => Nat.zero_le _
  | t :: ts, h => by
    have h1 := fill_size one t fun j hj => h j (List.mem_append_left _ hj)
    have h2 := fillL_size one ts fun j hj => h j (List.mem_append_right _ hj)
    show size (fill s t) + sizeL (fillL s ts) ≤ (size t + sizeL ts) * M
    rw [Nat.add_mul]
    omega
end
mutual
theorem fill_dep {s : Int → T} {D : Nat} : ∀ t : T, (∀ j ∈ t.vars, (s j).dep ≤ D) → (fill s t).dep ≤ t.dep + D
  | .v i, h => by
    have := h i List.mem_cons_self
    show (s i).dep ≤ 0 + D
    omega
  | .f x ts, h => by
    have := fillL_dep ts h
    show 1 + depL (fillL s ts) ≤ 1 + depL ts + D
    omega
theorem fillL_dep {s : Int → T} {D : Nat} : ∀ ts : List T, (∀ j ∈ varsL ts, (s j).dep ≤ D) → depL (fillL s ts) ≤ depL ts + D
  | [], _ => Nat.zero_le _
  | t :: ts, h => by
    have h1 := fill_dep t fun j hj => h j (List.mem_append_left _ hj)
    have h2 := fillL_dep ts fun j hj => h j (List.mem_append_right _ hj)
    show max (dep (fill s t)) (depL (fillL s ts)) ≤ max (dep t) (depL ts) + D
    omega
end
mutual
theorem fill_named {s : Int → T} : ∀ t : T, t.named = true → (∀ j ∈ t.vars, (s j).named = true) → (fill s t).named = true
  | .v i, _, h => h i List.mem_cons_self
  | .f x ts, n, h => by
    have n' : (nameOk x && namedL ts) = true := n
    rw [Bool.and_eq_true] at n'
    show (nameOk x && namedL (fillL s ts)) = true
    rw [n'.1, fillL_named ts n'.2 h]
    rfl
theorem fillL_named {s : Int → T} : ∀ ts : List T, namedL ts = true → (∀ j ∈ varsL ts, (s j).named = true) → namedL (fillL s ts) = true
  | [], _, _ => rfl
  | t :: ts, n, h => by
    have n' : (named t && namedL ts) = true := n
    rw [Bool.and_eq_true] at n'
    show (named (fill s t) && namedL (fillL s ts)) = true
    rw [fill_named t n'.1 fun j hj => h j (List.mem_append_left _ hj), fillL_named ts n'.2 fun j hj => h j (List.mem_append_right _ hj)]
    rfl
end
def isVar (i : Int) : T → Bool
  | .v j => decide (j = i)
  | .f _ _ => false
theorem isVar_iff {i : Int} {t : T} : isVar i t = true ↔ t = .v i := by
  cases t with
  | v j =>
    show decide (j = i) = true ↔ _
    rw [decide_eq_true_eq]
    exact ⟨fun e => congrArg T.v e, fun e => T.v.inj e⟩
  | f x ts => exact ⟨(fun h => nomatch h), (fun h => nomatch h)⟩
theorem eqv_var (t : T) (i : Int) : PyData.eqv t.d (.int i) = isVar i t := by
  cases t with
  | v j =>
    show PyData.eqv (.int j) (.int i) = decide (j = i)
    rw [PyData.eqv]
    first
      | rfl
      | (cases z : decide (j = i) <;> simp_all)
  | f x ts =>
    show PyData.eqv (.tuple _) (.int i) = false
    rw [PyData.eqv]
    all_goals (intros; first | contradiction | (intro z; cases z))
end T
namespace Sb
/-- the form of a substitution: rising, nothing that stays -/
structure Norm (tb su : Sb) : Prop where
  rising : (su.map (·.1)).Pairwise (· < ·)
  has : ∀ i t, (i, t) ∈ su ↔ look tb i = some t ∧ t.isVar i = false
theorem rising_nodup {l : List Int} (h : l.Pairwise (· < ·)) : l.Nodup := h.imp fun z e => by
  rw [e] at z
  exact Int.lt_irrefl _ z
theorem Norm.one {tb tb' su su' : Sb} (a : Norm tb su) (b : Norm tb' su') (same : ∀ i, look tb i = look tb' i) : su = su' := by
  have keys : su.map (·.1) = su'.map (·.1) := by
    refine rising_one' a.rising b.rising fun j => ?_
    constructor
    · intro h
      obtain ⟨⟨i, t⟩, h1, rfl⟩ := List.mem_map.mp h
      have h2 := (a.has i t).1 h1
      rw [same] at h2
      exact List.mem_map.mpr ⟨_, (b.has i t).2 h2, rfl⟩
    · intro h
      obtain ⟨⟨i, t⟩, h1, rfl⟩ := List.mem_map.mp h
      have h2 := (b.has i t).1 h1
      rw [← same] at h2
      exact List.mem_map.mpr ⟨_, (a.has i t).2 h2, rfl⟩
  have at' : ∀ {tb su : Sb}, Norm tb su → su.map some = su.map fun e => (look tb e.1).map fun t => (e.1, t) := by
    intro tb su n
    refine List.map_congr_left fun e he => ?_
    obtain ⟨i, t⟩ := e
    rw [((n.has i t).1 he).1]
    rfl
  have e1 : su.map some = (su.map (·.1)).map fun i => (look tb i).map fun t => (i, t) := by
    rw [at' a, List.map_map]
    rfl
  have e2 : su'.map some = (su'.map (·.1)).map fun i => (look tb' i).map fun t => (i, t) := by
    rw [at' b, List.map_map]
    rfl
  have e3 : su.map some = su'.map some := by
    rw [e1, e2, keys]
    exact List.map_congr_left fun i _ => by rw [same]
  exact List.map_inj_right (fun x y h => Option.some.inj h) |>.1 e3
where
  rising_one' : ∀ {as bs : List Int}, as.Pairwise (· < ·) → bs.Pairwise (· < ·) → (∀ j, j ∈ as ↔ j ∈ bs) → as = bs
    | [], [], _, _, _ => rfl
    | [], b :: bs, _, _, h => nomatch (h b).2 List.mem_cons_self
    | a :: as, [], _, _, h => nomatch (h a).1 List.mem_cons_self
    | a :: as, b :: bs, pa, pb, h => by
      obtain ⟨a1, a2⟩ := List.pairwise_cons.mp pa
      obtain ⟨b1, b2⟩ := List.pairwise_cons.mp pb
      have e : a = b := by
        rcases List.mem_cons.mp ((h a).1 List.mem_cons_self) with z | z
        · exact z
        · rcases List.mem_cons.mp ((h b).2 List.mem_cons_self) with y | y
          · exact y.symm
          · have h1 := b1 a z
            have h2 := a1 b y
            omega
      subst e
      congr 1
      refine rising_one' a2 b2 fun j => ⟨fun m => ?_, fun m => ?_⟩
      · rcases List.mem_cons.mp ((h j).1 (List.mem_cons_of_mem _ m)) with z | z
        · have := a1 j m
          omega
        · exact z
      · rcases List.mem_cons.mp ((h j).2 (List.mem_cons_of_mem _ m)) with z | z
        · have := b1 j m
          omega
        · exact z
/-- a substitution in its form does what the table does -/
theorem Norm.asg {tb su : Sb} (n : Norm tb su) (i : Int) : asg su i = asg tb i := by
  have nd := rising_nodup n.rising
  unfold Sb.asg
  cases h : look su i with
  | some t =>
    have m := (mem_look nd).2 h
    rw [((n.has i t).1 m).1]
  | none =>
    cases h2 : look tb i with
    | none => rfl
    | some t =>
      cases h3 : t.isVar i with
      | true => exact (T.isVar_iff.1 h3).symm
      | false =>
        have m := (mem_look nd).1 ((n.has i t).2 ⟨h2, h3⟩)
        rw [h] at m
        cases m
end Sb
/-! ### in the heap -/
/-- a table's entries -/
def TV (K : PySem.W.Frag) (H : Hp) (tb : Sb) (kvs : List (L2.Key × V)) : Prop := F2 (fun e kv => kv.1 = .inl e.1 ∧ Tm K H e.2 kv.2) tb kvs
section
variable {K : PySem.W.Frag} {H H' : Hp}
theorem TV.mono (k : TK H H') {tb : Sb} {kvs : List (L2.Key × V)} (h : TV K H tb kvs) : TV K H' tb kvs := F2.mono (fun _ _ z => ⟨z.1, Tm.mono k _ _ z.2⟩) h
theorem TV.val : ∀ {tb : Sb} {kvs : List (L2.Key × V)}, TV K H tb kvs → ∀ i, (tb.look i = none ∧ valV kvs (.inl i) = none) ∨ ∃ t v, tb.look i = some t ∧ valV kvs (.inl i) = some v ∧ Tm K H t v
  | [], kvs, h, i => by
    cases (show kvs = [] from h)
    exact .inl ⟨rfl, rfl⟩
  | (j, t) :: tb, kvs, h, i => by
    obtain ⟨kv, r, rfl, ⟨e, tm⟩, rest⟩ := h
    by_cases z : j = i
    · subst z
      exact .inr ⟨t, kv.2, if_pos rfl, valV_pos e, tm⟩
    · have ne : ¬ kv.1 = .inl i := fun y => z (by rw [e] at y; exact Sum.inl.inj y)
      rw [valV_neg ne]
      have e2 : Sb.look ((j, t) :: tb) i = Sb.look tb i := if_neg z
      rw [e2]
      exact TV.val (tb := tb) rest i
theorem TV.put {tb : Sb} {kvs : List (L2.Key × V)} (h : TV K H tb kvs) (i : Int) {t : T} {v : V} (tv : Tm K H t v) : TV K H (tb.put i t) (putK kvs (.inl i) v) := by
  unfold Sb.put putK
  have e : ((kvs.any fun kv => decide (kv.1 = .inl i)) = true) = ((tb.look i).isSome = true) := by
    rw [valV_any]
    rcases h.val i with ⟨a, b⟩ | ⟨t', v', a, b, _⟩
    · rw [a, b]
      rfl
    · rw [a, b]
      rfl
  simp only [e]
  split
  · clear e
    rename_i z
    clear z
    induction tb generalizing kvs with
    | nil =>
      cases (show kvs = [] from h)
      exact rfl
    | cons x tb ih =>
      obtain ⟨kv, r, rfl, ⟨e, tm⟩, rest⟩ := h
      refine ⟨_, _, rfl, ?_, ih rest⟩
      show (if kv.1 = .inl i then (kv.1, v) else kv).1 = .inl (if x.1 = i then (x.1, t) else x).1 ∧ Tm K H (if x.1 = i then (x.1, t) else x).2 (if kv.1 = .inl i then (kv.1, v) else kv).2
      by_cases y : x.1 = i
      · rw [if_pos y, if_pos (by rw [e, y])]
        exact ⟨e, tv⟩
      · rw [if_neg y, if_neg (fun z => y (by rw [e] at z; exact Sum.inl.inj z))]
        exact ⟨e, tm⟩
  · exact F2.app h (F2.one ⟨rfl, tv⟩)
theorem TV.keys : ∀ {tb : Sb} {kvs : List (L2.Key × V)}, TV K H tb kvs → kvs.map (·.1) = (tb.map (·.1)).map Sum.inl
  | [], kvs, h => by
    cases (show kvs = [] from h)
    rfl
  | e :: tb, kvs, h => by
    obtain ⟨kv, r, rfl, ⟨z, _⟩, rest⟩ := h
    show kv.1 :: r.map (·.1) = .inl e.1 :: _
    rw [z, TV.keys (tb := tb) rest]
theorem valV_out {kvs : List (L2.Key × V)} {k : L2.Key} (h : k ∉ kvs.map (·.1)) : valV kvs k = none := by
  induction kvs with
  | nil => rfl
  | cons p r ih =>
    rw [valV_neg (fun z => h (by rw [← z]; exact List.mem_cons_self))]
    exact ih fun z => h (List.mem_cons_of_mem _ z)
/-- pairs of unlike keys: all of them -/
theorem merge_all : ∀ (more kvs : List (L2.Key × V)), ((kvs ++ more).map (·.1)).Nodup → mergeK kvs more = kvs ++ more
  | [], kvs, _ => (List.append_nil _).symm
  | p :: more, kvs, h => by
    show mergeK (putK kvs p.1 p.2) more = _
    have out : p.1 ∉ kvs.map (·.1) := by
      intro z
      rw [List.map_append, List.nodup_append] at h
      exact h.2.2 p.1 z p.1 (by rw [List.map_cons]; exact List.mem_cons_self) rfl
    rw [putK_new _ (valV_out out)]
    have e : kvs ++ [(p.1, p.2)] ++ more = kvs ++ p :: more := by rw [List.append_assoc]; rfl
    rw [merge_all more _ (by rw [e]; exact h), e]
/-- a pair of a substitution -/
def SP (K : PySem.W.Frag) (H : Hp) (e : Int × T) (b : Addr) : Prop := ∃ v, SqT K H b [.int e.1, v] ∧ Tm K H e.2 v
/-- a substitution's value -/
def Su (K : PySem.W.Frag) (H : Hp) (su : Sb) (x : V) : Prop := ∃ (a : Addr) (bs : List Addr), x = .ref a ∧ Dt.Tup0 H a (bs.map V.ref) ∧ F2 (SP K H) su bs
theorem SP.mono (k : TK H H') (e : Int × T) (b : Addr) (h : SP K H e b) : SP K H' e b := by
  obtain ⟨v, s, t⟩ := h
  exact ⟨v, k.sq s, Tm.mono k _ _ t⟩
theorem tup0_mono (k : TK H H') {a : Addr} {xs : List V} (h : Dt.Tup0 H a xs) : Dt.Tup0 H' a xs := by
  obtain ⟨o, e, d⟩ := h
  exact ⟨o, (k a xs).2 o e, d⟩
theorem Su.mono (k : TK H H') {su : Sb} {x : V} (h : Su K H su x) : Su K H' su x := by
  obtain ⟨a, bs, e, t, f⟩ := h
  exact ⟨a, bs, e, tup0_mono k t, F2.mono (SP.mono k) f⟩
/-- its pairs as entries -/
theorem sp_pairs : ∀ {su : Sb} {bs : List Addr}, F2 (SP K H) su bs → ∃ kvs, Paired (fun p kv => SqT K H p [kV kv.1, kv.2]) bs kvs ∧ TV K H su kvs
  | [], bs, h => by
    cases (show bs = [] from h)
    exact ⟨[], .nil, rfl⟩
  | e :: su, bs, h => by
    obtain ⟨b, r, rfl, ⟨v, s, t⟩, rest⟩ := h
    obtain ⟨kvs, p, q⟩ := sp_pairs (su := su) rest
    exact ⟨(.inl e.1, v) :: kvs, .cons s p, _, _, rfl, ⟨rfl, t⟩, q⟩
end
end Ad

namespace Ad
open PySem PySem.Spec PySem.Calls PyProof.Rows L2
def spFilled (K : PySem.W.Frag) (n : Nat) : Sp := fun vs H Q _ => ∃ (t : T) (x : V) (d : Addr) (tb : Sb) (kvs : List (L2.Key × V)), vs = [x, .ref d] ∧ Tm K H t x ∧ H d = some (.dK kvs) ∧ TV K H tb kvs ∧ t.dep < n ∧ t.size ≤ 10000 ∧
  ∀ v H', Same H H' → Tm K H' (T.fill tb.asg t) v → Q v H'
def spPutIn (K : PySem.W.Frag) (n : Nat) : Sp := fun vs H Q _ => ∃ (t : T) (su : Sb) (x y : V), vs = [x, y] ∧ Tm K H t x ∧ Su K H su y ∧ (su.map (·.1)).Nodup ∧ t.dep < n ∧ t.size ≤ 10000 ∧ ∀ v H', Same H H' → Tm K H' (T.fill su.asg t) v → Q v H'
end Ad

/-! The run of a generator expression: its context, its start. -/
namespace Gx
open PySem PySem.Spec PySem.Calls PyProof.Rows L2
/-- the context of the run: its frame behind those that stood at s, its iterator's objects at fp -/
abbrev ctx (X : Cx) (s : Shared) (H : Hp) (e : Env) (fp : List Addr) (A : Around) (pn : List (Addr × Obj)) : Cx :=
  { X with A := A.deeper e, s_0 := s, H_0 := H, env := e, outer := X.stack, stack := e :: X.stack, ex := fp, fn := fun _ => false, calm := true, pn := pn, xe := fun _ _ => False }
theorem over_gen {A : Around} {e : Env} {elt tg iter : Expr} {ifs : List Expr} {scope : Scope} {pos : Pos} {it acc : Value} : A.over (.compLoop (.GeneratorExp elt [⟨tg, iter, ifs, 0⟩] scope pos) 0 it acc e) [] = A.deeper e := by
  first
    | rfl
    | (obtain ⟨hd, d, fr, gs, u⟩ := A; simp [Around.over, Around.deeper, marksOver, frameCount, unitsOf, envsOf, guardsOf, pushEnvs, pushGuards, Code.envs, Code.env?, Code.isFrame, Code.guards, Code.isGuard, Code.weight, Code.frames, Code.isCreation, Code.isCaller, Code.cUnits])
theorem over_start {A : Around} {e : Env} {elt tg iter : Expr} {ifs : List Expr} {scope : Scope} {pos : Pos} {it acc : Value} : A.over (.compStart (.GeneratorExp elt [⟨tg, iter, ifs, 0⟩] scope pos) 0 it acc e) [] = A.deeper e := by
  first
    | rfl
    | (obtain ⟨hd, d, fr, gs, u⟩ := A; simp [Around.over, Around.deeper, marksOver, frameCount, unitsOf, envsOf, guardsOf, pushEnvs, pushGuards, Code.envs, Code.env?, Code.isFrame, Code.guards, Code.isGuard, Code.weight, Code.frames, Code.isCreation, Code.isCaller, Code.cUnits])
section
variable {X : Cx} {pins : List (Addr × Obj)} {σ : L2.St} {H : Hp} {s : Shared}
theorem start {scope : Scope} {own : List (PySem.Str × Nat)} {fp : List Addr} {e : Env} {A : Around} {pn pins' : List (Addr × Obj)} {s' : Shared} {m : Str → Option Value} (I : Inv X pins σ H s) (ok : BlkOk X.N X.env.scope scope own) (nodup : X.N.Nodup) (noCell : ∀ y ∈ scope.names, y.2 ≠ .cell)
    (sc : e.scope = scope) (loc : e.locals = s.heap.objs.size) (glob : e.globals = mainGlobals) (blt : e.builtins = builtinsNs) (cells : e.cells = cloFrom X.env.cells scope.names []) (fr : e.frame = some e.locals)
    (ff : ∀ b ∈ fp, FpOk X pins H b ∧ b < s.heap.objs.size) (calm : A.handled = none) (frames : A.frames = some X.stack)
    (kp : ∀ b o, s.heap.get? b = some o → s'.heap.get? b = some o) (os : s'.os = s.os) (bare : AllBare s'.gens) (ns : s'.heap.Ns e.locals m)
    (pinned : ∀ p ∈ pn ++ pins', s'.heap.get? p.1 = some p.2 ∧ s.heap.objs.size < p.1 ∧ ∀ v, p.2.data ≠ .cell v) :
    Inv (ctx X s H e fp A pn) pins' (wipe σ (own.map (·.2))) H s' := by
  have from' : ∀ {y c}, e.cells.lookup y = some c → X.env.cells.lookup y = some c ∧ c < s.heap.objs.size := by
    intro y c h
    rw [cells] at h
    rcases cloFrom_mem (PySem.mem_of_lookup h) with z | ⟨h1, rfl⟩
    · cases z
    · obtain ⟨c, hc⟩ : ∃ c, X.env.cells.lookup y = some c := by
        rcases ok.free _ h1 rfl with k | k
        · exact I.ok.has _ (.inl k)
        · exact I.ok.has _ (.inr k)
      rw [hc]
      obtain ⟨w, z⟩ := I.cell _ _ hc
      exact ⟨rfl, z.lt⟩
  have to' : ∀ {y}, scope.names.lookup y = some .free → ∃ c, e.cells.lookup y = some c ∧ X.env.cells.lookup y = some c := by
    intro y h
    obtain ⟨c, hc⟩ := mem_lookup (cloFrom_has (cells := X.env.cells) (acc := []) (PySem.mem_of_lookup h))
    rw [← cells] at hc
    exact ⟨c, hc, (from' hc).1⟩
  refine ⟨?_, os, bare, Un.kept kp, ⟨m, ns, ?_⟩, ?_, ?_, ?_, ?_, I.hok.kept kp, ?_⟩
  · refine ⟨I.ok.mod, ?_, glob, blt, ?_, ?_, ?_, (fun x c z => nomatch z), fun _ => calm, Around.frames_deeper frames, .inr ⟨rfl, fr⟩, ?_, I.bs, Nat.le_trans I.ok.bsz I.sz, ?_, ?_, I.stack, I.stkFree⟩
    · show e.scope.kind = _
      rw [sc]
      exact ok.kind
    · show s.heap.objs.size ≤ e.locals
      rw [loc]
      exact Nat.le_refl _
    · intro x y c h1 h2
      exact I.ok.inj x y c (from' h1).1 (from' h2).1
    · intro x hx
      show ∃ c, e.cells.lookup x = some c
      have key : ∀ k, e.kindOf x = some k → (k = .cell ∨ k = .free) → ∃ c, e.cells.lookup x = some c := by
        intro k hk hk'
        unfold Env.kindOf at hk
        rw [sc] at hk
        rcases hk' with rfl | rfl
        · exact absurd rfl (noCell _ (PySem.mem_of_lookup hk))
        · obtain ⟨c, h, _⟩ := to' hk
          exact ⟨c, h⟩
      rcases hx with hx | hx
      · exact key _ hx (.inl rfl)
      · exact key _ hx (.inr rfl)
    · intro b hb
      refine ⟨?_, fun y c h z => ?_⟩
      · show b ≠ e.locals
        rw [loc]
        exact Nat.ne_of_lt (ff b hb).2
      · exact (ff b hb).1.2.2.2.2.1 y c (from' h).1 z
    · intro b o h hb
      rcases (ff b hb).1.2.2.2.1 with z | z
      · exact I.ok.noex b o h z
      · exact absurd (Nat.lt_of_lt_of_le (Heap.lt_size h) (Nat.le_trans I.ok.bsz z)) (Nat.lt_irrefl _)
    · intro b hb z
      rcases List.mem_cons.mp (I.stkSub b z) with z | z
      · exact (ff b hb).1.2.1 z
      · exact (ff b hb).1.2.2.1 z
  · intro i x v h1 h2 h3
    obtain ⟨h2, off⟩ := wipe_some h2
    have isFree : scope.names.lookup x = some .free := by
      have h3 : Vis e.scope x := h3
      rw [sc] at h3
      have no : ∀ k, scope.names.lookup x = some k → k = .local → False := by
        intro k hk hl
        rcases ok.own _ (PySem.mem_of_lookup hk) (.inl hl) with z | z
        · obtain ⟨p, hp, hpx⟩ := List.mem_map.mp z
          have h4 := ok.ix p hp
          have h5 : p.1 = x := hpx
          rw [h5] at h4
          exact off (List.mem_map.mpr ⟨p, hp, nodup_ix nodup h4 h1⟩)
        · exact z (List.mem_of_getElem? h1)
      rcases h3 with k | k | k
      · exact (no _ k rfl).elim
      · exact absurd rfl (noCell _ (PySem.mem_of_lookup k))
      · exact k
    obtain ⟨m0, _, look⟩ := I.loc
    have vis : Vis X.env.scope x := (ok.free _ (PySem.mem_of_lookup isFree) rfl).elim (fun k => .inr (.inl k)) fun k => .inr (.inr k)
    obtain ⟨u, r, q⟩ := look i x v h1 h2 vis
    obtain ⟨c, c1, c2⟩ := to' isFree
    refine ⟨u, r, .inr ⟨.inr ?_, c, c1, ?_⟩⟩
    · show e.scope.names.lookup x = some .free
      rw [sc]
      exact isFree
    · rcases q with ⟨k, _⟩ | ⟨_, c', e', z⟩
      · have k : X.env.scope.names.lookup x = some .local := k
        rcases ok.free _ (PySem.mem_of_lookup isFree) rfl with k' | k' <;> rw [show X.env.scope.names.lookup x = _ from k'] at k <;> cases k
      · rw [c2] at e'
        cases e'
        exact z.keeps kp
  · intro x c h
    obtain ⟨v, z⟩ := I.cell x c (from' h).1
    exact ⟨v, z.keeps kp⟩
  · show H e.locals = none
    rw [loc]
    exact I.hok.fresh (Nat.le_refl _)
  · intro x c h
    exact I.freeC x c (from' h).1
  · intro p hp
    obtain ⟨h1, h2, h3⟩ := pinned p hp
    refine ⟨h1, I.hok.fresh (Nat.le_of_lt h2), ?_, ?_, h3⟩
    · show p.1 ≠ e.locals
      rw [loc]
      exact Nat.ne_of_gt h2
    · intro z
      rcases List.mem_cons.mp (I.stkSub _ z) with z | z
      · have := I.lt
        rw [z] at h2
        exact absurd (Nat.lt_trans h2 this) (Nat.lt_irrefl _)
      · exact I.nofs (Nat.le_of_lt h2) z
  · rw [wipe_length]
    exact I.len
end
end Gx

/-! The run of a generator expression: its loop. -/
namespace Gx
open PySem PySem.Spec PySem.Calls PyProof.Rows L2
/-- what the run will hand out: J the walk; W turn, measure, what is out, heap -/
def Turns (J : It) (g : TG) (tt : TT) (te : TE) (vs : List Nat) (σ : L2.St) (cont : List V → Hp → Prop) (W : Nat → Nat → List V → Hp → Prop) : Prop := ∀ i m ys H, W i m ys H →
  (J.stop i H ∧ cont ys H) ∨ (J.go i H ∧ ∃ Nx : List V → Hp → Prop, (∀ ys' H', Nx ys' H' → ∃ m', m' < m ∧ W (i + 1) m' ys' H') ∧ ∀ x H', J.yld i H x H' → g x (wipe σ vs) H' fun σ2 H2 => wipe σ2 vs = wipe σ vs ∧ tt σ2 H2 fun b H3 =>
    if b = true then te σ2 H3 fun y H4 => ys.length < sizeLine ∧ Nx (ys ++ [y]) H4 else Nx ys H3)
/-- the end of such a run -/
def End (Y : Cx) (S : Addr) (cont : List V → Hp → Prop) : GenEnd := fun n _ r s => r = .ok .next ∧ ∃ ys ip σ H, n + ys.length = sizeLine ∧ GI Y S ip ys σ H s ∧ cont ys H
section
variable {Y : Cx} {A : Around} {S it : Addr} {fp : List Addr} {tn : Nat → Heap → Prop} {J : It} {elt tg iter : Expr} {ifs : List Expr} {scope : Scope} {pos : Pos} {g : TG} {tt : TT} {te : TE} {vs : List Nat} {σ : L2.St} {cont : List V → Hp → Prop} {W : Nat → Nat → List V → Hp → Prop}
theorem run (hov : A.over (.compLoop (.GeneratorExp elt [⟨tg, iter, ifs, 0⟩] scope pos) 0 (.ref it) .none Y.env) [] = Y.A) (calm : Y.calm = true) (co : Y.env.scope.isCoroutine = false) (noX : ∀ e s, Y.xe e s → False) (T : Turn Y.prog Y.w Y.K tg J fp it tn) (ex : Y.ex = fp)
    (pnS : ∀ p ∈ Y.pn, p.1 ≠ S) (pnF : ∀ p ∈ Y.pn, p.1 ∉ fp) (young : Apart Y S) (offS : S ∉ fp) (pg : PG Y tg g) (pt : PTs Y ifs tt) (pe : PE Y elt te) (turns : Turns J g tt te vs σ cont W) :
    ∀ (m n i : Nat) (ys : List V) (s₀ s : Shared) (H : Hp), n + ys.length = sizeLine → W i m ys H → GI Y S [] ys (wipe σ vs) H s → tn i s.heap → (∀ b ∈ fp, H b = none) →
      Seg (model Y.prog Y.w) A (End Y S cont) (GY Y S) n s₀ (.compLoop (.GeneratorExp elt [⟨tg, iter, ifs, 0⟩] scope pos) 0 (.ref it) .none Y.env)
        ((model Y.prog Y.w).den (.compLoop (.GeneratorExp elt [⟨tg, iter, ifs, 0⟩] scope pos) 0 (.ref it) .none Y.env)) [] s := by
  intro m
  induction m using Nat.strongRecOn with
  | ind m ih =>
    intro n i ys s₀ s H len w gi st none0
    obtain ⟨acc, cc, rv, I⟩ := gi
    have apart : ∀ {σ' : L2.St} {H' : Hp} {s' : Shared}, Inv Y [(S, lstObj acc cc)] σ' H' s' → (∀ b ∈ fp, H' b = none) → ∀ b ∈ fp, FpOk Y [(S, lstObj acc cc)] H' b := by
      intro σ' H' s' I' hn b hb
      have hb' : b ∈ Y.ex := by rw [ex]; exact hb
      refine ⟨hn b hb, (I'.ok.exf b hb').1, I'.ok.exfs b hb', .inl hb', fun x c e => (I'.ok.exf b hb').2 x c e, fun p hp z => ?_⟩
      rcases List.mem_append.mp hp with q | q
      · exact pnF p q (z ▸ hb)
      · rw [List.mem_singleton.mp q] at z
        have z' : S = b := z
        rw [← z'] at hb
        exact offS hb
    show Seg _ A _ _ _ s₀ _ ((compTurn (.GeneratorExp elt [⟨tg, iter, ifs, 0⟩] scope pos) 0 (.ref it) .none Y.env).onRaise (leaving Y.env)) [] s
    rw [compTurn_gen, Sem.onRaise_eq_wrap]
    refine seg_bind_wrap (wpAny_standAt ?_)
    refine seg_bind_wrap ?_
    rw [hov]
    rcases turns i m ys H w with ⟨stop, here⟩ | ⟨more, Nx, down, step⟩
    · refine wpAny_mono (T.done Y rfl rfl rfl calm i [(S, lstObj acc cc)] s _ H (fun _ _ => False) I (apart I none0) st stop) (fun r s6 r6 => ?_) fun x s' q => q.elim
      obtain ⟨rfl, I6⟩ := r6
      exact seg_end (.ok .next) ⟨rfl, ys, [], _, H, len, ⟨acc, cc, rv, I6⟩, here⟩
    · refine wpAny_mono (T.item Y rfl rfl rfl calm i [(S, lstObj acc cc)] s _ H (fun _ _ => False) I (apart I none0) st more) (fun r s6 r6 => ?_) fun x s' q => q.elim
      obtain ⟨u, rfl, h6⟩ := r6
      refine seg_bind_wrap ?_
      rw [hov]
      refine wpAny_mono h6 (fun _ s7 r7 => ?_) fun x s' q => q.elim
      obtain ⟨x, H7, I7, rx, y7, st7, n7⟩ := r7
      refine seg_bind_wrap ?_
      rw [hov]
      refine wpAny_mono (pg.run _ s7 _ H7 x u _ (I7.pinned (apart I7 n7) (T.obj _ _ st7)) rx (step x H7 y7)) (fun _ s8 r8 => ?_) fun x s' q => (noX _ _ q).elim
      obtain ⟨σ8, H8, I8, same, q8⟩ := r8
      refine seg_bind_wrap ?_
      rw [hov]
      refine wpAny_mono (pt.run _ s8 σ8 H8 _ I8 q8) (fun b s9 r9 => ?_) fun x s' q => (noX _ _ q).elim
      obtain ⟨H9, I9, q9⟩ := r9
      have lenσ : (wipe σ vs).length = σ8.length := by
        rw [← same]
        exact wipe_length ..
      have onward : ∀ {s' : Shared} {H' : Hp} {acc' : Array Value} {c' : Nat} {ys' : List V}, Vals ys' acc'.toList → Inv Y ([(S, lstObj acc' c')] ++ pinsAt fp s7.heap) σ8 H' s' → Nx ys' H' → ∀ n', n' + ys'.length = sizeLine → ∀ s₀',
          Seg (model Y.prog Y.w) A (End Y S cont) (GY Y S) n' s₀' (.compLoop (.GeneratorExp elt [⟨tg, iter, ifs, 0⟩] scope pos) 0 (.ref it) .none Y.env)
            ((model Y.prog Y.w).den (.compLoop (.GeneratorExp elt [⟨tg, iter, ifs, 0⟩] scope pos) 0 (.ref it) .none Y.env)) [] s' := by
        intro s' H' acc' c' ys' rv' I' nx n' len' s₀'
        obtain ⟨m', less, w'⟩ := down ys' H' nx
        have pinned : ∀ b ∈ fp, ∀ o, s7.heap.get? b = some o → s'.heap.get? b = some o ∧ H' b = none := by
          intro b hb o e
          have z := I'.pin (b, o) (List.mem_append_right _ (List.mem_append_right _ (mem_pinsAt hb e)))
          exact ⟨z.1, z.2.1⟩
        refine ih m' less n' (i + 1) ys' s₀' s' H' len' w' ⟨acc', c', rv', (I'.unpinned).weak lenσ ?_⟩ (T.keep _ _ _ st7 fun b hb o e => (pinned b hb o e).1) ?_
        · intro j v e
          rw [← same] at e
          exact (wipe_some e).1
        · intro b hb
          obtain ⟨o, e, _⟩ := T.obj _ _ st7 b hb
          exact (pinned b hb o e).2
      cases b with
      | false =>
        rw [if_neg Bool.false_ne_true] at q9
        simp only [Bool.false_eq_true, if_false]
        exact seg_again rfl (onward rv I9 q9 n len s₀)
      | true =>
        rw [if_pos rfl] at q9
        simp only [if_true]
        have hy : ∀ v, yieldOut Y.env v = yieldValue v := fun v => by simp only [yieldOut, co, Bool.false_eq_true, if_false]
        simp only [hy]
        rw [Sem.bind_eq_wrap', Sem.bind_eq_wrap', Sem.wrap_wrap, Sem.wrap_wrap]
        refine seg_wrap ?_
        rw [hov]
        refine wpAny_mono (pe.run _ s9 σ8 H9 _ I9 q9) (fun z s10 r10 => ?_) fun x s' q => (noX _ _ q).elim
        obtain ⟨yv, H10, I10, ry, room, nx⟩ := r10
        obtain ⟨n', rfl⟩ : ∃ n', n = n' + 1 := ⟨n - 1, by omega⟩
        have hip : ∀ p ∈ pinsAt fp s7.heap, p.1 ≠ S := fun p hp z => offS (z ▸ (of_pinsAt hp).1)
        have gi10 : GI Y S (pinsAt fp s7.heap) ys σ8 H10 s10 := ⟨acc, cc, rv, I10⟩
        refine seg_at (seg_yield rfl rfl rfl ⟨ys, yv, pinsAt fp s7.heap, σ8, H10, len, ry, gi10, fun s'' slept => ?_⟩)
        obtain ⟨acc', c', rv', I'⟩ := gi10.woken pnS hip young ry slept
        refine seg_again rfl (onward rv' I' nx n' ?_ s'')
        rw [List.length_append, List.length_singleton]
        omega
end
end Gx

/-! A generator expression as a value. -/
namespace Gx
open PySem PySem.Spec PySem.Calls PyProof.Rows L2 GxR
/-- (elt for tg in iter if ..); P: the def's table of code objects -/
def tGen (P : Addr) (wi : TI) (g : TG) (tt : TT) (te : TE) (vs : List Nat) : TGen := fun σ H cont => wi σ H fun J G => TabG G P ∧ ∀ G2, Tabbed P G G2 → ∃ W : Nat → Nat → List V → Hp → Prop, (∃ m, W 0 m [] G2) ∧ Turns J g tt te vs σ cont W
abbrev gEnv (X : Cx) (scope : Scope) (C : Addr) (cv : Value) : Env := genEnv scope (cloFrom X.env.cells scope.names []) C cv builtinsNs X.env
section
variable {X : Cx} {c P : Addr} {elt tg iter : Expr} {ifs : List Expr} {scope : Scope} {own : List (PySem.Str × Nat)} {pos : Pos} {wi : TI} {g : TG} {tt : TT} {te : TE} {k : Nat}
theorem pgen (room : Room (k + 1) X.A) (TB : TabB X.base X.mg c P) (code : X.env.code = .ref c) (nodup : X.N.Nodup) (walked : PI X tg iter wi) (blk : BlkOk X.N X.env.scope scope own) (noCell : ∀ y ∈ scope.names, y.2 ≠ .cell) (dot : scope.names.lookup (".0" : PySem.Str) = some NameKind.local) (co : scope.isCoroutine = false)
    (gg : ∀ (s : Shared) (H : Hp) (C : Addr) (cv : Value) (fp : List Addr) (A : Around) (pn : List (Addr × Obj)), PG (ctx X s H (gEnv X scope C cv) fp A pn) tg g)
    (gt : ∀ (s : Shared) (H : Hp) (C : Addr) (cv : Value) (fp : List Addr) (A : Around) (pn : List (Addr × Obj)), Room k (A.deeper (gEnv X scope C cv)) → PTs (ctx X s H (gEnv X scope C cv) fp A pn) ifs tt)
    (ge : ∀ (s : Shared) (H : Hp) (C : Addr) (cv : Value) (fp : List Addr) (A : Around) (pn : List (Addr × Obj)), Room k (A.deeper (gEnv X scope C cv)) → PE (ctx X s H (gEnv X scope C cv) fp A pn) elt te)
    (fold : ∀ v, genFold iter X.env v = pure v := by intro _; rfl) : PGen X (k + 1) (.GeneratorExp elt [⟨tg, iter, ifs, 0⟩] scope pos) (tGen P wi g tt te (own.map (·.2))) fun _ _ _ => False := by
  constructor
  intro pins s σ H cont I0 want
  have free : ∀ y ∈ scope.names, y.2 = .free → ∃ c, X.env.cells.lookup y.1 = some c := by
    intro y hy e
    rcases blk.free y hy e with z | z
    · exact I0.ok.has _ (.inl z)
    · exact I0.ok.has _ (.inr z)
  refine wpAny_GeneratorExp_make co (closure_ok free) noCell dot blk.kind (by have := room.dp; omega) ?_ fold
  refine thn (walked.run pins s σ H _ I0 want) fun xv s1 r1 => thn r1 fun itv s2 r2 => ?_
  obtain ⟨it, fp, tn, J, H2, rfl, I2, T, st2, f2, ⟨tab, hP, ht⟩, q⟩ := r2
  refine ⟨I2.nolimit, ?_⟩
  have tabS : s2.heap.get? P = some { cls := .none, data := .fields tab } := I2.hok P _ hP
  have cd : PySem.W.CodeHd s2.heap c P := TB.code.keeps fun b u e => I2.bk b u e
  have fpP : ∀ b ∈ fp, b ≠ P := by
    intro b hb z
    have e := (f2 b hb).1
    rw [z, hP] at e
    cases e
  have goOn : ∀ (cv : Value) (h3 : Heap) (tk : Nat) (tab' : Array Value), Heap.ExtBut P s2.heap h3 → s2.heap.objs.size ≤ h3.objs.size → h3.get? P = some { cls := .none, data := .fields tab' } → (∃ more, tab' = tab ++ more) → TriplesOk tab'.toList →
      wpAny (model X.prog X.w) X.A (builtinsFor X.env.globals X.env.builtins) (fun bi s₄ =>
        ∀ h', h'.Ns s₄.heap.objs.size (fun y => if y = ".0" then some (.ref it) else none) → Heap.SameBut s₄.heap.objs.size (s₄.heap.push { cls := .type "frame", data := .dict #[] }) h' →
          (fun u s' => ∃ H1 sc ex, Inv X pins σ H1 sc ∧ ExOk X pins ex ∧ GMade X.prog X.w (k + 1) X.stack H1 sc ex cont (fun _ _ _ => False) u s') (.ref h'.objs.size) { s₄ with
            gens := s₄.gens.push (.fresh (.compStart (.GeneratorExp elt [⟨tg, iter, ifs, 0⟩] scope pos) 0 (.ref it) .none (genEnv scope (cloFrom X.env.cells scope.names []) s₄.heap.objs.size cv bi X.env))),
            toks := s₄.toks + 1 + 1 + 1,
            heap := h'.push { cls := .type "generator", data := .fields #[.int s₄.gens.size 0, .str "<genexpr>" (s₄.toks + 1), .str (X.env.qual ++ "<genexpr>") (s₄.toks + 1 + 1)] } }) X.xe { s2 with heap := h3, toks := tk } := by
    intro cv h3 tk tab' ext grown tab3 more ok3
    obtain ⟨bm, ob, e1, e2, e3, e4, e5, e6, e7, e8⟩ := TB.bm
    refine wpAny_builtinsFor (m := X.mg) (by rw [I2.ok.glob]; exact (I2.mod.glob.keeps I2.bk).extBut ext TB.gP) e1 e2 (ext _ _ e4 (I2.bk _ _ e5)) e6 e7 e8 ?_
    intro h' hn' hs'
    obtain ⟨mo, em⟩ := more
    have I3 : Inv X pins σ (upd H2 P (.tbl (tab ++ mo))) { s2 with heap := h3, toks := tk } :=
      inv_tab (more := mo) (h' := h3) (g' := s2.gens) (d' := s2.drawn) (t' := tk) I2 hP (fun b u hb e => ext b u hb e) (by rw [← em]; exact tab3) I2.bare
    have tb3 : Tabbed P H2 (upd H2 P (.tbl (tab ++ mo))) := ⟨⟨tab ++ mo, upd_same, by rw [← em]; exact ok3⟩, fun b hb => upd_ne hb⟩
    obtain ⟨W, ⟨m0, w0⟩, turns⟩ := q _ tb3
    have f3 : ∀ b ∈ fp, FpOk X pins (upd H2 P (.tbl (tab ++ mo))) b := fun b hb => ⟨by rw [upd_ne (fpP b hb)]; exact (f2 b hb).1, (f2 b hb).2⟩
    have lt3 : ∀ b ∈ fp, b < h3.objs.size := by
      intro b hb
      obtain ⟨_, e, _⟩ := T.obj _ _ st2 b hb
      exact Nat.lt_of_lt_of_le (Heap.lt_size e) grown
    have st3 : tn 0 h3 := T.keep _ _ _ st2 fun b hb o e => ext b o (fpP b hb) e
    generalize upd H2 P (.tbl (tab ++ mo)) = H3 at I3 w0 f3
    generalize e3s : ({ s2 with heap := h3, toks := tk } : Shared) = s3 at I3
    have hh3 : s3.heap = h3 := congrArg Shared.heap e3s.symm
    clear e3s
    subst hh3
    have sz' : h'.objs.size = s3.heap.objs.size + 1 := by
      rw [hs'.1]
      exact Heap.size_push ..
    have kp' : ∀ b o, s3.heap.get? b = some o → h'.get? b = some o := fun b o e => hs'.extBut b o (Nat.ne_of_lt (Heap.lt_size e)) (Heap.get?_push_of_some _ e)
    refine ⟨H3, s3, fp, I3, fun b hb => ⟨(f3 b hb).2.2.2.1, (f3 b hb).2.1, (f3 b hb).2.2.2.2.1, (f3 b hb).2.2.2.2.2⟩, ?_⟩
    generalize ego : ({ cls := .type "generator", data := .fields #[.int s3.gens.size 0, .str "<genexpr>" (s3.toks + 1), .str (X.env.qual ++ "<genexpr>") (s3.toks + 1 + 1)] } : Obj) = go
    have isGen : ∀ h : Heap, h.get? h'.objs.size = some go → h.IsGen h'.objs.size s3.gens.size := by
      intro h e
      subst ego
      exact ⟨_, _, _, e, rfl, rfl, rfl⟩
    have pushed : (h'.push go).get? h'.objs.size = some go := by
      subst ego
      exact Heap.get?_push_size _ rfl
    have goData : ∀ v, go.data ≠ .cell v := by
      subst ego
      intro v z
      cases z
    have kpush : ∀ b o, s3.heap.get? b = some o → (h'.push go).get? b = some o := fun b o e => Heap.get?_push_of_some _ (kp' b o e)
    refine ⟨h'.objs.size, s3.gens.size, _, rfl, by rw [sz']; exact Nat.le_succ _, by show _ < (h'.push go).objs.size; rw [Heap.size_push]; exact Nat.lt_succ_self _, isGen _ pushed, Array.getElem?_push_size .., rfl, AllBare.push I3.bare rfl, ?_, fun b o e => kpush b o (e), ?_⟩
    · exact I3.nolimit.keeps fun b o e => kpush b o (e)
    intro A S s9 room9 frames9 young9 keep9 atS os9 bare9
    obtain ⟨cS, atS⟩ := atS
    have young9 : (h'.push go).objs.size ≤ S := young9
    rw [Heap.size_push] at young9
    have goAt : s9.heap.get? h'.objs.size = some go := keep9 _ _ pushed
    have kp9 : ∀ b o, s3.heap.get? b = some o → s9.heap.get? b = some o := fun b o e => keep9 b o (kpush b o (e))
    have ns9 : s9.heap.Ns (gEnv X scope s3.heap.objs.size cv).locals (fun y => if y = ".0" then some (.ref it) else none) := (hn'.push go).keeps fun b o e => keep9 b o e
    have I9 : Inv (ctx X s3 H3 (gEnv X scope s3.heap.objs.size cv) fp A [(h'.objs.size, go)]) [(S, lstObj #[] cS)] (wipe σ (own.map (·.2))) H3 s9 := by
      refine start I3 blk nodup noCell rfl rfl I0.ok.glob rfl rfl rfl (fun b hb => ⟨f3 b hb, lt3 b hb⟩) room9.hd frames9 kp9 os9 bare9 ns9 ?_
      intro p hp
      rcases List.mem_append.mp hp with z | z
      · rw [List.mem_singleton.mp z]
        refine ⟨goAt, ?_, goData⟩
        show s3.heap.objs.size < h'.objs.size
        rw [sz']
        exact Nat.lt_succ_self _
      · rw [List.mem_singleton.mp z]
        refine ⟨atS, ?_, fun v y => by cases y⟩
        show s3.heap.objs.size < S
        exact Nat.lt_of_lt_of_le (by rw [sz']; exact Nat.lt_succ_of_lt (Nat.lt_succ_self _)) young9
    have ltS : s3.heap.objs.size < S := Nat.lt_of_lt_of_le (by rw [sz']; exact Nat.lt_succ_of_lt (Nat.lt_succ_self _)) young9
    have apS : Apart (ctx X s3 H3 (gEnv X scope s3.heap.objs.size cv) fp A [(h'.objs.size, go)]) S := by
      refine ⟨by show s3.heap.objs.size ≤ S; exact Nat.le_of_lt ltS, Nat.ne_of_gt ltS, fun x c' e z => ?_⟩
      have e : (cloFrom X.env.cells scope.names []).lookup x = some c' := e
      rcases cloFrom_mem (PySem.mem_of_lookup e) with y | ⟨h1, rfl⟩
      · cases y
      · obtain ⟨c0, hc⟩ := free _ h1 rfl
        rw [hc] at z
        have z : c0 = S := z
        obtain ⟨v, y⟩ := I3.cell _ _ hc
        have lt := y.lt
        rw [z] at lt
        exact Nat.lt_irrefl _ (Nat.lt_trans lt ltS)
    have offS : S ∉ fp := fun z => Nat.lt_irrefl _ (Nat.lt_trans (lt3 S z) ltS)
    have st9 : tn 0 s9.heap := T.keep _ _ _ st3 fun b hb o e => kp9 b o e
    have deep := room9.deeper (gEnv X scope s3.heap.objs.size cv)
    have loop := run (Y := ctx X s3 H3 (gEnv X scope s3.heap.objs.size cv) fp A [(h'.objs.size, go)]) (A := A) (S := S) (it := it) (elt := elt) (tg := tg) (ifs := ifs) (scope := scope) (iter := iter) (pos := pos) (cont := cont) over_gen rfl co (fun _ _ z => z) T rfl
      (fun p hp => by rw [List.mem_singleton.mp hp]; exact Nat.ne_of_lt (Nat.lt_of_lt_of_le (Nat.lt_succ_self _) young9)) (fun p hp z => by
        rw [List.mem_singleton.mp hp] at z
        have := lt3 _ z
        rw [sz'] at this
        exact Nat.lt_irrefl _ (Nat.lt_trans (Nat.lt_succ_self _) this)) apS offS
      (gg s3 H3 s3.heap.objs.size cv fp A [(h'.objs.size, go)]) (gt s3 H3 s3.heap.objs.size cv fp A [(h'.objs.size, go)] deep) (ge s3 H3 s3.heap.objs.size cv fp A [(h'.objs.size, go)] deep) turns
      m0 sizeLine 0 [] s9 s9 H3 (Nat.add_zero _) w0 ⟨#[], cS, .nil, I9⟩ st9 (fun b hb => (f3 b hb).1)
    refine seg_imp (R := End (ctx X s3 H3 (gEnv X scope s3.heap.objs.size cv) fp A [(h'.objs.size, go)]) S cont) (Y := GY (ctx X s3 H3 (gEnv X scope s3.heap.objs.size cv) fp A [(h'.objs.size, go)]) S) (fun n s₀ r s1' hR => ?_) (fun n s₀ v s1' kap kap' hkk hY => ?_) sizeLine ?_
    · obtain ⟨rfl, ys, ip, σ', H', len, gi, fin⟩ := hR
      obtain ⟨a1, _, _, acc, cc, ra, ea⟩ := gi.at
      obtain ⟨_, _, _, K9⟩ := gi
      exact .inl ⟨.inr rfl, H', ys, acc, cc, K9.os, K9.bare, K9.base, K9.hok, a1, ea, ra, by omega, fin⟩
    · obtain ⟨ys, xx, ip, σ', H', len, h2, gi, h4⟩ := hY
      obtain ⟨_, _, _, acc, cc, ra, ea⟩ := gi.at
      obtain ⟨_, _, _, K9⟩ := gi
      have hg := isGen _ (K9.pin (h'.objs.size, go) (List.mem_append_left _ (List.mem_singleton.mpr rfl))).1
      have size : acc.size = ys.length := by
        have l1 := ra.length
        have l2 : acc.toList.length = acc.size := by simp
        omega
      exact ⟨K9.os, K9.bare, K9.nolimit, hg, ⟨acc, cc, ea, by rw [size]; exact len⟩, fun s' z => hkk _ _ (h4 s' z)⟩
    · show Seg _ A _ _ _ s9 _ ((compStart (.GeneratorExp elt [⟨tg, iter, ifs, 0⟩] scope pos) 0 (.ref it) .none (gEnv X scope s3.heap.objs.size cv)).onRaise (leaving (gEnv X scope s3.heap.objs.size cv))) [] s9
      unfold compStart
      rw [Sem.onRaise_eq_wrap]
      show Seg _ A _ _ _ s9 _ ((ask >>= _).wrap _ _ _ _) [] s9
      refine seg_bind_wrap (wpAny_askSetting ?_)
      split
      · exact seg_again rfl loop
      · first
          | exact seg_bind_wrap (wpAny_rule (seg_bind_wrap (wpAny_standAt (seg_bind_wrap (T.self _ 0 s9 _ _ st9 (seg_again rfl loop))))))
          | (refine seg_bind_wrap (wpAny_rule ?_); show Seg _ A _ _ _ s9 _ ((standAt iter.pos >>= _).wrap _ _ _ _) [] s9; exact seg_bind_wrap (wpAny_standAt (seg_bind_wrap (T.self _ 0 s9 _ _ st9 (seg_again rfl loop)))))
  cases hf : codeAmong pos tab.toList with
  | none =>
    refine wpAny_genexprCodeX code (cd.code tabS ht) (cd.tab tabS) hf fun c' h' tk hx hge hlt hco' _ htab' _ => ?_
    obtain ⟨o1, vs, f1, tf, fl, tg', inF, tx, tt', op, _, _, _, _, _, _, _, _, _, htr, _⟩ := hco'
    exact goOn _ h' tk _ hx (Nat.le_trans hge (Nat.le_of_lt hlt)) htab'.2 ⟨_, rfl⟩ htr
  | some cv =>
    refine wpAny_genexprCode_hit code (cd.code tabS ht) hf ?_
    exact goOn cv s2.heap s2.toks tab (Heap.ExtBut.refl _ _) (Nat.le_refl _) tabS ⟨#[], by simp⟩ ht
end
end Gx

/-! tuple(g) of a generator that has not begun. -/
namespace Gx
open PySem PySem.Spec PySem.Calls PyProof.Rows L2 GxR
section
variable {P : Program} {w : World} {outer : List Env} {H : Hp} {sc s : Shared} {ex : List Addr} {Q : List V → Hp → Prop} {A : Around} {k : Nat} {u : Value} {E : Value → Shared → Prop}
abbrev noEx : XK := fun _ _ _ => False
theorem never {e : Value} {s' : Shared} (h : CX P w outer H sc noEx e s') : False := by
  obtain ⟨a, B, H', cls, d, _, _, _, _, _, _, _, z⟩ := h
  exact z
/-- all that comes out of it -/
theorem gathered {Q' : List Value → Shared → Prop} (hr : Room (k + 1) A) (fr : A.frames = some outer) (made : GMade P w k outer H sc ex Q noEx u s)
    (hQ : ∀ S s' acc c H' ys, s.heap.objs.size ≤ S → s'.heap.get? S = some (lstObj acc c) → Vals ys acc.toList → ys.length ≤ sizeLine → s'.os = sc.os → AllBare s'.gens → Un (frs outer) ex H H' sc.heap s'.heap → HOk P w H' s'.heap → H' S = none → Q ys H' → Q' acc.toList s') :
    wpAny (model P w) A (collect u) Q' E s := by
  obtain ⟨a, g, c, rfl, above, below, isGen, fresh, os, bare, lim, old, wake⟩ := made
  have unlike : s.heap.objs.size ≠ a := Nat.ne_of_gt below
  have noStat : s.heap.objs.size ≠ cStatics := by
    obtain ⟨_, hn, _⟩ := lim
    exact Nat.ne_of_gt hn.lt
  unfold collect
  refine wpAny_bind (wpAny_runValue (codeAny_builtin F.entry_proto_collect ?_))
  rw [Around.under_plainId F.plain_proto_collect _]
  show wpAny _ A.in1 (newList [] >>= fun l => again (.builtin "list.__iadd__" ⟨[l, .ref a], []⟩)) _ _ s
  refine wpAny_bind (wpAny_newObj_type ?_)
  refine wpAny_pure ⟨plainId_quiet F.plain_list_iadd _, codeAny_builtin F.entry_list_iadd ?_⟩
  rw [Around.under_plainId F.plain_list_iadd _]
  have at1 : (s.heap.push { cls := .type "list", data := .seq ([] : List Value).toArray }).get? s.heap.objs.size = some { cls := .type "list", data := .seq ([] : List Value).toArray } := Heap.get?_push_size _ rfl
  have keep1 : ∀ b o, s.heap.get? b = some o → (s.heap.push { cls := .type "list", data := .seq ([] : List Value).toArray }).get? b = some o := fun b o e => Heap.get?_push_of_some _ e
  have up : ∀ (h : Heap) (f : Obj → Obj), (∀ b o, s.heap.get? b = some o → h.get? b = some o) → ∀ b o, s.heap.get? b = some o → (h.update s.heap.objs.size f).get? b = some o := fun h f q b o e =>
    (Heap.get?_update_other _ _ (Ne.symm (Nat.ne_of_lt (Heap.lt_size e)))).trans (q b o e)
  have genAt : ∀ {h : Heap}, (∀ b o, s.heap.get? b = some o → h.get? b = some o) → h.IsGen a g := fun {h} q => isGen.keeps q
  show wpAny _ A.in1 (Builtin.List.listExtendWith (.ref s.heap.objs.size) (.ref a) (.ref s.heap.objs.size)) _ _ _
  unfold Builtin.List.listExtendWith
  refine wpAny_bind (wpAny_typeOf (Heap.IsGen.typeIs (s := { s with heap := _ }) (genAt keep1)) ?_)
  have q1 : Builtin.List.listSameRef (.ref s.heap.objs.size) (.ref a) = false := by simp [Builtin.List.listSameRef, unlike]
  have q2 : (Value.type "generator" == Value.type "list") = false := by decide
  have q3 : (Value.type "generator" == Value.type "tuple") = false := by decide
  simp only [q1, q2, q3, Bool.or_false, Bool.false_eq_true, if_false]
  refine wpAny_bind (wpAny_pyIter_gen (s := { s with heap := _ }) (genAt keep1) ?_)
  refine wpAny_bind (wpAny_holding ?_)
  unfold Builtin.List.listLengthHint
  refine wpAny_bind (wpAny_specialOf (Heap.IsGen.typeIs (s := { s with heap := _ }) (genAt keep1)) F.gen_no_len ?_)
  show wpAny _ A.in1 (specialOf (Value.ref a) (Str.ofString "__length_hint__") >>= _) _ _ _
  refine wpAny_bind (wpAny_specialOf (Heap.IsGen.typeIs (s := { s with heap := _ }) (genAt keep1)) F.gen_no_hint ?_)
  refine wpAny_pure ?_
  show wpAny _ A.in1 (rule "list.extend.makes-room" >>= fun _ => Builtin.List.listTouch (.ref s.heap.objs.size) >>= fun _ =>
    again (.builtin "list.extend.loop" ⟨[.ref s.heap.objs.size, .ref a, .ref s.heap.objs.size], []⟩)) _ _ _
  refine wpAny_bind (wpAny_rule ?_)
  refine wpAny_bind ?_
  show wpAny _ A.in1 (updateSeq s.heap.objs.size (·.push .none) >>= fun _ => updateSeq s.heap.objs.size (·.pop)) _ _ _
  refine wpAny_bind (wpAny_updateSeq at1 rfl ?_)
  have at2 := Heap.get?_update_self (Obj.mapSeq (·.push Value.none)) at1 rfl
  refine wpAny_updateSeq (hz := by seq_fits) at2 rfl ?_
  have at3 := Heap.get?_update_self (Obj.mapSeq (·.pop)) at2 rfl
  have keep3 := up _ (Obj.mapSeq (·.pop)) (up _ (Obj.mapSeq (·.push Value.none)) keep1)
  refine wpAny_pure ⟨plainId_quiet F.plain_extend_loop _, ?_⟩
  refine drain (P := P) (w := w) (outer := outer) (H := H) (sc := sc) (ex := ex) (Q := Q) (EX := noEx) (A := A) (g := g) hr.hd (by have := hr.dp; show A.depth < _; omega) unlike noStat
    (fun s' acc c H' ys r1 r2 r3 r4 r5 r6 r7 r8 r9 => ?_) (fun e s' z => (never z).elim) sizeLine _ ?_ ?_ ⟨_, fresh, rfl, ?_⟩
  · show wpAny _ A (load s.heap.objs.size >>= _) _ _ s'
    refine wpAny_bind (wpAny_load r1 ?_)
    exact wpAny_pure (hQ s.heap.objs.size s' acc c H' ys (Nat.le_refl _) r1 r2 r3 r4 r5 r6 r7 r8 r9)
  · exact genAt keep3
  · exact lim.keeps keep3
  · refine wake _ _ _ ⟨hr.hd, ?_, ?_⟩ fr (Nat.le_refl _) keep3 ⟨_, at3⟩ os (allBare_setGen (s := { s with heap := _ }) bare rfl)
    · have := hr.dp
      show A.depth + 3 * k + 5 < _
      omega
    · have := hr.un
      show A.units + 1 + 1 + 16 * k + 200 < _
      omega
end
end Gx

/-! tuple(g), list(g) as expressions. -/
namespace Gx
open PySem PySem.Spec PySem.Calls PyProof.Rows L2 GxR
section
variable {P : Program} {w : World} {outer : List Env} {H : Hp} {sc s : Shared} {ex : List Addr} {Q : List V → Hp → Prop} {A : Around} {k : Nat} {u : Value} {E : Value → Shared → Prop}
theorem new_tuple {Q' : Value → Shared → Prop} (hr : Room (k + 2) A) (fr : A.frames = some outer) (made : GMade P w k outer H sc ex Q noEx u s)
    (hQ : ∀ (s' : Shared) (acc : Array Value) (H' : Hp) (ys : List V), s.heap.objs.size ≤ s'.heap.objs.size → Vals ys acc.toList → ys.length ≤ sizeLine → s'.os = sc.os → AllBare s'.gens → Un (frs outer) ex H H' sc.heap s'.heap → HOk P w H' s'.heap → Q ys H' → Q' (.ref s'.heap.objs.size) { s' with heap := s'.heap.push { cls := .type "tuple", data := .seq acc } }) :
    codeAny (model P w) A (.call (.builtin "tuple.__new__") ⟨[.type "tuple", u], []⟩) (wants Q' E) s := by
  have made' := made
  obtain ⟨a, g, c, rfl, _, _, isGen, _⟩ := made'
  refine codeAny_of_tree ?_
  show wpAny _ A.in1 (do checkBuiltinCall "tuple.__new__" ⟨[.type "tuple", .ref a], []⟩; again (.builtin "tuple.__new__" ⟨[.type "tuple", .ref a], []⟩)) _ _ s
  refine wpAny_bind (wpAny_of_eq (F.newCall_tuple_1 _) (wpAny_pure ⟨plainId_quiet F.plain_tuple_new _, codeAny_builtin F.entry_tuple_new ?_⟩))
  rw [Around.under_plainId F.plain_tuple_new _]
  have q1 := sub_tuple_self
  have q2 := init_tuple_lookup
  have q3 := madeHere_tuple
  have q4 := isGen.typeIs (s := s)
  have fr1 : A.in1.frames = some outer := fr
  wp_walk using wpAny_typeOf q4, gathered (k := k) hr.in1 fr1 made
  intro S s' acc c' H' ys r1 r2 r3 r4 r5 r6 r7 r8 r9 r10
  show wpAny _ _ (Builtin.Tuple.tupleExact acc.toList.toArray >>= fun v => ret v) _ _ _
  have e : acc.toList.toArray = acc := by simp
  have l := r3.length
  have l2 : acc.toList.length = acc.size := by simp
  unfold Builtin.Tuple.tupleExact
  refine wpAny_bind (wpAny_newObj_type ?_ (by show acc.toList.toArray.size ≤ sizeLine; rw [e]; omega))
  refine wpAny_pure ?_
  rw [e]
  exact hQ s' acc H' ys (Nat.le_trans r1 (Nat.le_of_lt (Heap.lt_size r2))) r3 r4 r5 r6 r7 r8 r10
theorem call_tuple_made {Q' : Value → Shared → Prop} (hr : Room (k + 4) A) (fr : A.frames = some outer) (made : GMade P w k outer H sc ex Q noEx u s)
    (hQ : ∀ (s' : Shared) (acc : Array Value) (H' : Hp) (ys : List V), s.heap.objs.size ≤ s'.heap.objs.size → Vals ys acc.toList → ys.length ≤ sizeLine → s'.os = sc.os → AllBare s'.gens → Un (frs outer) ex H H' sc.heap s'.heap → HOk P w H' s'.heap → Q ys H' → Q' (.ref s'.heap.objs.size) { s' with heap := s'.heap.push { cls := .type "tuple", data := .seq acc } }) :
    wpAny (model P w) A (call (.type "tuple") [u]) Q' E s := by
  have fr1 : A.in1.frames = some outer := fr
  refine callType_codes (Q₁ := fun obj s₁ => s₁.TypeIs obj "tuple" ∧ Q' obj s₁) F.called_tuple (F.typeCall_tuple_1 _) F.entry_object_init
    (new_tuple (k := k) (hr.mono (by omega : k + 3 ≤ k + 4)).in1 fr1 made fun s' acc H' ys r1 r2 r3 r4 r5 r6 r7 r8 => ⟨⟨_, Heap.get?_push_size _ rfl, rfl⟩, hQ s' acc H' ys r1 r2 r3 r4 r5 r6 r7 r8⟩) fun obj s₁ h₁ => ?_
  exact ⟨h₁.1, F.args_object_init_2 obj _, object_init_meets F.called_tuple.init.lookup F.called_tuple.made (by decide) P w A.in1 _ s₁ ⟨h₁.1, rfl, h₁.2⟩⟩
end
section
variable {X : Cx} {k : Nat} {e : Expr} {tg : TGen} {p pos : Pos}
def tTupG (tg : TGen) : TE := fun σ H Q => tg σ H fun out H2 => ∀ q, H2 q = none → Q (.ref q) (upd H2 q (.tup out))
/-- tuple(g) -/
theorem pe_tupG (h : PGen X k e tg noEx) (hr : Room (k + 4) X.A) (hg : Gl X "tuple") (hm : X.mg "tuple" = none) (he : starEach [e] X.env = (false, eval e X.env) :: starEach [] X.env := by rfl) : PE X (.Call (.Name "tuple" p) [e] [] pos) (tTupG tg) := by
  refine ⟨fun pins s σ H Q I hq => ?_⟩
  refine wpAny_Call_Name_kw (ld_blt I hg hm boot_tuple ?_)
  refine PyProof.Rows.callWith_type1 ?_ he rfl
  rw [he]
  show wpAny _ _ (spliced ((false, eval e X.env) :: backTo pos (starEach [] X.env))) _ _ s
  refine Calls.spliced_cons (thn (h.run pins s σ H _ I hq) fun u s1 ⟨H1, sc, ex, I1, hex, made⟩ => ?_)
  refine Calls.spliced_nil ?_
  refine call_tuple_made hr I1.ok.frames made fun s' acc H' ys r1 r2 r3 r4 r5 r6 r7 r8 => ?_
  have I2 : Inv X pins σ H' s' := I1.call' (ch := ex) r4 r6 r7 r5 hex
  refine ⟨.ref _, upd H' s'.heap.objs.size (.tup ys), I2.laid (t' := s'.toks) (fun b u z => Heap.get?_push_of_some _ z) (Nat.le_refl _) ?_, rfl, r8 _ (I2.hok.fresh (Nat.le_refl _))⟩
  refine ⟨r3, acc.toList, r2, ?_⟩
  have z : acc.toList.toArray = acc := by simp
  rw [z]
  exact ⟨_, Heap.get?_push_size _ rfl, rfl, _, rfl⟩
/-- tuple(g), its object known -/
def tTupG0 (tg : TGen) : TE := fun σ H Q => tg σ H fun out H2 => ∀ q o, H2 q = none → o.dict = none → Q (.ref q) (upd H2 q (.frz o (.tup out)))
theorem pe_tupG0 (h : PGen X k e tg noEx) (hr : Room (k + 4) X.A) (hg : Gl X "tuple") (hm : X.mg "tuple" = none) (he : starEach [e] X.env = (false, eval e X.env) :: starEach [] X.env := by rfl) : PE X (.Call (.Name "tuple" p) [e] [] pos) (tTupG0 tg) := by
  refine ⟨fun pins s σ H Q I hq => ?_⟩
  refine wpAny_Call_Name_kw (ld_blt I hg hm boot_tuple ?_)
  refine PyProof.Rows.callWith_type1 ?_ he rfl
  rw [he]
  show wpAny _ _ (spliced ((false, eval e X.env) :: backTo pos (starEach [] X.env))) _ _ s
  refine Calls.spliced_cons (thn (h.run pins s σ H _ I hq) fun u s1 ⟨H1, sc, ex, I1, hex, made⟩ => ?_)
  refine Calls.spliced_nil ?_
  refine call_tuple_made hr I1.ok.frames made fun s' acc H' ys r1 r2 r3 r4 r5 r6 r7 r8 => ?_
  have I2 : Inv X pins σ H' s' := I1.call' (ch := ex) r4 r6 r7 r5 hex
  refine ⟨.ref _, _, I2.laid (t' := s'.toks) (o := .frz { cls := .type "tuple", data := .seq acc } (.tup ys)) (fun b u z => Heap.get?_push_of_some _ z) (Nat.le_refl _) ?_, rfl, r8 _ _ (I2.hok.fresh (Nat.le_refl _)) rfl⟩
  refine ⟨Heap.get?_push_size _ rfl, r3, acc.toList, r2, ?_⟩
  have z : acc.toList.toArray = acc := by simp
  rw [z]
  exact ⟨_, Heap.get?_push_size _ rfl, rfl, _, rfl⟩
end
end Gx

/-! Turns over a list, a tuple that stay as they are. -/
namespace Gx
open PySem PySem.Spec PySem.Calls PyProof.Rows L2 GxR
section
variable {K : PySem.W.Frag} {a : Addr} {xs : List V} {g : TG} {tt : TT} {te : TE} {vs : List Nat} {σ : L2.St} {G : Hp} {cont : List V → Hp → Prop}
theorem turns_list (Pv : Nat → List V → Hp → Prop) (first : Pv 0 [] G) (stays : ∀ i ys H, i ≤ xs.length → Pv i ys H → SqL K H a xs)
    (turn : ∀ i x ys H, xs[i]? = some x → Pv i ys H → g x (wipe σ vs) H fun σ2 H2 => wipe σ2 vs = wipe σ vs ∧ tt σ2 H2 fun b H3 => if b = true then te σ2 H3 fun y H4 => ys.length < sizeLine ∧ Pv (i + 1) (ys ++ [y]) H4 else Pv (i + 1) ys H3)
    (after : ∀ ys H, Pv xs.length ys H → cont ys H) : ∃ W : Nat → Nat → List V → Hp → Prop, (∃ m, W 0 m [] G) ∧ Turns (Itl K a) g tt te vs σ cont W := by
  refine ⟨fun i m ys H => m = xs.length - i ∧ i ≤ xs.length ∧ Pv i ys H, ⟨xs.length, (Nat.sub_zero _).symm, Nat.zero_le _, first⟩, ?_⟩
  rintro i m ys H ⟨rfl, le, p⟩
  have seq := stays i ys H le p
  rcases Nat.lt_or_ge i xs.length with lt | ge
  · refine .inr ⟨⟨xs, xs[i], seq, List.getElem?_eq_getElem lt⟩, Pv (i + 1), fun ys' H' p' => ⟨xs.length - (i + 1), by omega, rfl, lt, p'⟩, fun x H' y => ?_⟩
    obtain ⟨rfl, y⟩ := y
    exact turn i x ys _ (y xs seq) p
  · have e : i = xs.length := by omega
    subst e
    exact .inl ⟨⟨xs, seq, Nat.le_refl _⟩, after ys H p⟩
theorem turns_tup (Pv : Nat → List V → Hp → Prop) (first : Pv 0 [] G) (stays : ∀ i ys H, i ≤ xs.length → Pv i ys H → SqT K H a xs)
    (turn : ∀ i x ys H, xs[i]? = some x → Pv i ys H → g x (wipe σ vs) H fun σ2 H2 => wipe σ2 vs = wipe σ vs ∧ tt σ2 H2 fun b H3 => if b = true then te σ2 H3 fun y H4 => ys.length < sizeLine ∧ Pv (i + 1) (ys ++ [y]) H4 else Pv (i + 1) ys H3)
    (after : ∀ ys H, Pv xs.length ys H → cont ys H) : ∃ W : Nat → Nat → List V → Hp → Prop, (∃ m, W 0 m [] G) ∧ Turns (Itt K a) g tt te vs σ cont W := by
  refine ⟨fun i m ys H => m = xs.length - i ∧ i ≤ xs.length ∧ Pv i ys H, ⟨xs.length, (Nat.sub_zero _).symm, Nat.zero_le _, first⟩, ?_⟩
  rintro i m ys H ⟨rfl, le, p⟩
  have seq := stays i ys H le p
  rcases Nat.lt_or_ge i xs.length with lt | ge
  · refine .inr ⟨⟨xs, xs[i], seq, List.getElem?_eq_getElem lt⟩, Pv (i + 1), fun ys' H' p' => ⟨xs.length - (i + 1), by omega, rfl, lt, p'⟩, fun x H' y => ?_⟩
    obtain ⟨rfl, y⟩ := y
    exact turn i x ys _ (y xs seq) p
  · have e : i = xs.length := by omega
    subst e
    exact .inl ⟨⟨xs, seq, Nat.le_refl _⟩, after ys H p⟩
end
end Gx

/-! A table's substitution. -/
namespace Ad
open PySem PySem.Spec PySem.Calls PyProof.Rows L2 GxR
namespace Sb
def pick (tb : Sb) (i : Int) : Option (Int × T) := match look tb i with
  | some t => if t.isVar i = true then none else some (i, t)
  | none => none
def sel (tb : Sb) (ks : List Int) : Sb := ks.filterMap (pick tb)
theorem pick_iff {tb : Sb} {i j : Int} {t : T} : pick tb i = some (j, t) ↔ i = j ∧ look tb i = some t ∧ t.isVar i = false := by
  unfold pick
  cases h : look tb i with
  | none => exact ⟨(fun z => nomatch z), (fun z => nomatch z.2.1)⟩
  | some u =>
    show (if u.isVar i = true then none else some (i, u)) = some (j, t) ↔ _
    cases hv : u.isVar i with
    | true =>
      rw [if_pos rfl]
      refine ⟨(fun z => nomatch z), fun z => ?_⟩
      have e := Option.some.inj z.2.1
      rw [← e, hv] at z
      exact nomatch z.2.2
    | false =>
      rw [if_neg Bool.false_ne_true]
      constructor
      · intro z
        cases z
        exact ⟨rfl, rfl, hv⟩
      · rintro ⟨rfl, z, _⟩
        cases z
        rfl
theorem norm_sel {tb : Sb} {ks : List Int} (rising : ks.Pairwise (· < ·)) (all : ∀ i, i ∈ ks ↔ i ∈ tb.map (·.1)) : Norm tb (sel tb ks) := by
  constructor
  · unfold sel
    have key : ∀ l : List Int, l.Pairwise (· < ·) → ((l.filterMap (pick tb)).map (·.1)).Pairwise (· < ·) ∧ ∀ j ∈ (l.filterMap (pick tb)).map (·.1), j ∈ l := by
      intro l
      induction l with
      | nil => intro _; exact ⟨.nil, fun j hj => nomatch hj⟩
      | cons i l ih =>
        intro h
        obtain ⟨h1, h2⟩ := List.pairwise_cons.mp h
        obtain ⟨r1, r2⟩ := ih h2
        cases hp : pick tb i with
        | none =>
          rw [List.filterMap_cons, hp]
          exact ⟨r1, fun j hj => List.mem_cons_of_mem _ (r2 j hj)⟩
        | some e =>
          obtain ⟨k, t⟩ := e
          have ek := (pick_iff.1 hp).1
          subst ek
          rw [List.filterMap_cons, hp]
          refine ⟨List.pairwise_cons.mpr ⟨fun j hj => h1 j (r2 j hj), r1⟩, fun j hj => ?_⟩
          rcases List.mem_cons.mp hj with z | z
          · rw [z]
            exact List.mem_cons_self
          · exact List.mem_cons_of_mem _ (r2 j z)
    exact (key ks rising).1
  · intro i t
    unfold sel
    rw [List.mem_filterMap]
    constructor
    · rintro ⟨k, _, hp⟩
      obtain ⟨rfl, h1, h2⟩ := pick_iff.1 hp
      exact ⟨h1, h2⟩
    · rintro ⟨h1, h2⟩
      exact ⟨i, (all i).2 ((look_key tb i).1 (by rw [h1]; rfl)), pick_iff.2 ⟨rfl, h1, h2⟩⟩
theorem sel_take {tb : Sb} {ks : List Int} {n : Nat} {i : Int} (h : ks[n]? = some i) : sel tb (ks.take (n + 1)) = sel tb (ks.take n) ++ (match pick tb i with
    | some e => [e]
    | none => []) := by
  unfold sel
  rw [List.take_add_one, h, List.filterMap_append]
  congr 1
  show List.filterMap (pick tb) [i] = _
  cases hp : pick tb i with
  | none => rw [List.filterMap_cons, hp]; rfl
  | some e => rw [List.filterMap_cons, hp]; rfl
end Sb
/-- all in a table can be compared -/
def Good (tb : Sb) : Prop := ∀ e ∈ tb, e.2.named = true ∧ e.2.dep ≤ 60
theorem TV.at {K : PySem.W.Frag} {H : Hp} {tb : Sb} {kvs : List (L2.Key × V)} (h : TV K H tb kvs) {i : Int} (m : i ∈ tb.map (·.1)) : ∃ t v, tb.look i = some t ∧ valV kvs (.inl i) = some v ∧ Tm K H t v := by
  rcases h.val i with ⟨a, _⟩ | z
  · have := (Sb.look_key tb i).2 m
    rw [a] at this
    cases this
  · exact z
theorem int_shaped (i : Int) : SeqAt.shaped (.int i) = true := rfl
theorem tab_same {H H' : Hp} {P : Addr} (s : Same H H') (t : TabG H P) : TabG H' P := by
  obtain ⟨ps, e, ok⟩ := t
  exact ⟨ps, s _ _ e, ok⟩
theorem tab_tk {H H' : Hp} {P : Addr} (t : TabG H P) (k : ∀ b o, b ≠ P → H b = some o → H' b = some o) : TK H H' := by
  obtain ⟨ps, e, ok⟩ := t
  intro b xs
  refine ⟨fun h => k b _ (fun z => ?_) h, fun o h => k b _ (fun z => ?_) h⟩
  · rw [z, e] at h
    cases h
  · rw [z, e] at h
    cases h
section
variable {P : Program} {w : World} {K : PySem.W.Frag} {mg : Str → Option Value} {base : Heap}
theorem tab_upd {H : Hp} {P q : Addr} {o : HO} (t : TabG H P) (n : H q = none) : TabG (upd H q o) P := by
  obtain ⟨ps, e, ok⟩ := t
  exact ⟨ps, by rw [upd_ne (ne_of_none e n)]; exact e, ok⟩
end
def spSubst (K : PySem.W.Frag) (Pt : Addr) : Sp := fun vs H Q _ => ∃ (d : Addr) (tb : Sb) (kvs : List (L2.Key × V)), vs = [.ref d] ∧ H d = some (.dK kvs) ∧ TV K H tb kvs ∧ (tb.map (·.1)).Nodup ∧ tb.length < 64 ∧ Good tb ∧ TabG H Pt ∧
  ∀ su x H', tb.Norm su → Su K H' su x → (∀ b o, b ≠ Pt → H b = some o → H' b = some o) → TabG H' Pt → Q x H'
end Ad

/-! One substitution behind another. -/
namespace Ad
open PySem PySem.Spec PySem.Calls PyProof.Rows L2 GxR
namespace Sb
def beh (one other : Sb) : Sb := one.foldl (fun tb e => put tb e.1 (T.fill (asg other) e.2)) other
theorem beh_take {one other : Sb} {i : Nat} {e : Int × T} (h : one[i]? = some e) : beh (one.take (i + 1)) other = put (beh (one.take i) other) e.1 (T.fill (asg other) e.2) := by
  unfold beh
  rw [List.take_add_one, h, List.foldl_append]
  rfl
theorem fold_look (other : Sb) (s : Int → T) : ∀ (one tb : Sb), (one.map (·.1)).Nodup → ∀ i, look (one.foldl (fun tb e => put tb e.1 (T.fill s e.2)) tb) i = match look one i with
    | some t => some (T.fill s t)
    | none => look tb i
  | [], tb, _, i => rfl
  | e :: one, tb, nd, i => by
    obtain ⟨n1, n2⟩ := List.nodup_cons.mp nd
    rw [List.foldl_cons, fold_look other s one _ n2]
    have e1 : look (e :: one) i = if e.1 = i then some e.2 else look one i := rfl
    rw [e1, look_put]
    by_cases h : e.1 = i
    · rw [if_pos h, if_pos h]
      have out : look one i = none := by
        cases z : look one i with
        | none => rfl
        | some t =>
          have := (look_key one i).1 (by rw [z]; rfl)
          rw [← h] at this
          exact absurd this n1
      rw [out]
    · rw [if_neg h, if_neg h]
theorem beh_look {one other : Sb} (nd : (one.map (·.1)).Nodup) (i : Int) : look (beh one other) i = match look one i with
    | some t => some (T.fill (asg other) t)
    | none => look other i := fold_look other _ one other nd i
/-- putting in by it is putting in by one, then by the other -/
theorem beh_asg {one other : Sb} (nd : (one.map (·.1)).Nodup) (i : Int) : asg (beh one other) i = T.fill (asg other) (asg one i) := by
  show (look (beh one other) i).getD (.v i) = T.fill (asg other) ((look one i).getD (.v i))
  rw [beh_look nd]
  cases look one i <;> rfl
theorem nodup_fold (s : Int → T) : ∀ (one tb : Sb), (tb.map (·.1)).Nodup → ((one.foldl (fun tb e => put tb e.1 (T.fill s e.2)) tb).map (·.1)).Nodup
  | [], tb, h => h
  | e :: one, tb, h => nodup_fold s one _ (nodup_put h _ _)
theorem len_fold (s : Int → T) : ∀ (one tb : Sb), (one.foldl (fun tb e => put tb e.1 (T.fill s e.2)) tb).length ≤ tb.length + one.length
  | [], tb => Nat.le_refl _
  | e :: one, tb => by
    have h1 := len_fold s one (put tb e.1 (T.fill s e.2))
    have h2 := len_put tb e.1 (T.fill s e.2)
    rw [List.foldl_cons, List.length_cons]
    omega
end Sb
section
variable {P : Program} {w : World} {K : PySem.W.Frag} {mg : Str → Option Value} {base : Heap}
theorem dict_of {H : Hp} {a : Addr} {bs : List Addr} {su : Sb} (tup : Dt.Tup0 H a (bs.map V.ref)) (prs : F2 (SP K H) su bs) (nd : (su.map (·.1)).Nodup) : ∃ kvs, Paired (fun p kv => SqT K H p [kV kv.1, kv.2]) bs kvs ∧ TV K H su kvs ∧ mergeK [] kvs = kvs := by
  obtain ⟨kvs, pd, tv⟩ := sp_pairs prs
  refine ⟨kvs, pd, tv, ?_⟩
  have z := merge_all kvs [] (by
    rw [List.nil_append, tv.keys]
    exact List.Pairwise.map Sum.inl (fun a b h e => h (Sum.inl.inj e)) nd)
  rw [z, List.nil_append]
def spBehind (K : PySem.W.Frag) (Pt : Addr) (n : Nat) : Sp := fun vs H Q _ => ∃ (one other : Sb) (x y : V), vs = [x, y] ∧ Su K H one x ∧ Su K H other y ∧ (one.map (·.1)).Nodup ∧ (other.map (·.1)).Nodup ∧ (∀ e ∈ one, e.2.dep < n ∧ e.2.size ≤ 10000) ∧ one.length + other.length < 64 ∧
  Good (Sb.beh one other) ∧ TabG H Pt ∧ ∀ su z H', (Sb.beh one other).Norm su → Su K H' su z → (∀ b o, b ≠ Pt → H b = some o → H' b = some o) → TabG H' Pt → Q z H'
end
end Ad

namespace Ad
open PySem PySem.Spec PySem.Calls PyProof.Rows L2 GxR
def spLPairs (K : PySem.W.Frag) : Sp := fun vs H Q _ => ∃ (d : Addr) (tb : Sb) (kvs : List (L2.Key × V)), vs = [.ref d] ∧ H d = some (.dK kvs) ∧ TV K H tb kvs ∧ (tb.map (·.1)).Nodup ∧ tb.length < 64 ∧ Good tb ∧
  ∀ su x H', tb.Norm su → Su K H' su x → Same H H' → Q x H'
end Ad

/-! The law's own: behind; renamed; drawn pairs. -/
namespace Ad
open PySem PySem.Spec PySem.Calls PyProof.Rows L2 GxR
theorem dk_tk {H : Hp} {d : Addr} {kvs : List (L2.Key × V)} (h : H d = some (.dK kvs)) (o : HO) : TK H (upd H d o) := by
  intro b xs
  refine ⟨fun e => ?_, fun u e => ?_⟩
  · rw [upd_ne (fun z => by rw [z, h] at e; cases e)]
    exact e
  · rw [upd_ne (fun z => by rw [z, h] at e; cases e)]
    exact e
section
variable {P : Program} {w : World} {K : PySem.W.Frag} {mg : Str → Option Value} {base : Heap}
def spLBeh (K : PySem.W.Frag) (n : Nat) : Sp := fun vs H Q _ => ∃ (one other : Sb) (x y : V), vs = [x, y] ∧ Su K H one x ∧ Su K H other y ∧ (one.map (·.1)).Nodup ∧ (other.map (·.1)).Nodup ∧ (∀ e ∈ one, e.2.dep < n ∧ e.2.size ≤ 10000) ∧ one.length + other.length < 64 ∧
  Good (Sb.beh one other) ∧ ∀ su z H', (Sb.beh one other).Norm su → Su K H' su z → Same H H' → Q z H'
end
/-! ### renamed -/
namespace Sb
/-- the variables of a row, in the order in which they come, called first, first + 1, .. -/
def ren (first : Int) (tb : Sb) : List Int → Sb
  | [] => tb
  | i :: l => ren first (if (look tb i).isSome = true then tb else put tb i (.v (first + (tb.length : Int)))) l
theorem ren_app (first : Int) : ∀ (l m : List Int) (tb : Sb), ren first tb (l ++ m) = ren first (ren first tb l) m
  | [], m, tb => rfl
  | i :: l, m, tb => ren_app first l m _
theorem ren_len (first : Int) : ∀ (l : List Int) (tb : Sb), (ren first tb l).length ≤ tb.length + l.length
  | [], tb => Nat.le_refl _
  | i :: l, tb => by
    have h1 := ren_len first l (if (look tb i).isSome = true then tb else put tb i (.v (first + (tb.length : Int))))
    have h2 := len_put tb i (.v (first + (tb.length : Int)))
    show (ren first _ l).length ≤ tb.length + (l.length + 1)
    split at h1
    · rename_i z
      rw [if_pos z]
      omega
    · rename_i z
      rw [if_neg z]
      omega
end Sb
namespace T
def varOf : T → List Int
  | .v i => [i]
  | .f _ _ => []
mutual
theorem parts_vars : ∀ t : T, t.parts.flatMap varOf = t.vars
  | .v i => rfl
  | .f x ts => by
    show (T.f x ts :: partsL ts).flatMap varOf = varsL ts
    rw [List.flatMap_cons, partsL_vars ts]
    rfl
theorem partsL_vars : ∀ ts : List T, (partsL ts).flatMap varOf = varsL ts
  | [] => rfl
  | t :: ts => by
    show (parts t ++ partsL ts).flatMap varOf = vars t ++ varsL ts
    rw [List.flatMap_append, parts_vars t, partsL_vars ts]
end
end T
end Ad

/-! Drawn orders. -/
namespace Ad
open PySem PySem.Spec PySem.Calls PyProof.Rows L2
/-- a name and its number of arguments -/
abbrev Pr := Str × Nat
def PrV (K : PySem.W.Frag) (H : Hp) (r : Pr) (v : V) : Prop := ∃ b, v = .ref b ∧ SqT K H b [.str r.1, .int (r.2 : Int)]
theorem PrV.mono {K : PySem.W.Frag} {H H' : Hp} (k : TK H H') (r : Pr) (v : V) (h : PrV K H r v) : PrV K H' r v := by
  obtain ⟨b, e, s⟩ := h
  exact ⟨b, e, k.sq s⟩
/-- a list of such pairs -/
def LsP (K : PySem.W.Frag) (H : Hp) (R : List Pr) (a : Addr) : Prop := ∃ vs, H a = some (.lst vs) ∧ F2 (PrV K H) R vs
theorem LsP.same {K : PySem.W.Frag} {H H' : Hp} (s : Same H H') {R : List Pr} {a : Addr} (h : LsP K H R a) : LsP K H' R a := by
  obtain ⟨vs, e, f⟩ := h
  exact ⟨vs, s _ _ e, f.mono (PrV.mono (TK.same s))⟩
section
variable {K : PySem.W.Frag} {σ : L2.St} {H : Hp} {Q : VK}
abbrev tPr (x : Str) (n : Int) : TE := tTup (tCons (tC (.str x)) (tCons (tC (.int n)) tNil))
theorem lit_pr (K : PySem.W.Frag) {x : Str} {n : Nat} (h : ∀ v G, Same H G → PrV K G (x, n) v → Q v G) : tPr x (n : Int) σ H Q :=
  ⟨(by show 2 ≤ sizeLine; decide), fun p np => h _ _ (same_new (fun b o e => e) np _) ⟨p, rfl, .inl (.inl upd_same)⟩⟩
theorem lit_ls1 (K : PySem.W.Frag) {x : Str} {n : Nat} (h : ∀ a G, Same H G → H a = none → LsP K G [(x, n)] a → Q (.ref a) G) : tLst (tCons (tPr x (n : Int)) tNil) σ H Q := by
  show tPr x (n : Int) σ H (fun v G => [v].length ≤ sizeLine ∧ ∀ p, G p = none → Q (.ref p) (upd G p (.lst [v])))
  refine lit_pr K fun v G s pv => ⟨(by show 1 ≤ sizeLine; decide), fun p np => h p _ (same_new s np _) ?_ ⟨_, upd_same, F2.one (PrV.mono (TK.new np _) _ _ pv)⟩⟩
  cases z : H p with
  | none => rfl
  | some o =>
    rw [s _ _ z] at np
    cases np
theorem lit_ls2 (K : PySem.W.Frag) {x y : Str} {n m : Nat} (h : ∀ a G, Same H G → H a = none → LsP K G [(x, n), (y, m)] a → Q (.ref a) G) : tLst (tCons (tPr x (n : Int)) (tCons (tPr y (m : Int)) tNil)) σ H Q := by
  show tPr x (n : Int) σ H (fun v G => tPr y (m : Int) σ G (fun v2 G2 => [v, v2].length ≤ sizeLine ∧ ∀ p, G2 p = none → Q (.ref p) (upd G2 p (.lst [v, v2]))))
  refine lit_pr K fun v G s pv => lit_pr K fun v2 G2 s2 pv2 => ⟨(by show 2 ≤ sizeLine; decide), fun p np => h p _ (same_new (show Same H G2 from fun b o e => s2 b o (s b o e)) np _) ?_ ⟨_, upd_same, ⟨_, _, rfl, PrV.mono ((TK.same s2).trans (TK.new np _)) _ _ pv, F2.one (PrV.mono (TK.new np _) _ _ pv2)⟩⟩⟩
  cases z : H p with
  | none => rfl
  | some o =>
    rw [s2 _ _ (s _ _ z)] at np
    cases np
theorem lit_ls0 (K : PySem.W.Frag) (h : ∀ a G, Same H G → H a = none → LsP K G [] a → Q (.ref a) G) : tLst tNil σ H Q :=
  ⟨Nat.zero_le _, fun p np => h p _ (same_new (fun b o e => e) np _) np ⟨_, upd_same, rfl⟩⟩
theorem cat_prs {R S : List Pr} {a b : Addr} (ha : LsP K H R a) (hb : LsP K H S b) (few : R.length + S.length ≤ 1000) (h : ∀ c G, Same H G → H c = none → LsP K G (R ++ S) c → Q (.ref c) G) : rCat (.ref a) (.ref b) H Q := by
  obtain ⟨xs, e1, f1⟩ := ha
  obtain ⟨ys, e2, f2⟩ := hb
  have l1 := f1.len
  have l2 := f2.len
  refine ⟨a, b, xs, ys, rfl, rfl, e1, e2, by rw [sizeLine_eq]; omega, fun p np => h p _ (same_new (fun b o e => e) np _) np ⟨_, upd_same, ?_⟩⟩
  exact (f1.app f2).mono (PrV.mono (TK.new np _))
end
section
variable {K : PySem.W.Frag} {σ : L2.St} {H : Hp}
theorem lit_truths (K : PySem.W.Frag) {Q : List V → Hp → Prop} (h : ∀ a G xs, Same H G → H a = none → G a = some (.lst xs) → xs.length = 3 → (∀ v ∈ xs, ∃ b S, v = .ref b ∧ H b = none ∧ LsP K G S b ∧ S ∈ [[(("q" : Str), 0)], [("r", 2)], [("q", 0), ("r", 2)]]) → Q [.ref a] G) :
    tCons (tLst (tCons (tLst (tCons (tPr "q" 0) tNil)) (tCons (tLst (tCons (tPr "r" 2) tNil)) (tCons (tLst (tCons (tPr "q" 0) (tCons (tPr "r" 2) tNil))) tNil)))) tNil σ H Q := by
  dsimp only [tCons]
  show tLst (tCons (tPr "q" ((0 : Nat) : Int)) tNil) σ H (fun v1 G1 => tLst (tCons (tPr "r" ((2 : Nat) : Int)) tNil) σ G1 (fun v2 G2 => tLst (tCons (tPr "q" ((0 : Nat) : Int)) (tCons (tPr "r" ((2 : Nat) : Int)) tNil)) σ G2 (fun v3 G3 => [v1, v2, v3].length ≤ sizeLine ∧ ∀ p, G3 p = none → Q [.ref p] (upd G3 p (.lst [v1, v2, v3])))))
  refine lit_ls1 K fun a1 G1 s1 n1 L1 => lit_ls1 K fun a2 G2 s2 n2 L2 => lit_ls2 K fun a3 G3 s3 n3 L3 => ⟨(by show 3 ≤ sizeLine; decide), fun p np => ?_⟩
  have sm : Same H G3 := fun b o e => s3 b o (s2 b o (s1 b o e))
  have back : ∀ {q : Addr} {G : Hp}, Same H G → G q = none → H q = none := fun {q G} s n => by
    cases z : H q with
    | none => rfl
    | some o =>
      rw [s _ _ z] at n
      cases n
  have s4 : Same G3 (upd G3 p (.lst [.ref a1, .ref a2, .ref a3])) := same_new (fun b o e => e) np _
  refine h p _ _ (fun b o e => s4 b o (sm b o e)) (back sm np) upd_same rfl ?_
  intro v hv
  rcases List.mem_cons.mp hv with e | hv
  · exact ⟨a1, _, e, n1, ((L1.same s2).same s3).same s4, by simp⟩
  · rcases List.mem_cons.mp hv with e | hv
    · exact ⟨a2, _, e, back s1 n2, (L2.same s3).same s4, by simp⟩
    · exact ⟨a3, _, List.mem_singleton.mp hv, back (show Same H G2 from fun b o e => s2 b o (s1 b o e)) n3, L3.same s4, by simp⟩
end
/-! ### frames of a pen -/
theorem but_on {p d : Addr} {H G : Hp} (b : Pn.But p H G) (n : H d = none) (o : HO) : Pn.But p H (upd G d o) := fun q u nq e => by
  rw [upd_ne (fun z => by rw [z, n] at e; cases e)]
  exact b _ _ nq e
theorem pen_on {H G : Hp} {p l d : Addr} {ns : List Int} {c0 c : Nat} (P0 : Pn.Pen H p l ns c0) (n : H d = none) (P : Pn.Pen G p l ns c) (o : HO) : Pn.Pen (upd G d o) p l ns c := by
  obtain ⟨⟨a0, d0, f0, e0, _⟩, h0⟩ := P0
  obtain ⟨⟨a, d1, f, e, r⟩, h⟩ := P
  have n1 : p ≠ d := fun z => by rw [z, n] at e0; cases e0
  have n2 : l ≠ d := fun z => by rw [z, n] at h0; cases h0
  exact ⟨⟨a, d1, f, by rw [upd_ne n1]; exact e, r⟩, by rw [upd_ne n2]; exact h⟩
theorem fresh_back {H G : Hp} {p l q : Addr} {ns : List Int} {c : Nat} (b : Pn.But p H G) (P : Pn.Pen G p l ns c) (n : G q = none) : H q = none := by
  cases z : H q with
  | none => rfl
  | some o =>
    by_cases e : q = p
    · obtain ⟨⟨_, _, _, e0, _⟩, _⟩ := P
      rw [e, e0] at n
      cases n
    · rw [b _ _ e z] at n
      cases n
theorem pen_kept {H : Hp} {p l d : Addr} {ns : List Int} {c : Nat} (P : Pn.Pen H p l ns c) (n : H d = none) : d ≠ p := fun z => by
  obtain ⟨⟨_, _, _, e0, _⟩, _⟩ := P
  rw [z, e0] at n
  cases n
theorem LsP.but {K : PySem.W.Frag} {H H' : Hp} {p l : Addr} {ns : List Int} {c : Nat} (P : Pn.Pen H p l ns c) (b : Pn.But p H H') {R : List Pr} {a : Addr} (na : a ≠ p) (h : LsP K H R a) : LsP K H' R a := by
  obtain ⟨vs, e, f⟩ := h
  exact ⟨vs, b _ _ na e, f.mono (PrV.mono (pen_tk P b))⟩
/-! ### the order -/
def thingsB : List (List Pr) := [[("a", 0), ("b", 0), ("c", 0), ("f", 1), ("g", 2)], [("a", 0), ("b", 0), ("f", 1), ("g", 2)], [("a", 0), ("b", 0), ("c", 0), ("f", 1)], [("a", 0), ("b", 0), ("f", 1)]]
def truthsB : List (List Pr) := [[("p", 1), ("q", 0)], [("p", 1), ("r", 2)], [("p", 1), ("q", 0), ("r", 2)]]
/-- the same names in some order, with weights of one and two -/
structure Mixed (B : List Pr) (R : List Row) : Prop where
  perm : (R.map fun r => (r.1, r.2.1)).Perm B
  weights : ∀ r ∈ R, r.2.2 = 1 ∨ r.2.2 = 2
def KdV (K : PySem.W.Frag) (H : Hp) (B : List Pr) (v : V) : Prop := ∃ b R vs, v = .ref b ∧ Mixed B R ∧ SqT K H b vs ∧ F2 (RowV K H) R vs
theorem KdV.mono {K : PySem.W.Frag} {H H' : Hp} (k : TK H H') (B : List Pr) (v : V) (h : KdV K H B v) : KdV K H' B v := by
  obtain ⟨b, R, vs, e, m, s, f⟩ := h
  exact ⟨b, R, vs, e, m, k.sq s, f.mono (RowV.mono k)⟩
def OrdAt (K : PySem.W.Frag) (H : Hp) (a : Addr) (R S : List Row) : Prop := ∃ b1 b2 vs1 vs2, SqT K H a [.ref b1, .ref b2] ∧ SqT K H b1 vs1 ∧ SqT K H b2 vs2 ∧ F2 (RowV K H) R vs1 ∧ F2 (RowV K H) S vs2
theorem OrdAt.rows {K : PySem.W.Frag} {H : Hp} {a : Addr} {R S : List Row} (h : OrdAt K H a R S) : RowsAt K H a R := by
  obtain ⟨b1, b2, vs1, vs2, h0, h1, h2, f1, f2⟩ := h
  exact ⟨b1, _, vs1, h0, h1, f1⟩
theorem OrdAt.mono {K : PySem.W.Frag} {H H' : Hp} (k : TK H H') {a : Addr} {R S : List Row} (h : OrdAt K H a R S) : OrdAt K H' a R S := by
  obtain ⟨b1, b2, vs1, vs2, h0, h1, h2, f1, f2⟩ := h
  exact ⟨b1, b2, vs1, vs2, k.sq h0, k.sq h1, k.sq h2, f1.mono (RowV.mono k), f2.mono (RowV.mono k)⟩
theorem mixed_ok {B : List Pr} {R : List Row} (hB : B ∈ thingsB) (m : Mixed B R) : ROk R := by
  have h : (thingsB.all fun B => B.all (fun r => nameOk r.1 && decide (r.2 ≤ 3)) && B.contains ("a", 0) && decide (B.length ≤ 5)) = true := by decide +kernel
  have h1 := List.all_eq_true.mp h B hB
  rw [Bool.and_eq_true, Bool.and_eq_true] at h1
  obtain ⟨⟨h2, h3⟩, h4⟩ := h1
  refine ⟨fun r hr => ?_, ?_, ?_⟩
  · have z : (r.1, r.2.1) ∈ B := m.perm.mem_iff.mp (List.mem_map.mpr ⟨r, hr, rfl⟩)
    have z2 := List.all_eq_true.mp h2 _ z
    rw [Bool.and_eq_true] at z2
    exact ⟨z2.1, of_decide_eq_true z2.2⟩
  · have z : (("a", 0) : Pr) ∈ B := List.contains_iff_mem.mp h3
    obtain ⟨r, hr, e⟩ := List.mem_map.mp (m.perm.mem_iff.mpr z)
    obtain ⟨j, hj⟩ := List.mem_iff_getElem?.mp hr
    exact ⟨j, r, hj, (Prod.mk.inj e).2⟩
  · have e := m.perm.length_eq
    rw [List.length_map] at e
    have := of_decide_eq_true h4
    omega
theorem F2.erase {α β : Type} {R : α → β → Prop} : ∀ {xs : List α} {ys : List β} (k : Nat), F2 R xs ys → F2 R (xs.eraseIdx k) (ys.eraseIdx k)
  | [], ys, k, h => by
    cases (show ys = [] from h)
    exact rfl
  | x :: xs, ys, 0, h => by
    obtain ⟨y, zs, rfl, h1, h2⟩ := h
    exact h2
  | x :: xs, ys, k + 1, h => by
    obtain ⟨y, zs, rfl, h1, h2⟩ := h
    exact ⟨y, _, rfl, h1, F2.erase k h2⟩
theorem erase_perm {α : Type} : ∀ {xs : List α} {k : Nat} {x : α}, xs[k]? = some x → xs.Perm (x :: xs.eraseIdx k)
  | [], k, x, h => by cases h
  | y :: ys, 0, x, h => by
    cases h
    exact List.Perm.refl _
  | y :: ys, k + 1, x, h => ((erase_perm (xs := ys) (k := k) h).cons y).trans (List.Perm.swap x y _)
theorem sx_nat {j n : Nat} (h : j < n) : seqIndex? (j : Int) n = some j := by
  unfold seqIndex?
  have h1 : ¬ ((j : Int) < 0) := by omega
  have h2 : (decide (0 ≤ (j : Int)) && decide ((j : Int) < (n : Int))) = true := by
    rw [decide_eq_true (by omega), decide_eq_true (by omega)]
    rfl
  simp only [if_neg h1, h2, if_true, Int.toNat_natCast]
/-- what stays but for a pen and two lists -/
def Bt (p u v : Addr) (G G' : Hp) : Prop := ∀ b o, b ≠ p → b ≠ u → b ≠ v → G b = some o → G' b = some o
theorem Bt.refl {p u v : Addr} (G : Hp) : Bt p u v G G := fun _ _ _ _ _ e => e
theorem Bt.but {p u v : Addr} {G G1 G2 : Hp} (a : Bt p u v G G1) (b : Pn.But p G1 G2) : Bt p u v G G2 := fun c o n1 n2 n3 e => b _ _ n1 (a _ _ n1 n2 n3 e)
theorem Bt.u {p u v : Addr} {G G1 : Hp} (a : Bt p u v G G1) (o : HO) : Bt p u v G (upd G1 u o) := fun c o n1 n2 n3 e => by
  rw [upd_ne n2]
  exact a _ _ n1 n2 n3 e
theorem Bt.v {p u v : Addr} {G G1 : Hp} (a : Bt p u v G G1) (o : HO) : Bt p u v G (upd G1 v o) := fun c o n1 n2 n3 e => by
  rw [upd_ne n3]
  exact a _ _ n1 n2 n3 e
theorem Bt.tk {p u v l : Addr} {ns : List Int} {c : Nat} {G G1 : Hp} {us vs : List V} (a : Bt p u v G G1) (P : Pn.Pen G p l ns c) (hu : G u = some (.lst us)) (hv : G v = some (.lst vs)) : TK G G1 := by
  obtain ⟨⟨_, _, _, e0, _⟩, _⟩ := P
  have n : ∀ b o, (∀ kvs, o ≠ HO.dK kvs) → (∀ xs, o ≠ HO.lst xs) → G b = some o → b ≠ p ∧ b ≠ u ∧ b ≠ v := fun b o h1 h2 e => by
    refine ⟨fun z => ?_, fun z => ?_, fun z => ?_⟩
    · rw [z, e0] at e
      cases e
      exact h1 _ rfl
    · rw [z, hu] at e
      cases e
      exact h2 _ rfl
    · rw [z, hv] at e
      cases e
      exact h2 _ rfl
  intro b xs
  refine ⟨fun e => ?_, fun o e => ?_⟩
  · obtain ⟨n1, n2, n3⟩ := n b _ (by intro _ z; cases z) (by intro _ z; cases z) e
    exact a _ _ n1 n2 n3 e
  · obtain ⟨n1, n2, n3⟩ := n b _ (by intro _ z; cases z) (by intro _ z; cases z) e
    exact a _ _ n1 n2 n3 e
def spOrder (K : PySem.W.Frag) : Sp := fun vs H Q _ => ∃ (p l : Addr) (ns : List Int) (c : Nat), vs = [.ref p] ∧ Pn.Pen H p l ns c ∧ ns.length ≤ 1000 ∧ c ≤ 900000000 ∧
  ∀ a R S B C H' c', OrdAt K H' a R S → B ∈ thingsB → C ∈ truthsB → Mixed B R → Mixed C S → c' ≤ c + 40 → Pn.Pen H' p l ns c' → Pn.But p H H' → Q (.ref a) H'
end Ad

/-! enumerate(t) of a tuple; walks over a list or a tuple. -/
namespace Et
open PySem PySem.Spec PySem.Calls PyProof.Rows L2 RZ
theorem draws {prog : Program} {w : World} {A : Around} (hh : A.handled = none) (it l : Addr) (hl : l ≠ it) (items : Array Value) :
    Draws prog w A it [it, l] items.size (fun i v => items[i]? = some v) (fun i h => h.IsTupleIter it l i ∧ h.IsTuple l items) where
  live := fun _ _ ⟨⟨o, ho, _⟩, _⟩ => ⟨o, ho⟩
  frame := fun _ _ _ ⟨st, tp⟩ hk => ⟨st.at fun o e => hk it (by simp) o e, by
    obtain ⟨o, e, r⟩ := tp
    exact ⟨o, hk l (by simp) o e, r⟩⟩
  item := fun i s Q E hi ⟨st, tp⟩ hQ => by
    refine nextOf_tuple_item st tp (x := items[i]) (by simp [hi]) fun h' hit' hs' => ?_
    refine hQ _ h' s.toks (by simp [hi]) ⟨hit', ?_⟩ hs'
    obtain ⟨o, e, r⟩ := tp
    exact ⟨o, hs'.extBut _ _ hl e, r⟩
  done := fun s Q E ⟨st, tp⟩ hE => nextOf_tuple_end hh st tp (by simp) hE
theorem meets_newT (l : Addr) (items : Array Value) :
    Meets (Builtin.«enumerate.__new__» ⟨[.type "enumerate", .ref l], []⟩) (fun _ R s => s.heap.IsTuple l items ∧
      R (.ok (.ret (.ref (s.heap.push { cls := .type "tuple_iterator", data := .fields #[.ref l, .int 0 0] }).objs.size)))
        { s with heap := (s.heap.push { cls := .type "tuple_iterator", data := .fields #[.ref l, .int 0 0] }).push { cls := .type "enumerate", data := .fields #[.none, .bool false, .ref s.heap.objs.size, rawInt 0, .none, .none] } }) :=
  .of_wp fun prog w A R s h => by
    obtain ⟨hp, g, d, tk, os⟩ := s; obtain ⟨hL, h⟩ := h
    have hsub := sub_enumerate
    have hL : Heap.IsTuple (Shared.heap ⟨hp, g, d, tk, os⟩) l items := hL
    wp_walk
    refine wpAny_stack_any fun st => wpAny_pure ?_
    split
    · rename_i c _ _ _ _ _
      cases (c == Value.type "enumerate")
      · wp_walk using wpAny_pyIter_tuple hL
        exact ⟨_, rfl, h⟩
      · wp_walk using wpAny_pyIter_tuple hL
        exact ⟨_, rfl, h⟩
    · wp_walk using wpAny_pyIter_tuple hL
      exact ⟨_, rfl, h⟩
section
variable {prog : Program} {w : World} {A : Around} {E : Value → Shared → Prop} {s : Shared}
theorem call_enumT {l : Addr} {items : Array Value} {Q : Value → Shared → Prop} (hL : s.heap.IsTuple l items)
    (h : ∀ h', IsEnum h' (s.heap.objs.size + 1) s.heap.objs.size 0 .none → h'.IsTupleIter s.heap.objs.size l 0 → h'.objs.size = s.heap.objs.size + 2 →
      (∀ b o, s.heap.get? b = some o → h'.get? b = some o) → Q (.ref (s.heap.objs.size + 1)) { s with heap := h' }) :
    wpAny (model prog w) A (call (.type "enumerate") [.ref l]) Q E s := by
  refine callType_new F.called_enumerate (by decide) (F.typeCall_enumerate_1 _) (F.newCall_enumerate_1 _) (fun obj => F.args_object_init_2 obj _) F.entry_enumerate_new
    (meets_newT l items) ⟨hL, ?_⟩
  have hz : (s.heap.push { cls := .type "tuple_iterator", data := .fields #[.ref l, .int 0 0] }).objs.size = s.heap.objs.size + 1 := Heap.size_push ..
  show _ ∧ _
  rw [hz]
  have he : IsEnum ((s.heap.push { cls := .type "tuple_iterator", data := .fields #[.ref l, .int 0 0] }).push
      { cls := .type "enumerate", data := .fields #[.none, .bool false, .ref s.heap.objs.size, rawInt 0, .none, .none] }) (s.heap.objs.size + 1) s.heap.objs.size 0 .none := by
    have := Heap.get?_push_size (s.heap.push { cls := .type "tuple_iterator", data := .fields #[.ref l, .int 0 0] })
      (o := { cls := .type "enumerate", data := .fields #[.none, .bool false, .ref s.heap.objs.size, rawInt 0, .none, .none] }) rfl
    rw [hz] at this; exact this
  refine ⟨⟨_, he, rfl⟩, h _ he ⟨_, Heap.get?_push_of_some _ (Heap.get?_push_size _ rfl), rfl, rfl⟩ (by rw [Heap.size_push, hz]) fun b o x => Heap.get?_push_of_some _ (Heap.get?_push_of_some _ x)⟩
end
/-- the tuple at a, each item in a new pair -/
def IteT (K : PySem.W.Frag) (a : Addr) : It :=
  ⟨fun i H => ∃ (xs : List V) (x : V), SqT K H a xs ∧ xs[i]? = some x, fun i H v H' => ∃ T x, v = .ref T ∧ H T = none ∧ H' = upd H T (.tup [.int (i : Nat), x]) ∧ ∀ xs, SqT K H a xs → xs[i]? = some x, fun i H => ∃ xs : List V, SqT K H a xs ∧ xs.length ≤ i⟩
theorem turn_enumT {P : Program} {w : World} {K : PySem.W.Frag} {elts : List Expr} {kk : Nat} {tpos : Pos} (a e it : Addr) :
    Turn P w K (.Tuple elts kk tpos) (IteT K a) [e, it] e (fun i h => (∃ old, IsEnum h e it ((i : Nat) : Int) old) ∧ h.IsTupleIter it a i ∧ e ≠ it ∧ a ≠ e ∧ a ≠ it) where
  mem := by simp
  obj := fun i h st b hb => by
    obtain ⟨⟨old, he⟩, ⟨o, ho, hc, hd⟩, _⟩ := st
    have e' : b = e ∨ b = it := by simpa using hb
    rcases e' with z | z
    · rw [z]; exact ⟨_, he, fun v q => nomatch q⟩
    · rw [z]; exact ⟨o, ho, fun v q => by rw [hd] at q; cases q⟩
  keep := fun i h h' st k => let ⟨⟨old, he⟩, hi, hne, r⟩ := st; ⟨⟨old, k e (by simp) _ he⟩, hi.at fun o q => k it (by simp) o q, hne, r⟩
  item := by
    intro X hP hw hK hc i pins s σ H E I hf st hg
    subst hP hw hK
    obtain ⟨⟨old, he⟩, hit, hne, ae, ai⟩ := st
    obtain ⟨xs, x, hq, hx⟩ := hg
    obtain ⟨its, rv, p, hz⟩ := I.tuple hq
    obtain ⟨u, hu, ru⟩ := rv.get hx
    have hel : e < s.heap.objs.size := Heap.lt_size he
    have hil : it < s.heap.objs.size := by obtain ⟨_, q, _⟩ := hit; exact Heap.lt_size q
    have lt : i < its.toArray.size := by
      have := (List.getElem?_eq_some_iff.mp hu).1
      simpa using this
    refine wpAny_pyNext_enum_itemD (draws (A := X.A.in1) (show X.A.in1.handled = none from I.ok.hd hc) it a ai its.toArray) he ⟨hit, p⟩ lt hne (by simp [hne, Ne.symm ae]) fun u' h' tk hu' ho hst' hT hsz hk => ?_
    have eu : u' = u := by
      have z : its[i]? = some u' := by simpa using hu'
      rw [hu] at z
      exact (Option.some.inj z).symm
    subst eu
    refine ⟨_, rfl, wpAny_letOwnedTupleGo_enum (s := { s with heap := h', toks := tk + 1 }) ho fun h'' he' sb => ?_⟩
    have hT2 : h''.get? s.heap.objs.size = some { cls := .type "tuple", data := .seq #[.int i tk, u'] } := (sb.2 _ (Nat.ne_of_gt hel)).trans hT
    have new : ObjOk X.prog X.w (upd H s.heap.objs.size (.tup [.int (i : Nat), x])) h'' s.heap.objs.size (.tup [.int (i : Nat), x]) :=
      ⟨by show 2 ≤ sizeLine; decide, [.int i tk, u'], .cons ⟨_, rfl⟩ (.cons ru .nil), ⟨_, hT2, rfl, _, rfl⟩⟩
    have I1 : Inv X pins σ (upd H s.heap.objs.size (.tup [.int (i : Nat), x])) { s with heap := h'', toks := tk + 1 } :=
      I.turnedNew (ch := [e, it]) (fun b ob hb q => (sb.2 b (fun z => hb (by simp [z]))).trans (hk b ob (fun z => hb (by simp [z])) (fun z => hb (by simp [z])) q)) hf (Nat.le_refl _) new
    refine ⟨.ref s.heap.objs.size, _, I1, rfl, ⟨_, x, rfl, I.hok.fresh (Nat.le_refl _), rfl, fun ys hy => by rw [I.tuple_inj hy hq]; exact hx⟩, ⟨⟨u', ?_⟩, hst'.1.at fun o q => (sb.2 it (Ne.symm hne)).trans q, hne, ae, ai⟩, fun b hb => ?_⟩
    · have e1 : ((i + 1 : Nat) : Int) = (i : Int) + 1 := by omega
      rw [e1]; exact he'
    · have hb' : b < s.heap.objs.size := by
        have e' : b = e ∨ b = it := by simpa using hb
        rcases e' with z | z
        · rw [z]; exact hel
        · rw [z]; exact hil
      rw [upd_ne (Nat.ne_of_lt hb')]
      exact (hf b hb).1
  done := by
    intro X hP hw hK hc i pins s σ H E I hf st hg
    subst hP hw hK
    obtain ⟨⟨old, he⟩, hit, hne, ae, ai⟩ := st
    obtain ⟨xs, hq, hx⟩ := hg
    obtain ⟨its, rv, p, hz⟩ := I.tuple hq
    obtain ⟨f0, f1, f2, f3, f4, f5⟩ := hf it (by simp)
    have hl := rv.length
    have key : ∀ (Q : Option Value → Shared → Prop), (∀ h', Heap.ExtBut it s.heap h' → Q none { s with heap := h' }) → wpAny (model X.prog X.w) X.A (pyNext (.ref e)) Q E s := by
      intro Q hQ
      have hT : s.TypeIs (.ref e) "enumerate" := ⟨_, he, rfl⟩
      unfold pyNext
      refine wpAny_bind (wpAny_attempt (wpAny_callSpecial?_slot (name := Str.ofString "__next__") hT F.slot_enumerate_next
        (wpAny_call_entry F.slot_enumerate_next hT F.entry_enumerate_next ?_ (F.args_enumerate_next_1 _))))
      show wpAny _ _ (field (.ref e) 2 >>= _) _ _ _
      refine wpAny_bind (wpAny_field he rfl (x := .ref it) rfl ?_)
      refine wpAny_bind (nextOf_tuple_end (show X.A.in1.handled = none from I.ok.hd hc) hit p (by simp; omega) fun h' x he' hx' => ?_)
      obtain ⟨o, ho, hcx⟩ := hx'
      refine wpAny_bind (wpAny_isInstance (T := "StopIteration") (b := true) ⟨o, ho, hcx⟩ isSubtype_stop ?_)
      exact wpAny_pure (hQ _ he')
    exact key _ fun h' eb => ⟨rfl, I.turned (t' := s.toks) (fun b o hb q => eb b o hb q) f0 f1 f3 f4 f5⟩
  self := fun A i s Q E st h => let ⟨⟨_, he⟩, _⟩ := st; wpAny_pyIter_enum he h
def iEnumT (K : PySem.W.Frag) (ta : TA) : TI := fun σ H R => ta σ H fun vs H1 => ∃ a xs, vs = [.ref a] ∧ SqT K H1 a xs ∧ R (IteT K a) H1
theorem pi_enumT {X : Cx} {e : Expr} {ta : TA} {p pos tpos : Pos} {elts : List Expr} {kk : Nat} (hg : Gl X "enumerate") (hm : X.mg "enumerate" = none) (ha : PA X [e] ta) (hs : starEach [e] X.env = [(false, eval e X.env)] := by rfl) :
    PI X (.Tuple elts kk tpos) (.Call (.Name "enumerate" p) [e] [] pos) (iEnumT X.K ta) := by
  refine ⟨fun pins s σ H R I h => ?_⟩
  refine Call_ (ld_blt I hg hm boot_enumerate (PyProof.Rows.callWith_type1 (thn (ha.run pos pins s σ H _ I h) fun us s1 ⟨vs, H1, I1, r1, q1⟩ => ?_) hs rfl))
  obtain ⟨a, xs, ex, hq, q⟩ := q1
  subst ex
  cases r1 with
  | cons r rr =>
    cases rr
    cases r
    obtain ⟨its, rv, p', hz⟩ := I1.tuple hq
    have la : a < s1.heap.objs.size := p'.lt
    refine call_enumT p' fun h' he hit hsz hk => wpAny_pyIter_enum he ?_
    have I2 : Inv X pins σ H1 { s1 with heap := h' } := I1.kept (t' := s1.toks) hk
    refine ⟨s1.heap.objs.size + 1, [s1.heap.objs.size + 1, s1.heap.objs.size], _, _, H1, rfl, I2, turn_enumT a (s1.heap.objs.size + 1) s1.heap.objs.size, ⟨⟨.none, he⟩, hit, Nat.succ_ne_self _, Nat.ne_of_lt (Nat.lt_succ_of_lt la), Nat.ne_of_lt la⟩, fun b hb => ?_, q⟩
    have e' : b = s1.heap.objs.size + 1 ∨ b = s1.heap.objs.size := by simpa using hb
    have hle : s1.heap.objs.size ≤ b := by
      rcases e' with z | z
      · rw [z]; exact Nat.le_add_right _ _
      · rw [z]; exact Nat.le_refl _
    exact I1.fpOk hle (I1.hok.fresh hle)
/-! ### a list or a tuple -/
def iAny (K : PySem.W.Frag) (tl : TE) : TI := fun σ H R => tl σ H fun x H1 => ∃ a, x = .ref a ∧ ((∃ xs, SqL K H1 a xs ∧ R (Itl K a) H1) ∨ ∃ xs, SqT K H1 a xs ∧ R (Itt K a) H1)
theorem pi_any {X : Cx} {tg l : Expr} {tl : TE} (hl : PE X l tl) : PI X tg l (iAny X.K tl) := by
  refine ⟨fun pins s σ H R I h => ?_⟩
  refine thn (hl.run pins s σ H _ I h) fun v s1 ⟨x, H1, I1, r1, q1⟩ => ?_
  obtain ⟨a, e, q1⟩ := q1
  subst e
  cases r1
  rcases q1 with ⟨xs, hq, q⟩ | ⟨xs, hq, q⟩
  · obtain ⟨its, rv, p, hz⟩ := I1.list hq
    refine wpAny_pyIter_list p.isList ?_
    refine ⟨s1.heap.objs.size, [s1.heap.objs.size], _, _, H1, rfl, I1.kept (t' := s1.toks) fun b o e => Heap.get?_push_of_some _ e, turn_list a _, ⟨_, Heap.get?_push_size _ rfl, rfl, rfl⟩, fun b hb => ?_, q⟩
    have e : b = s1.heap.objs.size := by simpa using hb
    subst e
    exact I1.fpOk (Nat.le_refl _) (I1.hok.fresh (Nat.le_refl _))
  · obtain ⟨its, rv, p, hz⟩ := I1.tuple hq
    refine wpAny_pyIter_tuple (show s1.heap.IsTuple a its.toArray from p) ?_
    refine ⟨s1.heap.objs.size, [s1.heap.objs.size], _, _, H1, rfl, I1.kept (t' := s1.toks) fun b o e => Heap.get?_push_of_some _ e, turn_tuple a _, ⟨_, Heap.get?_push_size _ rfl, rfl, rfl⟩, fun b hb => ?_, q⟩
    have e : b = s1.heap.objs.size := by simpa using hb
    subst e
    exact I1.fpOk (Nat.le_refl _) (I1.hok.fresh (Nat.le_refl _))
end Et

/-! Orders: rows handed in, the object, its dicts. -/
namespace Ad
open PySem PySem.Spec PySem.Calls PyProof.Rows L2
theorem lsq_ty {K : PySem.W.Frag} {H : Hp} {a : Addr} {xs : List V} (h : SqL K H a xs) : TyX K H (.ref a) (.type "list") := by
  rcases h with (h | ⟨o, h⟩) | h
  · exact .base (.lst h)
  · exact .base (.frz h)
  · obtain ⟨o, _, _, e, c, _⟩ := h
    exact .kList e c
theorem kitSS' {K : PySem.W.Frag} : PySem.W.kitOne K (.type "str") (.type "str") = some true := kit_ty (by decide +kernel)
theorem kitIB {K : PySem.W.Frag} : PySem.W.kitOne K (.type "int") (.type "bool") = some false := kit_ty (by decide +kernel)
theorem kitLL {K : PySem.W.Frag} : PySem.W.kitAny K (.type "list") [.type "list", .type "tuple"] = some true := kitAny_cons (b := true) (kit_ty (by decide +kernel)) (fun z => nomatch z) fun _ => rfl
theorem kitTL {K : PySem.W.Frag} : PySem.W.kitAny K (.type "tuple") [.type "list", .type "tuple"] = some true :=
  kitAny_cons (b := false) (kit_ty (by decide +kernel)) (fun _ => kitAny_cons (b := true) (kit_ty (by decide +kernel)) (fun z => nomatch z) fun _ => rfl) (fun z => nomatch z)
/-- a list or a tuple -/
def SqX (K : PySem.W.Frag) (H : Hp) (a : Addr) (xs : List V) : Prop := SqL K H a xs ∨ SqT K H a xs
theorem SqX.same {K : PySem.W.Frag} {H H' : Hp} (s : Same H H') {a : Addr} {xs : List V} (h : SqX K H a xs) : SqX K H' a xs := h.elim (fun q => .inl (s.seq q)) fun q => .inr ((TK.same s).sq q)
theorem sqx_ty {K : PySem.W.Frag} {H : Hp} {a : Addr} {xs : List V} (h : SqX K H a xs) : ∃ t, TyX K H (.ref a) t ∧ PySem.W.kitAny K t [.type "list", .type "tuple"] = some true := by
  rcases h with h | h
  · exact ⟨_, lsq_ty h, kitLL⟩
  · exact ⟨_, sq_ty h, kitTL⟩
/-- a triple, as a list or a tuple -/
def RowX (K : PySem.W.Frag) (H : Hp) (r : Row) (v : V) : Prop := ∃ b, v = .ref b ∧ SqX K H b [.str r.1, .int (r.2.1 : Int), .int r.2.2]
theorem RowX.same {K : PySem.W.Frag} {H H' : Hp} (s : Same H H') (r : Row) (v : V) (h : RowX K H r v) : RowX K H' r v := by
  obtain ⟨b, e, q⟩ := h
  exact ⟨b, e, q.same s⟩
theorem RowV.x {K : PySem.W.Frag} {H : Hp} (r : Row) (v : V) (h : RowV K H r v) : RowX K H r v := by
  obtain ⟨b, e, q⟩ := h
  exact ⟨b, e, .inr q⟩
/-- names in their places -/
def ranked (R S : List Row) : List Row := ("yes", 0, 1) :: (R ++ S)
def wK (rs : List Row) : List (L2.Key × V) := rs.map fun r => (.inr r.1, .int r.2.2)
def pK : Nat → List Row → List (L2.Key × V)
  | _, [] => []
  | n, r :: rs => (.inr r.1, .int (n : Int)) :: pK (n + 1) rs
theorem valV_wK {rs : List Row} (nd : (rs.map (·.1)).Nodup) {r : Row} (h : r ∈ rs) : valV (wK rs) (.inr r.1) = some (.int r.2.2) := by
  induction rs with
  | nil => cases h
  | cons q rs ih =>
    obtain ⟨n1, n2⟩ := List.nodup_cons.mp nd
    rcases List.mem_cons.mp h with e | e
    · rw [e]
      exact valV_pos rfl
    · have ne : ¬ ((.inr q.1 : L2.Key) = .inr r.1) := fun z => n1 (by show q.1 ∈ _; rw [Sum.inr.inj z]; exact List.mem_map.mpr ⟨r, e, rfl⟩)
      show valV ((.inr q.1, .int q.2.2) :: wK rs) _ = _
      rw [valV_neg ne]
      exact ih n2 e
theorem valV_pK {rs : List Row} (nd : (rs.map (·.1)).Nodup) : ∀ (n i : Nat) (r : Row), rs[i]? = some r → valV (pK n rs) (.inr r.1) = some (.int ((n + i : Nat) : Int)) := by
  induction rs with
  | nil => intro n i r h; cases h
  | cons q rs ih =>
    intro n i r h
    obtain ⟨n1, n2⟩ := List.nodup_cons.mp nd
    cases i with
    | zero =>
      cases h
      exact valV_pos rfl
    | succ i =>
      have ne : ¬ ((.inr q.1 : L2.Key) = .inr r.1) := fun z => n1 (by show q.1 ∈ _; rw [Sum.inr.inj z]; exact List.mem_map.mpr ⟨r, List.mem_of_getElem? h, rfl⟩)
      show valV ((.inr q.1, .int (n : Int)) :: pK (n + 1) rs) _ = _
      rw [valV_neg ne, ih n2 (n + 1) i r h]
      have : n + 1 + i = n + (i + 1) := by omega
      rw [this]
theorem wK_app (a b : List Row) : wK (a ++ b) = wK a ++ wK b := List.map_append
theorem pK_app : ∀ (a b : List Row) (n : Nat), pK n (a ++ b) = pK n a ++ pK (n + a.length) b
  | [], b, n => rfl
  | r :: a, b, n => by
    show _ :: pK (n + 1) (a ++ b) = _ :: (pK (n + 1) a ++ pK (n + (a.length + 1)) b)
    rw [pK_app a b (n + 1)]
    have : n + 1 + a.length = n + (a.length + 1) := by omega
    rw [this]
theorem wK_len (rs : List Row) : (wK rs).length = rs.length := List.length_map ..
theorem pK_len : ∀ (rs : List Row) (n : Nat), (pK n rs).length = rs.length
  | [], _ => rfl
  | r :: rs, n => congrArg Nat.succ (pK_len rs (n + 1))
theorem pK_keys : ∀ (rs : List Row) (n : Nat), (pK n rs).map (·.1) = rs.map fun r => Sum.inr r.1
  | [], _ => rfl
  | r :: rs, n => congrArg (Sum.inr r.1 :: ·) (pK_keys rs (n + 1))
theorem wK_put {rs : List Row} {r : Row} (h : r.1 ∉ rs.map (·.1)) : putK (wK rs) (.inr r.1) (.int r.2.2) = wK (rs ++ [r]) := by
  rw [wK_app, putK_new _ (valV_out fun z => ?_)]
  · rfl
  · unfold wK at z
    rw [List.map_map] at z
    obtain ⟨q, hq, e⟩ := List.mem_map.mp z
    exact h (List.mem_map.mpr ⟨q, hq, Sum.inr.inj e⟩)
theorem pK_put {rs : List Row} {r : Row} (h : r.1 ∉ rs.map (·.1)) : putK (pK 0 rs) (.inr r.1) (.int (rs.length : Int)) = pK 0 (rs ++ [r]) := by
  rw [pK_app, putK_new _ (valV_out fun z => ?_), Nat.zero_add]
  · rfl
  · rw [pK_keys] at z
    obtain ⟨q, hq, e⟩ := List.mem_map.mp z
    exact h (List.mem_map.mpr ⟨q, hq, Sum.inr.inj e⟩)
/-- the object's fields -/
def ordF (bt br bw bp : Addr) : List (Str × V) := putF "_places" (.ref bp) (putF "_weights" (.ref bw) (putF "truths" (.ref br) (putF "things" (.ref bt) [])))
theorem nTT : ¬ (("things" : Str) = "truths") := by decide +kernel
theorem nTW : ¬ (("things" : Str) = "_weights") := by decide +kernel
theorem nTP : ¬ (("things" : Str) = "_places") := by decide +kernel
theorem nRW : ¬ (("truths" : Str) = "_weights") := by decide +kernel
theorem nRP : ¬ (("truths" : Str) = "_places") := by decide +kernel
theorem nWP : ¬ (("_weights" : Str) = "_places") := by decide +kernel
section
variable (bt br bw bp : Addr)
theorem ordF_things : (ordF bt br bw bp).lookup ("things" : Str) = some (.ref bt) := by
  unfold ordF
  rw [lookup_putF, if_neg nTP, lookup_putF, if_neg nTW, lookup_putF, if_neg nTT, lookup_putF, if_pos rfl]
theorem ordF_truths : (ordF bt br bw bp).lookup ("truths" : Str) = some (.ref br) := by
  unfold ordF
  rw [lookup_putF, if_neg nRP, lookup_putF, if_neg nRW, lookup_putF, if_pos rfl]
theorem ordF_weights : (ordF bt br bw bp).lookup ("_weights" : Str) = some (.ref bw) := by
  unfold ordF
  rw [lookup_putF, if_neg nWP, lookup_putF, if_pos rfl]
theorem ordF_places : (ordF bt br bw bp).lookup ("_places" : Str) = some (.ref bp) := by
  unfold ordF
  rw [lookup_putF, if_pos rfl]
end
/-- an Order of these rows stands at o -/
structure OrdI (K : PySem.W.Frag) (C : Addr) (H : Hp) (o : Addr) (R S : List Row) : Prop where
  ex : ∃ dx bt br bw bp vs1 vs2, H o = some (.ins C dx (ordF bt br bw bp)) ∧ SqT K H bt vs1 ∧ F2 (RowV K H) R vs1 ∧ SqT K H br vs2 ∧ F2 (RowV K H) S vs2 ∧ H bw = some (.dK (wK (ranked R S))) ∧ H bp = some (.dK (pK 0 (ranked R S)))
theorem OrdI.same {K : PySem.W.Frag} {C : Addr} {H H' : Hp} (s : Same H H') {o : Addr} {R S : List Row} (h : OrdI K C H o R S) : OrdI K C H' o R S := by
  obtain ⟨dx, bt, br, bw, bp, vs1, vs2, e1, e2, e3, e4, e5, e6, e7⟩ := h.ex
  have k := TK.same s
  exact ⟨dx, bt, br, bw, bp, vs1, vs2, s _ _ e1, k.sq e2, e3.mono (RowV.mono k), k.sq e4, e5.mono (RowV.mono k), s _ _ e6, s _ _ e7⟩
theorem OrdI.but {K : PySem.W.Frag} {C : Addr} {H H' : Hp} {p l : Addr} {ns : List Int} {c : Nat} (P : Pn.Pen H p l ns c) (b : Pn.But p H H') {o : Addr} {R S : List Row} (h : OrdI K C H o R S) : OrdI K C H' o R S := by
  obtain ⟨dx, bt, br, bw, bp, vs1, vs2, e1, e2, e3, e4, e5, e6, e7⟩ := h.ex
  have k := pen_tk P b
  obtain ⟨⟨a, d, f, ep, _⟩, _⟩ := P
  have n : ∀ {q : Addr} {ob : HO}, H q = some ob → (∀ f, ob ≠ .dK (Pn.penK l a d (c : Int) f)) → q ≠ p := fun {q ob} e hn z => by
    rw [z, ep] at e
    exact hn f (Option.some.inj e).symm
  have wn : ∀ (kvs : List (L2.Key × V)), (∃ v r, kvs = (.inr "yes", v) :: r) → ∀ f, HO.dK kvs ≠ .dK (Pn.penK l a d (c : Int) f) := by
    rintro kvs ⟨v, r, rfl⟩ f z
    have z' := HO.dK.inj z
    unfold Pn.penK at z'
    have z2 := congrArg (fun x : List (L2.Key × V) => x.head?.map (·.1)) z'
    have z3 : (some (.inr "yes") : Option L2.Key) = some (.inr "cells") := z2
    have z4 : ("yes" : Str) = "cells" := Sum.inr.inj (Option.some.inj z3)
    exact absurd z4 (by decide +kernel)
  exact ⟨dx, bt, br, bw, bp, vs1, vs2, b _ _ (n e1 (fun f z => nomatch z)) e1, k.sq e2, e3.mono (RowV.mono k), k.sq e4, e5.mono (RowV.mono k), b _ _ (n e6 (wn _ ⟨_, _, rfl⟩)) e6, b _ _ (n e7 (wn _ ⟨_, _, rfl⟩)) e7⟩
/-- rows that make an order -/
structure OOk (R S : List Row) : Prop where
  nd : ((ranked R S).map (·.1)).Nodup
  wt : ∀ r ∈ R ++ S, 1 ≤ r.2.2
  const : ∃ r ∈ R, r.2.1 = 0
  few : R.length + S.length ≤ 100
end Ad

namespace Ad
open PySem PySem.Spec PySem.Calls PyProof.Rows L2
namespace T
mutual
/-- the paths of a term, each ahead of those within -/
def paths : T → List (List Int)
  | .v _ => [[]]
  | .f _ ts => [] :: pathsL 0 ts
def pathsL (k : Nat) : List T → List (List Int)
  | [] => []
  | t :: ts => (paths t).map ((k : Int) :: ·) ++ pathsL (k + 1) ts
end
mutual
theorem paths_len : ∀ t : T, t.paths.length = t.size
  | .v _ => rfl
  | .f x ts => by
    show (pathsL 0 ts).length + 1 = 1 + sizeL ts
    rw [pathsL_len 0 ts]
    omega
theorem pathsL_len (k : Nat) : ∀ ts : List T, (pathsL k ts).length = sizeL ts
  | [] => rfl
  | t :: ts => by
    show ((paths t).map ((k : Int) :: ·) ++ pathsL (k + 1) ts).length = size t + sizeL ts
    rw [List.length_append, List.length_map, paths_len t, pathsL_len (k + 1) ts]
end
mutual
theorem paths_dep : ∀ (t : T) (p : List Int), p ∈ t.paths → p.length ≤ t.dep
  | .v _, p, h => by
    cases List.mem_singleton.mp h
    exact Nat.le_refl _
  | .f x ts, p, h => by
    show p.length ≤ 1 + depL ts
    rcases List.mem_cons.mp h with e | e
    · rw [e]
      exact Nat.zero_le _
    · exact pathsL_dep 0 ts p e
theorem pathsL_dep (k : Nat) : ∀ (ts : List T) (p : List Int), p ∈ pathsL k ts → p.length ≤ 1 + depL ts
  | [], p, h => by cases h
  | t :: ts, p, h => by
    show p.length ≤ 1 + max (dep t) (depL ts)
    rcases List.mem_append.mp h with e | e
    · obtain ⟨q, hq, rfl⟩ := List.mem_map.mp e
      have := paths_dep t q hq
      rw [List.length_cons]
      omega
    · have := pathsL_dep (k + 1) ts p e
      omega
end
/-- the part at a path -/
def sub : List Int → T → Option T
  | [], t => some t
  | _ :: _, .v _ => none
  | k :: p, .f _ ts => if 0 ≤ k then (match ts[k.toNat]? with
      | some u => sub p u
      | none => none) else none
/-- a term with another part at a path -/
def put (new : T) : List Int → T → Option T
  | [], _ => some new
  | _ :: _, .v _ => none
  | k :: p, .f x ts => if 0 ≤ k then (match ts[k.toNat]? with
      | some u => (match put new p u with
        | some r => some (.f x (ts.set k.toNat r))
        | none => none)
      | none => none) else none
theorem sub_cons {k : Int} {p : List Int} {t u : T} (h : sub (k :: p) t = some u) : ∃ (j : Nat) (x : Str) (ts : List T) (y : T), k = (j : Int) ∧ t = .f x ts ∧ ts[j]? = some y ∧ sub p y = some u := by
  cases t with
  | v i => cases h
  | f x ts =>
    have h' : (if 0 ≤ k then (match ts[k.toNat]? with | some u => sub p u | none => none) else none) = some u := h
    by_cases k0 : 0 ≤ k
    · rw [if_pos k0] at h'
      cases e : ts[k.toNat]? with
      | none =>
        rw [e] at h'
        cases h'
      | some y =>
        rw [e] at h'
        exact ⟨k.toNat, x, ts, y, by omega, rfl, e, h'⟩
    · rw [if_neg k0] at h'
      cases h'
theorem put_cons {new : T} {k : Int} {p : List Int} {t r : T} (h : put new (k :: p) t = some r) : ∃ (j : Nat) (x : Str) (ts : List T) (y z : T), k = (j : Int) ∧ t = .f x ts ∧ ts[j]? = some y ∧ put new p y = some z ∧ r = .f x (ts.set j z) := by
  cases t with
  | v i => cases h
  | f x ts =>
    have h' : (if 0 ≤ k then (match ts[k.toNat]? with | some u => (match put new p u with | some r => some (T.f x (ts.set k.toNat r)) | none => none) | none => none) else none) = some r := h
    by_cases k0 : 0 ≤ k
    · rw [if_pos k0] at h'
      cases e : ts[k.toNat]? with
      | none =>
        rw [e] at h'
        cases h'
      | some y =>
        rw [e] at h'
        dsimp only at h'
        cases e2 : put new p y with
        | none =>
          rw [e2] at h'
          cases h'
        | some z =>
          rw [e2] at h'
          cases h'
          exact ⟨k.toNat, x, ts, y, z, by omega, rfl, e, e2, rfl⟩
    · rw [if_neg k0] at h'
      cases h'
theorem pathsL_append : ∀ (k : Nat) (as bs : List T), pathsL k (as ++ bs) = pathsL k as ++ pathsL (k + as.length) bs
  | _, [], _ => rfl
  | k, t :: ts, bs => by
    show (paths t).map ((k : Int) :: ·) ++ pathsL (k + 1) (ts ++ bs) = (paths t).map ((k : Int) :: ·) ++ pathsL (k + 1) ts ++ pathsL (k + (ts.length + 1)) bs
    rw [pathsL_append (k + 1) ts bs, List.append_assoc]
    congr 3
    omega
theorem pathsL_next {ts : List T} {i : Nat} {u : T} (h : ts[i]? = some u) : pathsL 0 (ts.take (i + 1)) = pathsL 0 (ts.take i) ++ u.paths.map ((i : Int) :: ·) := by
  have hi := (List.getElem?_eq_some_iff.mp h).1
  rw [List.take_add_one, h, pathsL_append, List.length_take]
  show _ ++ ((paths u).map ((((0 + min i ts.length : Nat)) : Int) :: ·) ++ []) = _
  rw [List.append_nil]
  have e : 0 + min i ts.length = i := by omega
  rw [e]
theorem sizeL_take (ts : List T) (i : Nat) : sizeL (ts.take i) ≤ sizeL ts := by
  have h2 := sizeL_append (ts.take i) (ts.drop i)
  rw [List.take_append_drop] at h2
  omega
theorem sub_f {j : Nat} {p : List Int} {x : Str} {ts : List T} {y u : T} (h : ts[j]? = some y) (e : sub p y = some u) : sub ((j : Int) :: p) (.f x ts) = some u := by
  show (if 0 ≤ (j : Int) then (match ts[((j : Int)).toNat]? with | some u => sub p u | none => none) else none) = _
  rw [if_pos (by omega), Int.toNat_natCast, h]
  exact e
theorem put_f {new : T} {j : Nat} {p : List Int} {x : Str} {ts : List T} {y z : T} (h : ts[j]? = some y) (e : put new p y = some z) : put new ((j : Int) :: p) (.f x ts) = some (.f x (ts.set j z)) := by
  show (if 0 ≤ (j : Int) then (match ts[((j : Int)).toNat]? with | some u => (match put new p u with | some r => some (T.f x (ts.set ((j : Int)).toNat r)) | none => none) | none => none) else none) = _
  rw [if_pos (by omega), Int.toNat_natCast, h]
  show (match put new p y with | some r => some (T.f x (ts.set j r)) | none => none) = _
  rw [e]
mutual
/-- at each path something stands -/
theorem paths_sub : ∀ (t : T) (p : List Int), p ∈ t.paths → ∃ u, sub p t = some u
  | .v i, p, h => by
    cases List.mem_singleton.mp h
    exact ⟨_, rfl⟩
  | .f x ts, p, h => by
    rcases List.mem_cons.mp h with e | e
    · subst e
      exact ⟨_, rfl⟩
    · obtain ⟨j, p', y, u, e1, e2, e3⟩ := pathsL_sub 0 ts p e
      subst e1
      refine ⟨u, ?_⟩
      rw [Nat.zero_add]
      exact sub_f e2 e3
theorem pathsL_sub (k : Nat) : ∀ (ts : List T) (p : List Int), p ∈ pathsL k ts → ∃ (j : Nat) (p' : List Int) (y u : T), p = ((k + j : Nat) : Int) :: p' ∧ ts[j]? = some y ∧ sub p' y = some u
  | [], p, h => by cases h
  | t :: ts, p, h => by
    rcases List.mem_append.mp h with e | e
    · obtain ⟨q, hq, rfl⟩ := List.mem_map.mp e
      obtain ⟨u, hu⟩ := paths_sub t q hq
      exact ⟨0, q, t, u, rfl, rfl, hu⟩
    · obtain ⟨j, p', y, u, e1, e2, e3⟩ := pathsL_sub (k + 1) ts p e
      refine ⟨j + 1, p', y, u, ?_, e2, e3⟩
      rw [e1]
      congr 2
      omega
end
/-- what stands at a path is no larger -/
theorem sub_small : ∀ {p : List Int} {t u : T}, sub p t = some u → (t.named = true → u.named = true) ∧ u.dep ≤ t.dep ∧ u.size ≤ t.size
  | [], t, u, h => by
    cases (show some t = some u from h)
    exact ⟨id, Nat.le_refl _, Nat.le_refl _⟩
  | k :: p, t, u, h => by
    obtain ⟨j, x, ts, y, rfl, rfl, e1, e2⟩ := sub_cons h
    obtain ⟨h1, h2, h3⟩ := sub_small e2
    have m := List.mem_of_getElem? e1
    have d1 := dep_mem m
    have d2 := size_mem m
    refine ⟨fun n => h1 (named_mem m ?_), ?_, ?_⟩
    · have n' : (nameOk x && namedL ts) = true := n
      rw [Bool.and_eq_true] at n'
      exact n'.2
    · show u.dep ≤ 1 + depL ts
      omega
    · show u.size ≤ 1 + sizeL ts
      omega
theorem depL_set : ∀ {ts : List T} {j : Nat} {y z : T}, ts[j]? = some y → ∀ m, depL ts ≤ m → z.dep ≤ m → depL (ts.set j z) ≤ m
  | [], j, y, z, h, m, _, _ => by cases h
  | t :: ts, 0, y, z, h, m, h1, h2 => by
    show max (dep z) (depL ts) ≤ m
    have h1' : max (dep t) (depL ts) ≤ m := h1
    omega
  | t :: ts, j + 1, y, z, h, m, h1, h2 => by
    have h1' : max (dep t) (depL ts) ≤ m := h1
    have := depL_set (ts := ts) (j := j) (y := y) (z := z) h m (by omega) h2
    show max (dep t) (depL (ts.set j z)) ≤ m
    omega
theorem sizeL_set : ∀ {ts : List T} {j : Nat} {y z : T}, ts[j]? = some y → sizeL (ts.set j z) + y.size = sizeL ts + z.size
  | [], j, y, z, h => by cases h
  | t :: ts, 0, y, z, h => by
    cases h
    show size z + sizeL ts + size t = size t + sizeL ts + size z
    omega
  | t :: ts, j + 1, y, z, h => by
    have := sizeL_set (ts := ts) (j := j) (y := y) (z := z) h
    show size t + sizeL (ts.set j z) + y.size = size t + sizeL ts + z.size
    omega
theorem namedL_set : ∀ {ts : List T} {j : Nat} {z : T}, namedL ts = true → z.named = true → namedL (ts.set j z) = true
  | [], j, z, _, _ => rfl
  | t :: ts, 0, z, h, hz => by
    have h' : (named t && namedL ts) = true := h
    rw [Bool.and_eq_true] at h'
    show (named z && namedL ts) = true
    rw [hz, h'.2]
    rfl
  | t :: ts, j + 1, z, h, hz => by
    have h' : (named t && namedL ts) = true := h
    rw [Bool.and_eq_true] at h'
    show (named t && namedL (ts.set j z)) = true
    rw [h'.1, namedL_set h'.2 hz]
    rfl
/-- what is put at a path stands there, and what stood there can be put back -/
theorem put_sub (new : T) : ∀ {p : List Int} {t u : T}, sub p t = some u → ∃ r, put new p t = some r ∧ sub p r = some new ∧ put u p r = some t ∧ r.size ≤ t.size + new.size ∧ r.dep ≤ t.dep + new.dep ∧ (t.named = true → new.named = true → r.named = true)
  | [], t, u, h => by
    cases (show some t = some u from h)
    exact ⟨new, rfl, rfl, rfl, Nat.le_add_left _ _, Nat.le_add_left _ _, fun _ n => n⟩
  | k :: p, t, u, h => by
    obtain ⟨j, x, ts, y, rfl, rfl, e1, e2⟩ := sub_cons h
    obtain ⟨r, h1, h2, h3, h4, h5, h6⟩ := put_sub new e2
    have hj := (List.getElem?_eq_some_iff.mp e1).1
    have at' : (ts.set j r)[j]? = some r := by
      rw [List.getElem?_set_self hj]
    have m := List.mem_of_getElem? e1
    have d1 := dep_mem m
    have d2 := size_mem m
    refine ⟨.f x (ts.set j r), put_f e1 h1, sub_f at' h2, ?_, ?_, ?_, ?_⟩
    · rw [put_f at' h3, List.set_set]
      congr 2
      refine List.ext_getElem? fun i => ?_
      by_cases e : j = i
      · subst e
        rw [List.getElem?_set_self hj, e1]
      · rw [List.getElem?_set_ne e]
    · have := sizeL_set (z := r) e1
      show 1 + sizeL (ts.set j r) ≤ 1 + sizeL ts + new.size
      omega
    · have := depL_set (z := r) e1 (depL ts + new.dep) (by omega) (by omega)
      show 1 + depL (ts.set j r) ≤ 1 + depL ts + new.dep
      omega
    · intro n nn
      have n' : (nameOk x && namedL ts) = true := n
      rw [Bool.and_eq_true] at n'
      show (nameOk x && namedL (ts.set j r)) = true
      rw [n'.1, namedL_set n'.2 (h6 (named_mem m n'.2) nn)]
      rfl
mutual
/-- the steps of a path are small -/
theorem paths_small : ∀ (t : T) (p : List Int), p ∈ t.paths → ∀ k ∈ p, 0 ≤ k ∧ k < t.size
  | .v i, p, h, k, hk => by
    cases List.mem_singleton.mp h
    cases hk
  | .f x ts, p, h, k, hk => by
    have e0 : size (.f x ts) = 1 + sizeL ts := rfl
    rcases List.mem_cons.mp h with e | e
    · rw [e] at hk
      cases hk
    · have := pathsL_small 0 ts p e k hk
      have l := len_sizeL ts
      omega
theorem pathsL_small (n : Nat) : ∀ (ts : List T) (p : List Int), p ∈ pathsL n ts → ∀ k ∈ p, 0 ≤ k ∧ k < n + sizeL ts
  | [], p, h, k, hk => by cases h
  | t :: ts, p, h, k, hk => by
    have s1 := size_pos t
    have e0 : sizeL (t :: ts) = size t + sizeL ts := rfl
    rcases List.mem_append.mp h with e | e
    · obtain ⟨q, hq, rfl⟩ := List.mem_map.mp e
      rcases List.mem_cons.mp hk with z | z
      · omega
      · have := paths_small t q hq k z
        omega
    · have := pathsL_small (n + 1) ts p e k hk
      omega
end
end T
/-- a path's value -/
def PV (K : PySem.W.Frag) (H : Hp) (p : List Int) (v : V) : Prop := ∃ a, v = .ref a ∧ SqT K H a (p.map V.int)
theorem PV.mono {K : PySem.W.Frag} {H H' : Hp} (k : TK H H') (p : List Int) (v : V) (h : PV K H p v) : PV K H' p v := by
  obtain ⟨a, e, s⟩ := h
  exact ⟨a, e, k.sq s⟩
def spLPaths (K : PySem.W.Frag) (n : Nat) : Sp := fun vs H Q _ => ∃ (t : T) (x : V), vs = [x] ∧ Tm K H t x ∧ t.dep < n ∧ t.size ≤ 10000 ∧
  ∀ H' p us, Same H H' → H p = none → H' p = some (.lst us) → F2 (PV K H') t.paths us → Q (.ref p) H'
def spAt (K : PySem.W.Frag) : Sp := fun vs H Q _ => ∃ (t u : T) (x : V) (a : Addr) (p : List Int), vs = [x, .ref a] ∧ Tm K H t x ∧ SqT K H a (p.map V.int) ∧ T.sub p t = some u ∧ ∀ v, Tm K H u v → Q v H
/-- put at a path of fewer than n steps -/
def spPut (K : PySem.W.Frag) (n : Nat) : Sp := fun vs H Q _ => ∃ (t new r : T) (x y : V) (a : Addr) (p : List Int), vs = [x, .ref a, y] ∧ Tm K H t x ∧ Tm K H new y ∧ SqT K H a (p.map V.int) ∧ p.length < n ∧ t.size ≤ 10000 ∧ T.put new p t = some r ∧ ∀ v H', Same H H' → Tm K H' r v → Q v H'
section
variable {K : PySem.W.Frag}
theorem Tms.set {H : Hp} {x : V} {t : T} : ∀ {ts : List T} {xs : List V} (j : Nat), Tms K H ts xs → Tm K H t x → Tms K H (ts.set j t) (xs.take j ++ x :: xs.drop (j + 1)) ∨ ts.length ≤ j
  | [], _, j, _, _ => .inr (Nat.zero_le _)
  | u :: us, xs, j, h, hx => by
    obtain ⟨y, ys, rfl, one, all⟩ := h
    cases j with
    | zero => exact .inl ⟨x, ys, rfl, hx, all⟩
    | succ j =>
      rcases Tms.set (ts := us) (xs := ys) j all hx with z | z
      · exact .inl ⟨y, _, rfl, one, z⟩
      · exact .inr (Nat.succ_le_succ z)
end
theorem cut_low {x : V} {xs : List V} {j : Nat} (h : j < xs.length) : ¬ (HT.sIx (x :: xs).length 0 none = 0 ∧ HT.sIx (x :: xs).length (x :: xs).length (some ((j : Int) + 1)) = (x :: xs).length) ∧ cutV (x :: xs) none (some ((j : Int) + 1)) = x :: xs.take j := by
  have e : ((j : Int) + 1) = ((j + 1 : Nat) : Int) := by omega
  rw [e]
  have e2 : HT.sIx (x :: xs).length (x :: xs).length (some ((j + 1 : Nat) : Int)) = j + 1 := by
    rw [HT.sIx_nat, List.length_cons]
    omega
  constructor
  · rw [e2, List.length_cons]
    omega
  · unfold cutV
    rw [e2, HT.sIx_none, List.drop_zero, Nat.sub_zero, List.take_succ_cons]
theorem cut_high {x : V} {xs : List V} {j : Nat} (h : j < xs.length) : ¬ (HT.sIx (x :: xs).length 0 (some ((j : Int) + 1 + 1)) = 0 ∧ HT.sIx (x :: xs).length (x :: xs).length none = (x :: xs).length) ∧ cutV (x :: xs) (some ((j : Int) + 1 + 1)) none = xs.drop (j + 1) := by
  have e : ((j : Int) + 1 + 1) = ((j + 2 : Nat) : Int) := by omega
  rw [e]
  have e2 : HT.sIx (x :: xs).length 0 (some ((j + 2 : Nat) : Int)) = j + 2 := by
    rw [HT.sIx_nat, List.length_cons]
    omega
  constructor
  · rw [e2]
    omega
  · unfold cutV
    rw [e2, HT.sIx_none]
    show ((xs.drop (j + 1))).take _ = _
    rw [List.take_of_length_le]
    rw [List.length_drop, List.length_cons]
    omega
theorem cut_tail {k : Int} {p : List Int} : ¬ (HT.sIx ((k :: p).map V.int).length 0 (some 1) = 0 ∧ HT.sIx ((k :: p).map V.int).length ((k :: p).map V.int).length none = ((k :: p).map V.int).length) ∧ cutV ((k :: p).map V.int) (some 1) none = p.map V.int := by
  have e2 : HT.sIx ((k :: p).map V.int).length 0 (some ((1 : Nat) : Int)) = 1 := by
    rw [HT.sIx_nat, List.length_map, List.length_cons]
    omega
  have e3 : HT.sIx ((k :: p).map V.int).length 0 (some 1) = 1 := e2
  constructor
  · rw [e3]
    omega
  · unfold cutV
    rw [e3, HT.sIx_none]
    show (p.map V.int).take _ = _
    rw [List.take_of_length_le]
    rw [List.length_map, List.length_map, List.length_cons]
    omega
theorem cut_low' {x : V} {xs : List V} {j : Nat} (h : j < xs.length) : ¬ (HT.sIx (x :: xs).length 0 none = 0 ∧ HT.sIx (x :: xs).length (x :: xs).length (some (1 + (j : Int))) = (x :: xs).length) ∧ cutV (x :: xs) none (some (1 + (j : Int))) = x :: xs.take j := by
  rw [Int.add_comm]
  exact cut_low h
theorem cut_high' {x : V} {xs : List V} {j : Nat} (h : j < xs.length) : ¬ (HT.sIx (x :: xs).length 0 (some (1 + (j : Int) + 1)) = 0 ∧ HT.sIx (x :: xs).length (x :: xs).length none = (x :: xs).length) ∧ cutV (x :: xs) (some (1 + (j : Int) + 1)) none = xs.drop (j + 1) := by
  rw [Int.add_comm 1]
  exact cut_high h
end Ad

/-! Drawn substitutions. -/
namespace Ad
open PySem PySem.Spec PySem.Calls PyProof.Rows L2
theorem sz_mono {a b : Nat} (h : a ≤ b) : sz a ≤ sz b := by
  induction h with
  | refl => exact Nat.le_refl _
  | step h ih =>
    refine Nat.le_trans ih ?_
    show sz _ ≤ 1 + 3 * sz _
    omega
theorem dn_mono {a b : Nat} (h : a ≤ b) : dn a ≤ dn b := by
  induction h with
  | refl => exact Nat.le_refl _
  | step h ih =>
    refine Nat.le_trans ih ?_
    show dn _ ≤ 2 + 3 * dn _
    omega
theorem DT.mono {R : List Row} {d e : Nat} {nv : Int} {t : T} (h : d ≤ e) (x : DT R d nv t) : DT R e nv t := ⟨x.named, Nat.le_trans x.dep (by omega), Nat.le_trans x.size (sz_mono h), x.vars, x.wf⟩
theorem rising_len : ∀ {l : List Int} {lo hi : Int}, l.Pairwise (· < ·) → (∀ i ∈ l, lo ≤ i ∧ i < hi) → lo ≤ hi → (l.length : Int) ≤ hi - lo
  | [], lo, hi, _, _, h => by
    show ((0 : Nat) : Int) ≤ hi - lo
    omega
  | a :: l, lo, hi, h1, h2, h => by
    obtain ⟨p1, p2⟩ := List.pairwise_cons.mp h1
    obtain ⟨q1, q2⟩ := h2 a List.mem_cons_self
    have := rising_len (lo := a + 1) (hi := hi) p2 (fun i hi' => ⟨by have := p1 i hi'; omega, (h2 i (List.mem_cons_of_mem _ hi')).2⟩) (by omega)
    rw [List.length_cons]
    omega
theorem Sb.mem_put {tb : Sb} {i : Int} {t : T} {e : Int × T} (h : e ∈ tb.put i t) : e = (i, t) ∨ e ∈ tb := by
  unfold Sb.put at h
  split at h
  · obtain ⟨e', he, h'⟩ := List.mem_map.mp h
    split at h'
    · rename_i z
      left
      rw [← h', z]
    · right
      rw [← h']
      exact he
  · rcases List.mem_append.mp h with z | z
    · exact .inr z
    · exact .inl (List.mem_singleton.mp z)
/-- a substitution in its one form, drawn -/
structure DSu (R : List Row) (deep : Nat) (nv : Int) (su : Sb) : Prop where
  rising : (su.map (·.1)).Pairwise (· < ·)
  each : ∀ e ∈ su, 0 ≤ e.1 ∧ e.1 < nv ∧ DT R deep nv e.2
theorem DSu.few {R : List Row} {deep : Nat} {nv : Int} {su : Sb} (h : DSu R deep nv su) (n : 0 ≤ nv) : (su.length : Int) ≤ nv := by
  have := rising_len (lo := 0) (hi := nv) h.rising (fun i hi => by
    obtain ⟨e, he, rfl⟩ := List.mem_map.mp hi
    exact ⟨(h.each e he).1, (h.each e he).2.1⟩) n
  rw [List.length_map] at this
  omega
section
variable {P : Program} {w : World} {K : PySem.W.Frag} {mg : Str → Option Value} {base : Heap}
def spDPairs (K : PySem.W.Frag) (n : Nat) : Sp := fun vs H Q _ => ∃ (p l ra : Addr) (ns : List Int) (c deep nv : Nat) (R : List Row), vs = [.ref p, .ref ra, .int (nv : Int), .int (deep : Int)] ∧ Pn.Pen H p l ns c ∧ ns.length ≤ 1000 ∧ c + nv * (2 + dn deep) ≤ 1000000000 ∧ RowsAt K H ra R ∧ ROk R ∧
  deep < n ∧ deep ≤ 50 ∧ nv ≤ 60 ∧ ∀ su x H' c', DSu R deep nv su → Su K H' su x → c' ≤ c + nv * (2 + dn deep) → Pn.Pen H' p l ns c' → Pn.But p H H' → Q x H'
end
end Ad

/-! Texts of terms and substitutions. -/
namespace Ad
open PySem PySem.Spec PySem.Calls PyProof.Rows L2
theorem tuple_piled (ts : List Str) : (tupleText ts).length ≤ 3 + piled ts := by
  unfold tupleText
  rw [strLen_append, strLen_append]
  have e1 : ((("(" : String) : Str)).length = 1 := rfl
  have e3 : (((if ts.length == 1 then ",)" else ")" : String) : Str)).length ≤ 2 := by split <;> decide
  rw [e1]
  by_cases z : ts = []
  · subst z
    have e4 : (Str.join ", " ([] : List Str)).length = 0 := rfl
    rw [e4]
    omega
  · have h2 := join_length_add ts z
    omega
theorem small_text (i : Int) (h0 : 0 ≤ i) (h : i < 64) : (toString i : Str).length ≤ 2 ∧ i.natAbs.log2 < 1920 := by
  have all : ∀ j : Fin 64, (toString ((j.val : Nat) : Int) : Str).length ≤ 2 ∧ (((j.val : Nat) : Int)).natAbs.log2 < 1920 := by decide +kernel
  have := all ⟨i.toNat, by omega⟩
  have e : ((i.toNat : Nat) : Int) = i := Int.toNat_of_nonneg h0
  rw [show (((⟨i.toNat, by omega⟩ : Fin 64).val : Nat) : Int) = i from e] at this
  exact this
namespace T
mutual
theorem text : ∀ t : T, t.named = true → (∀ j ∈ t.vars, 0 ≤ j ∧ j < 64) → t.d.showable = true ∧ t.d.shown.length + 2 ≤ 17 * t.size
  | .v i, _, h => by
    obtain ⟨a, b⟩ := h i List.mem_cons_self
    obtain ⟨s1, s2⟩ := small_text i a b
    refine ⟨decide_eq_true s2, ?_⟩
    show (toString i : Str).length + 2 ≤ 17 * 1
    omega
  | .f x ts, n, h => by
    have n' : (nameOk x && namedL ts) = true := n
    rw [Bool.and_eq_true] at n'
    obtain ⟨a, b⟩ := texts ts n'.2 h
    refine ⟨?_, ?_⟩
    · show (true && PyData.showableAll (ds ts)) = true
      rw [a]
      rfl
    · have l := tuple_piled (PyData.shownAll (.str x :: ds ts))
      have e : piled (PyData.shownAll (.str x :: ds ts)) = ((PyData.shown (.str x)).length + 2) + piled (PyData.shownAll (ds ts)) := piled_cons _ _
      have s := nameOk_short n'.1
      show (tupleText (PyData.shownAll (.str x :: ds ts))).length + 2 ≤ 17 * (1 + sizeL ts)
      omega
theorem texts : ∀ ts : List T, namedL ts = true → (∀ j ∈ varsL ts, 0 ≤ j ∧ j < 64) → PyData.showableAll (ds ts) = true ∧ piled (PyData.shownAll (ds ts)) ≤ 17 * sizeL ts
  | [], _, _ => ⟨rfl, Nat.zero_le _⟩
  | t :: ts, n, h => by
    have n' : (named t && namedL ts) = true := n
    rw [Bool.and_eq_true] at n'
    obtain ⟨a1, a2⟩ := text t n'.1 fun j hj => h j (List.mem_append_left _ hj)
    obtain ⟨b1, b2⟩ := texts ts n'.2 fun j hj => h j (List.mem_append_right _ hj)
    refine ⟨?_, ?_⟩
    · show (PyData.showable (d t) && PyData.showableAll (ds ts)) = true
      rw [a1, b1]
      rfl
    · have e : piled (PyData.shownAll (d t :: ds ts)) = ((PyData.shown (d t)).length + 2) + piled (PyData.shownAll (ds ts)) := piled_cons _ _
      show piled (PyData.shownAll (d t :: ds ts)) ≤ 17 * (size t + sizeL ts)
      rw [e]
      omega
end
mutual
theorem fill_vars {s : Int → T} {j : Int} : ∀ t : T, j ∈ (fill s t).vars → ∃ i ∈ t.vars, j ∈ (s i).vars
  | .v i, h => ⟨i, List.mem_cons_self, h⟩
  | .f x ts, h => fillL_vars ts h
theorem fillL_vars {s : Int → T} {j : Int} : ∀ ts : List T, j ∈ varsL (fillL s ts) → ∃ i ∈ varsL ts, j ∈ (s i).vars
  | [], h => by cases h
  | t :: ts, h => by
    rcases List.mem_append.mp h with z | z
    · obtain ⟨i, a, b⟩ := fill_vars t z
      exact ⟨i, List.mem_append_left _ a, b⟩
    · obtain ⟨i, a, b⟩ := fillL_vars ts z
      exact ⟨i, List.mem_append_right _ a, b⟩
end
end T
/-- a substitution's data -/
def suD (su : Sb) : PyData := .tuple (su.map fun e => .tuple [.int e.1, e.2.d])
theorem sps_dp {K : PySem.W.Frag} {H : Hp} : ∀ {su : Sb} {bs : List Addr}, F2 (SP K H) su bs → DpAll K H (bs.map V.ref) (su.map fun e => PyData.tuple [.int e.1, e.2.d])
  | [], bs, h => by
    cases (show bs = [] from h)
    exact .nil
  | e :: su, bs, h => by
    obtain ⟨b, r, rfl, ⟨v, s, t⟩, rest⟩ := h
    exact .cons (.tup s (.cons (.int _) (.cons (Tm.dp _ _ t) .nil))) (sps_dp rest)
theorem su_dp {K : PySem.W.Frag} {H : Hp} {su : Sb} {x : V} (h : Su K H su x) : Dp K H x (suD su) := by
  obtain ⟨a, bs, rfl, t, f⟩ := h
  exact .tup t.sq (sps_dp f)
/-- terms that can be shown, with few parts -/
structure Sm (m : Nat) (t : T) : Prop where
  named : t.named = true
  dep : t.dep ≤ 40
  size : t.size ≤ m
  vars : ∀ j ∈ t.vars, 0 ≤ j ∧ j < 64
theorem su_lay : ∀ {su : Sb}, (∀ e ∈ su, e.2.named = true) → PyData.canLayAll0 (su.map fun e => PyData.tuple [.int e.1, e.2.d]) = true
  | [], _ => rfl
  | e :: su, h => by
    show (PyData.canLay0 (.tuple [.int e.1, e.2.d]) && PyData.canLayAll0 (su.map _)) = true
    rw [su_lay fun e he => h e (List.mem_cons_of_mem _ he)]
    show (((PyData.canLay0 (.int e.1) && (PyData.canLay0 e.2.d && true))) && true) = true
    rw [T.d_lay _ (h e List.mem_cons_self)]
    rfl
theorem su_depth : ∀ {su : Sb}, (∀ e ∈ su, e.2.dep ≤ 40) → PyData.depthAll (su.map fun e => PyData.tuple [.int e.1, e.2.d]) ≤ 41
  | [], _ => Nat.zero_le _
  | e :: su, h => by
    show max (PyData.depth (.tuple [.int e.1, e.2.d])) (PyData.depthAll (su.map _)) ≤ 41
    have h1 := su_depth (su := su) fun e he => h e (List.mem_cons_of_mem _ he)
    have h2 : PyData.depth (.tuple [.int e.1, e.2.d]) = max 0 (max e.2.d.depth 0) + 1 := rfl
    have h3 := h e List.mem_cons_self
    rw [T.d_depth] at h2
    omega
theorem su_show {m : Nat} : ∀ {su : Sb}, (∀ e ∈ su, 0 ≤ e.1 ∧ e.1 < 64 ∧ Sm m e.2) → PyData.showableAll (su.map fun e => PyData.tuple [.int e.1, e.2.d]) = true ∧ piled (PyData.shownAll (su.map fun e => PyData.tuple [.int e.1, e.2.d])) ≤ su.length * (17 * m + 9)
  | [], _ => ⟨rfl, Nat.zero_le _⟩
  | e :: su, h => by
    obtain ⟨a, b⟩ := su_show (m := m) (su := su) fun e he => h e (List.mem_cons_of_mem _ he)
    obtain ⟨i0, i1, sm⟩ := h e List.mem_cons_self
    obtain ⟨s1, s2⟩ := T.text e.2 sm.named sm.vars
    obtain ⟨t1, t2⟩ := small_text e.1 i0 i1
    have z := sm.size
    refine ⟨?_, ?_⟩
    · show ((decide (e.1.natAbs.log2 < 1920) && (PyData.showable e.2.d && true)) && PyData.showableAll (su.map _)) = true
      rw [a, s1, decide_eq_true t2]
      rfl
    · have l := tuple_piled [PyData.shown (.int e.1), PyData.shown e.2.d]
      have p : piled [PyData.shown (.int e.1), PyData.shown e.2.d] = ((PyData.shown (.int e.1)).length + 2) + ((PyData.shown e.2.d).length + 2) := by
        rw [piled_cons, piled_cons, piled_nil]
      have t1' : (PyData.shown (.int e.1)).length ≤ 2 := t1
      have q : piled (PyData.shownAll ((e :: su).map fun e => PyData.tuple [.int e.1, e.2.d])) = ((tupleText [PyData.shown (.int e.1), PyData.shown e.2.d]).length + 2) + piled (PyData.shownAll (su.map fun e => PyData.tuple [.int e.1, e.2.d])) := piled_cons _ _
      rw [q, List.length_cons, Nat.succ_mul]
      omega
/-- a small substitution can be shown -/
theorem su_text {m : Nat} {su : Sb} (hm : m ≤ 10000) (few : su.length ≤ 64) (h : ∀ e ∈ su, 0 ≤ e.1 ∧ e.1 < 64 ∧ Sm m e.2) : (suD su).showable = true ∧ (suD su).hasDict = false ∧ (suD su).depth ≤ 60 ∧ (suD su).shown.length ≤ sizeLine := by
  obtain ⟨a, b⟩ := su_show h
  refine ⟨a, PyData.hasDict_of_canLay _ ?_, ?_, ?_⟩
  · exact su_lay fun e he => (h e he).2.2.named
  · have := su_depth (su := su) fun e he => (h e he).2.2.dep
    show PyData.depthAll (su.map _) + 1 ≤ 60
    omega
  · have l := tuple_piled (PyData.shownAll (su.map fun e => PyData.tuple [.int e.1, e.2.d]))
    have mm : su.length * (17 * m + 9) ≤ 64 * (17 * 10000 + 9) := Nat.mul_le_mul few (by omega)
    show (tupleText (PyData.shownAll (su.map fun e => PyData.tuple [.int e.1, e.2.d]))).length ≤ sizeLine
    rw [sizeLine_eq]
    omega
theorem su_shaped {su : Sb} (h : ∀ e ∈ su, e.2.named = true ∧ e.2.dep ≤ 40) : SeqAt.shaped (suD su) = true := by
  have d := su_depth (su := su) fun e he => (h e he).2
  have l := su_lay (su := su) fun e he => (h e he).1
  unfold SeqAt.shaped
  rw [Bool.and_eq_true]
  refine ⟨l, decide_eq_true ?_⟩
  show PyData.depthAll (su.map _) + 1 ≤ _
  omega
theorem eqv_one {d : PyData} (h : SeqAt.shaped d = true) : PyData.eqv d d = true := SeqAt.eqv_refl d (SeqAt.canLay_of_shaped h)
end Ad

/-! zip's next, once a pair of its own still stands. -/
namespace Zl
open PySem RZ
abbrev IsZ (h : Heap) (z TI TO : Addr) (f0 : Value) (b : Bool) : Prop :=
  h.get? z = some { cls := .type "zip", dict := none, data := .fields #[f0, .bool b, .bool false, .ref TI, .ref TO], slots := #[] }
section
variable {prog : Program} {w : World} {A : Around} {E : Value → Shared → Prop} {s : Shared}
theorem wpAny_alive {M : Model} {a : Addr} {Q : Option Obj → Shared → Prop} (h : Q (s.heap.get? a) s) : wpAny M A (loadIfAlive a) Q E s := fun _ _ _ => h
theorem not_free {z TI TO a : Addr} {b : Bool} {oa : Obj} {Q : Bool → Shared → Prop} (hz : IsZ s.heap z TI TO (rawInt a) b) (ha : s.heap.get? a = some oa)
    (h : ∀ h', IsZ h' z TI TO (rawInt a) true → Heap.SameBut z s.heap h' → Q false { s with heap := h' }) : wpAny (model prog w) A (Builtin.SmallTypes.ownedTupleIsFree (.ref z)) Q E s := by
  unfold Builtin.SmallTypes.ownedTupleIsFree
  refine wpAny_bind (wpAny_field hz rfl (x := rawInt a) rfl ?_)
  show wpAny _ _ (loadIfAlive ((a : Int)).toNat >>= _) _ _ _
  rw [Int.toNat_natCast]
  refine wpAny_bind (wpAny_alive ?_)
  rw [ha]
  show wpAny _ _ (field (.ref z) 1 >>= _) _ _ _
  refine wpAny_bind (wpAny_field hz rfl (x := .bool b) rfl ?_)
  cases b with
  | true =>
    first
      | exact wpAny_pure (h s.heap hz (Heap.SameBut.refl ..))
      | exact wpAny_bind (wpAny_pure (wpAny_pure (h s.heap hz ⟨rfl, fun _ _ _ e => e⟩)))
  | false =>
    refine wpAny_bind (wpAny_setField_rec hz (by simp) fun h₁ hz₁ hs₁ => wpAny_pure ?_)
    exact h h₁ hz₁ hs₁
theorem next2_item {z TI TO i1 i2 l1 l2 c : Addr} {k1 k2 : Nat} {xs ys : Array Value} {x y : Value} {b : Bool} {oa : Obj} {Q : Value → Shared → Prop} (D : ZipApart z TI TO i1 i2 l1 l2)
    (hz : IsZ s.heap z TI TO (rawInt c) b) (ha : s.heap.get? c = some oa) (hTI : IsPair s.heap TI (.ref i1) (.ref i2))
    (h1 : s.heap.IsTupleIter i1 l1 k1) (h2 : s.heap.IsTupleIter i2 l2 k2) (hl1 : s.heap.IsTuple l1 xs) (hl2 : s.heap.IsTuple l2 ys) (hx : xs[k1]? = some x) (hy : ys[k2]? = some y)
    (hQ : ∀ h', IsZ h' z TI TO (rawInt c) true → h'.IsTupleIter i1 l1 (k1 + 1) → h'.IsTupleIter i2 l2 (k2 + 1) → IsPair h' s.heap.objs.size x y → h'.objs.size = s.heap.objs.size + 1 →
      (∀ c o, c ≠ z → c ≠ i1 → c ≠ i2 → s.heap.get? c = some o → h'.get? c = some o) → Q (.ref s.heap.objs.size) { s with heap := h' }) :
    wpAny (model prog w) A (Builtin.«zip.__next__» ⟨[.ref z], []⟩) (fun fin s' => ∃ v, fin = .done (.ret v) ∧ Q v s') E s := by
  show wpAny _ _ (field (.ref z) 2 >>= _) _ _ _
  refine wpAny_bind (wpAny_field hz rfl (x := .bool false) rfl ?_)
  show wpAny _ _ (field (.ref z) 3 >>= _) _ _ _
  refine wpAny_bind (wpAny_field hz rfl (x := .ref TI) rfl ?_)
  refine wpAny_bind (wpAny_seqItems hTI rfl ?_)
  show wpAny _ _ (Builtin.SmallTypes.ownedTupleIsFree (.ref z) >>= _) _ _ _
  refine wpAny_bind (not_free hz ha fun h₁ hz₁ hs₁ => ?_)
  simp only [Bool.false_eq_true, if_false]
  refine wpAny_bind ?_
  simp only [List.forIn_toArray, List.forIn_cons, List.forIn_nil]
  refine wpAny_bind (wpAny_bind (wpAny_holding ?_))
  show wpAny _ _ (Builtin.SmallTypes.nextOf (.ref i1) >>= _) _ _ _
  refine wpAny_bind (nextOf_tuple_item (h1.extBut hs₁.extBut D.i1z) (hl1.extBut hs₁.extBut D.l1z) hx fun h₂ h1₂ hs₂ => wpAny_pure ?_)
  refine wpAny_pure ?_
  refine wpAny_bind (wpAny_bind (wpAny_holding ?_))
  show wpAny _ _ (Builtin.SmallTypes.nextOf (.ref i2) >>= _) _ _ _
  refine wpAny_bind (nextOf_tuple_item ((h2.extBut hs₁.extBut D.i2z).extBut hs₂.extBut D.i12.symm) ((hl2.extBut hs₁.extBut D.l2z).extBut hs₂.extBut D.l2i1) hy fun h₃ h2₃ hs₃ => wpAny_pure ?_)
  refine wpAny_pure (wpAny_pure ?_)
  refine wpAny_bind (wpAny_newTuple (hsz := by show 2 ≤ sizeLine; decide) ?_)
  have hsz : h₃.objs.size = s.heap.objs.size := by rw [hs₃.1, hs₂.1, hs₁.1]
  refine wpAny_pure ⟨_, rfl, ?_⟩
  show Q (.ref h₃.objs.size) _
  have up : ∀ c o, c ≠ z → c ≠ i1 → c ≠ i2 → s.heap.get? c = some o → h₃.get? c = some o := fun c o c1 c2 c3 e => hs₃.extBut _ _ c3 (hs₂.extBut _ _ c2 (hs₁.extBut _ _ c1 e))
  have hp : IsPair (h₃.push { cls := .type "tuple", data := .seq #[x, y] }) h₃.objs.size x y := Heap.get?_push_size _ rfl
  rw [hsz] at hp ⊢
  refine hQ _ (Heap.get?_push_of_some _ (hs₃.extBut _ _ D.i2z.symm (hs₂.extBut _ _ D.i1z.symm hz₁))) ((h1₂.extBut hs₃.extBut D.i12).at fun o e => Heap.get?_push_of_some _ e) (h2₃.at fun o e => Heap.get?_push_of_some _ e) hp (by rw [Heap.size_push, hsz]) fun c o c1 c2 c3 e => Heap.get?_push_of_some _ (up c o c1 c2 c3 e)
theorem next2_end {z TI TO i1 i2 l1 l2 c : Addr} {k1 : Nat} {xs : Array Value} {b : Bool} {oa : Obj} {Q : Fin → Shared → Prop} (hh : A.handled = none) (D : ZipApart z TI TO i1 i2 l1 l2)
    (hz : IsZ s.heap z TI TO (rawInt c) b) (ha : s.heap.get? c = some oa) (hTI : IsPair s.heap TI (.ref i1) (.ref i2))
    (h1 : s.heap.IsTupleIter i1 l1 k1) (hl1 : s.heap.IsTuple l1 xs) (hx : xs[k1]? = none)
    (hE : ∀ h' e, (∀ c o, c ≠ z → c ≠ i1 → s.heap.get? c = some o → h'.get? c = some o) → (∃ o, h'.get? e = some o ∧ o.cls = .type "StopIteration") → E (.ref e) { s with heap := h' }) :
    wpAny (model prog w) A (Builtin.«zip.__next__» ⟨[.ref z], []⟩) Q E s := by
  show wpAny _ _ (field (.ref z) 2 >>= _) _ _ _
  refine wpAny_bind (wpAny_field hz rfl (x := .bool false) rfl ?_)
  show wpAny _ _ (field (.ref z) 3 >>= _) _ _ _
  refine wpAny_bind (wpAny_field hz rfl (x := .ref TI) rfl ?_)
  refine wpAny_bind (wpAny_seqItems hTI rfl ?_)
  show wpAny _ _ (Builtin.SmallTypes.ownedTupleIsFree (.ref z) >>= _) _ _ _
  refine wpAny_bind (not_free hz ha fun h₁ hz₁ hs₁ => ?_)
  simp only [Bool.false_eq_true, if_false]
  refine wpAny_bind ?_
  simp only [List.forIn_toArray, List.forIn_cons, List.forIn_nil]
  refine wpAny_bind (wpAny_bind (wpAny_holding ?_))
  show wpAny _ _ (Builtin.SmallTypes.nextOf (.ref i1) >>= _) _ _ _
  refine wpAny_bind (nextOf_tuple_end hh (h1.extBut hs₁.extBut D.i1z) (hl1.extBut hs₁.extBut D.l1z) hx fun h₂ e hs₂ he => ?_)
  exact hE h₂ e (fun c o c1 c2 x => hs₂ _ _ c2 (hs₁.extBut _ _ c1 x)) he
theorem pyNext2_item {z TI TO i1 i2 l1 l2 c : Addr} {k1 k2 : Nat} {xs ys : Array Value} {x y : Value} {b : Bool} {oa : Obj} {Q : Option Value → Shared → Prop} (D : ZipApart z TI TO i1 i2 l1 l2)
    (hz : IsZ s.heap z TI TO (rawInt c) b) (ha : s.heap.get? c = some oa) (hTI : IsPair s.heap TI (.ref i1) (.ref i2))
    (h1 : s.heap.IsTupleIter i1 l1 k1) (h2 : s.heap.IsTupleIter i2 l2 k2) (hl1 : s.heap.IsTuple l1 xs) (hl2 : s.heap.IsTuple l2 ys) (hx : xs[k1]? = some x) (hy : ys[k2]? = some y)
    (hQ : ∀ h', IsZ h' z TI TO (rawInt c) true → h'.IsTupleIter i1 l1 (k1 + 1) → h'.IsTupleIter i2 l2 (k2 + 1) → IsPair h' s.heap.objs.size x y → h'.objs.size = s.heap.objs.size + 1 →
      (∀ c o, c ≠ z → c ≠ i1 → c ≠ i2 → s.heap.get? c = some o → h'.get? c = some o) → Q (some (.ref s.heap.objs.size)) { s with heap := h' }) :
    wpAny (model prog w) A (pyNext (.ref z)) Q E s := by
  have hT : s.TypeIs (.ref z) "zip" := ⟨_, hz, rfl⟩
  unfold pyNext
  exact wpAny_bind (wpAny_attempt (wpAny_callSpecial?_slot (name := Str.ofString "__next__") hT F.slot_zip_next
    (wpAny_call_entry F.slot_zip_next hT F.entry_zip_next
      (next2_item D hz ha hTI h1 h2 hl1 hl2 hx hy fun h' a1 a2 a3 a4 a5 a6 => wpAny_pure (hQ h' a1 a2 a3 a4 a5 a6)) (F.args_zip_next_1 _))))
theorem pyNext2_end {z TI TO i1 i2 l1 l2 c : Addr} {k1 : Nat} {xs : Array Value} {b : Bool} {oa : Obj} {Q : Option Value → Shared → Prop} (hh : A.handled = none) (D : ZipApart z TI TO i1 i2 l1 l2)
    (hz : IsZ s.heap z TI TO (rawInt c) b) (ha : s.heap.get? c = some oa) (hTI : IsPair s.heap TI (.ref i1) (.ref i2))
    (h1 : s.heap.IsTupleIter i1 l1 k1) (hl1 : s.heap.IsTuple l1 xs) (hx : xs[k1]? = none)
    (hQ : ∀ h', (∀ c o, c ≠ z → c ≠ i1 → s.heap.get? c = some o → h'.get? c = some o) → Q none { s with heap := h' }) : wpAny (model prog w) A (pyNext (.ref z)) Q E s := by
  have hT : s.TypeIs (.ref z) "zip" := ⟨_, hz, rfl⟩
  unfold pyNext
  refine wpAny_bind (wpAny_attempt (wpAny_callSpecial?_slot (name := Str.ofString "__next__") hT F.slot_zip_next
    (wpAny_call_entry F.slot_zip_next hT F.entry_zip_next (next2_end hh D hz ha hTI h1 hl1 hx fun h' e hk he => ?_) (F.args_zip_next_1 _))))
  obtain ⟨o, ho, hc⟩ := he
  refine wpAny_bind (wpAny_isInstance (T := "StopIteration") (b := true) ⟨o, ho, hc⟩ isSubtype_stop ?_)
  exact wpAny_pure (hQ _ hk)
end
end Zl

/-! list(zip(t, u)) of two tuples of one length. -/
namespace Zl
open PySem PySem.Spec PySem.Calls PyProof.Rows L2 RZ
/-- where the walk stands -/
structure ZSt (h : Heap) (z TI TO i1 i2 a b : Addr) (k : Nat) : Prop where
  zip : (IsZip h z TI TO .none) ∨ ∃ c bb oa, IsZ h z TI TO (rawInt (c : Nat)) bb ∧ h.get? c = some oa ∧ c ≠ z ∧ c ≠ TI ∧ c ≠ TO ∧ c ≠ i1 ∧ c ≠ i2
  ti : IsPair h TI (.ref i1) (.ref i2)
  to : ∃ x y, IsPair h TO x y
  it1 : h.IsTupleIter i1 a k
  it2 : h.IsTupleIter i2 b k
/-- pairs stand at cs -/
def Prs (G : Hp) (xs ys : List V) (cs : List Addr) : Prop := ∀ (i : Nat) (c : Addr), cs[i]? = some c → ∃ x y, xs[i]? = some x ∧ ys[i]? = some y ∧ G c = some (.tup [x, y])
section
variable {X : Cx} {pins : List (Addr × Obj)} {σ : L2.St} {H : Hp}
theorem loop {A : Around} {R : Result → Shared → Prop} {S z TI TO i1 i2 a b : Addr} {xs ys : List V} {res : Value} (hh : A.handled = none) (D : ZipApart z TI TO i1 i2 a b) (len : xs.length = ys.length) (few : xs.length ≤ sizeLine) (nS : H S = none)
    (hR : ∀ s' G' cs, Inv X pins σ G' s' → Same H G' → G' S = some (.lst (cs.map V.ref)) → cs.length = xs.length → Prs G' xs ys cs → R (.ok (.ret res)) s') :
    ∀ (m k : Nat) (s : Shared) (G : Hp) (cs : List Addr), xs.length = k + m → Inv X pins σ G s → Same H G → G S = some (.lst (cs.map V.ref)) → cs.length = k → Prs G xs ys cs → SqT X.K G a xs → SqT X.K G b ys → (∀ c ∈ [z, TI, TO, i1, i2], FpOk X pins G c) → ZSt s.heap z TI TO i1 i2 a b k →
      codeAny (model X.prog X.w) A (.builtin "list.extend.loop" ⟨[.ref S, .ref z, res], []⟩) R s := by
  intro m
  induction m with
  | zero =>
    intro k s G cs hk I sm gS lcs prs sa sb fp st
    obtain ⟨its, rv, p, _⟩ := I.tuple sa
    obtain ⟨its2, rv2, p2, _⟩ := I.tuple sb
    have l1 := rv.length
    have e1 : its.toArray[k]? = none := by simp; omega
    refine codeAny_builtin F.entry_extend_loop ?_
    rw [Around.under_plainId F.plain_extend_loop _]
    show wpAny _ A.in1 (pyNext (.ref z) >>= _) _ _ s
    obtain ⟨zip, ti, ⟨x0, y0, to⟩, it1, it2⟩ := st
    have fin : ∀ h' : Heap, (∀ c o, c ∉ [z, TI, TO, i1, i2] → s.heap.get? c = some o → h'.get? c = some o) → R (.ok (.ret res)) { s with heap := h' } := fun h' hk' =>
      hR _ G cs (I.turnedL (t' := s.toks) (ch := [z, TI, TO, i1, i2]) hk' fp) sm gS (by omega) prs
    rcases zip with zip | ⟨c, bb, oa, zip, alive, _⟩
    · refine wpAny_bind (pyNext_zipT_end (A := A.in1) hh D zip ti to it1 it2 p p2 (.inl e1) fun h' hk' => wpAny_pure (fin h' fun c o hc e => ?_))
      exact hk' c o (fun q => hc (by simp [q])) (fun q => hc (by simp [q])) (fun q => hc (by simp [q])) (fun q => hc (by simp [q])) e
    · refine wpAny_bind (pyNext2_end (A := A.in1) hh D zip alive ti it1 p e1 fun h' hk' => wpAny_pure (fin h' fun c o hc e => ?_))
      exact hk' c o (fun q => hc (by simp [q])) (fun q => hc (by simp [q])) e
  | succ m ih =>
    intro k s G cs hk I sm gS lcs prs sa sb fp st
    obtain ⟨its, rv, p, _⟩ := I.tuple sa
    obtain ⟨its2, rv2, p2, _⟩ := I.tuple sb
    have hx : xs[k]? = some xs[k] := List.getElem?_eq_getElem (by omega)
    have hy : ys[k]? = some ys[k] := List.getElem?_eq_getElem (by omega)
    generalize xs[k] = x at hx
    generalize ys[k] = y at hy
    obtain ⟨u, hu, ru⟩ := rv.get hx
    obtain ⟨u2, hu2, ru2⟩ := rv2.get hy
    refine codeAny_builtin F.entry_extend_loop ?_
    rw [Around.under_plainId F.plain_extend_loop _]
    show wpAny _ A.in1 (pyNext (.ref z) >>= _) _ _ s
    obtain ⟨zip, ti, ⟨x0, y0, to⟩, it1, it2⟩ := st
    have lt : ∀ {c o}, s.heap.get? c = some o → s.heap.objs.size ≠ c := fun e => Nat.ne_of_gt (Heap.lt_size e)
    have nz : s.heap.objs.size ≠ z := by
      rcases zip with q | ⟨_, _, _, q, _⟩
      · exact lt q
      · exact lt q
    have nTI := lt ti
    have nTO := lt to
    have n1 : s.heap.objs.size ≠ i1 := by obtain ⟨_, e, _⟩ := it1; exact lt e
    have n2 : s.heap.objs.size ≠ i2 := by obtain ⟨_, e, _⟩ := it2; exact lt e
    have on : ∀ h' : Heap, (∀ c o, c ∉ [z, TI, TO, i1, i2] → s.heap.get? c = some o → h'.get? c = some o) → IsPair h' s.heap.objs.size u u2 → ZSt h' z TI TO i1 i2 a b (k + 1) →
        wpAny (model X.prog X.w) A.in1 (updateSeq S (·.push (.ref s.heap.objs.size)) >>= fun _ => again (.builtin "list.extend.loop" ⟨[.ref S, .ref z, res], []⟩))
          (fun fin s' => match fin with | .done f => R (.ok f) s' | .again c' => c'.quiet = true ∧ codeAny (model X.prog X.w) A c' R s') (fun e s' => R (.error e) s') { s with heap := h' } := by
      intro h' hk' hp st'
      have new : ObjOk X.prog X.w (upd G s.heap.objs.size (.tup [x, y])) h' s.heap.objs.size (.tup [x, y]) := ⟨by show 2 ≤ sizeLine; decide, [u, u2], .cons ru (.cons ru2 .nil), ⟨_, hp, rfl, _, rfl⟩⟩
      have fr := I.hok.fresh (Nat.le_refl s.heap.objs.size)
      have I1 : Inv X pins σ (upd G s.heap.objs.size (.tup [x, y])) { s with heap := h' } := I.turnedNew (t' := s.toks) (ch := [z, TI, TO, i1, i2]) hk' fp (Nat.le_refl _) new
      have k1 : Same G (upd G s.heap.objs.size (.tup [x, y])) := fun c o e => by
        rw [upd_ne (ne_of_none e fr)]
        exact e
      have gS1 := k1 _ _ gS
      have m1 : (upd G s.heap.objs.size (.tup [x, y])) s.heap.objs.size = some (.tup [x, y]) := upd_same
      have fp1 : ∀ c ∈ [z, TI, TO, i1, i2], FpOk X pins (upd G s.heap.objs.size (.tup [x, y])) c := by
        intro c hc
        obtain ⟨q1, q2⟩ := fp c hc
        refine ⟨?_, q2⟩
        rw [upd_ne (fun q => ?_)]
        · exact q1
        · simp only [List.mem_cons, List.mem_nil_iff, or_false] at hc
          rcases hc with e | e | e | e | e <;> rw [e] at q <;> first | exact nz q.symm | exact nTI q.symm | exact nTO q.symm | exact n1 q.symm | exact n2 q.symm
      have sa1 : SqT X.K (upd G s.heap.objs.size (.tup [x, y])) a xs := by
        rcases sa with (q | ⟨o, q⟩) | q
        · exact .inl (.inl (k1 _ _ q))
        · exact .inl (.inr ⟨o, k1 _ _ q⟩)
        · exact .inr q
      have sb1 : SqT X.K (upd G s.heap.objs.size (.tup [x, y])) b ys := by
        rcases sb with (q | ⟨o, q⟩) | q
        · exact .inl (.inl (k1 _ _ q))
        · exact .inl (.inr ⟨o, k1 _ _ q⟩)
        · exact .inr q
      have prs1 : Prs (upd G s.heap.objs.size (.tup [x, y])) xs ys cs := fun i c e => by
        obtain ⟨x', y', q1, q2, q3⟩ := prs i c e
        exact ⟨x', y', q1, q2, k1 _ _ q3⟩
      have sm1 : Same H (upd G s.heap.objs.size (.tup [x, y])) := fun c o e => k1 _ _ (sm _ _ e)
      generalize upd G s.heap.objs.size (.tup [x, y]) = G1 at I1 gS1 m1 fp1 sa1 sb1 prs1 sm1
      clear new fr k1
      obtain ⟨_, itsS, nn, rS, hlS, eS⟩ := I1.lstM gS1
      have lS := rS.length
      rw [List.length_map] at lS
      have I2 : Inv X pins σ (upd G1 S (.lst (cs.map V.ref ++ [.ref s.heap.objs.size]))) { ({ s with heap := h' } : Shared) with heap := h'.update S (Obj.mapSeq (·.push (.ref s.heap.objs.size))), toks := s.toks } :=
        I1.lset (its' := itsS ++ [Value.ref s.heap.objs.size]) gS1 eS (by simp) (rS.append (.cons (show L2.RelV (V.ref s.heap.objs.size) (Value.ref s.heap.objs.size) from rfl) .nil)) (by rw [List.length_append, List.length_map, List.length_singleton]; omega)
      have offS : ∀ c ∈ [z, TI, TO, i1, i2], c ≠ S := fun c hc q => by
        have := (fp1 c hc).1
        rw [q, gS1] at this
        cases this
      refine wpAny_bind (wpAny_updateSeq eS rfl (wpAny_pure ⟨plainId_quiet F.plain_extend_loop _, ?_⟩) (by rw [List.size_toArray]; omega) (by show (itsS.toArray.push _).size ≤ sizeLine + 1; rw [Array.size_push, List.size_toArray]; omega))
      have other : ∀ {c o}, c ≠ S → h'.get? c = some o → (h'.update S (Obj.mapSeq (·.push (.ref s.heap.objs.size)))).get? c = some o := fun n e => (Heap.get?_update_other _ _ (Ne.symm n)).trans e
      have bS : ∀ {c o}, G1 c = some o → (∀ l, o ≠ .lst l) → c ≠ S := fun e n q => by
        rw [q, gS1] at e
        exact n _ (Option.some.inj e).symm
      have k2 : ∀ {c o}, G1 c = some o → (∀ l, o ≠ .lst l) → (upd G1 S (.lst (cs.map V.ref ++ [.ref s.heap.objs.size]))) c = some o := fun e n => by
        rw [upd_ne (bS e n)]
        exact e
      refine ih (k + 1) _ (upd G1 S (.lst (cs.map V.ref ++ [.ref s.heap.objs.size]))) (cs ++ [s.heap.objs.size]) (by omega) I2 (fun c o e => ?_) (by rw [List.map_append]; exact upd_same) (by rw [List.length_append, List.length_singleton, lcs]) ?_ ?_ ?_ ?_ ?_
      · rw [upd_ne (ne_of_none e nS)]
        exact sm1 _ _ e
      · intro i c e
        rw [List.getElem?_append] at e
        split at e
        · obtain ⟨x', y', q1, q2, q3⟩ := prs1 i c e
          exact ⟨x', y', q1, q2, k2 q3 (by intro l q; cases q)⟩
        · rename_i hlt
          have i0 : i = k := by
            cases hi : i - cs.length with
            | zero => omega
            | succ j =>
              rw [hi] at e
              cases e
          subst i0
          rw [lcs, Nat.sub_self] at e
          cases e
          exact ⟨x, y, hx, hy, k2 m1 (by intro l q; cases q)⟩
      · rcases sa1 with (q | ⟨o, q⟩) | q
        · exact .inl (.inl (k2 q (by intro l q; cases q)))
        · exact .inl (.inr ⟨o, k2 q (by intro l q; cases q)⟩)
        · exact .inr q
      · rcases sb1 with (q | ⟨o, q⟩) | q
        · exact .inl (.inl (k2 q (by intro l q; cases q)))
        · exact .inl (.inr ⟨o, k2 q (by intro l q; cases q)⟩)
        · exact .inr q
      · intro c hc
        obtain ⟨q1, q2⟩ := fp1 c hc
        exact ⟨by rw [upd_ne (offS c hc)]; exact q1, q2⟩
      · obtain ⟨zip', ti', ⟨x1, y1, to'⟩, it1', it2'⟩ := st'
        refine ⟨?_, other (offS TI (by simp)) ti', ⟨x1, y1, other (offS TO (by simp)) to'⟩, it1'.at fun o e => other (offS i1 (by simp)) e, it2'.at fun o e => other (offS i2 (by simp)) e⟩
        rcases zip' with q | ⟨c, bb, oa, q, al, r⟩
        · exact .inl (other (offS z (by simp)) q)
        · by_cases hc : c = S
          · have al' := al
            rw [hc, eS] at al'
            cases al'
            have e5 := Heap.get?_update_self (Obj.mapSeq (·.push (.ref s.heap.objs.size))) eS rfl
            exact .inr ⟨c, bb, _, other (offS z (by simp)) q, by rw [hc]; exact e5, r⟩
          · exact .inr ⟨c, bb, oa, other (offS z (by simp)) q, other hc al, r⟩
    rcases zip with zip | ⟨c, bb, oa, zip, alive, c1, c2, c3, c4, c5⟩
    · refine wpAny_bind (pyNext_zipT_item (A := A.in1) D zip ti to it1 it2 p p2 (x := u) (y := u2) (by simpa using hu) (by simpa using hu2) fun h' z' TO' h1' h2' hT hsz hk' => ?_)
      refine on h' (fun c o hc e => hk' c o (fun q => hc (by simp [q])) (fun q => hc (by simp [q])) (fun q => hc (by simp [q])) (fun q => hc (by simp [q])) e) hT ?_
      exact ⟨.inr ⟨_, false, _, z', hT, nz, nTI, nTO, n1, n2⟩, hk' _ _ D.TIz D.TITO D.TIi1 D.TIi2 ti, ⟨_, _, TO'⟩, h1', h2'⟩
    · refine wpAny_bind (pyNext2_item (A := A.in1) D zip alive ti it1 it2 p p2 (x := u) (y := u2) (by simpa using hu) (by simpa using hu2) fun h' z' h1' h2' hT hsz hk' => ?_)
      refine on h' (fun c o hc e => hk' c o (fun q => hc (by simp [q])) (fun q => hc (by simp [q])) (fun q => hc (by simp [q])) e) hT ?_
      exact ⟨.inr ⟨c, true, oa, z', hk' _ _ c1 c4 c5 alive, c1, c2, c3, c4, c5⟩, hk' _ _ D.TIz D.TIi1 D.TIi2 ti, ⟨_, _, hk' _ _ D.TOz D.TOi1 D.TOi2 to⟩, h1', h2'⟩
end
end Zl

/-! list(zip(t, u)) as an expression. -/
namespace Zl
open PySem PySem.Spec PySem.Calls PyProof.Rows L2 RZ
theorem zip_no_len : typeLookup (.type "zip") "__len__" = pure none := by rw [typeLookup_type, builtinLookup_eq_fast]; kernel_rfl
theorem zip_no_hint : typeLookup (.type "zip") "__length_hint__" = pure none := by rw [typeLookup_type, builtinLookup_eq_fast]; kernel_rfl
section
variable {X : Cx} {pins : List (Addr × Obj)} {σ : L2.St}
theorem extend {A : Around} {R : Result → Shared → Prop} {S z TI TO i1 i2 a b : Addr} {xs ys : List V} {res : Value} {H G : Hp} {s : Shared} (hh : A.handled = none) (D : ZipApart z TI TO i1 i2 a b) (len : xs.length = ys.length) (few : xs.length ≤ sizeLine) (nS : H S = none)
    (I : Inv X pins σ G s) (sm : Same H G) (gS : G S = some (.lst [])) (sa : SqT X.K G a xs) (sb : SqT X.K G b ys) (fp : ∀ c ∈ [z, TI, TO, i1, i2], FpOk X pins G c) (zip : IsZip s.heap z TI TO .none) (ti : IsPair s.heap TI (.ref i1) (.ref i2)) (to : IsPair s.heap TO .none .none) (it1 : s.heap.IsTupleIter i1 a 0) (it2 : s.heap.IsTupleIter i2 b 0)
    (hR : ∀ s' G' cs, Inv X pins σ G' s' → Same H G' → G' S = some (.lst (cs.map V.ref)) → cs.length = xs.length → Prs G' xs ys cs → R (.ok (.ret res)) s') :
    wpAny (model X.prog X.w) A.in1 (Builtin.List.listExtendWith (.ref S) (.ref z) res)
      (fun fin s' => match fin with | .done f => R (.ok f) s' | .again c' => c'.quiet = true ∧ codeAny (model X.prog X.w) A c' R s') (fun e s' => R (.error e) s') s := by
  have offS : ∀ c ∈ [z, TI, TO, i1, i2], c ≠ S := fun c hc q => by
    have := (fp c hc).1
    rw [q, gS] at this
    cases this
  have hT : s.TypeIs (.ref z) "zip" := ⟨_, zip, rfl⟩
  unfold Builtin.List.listExtendWith
  refine wpAny_bind (wpAny_typeOf hT ?_)
  have h1 : Builtin.List.listSameRef (.ref S) (.ref z) = false := by simp [Builtin.List.listSameRef, Ne.symm (offS z (by simp))]
  have h2 : (Value.type "zip" == Value.type "list") = false := by decide
  have h3 : (Value.type "zip" == Value.type "tuple") = false := by decide
  simp only [h1, h2, h3, Bool.or_false, Bool.false_eq_true, if_false]
  refine wpAny_bind (wpAny_pyIter_zip zip ?_)
  refine wpAny_bind (wpAny_holding ?_)
  unfold Builtin.List.listLengthHint
  refine wpAny_bind (wpAny_specialOf hT zip_no_len ?_)
  show wpAny _ A.in1 (specialOf (Value.ref z) (Str.ofString "__length_hint__") >>= _) _ _ _
  refine wpAny_bind (wpAny_specialOf hT zip_no_hint ?_)
  refine wpAny_pure ?_
  show wpAny _ A.in1 (rule "list.extend.makes-room" >>= fun _ => Builtin.List.listTouch (.ref S) >>= fun _ =>
    again (.builtin "list.extend.loop" ⟨[.ref S, .ref z, res], []⟩)) _ _ _
  refine wpAny_bind (wpAny_rule ?_)
  refine wpAny_bind ?_
  show wpAny _ A.in1 (updateSeq S (·.push .none) >>= fun _ => updateSeq S (·.pop)) _ _ _
  obtain ⟨_, its, nn, r0, hl0, e0⟩ := I.lstM gS
  have i0 : its = [] := by cases r0; rfl
  subst i0
  refine wpAny_bind (wpAny_updateSeq e0 rfl ?_)
  have I1 : Inv X pins σ (upd G S (.lst [.non])) { s with heap := s.heap.update S (Obj.mapSeq (·.push .none)), toks := s.toks } := I.lset (its' := [Value.none]) gS e0 (by simp) (.cons (show L2.RelV V.non Value.none from rfl) .nil) (by show 1 ≤ sizeLine; decide)
  have g1 : (upd G S (.lst [.non])) S = some (.lst [.non]) := upd_same
  have e1 := Heap.get?_update_self (Obj.mapSeq (·.push Value.none)) e0 rfl
  refine wpAny_updateSeq (hz := by seq_fits) e1 rfl ?_
  have I2 : Inv X pins σ (upd (upd G S (.lst [.non])) S (.lst [])) { ({ s with heap := s.heap.update S (Obj.mapSeq (·.push .none)) } : Shared) with heap := (s.heap.update S (Obj.mapSeq (·.push .none))).update S (Obj.mapSeq (·.pop)), toks := s.toks } := by
    obtain ⟨_, its2, nn2, r2, hl2, e2⟩ := I1.lstM g1
    obtain ⟨u0, rfl, _⟩ := Vals.one r2
    exact I1.lset (its := [u0]) (its' := []) g1 e2 (by simp) .nil (Nat.zero_le _)
  have other : ∀ {c o}, c ≠ S → s.heap.get? c = some o → ((s.heap.update S (Obj.mapSeq (·.push .none))).update S (Obj.mapSeq (·.pop))).get? c = some o := fun n e => (Heap.get?_update_other _ _ (Ne.symm n)).trans ((Heap.get?_update_other _ _ (Ne.symm n)).trans e)
  have k2 : ∀ {c o}, G c = some o → (∀ l, o ≠ .lst l) → (upd (upd G S (.lst [.non])) S (.lst [])) c = some o := fun {c o} e n => by
    have q : c ≠ S := fun q => by
      rw [q, gS] at e
      exact n _ (Option.some.inj e).symm
    rw [upd_ne q, upd_ne q]
    exact e
  refine wpAny_pure ⟨plainId_quiet F.plain_extend_loop _, loop hh D len few nS hR xs.length 0 _ _ [] (by omega) I2 (fun c o e => ?_) upd_same rfl (fun i c e => nomatch e) ?_ ?_ (fun c hc => ?_) ⟨.inl (other (offS z (by simp)) zip), other (offS TI (by simp)) ti, ⟨_, _, other (offS TO (by simp)) to⟩, it1.at fun o e => other (offS i1 (by simp)) e, it2.at fun o e => other (offS i2 (by simp)) e⟩⟩
  · rw [upd_ne (ne_of_none e nS), upd_ne (ne_of_none e nS)]
    exact sm _ _ e
  · rcases sa with (q | ⟨o, q⟩) | q
    · exact .inl (.inl (k2 q (by intro l q; cases q)))
    · exact .inl (.inr ⟨o, k2 q (by intro l q; cases q)⟩)
    · exact .inr q
  · rcases sb with (q | ⟨o, q⟩) | q
    · exact .inl (.inl (k2 q (by intro l q; cases q)))
    · exact .inl (.inr ⟨o, k2 q (by intro l q; cases q)⟩)
    · exact .inr q
  · obtain ⟨q1, q2⟩ := fp c hc
    exact ⟨by rw [upd_ne (offS c hc), upd_ne (offS c hc)]; exact q1, q2⟩
def tListZip (K : PySem.W.Frag) (ta : TA) : TE := fun σ H Q => ta σ H fun vs H1 => ∃ a b xs ys, vs = [.ref a, .ref b] ∧ SqT K H1 a xs ∧ SqT K H1 b ys ∧ xs.length = ys.length ∧
  ∀ G p cs, Same H1 G → H1 p = none → G p = some (.lst (cs.map V.ref)) → cs.length = xs.length → Prs G xs ys cs → Q (.ref p) G
theorem pe_listZip {e1 e2 : Expr} {ta : TA} {p p2 pos pos2 : Pos} (ha : PA X [e1, e2] ta) (hgl : Gl X "list") (hml : X.mg "list" = none) (hgz : Gl X "zip") (hmz : X.mg "zip" = none) (calm : X.calm = true)
    (hs : starEach [e1, e2] X.env = (false, eval e1 X.env) :: starEach [e2] X.env := by rfl) (hpl : (backTo pos2 (starEach [e2] X.env)).any (·.1) = false := by rfl)
    (he : starEach [.Call (.Name "zip" p2) [e1, e2] [] pos2] X.env = (false, eval (.Call (.Name "zip" p2) [e1, e2] [] pos2) X.env) :: starEach [] X.env := by rfl) :
    PE X (.Call (.Name "list" p) [.Call (.Name "zip" p2) [e1, e2] [] pos2] [] pos) (tListZip X.K ta) := by
  refine ⟨fun pins s σ H Q I h => ?_⟩
  refine wpAny_Call_Name_kw (ld_blt I hgl hml boot_list ?_)
  refine PyProof.Rows.callWith_type1 ?_ he rfl
  rw [he]
  show wpAny _ _ (spliced ((false, eval _ X.env) :: backTo pos (starEach [] X.env))) _ _ s
  refine Calls.spliced_cons ?_
  refine wpAny_Call_Name_kw (ld_blt I hgz hmz PyProof.Rows.boot_zip (PyProof.Rows.callWith_type1 (thn (ha.run pos2 pins s σ H _ I h) fun us s1 ⟨vs, H1, I1, r1, q1⟩ => ?_) hs hpl))
  obtain ⟨a, b, xs, ys, ex, sa, sb, len, q⟩ := q1
  subst ex
  cases r1 with
  | cons r rr =>
    cases rr with
    | cons r' rr =>
      cases rr
      cases r
      cases r'
      obtain ⟨its, rv, p1, few⟩ := I1.tuple sa
      obtain ⟨its2, rv2, p2, _⟩ := I1.tuple sb
      have la : a < s1.heap.objs.size := p1.lt
      have lb : b < s1.heap.objs.size := p2.lt
      refine call_zipT p1 p2 fun h' hz hTI hTO h1 h2 hsz hk => ?_
      refine Calls.spliced_nil ?_
      have I2 : Inv X pins σ H1 { s1 with heap := h' } := I1.kept (t' := s1.toks) hk
      have fp2 : ∀ c ∈ [s1.heap.objs.size + 4, s1.heap.objs.size + 2, s1.heap.objs.size + 3, s1.heap.objs.size, s1.heap.objs.size + 1], FpOk X pins H1 c ∧ c < h'.objs.size := by
        intro c hcm
        have e' : c = s1.heap.objs.size + 4 ∨ c = s1.heap.objs.size + 2 ∨ c = s1.heap.objs.size + 3 ∨ c = s1.heap.objs.size ∨ c = s1.heap.objs.size + 1 := by simpa using hcm
        have hle : s1.heap.objs.size ≤ c := by
          rcases e' with z | z | z | z | z <;> rw [z] <;> omega
        refine ⟨I1.fpOk hle (I1.hok.fresh hle), ?_⟩
        rcases e' with z | z | z | z | z <;> rw [z, hsz] <;> omega
      have nS : H1 h'.objs.size = none := I2.hok.fresh (Nat.le_refl _)
      refine callType_codes (Q₁ := fun obj s₁ => obj = .ref h'.objs.size ∧ s₁ = { ({ s1 with heap := h' } : Shared) with heap := h'.push { cls := .type "list", data := .seq #[] } }) F.called_list (F.typeCall_list_1 _) F.entry_list_init
        (code_list_new _ ⟨rfl, rfl⟩) fun obj s₁ h₁ => ?_
      obtain ⟨rfl, rfl⟩ := h₁
      have hS : (h'.push { cls := .type "list", data := .seq #[] }).get? h'.objs.size = some { cls := .type "list", data := .seq #[] } := Heap.get?_push_size _ rfl
      have I3 : Inv X pins σ (upd H1 h'.objs.size (.lst [])) { ({ s1 with heap := h' } : Shared) with heap := h'.push { cls := .type "list", data := .seq #[] }, toks := s1.toks } := I2.lnew (its := []) .nil (Nat.zero_le _)
      have g3 : (upd H1 h'.objs.size (.lst [])) h'.objs.size = some (.lst []) := upd_same
      refine ⟨⟨_, hS, rfl⟩, F.args_list_init_2 _ _, ?_⟩
      show wpAny _ _ (do let old ← Builtin.List.listItems (.ref h'.objs.size); Builtin.List.listUpdate (.ref h'.objs.size) (fun _ => #[]); letGo old.toList.reverse; Builtin.List.listExtendWith (.ref h'.objs.size) (.ref (s1.heap.objs.size + 4)) .none) _ _ _
      refine wpAny_bind ?_
      unfold Builtin.List.listItems
      refine wpAny_bind (wpAny_seqItems hS rfl (wpAny_pure ?_))
      show wpAny _ _ (updateSeq h'.objs.size (fun _ => #[]) >>= fun _ => letGo (#[] : Array Value).toList.reverse >>= fun _ => Builtin.List.listExtendWith (.ref h'.objs.size) (.ref (s1.heap.objs.size + 4)) .none) _ _ _
      refine wpAny_bind (wpAny_updateSeq hS rfl ?_)
      have I4 : Inv X pins σ (upd (upd H1 h'.objs.size (.lst [])) h'.objs.size (.lst [])) { ({ s1 with heap := h' } : Shared) with heap := (h'.push { cls := .type "list", data := .seq #[] }).update h'.objs.size (Obj.mapSeq (fun _ => (#[] : Array Value))), toks := s1.toks } :=
        I3.lset (its := []) (its' := []) (n := 0) g3 hS rfl .nil (Nat.zero_le _)
      have other : ∀ {c o}, h'.get? c = some o → ((h'.push { cls := .type "list", data := .seq #[] }).update h'.objs.size (Obj.mapSeq (fun _ => (#[] : Array Value)))).get? c = some o := fun e =>
        (Heap.get?_update_other _ _ (Ne.symm (Nat.ne_of_lt (Heap.lt_size e)))).trans (Heap.get?_push_of_some _ e)
      refine wpAny_bind (wpAny_letGo ?_)
      have k4 : Same H1 (upd (upd H1 h'.objs.size (.lst [])) h'.objs.size (.lst [])) := fun c o e => by
        rw [upd_ne (ne_of_none e nS), upd_ne (ne_of_none e nS)]
        exact e
      have sq : ∀ {c : Addr} {zs : List V}, SqT X.K H1 c zs → SqT X.K (upd (upd H1 h'.objs.size (.lst [])) h'.objs.size (.lst [])) c zs := fun h => by
        rcases h with (q | ⟨o, q⟩) | q
        · exact .inl (.inl (k4 _ _ q))
        · exact .inl (.inr ⟨o, k4 _ _ q⟩)
        · exact .inr q
      refine extend (a := a) (b := b) (I.ok.hd calm) (PySem.W.ktu_apart s1.heap.objs.size a b la lb) len few nS I4 k4 upd_same (sq sa) (sq sb) (fun c hc => ?_) (other hz) (other hTI) (other hTO) (h1.at fun o e => other e) (h2.at fun o e => other e) fun s' G' cs J s4 gS lcs prs => ?_
      · obtain ⟨⟨q1, q2⟩, q3⟩ := fp2 c hc
        have n := Nat.ne_of_lt q3
        exact ⟨by rw [upd_ne n, upd_ne n]; exact q1, q2⟩
      · exact ⟨rfl, .ref h'.objs.size, G', J, rfl, q G' _ cs s4 nS gS lcs prs⟩
end
end Zl

/-! Matching, as a plain function. -/
namespace Ad
open PySem PySem.Spec PySem.Calls PyProof.Rows L2
theorem eqvAll_cons (a b : PyData) (as bs : List PyData) : PyData.eqvAll (a :: as) (b :: bs) = (PyData.eqv a b && PyData.eqvAll as bs) := by
  first
    | rfl
    | rw [PyData.eqvAll]
    | simp only [PyData.eqvAll]
namespace T
mutual
theorem eqv_eq : ∀ t u : T, PyData.eqv t.d u.d = true → t = u
  | .v i, .v j, h => by
    have e : PyData.eqv (.int i) (.int j) = (i == j) := by rw [PyData.eqv]
    have h' : (i == j) = true := by rw [← e]; exact h
    rw [eq_of_beq h']
  | .v i, .f x ts, h => by
    have e : PyData.eqv (.int i) (.tuple (.str x :: ds ts)) = false := by rw [PyData.eqv]
    have h' : PyData.eqv (.int i) (.tuple (.str x :: ds ts)) = true := h
    rw [e] at h'
    cases h'
  | .f x ts, .v i, h => by
    have e : PyData.eqv (.tuple (.str x :: ds ts)) (.int i) = false := by rw [PyData.eqv]
    have h' : PyData.eqv (.tuple (.str x :: ds ts)) (.int i) = true := h
    rw [e] at h'
    cases h'
  | .f x ts, .f y us, h => by
    have e : PyData.eqv (.tuple (.str x :: ds ts)) (.tuple (.str y :: ds us)) = (PyData.eqv (.str x) (.str y) && PyData.eqvAll (ds ts) (ds us)) := by
      rw [← eqvAll_cons]
      have e0 : ∀ as bs : List PyData, PyData.eqv (.tuple as) (.tuple bs) = PyData.eqvAll as bs := fun as bs => by rw [PyData.eqv]
      exact e0 _ _
    have h' : PyData.eqv (.tuple (.str x :: ds ts)) (.tuple (.str y :: ds us)) = true := h
    have es : PyData.eqv (.str x) (.str y) = (x == y) := by rw [PyData.eqv]
    rw [e, es, Bool.and_eq_true] at h'
    rw [eq_of_beq h'.1, eqvs_eq ts us h'.2]
theorem eqvs_eq : ∀ ts us : List T, PyData.eqvAll (ds ts) (ds us) = true → ts = us
  | [], [], _ => rfl
  | [], u :: us, h => by
    have e : PyData.eqvAll [] (d u :: ds us) = false := by rw [PyData.eqvAll]
    have h' : PyData.eqvAll [] (d u :: ds us) = true := h
    rw [e] at h'
    cases h'
  | t :: ts, [], h => by
    have e : PyData.eqvAll (d t :: ds ts) [] = false := by rw [PyData.eqvAll]
    have h' : PyData.eqvAll (d t :: ds ts) [] = true := h
    rw [e] at h'
    cases h'
  | t :: ts, u :: us, h => by
    have e : PyData.eqvAll (d t :: ds ts) (d u :: ds us) = (PyData.eqv (d t) (d u) && PyData.eqvAll (ds ts) (ds us)) := eqvAll_cons _ _ _ _
    have h' : PyData.eqvAll (d t :: ds ts) (d u :: ds us) = true := h
    rw [e, Bool.and_eq_true] at h'
    rw [eqv_eq t u h'.1, eqvs_eq ts us h'.2]
end
theorem mem_varsL {p : T} {j : Int} : ∀ {ps : List T}, p ∈ ps → j ∈ p.vars → j ∈ varsL ps
  | q :: ps, h, hj => by
    rcases List.mem_cons.mp h with w | w
    · exact List.mem_append_left _ (by rw [← w]; exact hj)
    · exact List.mem_append_right _ (mem_varsL w hj)
/-- a name and arguments like those of another term -/
def alike (x : Str) (ps : List T) : T → Bool
  | .v _ => false
  | .f y ts => decide (ps.length = ts.length) && decide (x = y)
end T
/-- a row of pairs, how large its first sides are -/
def psz : List (T × T) → Nat
  | [] => 0
  | e :: r => e.1.size + psz r
theorem psz_app : ∀ a b : List (T × T), psz (a ++ b) = psz a + psz b
  | [], b => (Nat.zero_add _).symm
  | e :: a, b => by
    show e.1.size + psz (a ++ b) = e.1.size + psz a + psz b
    rw [psz_app a b, Nat.add_assoc]
theorem psz_rev (a : List (T × T)) : psz a.reverse = psz a := by
  induction a with
  | nil => rfl
  | cons e a ih =>
    rw [List.reverse_cons, psz_app, ih]
    show psz a + (e.1.size + 0) = e.1.size + psz a
    omega
theorem psz_zip : ∀ ps ts : List T, psz (ps.zip ts) ≤ T.sizeL ps
  | [], _ => Nat.zero_le _
  | p :: ps, [] => Nat.zero_le _
  | p :: ps, t :: ts => by
    have := psz_zip ps ts
    show p.size + psz (ps.zip ts) ≤ T.size p + T.sizeL ps
    omega
theorem psz_len : ∀ a : List (T × T), a.length ≤ psz a
  | [] => Nat.le_refl _
  | e :: a => by
    have h1 := psz_len a
    have h2 := e.1.size_pos
    show a.length + 1 ≤ e.1.size + psz a
    omega
/-- matching; the last pair of the row is the first here -/
def mt : Nat → Sb → List (T × T) → Option Sb
  | 0, _, _ => none
  | _ + 1, tb, [] => some tb
  | n + 1, tb, (.v i, t) :: r => match tb.look i with
    | some u => if PyData.eqv u.d t.d = true then mt n tb r else none
    | none => mt n (tb.put i t) r
  | n + 1, tb, (.f x ps, .f y ts) :: r => if T.alike x ps (.f y ts) = true then mt n tb ((ps.zip ts).reverse ++ r) else none
  | _ + 1, _, (.f _ _, .v _) :: _ => none
theorem Sb.put_same {tb : Sb} {i : Int} {t : T} (nd : (tb.map (·.1)).Nodup) (h : tb.look i = some t) : tb.put i t = tb := by
  unfold Sb.put
  rw [h, if_pos (show (some t).isSome = true from rfl)]
  have key : ∀ e ∈ tb, (if e.1 = i then (e.1, t) else e) = e := by
    intro e he
    split
    · rename_i z
      have := (Sb.mem_look nd (i := e.1) (t := e.2)).1 he
      rw [z, h] at this
      rw [Option.some.inj this]
    · rfl
  have := List.map_congr_left key
  rw [this]
  exact List.map_id' _
/-- what holds of all that stands in the result -/
theorem mt_all {P : T → Prop} {Kp : Int → Prop} (hP : ∀ x ts, P (.f x ts) → ∀ u ∈ ts, P u) : ∀ (n : Nat) (tb : Sb) (es : List (T × T)) (tb' : Sb), mt n tb es = some tb' → (∀ e ∈ tb, Kp e.1 ∧ P e.2) → (∀ e ∈ es, (∀ j ∈ e.1.vars, Kp j) ∧ P e.2) → ∀ e ∈ tb', Kp e.1 ∧ P e.2
  | 0, _, _, _, h, _, _ => nomatch h
  | n + 1, tb, [], tb', h, h1, _ => by
    cases (show some tb = some tb' from h)
    exact h1
  | n + 1, tb, (.v i, t) :: r, tb', h, h1, h2 => by
    have h' : (match tb.look i with | some u => if PyData.eqv u.d t.d = true then mt n tb r else none | none => mt n (tb.put i t) r) = some tb' := h
    obtain ⟨k0, p0⟩ := h2 _ List.mem_cons_self
    have hr : ∀ e ∈ r, (∀ j ∈ e.1.vars, Kp j) ∧ P e.2 := fun e he => h2 e (List.mem_cons_of_mem _ he)
    cases lk : tb.look i with
    | some u =>
      rw [lk] at h'
      by_cases z : PyData.eqv u.d t.d = true
      · have h'' : mt n tb r = some tb' := by
          have e := h'
          simp only [z, if_true] at e
          exact e
        exact mt_all hP n tb r tb' h'' h1 hr
      · have e := h'
        simp only [z, if_false] at e
        cases e
    | none =>
      rw [lk] at h'
      refine mt_all hP n _ r tb' h' (fun e he => ?_) hr
      rcases Sb.mem_put he with z | z
      · rw [z]
        exact ⟨k0 i List.mem_cons_self, p0⟩
      · exact h1 e z
  | n + 1, tb, (.f x ps, .f y ts) :: r, tb', h, h1, h2 => by
    have h' : (if T.alike x ps (.f y ts) = true then mt n tb ((ps.zip ts).reverse ++ r) else none) = some tb' := h
    by_cases z : T.alike x ps (.f y ts) = true
    · rw [if_pos z] at h'
      obtain ⟨k0, p0⟩ := h2 _ List.mem_cons_self
      refine mt_all hP n tb _ tb' h' h1 fun e he => ?_
      rcases List.mem_append.mp he with q | q
      · have q' := List.mem_reverse.mp q
        obtain ⟨q1, q2⟩ : e.1 ∈ ps ∧ e.2 ∈ ts := List.of_mem_zip q'
        refine ⟨fun j hj => k0 j ?_, hP y ts p0 _ q2⟩
        exact T.mem_varsL q1 hj
      · exact h2 e (List.mem_cons_of_mem _ q)
    · rw [if_neg z] at h'
      cases h'
  | n + 1, tb, (.f x ps, .v i) :: r, tb', h, _, _ => nomatch (show none = some tb' from h)
end Ad

/-! Chains as data of any kind: what they lead to. -/
namespace Ad
open PySem PySem.Spec PySem.Calls PyProof.Rows L2
def tyD : PyData → Value
  | .none => .type "NoneType"
  | .bool _ => .type "bool"
  | .int _ => .type "int"
  | .str _ => .type "str"
  | .list _ => .type "list"
  | .tuple _ => .type "tuple"
  | .dict _ => .type "dict"
theorem dp_ty {K : PySem.W.Frag} {H : Hp} {v : V} {d : PyData} (h : Dp K H v d) : TyX K H v (tyD d) := by
  cases h with
  | non => exact .base .non
  | bl b => exact .base (.bl b)
  | int i => exact .base (.int i)
  | str x => exact .base (.str x)
  | lst h _ => exact lsq_ty h
  | tup h _ => exact sq_ty h
def isTu : PyData → Bool
  | .tuple _ => true
  | _ => false
def isIn : PyData → Bool
  | .int _ => true
  | .bool _ => true
  | _ => false
def isBo : PyData → Bool
  | .bool _ => true
  | _ => false
theorem kit_tu {K : PySem.W.Frag} : ∀ d : PyData, PySem.W.kitOne K (tyD d) (.type "tuple") = some (isTu d)
  | .none => kit_ty (a := "NoneType") (b := "tuple") (r := false) (by decide +kernel)
  | .bool _ => kit_ty (a := "bool") (b := "tuple") (r := false) (by decide +kernel)
  | .int _ => kit_ty (a := "int") (b := "tuple") (r := false) (by decide +kernel)
  | .str _ => kit_ty (a := "str") (b := "tuple") (r := false) (by decide +kernel)
  | .list _ => kit_ty (a := "list") (b := "tuple") (r := false) (by decide +kernel)
  | .tuple _ => kit_ty (a := "tuple") (b := "tuple") (r := true) (by decide +kernel)
  | .dict _ => kit_ty (a := "dict") (b := "tuple") (r := false) (by decide +kernel)
theorem kit_in {K : PySem.W.Frag} : ∀ d : PyData, PySem.W.kitOne K (tyD d) (.type "int") = some (isIn d)
  | .none => kit_ty (a := "NoneType") (b := "int") (r := false) (by decide +kernel)
  | .bool _ => kit_ty (a := "bool") (b := "int") (r := true) (by decide +kernel)
  | .int _ => kit_ty (a := "int") (b := "int") (r := true) (by decide +kernel)
  | .str _ => kit_ty (a := "str") (b := "int") (r := false) (by decide +kernel)
  | .list _ => kit_ty (a := "list") (b := "int") (r := false) (by decide +kernel)
  | .tuple _ => kit_ty (a := "tuple") (b := "int") (r := false) (by decide +kernel)
  | .dict _ => kit_ty (a := "dict") (b := "int") (r := false) (by decide +kernel)
theorem kit_bo {K : PySem.W.Frag} : ∀ d : PyData, PySem.W.kitOne K (tyD d) (.type "bool") = some (isBo d)
  | .none => kit_ty (a := "NoneType") (b := "bool") (r := false) (by decide +kernel)
  | .bool _ => kit_ty (a := "bool") (b := "bool") (r := true) (by decide +kernel)
  | .int _ => kit_ty (a := "int") (b := "bool") (r := false) (by decide +kernel)
  | .str _ => kit_ty (a := "str") (b := "bool") (r := false) (by decide +kernel)
  | .list _ => kit_ty (a := "list") (b := "bool") (r := false) (by decide +kernel)
  | .tuple _ => kit_ty (a := "tuple") (b := "bool") (r := false) (by decide +kernel)
  | .dict _ => kit_ty (a := "dict") (b := "bool") (r := false) (by decide +kernel)
mutual
theorem dp_mono {K : PySem.W.Frag} {H H' : Hp} (k : ∀ {a : Addr} {xs : List V}, (SqL K H a xs → SqL K H' a xs) ∧ (SqT K H a xs → SqT K H' a xs)) : ∀ {d : PyData} {v : V}, Dp K H v d → Dp K H' v d
  | _, _, .non => .non
  | _, _, .bl b => .bl b
  | _, _, .int i => .int i
  | _, _, .str x => .str x
  | _, _, .lst h a => .lst (k.1 h) (dpAll_mono k a)
  | _, _, .tup h a => .tup (k.2 h) (dpAll_mono k a)
theorem dpAll_mono {K : PySem.W.Frag} {H H' : Hp} (k : ∀ {a : Addr} {xs : List V}, (SqL K H a xs → SqL K H' a xs) ∧ (SqT K H a xs → SqT K H' a xs)) : ∀ {ds : List PyData} {vs : List V}, DpAll K H vs ds → DpAll K H' vs ds
  | _, _, .nil => .nil
  | _, _, .cons h t => .cons (dp_mono k h) (dpAll_mono k t)
end
theorem dp_same {K : PySem.W.Frag} {H H' : Hp} (s : Same H H') {d : PyData} {v : V} (h : Dp K H v d) : Dp K H' v d := dp_mono (fun {_ _} => ⟨fun q => s.seq q, fun q => (TK.same s).sq q⟩) h
theorem dpAll_same {K : PySem.W.Frag} {H H' : Hp} (s : Same H H') {ds : List PyData} {vs : List V} (h : DpAll K H vs ds) : DpAll K H' vs ds := dpAll_mono (fun {_ _} => ⟨fun q => s.seq q, fun q => (TK.same s).sq q⟩) h
theorem dpAll_len {K : PySem.W.Frag} {H : Hp} : ∀ {ds : List PyData} {vs : List V}, DpAll K H vs ds → vs.length = ds.length
  | _, _, .nil => rfl
  | _, _, .cons _ t => by rw [List.length_cons, List.length_cons, dpAll_len t]
theorem dpAll_get {K : PySem.W.Frag} {H : Hp} : ∀ {ds : List PyData} {vs : List V} {i : Nat} {v : V}, DpAll K H vs ds → vs[i]? = some v → ∃ d, ds[i]? = some d ∧ Dp K H v d
  | _, _, _, _, .nil, e => by cases e
  | _, _, i, v, .cons (d := d) h t, e => by
    cases i with
    | zero =>
      cases e
      exact ⟨d, rfl, h⟩
    | succ i => exact dpAll_get (i := i) t e
theorem dpAll_get' {K : PySem.W.Frag} {H : Hp} : ∀ {ds : List PyData} {vs : List V} {i : Nat} {d : PyData}, DpAll K H vs ds → ds[i]? = some d → ∃ v, vs[i]? = some v ∧ Dp K H v d
  | _, _, _, _, .nil, e => by cases e
  | _, _, i, d, .cons (v := v) h t, e => by
    cases i with
    | zero =>
      cases e
      exact ⟨v, rfl, h⟩
    | succ i => exact dpAll_get' (i := i) t e
theorem dpAll_app {K : PySem.W.Frag} {H : Hp} : ∀ {ds es : List PyData} {vs us : List V}, DpAll K H vs ds → DpAll K H us es → DpAll K H (vs ++ us) (ds ++ es)
  | _, _, _, _, .nil, k => k
  | _, _, _, _, .cons h t, k => .cons h (dpAll_app t k)
theorem dpAll_take {K : PySem.W.Frag} {H : Hp} : ∀ {ds : List PyData} {vs : List V} (n : Nat), DpAll K H vs ds → DpAll K H (vs.take n) (ds.take n)
  | _, _, 0, _ => by rw [List.take_zero, List.take_zero]; exact .nil
  | _, _, n + 1, .nil => .nil
  | _, _, n + 1, .cons h t => .cons h (dpAll_take n t)
theorem dpAll_drop {K : PySem.W.Frag} {H : Hp} : ∀ {ds : List PyData} {vs : List V} (n : Nat), DpAll K H vs ds → DpAll K H (vs.drop n) (ds.drop n)
  | _, _, 0, h => h
  | _, _, n + 1, .nil => .nil
  | _, _, n + 1, .cons h t => dpAll_drop n t
/-- whole numbers alone -/
def wAll : List PyData → Option (List Int)
  | [] => some []
  | .int i :: r => (wAll r).map (i :: ·)
  | _ :: _ => none
theorem wAll_ints : ∀ {ds : List PyData} {p : List Int}, wAll ds = some p → ds = p.map .int
  | [], p, h => by cases h; rfl
  | .int i :: r, p, h => by
    have h' : (wAll r).map (i :: ·) = some p := h
    cases e : wAll r with
    | none => rw [e] at h'; cases h'
    | some q =>
      rw [e] at h'
      cases h'
      rw [wAll_ints e]
      rfl
  | .none :: _, _, h => by cases h
  | .bool _ :: _, _, h => by cases h
  | .str _ :: _, _, h => by cases h
  | .list _ :: _, _, h => by cases h
  | .tuple _ :: _, _, h => by cases h
  | .dict _ :: _, _, h => by cases h
theorem ints_wAll : ∀ p : List Int, wAll (p.map .int) = some p
  | [] => rfl
  | i :: p => by
    show (wAll (p.map .int)).map (i :: ·) = _
    rw [ints_wAll p]
    rfl
def subW (o : Option (List Int)) (t : T) : Option T :=
  match o with
  | some p => T.sub p t
  | none => none
/-- the part at any data -/
def partD (t : T) : PyData → Option T
  | .tuple ps => subW (wAll ps) t
  | _ => none
def pathD : PyData → List Int
  | .tuple ps => (wAll ps).getD []
  | _ => []
def stepG (l r t : T) (p : PyData) : Option T :=
  match partD t p with
  | some u => if PyData.eqv u.d l.d = true then T.put r (pathD p) t else none
  | none => none
def wayG (b : Bool) (l r : T) : T := if b = true then l else r
/-- one step of a chain -/
def stepD (eqs : List (T × T)) (t : T) : PyData → Option T
  | .tuple [p, .int n, .bool b] => if 0 ≤ n then (match eqs[n.toNat]? with
      | some e => stepG (wayG b e.1 e.2) (wayG b e.2 e.1) t p
      | none => none) else none
  | _ => none
def chainD (eqs : List (T × T)) : T → List PyData → Option T
  | t, [] => some t
  | t, d :: ds => match stepD eqs t d with
    | some t' => chainD eqs t' ds
    | none => none
def OptTm (K : PySem.W.Frag) (H : Hp) : Option T → V → Prop
  | none, v => v = .non
  | some t, v => Tm K H t v
/-- a ground term, small -/
structure Gt (m z : Nat) (t : T) : Prop where
  named : t.named = true
  vars : t.vars = []
  dep : t.dep ≤ m
  size : t.size ≤ z
theorem Gt.mono {m n y z : Nat} {t : T} (h : Gt m y t) (a : m ≤ n) (b : y ≤ z) : Gt n z t := ⟨h.named, h.vars, Nat.le_trans h.dep a, Nat.le_trans h.size b⟩
theorem Gt.shape {m z : Nat} {t : T} (h : Gt m z t) (hm : m ≤ 64) : SeqAt.shaped t.d = true := T.shaped h.named (Nat.le_trans h.dep hm)
theorem Gt.head {m z : Nat} {t : T} (h : Gt m z t) : ∃ x ts, t = .f x ts := by
  cases t with
  | v i => cases (show [i] = [] from h.vars)
  | f x ts => exact ⟨x, ts, rfl⟩
theorem varsL_mem : ∀ {ts : List T} {u : T}, T.varsL ts = [] → u ∈ ts → u.vars = []
  | t :: ts, u, h, m => by
    have h' : t.vars ++ T.varsL ts = [] := h
    obtain ⟨h1, h2⟩ := List.append_eq_nil_iff.mp h'
    rcases List.mem_cons.mp m with e | e
    · rw [e]; exact h1
    · exact varsL_mem h2 e
theorem varsL_of : ∀ {ts : List T}, (∀ u ∈ ts, u.vars = []) → T.varsL ts = []
  | [], _ => rfl
  | t :: ts, h => by
    show t.vars ++ T.varsL ts = []
    rw [h t List.mem_cons_self, varsL_of fun u m => h u (List.mem_cons_of_mem _ m)]
    rfl
theorem sub_vars : ∀ {p : List Int} {t u : T}, T.sub p t = some u → t.vars = [] → u.vars = []
  | [], t, u, h, g => by
    cases (show some t = some u from h)
    exact g
  | k :: p, t, u, h, g => by
    obtain ⟨j, x, ts, y, rfl, rfl, e1, e2⟩ := T.sub_cons h
    exact sub_vars e2 (varsL_mem (ts := ts) g (List.mem_of_getElem? e1))
theorem put_vars {new : T} (gn : new.vars = []) : ∀ {p : List Int} {t r : T}, T.put new p t = some r → t.vars = [] → r.vars = []
  | [], t, r, h, _ => by
    cases (show some new = some r from h)
    exact gn
  | k :: p, t, r, h, g => by
    obtain ⟨j, x, ts, y, z, rfl, rfl, e1, e2, rfl⟩ := T.put_cons h
    have gz := put_vars gn e2 (varsL_mem (ts := ts) g (List.mem_of_getElem? e1))
    refine varsL_of (ts := ts.set j z) fun u hu => ?_
    rcases List.mem_or_eq_of_mem_set hu with m | m
    · exact varsL_mem (ts := ts) g m
    · rw [m]; exact gz
/-- what stands at a path, what comes when something is put there -/
theorem Gt.sub {m z : Nat} {t u : T} {p : List Int} (h : Gt m z t) (e : T.sub p t = some u) : Gt m z u := by
  obtain ⟨a, b, c⟩ := T.sub_small e
  exact ⟨a h.named, sub_vars e h.vars, Nat.le_trans b h.dep, Nat.le_trans c h.size⟩
theorem Gt.put {m z n y : Nat} {t u new : T} {p : List Int} (h : Gt m z t) (e : T.sub p t = some u) (k : Gt n y new) : ∃ r, T.put new p t = some r ∧ Gt (m + n) (z + y) r := by
  obtain ⟨r, a, _, _, b, c, d⟩ := T.put_sub new e
  have h1 := h.dep
  have h2 := h.size
  have h3 := k.dep
  have h4 := k.size
  exact ⟨r, a, d h.named k.named, put_vars k.vars a h.vars, by omega, by omega⟩
/-- the sides of equations -/
def Egd (eqs : List (T × T)) : Prop := ∀ e ∈ eqs, Gt 4 40 e.1 ∧ Gt 4 40 e.2
theorem partD_some {t u : T} {d : PyData} (h : partD t d = some u) : ∃ p, d = .tuple (p.map .int) ∧ pathD d = p ∧ T.sub p t = some u := by
  cases d with
  | tuple ps =>
    have h' : subW (wAll ps) t = some u := h
    cases e : wAll ps with
    | none => rw [e] at h'; cases h'
    | some p =>
      rw [e] at h'
      refine ⟨p, by rw [wAll_ints e], ?_, h'⟩
      show (wAll ps).getD [] = p
      rw [e]
      rfl
  | _ => cases h
theorem stepG_gt {m z n y : Nat} {l r t t' : T} {p : PyData} (h : Gt m z t) (k : Gt n y r) (e : stepG l r t p = some t') : Gt (m + n) (z + y) t' := by
  unfold stepG at e
  cases q : partD t p with
  | none => rw [q] at e; cases e
  | some u =>
    rw [q] at e
    dsimp only at e
    obtain ⟨p', _, e2, e3⟩ := partD_some q
    obtain ⟨r', h1, h2⟩ := h.put e3 k
    by_cases c : PyData.eqv u.d l.d = true
    · rw [if_pos c, e2, h1] at e
      cases e
      exact h2
    · rw [if_neg c] at e
      cases e
theorem wayG_gt {m z : Nat} {b : Bool} {l r : T} (h : Gt m z l) (k : Gt m z r) : Gt m z (wayG b l r) := by
  unfold wayG
  cases b
  · exact k
  · exact h
/-- triples of a chain: what else can't be one -/
theorem stepD_other (eqs : List (T × T)) (t : T) {d : PyData} (h : ∀ p n b, d ≠ .tuple [p, .int n, .bool b]) : stepD eqs t d = none := by
  unfold stepD
  split
  · rename_i p n b
    exact absurd rfl (h p n b)
  · rfl
theorem stepD_tri (eqs : List (T × T)) (t : T) (p : PyData) {n : Int} {b : Bool} {e : T × T} (h0 : 0 ≤ n) (he : eqs[n.toNat]? = some e) : stepD eqs t (.tuple [p, .int n, .bool b]) = stepG (wayG b e.1 e.2) (wayG b e.2 e.1) t p := by
  show (if 0 ≤ n then (match eqs[n.toNat]? with | some e => stepG (wayG b e.1 e.2) (wayG b e.2 e.1) t p | none => none) else none) = _
  rw [if_pos h0, he]
theorem stepD_far (eqs : List (T × T)) (t : T) (p : PyData) {n : Int} {b : Bool} (h : ¬ (0 ≤ n ∧ n < eqs.length)) : stepD eqs t (.tuple [p, .int n, .bool b]) = none := by
  show (if 0 ≤ n then (match eqs[n.toNat]? with | some e => stepG (wayG b e.1 e.2) (wayG b e.2 e.1) t p | none => none) else none) = none
  by_cases h0 : 0 ≤ n
  · rw [if_pos h0, List.getElem?_eq_none (by omega)]
  · rw [if_neg h0]
theorem stepD_gt {m z : Nat} {eqs : List (T × T)} {t t' : T} {d : PyData} (hE : Egd eqs) (h : Gt m z t) (e : stepD eqs t d = some t') : Gt (m + 4) (z + 40) t' := by
  unfold stepD at e
  split at e
  · rename_i p n b
    by_cases h0 : 0 ≤ n
    · rw [if_pos h0] at e
      cases q : eqs[n.toNat]? with
      | none => rw [q] at e; cases e
      | some x =>
        rw [q] at e
        dsimp only at e
        obtain ⟨g1, g2⟩ := hE x (List.mem_of_getElem? q)
        exact stepG_gt h (wayG_gt g2 g1) e
    · rw [if_neg h0] at e
      cases e
  · cases e
end Ad

/-! put_at, from within outwards. -/
namespace Ad
open PySem PySem.Spec PySem.Calls PyProof.Rows L2
abbrev sPutAt : Stmt := topS 4
theorem scPutAt : FnScope ["term", "path", "new", "around", "index", "whole"] ["term", "path", "new"] (defScope sPutAt) := ⟨rfl, rfl, rfl, by decide +kernel, rfl, by decide +kernel, by decide +kernel⟩
/-- what stands around a place, from without -/
def Ch : T → List (T × Nat) → T → Prop
  | t, [], z => t = z
  | t, q :: l, z => q.1 = t ∧ ∃ nm ts u, t = .f nm ts ∧ ts[q.2]? = some u ∧ Ch u l z
def upT : List (T × Nat) → T → T
  | [], r => r
  | (.f x ts, j) :: l, r => .f x (ts.set j (upT l r))
  | (.v i, _) :: _, _ => .v i
theorem Ch.snoc : ∀ {l : List (T × Nat)} {t : T} {nm : Str} {ts : List T} {j : Nat} {y : T}, Ch t l (.f nm ts) → ts[j]? = some y → Ch t (l ++ [(.f nm ts, j)]) y
  | [], t, nm, ts, j, y, h, e => ⟨(show t = .f nm ts from h).symm, nm, ts, y, h, e, rfl⟩
  | q :: l, t, nm, ts, j, y, ⟨a, n, us, u, b, c, d⟩, e => ⟨a, n, us, u, b, c, Ch.snoc d e⟩
theorem upT_snoc : ∀ {l : List (T × Nat)} {nm : Str} {ts : List T} {j : Nat} {r : T}, upT (l ++ [(.f nm ts, j)]) r = upT l (.f nm (ts.set j r))
  | [], _, _, _, _ => rfl
  | (.f x us, i) :: l, nm, ts, j, r => by
    show T.f x (us.set i (upT (l ++ [(.f nm ts, j)]) r)) = T.f x (us.set i (upT l (.f nm (ts.set j r))))
    rw [upT_snoc]
  | (.v i, _) :: l, _, _, _, _ => rfl
theorem Ch.put (new : T) : ∀ {l : List (T × Nat)} {t z : T}, Ch t l z → T.put new (l.map fun q => (q.2 : Int)) t = some (upT l new)
  | [], t, z, _ => rfl
  | (q1, q2) :: l, t, z, ⟨a, nm, ts, u, b, c, d⟩ => by
    have ih := Ch.put new d
    have a' : q1 = t := a
    subst a'
    subst b
    exact T.put_f c ih
theorem Ch.mem : ∀ {l : List (T × Nat)} {t z : T}, Ch t l z → ∀ q ∈ l, ∃ nm ts, q.1 = .f nm ts ∧ q.2 < ts.length
  | [], _, _, _, q, h => by cases h
  | p :: l, t, z, ⟨a, nm, ts, u, b, c, d⟩, q, h => by
    rcases List.mem_cons.mp h with e | e
    · rw [e, a, b]
      exact ⟨nm, ts, rfl, (List.getElem?_eq_some_iff.mp c).1⟩
    · exact Ch.mem d q e
/-- a pair of what stands around, and the place in it -/
def ArV (K : PySem.W.Frag) (H : Hp) (q : T × Nat) (v : V) : Prop := ∃ b x, v = .ref b ∧ SqT K H b [x, .int ((q.2 : Int) + 1)] ∧ Tm K H q.1 x
theorem ArV.mono {K : PySem.W.Frag} {H H' : Hp} (k : TK H H') (q : T × Nat) (v : V) (h : ArV K H q v) : ArV K H' q v := by
  obtain ⟨b, x, e, s, m⟩ := h
  exact ⟨b, x, e, k.sq s, Tm.mono k _ _ m⟩
section
variable {P : Program} {w : World} {K : PySem.W.Frag} {mg : Str → Option Value} {base : Heap}
theorem ok_putat {f : Addr} {fd : FuncData} {k : Nat} (n : Nat) (F : Fun K "put_at" "put_at" sPutAt f fd) (m_reversed : mg "reversed" = none) : FnOk P w K mg base CX0 (k + 1) f fd ["term", "path", "new"] (spPut K n) := by
  refine F.ok scPutAt (fun vs H Q E h => ?_) (fun cdv A outer s H vs Q E hr h => ?_)
  · obtain ⟨t, new, r, x, y, a, p, rfl, _⟩ := h
    rfl
  · obtain ⟨t, new, r, x, y, a, p, rfl, ht, hn, hp, few, small, hput, q⟩ := h
    refine ⟨_, (pss_cons (ps_set (i := 3) scPutAt.nd rfl (.inl rfl) (pe_lst pa_nil))
    (pss_cons (ps_for PassesOwn.never rfl (pi_tup (pv 1)) (pg_name (i := 4) scPutAt.nd rfl (.inl rfl))
      (pss_cons (ps_expr (pe_bm PySem.F.plainAttrs_list PySem.F.slot_list_append PySem.F.type_list_append mt_append (pv 3) (pa_cons (pe_tup (pa_cons (pv 0) (pa_cons (pe_op op_add (pv 4) pe_int) pa_nil))) pa_nil)))
      (pss_one (ps_set (i := 0) scPutAt.nd rfl (.inl rfl) (pe_ix ix_tup (pv 0) (pe_op op_add (pv 4) pe_int) (fun _ _ => rfl))))))
    (pss_cons (ps_for PassesOwn.never rfl (pi_reversed (by rfl) m_reversed (pa_cons (pv 3) pa_nil)) (pg_tup rfl (pgs_cons (pg_name (i := 5) scPutAt.nd rfl (.inl rfl)) (pgs_cons (pg_name (i := 4) scPutAt.nd rfl (.inl rfl)) pgs_nil)))
      (pss_one (ps_set (i := 2) scPutAt.nd rfl (.inl rfl) (pe_op op_catT (pe_op op_catT (pe_slice sl_tup (pv 5) po_none (po_some (pv 4))) (pe_tup (pa_cons (pv 2) pa_nil))) (pe_slice sl_tup (pv 5) (po_some (pe_op op_add (pv 4) pe_int)) po_none)))))
    (pss_one (ps_ret (pv 2)))))), ?_⟩
    refine ⟨Nat.zero_le _, fun dA nA => ?_⟩
    have s1 : Same H (upd H dA (.lst [])) := same_new (fun b o e => e) nA _
    have m1 : (upd H dA (.lst [])) dA = some (.lst []) := upd_same
    replace ht := Tm.mono (TK.same s1) _ _ ht
    replace hn := Tm.mono (TK.same s1) _ _ hn
    replace hp := (TK.same s1).sq hp
    generalize upd H dA (.lst []) = H1 at s1 m1 ht hn hp
    have tsz := small
    refine ⟨.ref a, rfl, a, rfl, ⟨_, hp⟩, for_tup (K := K) (a := a) (xs := p.map V.int) (fun i σ G => ∃ (z rz : T) (yz : V) (v4 : Option V) (l : List (T × Nat)) (acc : List V), σ = [some yz, some (.ref a), some y, some (.ref dA), v4, none] ∧ Same H G ∧ TK H1 G ∧ G dA = some (.lst acc) ∧ Tm K G z yz ∧
      Ch t l z ∧ l.length = i ∧ (l.map fun q => (q.2 : Int)) = p.take i ∧ F2 (ArV K G) l acc ∧ T.put new (p.drop i) z = some rz ∧ z.size ≤ t.size ∧ ∀ q ∈ l, q.1.size ≤ t.size)
      ⟨t, r, x, none, [], [], rfl, s1, TK.refl _, m1, ht, rfl, rfl, rfl, rfl, hput, Nat.le_refl _, fun q hq => nomatch hq⟩ (fun i σ G _ ⟨_, _, _, _, _, _, _, _, k, _⟩ => k.sq hp) ?_ ?_⟩
    · rintro i c σ G hi ⟨z, rz, yz, v4, l, acc, rfl, sm, tk, gA, mz, ch, ll, lp, fa, hz, sz1, sz2⟩
      have hlt : i < p.length := by
        have := (List.getElem?_eq_some_iff.mp hi).1
        rwa [List.length_map] at this
      rw [List.getElem?_map, List.getElem?_eq_getElem hlt] at hi
      cases hi
      rw [List.drop_eq_getElem_cons hlt] at hz
      obtain ⟨j, nm, ts, u, z', e1, rfl, e3, e4, _⟩ := T.put_cons hz
      have hpi : p[i]? = some (j : Int) := by rw [List.getElem?_eq_getElem hlt, e1]
      rw [e1]
      obtain ⟨b, ys, rfl, sq, all⟩ := mz
      obtain ⟨y', h1, h2⟩ := all.get' e3
      have tz : Tm K G (.f nm ts) (.ref b) := ⟨b, ys, rfl, sq, all⟩
      have la := fa.len
      have plen : p.length ≤ 10000 := by
        have h3 : ∀ (p : List Int) (t r : T), T.put new p t = some r → p.length ≤ t.size := by
          intro p
          induction p with
          | nil => intro t r _; exact Nat.zero_le _
          | cons k p ih =>
            intro t r h
            obtain ⟨j, nm, ts, u, z, rfl, rfl, e1, e2, _⟩ := T.put_cons h
            have a1 := ih _ _ e2
            have a2 := T.size_mem (List.mem_of_getElem? e1)
            have a3 : T.size (.f nm ts) = 1 + T.sizeL ts := rfl
            rw [List.length_cons]
            omega
        have := h3 p t r hput
        omega
      refine ⟨.ref dA, rfl, .inl ⟨rfl, _, .inl (.inl gA)⟩, .ref b, rfl, .int (j : Int), rfl, _, _, rfl, rfl, (by show 2 ≤ sizeLine; decide), fun p1 n1 => ?_⟩
      have np : p1 ≠ dA := fun e => by rw [e, gA] at n1; cases n1
      have k1 : TK G (upd G p1 (.tup [.ref b, .int ((j : Int) + 1)])) := TK.new n1 _
      have sm1 : Same H (upd G p1 (.tup [.ref b, .int ((j : Int) + 1)])) := same_new sm n1 _
      have g1 : (upd G p1 (.tup [.ref b, .int ((j : Int) + 1)])) dA = some (.lst acc) := by rw [upd_ne np.symm]; exact gA
      have m1 : (upd G p1 (.tup [.ref b, .int ((j : Int) + 1)])) p1 = some (.tup [.ref b, .int ((j : Int) + 1)]) := upd_same
      generalize upd G p1 (.tup [.ref b, .int ((j : Int) + 1)]) = G1 at k1 sm1 g1 m1
      have k2 : TK G1 (upd G1 dA (.lst (acc ++ [.ref p1]))) := TK.lst g1 _
      have k12 : TK G (upd G1 dA (.lst (acc ++ [.ref p1]))) := k1.trans k2
      refine ⟨dA, acc, .ref p1, rfl, rfl, g1, by rw [sizeLine_eq]; omega, .ref b, rfl, .int (j : Int), rfl, _, _, rfl, rfl, b, _, _, y', rfl, rfl, k12.sq sq, ?_, u, z', y', some (.int (j : Int)), l ++ [(.f nm ts, j)], acc ++ [.ref p1], rfl, same_on sm1 nA _, tk.trans k12, upd_same, Tm.mono k12 _ _ h2, ch.snoc e3, ?_, ?_, ?_, e4, ?_, ?_⟩
      · have e : ((j : Int) + 1) = ((j + 1 : Nat) : Int) := by omega
        rw [e]
        exact atI_nat (j := j + 1) h1
      · rw [List.length_append, List.length_singleton, ll]
      · rw [List.map_append, lp, List.take_add_one, hpi]
        rfl
      · exact F2.app (fa.mono (ArV.mono k12)) (F2.one ⟨p1, .ref b, rfl, k2.sq (.inl (.inl m1)), Tm.mono k12 _ _ tz⟩)
      · have a2 := T.size_mem (List.mem_of_getElem? e3)
        have a3 : T.size (.f nm ts) = 1 + T.sizeL ts := rfl
        omega
      · intro q hq
        rcases List.mem_append.mp hq with e | e
        · exact sz2 q e
        · rw [List.mem_singleton.mp e]
          exact sz1
    · rintro σ G ⟨z, rz, yz, v4, l, acc, rfl, sm, tk, gA, mz, ch, ll, lp, fa, hz, sz1, sz2⟩
      rw [List.length_map] at ll lp
      rw [List.take_length] at lp
      have res : upT l new = r := by
        have h1 := ch.put new
        rw [lp, hput] at h1
        exact (Option.some.inj h1).symm
      have la := fa.len
      have hn1 := Tm.mono tk _ _ hn
      refine ⟨.ref dA, rfl, dA, acc, rfl, .inl (.inl gA), for_it walk_rev (fun i σ G' => ∃ (r' : T) (y' : V) (v5 v4 : Option V), σ = [some yz, some (.ref a), some y', some (.ref dA), v4, v5] ∧ Same G G' ∧ Tm K G' r' y' ∧ upT (l.take (l.length - i)) r' = r)
        ⟨new, y, none, v4, rfl, fun b o e => e, hn1, by rw [Nat.sub_zero, List.take_length]; exact res⟩ (fun i σ G' _ ⟨_, _, _, _, _, s, _⟩ => .inl (.inl (s _ _ gA))) ?_ ?_⟩
      · rintro i c σ G' G'' hi ⟨r', y', v5, v4, rfl, s, mr, up⟩ ⟨rfl, hc⟩
        rw [la] at hi hc
        obtain ⟨⟨q1, q2⟩, hq, hv⟩ := fa.get hc
        obtain ⟨nm, ts, e1, lt⟩ := ch.mem _ (List.mem_of_getElem? hq)
        have e1' : q1 = .f nm ts := e1
        subst e1'
        have szq := sz2 _ (List.mem_of_getElem? hq)
        have szq' : T.size (.f nm ts) ≤ t.size := szq
        obtain ⟨b, x1, rfl, sq, mx⟩ := ArV.mono (TK.same s) _ _ hv
        obtain ⟨b2, ys, rfl, sq2, all⟩ := mx
        have lys := all.len
        have lts := T.len_sizeL ts
        have sts : T.size (.f nm ts) = 1 + T.sizeL ts := rfl
        have lt' : q2 < ys.length := by rw [lys]; exact lt
        obtain ⟨lo1, lo2⟩ := cut_low (x := V.str nm) lt'
        obtain ⟨hi1, hi2⟩ := cut_high (x := V.str nm) lt'
        refine ⟨b, _, rfl, sq, rfl, _, _, rfl, _, _, rfl, rfl, ?_⟩
        refine ⟨.ref b2, rfl, _, rfl, _, rfl, b2, _, rfl, sq2, lo1, fun p1 n1 => ?_⟩
        rw [lo2]
        have s1 : Same G'' (upd G'' p1 (.tup (V.str nm :: ys.take q2))) := same_new (fun b o e => e) n1 _
        have m1 : (upd G'' p1 (.tup (V.str nm :: ys.take q2))) p1 = some (.tup (V.str nm :: ys.take q2)) := upd_same
        generalize upd G'' p1 (.tup (V.str nm :: ys.take q2)) = G2 at s1 m1
        refine ⟨y', rfl, (by show 1 ≤ sizeLine; decide), fun p2 n2 => ?_⟩
        have s2 : Same G2 (upd G2 p2 (.tup [y'])) := same_new (fun b o e => e) n2 _
        have m2 : (upd G2 p2 (.tup [y'])) p2 = some (.tup [y']) := upd_same
        have m1' := s2 _ _ m1
        generalize upd G2 p2 (.tup [y']) = G3 at s2 m2 m1'
        refine ⟨p1, p2, _, _, rfl, rfl, .inl (.inl m1'), .inl (.inl m2), (by simp), (by rw [List.length_cons, List.length_take, List.length_singleton, sizeLine_eq]; omega), (fun z => nomatch z), fun _ p3 n3 => ?_⟩
        have s3 : Same G3 (upd G3 p3 (.tup ((V.str nm :: ys.take q2) ++ [y']))) := same_new (fun b o e => e) n3 _
        have m3 : (upd G3 p3 (.tup ((V.str nm :: ys.take q2) ++ [y']))) p3 = some (.tup ((V.str nm :: ys.take q2) ++ [y'])) := upd_same
        generalize upd G3 p3 (.tup ((V.str nm :: ys.take q2) ++ [y'])) = G4 at s3 m3
        have s04 : Same G'' G4 := fun b o e => s3 _ _ (s2 _ _ (s1 _ _ e))
        refine ⟨.ref b2, rfl, _, rfl, _, _, rfl, rfl, _, rfl, b2, _, rfl, (TK.same s04).sq sq2, hi1, fun p4 n4 => ?_⟩
        rw [hi2]
        have s4 : Same G4 (upd G4 p4 (.tup (ys.drop (q2 + 1)))) := same_new (fun b o e => e) n4 _
        have m4 : (upd G4 p4 (.tup (ys.drop (q2 + 1)))) p4 = some (.tup (ys.drop (q2 + 1))) := upd_same
        have m3' := s4 _ _ m3
        generalize upd G4 p4 (.tup (ys.drop (q2 + 1))) = G5 at s4 m4 m3'
        have s05 : Same G'' G5 := fun b o e => s4 _ _ (s04 _ _ e)
        have upn : upT (l.take (l.length - (i + 1))) (.f nm (ts.set q2 r')) = r := by
          have e2 : l.length - i = l.length - (i + 1) + 1 := by omega
          have e3 : l[l.length - (i + 1)]? = some (.f nm ts, q2) := by
            rw [show l.length - (i + 1) = l.length - 1 - i from by omega]
            exact hq
          rw [← up, e2, List.take_add_one, e3]
          exact (upT_snoc).symm
        have done : ∀ (g : Addr) (G6 : Hp), Same G5 G6 → G6 g = some (.tup (((V.str nm :: ys.take q2) ++ [y']) ++ ys.drop (q2 + 1))) → ∃ (r' : T) (y'' : V) (v5 v4 : Option V), [some yz, some (.ref a), some (.ref g), some (.ref dA), some (.int ((q2 : Int) + 1)), some (.ref b2)] = [some yz, some (.ref a), some y'', some (.ref dA), v4, v5] ∧ Same G G6 ∧ Tm K G6 r' y'' ∧ upT (l.take (l.length - (i + 1))) r' = r := by
          intro g G6 s6 m6
          have s06 : Same G'' G6 := fun b o e => s6 _ _ (s05 _ _ e)
          have k06 := TK.same s06
          refine ⟨.f nm (ts.set q2 r'), .ref g, _, _, rfl, fun b o e => s06 _ _ (s _ _ e), ⟨g, ys.take q2 ++ y' :: ys.drop (q2 + 1), rfl, .inl (.inl ?_), ?_⟩, upn⟩
          · rw [m6, List.append_assoc]
            rfl
          · rcases Tms.set q2 (Tms.mono k06 _ _ all) (Tm.mono k06 _ _ mr) with z | z
            · exact z
            · omega
        refine ⟨p3, p4, _, _, rfl, rfl, .inl (.inl m3'), .inl (.inl m4), (by simp), ?_, fun e => ?_, fun e p8 n8 => ?_⟩
        · rw [List.length_append, List.length_cons, List.length_take, List.length_singleton, List.length_drop, sizeLine_eq]
          omega
        · refine done p3 G5 (fun b o e => e) ?_
          rw [e, List.append_nil]
          exact m3'
        · exact done p8 _ (same_new (fun b o e => e) n8 _) upd_same
      · rintro σ G' ⟨r', y', v5, v4, rfl, s, mr, up⟩
        rw [la, Nat.sub_self, List.take_zero] at up
        have e : r' = r := up
        rw [e] at mr
        exact ⟨y', rfl, q y' G' (fun b o e => s _ _ (sm _ _ e)) mr⟩
end
end Ad

/-! is_from, is_below of any data. -/
namespace Ad
open PySem PySem.Spec PySem.Calls PyProof.Rows L2
abbrev sFromD : Stmt := topS 1
theorem scFromD : FnScope ["value", "least"] ["value", "least"] (defScope sFromD) := ⟨rfl, rfl, rfl, by decide +kernel, rfl, by decide +kernel, by decide +kernel⟩
abbrev sBelowD : Stmt := topS 2
theorem scBelowD : FnScope ["value", "end"] ["value", "end"] (defScope sBelowD) := ⟨rfl, rfl, rfl, by decide +kernel, rfl, by decide +kernel, by decide +kernel⟩
def fromD : PyData → Int → Bool
  | .int i, m => decide (m ≤ i)
  | _, _ => false
def belowD : PyData → Int → Bool
  | .int i, e => decide (0 ≤ i) && decide (i < e)
  | _, _ => false
section
variable {P : Program} {w : World} {K : PySem.W.Frag} {mg : Str → Option Value} {base : Heap}
def spFromD (K : PySem.W.Frag) : Sp := fun vs H Q _ => ∃ (v : V) (m : Int) (d : PyData), vs = [v, .int m] ∧ Dp K H v d ∧ Q (.bl (fromD d m)) H
theorem ok_fromD {f : Addr} {fd : FuncData} {k : Nat} (F : Fun K "is_from" "is_from" sFromD f fd) (m_isinstance : mg "isinstance" = none) (m_int : mg "int" = none) (m_bool : mg "bool" = none) : FnOk P w K mg base CX0 (k + 1) f fd ["value", "least"] (spFromD K) := by
  refine F.ok scFromD (fun vs H Q E h => ?_) (fun cdv A outer s H vs Q E hr h => ?_)
  · obtain ⟨v, m, d, rfl, _⟩ := h
    rfl
  · obtain ⟨v, m, d, rfl, hd, q⟩ := h
    refine ⟨_, (pss_one (ps_ret (pe_and (pe_callB call_isi (by rfl) m_isinstance (by decide +kernel) (pa_cons (pv 0) (pa_cons (pe_bltn (v := .ty "int") (by rfl) m_int (by decide +kernel) rfl) pa_nil))) (pe_and (pe_not (pe_callB call_isi (by rfl) m_isinstance (by decide +kernel) (pa_cons (pv 0) (pa_cons (pe_bltn (v := .ty "bool") (by rfl) m_bool (by decide +kernel) rfl) pa_nil)))) (pe_one (pe_cmpR op_ge (pv 0) (pv 1) (nomark _))))))), ?_⟩
    refine ⟨v, rfl, v, .ty "int", tyD d, .type "int", isIn d, rfl, .ty "int", dp_ty hd, kit_in d, isIn d, rfl, ?_⟩
    have no : isIn d = false → fromD d m = false := fun e => by cases d <;> first | rfl | cases e
    have no2 : isBo d = true → fromD d m = false := fun e => by cases d <;> first | rfl | cases e
    refine ite2 (fun h1 => ?_) (fun h1 => ?_)
    · refine ⟨v, rfl, v, .ty "bool", tyD d, .type "bool", isBo d, rfl, .ty "bool", dp_ty hd, kit_bo d, isBo d, rfl, !isBo d, rfl, ?_⟩
      refine ite2 (fun h2 => ?_) (fun h2 => ?_)
      · cases hd with
        | int i => exact ⟨.int i, rfl, .int m, rfl, _, _, rfl, rfl, q⟩
        | bl b => cases h2
        | _ => cases h1
      · have e : isBo d = true := by
          cases z : isBo d with
          | true => rfl
          | false => exact absurd (by rw [z]; rfl) h2
        rw [no2 e] at q
        exact q
    · rw [no ((Bool.not_eq_true _).mp h1)] at q
      exact q
def spBelowD (K : PySem.W.Frag) : Sp := fun vs H Q _ => ∃ (v : V) (e : Int) (d : PyData), vs = [v, .int e] ∧ Dp K H v d ∧ Q (.bl (belowD d e)) H
theorem ok_belowD {f fF : Addr} {fd fdF : FuncData} {k : Nat} (F : Fun K "is_below" "is_below" sBelowD f fd) (GF : FnOk P w K mg base CX0 k fF fdF ["value", "least"] (spFromD K)) (gF : mg "is_from" = some (.ref fF)) (kF : PySem.W.keepIn K (.ref fF) = true) (bF : Binds K fdF ["value", "least"] []) :
    FnOk P w K mg base CX0 (k + 1) f fd ["value", "end"] (spBelowD K) := by
  refine F.ok scBelowD (fun vs H Q E h => ?_) (fun cdv A outer s H vs Q E hr h => ?_)
  · obtain ⟨v, m, d, rfl, _⟩ := h
    rfl
  · obtain ⟨v, e, d, rfl, hd, q⟩ := h
    refine ⟨_, (pss_one (ps_ret (pe_and (pe_call GF hr (by rfl) gF kF bF .nil pass0 (pa_cons (pv 0) (pa_cons pe_int pa_nil))) (pe_one (pe_cmpR op_lt (pv 0) (pv 1) (nomark _)))))), ?_⟩
    refine ⟨v, rfl, v, 0, d, rfl, hd, fromD d 0, rfl, ?_⟩
    refine ite2 (fun h1 => ?_) (fun h1 => ?_)
    · cases hd with
      | int i =>
        have e1 : decide (0 ≤ i) = true := h1
        have e2 : belowD (.int i) e = decide (i < e) := by
          show (decide (0 ≤ i) && decide (i < e)) = _
          rw [e1]
          rfl
        rw [e2] at q
        exact ⟨.int i, rfl, .int e, rfl, _, _, rfl, rfl, q⟩
      | _ => cases h1
    · have e2 : belowD d e = false := by
        cases d with
        | int i =>
          show (decide (0 ≤ i) && decide (i < e)) = false
          rw [show decide (0 ≤ i) = false from (Bool.not_eq_true _).mp h1]
          rfl
        | _ => rfl
      rw [e2] at q
      exact q
end
end Ad

/-! The law: its parts. -/
namespace Ad
open PySem PySem.Spec PySem.Calls PyProof.Rows L2 GxR
/-- a def of the top, with its promise -/
structure Has (P : Program) (w : World) (K : PySem.W.Frag) (mg : Str → Option Value) (base : Heap) (k : Nat) (x : Str) (ps : List Str) (sp : Sp) (f : Addr) (fd : FuncData) : Prop where
  G : FnOk P w K mg base CX0 k f fd ps sp
  g : mg x = some (.ref f)
  kp : PySem.W.keepIn K (.ref f) = true
  b : Binds K fd ps []
structure HasG (P : Program) (w : World) (K : PySem.W.Frag) (mg : Str → Option Value) (base : Heap) (k : Nat) (x : Str) (ps : List Str) (sp : Sp) (f : Addr) (fd : FuncData) : Prop where
  G : FnG P w K mg base CX0 k f fd ps sp
  g : mg x = some (.ref f)
  kp : PySem.W.keepIn K (.ref f) = true
  b : Binds K fd ps []
theorem iteNE {b : Bool} {A B : Prop} (hb : b = true) (h : B) : if (!b) = true then A else B := by
  rw [hb]
  exact iteF h
theorem iteE {b : Bool} {A B : Prop} (hb : b = true) (h : A) : if b = true then A else B := by
  rw [hb]
  exact iteT h
/-! ### written substitutions -/
/-- a written pair -/
def PLit (K : PySem.W.Frag) (tp : TE) (e : Int × T) : Prop := ∀ (σ : L2.St) (H : Hp) (Q : VK), (∀ b G, Same H G → SP K G e b → Q (.ref b) G) → tp σ H Q
theorem plit_v (K : PySem.W.Frag) (i j : Int) : PLit K (tTup (tCons (tC (.int i)) (tCons (tC (.int j)) tNil))) (i, .v j) := fun σ H Q h =>
  ⟨(by show 2 ≤ sizeLine; decide), fun p np => h p _ (same_new (fun b o e => e) np _) ⟨.int j, .inl (.inl upd_same), rfl⟩⟩
theorem plit_f (K : PySem.W.Frag) (i j : Int) (x : Str) : PLit K (tTup (tCons (tC (.int i)) (tCons (tTup (tCons (tC (.str x)) (tCons (tC (.int j)) tNil))) tNil))) (i, .f x [.v j]) := fun σ H Q h =>
  ⟨(by show 2 ≤ sizeLine; decide), fun p1 n1 => ⟨(by show 2 ≤ sizeLine; decide), fun p np => h p _ (same_new (same_new (fun b o e => e) n1 _) np _)
    ⟨.ref p1, .inl (.inl upd_same), p1, [.int j], rfl, (TK.new np _).sq (.inl (.inl upd_same)), .int j, [], rfl, rfl, rfl⟩⟩⟩
theorem sulit0 (K : PySem.W.Frag) {σ : L2.St} {H : Hp} {Q : VK} (h : ∀ x G, Same H G → Su K G [] x → Q x G) : Dt.tTup0 tNil σ H Q :=
  ⟨Nat.zero_le _, fun p o np od => h (.ref p) _ (same_new (fun b o e => e) np _) ⟨p, [], rfl, ⟨o, upd_same, od⟩, rfl⟩⟩
theorem sulit1 {K : PySem.W.Frag} {σ : L2.St} {H : Hp} {Q : VK} {t1 : TE} {e1 : Int × T} (p1 : PLit K t1 e1) (h : ∀ x G, Same H G → Su K G [e1] x → Q x G) : Dt.tTup0 (tCons t1 tNil) σ H Q := by
  show t1 σ H (fun v G => [v].length ≤ sizeLine ∧ ∀ p o, G p = none → o.dict = none → Q (.ref p) (upd G p (.frz o (.tup [v]))))
  exact p1 σ H _ fun b G s sp => ⟨(by show 1 ≤ sizeLine; decide), fun p o np od => h (.ref p) _ (same_new s np _) ⟨p, [b], rfl, ⟨o, upd_same, od⟩, F2.one (SP.mono (TK.new np _) _ _ sp)⟩⟩
theorem sulit2 {K : PySem.W.Frag} {σ : L2.St} {H : Hp} {Q : VK} {t1 t2 : TE} {e1 e2 : Int × T} (p1 : PLit K t1 e1) (p2 : PLit K t2 e2) (h : ∀ x G, Same H G → Su K G [e1, e2] x → Q x G) : Dt.tTup0 (tCons t1 (tCons t2 tNil)) σ H Q := by
  show t1 σ H (fun v G => t2 σ G (fun v2 G2 => [v, v2].length ≤ sizeLine ∧ ∀ p o, G2 p = none → o.dict = none → Q (.ref p) (upd G2 p (.frz o (.tup [v, v2])))))
  exact p1 σ H _ fun b G s sp => p2 σ G _ fun b2 G2 s2 sp2 => ⟨(by show 2 ≤ sizeLine; decide), fun p o np od => h (.ref p) _ (same_new (show Same H G2 from fun b o e => s2 b o (s b o e)) np _)
    ⟨p, [b, b2], rfl, ⟨o, upd_same, od⟩, _, _, rfl, SP.mono ((TK.same s2).trans (TK.new np _)) _ _ sp, F2.one (SP.mono (TK.new np _) _ _ sp2)⟩⟩
/-! ### the law's substitutions -/
theorem dt_v {R : List Row} {j nv : Int} (h0 : 0 ≤ j) (h1 : j < nv) : DT R 2 nv (.v j) := ⟨rfl, Nat.zero_le _, one_sz _, fun i hi => by
  cases List.mem_singleton.mp hi
  exact ⟨h0, h1⟩, True.intro⟩
theorem dt_f {R : List Row} (hf : ∃ r ∈ R, r.1 = ("f" : Str) ∧ r.2.1 = 1) : DT R 2 4 (.f "f" [.v 0]) := ⟨by decide +kernel, (by show 1 + max 0 0 ≤ 3; decide), (by show 1 + (1 + 0) ≤ 13; decide), fun i hi => by
  cases List.mem_singleton.mp (show i ∈ [(0 : Int)] from hi)
  exact ⟨by decide, by decide⟩, ⟨hf, True.intro, True.intro⟩⟩
theorem dsu_a {R : List Row} : DSu R 2 4 [(0, .v 1), (1, .v 0)] := ⟨by simp, fun e he => by
  rcases List.mem_cons.mp he with z | z
  · rw [z]
    exact ⟨by decide, by decide, dt_v (by decide) (by decide)⟩
  · rw [List.mem_singleton.mp z]
    exact ⟨by decide, by decide, dt_v (by decide) (by decide)⟩⟩
theorem dsu_b {R : List Row} (hf : ∃ r ∈ R, r.1 = ("f" : Str) ∧ r.2.1 = 1) : DSu R 2 4 [(0, .v 1), (1, .f "f" [.v 0])] := ⟨by simp, fun e he => by
  rcases List.mem_cons.mp he with z | z
  · rw [z]
    exact ⟨by decide, by decide, dt_v (by decide) (by decide)⟩
  · rw [List.mem_singleton.mp z]
    exact ⟨by decide, by decide, dt_f hf⟩⟩
theorem dsu_c {R : List Row} : DSu R 2 4 [] := ⟨.nil, fun e he => nomatch he⟩
theorem dsu_one {R : List Row} {i : Int} {t : T} (h0 : 0 ≤ i) (h1 : i < 4) (h : DT R 2 4 t) : DSu R 2 4 [(i, t)] := ⟨List.pairwise_singleton _ _, fun e he => by
  rw [List.mem_singleton.mp he]
  exact ⟨h0, h1, h⟩⟩
theorem DSu.nd {R : List Row} {d : Nat} {nv : Int} {su : Sb} (h : DSu R d nv su) : (su.map (·.1)).Nodup := Sb.rising_nodup h.rising
theorem DSu.asg {R : List Row} {su : Sb} (h : DSu R 2 4 su) {j nv : Int} (h4 : 4 ≤ nv) (h0 : 0 ≤ j) (h1 : j < nv) : DT R 2 nv (su.asg j) := by
  show DT R 2 nv ((su.look j).getD (.v j))
  cases e : su.look j with
  | none => exact dt_v h0 h1
  | some t =>
    obtain ⟨_, _, d⟩ := h.each _ (Sb.look_mem e)
    exact ⟨d.named, d.dep, d.size, fun i hi => ⟨(d.vars i hi).1, by have := (d.vars i hi).2; omega⟩, d.wf⟩
theorem put_small {R : List Row} {su : Sb} (h : DSu R 2 4 su) {t : T} {nv : Int} (h4 : 4 ≤ nv) (n : t.named = true) (v : ∀ j ∈ t.vars, 0 ≤ j ∧ j < nv) :
    (T.fill su.asg t).named = true ∧ (T.fill su.asg t).dep ≤ t.dep + 3 ∧ (T.fill su.asg t).size ≤ t.size * 13 ∧ ∀ j ∈ (T.fill su.asg t).vars, 0 ≤ j ∧ j < nv := by
  have d : ∀ j ∈ t.vars, DT R 2 nv (su.asg j) := fun j hj => h.asg h4 (v j hj).1 (v j hj).2
  refine ⟨T.fill_named t n fun j hj => (d j hj).named, T.fill_dep t fun j hj => (d j hj).dep, T.fill_size (by decide) t fun j hj => (d j hj).size, fun j hj => ?_⟩
  obtain ⟨i, hi, hj'⟩ := T.fill_vars t hj
  exact (d i hi).vars j hj'
theorem beh_small {R : List Row} {one two : Sb} (d1 : DSu R 2 4 one) (d2 : DSu R 2 4 two) : ∀ e ∈ Sb.beh one two, 0 ≤ e.1 ∧ e.1 < 4 ∧ e.2.named = true ∧ e.2.dep ≤ 6 ∧ e.2.size ≤ 169 ∧ ∀ j ∈ e.2.vars, 0 ≤ j ∧ j < 4 := by
  intro e he
  have nd : ((Sb.beh one two).map (·.1)).Nodup := Sb.nodup_fold _ one two d2.nd
  have lk := (Sb.mem_look nd (i := e.1) (t := e.2)).1 he
  rw [Sb.beh_look d1.nd] at lk
  cases h : Sb.look one e.1 with
  | some t =>
    rw [h] at lk
    have e2 : T.fill two.asg t = e.2 := Option.some.inj lk
    obtain ⟨a, b, d⟩ := d1.each _ (Sb.look_mem h)
    have d' : DT R 2 4 t := d
    obtain ⟨p1, p2, p3, p4⟩ := put_small d2 (by decide) d'.named d'.vars
    have z1 := d'.dep
    have z2 : t.size ≤ 13 := d'.size
    rw [e2] at p1 p2 p3 p4
    exact ⟨a, b, p1, by omega, by omega, p4⟩
  | none =>
    rw [h] at lk
    obtain ⟨a, b, d⟩ := d2.each _ (Sb.look_mem lk)
    have z1 : e.2.dep ≤ 3 := d.dep
    have z2 : e.2.size ≤ 13 := d.size
    exact ⟨a, b, d.named, by omega, by omega, d.vars⟩
theorem beh_good {R : List Row} {one two : Sb} (d1 : DSu R 2 4 one) (d2 : DSu R 2 4 two) : Good (Sb.beh one two) := fun e he => by
  obtain ⟨_, _, h1, h2, _⟩ := beh_small d1 d2 e he
  exact ⟨h1, by omega⟩
theorem norm_text {R : List Row} {one two su : Sb} (d1 : DSu R 2 4 one) (d2 : DSu R 2 4 two) (n : (Sb.beh one two).Norm su) : (suD su).showable = true ∧ (suD su).hasDict = false ∧ (suD su).depth ≤ 60 ∧ (suD su).shown.length ≤ sizeLine := by
  have each : ∀ e ∈ su, 0 ≤ e.1 ∧ e.1 < 4 ∧ e.2.named = true ∧ e.2.dep ≤ 6 ∧ e.2.size ≤ 169 ∧ ∀ j ∈ e.2.vars, 0 ≤ j ∧ j < 4 := fun e he => beh_small d1 d2 e (Sb.look_mem ((n.has e.1 e.2).1 he).1)
  refine su_text (m := 169) (by decide) ?_ fun e he => ?_
  · have := rising_len (lo := 0) (hi := 4) n.rising (fun i hi => by
      obtain ⟨e, he, rfl⟩ := List.mem_map.mp hi
      exact ⟨(each e he).1, (each e he).2.1⟩) (by decide)
    rw [List.length_map] at this
    omega
  · obtain ⟨a, b, c, d, f, g⟩ := each e he
    exact ⟨a, by omega, c, by omega, f, fun j hj => ⟨(g j hj).1, by have := (g j hj).2; omega⟩⟩
namespace Sb
theorem ren_vars (first : Int) : ∀ (l : List Int) (tb : Sb), (∀ e ∈ tb, ∃ i, e.2 = T.v i) → ∀ e ∈ ren first tb l, ∃ i, e.2 = T.v i
  | [], tb, h => h
  | i :: l, tb, h => by
    show ∀ e ∈ ren first (if (look tb i).isSome = true then tb else put tb i (.v (first + (tb.length : Int)))) l, ∃ i, e.2 = T.v i
    refine ren_vars first l _ ?_
    split
    · exact h
    · intro e he
      rcases mem_put he with z | z
      · rw [z]
        exact ⟨_, rfl⟩
      · exact h e z
theorem ren_asg (first : Int) (l : List Int) (j : Int) : ∃ i, (ren first [] l).asg j = T.v i := by
  show ∃ i, ((ren first [] l).look j).getD (.v j) = T.v i
  cases e : (ren first [] l).look j with
  | none => exact ⟨j, rfl⟩
  | some t => exact ren_vars first l [] (fun e he => nomatch he) _ (look_mem e)
end Sb
theorem ren_shaped {t : T} (n : t.named = true) (d : t.dep ≤ 60) (first : Int) (l : List Int) : SeqAt.shaped (T.fill (Sb.ren first [] l).asg t).d = true := by
  refine T.shaped (T.fill_named t n fun j _ => ?_) ?_
  · obtain ⟨i, e⟩ := Sb.ren_asg first l j
    rw [e]
    rfl
  · have := T.fill_dep (s := (Sb.ren first [] l).asg) (D := 0) t fun j _ => by
      obtain ⟨i, e⟩ := Sb.ren_asg first l j
      rw [e]
      exact Nat.le_refl _
    omega
/-! ### what a lap knows -/
structure Wk (K : PySem.W.Frag) (Pt p l ra : Addr) (ns : List Int) (c : Nat) (R : List Row) (G : Hp) : Prop where
  pen : Pn.Pen G p l ns c
  rows : RowsAt K G ra R
  tab : TabG G Pt
section
variable {K : PySem.W.Frag} {Pt p l ra : Addr} {ns : List Int} {c c' : Nat} {R : List Row} {G G' : Hp}
theorem Wk.same (h : Wk K Pt p l ra ns c R G) (s : Same G G') : Wk K Pt p l ra ns c R G' := ⟨pen_same h.pen s, h.rows.mono (TK.same s), tab_same s h.tab⟩
theorem Wk.new (h : Wk K Pt p l ra ns c R G) {q : Addr} (n : G q = none) (o : HO) : Wk K Pt p l ra ns c R (upd G q o) := h.same (same_new (fun b o e => e) n _)
theorem tab_ne {l : Addr} {ns : List Int} {c : Nat} (P : Pn.Pen G p l ns c) (t : TabG G Pt) : Pt ≠ p ∧ Pt ≠ l := by
  obtain ⟨ps, e, _⟩ := t
  obtain ⟨⟨_, _, _, e0, _⟩, e1⟩ := P
  refine ⟨fun z => ?_, fun z => ?_⟩
  · rw [← z, e] at e0
    cases e0
  · rw [← z, e] at e1
    cases e1
theorem tab_pen {l : Addr} {ns : List Int} {c : Nat} (P : Pn.Pen G p l ns c) (t : TabG G Pt) (b : Pn.But p G G') : TabG G' Pt := by
  have n := (tab_ne P t).1
  obtain ⟨ps, e, ok⟩ := t
  exact ⟨ps, b _ _ n e, ok⟩
theorem Wk.step (h : Wk K Pt p l ra ns c R G) (P : Pn.Pen G' p l ns c') (b : Pn.But p G G') : Wk K Pt p l ra ns c' R G' := ⟨P, h.rows.mono (pen_tk h.pen b), tab_pen h.pen h.tab b⟩
theorem Wk.but (h : Wk K Pt p l ra ns c R G) (b : ∀ q o, q ≠ Pt → G q = some o → G' q = some o) (t : TabG G' Pt) : Wk K Pt p l ra ns c R G' := by
  refine ⟨?_, h.rows.mono (tab_tk h.tab b), t⟩
  obtain ⟨n1, n2⟩ := tab_ne h.pen h.tab
  obtain ⟨⟨a, d, f, e, r⟩, e1⟩ := h.pen
  exact ⟨⟨a, d, f, b _ _ n1.symm e, r⟩, b _ _ n2.symm e1⟩
end
end Ad

/-! The part of a ground term at any value. -/
namespace Ad
open PySem PySem.Spec PySem.Calls PyProof.Rows L2
abbrev sPartAt : Stmt := topS 7
theorem scPartAt : FnScope ["term", "path", "index"] ["term", "path"] (defScope sPartAt) := ⟨rfl, rfl, rfl, by decide +kernel, rfl, by decide +kernel, by decide +kernel⟩
theorem sub_far {k : Int} {x : Str} {ts : List T} (h : ¬ (0 ≤ k ∧ k < ts.length)) (p : List Int) : T.sub (k :: p) (.f x ts) = none := by
  show (if 0 ≤ k then (match ts[k.toNat]? with | some u => T.sub p u | none => none) else none) = none
  by_cases h0 : 0 ≤ k
  · rw [if_pos h0, List.getElem?_eq_none (by omega)]
  · rw [if_neg h0]
theorem sub_near {j : Nat} {x : Str} {ts : List T} {y : T} (h : ts[j]? = some y) (p : List Int) : T.sub ((j : Int) :: p) (.f x ts) = T.sub p y := by
  show (if 0 ≤ (j : Int) then (match ts[((j : Int)).toNat]? with | some u => T.sub p u | none => none) else none) = _
  rw [if_pos (by omega), Int.toNat_natCast, h]
theorem subW_cons (i : Int) (o : Option (List Int)) (t : T) : subW (o.map (i :: ·)) t = match o with | some p => T.sub (i :: p) t | none => none := by
  cases o <;> rfl
section
variable {P : Program} {w : World} {K : PySem.W.Frag} {mg : Str → Option Value} {base : Heap}
def spPartAt (K : PySem.W.Frag) : Sp := fun vs H Q _ => ∃ (t : T) (x v : V) (d : PyData), vs = [x, v] ∧ Tm K H t x ∧ t.vars = [] ∧ Dp K H v d ∧ ∀ u, OptTm K H (partD t d) u → Q u H
theorem ok_partat {f fB : Addr} {fd fdB : FuncData} {k : Nat} (F : Fun K "_part_at" "_part_at" sPartAt f fd) (hB : Has P w K mg base k "is_below" ["value", "end"] (spBelowD K) fB fdB) (m_isinstance : mg "isinstance" = none) (m_tuple : mg "tuple" = none) (m_len : mg "len" = none) :
    FnOk P w K mg base CX0 (k + 1) f fd ["term", "path"] (spPartAt K) := by
  refine F.ok scPartAt (fun vs H Q E h => ?_) (fun cdv A outer s H vs Q E hr h => ?_)
  · obtain ⟨t, x, v, d, rfl, _⟩ := h
    rfl
  · obtain ⟨t, x, v, d, rfl, ht, gr, hd, q⟩ := h
    refine ⟨_, (pss_cons (ps_if (pt_not (pt_val (pe_callB call_isi (by rfl) m_isinstance (by decide +kernel) (pa_cons (pv 1) (pa_cons (pe_bltn (v := .ty "tuple") (by rfl) m_tuple (by decide +kernel) rfl) pa_nil)))))
      (pss_one (ps_ret pe_non)) pss_nil)
    (pss_cons (ps_for PassesOwn.never rfl (pi_tup (pv 1)) (pg_name (i := 2) scPartAt.nd rfl (.inl rfl))
      (pss_cons (ps_if (pt_not (pt_val (pe_call hB.G hr (by rfl) hB.g hB.kp hB.b .nil pass0 (pa_cons (pv 2) (pa_cons (pe_op op_sub (pe_callB call_len_seq (by rfl) m_len PySem.boot_len (pa_cons (pv 0) pa_nil)) pe_int) pa_nil)))))
        (pss_one (ps_ret pe_non)) pss_nil)
      (pss_one (ps_set (i := 0) scPartAt.nd rfl (.inl rfl) (pe_ix ix_tup (pv 0) (pe_op op_add (pv 2) pe_int) (fun _ _ => rfl))))))
    (pss_one (ps_ret (pv 0))))), ?_⟩
    refine ⟨v, rfl, v, .ty "tuple", tyD d, .type "tuple", isTu d, rfl, .ty "tuple", dp_ty hd, kit_tu d, isTu d, rfl, ?_⟩
    have no : isTu d = false → partD t d = none := fun e => by cases d <;> first | rfl | cases e
    cases hi : isTu d with
    | false =>
      refine iteT ?_
      refine q .non ?_
      rw [no hi]
      exact rfl
    | true =>
    refine iteF ?_
    cases hd with
    | @tup a xs ds hs ha =>
      refine ⟨.ref a, rfl, a, rfl, ⟨_, hs⟩, for_tup (K := K) (a := a) (xs := xs) (fun i σ G => ∃ (y : V) (z : T) (v2 : Option V), σ = [some y, some (.ref a), v2] ∧ G = H ∧ Tm K H z y ∧ z.vars = [] ∧ partD t (.tuple ds) = subW (wAll (ds.drop i)) z) ⟨x, t, none, rfl, rfl, ht, gr, rfl⟩ (fun i σ G _ ⟨_, _, _, _, e, _⟩ => by rw [e]; exact hs) ?_ ?_⟩
      · rintro i c σ G hi ⟨y, z, v2, rfl, rfl, hz, gz, hs'⟩
        obtain ⟨d, hdi, hdv⟩ := dpAll_get ha hi
        have hlt := (List.getElem?_eq_some_iff.mp hdi).1
        have dr : ds.drop i = d :: ds.drop (i + 1) := by
          rw [List.drop_eq_getElem_cons hlt]
          congr 1
          rw [List.getElem?_eq_getElem hlt] at hdi
          exact Option.some.inj hdi
        rw [dr] at hs'
        obtain ⟨nm, ts, rfl⟩ : ∃ nm ts, z = .f nm ts := by
          cases z with
          | v i => cases (show [i] = [] from gz)
          | f nm ts => exact ⟨nm, ts, rfl⟩
        obtain ⟨b, ys, rfl, sq, all⟩ := hz
        have lys := all.len
        have many : ((V.str nm :: ys).length : Int) - 1 = (ts.length : Int) := by
          rw [List.length_cons, lys]
          omega
        refine ⟨c, rfl, .ref b, rfl, b, _, rfl, .inr sq, _, _, rfl, rfl, c, ((V.str nm :: ys).length : Int) - 1, d, rfl, hdv, _, rfl, ?_⟩
        rw [many]
        cases hb : belowD d (ts.length : Int) with
        | false =>
          refine iteT ?_
          refine q .non ?_
          have e : partD t (.tuple ds) = none := by
            rw [hs']
            cases d with
            | int k =>
              show subW ((wAll (ds.drop (i + 1))).map (k :: ·)) _ = none
              rw [subW_cons]
              cases wAll (ds.drop (i + 1)) with
              | none => rfl
              | some p =>
                refine sub_far (fun z => ?_) p
                have hb' : (decide (0 ≤ k) && decide (k < (ts.length : Int))) = false := hb
                rw [decide_eq_true z.1, decide_eq_true z.2] at hb'
                cases hb'
            | _ => rfl
          rw [e]
          exact rfl
        | true =>
          refine iteF ?_
          cases hdv with
          | int k =>
            have hb' : (decide (0 ≤ k) && decide (k < (ts.length : Int))) = true := hb
            rw [Bool.and_eq_true, decide_eq_true_eq, decide_eq_true_eq] at hb'
            obtain ⟨j, rfl⟩ : ∃ j : Nat, k = (j : Int) := ⟨k.toNat, by omega⟩
            have hj : j < ts.length := by omega
            have hu := List.getElem?_eq_getElem hj
            obtain ⟨y', h1, h2⟩ := all.get' hu
            refine ⟨.ref b, rfl, .int (j : Int), rfl, _, _, rfl, rfl, b, _, _, y', rfl, rfl, sq, ?_, y', ts[j], _, rfl, rfl, h2, varsL_mem (ts := ts) gz (List.getElem_mem hj), ?_⟩
            · have e : ((j : Int) + 1) = ((j + 1 : Nat) : Int) := by omega
              rw [e]
              exact atI_nat (j := j + 1) h1
            · rw [hs']
              show subW ((wAll (ds.drop (i + 1))).map ((j : Int) :: ·)) _ = _
              rw [subW_cons]
              cases wAll (ds.drop (i + 1)) with
              | none => rfl
              | some p => exact sub_near hu p
          | _ => cases hb
      · rintro σ G ⟨y, z, v2, rfl, rfl, hz, gz, hs'⟩
        refine ⟨y, rfl, q y ?_⟩
        rw [hs', dpAll_len ha, List.drop_length]
        exact hz
    | _ => cases hi
end
end Ad

/-! Equations and chains, as they stand in the heap. -/
namespace Ad
open PySem PySem.Spec PySem.Calls PyProof.Rows L2
/-- an equation: a pair of terms -/
def EqV (K : PySem.W.Frag) (H : Hp) (e : T × T) (v : V) : Prop := ∃ b x y, v = .ref b ∧ SqT K H b [x, y] ∧ Tm K H e.1 x ∧ Tm K H e.2 y
theorem EqV.mono {K : PySem.W.Frag} {H H' : Hp} (k : TK H H') (e : T × T) (v : V) (h : EqV K H e v) : EqV K H' e v := by
  obtain ⟨b, x, y, e1, s, m1, m2⟩ := h
  exact ⟨b, x, y, e1, k.sq s, Tm.mono k _ _ m1, Tm.mono k _ _ m2⟩
theorem chainD_cons {eqs : List (T × T)} {t t' : T} {d : PyData} (ds : List PyData) (h : stepD eqs t d = some t') : chainD eqs t (d :: ds) = chainD eqs t' ds := by
  show (match stepD eqs t d with | some t' => chainD eqs t' ds | none => none) = _
  rw [h]
theorem chainD_no {eqs : List (T × T)} {t : T} {d : PyData} (ds : List PyData) (h : stepD eqs t d = none) : chainD eqs t (d :: ds) = none := by
  show (match stepD eqs t d with | some t' => chainD eqs t' ds | none => none) = _
  rw [h]
theorem partD_none_step {l r t : T} {p : PyData} (h : partD t p = none) : stepG l r t p = none := by
  unfold stepG
  rw [h]
theorem step_ne {l r t u : T} {p : PyData} (h : partD t p = some u) (e : PyData.eqv u.d l.d = false) : stepG l r t p = none := by
  unfold stepG
  rw [h]
  show (if PyData.eqv u.d l.d = true then _ else none) = none
  rw [if_neg (by rw [e]; exact Bool.false_ne_true)]
theorem step_eq {l r t u : T} {p : PyData} (h : partD t p = some u) (e : PyData.eqv u.d l.d = true) : stepG l r t p = T.put r (pathD p) t := by
  unfold stepG
  rw [h]
  show (if PyData.eqv u.d l.d = true then _ else none) = _
  rw [if_pos e]
/-- how to walk along a chain of data -/
theorem drop_at {α : Type} {ds : List α} {i : Nat} {d : α} (h : ds[i]? = some d) : ds.drop i = d :: ds.drop (i + 1) := by
  have hlt := (List.getElem?_eq_some_iff.mp h).1
  rw [List.drop_eq_getElem_cons hlt]
  congr 1
  rw [List.getElem?_eq_getElem hlt] at h
  exact Option.some.inj h
theorem step_sh : ∀ (t : T) (eqs : List (T × T)) (d : PyData), (∃ p n b, d = .tuple [p, .int n, .bool b]) ∨ stepD eqs t d = none := by
  intro t eqs d
  by_cases h : ∃ p n b, d = .tuple [p, .int n, .bool b]
  · exact .inl h
  · refine .inr (stepD_other eqs t fun p n b e => h ⟨p, n, b, e⟩)
theorem dpAll_ints {K : PySem.W.Frag} {H : Hp} : ∀ {p : List Int} {vs : List V}, DpAll K H vs (p.map .int) → vs = p.map V.int
  | [], _, .nil => rfl
  | k :: p, _, .cons h1 h2 => by
    cases h1
    rw [dpAll_ints h2]
    rfl
theorem sub_len : ∀ {p : List Int} {u pt : T}, T.sub p u = some pt → p.length ≤ u.dep
  | [], _, _, _ => Nat.zero_le _
  | k :: p, u, pt, h => by
    obtain ⟨j, x, ts, y, rfl, rfl, q1, q2⟩ := T.sub_cons h
    have i1 := sub_len q2
    have i2 := T.dep_mem (List.mem_of_getElem? q1)
    have i3 : T.dep (.f x ts) = 1 + T.depL ts := rfl
    rw [List.length_cons]
    omega
theorem ix_xx {K : PySem.W.Frag} {H : Hp} {b : Addr} {xs : List V} {i : Nat} {v : V} {Q : VK} (h : SqX K H b xs) (e : xs[i]? = some v) (q : Q v H) : rIx K (.ref b) (.int (i : Int)) H Q := by
  rcases h with h | h
  · exact .inl ⟨b, xs, (i : Int), v, rfl, rfl, h, atI_nat e, q⟩
  · exact .inr (.inl ⟨b, xs, (i : Int), v, rfl, rfl, h, atI_nat e, q⟩)
theorem eqv_ints : ∀ a b : List Int, PyData.eqvAll (a.map .int) (b.map .int) = decide (a = b)
  | [], [] => by
    rw [decide_eq_true rfl]
    first
      | rfl
      | (simp [PyData.eqvAll])
  | [], y :: b => by
    rw [decide_eq_false (fun z => nomatch z)]
    first
      | rfl
      | (simp [PyData.eqvAll])
  | x :: a, [] => by
    rw [decide_eq_false (fun z => nomatch z)]
    first
      | rfl
      | (simp [PyData.eqvAll])
  | x :: a, y :: b => by
    rw [List.map_cons, List.map_cons, eqvAll_cons, eqv_ints a b]
    have e : PyData.eqv (.int x) (.int y) = (x == y) := by rw [PyData.eqv]
    rw [e]
    by_cases h : x = y
    · subst h
      by_cases k : a = b
      · subst k
        simp
      · have k2 : ¬ (x :: a = x :: b) := fun z => k (List.cons.inj z).2
        rw [decide_eq_false k, decide_eq_false k2, Bool.and_false]
    · have k2 : ¬ (x :: a = y :: b) := fun z => h (List.cons.inj z).1
      have k3 : (x == y) = false := by simpa using h
      rw [k3, decide_eq_false k2, Bool.false_and]
theorem eqv_iD (a b : List Int) : PyData.eqv (iD a) (iD b) = decide (a = b) := by
  have e : PyData.eqv (iD a) (iD b) = PyData.eqvAll (a.map .int) (b.map .int) := by
    show PyData.eqv (.tuple _) (.tuple _) = _
    rw [PyData.eqv]
  rw [e, eqv_ints]
mutual
/-- where something stands is a path -/
theorem sub_paths : ∀ (t : T) (p : List Int) (u : T), T.sub p t = some u → p ∈ t.paths
  | .v i, [], _, _ => List.mem_singleton.mpr rfl
  | .v i, k :: p, _, h => by cases h
  | .f x ts, [], _, _ => List.mem_cons_self
  | .f x ts, k :: p, u, h => by
    have h' : (if 0 ≤ k then (match ts[k.toNat]? with | some u => T.sub p u | none => none) else none) = some u := h
    by_cases k0 : 0 ≤ k
    · rw [if_pos k0] at h'
      have m := subL_paths 0 ts k.toNat p u h'
      have e : ((0 + k.toNat : Nat) : Int) = k := by omega
      rw [e] at m
      exact List.mem_cons_of_mem _ m
    · rw [if_neg k0] at h'
      cases h'
theorem subL_paths (n : Nat) : ∀ (ts : List T) (j : Nat) (p : List Int) (u : T), (match ts[j]? with | some u => T.sub p u | none => none) = some u → ((n + j : Nat) : Int) :: p ∈ T.pathsL n ts
  | [], j, p, u, h => by cases h
  | t :: ts, 0, p, u, h => by
    have m := sub_paths t p u h
    exact List.mem_append_left _ (List.mem_map.mpr ⟨p, m, rfl⟩)
  | t :: ts, j + 1, p, u, h => by
    have m := subL_paths (n + 1) ts j p u h
    have e : ((n + 1 + j : Nat) : Int) = ((n + (j + 1) : Nat) : Int) := by omega
    rw [e] at m
    exact List.mem_append_right _ m
end
theorem paths_any (t : T) (p : List Int) : ((t.paths.map iD).any fun z => PyData.eqv z (iD p)) = (T.sub p t).isSome := by
  cases h : T.sub p t with
  | some u =>
    rw [List.any_eq_true.mpr ⟨iD p, List.mem_map.mpr ⟨p, sub_paths t p u h, rfl⟩, by rw [eqv_iD, decide_eq_true rfl]⟩]
    rfl
  | none =>
    show _ = false
    rw [List.any_eq_false]
    intro z hz
    obtain ⟨q, hq, rfl⟩ := List.mem_map.mp hz
    rw [eqv_iD, decide_eq_true_eq]
    intro e
    subst e
    obtain ⟨u, hu⟩ := T.paths_sub t q hq
    rw [h] at hu
    cases hu
theorem iDs_lay : ∀ ps : List (List Int), PyData.canLayAll0 (ps.map iD) = true
  | [] => rfl
  | p :: ps => by
    show (PyData.canLayAll0 (p.map .int) && PyData.canLayAll0 (ps.map iD)) = true
    rw [int_lay, iDs_lay ps]
    rfl
theorem iDs_depth : ∀ ps : List (List Int), PyData.depthAll (ps.map iD) ≤ 1
  | [] => Nat.zero_le _
  | p :: ps => by
    have h := iDs_depth ps
    have e : (iD p).depth = 1 := by
      show PyData.depthAll (p.map .int) + 1 = 1
      rw [int_depth]
    show max (iD p).depth (PyData.depthAll (ps.map iD)) ≤ 1
    rw [e]
    omega
theorem iDs_shaped (ps : List (List Int)) : SeqAt.shaped (.list (ps.map iD)) = true := by
  unfold SeqAt.shaped
  have h1 : (PyData.list (ps.map iD)).canLay0 = true := iDs_lay ps
  have h2 : (PyData.list (ps.map iD)).depth ≤ 64 := by
    show PyData.depthAll (ps.map iD) + 1 ≤ 64
    have := iDs_depth ps
    omega
  rw [h1, decide_eq_true h2]
  rfl
theorem pv_dp {K : PySem.W.Frag} {H : Hp} : ∀ {ps : List (List Int)} {us : List V}, F2 (PV K H) ps us → DpAll K H us (ps.map iD)
  | [], us, h => by
    cases (show us = [] from h)
    exact .nil
  | p :: ps, us, h => by
    obtain ⟨v, vs, rfl, ⟨a, rfl, sq⟩, t⟩ := h
    exact .cons (iD_dp sq) (pv_dp t)
/-- so many ones -/
theorem ones_shaped (m : Nat) : SeqAt.shaped (.list ((List.replicate m (1 : Int)).map .int)) = true := by
  unfold SeqAt.shaped
  have h1 : (PyData.list ((List.replicate m (1 : Int)).map .int)).canLay0 = true := int_lay _
  have h2 : (PyData.list ((List.replicate m (1 : Int)).map .int)).depth = 1 := by
    show PyData.depthAll ((List.replicate m (1 : Int)).map .int) + 1 = 1
    rw [int_depth]
  rw [h1, h2]
  rfl
theorem ones_nil (m : Nat) : PyData.eqv (.list ((List.replicate m (1 : Int)).map .int)) (.list []) = decide (m = 0) := by
  cases m with
  | zero =>
    first
      | rfl
      | (simp [PyData.eqv, PyData.eqvAll])
  | succ m =>
    have e : PyData.eqv (.list ((List.replicate (m + 1) (1 : Int)).map .int)) (.list []) = PyData.eqvAll ((List.replicate (m + 1) (1 : Int)).map .int) (([] : List Int).map .int) := by rw [PyData.eqv]; rfl
    rw [e, eqv_ints, List.replicate_succ, decide_eq_false (fun z => nomatch z), decide_eq_false (Nat.succ_ne_zero m)]
theorem ifT_of {c : Bool} {A B : Prop} (h : c = true) (a : A) : if c = true then A else B := by
  rw [if_pos h]
  exact a
theorem ifF_of {c : Bool} {A B : Prop} (h : c = false) (b : B) : if c = true then A else B := by
  rw [if_neg (by rw [h]; exact Bool.false_ne_true)]
  exact b
theorem ne_len {n m : Nat} (h : n ≠ m) : (!decide (V.int (n : Int) = V.int (m : Int))) = true := by
  rw [decide_eq_false (fun z => h (by have := V.int.inj z; omega))]
  rfl
end Ad

/-! chain_end. -/
namespace Ad
open PySem PySem.Spec PySem.Calls PyProof.Rows L2
abbrev sChainEnd : Stmt := topS 6
theorem scChainEnd : FnScope ["equations", "term", "chain", "triple", "path", "index", "way", "first", "second"] ["equations", "term", "chain"] (defScope sChainEnd) := ⟨rfl, rfl, rfl, by decide +kernel, rfl, by decide +kernel, by decide +kernel⟩
section
variable {P : Program} {w : World} {K : PySem.W.Frag} {mg : Str → Option Value} {base : Heap}
def spChainEnd (K : PySem.W.Frag) : Sp := fun vs H Q _ => ∃ (ea : Addr) (x v : V), vs = [.ref ea, x, v] ∧
  ((∃ ty, TyX K H v ty ∧ PySem.W.kitOne K ty (.type "tuple") = some false ∧ Q .non H) ∨
   ∃ (eqs : List (T × T)) (t : T) (es : List V) (a : Addr) (xs : List V) (ds : List PyData) (m z : Nat), v = .ref a ∧ SqT K H a xs ∧ DpAll K H xs ds ∧ SqX K H ea es ∧ F2 (EqV K H) eqs es ∧ eqs.length ≤ 1000 ∧ Egd eqs ∧ Tm K H t x ∧ Gt m z t ∧ m + 4 * ds.length ≤ 60 ∧ z + 40 * ds.length ≤ 9000 ∧
     ∀ H' u, Same H H' → OptTm K H' (chainD eqs t ds) u → Q u H')
theorem ok_chainend {f fB fP fQ : Addr} {fd fdB fdP fdQ : FuncData} {k : Nat} (F : Fun K "chain_end" "chain_end" sChainEnd f fd) (hB : Has P w K mg base k "is_below" ["value", "end"] (spBelowD K) fB fdB) (hPart : Has P w K mg base k "_part_at" ["term", "path"] (spPartAt K) fP fdP)
    (hPut : Has P w K mg base k "put_at" ["term", "path", "new"] (spPut K 70) fQ fdQ) (m_isinstance : mg "isinstance" = none) (m_tuple : mg "tuple" = none) (m_bool : mg "bool" = none) (m_len : mg "len" = none) :
    FnOk P w K mg base CX0 (k + 1) f fd ["equations", "term", "chain"] (spChainEnd K) := by
  refine F.ok scChainEnd (fun vs H Q E h => ?_) (fun cdv A outer s H vs Q E hr h => ?_)
  · obtain ⟨ea, x, v, rfl, _⟩ := h
    rfl
  · obtain ⟨ea, x, v, rfl, h⟩ := h
    refine ⟨_, (pss_cons (ps_if (pt_not (pt_val (pe_callB call_isi (by rfl) m_isinstance (by decide +kernel) (pa_cons (pv 2) (pa_cons (pe_bltn (v := .ty "tuple") (by rfl) m_tuple (by decide +kernel) rfl) pa_nil)))))
      (pss_one (ps_ret pe_non)) pss_nil)
    (pss_cons (ps_for PassesOwn.never rfl (pi_tup (pv 2)) (pg_name (i := 3) scChainEnd.nd rfl (.inl rfl))
      (pss_cons (ps_if (PW.pt (pw_or (pt_not (pt_val (pe_callB call_isi (by rfl) m_isinstance (by decide +kernel) (pa_cons (pv 3) (pa_cons (pe_bltn (v := .ty "tuple") (by rfl) m_tuple (by decide +kernel) rfl) pa_nil))))) (pw_or1 (pt_cmpR op_ne (pe_callB call_len_seq (by rfl) m_len PySem.boot_len (pa_cons (pv 3) pa_nil)) pe_int (nomark _)))))
        (pss_one (ps_ret pe_non)) pss_nil)
      (pss_cons (ps_asg (pv 3) (pg_tup rfl (pgs_cons (pg_name (i := 4) scChainEnd.nd rfl (.inl rfl)) (pgs_cons (pg_name (i := 5) scChainEnd.nd rfl (.inl rfl)) (pgs_cons (pg_name (i := 6) scChainEnd.nd rfl (.inl rfl)) pgs_nil)))))
      (pss_cons (ps_if (PW.pt (pw_or (pt_not (pt_val (pe_call hB.G hr (by rfl) hB.g hB.kp hB.b .nil pass0 (pa_cons (pv 5) (pa_cons (pe_callB call_len_seq (by rfl) m_len PySem.boot_len (pa_cons (pv 0) pa_nil)) pa_nil))))) (pw_or1 (pt_not (pt_val (pe_callB call_isi (by rfl) m_isinstance (by decide +kernel) (pa_cons (pv 6) (pa_cons (pe_bltn (v := .ty "bool") (by rfl) m_bool (by decide +kernel) rfl) pa_nil))))))))
        (pss_one (ps_ret pe_non)) pss_nil)
      (pss_cons (ps_asg (pe_ix ix_seq (pv 0) (pv 5) (fun _ _ => rfl)) (pg_tup rfl (pgs_cons (pg_name (i := 7) scChainEnd.nd rfl (.inl rfl)) (pgs_cons (pg_name (i := 8) scChainEnd.nd rfl (.inl rfl)) pgs_nil))))
      (pss_cons (ps_if (pt_cmpR (op_neD (hu64 hr)) (pe_call hPart.G hr (by rfl) hPart.g hPart.kp hPart.b .nil pass0 (pa_cons (pv 1) (pa_cons (pv 4) pa_nil))) (pe_ifExp (pt_true (pv 6)) (pv 7) (pv 8)) (nomark _))
        (pss_one (ps_ret pe_non)) pss_nil)
      (pss_one (ps_set (i := 1) scChainEnd.nd rfl (.inl rfl) (pe_call hPut.G hr (by rfl) hPut.g hPut.kp hPut.b .nil pass0 (pa_cons (pv 1) (pa_cons (pv 4) (pa_cons (pe_ifExp (pt_true (pv 6)) (pv 8) (pv 7)) pa_nil))))))))))))
    (pss_one (ps_ret (pv 1))))), ?_⟩
    rcases h with ⟨ty, h1, h2, q⟩ | ⟨eqs, t, es, a, xs, ds, m, z, rfl, hs, ha, hE, fE, many, eg, ht, gt, small, small2, q⟩
    · exact ⟨v, rfl, v, .ty "tuple", ty, .type "tuple", false, rfl, .ty "tuple", h1, h2, false, rfl, iteT q⟩
    refine ⟨.ref a, rfl, .ref a, .ty "tuple", tyD (.tuple ds), .type "tuple", true, rfl, .ty "tuple", dp_ty (.tup hs ha), kit_tu (.tuple ds), true, rfl, iteF ?_⟩
    refine ⟨.ref a, rfl, a, rfl, ⟨_, hs⟩, for_tup (K := K) (a := a) (xs := xs) (fun i σ G => ∃ (y : V) (u : T) (v3 v4 v5 v6 v7 v8 : Option V), σ = [some (.ref ea), some y, some (.ref a), v3, v4, v5, v6, v7, v8] ∧ Same H G ∧ Tm K G u y ∧ Gt (m + 4 * i) (z + 40 * i) u ∧ chainD eqs t ds = chainD eqs u (ds.drop i))
      ⟨x, t, none, none, none, none, none, none, rfl, fun b o e => e, ht, gt, rfl⟩ (fun i σ G _ ⟨_, _, _, _, _, _, _, _, _, sm, _⟩ => (TK.same sm).sq hs) ?_ ?_⟩
    · rintro i c σ G hi ⟨y, u, v3, v4, v5, v6, v7, v8, rfl, sm, hu, gu, eq⟩
      obtain ⟨d, hdi, hd0⟩ := dpAll_get ha hi
      have hd := dp_same sm hd0
      have hlt := (List.getElem?_eq_some_iff.mp hdi).1
      rw [drop_at hdi] at eq
      have out : ∀ {G' : Hp}, Same H G' → stepD eqs u d = none → Q .non G' := fun s e => q _ _ s (by rw [eq, chainD_no _ e]; exact rfl)
      have fE' := fE.mono (EqV.mono (TK.same sm))
      have hE' := hE.same sm
      refine ⟨c, rfl, c, .ty "tuple", tyD d, .type "tuple", isTu d, rfl, .ty "tuple", dp_ty hd, kit_tu d, isTu d, rfl, ?_⟩
      cases ht : isTu d with
      | false => exact iteT (iteT (out sm (stepD_other eqs u fun p n b e => by rw [e] at ht; cases ht)))
      | true =>
      refine iteF ?_
      cases hd with
      | @tup b ws ps hb hw =>
        have lw := dpAll_len hw
        refine ⟨.ref b, rfl, b, _, rfl, .inr hb, rfl, _, rfl, ?_⟩
        by_cases l3 : ps.length = 3
        · match ps, l3 with
          | [d1, d2, d3], _ =>
          cases hw with
          | @cons w1 _ _ _ hw1 hw' =>
          cases hw' with
          | @cons w2 _ _ _ hw2 hw' =>
          cases hw' with
          | @cons w3 _ _ _ hw3 hw' =>
          cases hw'
          refine iteF ?_
          refine ⟨.ref b, rfl, b, _, rfl, hb, rfl, _, _, rfl, _, _, rfl, _, _, rfl, rfl, ?_⟩
          have les := fE'.len
          refine ⟨w2, rfl, .ref ea, rfl, ea, _, rfl, hE', w2, _, d2, rfl, hw2, _, rfl, ?_⟩
          cases hb2 : belowD d2 (es.length : Int) with
          | false =>
            refine iteT (iteT (out sm ?_))
            rcases step_sh u eqs (.tuple [d1, d2, d3]) with ⟨p, n, bb, e⟩ | e
            · cases e
              refine stepD_far eqs u d1 fun z => ?_
              have z2 : (decide (0 ≤ n) && decide (n < (es.length : Int))) = false := hb2
              rw [les, decide_eq_true z.1, decide_eq_true z.2] at z2
              cases z2
            · exact e
          | true =>
          refine iteF ?_
          refine ⟨w3, rfl, w3, .ty "bool", tyD d3, .type "bool", isBo d3, rfl, .ty "bool", dp_ty hw3, kit_bo d3, isBo d3, rfl, ?_⟩
          cases hb3 : isBo d3 with
          | false =>
            refine iteT (out sm (stepD_other eqs u fun p n b e => ?_))
            cases e
            cases hb3
          | true =>
          refine iteF ?_
          obtain ⟨n, rfl⟩ : ∃ n, d2 = .int n := by
            cases d2 <;> first | exact ⟨_, rfl⟩ | cases hb2
          obtain ⟨bb, rfl⟩ : ∃ bb, d3 = .bool bb := by
            cases d3 <;> first | exact ⟨_, rfl⟩ | cases hb3
          cases hw2
          cases hw3
          · have z2 : (decide (0 ≤ n) && decide (n < (es.length : Int))) = true := hb2
            rw [Bool.and_eq_true, decide_eq_true_eq, decide_eq_true_eq] at z2
            obtain ⟨j, rfl⟩ : ∃ j : Nat, n = (j : Int) := ⟨n.toNat, by omega⟩
            have hj : j < eqs.length := by omega
            have hej := List.getElem?_eq_getElem hj
            generalize eqs[j] = e at hej
            obtain ⟨ev, hev, ⟨eb, l, r, rfl, seb, ml, mr⟩⟩ := fE'.get' hej
            obtain ⟨gl, gr⟩ := eg e (List.mem_of_getElem? hej)
            have stp := stepD_tri eqs u d1 (n := (j : Int)) (b := bb) (e := e) (by omega) (by rw [Int.toNat_natCast]; exact hej)
            refine ⟨.ref ea, rfl, .int (j : Int), rfl, ix_xx (i := j) hE' hev ?_⟩
            refine ⟨eb, _, rfl, seb, rfl, _, _, rfl, _, _, rfl, rfl, ?_⟩
            refine ⟨y, rfl, w1, rfl, u, y, w1, d1, rfl, hu, gu.vars, hw1, fun pu hpu => ?_⟩
            have gL : Gt 4 40 (wayG bb e.1 e.2) := wayG_gt gl gr
            have gR : Gt 4 40 (wayG bb e.2 e.1) := wayG_gt gr gl
            have key : ∀ (L R : V), Tm K G (wayG bb e.1 e.2) L → Tm K G (wayG bb e.2 e.1) R →
                ∃ dd ee, Dp K G pu dd ∧ Dp K G L ee ∧ SeqAt.shaped dd = true ∧ SeqAt.shaped ee = true ∧ (PyData.eqv dd ee = false → stepD eqs u (.tuple [d1, .int (j : Int), .bool bb]) = none) ∧
                  (PyData.eqv dd ee = true → ∃ (pa : Addr) (p : List Int) (r' : T), w1 = .ref pa ∧ SqT K G pa (p.map V.int) ∧ p.length < 70 ∧ T.put (wayG bb e.2 e.1) p u = some r' ∧ stepD eqs u (.tuple [d1, .int (j : Int), .bool bb]) = some r') := by
              intro L R mL mR
              cases hp : partD u d1 with
              | none =>
                rw [hp] at hpu
                have e1 : pu = .non := hpu
                subst e1
                refine ⟨.none, (wayG bb e.1 e.2).d, .non, Tm.dp _ _ mL, by decide +kernel, gL.shape (by decide), fun _ => ?_, fun z => ?_⟩
                · rw [stp]
                  exact partD_none_step hp
                · obtain ⟨nm, ts, ee⟩ := gL.head
                  rw [ee] at z
                  have z2 : PyData.eqv .none (.tuple (.str nm :: T.ds ts)) = true := z
                  rw [PyData.eqv] at z2
                  cases z2
              | some pt =>
                rw [hp] at hpu
                have mp : Tm K G pt pu := hpu
                obtain ⟨p, e1, e2, e3⟩ := partD_some hp
                have gp := gu.sub e3
                refine ⟨pt.d, (wayG bb e.1 e.2).d, Tm.dp _ _ mp, Tm.dp _ _ mL, gp.shape (by omega), gL.shape (by decide), fun z => ?_, fun z => ?_⟩
                · rw [stp]
                  exact step_ne hp z
                · obtain ⟨r', f1, _⟩ := gu.put e3 gR
                  subst e1
                  cases hw1 with
                  | @tup pa pvs _ hpa hpv =>
                    have ev := dpAll_ints hpv
                    rw [ev] at hpa
                    have pl := sub_len e3
                    have ud := gu.dep
                    refine ⟨pa, p, r', rfl, hpa, by omega, f1, ?_⟩
                    rw [stp, step_eq hp z, e2]
                    exact f1
            cases bb with
            | true =>
              obtain ⟨dd, ee, k1, k2, k3, k4, k5, k6⟩ := key l r ml mr
              refine ⟨.bl true, rfl, true, rfl, iteT ⟨l, rfl, dd, ee, k1, k2, k3, k4, _, rfl, ?_⟩⟩
              cases hv : PyData.eqv dd ee with
              | false => exact iteT (out sm (k5 hv))
              | true =>
                refine iteF ?_
                obtain ⟨pa, p, r', rfl, f1, f2, f3, f4⟩ := k6 hv
                refine ⟨y, rfl, .ref pa, rfl, .bl true, rfl, true, rfl, iteT ⟨r, rfl, u, _, r', y, r, pa, p, rfl, hu, mr, f1, f2, by have := gu.size; omega, f3, fun v' H4 s4 tz => ?_⟩⟩
                refine ⟨v', r', _, _, _, _, _, _, rfl, fun b o e => s4 _ _ (sm _ _ e), tz, ?_, ?_⟩
                · have := stepD_gt eg gu f4
                  exact this.mono (by omega) (by omega)
                · rw [eq]
                  exact chainD_cons _ f4
            | false =>
              obtain ⟨dd, ee, k1, k2, k3, k4, k5, k6⟩ := key r l mr ml
              refine ⟨.bl false, rfl, false, rfl, iteF ⟨r, rfl, dd, ee, k1, k2, k3, k4, _, rfl, ?_⟩⟩
              cases hv : PyData.eqv dd ee with
              | false => exact iteT (out sm (k5 hv))
              | true =>
                refine iteF ?_
                obtain ⟨pa, p, r', rfl, f1, f2, f3, f4⟩ := k6 hv
                refine ⟨y, rfl, .ref pa, rfl, .bl false, rfl, false, rfl, iteF ⟨l, rfl, u, _, r', y, l, pa, p, rfl, hu, ml, f1, f2, by have := gu.size; omega, f3, fun v' H4 s4 tz => ?_⟩⟩
                refine ⟨v', r', _, _, _, _, _, _, rfl, fun b o e => s4 _ _ (sm _ _ e), tz, ?_, ?_⟩
                · have := stepD_gt eg gu f4
                  exact this.mono (by omega) (by omega)
                · rw [eq]
                  exact chainD_cons _ f4
        · refine ifT_of (ne_len (m := 3) (by omega)) (out sm (stepD_other eqs u fun p n b e => ?_))
          cases e
          exact l3 rfl
      | _ => cases ht
    · rintro σ G ⟨y, u, v3, v4, v5, v6, v7, v8, rfl, sm, hu, gu, eq⟩
      refine ⟨y, rfl, q _ _ sm ?_⟩
      rw [eq, dpAll_len ha, List.drop_length]
      exact hu
end
end Ad

namespace Ad
open PySem PySem.Spec PySem.Calls PyProof.Rows L2
abbrev sLWhole : Stmt := topS 12
theorem scLWhole : FnScope ["_law_thing"] ["_law_thing"] (defScope sLWhole) := ⟨rfl, rfl, rfl, by decide +kernel, rfl, by decide +kernel, by decide +kernel⟩
def wholeD : PyData → Bool
  | .int _ => true
  | _ => false
section
variable {P : Program} {w : World} {K : PySem.W.Frag} {mg : Str → Option Value} {base : Heap}
def spWholeD (K : PySem.W.Frag) : Sp := fun vs H Q _ => ∃ (v : V) (d : PyData), vs = [v] ∧ Dp K H v d ∧ Q (.bl (wholeD d)) H
theorem ok_lwhole {f : Addr} {fd : FuncData} {k : Nat} (F : Fun K "_law_is_whole" "_law_is_whole" sLWhole f fd) (m_isinstance : mg "isinstance" = none) (m_int : mg "int" = none) (m_bool : mg "bool" = none) : FnOk P w K mg base CX0 (k + 1) f fd ["_law_thing"] (spWholeD K) := by
  refine F.ok scLWhole (fun vs H Q E h => ?_) (fun cdv A outer s H vs Q E hr h => ?_)
  · obtain ⟨v, d, rfl, _⟩ := h
    rfl
  · obtain ⟨v, d, rfl, hd, q⟩ := h
    refine ⟨_, (pss_one (ps_ret (pe_and (pe_callB call_isi (by rfl) m_isinstance (by decide +kernel) (pa_cons (pv 0) (pa_cons (pe_bltn (v := .ty "int") (by rfl) m_int (by decide +kernel) rfl) pa_nil))) (pe_one (pe_not (pe_callB call_isi (by rfl) m_isinstance (by decide +kernel) (pa_cons (pv 0) (pa_cons (pe_bltn (v := .ty "bool") (by rfl) m_bool (by decide +kernel) rfl) pa_nil)))))))), ?_⟩
    refine ⟨v, rfl, v, .ty "int", tyD d, .type "int", isIn d, rfl, .ty "int", dp_ty hd, kit_in d, isIn d, rfl, ?_⟩
    refine ite2 (fun h1 => ?_) (fun h1 => ?_)
    · refine ⟨v, rfl, v, .ty "bool", tyD d, .type "bool", isBo d, rfl, .ty "bool", dp_ty hd, kit_bo d, isBo d, rfl, ?_⟩
      have e : (!isBo d) = wholeD d := by cases d <;> first | rfl | cases h1
      rw [e]
      exact q
    · have e : wholeD d = false := by cases d <;> first | rfl | exact absurd rfl h1
      rw [e] at q
      exact q
end
end Ad

namespace Ad
open PySem PySem.Spec PySem.Calls PyProof.Rows L2
abbrev sLPathsB : Stmt := topS 21
theorem scLPathsB : FnScope ["_law_term", "_law_found", "_law_k", "_law_part", "_law_path"] ["_law_term"] (defScope sLPathsB) := ⟨rfl, rfl, rfl, by decide +kernel, rfl, by decide +kernel, by decide +kernel⟩
theorem walk_enumT {K : PySem.W.Frag} {a : Addr} {xs : List V} : Walk (Et.IteT K a) xs.length (fun H => SqT K H a xs) (YPair (fun i => some (.int (i : Nat))) (fun i => xs[i]?)) := by
  refine ⟨fun i _ hi q => ⟨xs, xs[i], q, by simp [hi]⟩, fun _ q => ⟨xs, q, Nat.le_refl _⟩, fun i H v H' _ q y => ?_⟩
  obtain ⟨T, x, h1, h2, h3, h4⟩ := y
  exact ⟨T, .int (i : Nat), x, h1, h2, h3, rfl, h4 xs q⟩
section
variable {P : Program} {w : World} {K : PySem.W.Frag} {mg : Str → Option Value} {base : Heap}
def spLPathsG (K : PySem.W.Frag) (n : Nat) : Sp := fun vs H Q _ => ∃ (t : T) (x : V), vs = [x] ∧ Tm K H t x ∧ t.vars = [] ∧ t.dep < n ∧ t.size ≤ 10000 ∧
  ∀ H' p us, Same H H' → H p = none → H' p = some (.lst us) → F2 (PV K H') t.paths us → Q (.ref p) H'
theorem ok_lpathsb {f : Addr} {fd : FuncData} {k : Nat} (F : Fun K "_law_paths" "_law_paths" sLPathsB f fd) (gF : mg "_law_paths" = some (.ref f)) (bF : Binds K fd ["_law_term"] []) (m_enumerate : mg "enumerate" = none) :
    ∀ n, FnOk P w K mg base CX0 (k + n) f fd ["_law_term"] (spLPathsG K n)
  | 0 => vac fun vs H Q E ⟨t, x, _, _, _, z, _⟩ => absurd z (Nat.not_lt_zero _)
  | n + 1 => by
    have IH := ok_lpathsb (k := k) F gF bF m_enumerate n
    refine F.ok scLPathsB (fun vs H Q E h => ?_) (fun cdv A outer s H vs Q E hr h => ?_)
    · obtain ⟨t, x, rfl, _⟩ := h
      rfl
    · obtain ⟨t, x, rfl, ht, gr, shallow, small, q⟩ := h
      refine ⟨_, (pss_cons (ps_set (i := 1) scLPathsB.nd rfl (.inl rfl) (pe_lst (pa_cons (pe_tup pa_nil) pa_nil)))
    (pss_cons (ps_for PassesOwn.never rfl (Et.pi_enumT (by rfl) m_enumerate (pa_cons (pe_slice sl_tup (pv 0) (po_some pe_int) po_none) pa_nil)) (pg_tup rfl (pgs_cons (pg_name (i := 2) scLPathsB.nd rfl (.inr rfl)) (pgs_cons (pg_name (i := 3) scLPathsB.nd rfl (.inl rfl)) pgs_nil)))
      (pss_one (ps_set (i := 1) scLPathsB.nd rfl (.inl rfl) (pe_op op_cat (pv 1) (pe_lc (own := [("_law_path", 4)]) (g := gName 4) (tt := tYes) (te := tOp (rCatT K) (tTup (tCons (tVar 2) tNil)) (tVar 4)) rfl scLPathsB.nd (pi_list (pe_call IH hr (by rfl) gF F.kp bF .nil pass0 (pa_cons (pv 3) pa_nil))) (blkOk_by (N := ["_law_term", "_law_found", "_law_k", "_law_part", "_law_path"]) (sc := defScope sLPathsB) (by decide +kernel)) (fun _ _ _ _ _ => (pg_name (i := 4) scLPathsB.nd rfl (.inl rfl))) (fun _ _ _ _ _ => pts_nil) (fun _ _ _ _ _ => (pe_op (r := rCatT K) op_catT (pe_tup (pa_cons (pv 2) pa_nil)) (pv 4))))))))
    (pss_one (ps_ret (pv 1))))), ?_⟩
      refine ⟨(by decide), fun p0 n0 => ⟨(by show 1 ≤ sizeLine; decide), fun p1 n1 => ?_⟩⟩
      have ne01 : p1 ≠ p0 := fun e => by rw [e, upd_same] at n1; cases n1
      have n1' : H p1 = none := by rwa [upd_ne ne01] at n1
      have sm1 : Same H (upd (upd H p0 (.tup [])) p1 (.lst [.ref p0])) := same_on (same_on (fun b o e => e) n0 _) n1' _
      have m0 : (upd (upd H p0 (.tup [])) p1 (.lst [.ref p0])) p0 = some (.tup []) := by rw [upd_ne ne01.symm]; exact upd_same
      have m1 : (upd (upd H p0 (.tup [])) p1 (.lst [.ref p0])) p1 = some (.lst [.ref p0]) := upd_same
      replace ht := Tm.mono (TK.same sm1) _ _ ht
      generalize upd (upd H p0 (.tup [])) p1 (.lst [.ref p0]) = H1 at sm1 m0 m1 ht
      have first : F2 (PV K H1) [[]] [V.ref p0] := F2.one ⟨p0, rfl, .inl (.inl m0)⟩
      obtain ⟨nm, ts, rfl⟩ : ∃ nm ts, t = .f nm ts := by
        cases t with
        | v i => cases (show [i] = [] from gr)
        | f nm ts => exact ⟨nm, ts, rfl⟩
      obtain ⟨a, zs, rfl, sq, all⟩ := ht
      have lz := all.len
      have szu : T.size (.f nm ts) = 1 + T.sizeL ts := rfl
      have lts := T.len_sizeL ts
      refine ⟨.ref a, rfl, 1, rfl, a, _, rfl, sq, cut_args.1, fun p2 n2 => ?_⟩
      rw [cut_args.2]
      have sm2 : Same H1 (upd H1 p2 (.tup zs)) := same_new (fun b o e => e) n2 _
      have m2 : (upd H1 p2 (.tup zs)) p2 = some (.tup zs) := upd_same
      have sm02 : Same H (upd H1 p2 (.tup zs)) := fun b o e => sm2 _ _ (sm1 _ _ e)
      replace all := Tms.mono (TK.same sm2) _ _ all
      replace m1 := sm2 _ _ m1
      replace first := F2.mono (PV.mono (TK.same sm2)) first
      clear sm2 sm1 m0 ne01 n1
      generalize upd H1 p2 (.tup zs) = H2 at sm02 m2 all m1 first
      refine ⟨p2, zs, rfl, .inl (.inl m2), for_it walk_enumT (fun i σ G => ∃ (d : Addr) (v2 v3 : Option V) (us : List V), σ = [some (.ref a), some (.ref d), v2, v3, none] ∧ Same H2 G ∧ H d = none ∧ G d = some (.lst us) ∧ F2 (PV K G) ([] :: T.pathsL 0 (ts.take i)) us)
        ⟨p1, none, none, _, rfl, fun b o e => e, n1', m1, first⟩ (fun i σ G _ ⟨_, _, _, _, _, s, _⟩ => .inl (.inl (s _ _ m2))) ?_ ?_⟩
      · rintro i c σ G G' hi ⟨d, v2, v3, us, rfl, sm, nd, g, ps⟩ ⟨pt, w1, y, rfl, npt, rfl, ew, hy⟩
        cases ew
        have s9 : Same G (upd G pt (.tup [.int (i : Int), y])) := same_new (fun b o e => e) npt _
        have mpt : (upd G pt (.tup [.int (i : Int), y])) pt = some (.tup [.int (i : Int), y]) := upd_same
        replace sm : Same H2 (upd G pt (.tup [.int (i : Int), y])) := fun b o e => s9 _ _ (sm _ _ e)
        replace g := s9 _ _ g
        replace ps := F2.mono (PV.mono (TK.same s9)) ps
        clear s9
        generalize upd G pt (.tup [.int (i : Int), y]) = G at sm g ps mpt
        obtain ⟨u, hu, ty⟩ := all.get hy
        have hm := List.mem_of_getElem? hu
        have d1 := T.dep_mem hm
        have d2 : T.dep (.f nm ts) = 1 + T.depL ts := rfl
        have d3 := T.size_mem hm
        have tk := TK.same sm
        have gu := varsL_mem (ts := ts) gr hm
        refine ⟨pt, _, rfl, .inl (.inl mpt), rfl, _, _, rfl, _, _, rfl, rfl, ?_⟩
        refine ⟨.ref d, rfl, y, rfl, u, y, rfl, Tm.mono tk _ _ ty, gu, by omega, by omega, fun G2 p2' us2 sm2 n2 g2 ps2 => ⟨p2', rfl, ⟨us2, .inl (.inl g2)⟩, fun D nD => ?_⟩⟩
        have g' := sm2 _ _ g
        have ps' := F2.mono (PV.mono (TK.same sm2)) ps
        have sm12 : Same H2 G2 := fun b o e => sm2 _ _ (sm _ _ e)
        have l2 := ps2.len
        rw [T.paths_len] at l2
        refine lc_list (K := K) (a := p2') (xs := us2) (fun j G3 => ∃ acc, Same G2 G3 ∧ G3 D = some (.lst acc) ∧ F2 (PV K G3) ((u.paths.take j).map ((i : Int) :: ·)) acc) ⟨[], same_new (fun b o e => e) nD _, upd_same, rfl⟩ (fun j G3 _ ⟨acc, sm3, _⟩ => .inl (.inl (sm3 _ _ g2))) ?_ ?_
        · rintro j c G3 hc ⟨acc, sm3, gD, pacc⟩
          obtain ⟨pp, hpp, ⟨ca, rfl, sqc⟩⟩ := (F2.mono (PV.mono (TK.same sm3)) ps2).get hc
          have lacc := pacc.len
          have hj := (List.getElem?_eq_some_iff.mp hpp).1
          rw [T.paths_len] at hj
          rw [List.length_map, List.length_take, T.paths_len] at lacc
          have pdep := T.paths_dep u pp (List.mem_of_getElem? hpp)
          have udep := T.dep_size u
          have nx : ∀ (r : Addr) (G5 : Hp), Same G3 G5 → SqT K G5 r (((i : Int) :: pp).map V.int) → ∃ acc', G5 D = some (.lst acc') ∧ acc'.length < sizeLine ∧ ∃ acc2, Same G2 (upd G5 D (.lst (acc' ++ [V.ref r]))) ∧ (upd G5 D (.lst (acc' ++ [V.ref r]))) D = some (.lst acc2) ∧ F2 (PV K (upd G5 D (.lst (acc' ++ [V.ref r])))) ((u.paths.take (j + 1)).map ((i : Int) :: ·)) acc2 := by
            intro r G5 sm5 sr
            have k6 : TK G5 (upd G5 D (.lst (acc ++ [V.ref r]))) := TK.lst (sm5 _ _ gD) _
            have sm35 : Same G2 G5 := fun b o e => sm5 _ _ (sm3 _ _ e)
            refine ⟨acc, sm5 _ _ gD, by rw [sizeLine_eq]; omega, _, same_on sm35 nD _, upd_same, ?_⟩
            rw [List.take_add_one, hpp, List.map_append]
            exact F2.app (F2.mono (PV.mono ((TK.same sm5).trans k6)) pacc) (F2.one ⟨r, rfl, k6.sq sr⟩)
          refine ⟨rfl, .int (i : Int), rfl, (by show 1 ≤ sizeLine; decide), fun p4 n4 => ⟨.ref ca, rfl, p4, ca, _, _, rfl, rfl, .inl (.inl upd_same), (TK.new n4 _).sq sqc, by simp, by rw [List.length_map, List.length_singleton, sizeLine_eq]; omega, fun e => ?_, fun e p5 n5 => ?_⟩⟩
          · refine nx p4 _ (same_new (fun b o e => e) n4 _) ?_
            rw [List.map_eq_nil_iff.mp e]
            exact .inl (.inl upd_same)
          · refine nx p5 _ (same_new (same_new (fun b o e => e) n4 _) n5 _) (.inl (.inl upd_same))
        · rintro G3 ⟨acc, sm3, gD, pacc⟩
          rw [l2, ← T.paths_len, List.take_length] at pacc
          have lacc := pacc.len
          rw [List.length_map, T.paths_len] at lacc
          have lus := ps.len
          rw [List.length_cons, T.pathsL_len] at lus
          have tkz := T.sizeL_take ts i
          refine ⟨d, D, us, acc, rfl, rfl, sm3 _ _ g', gD, by rw [sizeLine_eq]; omega, fun p5 n5 => ?_⟩
          have sm4 : Same G3 (upd G3 p5 (.lst (us ++ acc))) := same_new (fun b o e => e) n5 _
          refine ⟨p5, _, _, _, rfl, fun b o e => sm4 _ _ (sm3 _ _ (sm12 _ _ e)), ?_, upd_same, ?_⟩
          · cases z : H p5 with
            | none => rfl
            | some o =>
              have e2 := sm3 _ _ (sm12 _ _ (sm02 _ _ z))
              rw [n5] at e2
              cases e2
          · rw [T.pathsL_next hu]
            exact F2.app (F2.mono (PV.mono ((TK.same sm3).trans (TK.same sm4))) ps') (F2.mono (PV.mono (TK.same sm4)) pacc)
      · rintro σ G ⟨d, v2, v3, us, rfl, sm, nd, g, ps⟩
        rw [lz, List.take_length] at ps
        exact ⟨_, rfl, q G d us (fun b o e => sm _ _ (sm02 _ _ e)) nd g ps⟩
end
end Ad

namespace Ad
open PySem PySem.Spec PySem.Calls PyProof.Rows L2
abbrev sLPutB : Stmt := topS 23
theorem scLPutB : FnScope ["_law_term", "_law_path", "_law_new", "_law_k"] ["_law_term", "_law_path", "_law_new"] (defScope sLPutB) := ⟨rfl, rfl, rfl, by decide +kernel, rfl, by decide +kernel, by decide +kernel⟩
section
variable {P : Program} {w : World} {K : PySem.W.Frag} {mg : Str → Option Value} {base : Heap}
theorem ok_lputb {f : Addr} {fd : FuncData} {k : Nat} (F : Fun K "_law_put_at" "_law_put_at" sLPutB f fd) (gF : mg "_law_put_at" = some (.ref f)) (bF : Binds K fd ["_law_term", "_law_path", "_law_new"] []) : ∀ n, FnOk P w K mg base CX0 (k + n) f fd ["_law_term", "_law_path", "_law_new"] (spPut K n)
  | 0 => vac fun vs H Q E ⟨t, new, r, x, y, a, p, _, _, _, _, z, _⟩ => absurd z (Nat.not_lt_zero _)
  | n + 1 => by
    have IH := ok_lputb (k := k) F gF bF n
    refine F.ok scLPutB (fun vs H Q E h => ?_) (fun cdv A outer s H vs Q E hr h => ?_)
    · obtain ⟨t, new, r, x, y, a, p, rfl, _⟩ := h
      rfl
    · obtain ⟨t, new, r, x, y, a, p, rfl, ht, hn, hp, few, small, hput, q⟩ := h
      refine ⟨_, pss_cons (ps_if (pt_cmpR (op_eqD (hu64 hr)) (pv 1) (pe_tup pa_nil) (nomark _)) (pss_one (ps_ret (pv 2))) pss_nil)
        (pss_cons (ps_set (i := 3) scLPutB.nd rfl (.inl rfl) (pe_op op_add (pe_ix ix_tup (pv 1) pe_int (fun _ _ => rfl)) pe_int))
        (pss_one (ps_ret (pe_op op_catT (pe_op op_catT (pe_slice sl_tup (pv 0) po_none (po_some (pv 3))) (pe_tup (pa_cons (pe_call IH hr (by rfl) gF F.kp bF .nil pass0 (pa_cons (pe_ix ix_tup (pv 0) (pv 3) (fun _ _ => rfl)) (pa_cons (pe_slice sl_tup (pv 1) (po_some pe_int) po_none) (pa_cons (pv 2) pa_nil)))) pa_nil)))
          (pe_slice sl_tup (pv 0) (po_some (pe_op op_add (pv 3) pe_int)) po_none))))), ?_⟩
      refine ⟨.ref a, rfl, (by decide), fun p0 n0 => ?_⟩
      have sm0 : Same H (upd H p0 (.tup [])) := same_new (fun b o e => e) n0 _
      have k0 := TK.same sm0
      have m0 : (upd H p0 (.tup [])) p0 = some (.tup []) := upd_same
      replace ht := Tm.mono k0 _ _ ht
      replace hn := Tm.mono k0 _ _ hn
      replace hp := k0.sq hp
      generalize upd H p0 (.tup []) = H1 at sm0 m0 ht hn hp
      refine ⟨iD p, iD [], iD_dp hp, iD_dp (ns := []) (.inl (.inl m0)), iD_shaped _, iD_shaped _, _, rfl, ?_⟩
      rw [iD_nil]
      cases p with
      | nil =>
        refine iteT ?_
        cases (show some new = some r from hput)
        exact ⟨y, rfl, q y _ sm0 hn⟩
      | cons c p =>
        refine iteF ?_
        obtain ⟨j, nm, ts, u, z, rfl, rfl, hu, hput', rfl⟩ := T.put_cons hput
        obtain ⟨b, ys, rfl, sq, all⟩ := ht
        obtain ⟨y', hy, ty⟩ := all.get' hu
        have hj := (List.getElem?_eq_some_iff.mp hy).1
        have e1 : ((j : Int) + 1) = ((j + 1 : Nat) : Int) := by omega
        refine ⟨.ref a, rfl, a, _, 0, .int (j : Int), rfl, rfl, hp, atI_nat (j := 0) rfl, _, _, rfl, rfl, ?_⟩
        obtain ⟨lo1, lo2⟩ := cut_low (x := V.str nm) hj
        obtain ⟨hi1, hi2⟩ := cut_high (x := V.str nm) hj
        obtain ⟨tl1, tl2⟩ := cut_tail (k := (j : Int)) (p := p)
        refine ⟨.ref b, rfl, _, rfl, _, rfl, b, _, rfl, sq, lo1, fun p1 n1 => ?_⟩
        rw [lo2]
        have k1 : TK H1 (upd H1 p1 (.tup (V.str nm :: ys.take j))) := TK.new n1 _
        have sm1 : Same H (upd H1 p1 (.tup (V.str nm :: ys.take j))) := same_new sm0 n1 _
        have m1 : (upd H1 p1 (.tup (V.str nm :: ys.take j))) p1 = some (.tup (V.str nm :: ys.take j)) := upd_same
        replace hn := Tm.mono k1 _ _ hn
        replace hp := k1.sq hp
        replace sq := k1.sq sq
        replace all := Tms.mono k1 _ _ all
        replace ty := Tm.mono k1 _ _ ty
        generalize upd H1 p1 (.tup (V.str nm :: ys.take j)) = H2 at sm1 m1 hn hp sq all ty
        refine ⟨.ref b, rfl, .int ((j : Int) + 1), rfl, b, _, _, y', rfl, rfl, sq, (by rw [e1]; exact atI_nat (j := j + 1) hy), .ref a, rfl, 1, rfl, a, _, rfl, hp, tl1, fun p2 n2 => ?_⟩
        rw [tl2]
        have k2 : TK H2 (upd H2 p2 (.tup (p.map V.int))) := TK.new n2 _
        have sm2 : Same H (upd H2 p2 (.tup (p.map V.int))) := same_new sm1 n2 _
        have m1' : (upd H2 p2 (.tup (p.map V.int))) p1 = some (.tup (V.str nm :: ys.take j)) := (k2 _ _).1 m1
        have m2 : (upd H2 p2 (.tup (p.map V.int))) p2 = some (.tup (p.map V.int)) := upd_same
        replace hn := Tm.mono k2 _ _ hn
        replace sq := k2.sq sq
        replace all := Tms.mono k2 _ _ all
        replace ty := Tm.mono k2 _ _ ty
        generalize upd H2 p2 (.tup (p.map V.int)) = H3 at sm2 m1' m2 hn sq all ty
        have su : u.size ≤ 10000 := by
          have h1 := T.size_mem (List.mem_of_getElem? hu)
          have h2 : T.size (.f nm ts) = 1 + T.sizeL ts := rfl
          omega
        have lys := all.len
        have lts := T.len_sizeL ts
        have sts : T.size (.f nm ts) = 1 + T.sizeL ts := rfl
        refine ⟨y, rfl, u, new, z, y', y, p2, p, rfl, ty, hn, .inl (.inl m2), by rw [List.length_cons] at few; omega, su, hput', fun v H4 sm4 tz => ⟨(by show 1 ≤ sizeLine; decide), fun p5 n5 => ?_⟩⟩
        have k4 := TK.same sm4
        have sm4' : Same H H4 := fun b o e => sm4 b o (sm2 b o e)
        have k5 : TK H4 (upd H4 p5 (.tup [v])) := TK.new n5 _
        have sm5 : Same H (upd H4 p5 (.tup [v])) := same_new sm4' n5 _
        have m5 : (upd H4 p5 (.tup [v])) p5 = some (.tup [v]) := upd_same
        have m1'' := (k5 _ _).1 ((k4 _ _).1 m1')
        replace sq := k5.sq (k4.sq sq)
        replace all := Tms.mono (k4.trans k5) _ _ all
        replace tz := Tm.mono k5 _ _ tz
        generalize upd H4 p5 (.tup [v]) = H5 at sm5 m5 m1'' sq all tz
        refine ⟨p1, p5, _, _, rfl, rfl, .inl (.inl m1''), .inl (.inl m5), (by simp), (by rw [List.length_cons, List.length_take, List.length_singleton, sizeLine_eq]; omega), (fun z => nomatch z), fun _ p6 n6 => ?_⟩
        have k6 : TK H5 (upd H5 p6 (.tup ((V.str nm :: ys.take j) ++ [v]))) := TK.new n6 _
        have sm6 : Same H (upd H5 p6 (.tup ((V.str nm :: ys.take j) ++ [v]))) := same_new sm5 n6 _
        have m6 : (upd H5 p6 (.tup ((V.str nm :: ys.take j) ++ [v]))) p6 = some (.tup ((V.str nm :: ys.take j) ++ [v])) := upd_same
        replace sq := k6.sq sq
        replace all := Tms.mono k6 _ _ all
        replace tz := Tm.mono k6 _ _ tz
        generalize upd H5 p6 (.tup ((V.str nm :: ys.take j) ++ [v])) = H6 at sm6 m6 sq all tz
        refine ⟨.ref b, rfl, .int ((j : Int) + 1), rfl, _, _, rfl, rfl, _, rfl, b, _, rfl, sq, hi1, fun p7 n7 => ?_⟩
        rw [hi2]
        have k7 : TK H6 (upd H6 p7 (.tup (ys.drop (j + 1)))) := TK.new n7 _
        have sm7 : Same H (upd H6 p7 (.tup (ys.drop (j + 1)))) := same_new sm6 n7 _
        have m7 : (upd H6 p7 (.tup (ys.drop (j + 1)))) p7 = some (.tup (ys.drop (j + 1))) := upd_same
        have m6' := (k7 _ _).1 m6
        replace all := Tms.mono k7 _ _ all
        replace tz := Tm.mono k7 _ _ tz
        generalize upd H6 p7 (.tup (ys.drop (j + 1))) = H7 at sm7 m7 m6' all tz
        have done : ∀ (g : Addr) (H8 : Hp), Same H H8 → TK H7 H8 → H8 g = some (.tup (((V.str nm :: ys.take j) ++ [v]) ++ ys.drop (j + 1))) → Q (.ref g) H8 := by
          intro g H8 sm8 k8 m8
          refine q _ _ sm8 ⟨g, ys.take j ++ v :: ys.drop (j + 1), rfl, .inl (.inl ?_), ?_⟩
          · rw [m8, List.append_assoc]
            rfl
          · rcases Tms.set j (Tms.mono k8 _ _ all) (Tm.mono k8 _ _ tz) with z | z
            · exact z
            · have := (List.getElem?_eq_some_iff.mp hu).1
              omega
        refine ⟨p6, p7, _, _, rfl, rfl, .inl (.inl m6'), .inl (.inl m7), (by simp), ?_, fun e => ?_, fun e p8 n8 => ?_⟩
        · rw [List.length_append, List.length_cons, List.length_take, List.length_singleton, List.length_drop, sizeLine_eq]
          omega
        · refine done p6 H7 sm7 (TK.refl _) ?_
          rw [e, List.append_nil]
          exact m6'
        · exact done p8 _ (same_new sm7 n8 _) (TK.new n8 _) upd_same
end
end Ad

namespace Ad
open PySem PySem.Spec PySem.Calls PyProof.Rows L2
abbrev sLAtB : Stmt := topS 22
theorem scLAtB : FnScope ["_law_term", "_law_path", "_law_k"] ["_law_term", "_law_path"] (defScope sLAtB) := ⟨rfl, rfl, rfl, by decide +kernel, rfl, by decide +kernel, by decide +kernel⟩
section
variable {P : Program} {w : World} {K : PySem.W.Frag} {mg : Str → Option Value} {base : Heap}
theorem ok_latb {f : Addr} {fd : FuncData} {k : Nat} (F : Fun K "_law_at" "_law_at" sLAtB f fd) : FnOk P w K mg base CX0 (k + 1) f fd ["_law_term", "_law_path"] (spAt K) := by
  refine F.ok scLAtB (fun vs H Q E h => ?_) (fun cdv A outer s H vs Q E hr h => ?_)
  · obtain ⟨t, u, x, a, p, rfl, _⟩ := h
    rfl
  · obtain ⟨t, u, x, a, p, rfl, ht, hp, hs, q⟩ := h
    refine ⟨_, pss_cons (ps_for PassesOwn.never rfl (pi_tup (pv 1)) (pg_name (i := 2) scLAtB.nd rfl (.inl rfl)) (pss_one (ps_set (i := 0) scLAtB.nd rfl (.inl rfl) (pe_ix ix_tup (pv 0) (pe_op op_add (pv 2) pe_int) (fun _ _ => rfl))))) (pss_one (ps_ret (pv 0))), ?_⟩
    refine ⟨.ref a, rfl, a, rfl, ⟨_, hp⟩, for_tup (K := K) (a := a) (xs := p.map V.int) (fun i σ G => ∃ (y : V) (z : T) (v2 : Option V), σ = [some y, some (.ref a), v2] ∧ G = H ∧ Tm K H z y ∧ T.sub (p.drop i) z = some u) ⟨x, t, none, rfl, rfl, ht, hs⟩ (fun i σ G _ ⟨_, _, _, _, e, _⟩ => by rw [e]; exact hp) ?_ ?_⟩
    · rintro i c σ G hi ⟨y, z, v2, rfl, rfl, hz, hs'⟩
      have hlt : i < p.length := by
        have := (List.getElem?_eq_some_iff.mp hi).1
        rwa [List.length_map] at this
      rw [List.getElem?_map, List.getElem?_eq_getElem hlt] at hi
      cases hi
      rw [List.drop_eq_getElem_cons hlt] at hs'
      obtain ⟨j, nm, ts, z', e1, rfl, e3, e4⟩ := T.sub_cons hs'
      obtain ⟨b, ys, rfl, sq, all⟩ := hz
      obtain ⟨y', h1, h2⟩ := all.get' e3
      rw [e1]
      refine ⟨.ref b, rfl, .int (j : Int), rfl, _, _, rfl, rfl, b, _, _, y', rfl, rfl, sq, ?_, y', z', _, rfl, rfl, h2, e4⟩
      have e : ((j : Int) + 1) = ((j + 1 : Nat) : Int) := by omega
      rw [e]
      exact atI_nat (j := j + 1) h1
    · rintro σ G ⟨y, z, v2, rfl, rfl, hz, hs'⟩
      rw [List.length_map, List.drop_length] at hs'
      cases (show some z = some u from hs')
      exact ⟨y, rfl, q y hz⟩
end
end Ad

namespace Ad
open PySem PySem.Spec PySem.Calls PyProof.Rows L2
abbrev sLChainEnd : Stmt := topS 24
theorem scLChainEnd : FnScope ["_law_equations_here", "_law_term", "_law_chain", "_law_triple", "_law_path", "_law_index", "_law_way", "_law_first", "_law_second", "_law_k"] ["_law_equations_here", "_law_term", "_law_chain"] (defScope sLChainEnd) := ⟨rfl, rfl, rfl, by decide +kernel, rfl, by decide +kernel, by decide +kernel⟩
theorem hu65 {k : Nat} {A : Around} (hr : Room k A) : A.units + 65 < cLine := by
  have := hr.un
  omega
def notW (d : PyData) : Bool := !wholeD d
theorem whole_all : ∀ {ps : List PyData}, ps.filter notW = [] → ∃ p : List Int, ps = p.map .int
  | [], _ => ⟨[], rfl⟩
  | d :: ps, h => by
    rw [List.filter_cons] at h
    cases c : notW d with
    | true =>
      rw [c, if_pos rfl] at h
      cases h
    | false =>
      rw [c, if_neg Bool.false_ne_true] at h
      obtain ⟨p, rfl⟩ := whole_all h
      cases d with
      | int i => exact ⟨i :: p, rfl⟩
      | _ => cases c
theorem whole_not : ∀ {ps : List PyData}, ps.filter notW ≠ [] → wAll ps = none
  | [], h => absurd rfl h
  | d :: ps, h => by
    cases d with
    | int i =>
      have e : (PyData.int i :: ps).filter notW = ps.filter notW := rfl
      rw [e] at h
      show (wAll ps).map (i :: ·) = none
      rw [whole_not h]
      rfl
    | _ => rfl
section
variable {P : Program} {w : World} {K : PySem.W.Frag} {mg : Str → Option Value} {base : Heap}
def spLChain (K : PySem.W.Frag) : Sp := fun vs H Q _ => ∃ (ea ca : Addr) (x : V) (eqs : List (T × T)) (t : T) (es xs : List V) (ds : List PyData) (m z : Nat), vs = [.ref ea, x, .ref ca] ∧ SqL K H ca xs ∧ DpAll K H xs ds ∧ SqL K H ea es ∧ F2 (EqV K H) eqs es ∧ eqs.length ≤ 1000 ∧ Egd eqs ∧ Tm K H t x ∧ Gt m z t ∧ m + 4 * ds.length ≤ 60 ∧ z + 40 * ds.length ≤ 9000 ∧
  (∀ d ∈ ds, ∀ ps, d = .tuple ps → True) ∧ (∀ p n b, .tuple [.tuple p, n, b] ∈ ds → p.length ≤ 1000) ∧ ∀ H' u, Same H H' → OptTm K H' (chainD eqs t ds) u → Q u H'
theorem ok_lchainend {f fW fP fA fQ : Addr} {fd fdW fdP fdA fdQ : FuncData} {k : Nat} (F : Fun K "_law_chain_end" "_law_chain_end" sLChainEnd f fd) (hW : Has P w K mg base k "_law_is_whole" ["_law_thing"] (spWholeD K) fW fdW) (hPaths : Has P w K mg base k "_law_paths" ["_law_term"] (spLPathsG K 70) fP fdP)
    (hAt : Has P w K mg base k "_law_at" ["_law_term", "_law_path"] (spAt K) fA fdA) (hPut : Has P w K mg base k "_law_put_at" ["_law_term", "_law_path", "_law_new"] (spPut K 70) fQ fdQ) (m_isinstance : mg "isinstance" = none) (m_tuple : mg "tuple" = none) (m_bool : mg "bool" = none) (m_len : mg "len" = none) :
    FnOk P w K mg base CX0 (k + 1) f fd ["_law_equations_here", "_law_term", "_law_chain"] (spLChain K) := by
  refine F.ok scLChainEnd (fun vs H Q E h => ?_) (fun cdv A outer s H vs Q E hr h => ?_)
  · obtain ⟨ea, ca, x, eqs, t, es, xs, ds, m, z, rfl, _⟩ := h
    rfl
  · obtain ⟨ea, ca, x, eqs, t, es, xs, ds, m, z, rfl, hs, ha, hE, fE, many, eg, ht, gt, small, small2, _, lens, q⟩ := h
    refine ⟨_, (pss_cons (ps_for PassesOwn.never rfl (pi_list (pv 2)) (pg_name (i := 3) scLChainEnd.nd rfl (.inl rfl))
      (pss_cons (ps_if (PW.pt (pw_or (pt_not (pt_val (pe_callB call_isi (by rfl) m_isinstance (by decide +kernel) (pa_cons (pv 3) (pa_cons (pe_bltn (v := .ty "tuple") (by rfl) m_tuple (by decide +kernel) rfl) pa_nil))))) (pw_or1 (pt_cmpR op_ne (pe_callB call_len_seq (by rfl) m_len PySem.boot_len (pa_cons (pv 3) pa_nil)) pe_int (nomark _)))))
        (pss_one (ps_ret pe_non)) pss_nil)
      (pss_cons (ps_asg (pv 3) (pg_tup rfl (pgs_cons (pg_name (i := 4) scLChainEnd.nd rfl (.inl rfl)) (pgs_cons (pg_name (i := 5) scLChainEnd.nd rfl (.inl rfl)) (pgs_cons (pg_name (i := 6) scLChainEnd.nd rfl (.inl rfl)) pgs_nil)))))
      (pss_cons (ps_if (PW.pt (pw_or (pt_not (pt_val (pe_callB call_isi (by rfl) m_isinstance (by decide +kernel) (pa_cons (pv 4) (pa_cons (pe_bltn (v := .ty "tuple") (by rfl) m_tuple (by decide +kernel) rfl) pa_nil))))) (pw_or (pt_not (pt_val (pe_call hW.G hr (by rfl) hW.g hW.kp hW.b .nil pass0 (pa_cons (pv 5) pa_nil)))) (pw_or1 (pt_not (pt_chain op_le op_lt pe_int (pv 5) (pe_callB call_len_seq (by rfl) m_len PySem.boot_len (pa_cons (pv 0) pa_nil))))))))
        (pss_one (ps_ret pe_non)) pss_nil)
      (pss_cons (ps_if (PW.pt (pw_or (pt_not (pt_val (pe_callB call_isi (by rfl) m_isinstance (by decide +kernel) (pa_cons (pv 6) (pa_cons (pe_bltn (v := .ty "bool") (by rfl) m_bool (by decide +kernel) rfl) pa_nil))))) (pw_or (pt_cmpR (op_neD (hu64 hr)) (pe_lc (own := [("_law_k", 9)]) (g := gName 9) (tt := tNot (tB (tCall (spWholeD K) [] E0 (tCons (tVar 9) tNil)))) (te := tC (.int 1)) rfl scLChainEnd.nd (pi_tup (pv 4)) (blkOk_by (N := ["_law_equations_here", "_law_term", "_law_chain", "_law_triple", "_law_path", "_law_index", "_law_way", "_law_first", "_law_second", "_law_k"]) (sc := defScope sLChainEnd) (by decide +kernel)) (fun _ _ _ _ _ => (pg_name (i := 9) scLChainEnd.nd rfl (.inl rfl))) (fun _ _ _ _ _ => pts_one (pt_not (pt_val (pe_call hW.G hr (by rfl) hW.g hW.kp hW.b .nil pass0 (pa_cons (pv 9) pa_nil))))) (fun _ _ _ _ _ => pe_int)) (pe_lst pa_nil) (nomark _)) (pw_or1 (pt_cmpR (op_notInD (hu65 hr)) (pv 4) (pe_call hPaths.G hr (by rfl) hPaths.g hPaths.kp hPaths.b .nil pass0 (pa_cons (pv 1) pa_nil)) (by with_unfolding_all rfl))))))
        (pss_one (ps_ret pe_non)) pss_nil)
      (pss_cons (ps_par (i := 7) (j := 8) (by rfl) scLChainEnd.nd rfl rfl (by decide) rfl rfl (pa_cons (pe_ix ix_tup (pe_ix ix_list (pv 0) (pv 5) (fun _ _ => rfl)) (pe_ifExp (pt_true (pv 6)) pe_int pe_int) (fun _ _ => rfl)) (pa_cons (pe_ix ix_tup (pe_ix ix_list (pv 0) (pv 5) (fun _ _ => rfl)) (pe_ifExp (pt_true (pv 6)) pe_int pe_int) (fun _ _ => rfl)) pa_nil)) (by rfl))
      (pss_cons (ps_if (pt_cmpR (op_neD (hu64 hr)) (pe_call hAt.G hr (by rfl) hAt.g hAt.kp hAt.b .nil pass0 (pa_cons (pv 1) (pa_cons (pv 4) pa_nil))) (pv 7) (nomark _))
        (pss_one (ps_ret pe_non)) pss_nil)
      (pss_one (ps_set (i := 1) scLChainEnd.nd rfl (.inl rfl) (pe_call hPut.G hr (by rfl) hPut.g hPut.kp hPut.b .nil pass0 (pa_cons (pv 1) (pa_cons (pv 4) (pa_cons (pv 8) pa_nil)))))))))))))
    (pss_one (ps_ret (pv 1)))), ?_⟩
    refine ⟨.ref ca, rfl, ca, rfl, ⟨_, hs⟩, for_list (K := K) (a := ca) (xs := xs) (fun i σ G => ∃ (y : V) (u : T) (v3 v4 v5 v6 v7 v8 : Option V), σ = [some (.ref ea), some y, some (.ref ca), v3, v4, v5, v6, v7, v8, none] ∧ Same H G ∧ Tm K G u y ∧ Gt (m + 4 * i) (z + 40 * i) u ∧ chainD eqs t ds = chainD eqs u (ds.drop i))
      ⟨x, t, none, none, none, none, none, none, rfl, fun b o e => e, ht, gt, rfl⟩ (fun i σ G _ ⟨_, _, _, _, _, _, _, _, _, sm, _⟩ => sm.seq hs) ?_ ?_⟩
    · rintro i c σ G hi ⟨y, u, v3, v4, v5, v6, v7, v8, rfl, sm, hu, gu, eq⟩
      obtain ⟨d, hdi, hd0⟩ := dpAll_get ha hi
      have hd := dp_same sm hd0
      have dmem := List.mem_of_getElem? hdi
      have hlt := (List.getElem?_eq_some_iff.mp hdi).1
      rw [drop_at hdi] at eq
      have out : ∀ {G' : Hp}, Same H G' → stepD eqs u d = none → Q .non G' := fun s e => q _ _ s (by rw [eq, chainD_no _ e]; exact rfl)
      have fE' := fE.mono (EqV.mono (TK.same sm))
      have hE' := sm.seq hE
      refine ⟨c, rfl, c, .ty "tuple", tyD d, .type "tuple", isTu d, rfl, .ty "tuple", dp_ty hd, kit_tu d, isTu d, rfl, ?_⟩
      cases ht : isTu d with
      | false => exact iteT (iteT (out sm (stepD_other eqs u fun p n b e => by rw [e] at ht; cases ht)))
      | true =>
      refine iteF ?_
      cases hd with
      | @tup b ws ps hb hw =>
        have lw := dpAll_len hw
        refine ⟨.ref b, rfl, b, _, rfl, .inr hb, rfl, _, rfl, ?_⟩
        by_cases l3 : ps.length = 3
        · match ps, l3 with
          | [d1, d2, d3], _ =>
          cases hw with
          | @cons w1 _ _ _ hw1 hw' =>
          cases hw' with
          | @cons w2 _ _ _ hw2 hw' =>
          cases hw' with
          | @cons w3 _ _ _ hw3 hw' =>
          cases hw'
          refine iteF ?_
          refine ⟨.ref b, rfl, b, _, rfl, hb, rfl, _, _, rfl, _, _, rfl, _, _, rfl, rfl, ?_⟩
          have les := fE'.len
          have other : ∀ {G' : Hp}, Same H G' → (∀ p n b, (.tuple [d1, d2, d3] : PyData) = .tuple [p, .int n, .bool b] → stepD eqs u (.tuple [p, .int n, .bool b]) = none) → Q .non G' := fun s no => out s (by
            rcases step_sh u eqs (.tuple [d1, d2, d3]) with ⟨p, n, bb, e⟩ | e
            · rw [e]
              exact no p n bb e
            · exact e)
          have no1 : ∀ {p : PyData} {n : Int} {bb : Bool}, partD u p = none → stepD eqs u (.tuple [p, .int n, .bool bb]) = none := fun {p n bb} h => by
            by_cases h0 : 0 ≤ n ∧ n < eqs.length
            · have hj : n.toNat < eqs.length := by omega
              rw [stepD_tri eqs u p h0.1 (List.getElem?_eq_getElem hj)]
              exact partD_none_step h
            · exact stepD_far eqs u p h0
          refine ⟨w1, rfl, w1, .ty "tuple", tyD d1, .type "tuple", isTu d1, rfl, .ty "tuple", dp_ty hw1, kit_tu d1, isTu d1, rfl, ?_⟩
          cases ht1 : isTu d1 with
          | false =>
            refine iteT (iteT (other sm fun p n bb e => ?_))
            cases e
            refine no1 ?_
            cases d1 <;> first | rfl | cases ht1
          | true =>
          refine iteF ?_
          refine ⟨w2, rfl, w2, d2, rfl, hw2, wholeD d2, rfl, ?_⟩
          cases hb2 : wholeD d2 with
          | false =>
            refine iteT (iteT (other sm fun p n bb e => ?_))
            cases e
            cases hb2
          | true =>
          refine iteF ?_
          obtain ⟨n, rfl⟩ : ∃ n, d2 = .int n := by
            cases d2 <;> first | exact ⟨_, rfl⟩ | cases hb2
          cases hw2
          refine ⟨.int n, rfl, 0, n, rfl, rfl, decide (0 ≤ n), rfl, ?_⟩
          have far : ¬ (0 ≤ n ∧ n < eqs.length) → Q .non G := fun z => other sm fun p n' bb e => by
            cases e
            exact stepD_far eqs u _ z
          refine ite2 (fun h0 => ?_) (fun h0 => ?nolow)
          case nolow => exact ⟨false, rfl, iteT (far fun z => h0 (decide_eq_true z.1))⟩
          have h0' : 0 ≤ n := of_decide_eq_true h0
          refine ⟨.ref ea, rfl, ea, _, rfl, .inl hE', n, _, rfl, rfl, decide (n < (es.length : Int)), rfl, ?_⟩
          cases h1 : decide (n < (es.length : Int)) with
          | false => exact iteT (far fun z => by
              have := of_decide_eq_false h1
              omega)
          | true =>
          have h1' : n < (es.length : Int) := of_decide_eq_true h1
          refine iteF ?_
          refine ⟨w3, rfl, w3, .ty "bool", tyD d3, .type "bool", isBo d3, rfl, .ty "bool", dp_ty hw3, kit_bo d3, isBo d3, rfl, ?_⟩
          cases hb3 : isBo d3 with
          | false =>
            refine iteT (iteT (other sm fun p n bb e => ?_))
            cases e
            cases hb3
          | true =>
          refine iteF ?_
          obtain ⟨bb, rfl⟩ : ∃ bb, d3 = .bool bb := by
            cases d3 <;> first | exact ⟨_, rfl⟩ | cases hb3
          cases hw3
          obtain ⟨ps1, rfl⟩ : ∃ ps1, d1 = .tuple ps1 := by
            cases d1 <;> first | exact ⟨_, rfl⟩ | cases ht1
          cases hw1 with
          | @tup pa pvs _ hpa hpv =>
          have lps := lens ps1 (.int n) (.bool bb) dmem
          have lpv := dpAll_len hpv
          refine ⟨.ref pa, rfl, pa, rfl, ⟨_, hpa⟩, fun D nD => ?_⟩
          refine lc_tup (K := K) (a := pa) (xs := pvs) (fun i G2 => Same G G2 ∧ G2 D = some (.lst ((List.replicate ((ps1.take i).filter notW).length (1 : Int)).map V.int))) ⟨same_new (fun b o e => e) nD _, upd_same⟩ (fun i G2 _ ⟨s2, _⟩ => (TK.same s2).sq hpa) ?_ ?_
          · rintro i2 c2 G2 hi2 ⟨s2, gD⟩
            obtain ⟨d', hd', hv'⟩ := dpAll_get hpv hi2
            have i2lt := (List.getElem?_eq_some_iff.mp hd').1
            have few1 := List.length_filter_le notW (ps1.take i2)
            rw [List.length_take] at few1
            refine ⟨rfl, c2, rfl, c2, d', rfl, dp_same s2 hv', wholeD d', rfl, ?_⟩
            have tk1 : (ps1.take (i2 + 1)).filter notW = (ps1.take i2).filter notW ++ [d'].filter notW := by
              rw [List.take_add_one, hd', List.filter_append]
              rfl
            cases hwd : wholeD d' with
            | true =>
              refine iteF ⟨s2, ?_⟩
              have e : [d'].filter notW = [] := by
                have z : notW d' = false := by unfold notW; rw [hwd]; rfl
                rw [List.filter_cons, z]
                rfl
              rw [tk1, e, List.append_nil]
              exact gD
            | false =>
              refine iteT ⟨_, gD, by rw [List.length_map, List.length_replicate, sizeLine_eq]; omega, same_on s2 nD _, ?_⟩
              have e : [d'].filter notW = [d'] := by
                have z : notW d' = true := by unfold notW; rw [hwd]; rfl
                rw [List.filter_cons, z]
                rfl
              rw [tk1, e, upd_same, List.length_append]
              show some (HO.lst ((List.replicate _ (1 : Int)).map V.int ++ [V.int 1])) = some (HO.lst ((List.replicate (_ + 1) (1 : Int)).map V.int))
              rw [List.replicate_succ', List.map_append]
              rfl
          rintro G2 ⟨s2, gD⟩
          rw [lpv, List.take_length] at gD
          refine ⟨Nat.zero_le _, fun D2 nD2 => ?_⟩
          have s3 : Same G2 (upd G2 D2 (.lst [])) := same_new (fun b o e => e) nD2 _
          have m3 : (upd G2 D2 (.lst [])) D2 = some (.lst []) := upd_same
          have gD3 := s3 _ _ gD
          generalize upd G2 D2 (.lst []) = G3 at s3 m3 gD3
          have s03 : Same G G3 := fun b o e => s3 _ _ (s2 _ _ e)
          have smG : Same H G3 := fun b o e => s03 _ _ (sm _ _ e)
          refine ⟨_, .list [], .lst (.inl (.inl gD3)) (ints_dp _), .lst (.inl (.inl m3)) .nil, ones_shaped _, by decide +kernel, _, rfl, ?_⟩
          rw [ones_nil]
          by_cases hz : ¬ (ps1.filter notW).length = 0
          · rw [decide_eq_false hz]
            refine iteT (iteT (other smG fun p n' bb' e => ?_))
            cases e
            refine no1 ?_
            show subW (wAll ps1) u = none
            rw [whole_not fun z => hz (by rw [z]; rfl)]
            rfl
          rw [Decidable.not_not] at hz
          rw [decide_eq_true hz]
          refine iteF ?_
          obtain ⟨p, rfl⟩ := whole_all (List.length_eq_zero_iff.mp hz)
          have ev := dpAll_ints hpv
          subst ev
          have hpa3 := (TK.same s03).sq hpa
          have hu3 := Tm.mono (TK.same s03) _ _ hu
          have ud := gu.dep
          have us := gu.size
          refine ⟨.ref pa, rfl, y, rfl, u, y, rfl, hu3, gu.vars, by omega, by omega, fun G4 pl us4 s4 npl e4 pus => ?_⟩
          have s04 : Same G G4 := fun b o e => s4 _ _ (s03 _ _ e)
          have smG4 : Same H G4 := fun b o e => s4 _ _ (smG _ _ e)
          refine ⟨iD p, u.paths.map iD, iD_dp ((TK.same s4).sq hpa3), .lst (.inl (.inl e4)) (pv_dp pus), iD_shaped _, iDs_shaped _, _, rfl, ?_⟩
          rw [paths_any]
          have pD : partD u (.tuple (p.map .int)) = T.sub p u := by
            show subW (wAll (p.map .int)) u = _
            rw [ints_wAll]
            rfl
          cases hsub : T.sub p u with
          | none =>
            refine iteT (other smG4 fun p' n' bb' e => ?_)
            cases e
            refine no1 ?_
            rw [pD, hsub]
          | some pt =>
          refine iteF ?_
          rw [hsub] at pD
          obtain ⟨j, rfl⟩ : ∃ j : Nat, n = (j : Int) := ⟨n.toNat, by omega⟩
          have hj : j < eqs.length := by omega
          have hej := List.getElem?_eq_getElem hj
          generalize eqs[j] = e at hej
          obtain ⟨evv, hev, ⟨eb, l, r, rfl, seb, ml, mr⟩⟩ := (fE.mono (EqV.mono (TK.same smG4))).get' hej
          obtain ⟨gl, gr⟩ := eg e (List.mem_of_getElem? hej)
          have hE4 := smG4.seq hE
          have stp := stepD_tri eqs u (.tuple (p.map .int)) (n := (j : Int)) (b := bb) (e := e) (by omega) (by rw [Int.toNat_natCast]; exact hej)
          have gL : Gt 4 40 (wayG bb e.1 e.2) := wayG_gt gl gr
          have gR : Gt 4 40 (wayG bb e.2 e.1) := wayG_gt gr gl
          have hu4 := Tm.mono (TK.same s04) _ _ hu
          have hpa4 := (TK.same s04).sq hpa
          have pl := sub_len hsub
          have gp := gu.sub hsub
          obtain ⟨r', f1, _⟩ := gu.put hsub gR
          have rest : ∀ (L R : V), Tm K G4 (wayG bb e.1 e.2) L → Tm K G4 (wayG bb e.2 e.1) R → ∀ pv4 : V, Tm K G4 pt pv4 →
              ∃ dd ee, Dp K G4 pv4 dd ∧ Dp K G4 L ee ∧ SeqAt.shaped dd = true ∧ SeqAt.shaped ee = true ∧ (PyData.eqv dd ee = false → Q .non G4) ∧ (PyData.eqv dd ee = true → stepD eqs u (.tuple [.tuple (p.map .int), .int (j : Int), .bool bb]) = some r') := by
            intro L R mL mR pv4 mp
            refine ⟨pt.d, (wayG bb e.1 e.2).d, Tm.dp _ _ mp, Tm.dp _ _ mL, gp.shape (by omega), gL.shape (by decide), fun z => other smG4 fun p' n' bb' e' => ?_, fun z => ?_⟩
            · cases e'
              rw [stp]
              exact step_ne pD z
            · rw [stp, step_eq pD z]
              show T.put _ ((wAll (p.map .int)).getD []) u = _
              rw [ints_wAll]
              exact f1
          cases bb with
          | true =>
            refine ⟨.ref ea, rfl, .int (j : Int), rfl, ea, _, _, _, rfl, rfl, hE4, atI_nat hev, .bl true, rfl, true, rfl, iteT ⟨eb, _, _, _, rfl, rfl, seb, atI_nat (j := 0) rfl, ?_⟩⟩
            refine ⟨.ref ea, rfl, .int (j : Int), rfl, ea, _, _, _, rfl, rfl, hE4, atI_nat hev, .bl true, rfl, true, rfl, iteT ⟨eb, _, _, _, rfl, rfl, seb, atI_nat (j := 1) rfl, ?_⟩⟩
            refine ⟨_, _, rfl, y, rfl, .ref pa, rfl, u, pt, y, pa, p, rfl, hu4, hpa4, hsub, fun pv4 mp => ?_⟩
            obtain ⟨dd, ee, k1, k2, k3, k4, k5, k6⟩ := rest l r ml mr pv4 mp
            refine ⟨l, rfl, dd, ee, k1, k2, k3, k4, _, rfl, ?_⟩
            cases hv : PyData.eqv dd ee with
            | false => exact iteT (k5 hv)
            | true =>
              refine iteF ⟨y, rfl, .ref pa, rfl, r, rfl, u, _, r', y, r, pa, p, rfl, hu4, mr, hpa4, by omega, by omega, f1, fun v' H5 s5 tz => ?_⟩
              refine ⟨v', r', _, _, _, _, _, _, rfl, fun b o e => s5 _ _ (smG4 _ _ e), tz, ?_, ?_⟩
              · have := stepD_gt eg gu (k6 hv)
                exact this.mono (by omega) (by omega)
              · rw [eq]
                exact chainD_cons _ (k6 hv)
          | false =>
            refine ⟨.ref ea, rfl, .int (j : Int), rfl, ea, _, _, _, rfl, rfl, hE4, atI_nat hev, .bl false, rfl, false, rfl, iteF ⟨eb, _, _, _, rfl, rfl, seb, atI_nat (j := 1) rfl, ?_⟩⟩
            refine ⟨.ref ea, rfl, .int (j : Int), rfl, ea, _, _, _, rfl, rfl, hE4, atI_nat hev, .bl false, rfl, false, rfl, iteF ⟨eb, _, _, _, rfl, rfl, seb, atI_nat (j := 0) rfl, ?_⟩⟩
            refine ⟨_, _, rfl, y, rfl, .ref pa, rfl, u, pt, y, pa, p, rfl, hu4, hpa4, hsub, fun pv4 mp => ?_⟩
            obtain ⟨dd, ee, k1, k2, k3, k4, k5, k6⟩ := rest r l mr ml pv4 mp
            refine ⟨r, rfl, dd, ee, k1, k2, k3, k4, _, rfl, ?_⟩
            cases hv : PyData.eqv dd ee with
            | false => exact iteT (k5 hv)
            | true =>
              refine iteF ⟨y, rfl, .ref pa, rfl, l, rfl, u, _, r', y, l, pa, p, rfl, hu4, ml, hpa4, by omega, by omega, f1, fun v' H5 s5 tz => ?_⟩
              refine ⟨v', r', _, _, _, _, _, _, rfl, fun b o e => s5 _ _ (smG4 _ _ e), tz, ?_, ?_⟩
              · have := stepD_gt eg gu (k6 hv)
                exact this.mono (by omega) (by omega)
              · rw [eq]
                exact chainD_cons _ (k6 hv)
        · refine ifT_of (ne_len (m := 3) (by omega)) (out sm (stepD_other eqs u fun p n b e => ?_))
          cases e
          exact l3 rfl
      | _ => cases ht
    · rintro σ G ⟨y, u, v3, v4, v5, v6, v7, v8, rfl, sm, hu, gu, eq⟩
      refine ⟨y, rfl, q _ _ sm ?_⟩
      rw [eq, dpAll_len ha, List.drop_length]
      exact hu
end
end Ad

namespace Ad
open PySem PySem.Spec PySem.Calls PyProof.Rows L2
abbrev sLVar : Stmt := topS 14
theorem scLVar : FnScope ["_law_term"] ["_law_term"] (defScope sLVar) := ⟨rfl, rfl, rfl, by decide +kernel, rfl, by decide +kernel, by decide +kernel⟩
section
variable {P : Program} {w : World} {K : PySem.W.Frag} {mg : Str → Option Value} {base : Heap}
theorem ok_isvar {f : Addr} {fd : FuncData} {k : Nat} (F : Fun K "_law_is_var" "_law_is_var" sLVar f fd) (mi : mg "isinstance" = none) (mI : mg "int" = none) : FnOk P w K mg base CX0 (k + 1) f fd ["_law_term"] (spIsVar K) := by
  refine F.ok scLVar (fun vs H Q E h => ?_) (fun cdv A outer s H vs Q E hr h => ?_)
  · obtain ⟨t, x, rfl, _⟩ := h
    rfl
  · obtain ⟨t, x, rfl, ht, q⟩ := h
    refine ⟨_, pss_one (ps_ret (pe_callB call_isi (by rfl) mi (by decide +kernel) (pa_cons (pv 0) (pa_cons (pe_bltn (v := .ty "int") (by rfl) mI (by decide +kernel) rfl) pa_nil)))), ?_⟩
    cases t with
    | v i =>
      cases (show x = .int i from ht)
      exact ⟨.int i, rfl, _, .ty "int", .type "int", .type "int", true, rfl, .ty "int", .base (.int i), kitII, q⟩
    | f nm ts => exact ⟨x, rfl, _, .ty "int", .type "tuple", .type "int", false, rfl, .ty "int", tm_tuple ht, kitTI, q⟩
end
end Ad

/-! dict comprehensions over enumerate of a tuple; tuples set behind each other -/
namespace Ad
open PySem PySem.Spec PySem.Calls PyProof.Rows L2
theorem dc_enumT {K : PySem.W.Frag} {a : Addr} {xs : List V} {g : TG} {tt : TT} {tk tv : TE} {vs : List Nat} {σ : L2.St} {H1 : Hp} {D : Addr} {Qd : Hp → Prop} (Pv : Nat → Hp → Prop) (h0 : Pv 0 (upd H1 D (.dK []))) (hl : ∀ i H, i ≤ xs.length → Pv i H → SqT K H a xs)
    (hs : ∀ i x T H, xs[i]? = some x → Pv i H → H T = none → g (.ref T) (wipe σ vs) (upd H T (.tup [.int (i : Nat), x])) fun σ2 H2 => wipe σ2 vs = wipe σ vs ∧ tt σ2 H2 fun b H3 =>
      if b = true then tk σ2 H3 fun y H4 => tv σ2 H4 fun z H5 => ∃ kvs k, y = kV k ∧ H5 D = some (.dK kvs) ∧ kvs.length < sizeLine ∧ Pv (i + 1) (upd H5 D (.dK (putK kvs k z))) else Pv (i + 1) H3) (hd : ∀ H, Pv xs.length H → Qd H) :
    ∃ W : Nat → Nat → Hp → Prop, (∃ m, W 0 m (upd H1 D (.dK []))) ∧ ∀ i m H, W i m H →
      ((Et.IteT K a).stop i H ∧ Qd H) ∨ ((Et.IteT K a).go i H ∧ ∃ Nx : Hp → Prop, (∀ H', Nx H' → ∃ m', m' < m ∧ W (i + 1) m' H') ∧ ∀ x H', (Et.IteT K a).yld i H x H' → g x (wipe σ vs) H' fun σ2 H2 => wipe σ2 vs = wipe σ vs ∧ tt σ2 H2 fun b H3 =>
        if b = true then tk σ2 H3 fun y H4 => tv σ2 H4 fun z H5 => ∃ kvs k, y = kV k ∧ H5 D = some (.dK kvs) ∧ kvs.length < sizeLine ∧ Nx (upd H5 D (.dK (putK kvs k z))) else Nx H3) := by
  refine ⟨fun i m H => m = xs.length - i ∧ i ≤ xs.length ∧ Pv i H, ⟨xs.length, by simp, Nat.zero_le _, h0⟩, ?_⟩
  rintro i m H ⟨rfl, hi, p⟩
  have q := hl i H hi p
  by_cases hlt : i < xs.length
  · refine .inr ⟨⟨xs, xs[i], q, by simp [hlt]⟩, Pv (i + 1), fun H' p' => ⟨xs.length - (i + 1), by omega, rfl, hlt, p'⟩, fun x H' y => ?_⟩
    obtain ⟨T, x', ex, nT, eH, y⟩ := y
    subst ex
    subst eH
    exact hs i x' T H (y xs q) p nT
  · have e : i = xs.length := by omega
    subst e
    exact .inl ⟨⟨xs, q, Nat.le_refl _⟩, hd H p⟩
theorem catT {K : PySem.W.Frag} {H : Hp} {a b : Addr} {xs ys : List V} {Q : VK} (hx : SqT K H a xs) (hy : SqT K H b ys) (ne : xs ≠ []) (l : xs.length + ys.length ≤ sizeLine) (q : ∀ c G, Same H G → SqT K G c (xs ++ ys) → Q (.ref c) G) : rCatT K (.ref a) (.ref b) H Q :=
  ⟨a, b, xs, ys, rfl, rfl, hx, hy, ne, l, fun e => q a H (fun b o e => e) (by rw [e, List.append_nil]; exact hx), fun _ p np => q p _ (same_new (fun b o e => e) np _) (.inl (.inl upd_same))⟩
theorem inV_here {x : V} {xs : List V} (h : x ∈ xs) (e : eqV x x = true) : inV x xs = true := by
  unfold inV
  exact List.any_eq_true.mpr ⟨x, h, e⟩
theorem TK.ins {H : Hp} {p C dx : Addr} {fs : List (Str × V)} (h : H p = some (.ins C dx fs)) (o : HO) : TK H (upd H p o) := fun b xs => by
  have n : ∀ u, H b = some u → (∀ c d f, u ≠ .ins c d f) → b ≠ p := fun u e z w => by
    rw [w, h] at e
    exact z _ _ _ (Option.some.inj e).symm
  refine ⟨fun e => ?_, fun o e => ?_⟩
  · rw [upd_ne (n _ e (fun c d f z => nomatch z))]
    exact e
  · rw [upd_ne (n _ e (fun c d f z => nomatch z))]
    exact e
theorem take_fresh {rs : List Row} (nd : (rs.map (·.1)).Nodup) {i : Nat} {r : Row} (h : rs[i]? = some r) : r.1 ∉ (rs.take i).map (·.1) := by
  rw [← List.take_append_drop i rs, List.map_append, List.nodup_append] at nd
  refine fun z => nd.2.2 _ z r.1 ?_ rfl
  refine List.mem_map.mpr ⟨r, ?_, rfl⟩
  refine List.mem_of_getElem? (i := 0) ?_
  rw [List.getElem?_drop]
  exact h
theorem take_next {α : Type} {rs : List α} {i : Nat} {r : α} (h : rs[i]? = some r) : rs.take (i + 1) = rs.take i ++ [r] := by
  rw [List.take_add_one, h]
  rfl
end Ad

namespace Ad
open PySem PySem.Spec PySem.Calls PyProof.Rows L2
abbrev sLSize : Stmt := topS 15
theorem scLSize : FnScope ["_law_term", "_law_part"] ["_law_term"] (defScope sLSize) := ⟨rfl, rfl, rfl, by decide +kernel, rfl, by decide +kernel, by decide +kernel⟩
theorem sizes_sum : ∀ ts : List T, (ts.map fun t => (t.size : Int)).sum = (T.sizeL ts : Int)
  | [] => rfl
  | t :: ts => by
    rw [List.map_cons, List.sum_cons, sizes_sum ts]
    show (t.size : Int) + (T.sizeL ts : Int) = ((t.size + T.sizeL ts : Nat) : Int)
    omega
section
variable {P : Program} {w : World} {K : PySem.W.Frag} {mg : Str → Option Value} {base : Heap}
def spLSize (K : PySem.W.Frag) (n : Nat) : Sp := fun vs H Q _ => ∃ (t : T) (x : V), vs = [x] ∧ Tm K H t x ∧ t.dep < n ∧ t.size ≤ 10000 ∧ ∀ H', Same H H' → Q (.int (t.size : Int)) H'
theorem ok_lsize {f fV : Addr} {fd fdV : FuncData} {k : Nat} (F : Fun K "_law_size" "_law_size" sLSize f fd) (gF : mg "_law_size" = some (.ref f)) (bF : Binds K fd ["_law_term"] [])
    (G : FnOk P w K mg base CX0 k fV fdV ["_law_term"] (spIsVar K)) (gV : mg "_law_is_var" = some (.ref fV)) (kV : PySem.W.keepIn K (.ref fV) = true) (bV : Binds K fdV ["_law_term"] []) (m_sum : mg "sum" = none) :
    ∀ n, FnOk P w K mg base CX0 (k + n) f fd ["_law_term"] (spLSize K n)
  | 0 => vac fun vs H Q E ⟨t, x, _, _, z, _⟩ => absurd z (Nat.not_lt_zero _)
  | n + 1 => by
    have IH := ok_lsize F gF bF G gV kV bV m_sum n
    refine F.ok scLSize (fun vs H Q E h => ?_) (fun cdv A outer s H vs Q E hr h => ?_)
    · obtain ⟨t, x, rfl, _⟩ := h
      rfl
    · obtain ⟨t, x, rfl, ht, deep, small, q⟩ := h
      refine ⟨_, (pss_one (ps_ret (pe_ifExp (pt_val (pe_call G (hr.mono (Nat.le_add_right _ _)) (by rfl) gV kV bV .nil pass0 (pa_cons (pv 0) pa_nil))) pe_int (pe_op op_add pe_int (pe_callB (cr_sum rfl) (by rfl) m_sum (by decide +kernel) (pa_cons (pe_lc (own := [("_law_part", 1)]) (g := gName 1) (tt := tYes) (te := tCall (spLSize K n) [] E0 (tCons (tVar 1) tNil)) rfl scLSize.nd (pi_tup (pe_slice sl_tup (pv 0) (po_some pe_int) po_none)) (blkOk_by (N := ["_law_term", "_law_part"]) (sc := defScope sLSize) (by decide +kernel)) (fun _ _ _ _ _ => (pg_name (i := 1) scLSize.nd rfl (.inl rfl))) (fun _ _ _ _ _ => pts_nil) (fun _ _ _ _ _ => (pe_call IH hr (by rfl) gF F.kp bF .nil pass0 (pa_cons (pv 1) pa_nil)))) pa_nil)))))), ?_⟩
      refine ⟨x, rfl, t, x, rfl, ht, _, rfl, ?_⟩
      cases t with
      | v i =>
        refine iteT ?_
        exact q H fun b o e => e
      | f nm ts =>
        refine iteF ?_
        obtain ⟨a, zs, rfl, sq, all⟩ := ht
        have lz := all.len
        refine ⟨.ref a, rfl, 1, rfl, a, _, rfl, sq, cut_args.1, fun p1 n1 => ?_⟩
        rw [cut_args.2]
        have s1 : Same H (upd H p1 (.tup zs)) := same_new (fun b o e => e) n1 _
        have m1 : (upd H p1 (.tup zs)) p1 = some (.tup zs) := upd_same
        generalize upd H p1 (.tup zs) = H1 at s1 m1
        have szu : T.size (.f nm ts) = 1 + T.sizeL ts := rfl
        have ltz := T.len_sizeL ts
        refine ⟨p1, rfl, ⟨_, .inl (.inl m1)⟩, fun D nD => lc_tup (K := K) (a := p1) (xs := zs) (fun i G => ∃ acc, Same H1 G ∧ G D = some (.lst acc) ∧ acc = ((ts.take i).map fun t => (t.size : Int)).map V.int) ⟨[], same_new (fun b o e => e) nD _, upd_same, rfl⟩ (fun i G _ ⟨_, sm, _⟩ => .inl (.inl (sm _ _ m1))) ?_ ?_⟩
        · rintro i y G hy ⟨acc, sm, gD, rfl⟩
          have s2 : Same H G := fun b o e => sm _ _ (s1 _ _ e)
          obtain ⟨u, hu, tu⟩ := (Tms.mono (TK.same s2) _ _ all).get hy
          have ilt := (List.getElem?_eq_some_iff.mp hu).1
          have m := List.mem_of_getElem? hu
          have d1 := T.dep_mem m
          have d2 : T.dep (.f nm ts) = 1 + T.depL ts := rfl
          have d3 := T.size_mem m
          refine ⟨rfl, y, rfl, u, y, rfl, tu, by omega, by omega, fun G2 sg => ⟨_, sg _ _ gD, ?_, _, same_on (H := H1) (H' := G2) (fun b o e => sg _ _ (sm _ _ e)) nD _, upd_same, ?_⟩⟩
          · rw [List.length_map, List.length_map, List.length_take, sizeLine_eq]
            omega
          · rw [take_next hu, List.map_append, List.map_append]
            rfl
        · rintro G ⟨acc, sm, gD, rfl⟩
          rw [lz, List.take_length] at gD
          refine ⟨D, _, rfl, .inl (.inl gD), _, _, rfl, rfl, ?_⟩
          rw [sizes_sum]
          have e : (1 : Int) + (T.sizeL ts : Int) = ((T.size (.f nm ts) : Nat) : Int) := by
            rw [szu]
            omega
          show Q (.int ((1 : Int) + (T.sizeL ts : Int))) G
          rw [e]
          exact q G fun b o e => sm _ _ (s1 _ _ e)
end
end Ad

/-! What a reading evaluates to, as data, from any heap that keeps what was there. -/
namespace Ad
open PySem PySem.Spec PySem.Calls PyProof.Rows L2
theorem Same.refl (H : Hp) : Same H H := fun _ _ e => e
theorem Same.trans {H H1 H2 : Hp} (a : Same H H1) (b : Same H1 H2) : Same H H2 := fun q o e => b q o (a q o e)
/-- te gives the data d, and keeps what was there -/
def ED (K : PySem.W.Frag) (te : TE) (σ : L2.St) (H : Hp) (d : PyData) : Prop := ∀ H1, Same H H1 → ∀ Q : VK, (∀ v H2, Same H1 H2 → Dp K H2 v d → Q v H2) → te σ H1 Q
def EDs (K : PySem.W.Frag) (ta : TA) (σ : L2.St) (H : Hp) (ds : List PyData) : Prop := ∀ H1, Same H H1 → ∀ Q : List V → Hp → Prop, (∀ vs H2, Same H1 H2 → DpAll K H2 vs ds → Q vs H2) → ta σ H1 Q
/-- te gives a new list of the data ds -/
def EL (K : PySem.W.Frag) (te : TE) (σ : L2.St) (H : Hp) (ds : List PyData) : Prop := ∀ H1, Same H H1 → ∀ Q : VK, (∀ l xs H2, Same H1 H2 → H2 l = none → DpAll K H2 xs ds → Q (.ref l) (upd H2 l (.lst xs))) → te σ H1 Q
theorem none_before {H1 H2 : Hp} (s : Same H1 H2) {p : Addr} (n : H2 p = none) : H1 p = none := by
  cases z : H1 p with
  | none => rfl
  | some o =>
    rw [s _ _ z] at n
    cases n
theorem EL.run {K : PySem.W.Frag} {te : TE} {σ : L2.St} {H : Hp} {ds : List PyData} (h : EL K te σ H ds) (H1 : Hp) (s : Same H H1) (Q : VK) (q : ∀ l xs H2, Same H1 H2 → H1 l = none → H2 l = some (.lst xs) → DpAll K H2 xs ds → Q (.ref l) H2) : te σ H1 Q :=
  h H1 s Q fun l xs H2 s2 n hv => by
    have s3 : Same H2 (upd H2 l (.lst xs)) := same_new (fun b o e => e) n _
    exact q l xs _ (s2.trans s3) (none_before s2 n) upd_same (dpAll_same s3 hv)
section
variable {K : PySem.W.Frag} {σ : L2.St} {H : Hp}
theorem ED.later {te : TE} {d : PyData} {H' : Hp} (h : ED K te σ H d) (s : Same H H') : ED K te σ H' d := fun H1 s1 => h H1 (s.trans s1)
theorem EDs.later {ta : TA} {d : List PyData} {H' : Hp} (h : EDs K ta σ H d) (s : Same H H') : EDs K ta σ H' d := fun H1 s1 => h H1 (s.trans s1)
theorem EL.later {te : TE} {d : List PyData} {H' : Hp} (h : EL K te σ H d) (s : Same H H') : EL K te σ H' d := fun H1 s1 => h H1 (s.trans s1)
theorem ed_var {i : Nat} {v : V} {d : PyData} (e : σ[i]? = some (some v)) (h : Dp K H v d) : ED K (tVar i) σ H d := fun H1 s Q q => ⟨v, e, q v H1 (Same.refl _) (dp_same s h)⟩
theorem ed_int {i : Int} : ED K (tC (.int i)) σ H (.int i) := fun H1 s Q q => q _ H1 (Same.refl _) (.int i)
theorem ed_bl {b : Bool} : ED K (tC (.bl b)) σ H (.bool b) := fun H1 s Q q => q _ H1 (Same.refl _) (.bl b)
theorem ed_str {x : Str} : ED K (tC (.str x)) σ H (.str x) := fun H1 s Q q => q _ H1 (Same.refl _) (.str x)
theorem ed_non : ED K (tC .non) σ H .none := fun H1 s Q q => q _ H1 (Same.refl _) .non
theorem eds_nil : EDs K tNil σ H [] := fun H1 s Q q => q _ H1 (Same.refl _) .nil
theorem eds_cons {te : TE} {ta : TA} {d : PyData} {ds : List PyData} (h : ED K te σ H d) (t : EDs K ta σ H ds) : EDs K (tCons te ta) σ H (d :: ds) := fun H1 s Q q =>
  h H1 s _ fun v H2 s2 hv => t H2 (s.trans s2) _ fun vs H3 s3 hvs => q _ H3 (s2.trans s3) (.cons (dp_same s3 hv) hvs)
theorem ed_tup {ta : TA} {ds : List PyData} (h : EDs K ta σ H ds) (few : ds.length ≤ 1000) : ED K (tTup ta) σ H (.tuple ds) := fun H1 s Q q =>
  h H1 s _ fun vs H2 s2 hv => ⟨by rw [dpAll_len hv, sizeLine_eq]; omega, fun p np => by
    have s3 : Same H2 (upd H2 p (.tup vs)) := same_new (fun b o e => e) np _
    exact q _ _ (s2.trans s3) (.tup (.inl (.inl upd_same)) (dpAll_same s3 hv))⟩
theorem el_lst {ta : TA} {ds : List PyData} (h : EDs K ta σ H ds) (few : ds.length ≤ 1000) : EL K (tLst ta) σ H ds := fun H1 s Q q =>
  h H1 s _ fun vs H2 s2 hv => ⟨by rw [dpAll_len hv, sizeLine_eq]; omega, fun p np => q p vs H2 s2 np hv⟩
theorem ed_lst {ta : TA} {ds : List PyData} (h : EDs K ta σ H ds) (few : ds.length ≤ 1000) : ED K (tLst ta) σ H (.list ds) := fun H1 s Q q =>
  (el_lst h few).run H1 s Q fun l xs H2 s2 _ e hv => q _ H2 s2 (.lst (.inl (.inl e)) hv)
theorem EL.ed {te : TE} {ds : List PyData} (h : EL K te σ H ds) : ED K te σ H (.list ds) := fun H1 s Q q => h.run H1 s Q fun l xs H2 s2 _ e hv => q _ H2 s2 (.lst (.inl (.inl e)) hv)
theorem el_cat {t1 t2 : TE} {d1 d2 : List PyData} (h1 : EL K t1 σ H d1) (h2 : EL K t2 σ H d2) (few : d1.length + d2.length ≤ 1000000) : EL K (tOp rCat t1 t2) σ H (d1 ++ d2) := fun H1 s Q q =>
  h1.run H1 s _ fun l xs H2 s2 nl e hv => h2.run H2 (s.trans s2) _ fun l' xs' H3 s3 nl' e' hv' =>
    ⟨l, l', xs, xs', rfl, rfl, s3 _ _ e, e', by rw [dpAll_len hv, dpAll_len hv', sizeLine_eq]; omega, fun p np => q p _ H3 (s2.trans s3) np (dpAll_app (dpAll_same s3 hv) hv')⟩
/-- a list that stands in a slot -/
theorem el_cat_var {i : Nat} {l : Addr} {xs : List V} {t2 : TE} {d1 d2 : List PyData} (e0 : σ[i]? = some (some (.ref l))) (e : H l = some (.lst xs)) (hv : DpAll K H xs d1) (h2 : EL K t2 σ H d2) (few : d1.length + d2.length ≤ 1000000) : EL K (tOp rCat (tVar i) t2) σ H (d1 ++ d2) := fun H1 s Q q =>
  ⟨.ref l, e0, h2.run H1 s _ fun l' xs' H3 s3 nl' e' hv' =>
    ⟨l, l', xs, xs', rfl, rfl, s3 _ _ (s _ _ e), e', by rw [dpAll_len hv, dpAll_len hv', sizeLine_eq]; omega, fun p np => q p _ H3 s3 np (dpAll_app (dpAll_same (s.trans s3) hv) hv')⟩⟩
theorem ed_catA {t1 t2 : TE} {d1 d2 : List PyData} (h1 : ED K t1 σ H (.tuple d1)) (h2 : ED K t2 σ H (.tuple d2)) (few : d1.length + d2.length ≤ 1000000) : ED K (tOp (rCatA K) t1 t2) σ H (.tuple (d1 ++ d2)) := fun H1 s Q q =>
  h1 H1 s _ fun v H2 s2 hv => h2 H2 (s.trans s2) _ fun v' H3 s3 hv' => by
    cases dp_same s3 hv with
    | @tup a xs _ ha hxs =>
    cases hv' with
    | @tup b ys _ hb hys =>
    have lx := dpAll_len hxs
    have ly := dpAll_len hys
    refine ⟨a, b, xs, ys, rfl, rfl, ha, hb, by rw [sizeLine_eq]; omega, fun e => ?_, fun n e => ?_, fun n n' p np => ?_⟩
    · subst e
      cases hxs
      exact q _ _ (s2.trans s3) (.tup hb hys)
    · subst e
      cases hys
      rw [List.append_nil] at q
      exact q _ _ (s2.trans s3) (.tup ha hxs)
    · have s4 : Same H3 (upd H3 p (.tup (xs ++ ys))) := same_new (fun b o e => e) np _
      exact q _ _ (s2.trans (s3.trans s4)) (.tup (.inl (.inl upd_same)) (dpAll_same s4 (dpAll_app hxs hys)))
/-- a slice of data -/
def cutD (ds : List PyData) (lo hi : Option Int) : List PyData := (ds.drop (HT.sIx ds.length 0 lo)).take (HT.sIx ds.length ds.length hi - HT.sIx ds.length 0 lo)
theorem cutD_len (ds : List PyData) (lo hi : Option Int) : (cutD ds lo hi).length ≤ ds.length := by
  unfold cutD
  rw [List.length_take, List.length_drop]
  omega
theorem cut_dp {H : Hp} {xs : List V} {ds : List PyData} (h : DpAll K H xs ds) (lo hi : Option Int) : DpAll K H (cutV xs lo hi) (cutD ds lo hi) := by
  unfold cutV cutD
  rw [dpAll_len h]
  exact dpAll_take _ (dpAll_drop _ h)
theorem cutD_whole {ds : List PyData} {lo hi : Option Int} (h : HT.sIx ds.length 0 lo = 0 ∧ HT.sIx ds.length ds.length hi = ds.length) : cutD ds lo hi = ds := by
  unfold cutD
  rw [h.1, h.2, List.drop_zero, Nat.sub_zero, List.take_length]
/-- t[lo:hi] of a tuple in a slot, with written ends -/
theorem ed_sl {i : Nat} {v : V} {ds : List PyData} {tl th : TO} {lo hi : Option Int} (e : σ[i]? = some (some v)) (h : Dp K H v (.tuple ds)) (hl : ∀ H Q, Q lo H → tl σ H Q) (hh : ∀ H Q, Q hi H → th σ H Q) : ED K (tSl (rSlA K) (tVar i) tl th) σ H (.tuple (cutD ds lo hi)) := fun H1 s Q q => by
  refine ⟨v, e, hl _ _ (hh _ _ ?_)⟩
  cases dp_same s h with
  | @tup a xs _ ha hxs =>
  have lx := dpAll_len hxs
  refine ⟨a, xs, rfl, ha, fun w => ?_, fun w p np => ?_⟩
  · rw [lx] at w
    rw [cutD_whole w] at q
    exact q _ _ (Same.refl _) (.tup ha hxs)
  · have s4 : Same H1 (upd H1 p (.tup (cutV xs lo hi))) := same_new (fun b o e => e) np _
    exact q _ _ s4 (.tup (.inl (.inl upd_same)) (dpAll_same s4 (cut_dp hxs lo hi)))
/-- t[lo:hi] of a list in a slot -/
theorem el_sl {i : Nat} {v : V} {ds : List PyData} {tl th : TO} {lo hi : Option Int} (e : σ[i]? = some (some v)) (h : Dp K H v (.list ds)) (hl : ∀ H Q, Q lo H → tl σ H Q) (hh : ∀ H Q, Q hi H → th σ H Q) : EL K (tSl (rSlL K) (tVar i) tl th) σ H (cutD ds lo hi) := fun H1 s Q q => by
  refine ⟨v, e, hl _ _ (hh _ _ ?_)⟩
  cases dp_same s h with
  | @lst a xs _ ha hxs =>
  exact ⟨a, xs, rfl, ha, fun p np => q p _ H1 (Same.refl _) np (cut_dp hxs lo hi)⟩
end
section
variable {K : PySem.W.Frag} {σ : L2.St} {H : Hp}
/-- int(b), int(i) -/
def rIntV : List V → Hp → VK → Prop := fun xs H Q => (∃ i, xs = [.int i] ∧ Q (.int i) H) ∨ ∃ k, xs = [.bl k] ∧ Q (.int (if k then 1 else 0)) H
theorem ed_intB {te : TE} {b : Bool} (h : ED K te σ H (.bool b)) : ED K (tCB rIntV (tCons te tNil)) σ H (.int (if b then 1 else 0)) := fun H1 s Q q =>
  h H1 s _ fun v H2 s2 hv => by
    cases hv
    exact .inr ⟨b, rfl, q _ _ s2 (.int _)⟩
theorem ed_eqD {t1 t2 : TE} {d e : PyData} (h1 : ED K t1 σ H d) (h2 : ED K t2 σ H e) (sd : SeqAt.shaped d = true) (se : SeqAt.shaped e = true) : ED K (tOp (rEqD K) t1 t2) σ H (.bool (PyData.eqv d e)) := fun H1 s Q q =>
  h1 H1 s _ fun v H2 s2 hv => h2 H2 (s.trans s2) _ fun v' H3 s3 hv' => ⟨d, e, dp_same s3 hv, hv', sd, se, q _ _ (s2.trans s3) (.bl _)⟩
def repD (b : Bool) (ds : List PyData) : List PyData := if b = true then ds else []
theorem el_rep {t1 t2 : TE} {ds : List PyData} {b : Bool} (h1 : EL K t1 σ H ds) (h2 : ED K t2 σ H (.int (if b then 1 else 0))) (few : ds.length ≤ 1000) : EL K (tOp rRep t1 t2) σ H (repD b ds) := fun H1 s Q q =>
  h1.run H1 s _ fun l xs H2 s2 nl e hv => h2 H2 (s.trans s2) _ fun v' H3 s3 hv' => by
    cases hv'
    have lx := dpAll_len hv
    refine ⟨l, _, xs, rfl, rfl, s3 _ _ e, ?_, ?_, ?_, fun p np => ?_⟩
    · cases b <;> decide
    · cases b <;> decide
    · cases b
      · show xs.length * 0 ≤ sizeLine
        omega
      · show xs.length * 1 ≤ sizeLine
        rw [sizeLine_eq]
        omega
    · refine q p _ H3 (s2.trans s3) np ?_
      cases b
      · exact .nil
      · have e2 : (List.replicate ((if true = true then (1 : Int) else 0)).toNat xs).flatten = xs := by
          show (xs ++ []) = xs
          rw [List.append_nil]
        rw [e2]
        exact dpAll_same s3 hv
theorem ed_add {t1 t2 : TE} {i j : Int} (h1 : ED K t1 σ H (.int i)) (h2 : ED K t2 σ H (.int j)) : ED K (tOp (rI0 fun i j => .int (i + j)) t1 t2) σ H (.int (i + j)) := fun H1 s Q q =>
  h1 H1 s _ fun v H2 s2 hv => h2 H2 (s.trans s2) _ fun v' H3 s3 hv' => by
    cases hv
    cases hv'
    exact ⟨i, j, rfl, rfl, q _ _ (s2.trans s3) (.int _)⟩
theorem ed_not {t1 : TE} {b : Bool} (h1 : ED K t1 σ H (.bool b)) : ED K (tNotV t1) σ H (.bool (!b)) := fun H1 s Q q =>
  h1 H1 s _ fun v H2 s2 hv => by
    cases hv
    exact ⟨b, rfl, q _ _ s2 (.bl _)⟩
/-- list(t) -/
def rLstOf (K : PySem.W.Frag) : List V → Hp → VK → Prop := fun xs H Q => ∃ p ys, xs = [V.ref p] ∧ (SqL K H p ys ∨ SqT K H p ys) ∧ ∀ (l : Addr), H l = none → Q (V.ref l) (upd H l (.lst ys))
theorem call_lstOf {X : Cx} : CallR X (.type "list") (rLstOf X.K) := call_list_of
theorem ed_listOf {t1 : TE} {ds : List PyData} (h1 : ED K t1 σ H (.tuple ds)) : ED K (tCB (rLstOf K) (tCons t1 tNil)) σ H (.list ds) := fun H1 s Q q =>
  h1 H1 s _ fun v H2 s2 hv => by
    cases hv with
    | @tup a xs _ ha hxs =>
    refine ⟨a, xs, rfl, .inr ha, fun l nl => ?_⟩
    have s3 : Same H2 (upd H2 l (.lst xs)) := same_new (fun b o e => e) nl _
    exact q _ _ (s2.trans s3) (.lst (.inl (.inl upd_same)) (dpAll_same s3 hxs))
theorem ed_neg {t1 : TE} {i : Int} (h1 : ED K t1 σ H (.int i)) : ED K (tUn (rU fun i => .int (-i)) t1) σ H (.int (-i)) := fun H1 s Q q =>
  h1 H1 s _ fun v H2 s2 hv => by
    cases hv
    exact ⟨i, rfl, q _ _ s2 (.int _)⟩
end
theorem dpAll_mem {K : PySem.W.Frag} {H : Hp} : ∀ {ds : List PyData} {vs : List V} {v : V}, DpAll K H vs ds → v ∈ vs → ∃ d, d ∈ ds ∧ Dp K H v d
  | _, _, _, .nil, m => by cases m
  | _, _, v, .cons (d := d) h t, m => by
    rcases List.mem_cons.mp m with e | e
    · rw [e]
      exact ⟨d, List.mem_cons_self, h⟩
    · obtain ⟨d', m', h'⟩ := dpAll_mem t e
      exact ⟨d', List.mem_cons_of_mem _ m', h'⟩
/-- a step of a chain: path, number, way -/
def triD (q : List Int × Int × Bool) : PyData := .tuple [iD q.1, .int q.2.1, .bool q.2.2]
theorem triD_dp {K : PySem.W.Frag} {H : Hp} {v : V} {q : List Int × Int × Bool} (h : Dp K H v (triD q)) : ∃ a pa, v = .ref a ∧ SqT K H a [.ref pa, .int q.2.1, .bl q.2.2] ∧ SqT K H pa (q.1.map V.int) := by
  cases h with
  | @tup a xs _ ha hxs =>
  cases hxs with
  | cons h1 hxs =>
  cases hxs with
  | cons h2 hxs =>
  cases hxs with
  | cons h3 hxs =>
  cases hxs
  cases h2
  cases h3
  cases h1 with
  | @tup pa ps _ hpa hps =>
  rw [dpAll_ints hps] at hpa
  exact ⟨a, pa, rfl, ha, hpa⟩
theorem triDs_lay : ∀ l : List (List Int × Int × Bool), PyData.canLayAll0 (l.map triD) = true
  | [] => rfl
  | q :: l => by
    show ((PyData.canLayAll0 (q.1.map .int) && (true && (true && true))) && PyData.canLayAll0 (l.map triD)) = true
    rw [int_lay, triDs_lay l]
    rfl
theorem triDs_depth : ∀ l : List (List Int × Int × Bool), PyData.depthAll (l.map triD) ≤ 2
  | [] => Nat.zero_le _
  | q :: l => by
    have h := triDs_depth l
    have e : (triD q).depth = 2 := by
      show max (PyData.depthAll (q.1.map .int) + 1) (max 0 (max 0 0)) + 1 = 2
      rw [int_depth]
      rfl
    show max (triD q).depth (PyData.depthAll (l.map triD)) ≤ 2
    rw [e]
    omega
theorem triDs_shaped (l : List (List Int × Int × Bool)) : SeqAt.shaped (.list (l.map triD)) = true := by
  unfold SeqAt.shaped
  have h1 : (PyData.list (l.map triD)).canLay0 = true := triDs_lay l
  have h2 : (PyData.list (l.map triD)).depth ≤ 64 := by
    show PyData.depthAll (l.map triD) + 1 ≤ 64
    have := triDs_depth l
    omega
  rw [h1, decide_eq_true h2]
  rfl
theorem eqv_nil (ds : List PyData) : PyData.eqv (.list ds) (.list []) = ds.isEmpty := by
  cases ds <;> first | rfl | (simp [PyData.eqv, PyData.eqvAll])
theorem atI_last {α : Type} (xs : List α) (x : α) : atI (xs ++ [x]) (-1) = some x := by
  unfold atI ixN
  have h : (xs ++ [x]).length = xs.length + 1 := by simp
  have h1 : ¬ (0 ≤ (-1 : Int)) := by decide
  have h2 : -(((xs.length + 1 : Nat)) : Int) ≤ -1 := by omega
  have h3 : ((-1 : Int) + ((xs.length + 1 : Nat) : Int)).toNat = xs.length := by omega
  rw [h, if_neg h1, if_pos h2, h3]
  show (xs ++ [x])[xs.length]? = some x
  simp
/-- a statement that sets, the others behind it -/
theorem to_set {te : TE} {g : TG} {u : TS} {D : Ends} {σ : L2.St} {H : Hp} (h : te σ H fun v H1 => g v σ H1 fun σ2 H2 => u D σ2 H2) : tSeq (tAsg te g) u D σ H := h
/-- a new list, its items lists of data -/
def LstV (K : PySem.W.Frag) (H : Hp) (ds : List PyData) (v : V) : Prop := ∃ l xs, v = .ref l ∧ H l = some (.lst xs) ∧ DpAll K H xs ds
theorem LstV.same {K : PySem.W.Frag} {H H' : Hp} (s : Same H H') (ds : List PyData) (v : V) (h : LstV K H ds v) : LstV K H' ds v := by
  obtain ⟨l, xs, e, e2, d⟩ := h
  exact ⟨l, xs, e, s _ _ e2, dpAll_same s d⟩
/-- data stays where the pen is used -/
theorem pen_lists {K : PySem.W.Frag} {H H' : Hp} {p l : Addr} {ns : List Int} {c : Nat} (P : Pn.Pen H p l ns c) (b : Pn.But p H H') {a : Addr} {xs : List V} (h : SqL K H a xs) : SqL K H' a xs := by
  obtain ⟨⟨a1, d, f, e, _⟩, _⟩ := P
  rcases h with (h | ⟨o, h⟩) | h
  · exact .inl (.inl (b _ _ (fun z => by rw [z, e] at h; cases h) h))
  · exact .inl (.inr ⟨o, b _ _ (fun z => by rw [z, e] at h; cases h) h⟩)
  · exact .inr h
theorem pen_dp {K : PySem.W.Frag} {H H' : Hp} {p l : Addr} {ns : List Int} {c : Nat} (P : Pn.Pen H p l ns c) (b : Pn.But p H H') {d : PyData} {v : V} (h : Dp K H v d) : Dp K H' v d := dp_mono (fun {_ _} => ⟨pen_lists P b, (pen_tk P b).sq⟩) h
theorem pen_dpAll {K : PySem.W.Frag} {H H' : Hp} {p l : Addr} {ns : List Int} {c : Nat} (P : Pn.Pen H p l ns c) (b : Pn.But p H H') {d : List PyData} {v : List V} (h : DpAll K H v d) : DpAll K H' v d := dpAll_mono (fun {_ _} => ⟨pen_lists P b, (pen_tk P b).sq⟩) h
theorem pen_lst {H H' : Hp} {p l : Addr} {ns : List Int} {c : Nat} (P : Pn.Pen H p l ns c) (b : Pn.But p H H') {a : Addr} {xs : List V} (h : H a = some (.lst xs)) : H' a = some (.lst xs) := by
  obtain ⟨⟨a1, d, f, e, _⟩, _⟩ := P
  exact b _ _ (fun z => by rw [z, e] at h; cases h) h
theorem LstV.pen {K : PySem.W.Frag} {H H' : Hp} {p l : Addr} {ns : List Int} {c : Nat} (P : Pn.Pen H p l ns c) (b : Pn.But p H H') (ds : List PyData) (v : V) (h : LstV K H ds v) : LstV K H' ds v := by
  obtain ⟨a, xs, e, e2, d⟩ := h
  exact ⟨a, xs, e, pen_lst P b e2, pen_dpAll P b d⟩
end Ad

/-! A drawn chain. -/
namespace Ad
open PySem PySem.Spec PySem.Calls PyProof.Rows L2
abbrev sDc : Stmt := topS 25
theorem scDc : FnScope ["_law_pen_here", "_law_equations_here", "_law_term", "_law_found", "_law_lap", "_law_some", "_law_path", "_law_index", "_law_left", "_law_right", "_law_part", "_law_way"] ["_law_pen_here", "_law_equations_here", "_law_term"] (defScope sDc) := ⟨rfl, rfl, rfl, by decide +kernel, rfl, by decide +kernel, by decide +kernel⟩
abbrev Tri := List Int × Int × Bool
/-- a step that can be made -/
def Fits (n : Nat) (z : T) (q : Tri) : Prop := (∃ u, T.sub q.1 z = some u) ∧ 0 ≤ q.2.1 ∧ q.2.1 < (n : Int)
section
variable {P : Program} {w : World} {K : PySem.W.Frag} {mg : Str → Option Value} {base : Heap}
def spDc (K : PySem.W.Frag) : Sp := fun vs H Q _ => ∃ (p l ea : Addr) (x : V) (ns : List Int) (c : Nat) (eqs : List (T × T)) (es : List V) (t : T), vs = [.ref p, .ref ea, x] ∧ Pn.Pen H p l ns c ∧ ns.length ≤ 1000 ∧ c ≤ 700000000 ∧ H ea = some (.lst es) ∧ F2 (EqV K H) eqs es ∧ Egd eqs ∧ eqs.length ≤ 10 ∧ Tm K H t x ∧ Gt 8 80 t ∧
  ∀ d (ls : List Tri) xs H' c', H d = none → H' d = some (.lst xs) → DpAll K H' xs (ls.map triD) → ls.length ≤ 6 → (∀ q ∈ ls, q.1.length ≤ 60) → c' ≤ c + 20 → Pn.Pen H' p l ns c' → Pn.But p H H' → Q (.ref d) H'
theorem ok_dc {f fD fP fA fS fQ fK : Addr} {fd fdD fdP fdA fdS fdQ fdK : FuncData} {k : Nat} (F : Fun K "_law_drawn_chain" "_law_drawn_chain" sDc f fd) (hDraw : Has P w K mg base k "_law_draw" ["_law_pen_here", "_law_many"] Pn.spDraw fD fdD) (hPick : Has P w K mg base k "_law_pick" ["_law_pen_here", "_law_some"] (Pn.spPick K) fK fdK)
    (hPaths : Has P w K mg base k "_law_paths" ["_law_term"] (spLPathsG K 70) fP fdP) (hAt : Has P w K mg base k "_law_at" ["_law_term", "_law_path"] (spAt K) fA fdA) (hSize : Has P w K mg base k "_law_size" ["_law_term"] (spLSize K 70) fS fdS) (hPut : Has P w K mg base k "_law_put_at" ["_law_term", "_law_path", "_law_new"] (spPut K 70) fQ fdQ)
    (m_range : mg "range" = none) (m_enumerate : mg "enumerate" = none) (m_int : mg "int" = none) : FnOk P w K mg base CX0 (k + 1) f fd ["_law_pen_here", "_law_equations_here", "_law_term"] (spDc K) := by
  refine F.ok scDc (fun vs H Q E h => ?_) (fun cdv A outer s H vs Q E hr h => ?_)
  · obtain ⟨p, l, ea, x, ns, c, eqs, es, t, rfl, _⟩ := h
    rfl
  · obtain ⟨p, l, ea, x, ns, c, eqs, es, t, rfl, hP, hlen, hc, hE, fE, eg, many, ht, gt, q⟩ := h
    refine ⟨_, (pss_cons (ps_set (i := 3) scDc.nd rfl (.inl rfl) (pe_lst pa_nil))
    (pss_cons (ps_for PassesOwn.never rfl (pi_range1 (by rfl) m_range (pa_cons (pe_call hDraw.G hr (by rfl) hDraw.g hDraw.kp hDraw.b .nil pass0 (pa_cons (pv 0) (pa_cons pe_int pa_nil))) pa_nil)) (pg_name (i := 4) scDc.nd rfl (.inl rfl))
      (pss_cons (ps_set (i := 5) scDc.nd rfl (.inl rfl) (pe_lst pa_nil))
      (pss_cons (ps_for PassesOwn.never rfl (pi_list (pe_call hPaths.G hr (by rfl) hPaths.g hPaths.kp hPaths.b .nil pass0 (pa_cons (pv 2) pa_nil))) (pg_name (i := 6) scDc.nd rfl (.inl rfl))
        (pss_one (ps_for PassesOwn.never rfl (pi_enum (by rfl) m_enumerate (pa_cons (pv 1) pa_nil)) (pg_tup rfl (pgs_cons (pg_name (i := 7) scDc.nd rfl (.inl rfl)) (pgs_cons (pg_tup rfl (pgs_cons (pg_name (i := 8) scDc.nd rfl (.inl rfl)) (pgs_cons (pg_name (i := 9) scDc.nd rfl (.inl rfl)) pgs_nil))) pgs_nil)))
          (pss_cons (ps_set (i := 10) scDc.nd rfl (.inl rfl) (pe_call hAt.G hr (by rfl) hAt.g hAt.kp hAt.b .nil pass0 (pa_cons (pv 2) (pa_cons (pv 6) pa_nil))))
          (pss_one (ps_set (i := 5) scDc.nd rfl (.inl rfl) (pe_op op_cat (pe_op op_cat (pv 5) (pe_op op_rep (pe_lst (pa_cons (pe_tup (pa_cons (pv 6) (pa_cons (pv 7) (pa_cons pe_bl pa_nil)))) pa_nil)) (pe_callTy (r := rIntV) call_int1 (by rfl) m_int (by decide +kernel) (pa_cons (pe_cmpR (op_eqD (hu64 hr)) (pv 10) (pv 8) (nomark _)) pa_nil)))) (pe_op op_rep (pe_lst (pa_cons (pe_tup (pa_cons (pv 6) (pa_cons (pv 7) (pa_cons pe_bl pa_nil)))) pa_nil)) (pe_callTy (r := rIntV) call_int1 (by rfl) m_int (by decide +kernel) (pa_cons (pe_cmpR (op_eqD (hu64 hr)) (pv 10) (pv 9) (nomark _)) pa_nil))))))))))
      (pss_cons (ps_if (PW.pt (pw_or (pt_cmpR (op_eqD (hu64 hr)) (pv 5) (pe_lst pa_nil) (nomark _)) (pw_or1 (pt_cmpR op_gt (pe_call hSize.G hr (by rfl) hSize.g hSize.kp hSize.b .nil pass0 (pa_cons (pv 2) pa_nil)) pe_int (nomark _)))))
        (pss_one ps_break) pss_nil)
      (pss_cons (ps_expr (pe_bm PySem.F.plainAttrs_list PySem.F.slot_list_append PySem.F.type_list_append mt_append (pv 3) (pa_cons (pe_call hPick.G hr (by rfl) hPick.g hPick.kp hPick.b .nil pass0 (pa_cons (pv 0) (pa_cons (pv 5) pa_nil))) pa_nil)))
      (pss_cons (ps_asg (pe_ix ix_list (pv 3) (pe_un un_neg pe_int) (fun _ _ => rfl)) (pg_tup rfl (pgs_cons (pg_name (i := 6) scDc.nd rfl (.inl rfl)) (pgs_cons (pg_name (i := 7) scDc.nd rfl (.inl rfl)) (pgs_cons (pg_name (i := 11) scDc.nd rfl (.inl rfl)) pgs_nil)))))
      (pss_one (ps_set (i := 2) scDc.nd rfl (.inl rfl) (pe_call hPut.G hr (by rfl) hPut.g hPut.kp hPut.b .nil pass0 (pa_cons (pv 2) (pa_cons (pv 6) (pa_cons (pe_ix ix_tup (pe_ix ix_list (pv 1) (pv 7) (fun _ _ => rfl)) (pe_ifExp (pt_true (pv 11)) pe_int pe_int) (fun _ _ => rfl)) pa_nil))))))))))))
    (pss_one (ps_ret (pv 3))))), ?_⟩
    refine ⟨Nat.zero_le _, fun D nD => ?_⟩
    have s1 : Same H (upd H D (.lst [])) := same_new (fun b o e => e) nD _
    have m1 : (upd H D (.lst [])) D = some (.lst []) := upd_same
    have P1 := pen_same hP s1
    have b1 := Pn.But.of (p := p) s1
    generalize upd H D (.lst []) = H1 at s1 m1 P1 b1
    have pD := pen_kept hP nD
    refine ⟨.ref p, rfl, p, l, ns, c, 7, rfl, P1, hlen, by omega, by decide, by decide, fun r H2 r0 r1 P2 b2 => ?_⟩
    have b02 := b1.trans b2
    have m2 := b2 _ _ pD m1
    have ht2 := Tm.mono (pen_tk hP b02) _ _ ht
    refine ⟨_, rfl, by omega, by omega, ?_⟩
    have rn : r.toNat ≤ 6 := by omega
    have fin : ∀ (G : Hp) (ls : List Tri) (acc : List V) (c2 : Nat), Pn.But p H G → G D = some (.lst acc) → DpAll K G acc (ls.map triD) → ls.length ≤ 6 → Pn.Pen G p l ns c2 → c2 ≤ c + 20 → (∀ q ∈ ls, q.1.length ≤ 60) → Q (.ref D) G := fun G ls acc c2 b g ds ll P hc2 pl => q D ls acc G c2 nD g ds ll pl hc2 P b
    refine for_range (lo := 0) (n := r.toNat) (fun i σ G => ∃ (z : T) (yz : V) (v4 v5 v6 v7 v8 v9 va vb : Option V) (ls : List Tri) (acc : List V) (c2 : Nat), σ = [some (.ref p), some (.ref ea), some yz, some (.ref D), v4, v5, v6, v7, v8, v9, va, vb] ∧ Pn.But p H G ∧ G D = some (.lst acc) ∧ DpAll K G acc (ls.map triD) ∧ ls.length = i ∧
      Pn.Pen G p l ns c2 ∧ c2 ≤ c + 1 + i ∧ Tm K G z yz ∧ Gt (8 + 4 * i) (80 + 40 * i) z ∧ ∀ q ∈ ls, q.1.length ≤ 60)
      ⟨t, x, none, none, none, none, none, none, none, none, [], [], c + 1, rfl, b02, m2, .nil, rfl, P2, by omega, ht2, gt, fun q hq => nomatch hq⟩ ?_ ?_
    · rintro i σ G hi ⟨z, yz, v4, v5, v6, v7, v8, v9, va, vb, ls, acc, c2, rfl, b, g, ds, ll, PG, hc2, mz, gz, pl⟩
      have out : Q (.ref D) G := fin G ls acc c2 b g ds (by omega) PG (by omega) pl
      refine ⟨Nat.zero_le _, fun S0 nS0 => ?_⟩
      have sS : Same G (upd G S0 (.lst [])) := same_new (fun b o e => e) nS0 _
      have mS : (upd G S0 (.lst [])) S0 = some (.lst []) := upd_same
      generalize upd G S0 (.lst []) = G1 at sS mS
      have gzd := gz.dep
      have gzs := gz.size
      refine ⟨yz, rfl, z, yz, rfl, Tm.mono (TK.same sS) _ _ mz, gz.vars, by omega, by omega, fun G2 pp us sP npp gpp pus => ?_⟩
      have s02 : Same G G2 := sS.trans sP
      have lus := pus.len
      rw [T.paths_len] at lus
      refine ⟨pp, rfl, ⟨us, .inl (.inl gpp)⟩, for_list (K := K) (a := pp) (xs := us) (fun j σ G' => ∃ (v6 v7 v8 v9 va : Option V) (dS : Addr) (ls' : List Tri) (acc' : List V), σ = [some (.ref p), some (.ref ea), some yz, some (.ref D), some (.int (0 + (i : Int))), some (.ref dS), v6, v7, v8, v9, va, vb] ∧ Same G2 G' ∧ G' dS = some (.lst acc') ∧ DpAll K G' acc' (ls'.map triD) ∧ G dS = none ∧ ls'.length ≤ j * 20 ∧ ∀ q ∈ ls', Fits eqs.length z q)
        ⟨v6, v7, v8, v9, va, S0, [], [], rfl, Same.refl _, sP _ _ mS, .nil, nS0, Nat.zero_le _, fun q hq => nomatch hq⟩ (fun j σ G' _ ⟨_, _, _, _, _, _, _, _, _, s, _⟩ => .inl (.inl (s _ _ gpp))) ?_ ?_⟩
      · rintro j u σ G' hj ⟨v6, v7, v8, v9, va, dS, ls', acc', rfl, s3, gS, dsS, nS, lS, fits⟩
        obtain ⟨pth, hpth, ⟨pa, rfl, spa⟩⟩ := pus.get hj
        obtain ⟨zu, hzu⟩ := T.paths_sub z pth (List.mem_of_getElem? hpth)
        have gu := gz.sub hzu
        have jlt := (List.getElem?_eq_some_iff.mp hpth).1
        rw [T.paths_len] at jlt
        have s03 : Same G G' := s02.trans s3
        have bG' : Pn.But p H G' := b.trans (Pn.But.of s03)
        have hE' : G' ea = some (.lst es) := bG' _ _ (fun e => by
          obtain ⟨⟨_, _, _, e2, _⟩, _⟩ := hP
          rw [e, e2] at hE
          cases hE) hE
        have les := fE.len
        refine ⟨.ref ea, rfl, ea, es, rfl, .inl (.inl hE'), for_it walk_enum (fun m σ G'' => ∃ (v7 v8 v9 va : Option V) (dS : Addr) (ls' : List Tri) (acc' : List V), σ = [some (.ref p), some (.ref ea), some yz, some (.ref D), some (.int (0 + (i : Int))), some (.ref dS), some (.ref pa), v7, v8, v9, va, vb] ∧ Same G' G'' ∧ G'' dS = some (.lst acc') ∧ DpAll K G'' acc' (ls'.map triD) ∧ G dS = none ∧ ls'.length ≤ j * 20 + 2 * m ∧ ∀ q ∈ ls', Fits eqs.length z q)
          ⟨v7, v8, v9, va, dS, ls', acc', rfl, Same.refl _, gS, dsS, nS, by omega, fits⟩ (fun m σ G'' _ ⟨_, _, _, _, _, _, _, _, s, _⟩ => .inl (.inl (s _ _ hE'))) ?_ ?_⟩
        · clear gS dsS lS fits nS
          rintro m u σ G3 G4 hm ⟨v7, v8, v9, va, dS, ls', acc', rfl, s4, gS, dsS, nS, lS, fits⟩ ⟨pt, w1, y, rfl, npt, rfl, ew, hy⟩
          cases ew
          have s9 : Same G3 (upd G3 pt (.tup [.int (m : Int), y])) := same_new (fun b o e => e) npt _
          have mpt : (upd G3 pt (.tup [.int (m : Int), y])) pt = some (.tup [.int (m : Int), y]) := upd_same
          replace gS := s9 _ _ gS
          replace dsS := dpAll_same s9 dsS
          generalize upd G3 pt (.tup [.int (m : Int), y]) = G4 at s9 mpt gS dsS
          have s04 : Same G' G4 := s4.trans s9
          have s05 : Same G G4 := s03.trans s04
          have bG4 : Pn.But p H G4 := b.trans (Pn.But.of s05)
          obtain ⟨e, he, hev⟩ := (fE.mono (EqV.mono (pen_tk hP bG4))).get hy
          obtain ⟨eb, L, R, rfl, seb, mL, mR⟩ := hev
          obtain ⟨gL, gR⟩ := eg e (List.mem_of_getElem? he)
          have mlt := (List.getElem?_eq_some_iff.mp he).1
          refine ⟨pt, _, rfl, .inl (.inl mpt), rfl, _, _, rfl, _, _, rfl, ⟨eb, _, rfl, seb, rfl, _, _, rfl, _, _, rfl, rfl, rfl, ?_⟩⟩
          have spa4 := (TK.same (s3.trans s04)).sq spa
          have mz4 := Tm.mono (TK.same s05) _ _ mz
          refine ⟨yz, rfl, .ref pa, rfl, z, zu, yz, pa, pth, rfl, mz4, spa4, hzu, fun pv10 mpv => ?_⟩
          let σ' : L2.St := [some (.ref p), some (.ref ea), some yz, some (.ref D), some (.int (0 + (i : Int))), some (.ref dS), some (.ref pa), some (.int (m : Int)), some L, some R, some pv10, vb]
          have tri : ∀ bb : Bool, EL K (tLst (tCons (tTup (tCons (tVar 6) (tCons (tVar 7) (tCons (tC (.bl bb)) tNil)))) tNil)) σ' G4 [triD (pth, (m : Int), bb)] := fun bb =>
            el_lst (eds_cons (ed_tup (eds_cons (ed_var (v := .ref pa) rfl (iD_dp spa4)) (eds_cons (ed_var (v := .int (m : Int)) rfl (.int _)) (eds_cons ed_bl eds_nil))) (by show 3 ≤ 1000; decide)) eds_nil) (by show 1 ≤ 1000; decide)
          have all := el_cat (el_cat_var (σ := σ') (H := G4) (i := 5) rfl gS dsS (el_rep (tri true) (ed_intB (ed_eqD (t1 := tVar 10) (t2 := tVar 8) (ed_var (v := pv10) rfl (Tm.dp _ _ mpv)) (ed_var (v := L) rfl (Tm.dp _ _ mL)) (gu.shape (by omega)) (gL.shape (by decide)))) (by show 1 ≤ 1000; decide)) (by
              rw [List.length_map]
              have : ∀ bb ds, (repD bb ds).length ≤ ds.length := fun bb ds => by cases bb <;> simp [repD]
              have h2 := this (PyData.eqv zu.d e.1.d) [triD (pth, (m : Int), true)]
              rw [List.length_singleton] at h2
              omega))
            (el_rep (tri false) (ed_intB (ed_eqD (t1 := tVar 10) (t2 := tVar 9) (ed_var (v := pv10) rfl (Tm.dp _ _ mpv)) (ed_var (v := R) rfl (Tm.dp _ _ mR)) (gu.shape (by omega)) (gR.shape (by decide)))) (by show 1 ≤ 1000; decide)) (by
              rw [List.length_append, List.length_map]
              have : ∀ bb ds, (repD bb ds).length ≤ ds.length := fun bb ds => by cases bb <;> simp [repD]
              have h2 := this (PyData.eqv zu.d e.1.d) [triD (pth, (m : Int), true)]
              have h3 := this (PyData.eqv zu.d e.2.d) [triD (pth, (m : Int), false)]
              rw [List.length_singleton] at h2 h3
              omega)
          refine all.run G4 (Same.refl _) _ fun l2 xs2 G5 s6 nl2 gl2 dl2 => ?_
          have reps : ∃ ls2 : List Tri, ls2.map triD = ls'.map triD ++ repD (PyData.eqv zu.d e.1.d) [triD (pth, (m : Int), true)] ++ repD (PyData.eqv zu.d e.2.d) [triD (pth, (m : Int), false)] ∧ ls2.length ≤ ls'.length + 2 ∧ ∀ q ∈ ls2, Fits eqs.length z q := by
            have one : ∀ bb b2 : Bool, ∃ ls3 : List Tri, ls3.map triD = repD bb [triD (pth, (m : Int), b2)] ∧ ls3.length ≤ 1 ∧ ∀ q ∈ ls3, Fits eqs.length z q := fun bb b2 => by
              cases bb
              · exact ⟨[], rfl, Nat.zero_le _, fun q hq => nomatch hq⟩
              · refine ⟨[(pth, (m : Int), b2)], rfl, Nat.le_refl _, fun q hq => ?_⟩
                rw [List.mem_singleton.mp hq]
                exact ⟨⟨zu, hzu⟩, by show 0 ≤ (m : Int); omega, by show (m : Int) < _; omega⟩
            obtain ⟨l3, e3, n3, f3⟩ := one (PyData.eqv zu.d e.1.d) true
            obtain ⟨l4, e4, n4, f4⟩ := one (PyData.eqv zu.d e.2.d) false
            refine ⟨ls' ++ l3 ++ l4, by rw [List.map_append, List.map_append, e3, e4], by rw [List.length_append, List.length_append]; omega, fun q hq => ?_⟩
            rcases List.mem_append.mp hq with hq | hq
            · rcases List.mem_append.mp hq with hq | hq
              · exact fits q hq
              · exact f3 q hq
            · exact f4 q hq
          obtain ⟨ls2, e2, n2, f2⟩ := reps
          rw [← e2] at dl2
          exact ⟨_, _, _, _, l2, ls2, xs2, rfl, s04.trans s6, gl2, dl2, none_before s05 nl2, by omega, f2⟩
        · clear gS dsS lS fits nS
          rintro σ G'' ⟨v7, v8, v9, va, dS, ls', acc', rfl, s4, gS, dsS, nS, lS, fits⟩
          exact ⟨_, _, _, _, _, dS, ls', acc', rfl, s3.trans s4, gS, dsS, nS, by rw [Nat.succ_mul]; omega, fits⟩
      · rintro σ G' ⟨v6, v7, v8, v9, va, dS, ls', acc', rfl, s3, gS, dsS, nS, lS, fits⟩
        have s03 : Same G G' := s02.trans s3
        have b' : Pn.But p H G' := b.trans (Pn.But.of s03)
        have g' := s03 _ _ g
        have ds' := dpAll_same s03 ds
        have PG' := pen_same PG s03
        have mz' := Tm.mono (TK.same s03) _ _ mz
        rw [lus] at lS
        refine ⟨.ref dS, rfl, Nat.zero_le _, fun N1 nN1 => ?_⟩
        have sN : Same G' (upd G' N1 (.lst [])) := same_new (fun b o e => e) nN1 _
        have mN : (upd G' N1 (.lst [])) N1 = some (.lst []) := upd_same
        replace b' := b'.trans (Pn.But.of sN)
        replace g' := sN _ _ g'
        replace ds' := dpAll_same sN ds'
        replace PG' := pen_same PG' sN
        replace mz' := Tm.mono (TK.same sN) _ _ mz'
        replace gS := sN _ _ gS
        replace dsS := dpAll_same sN dsS
        generalize upd G' N1 (.lst []) = G3 at sN mN b' g' ds' PG' mz' gS dsS
        refine ⟨.list (ls'.map triD), .list [], .lst (.inl (.inl gS)) dsS, .lst (.inl (.inl mN)) .nil, triDs_shaped _, by decide +kernel, _, rfl, ?_⟩
        rw [eqv_nil]
        cases hne : (ls'.map triD).isEmpty with
        | true => exact iteT (iteT ⟨.ref D, rfl, fin G3 ls acc c2 b' g' ds' (by omega) PG' (by omega) pl⟩)
        | false =>
        refine iteF ?_
        refine ⟨yz, rfl, z, yz, rfl, mz', by omega, by omega, fun G4 s7 => ⟨_, _, rfl, rfl, _, rfl, ?_⟩⟩
        replace b' := b'.trans (Pn.But.of s7)
        replace g' := s7 _ _ g'
        replace ds' := dpAll_same s7 ds'
        replace PG' := pen_same PG' s7
        replace mz' := Tm.mono (TK.same s7) _ _ mz'
        replace gS := s7 _ _ gS
        replace dsS := dpAll_same s7 dsS
        refine ite2 (fun _ => ⟨.ref D, rfl, fin G4 ls acc c2 b' g' ds' (by omega) PG' (by omega) pl⟩) (fun _ => ?_)
        have laS := dpAll_len dsS
        rw [List.length_map] at laS
        have neS : acc' ≠ [] := fun e => by
          rw [e] at laS
          rw [List.length_eq_zero_iff.mp laS.symm] at hne
          cases hne
        have pS : dS ≠ p := fun e => by
          obtain ⟨⟨_, _, _, e2, _⟩, _⟩ := PG
          rw [e, e2] at nS
          cases nS
        refine ⟨.ref D, rfl, .inl ⟨rfl, _, .inl (.inl g')⟩, .ref p, rfl, .ref dS, rfl, p, l, dS, ns, c2, acc', rfl, PG', hlen, by omega, .inl (.inl (.inl gS)), neS, by omega, pS, fun xq G5 hxq P5 b5 => ?_⟩
        obtain ⟨dq, hdq, hvq⟩ := dpAll_mem dsS hxq
        obtain ⟨tq, htq, rfl⟩ := List.mem_map.mp hdq
        obtain ⟨⟨zu, hzu⟩, q0, q1⟩ := fits tq htq
        have g5 := b5 _ _ pD g'
        have ds5 := pen_dpAll PG' b5 ds'
        have hv5 := pen_dp PG' b5 hvq
        have mz5 := Tm.mono (pen_tk PG' b5) _ _ mz'
        have lacc := dpAll_len ds5
        rw [List.length_map] at lacc
        refine ⟨D, acc, xq, rfl, rfl, g5, by rw [sizeLine_eq]; omega, ?_⟩
        have b6 : Pn.But p H (upd G5 D (.lst (acc ++ [xq]))) := but_on (b'.trans b5) nD _
        have k6 : TK G5 (upd G5 D (.lst (acc ++ [xq]))) := TK.lst g5 _
        have P6 := pen_on hP nD P5 (.lst (acc ++ [xq]))
        have g6 : (upd G5 D (.lst (acc ++ [xq]))) D = some (.lst (acc ++ [xq])) := upd_same
        have kL : ∀ {a : Addr} {ys : List V}, a ≠ D → SqL K G5 a ys → SqL K (upd G5 D (.lst (acc ++ [xq]))) a ys := fun {a ys} n h => by
          rcases h with (h | ⟨o, h⟩) | h
          · exact .inl (.inl (by rw [upd_ne n]; exact h))
          · exact .inl (.inr ⟨o, by rw [upd_ne n]; exact h⟩)
          · exact .inr h
        have tri6 : ∀ {v : V} {q : Tri}, Dp K G5 v (triD q) → Dp K (upd G5 D (.lst (acc ++ [xq]))) v (triD q) := fun {v q} h => by
          obtain ⟨a, pa, rfl, h1, h2⟩ := triD_dp h
          exact .tup (k6.sq h1) (.cons (iD_dp (k6.sq h2)) (.cons (.int _) (.cons (.bl _) .nil)))
        have tris6 : ∀ {ls : List Tri} {vs : List V}, DpAll K G5 vs (ls.map triD) → DpAll K (upd G5 D (.lst (acc ++ [xq]))) vs (ls.map triD) := fun {ls} => by
          induction ls with
          | nil => intro vs h; cases h; exact .nil
          | cons q ls ih =>
            intro vs h
            cases h with
            | cons h1 h2 => exact .cons (tri6 h1) (ih h2)
        have ds6 := tris6 ds5
        have hv6 := tri6 hv5
        have mz6 := Tm.mono k6 _ _ mz5
        generalize upd G5 D (.lst (acc ++ [xq])) = G6 at b6 k6 P6 g6 ds6 hv6 mz6
        clear kL tri6 tris6
        obtain ⟨qa, qp, rfl, sq1, sq2⟩ := triD_dp hv6
        refine ⟨.ref D, rfl, 1, rfl, D, _, -1, .ref qa, rfl, rfl, .inl (.inl g6), atI_last _ _, ?_⟩
        refine ⟨qa, _, rfl, sq1, rfl, _, _, rfl, _, _, rfl, _, _, rfl, rfl, ?_⟩
        obtain ⟨m, hm⟩ : ∃ m : Nat, tq.2.1 = (m : Int) := ⟨tq.2.1.toNat, by omega⟩
        have mlt : m < eqs.length := by omega
        have hem := List.getElem?_eq_getElem mlt
        generalize eqs[m] = e at hem
        obtain ⟨evv, hev, ⟨eb, L, R, rfl, seb, mL, mR⟩⟩ := (fE.mono (EqV.mono (pen_tk hP b6))).get' hem
        obtain ⟨gL, gR⟩ := eg e (List.mem_of_getElem? hem)
        have hE6 : G6 ea = some (.lst es) := b6 _ _ (fun e => by
          obtain ⟨⟨_, _, _, e2, _⟩, _⟩ := hP
          rw [e, e2] at hE
          cases hE) hE
        have psl := sub_len hzu
        have next : ∀ (S : V) (s : T), Tm K G6 s S → Gt 4 40 s → ∃ r', T.put s tq.1 z = some r' ∧ ∀ v G7, Same G6 G7 → Tm K G7 r' v → ∃ (z' : T) (yz' : V) (w4 w5 w6 w7 w8 w9 wa wb : Option V) (ls2 : List Tri) (acc2 : List V) (c3 : Nat), [some (.ref p), some (.ref ea), some v, some (.ref D), some (.int (0 + (i : Int))), some (.ref dS), some (.ref qp), some (.int tq.2.1), v8, v9, va, some (.bl tq.2.2)] = [some (.ref p), some (.ref ea), some yz', some (.ref D), w4, w5, w6, w7, w8, w9, wa, wb] ∧ Pn.But p H G7 ∧ G7 D = some (.lst acc2) ∧ DpAll K G7 acc2 (ls2.map triD) ∧ ls2.length = i + 1 ∧
            Pn.Pen G7 p l ns c3 ∧ c3 ≤ c + 1 + (i + 1) ∧ Tm K G7 z' yz' ∧ Gt (8 + 4 * (i + 1)) (80 + 40 * (i + 1)) z' ∧ ∀ q ∈ ls2, q.1.length ≤ 60 := by
          intro S s mS gs
          obtain ⟨r', h1, h2⟩ := gz.put hzu gs
          refine ⟨r', h1, fun v G7 s7 mv => ⟨r', v, _, _, _, _, _, _, _, _, ls ++ [tq], acc ++ [.ref qa], c2 + 1, rfl, b6.trans (Pn.But.of s7), s7 _ _ g6, ?_, by rw [List.length_append, List.length_singleton, ll], pen_same P6 s7, by omega, mv, h2.mono (by omega) (by omega), fun q hq => ?_⟩⟩
          · rw [List.map_append]
            exact dpAll_same s7 (dpAll_app ds6 (.cons hv6 .nil))
          · rcases List.mem_append.mp hq with h | h
            · exact pl q h
            · rw [List.mem_singleton.mp h]
              omega
        rw [hm] at next ⊢
        cases hb : tq.2.2 with
        | true =>
          rw [hb] at next
          obtain ⟨r', h1, h2⟩ := next R e.2 mR gR
          exact ⟨yz, rfl, .ref qp, rfl, .ref ea, rfl, .int (m : Int), rfl, ea, _, _, _, rfl, rfl, .inl (.inl hE6), atI_nat hev, .bl true, rfl, true, rfl, iteT ⟨eb, _, _, _, rfl, rfl, seb, atI_nat (j := 1) rfl, z, e.2, r', yz, R, qp, tq.1, rfl, mz6, mR, sq2, by omega, by omega, h1, fun v G7 s7 mv => h2 v G7 s7 mv⟩⟩
        | false =>
          rw [hb] at next
          obtain ⟨r', h1, h2⟩ := next L e.1 mL gL
          exact ⟨yz, rfl, .ref qp, rfl, .ref ea, rfl, .int (m : Int), rfl, ea, _, _, _, rfl, rfl, .inl (.inl hE6), atI_nat hev, .bl false, rfl, false, rfl, iteF ⟨eb, _, _, _, rfl, rfl, seb, atI_nat (j := 0) rfl, z, e.1, r', yz, L, qp, tq.1, rfl, mz6, mL, sq2, by omega, by omega, h1, fun v G7 s7 mv => h2 v G7 s7 mv⟩⟩
    · rintro σ G ⟨z, yz, v4, v5, v6, v7, v8, v9, va, vb, ls, acc, c2, rfl, b, g, ds, ll, PG, hc2, mz, gz, pl⟩
      exact ⟨.ref D, rfl, fin G ls acc c2 b g ds (by omega) PG (by omega) pl⟩
end
end Ad

/-! A chain with something changed. -/
namespace Ad
open PySem PySem.Spec PySem.Calls PyProof.Rows L2
abbrev sBent : Stmt := topS 26
theorem scBent : FnScope ["_law_pen_here", "_law_chain", "_law_many", "_law_k", "_law_path", "_law_index", "_law_way", "_law_some", "_law_one"] ["_law_pen_here", "_law_chain", "_law_many"] (defScope sBent) := ⟨rfl, rfl, rfl, by decide +kernel, rfl, by decide +kernel, by decide +kernel⟩
/-- paths in it are short -/
def Okd (d : PyData) : Prop := ∀ p n b, d = .tuple [.tuple p, n, b] → p.length ≤ 1000
theorem okd_other {d : PyData} (h : ∀ p n b, d ≠ .tuple [.tuple p, n, b]) : Okd d := fun p n b e => absurd e (h p n b)
theorem okd_tri {p : List PyData} {n b : PyData} (h : p.length ≤ 1000) : Okd (.tuple [.tuple p, n, b]) := fun p' n' b' e => by
  cases e
  exact h
/-- the sequence of what a chain is bent to -/
theorem mem_cut {ds : List PyData} {lo hi : Option Int} {d : PyData} (h : d ∈ cutD ds lo hi) : d ∈ ds := List.mem_of_mem_drop (List.mem_of_mem_take h)
/-- a row to pick from: its own list, of data that stood before -/
def RowL (K : PySem.W.Frag) (H8 : Hp) (D : Addr) (G : Hp) (v : V) : Prop := ∃ ds : List PyData, ds.length ≤ 2 ∧ (∀ d ∈ ds, Okd d) ∧ ∃ ll xx, v = .ref ll ∧ ll ≠ D ∧ G ll = some (.lst xx) ∧ DpAll K H8 xx ds
section
variable {P : Program} {w : World} {K : PySem.W.Frag} {mg : Str → Option Value} {base : Heap}
def spBent (K : PySem.W.Frag) : Sp := fun vs H Q _ => ∃ (p l ca : Addr) (ns : List Int) (c : Nat) (many : Int) (ls : List Tri) (xs : List V), vs = [.ref p, .ref ca, .int many] ∧ Pn.Pen H p l ns c ∧ ns.length ≤ 1000 ∧ c ≤ 800000000 ∧ H ca = some (.lst xs) ∧ DpAll K H xs (ls.map triD) ∧ ls.length ≤ 6 ∧ (∀ q ∈ ls, q.1.length ≤ 60) ∧
  ∀ d ds ys H' c', H d = none → H' d = some (.lst ys) → DpAll K H' ys ds → ds.length ≤ 8 → (∀ d ∈ ds, Okd d) → c' ≤ c + 2 → Pn.Pen H' p l ns c' → Pn.But p H H' → Q (.ref d) H'
theorem ok_bent {f fD fK : Addr} {fd fdD fdK : FuncData} {k : Nat} (F : Fun K "_law_bent" "_law_bent" sBent f fd) (hDraw : Has P w K mg base k "_law_draw" ["_law_pen_here", "_law_many"] Pn.spDraw fD fdD) (hPick : Has P w K mg base k "_law_pick" ["_law_pen_here", "_law_some"] (Pn.spPick K) fK fdK)
    (m_list : mg "list" = none) (m_len : mg "len" = none) : FnOk P w K mg base CX0 (k + 1) f fd ["_law_pen_here", "_law_chain", "_law_many"] (spBent K) := by
  refine F.ok scBent (fun vs H Q E h => ?_) (fun cdv A outer s H vs Q E hr h => ?_)
  · obtain ⟨p, l, ca, ns, c, many, ls, xs, rfl, _⟩ := h
    rfl
  · obtain ⟨p, l, ca, ns, c, many, ls, xs, rfl, hP, hlen, hc, hC, hD, few, pl, q⟩ := h
    refine ⟨_, (pss_cons (ps_if (pt_cmpR (op_eqD (hu64 hr)) (pv 1) (pe_lst pa_nil) (nomark _))
      (pss_one (ps_ret (pe_lst (pa_cons (pe_call hPick.G hr (by rfl) hPick.g hPick.kp hPick.b .nil pass0 (pa_cons (pv 0) (pa_cons (pe_lst (pa_cons pe_non (pa_cons (pe_tup pa_nil) (pa_cons (pe_tup (pa_cons (pe_tup pa_nil) (pa_cons pe_int pa_nil))) (pa_cons (pe_tup (pa_cons (pe_tup pa_nil) (pa_cons (pv 2) (pa_cons pe_bl pa_nil)))) (pa_cons (pe_tup (pa_cons (pe_tup (pa_cons pe_int pa_nil)) (pa_cons pe_int (pa_cons pe_bl pa_nil)))) (pa_cons (pe_tup (pa_cons pe_int (pa_cons pe_int (pa_cons pe_bl pa_nil)))) (pa_cons pe_str pa_nil)))))))) pa_nil))) pa_nil)))) pss_nil)
    (pss_cons (ps_set (i := 3) scBent.nd rfl (.inl rfl) (pe_call hDraw.G hr (by rfl) hDraw.g hDraw.kp hDraw.b .nil pass0 (pa_cons (pv 0) (pa_cons (pe_callB call_len_seq (by rfl) m_len PySem.boot_len (pa_cons (pv 1) pa_nil)) pa_nil))))
    (pss_cons (ps_asg (pe_ix ix_list (pv 1) (pv 3) (fun _ _ => rfl)) (pg_tup rfl (pgs_cons (pg_name (i := 4) scBent.nd rfl (.inl rfl)) (pgs_cons (pg_name (i := 5) scBent.nd rfl (.inl rfl)) (pgs_cons (pg_name (i := 6) scBent.nd rfl (.inl rfl)) pgs_nil)))))
    (pss_cons (ps_set (i := 7) scBent.nd rfl (.inl rfl) (pe_lst (pa_cons (pe_tup (pa_cons (pe_op op_catA (pv 4) (pe_tup (pa_cons pe_int pa_nil))) (pa_cons (pv 5) (pa_cons (pv 6) pa_nil)))) (pa_cons (pe_tup (pa_cons (pe_slice sl_tupA (pv 4) po_none (po_some (pe_un un_neg pe_int))) (pa_cons (pv 5) (pa_cons (pv 6) pa_nil)))) (pa_cons (pe_tup (pa_cons (pv 4) (pa_cons (pe_op op_add (pv 5) pe_int) (pa_cons (pv 6) pa_nil)))) (pa_cons (pe_tup (pa_cons (pv 4) (pa_cons (pe_un un_neg pe_int) (pa_cons (pv 6) pa_nil)))) pa_nil))))))
    (pss_cons (ps_set (i := 7) scBent.nd rfl (.inl rfl) (pe_op op_cat (pv 7) (pe_lst (pa_cons (pe_tup (pa_cons (pv 4) (pa_cons (pv 5) (pa_cons pe_int pa_nil)))) (pa_cons (pe_tup (pa_cons (pv 4) (pa_cons (pv 5) (pa_cons (pe_not (pv 6)) pa_nil)))) (pa_cons (pe_tup (pa_cons (pv 4) (pa_cons pe_bl (pa_cons (pv 6) pa_nil)))) (pa_cons (pe_tup (pa_cons (pe_callTy (r := rLstOf K) call_lstOf (by rfl) m_list (by decide +kernel) (pa_cons (pv 4) pa_nil)) (pa_cons (pv 5) (pa_cons (pv 6) pa_nil)))) pa_nil)))))))
    (pss_cons (ps_set (i := 7) scBent.nd rfl (.inl rfl) (pe_op op_cat (pv 7) (pe_lst (pa_cons (pe_tup (pa_cons (pv 4) (pa_cons (pv 5) pa_nil))) (pa_cons (pe_lst (pa_cons (pv 4) (pa_cons (pv 5) (pa_cons (pv 6) pa_nil)))) (pa_cons (pe_tup (pa_cons (pe_op op_catA (pe_tup (pa_cons pe_bl pa_nil)) (pe_slice sl_tupA (pv 4) (po_some pe_int) po_none)) (pa_cons (pv 5) (pa_cons (pv 6) pa_nil)))) (pa_cons (pe_tup (pa_cons (pv 4) (pa_cons (pv 2) (pa_cons (pv 6) pa_nil)))) (pa_cons pe_non pa_nil))))))))
    (pss_cons (ps_expr (pe_bm PySem.F.plainAttrs_list PySem.F.slot_list_append PySem.F.type_list_append mt_append (pv 7) (pa_cons (pe_tup (pa_cons (pe_tup (pa_cons (pe_un un_neg pe_int) pa_nil)) (pa_cons (pv 5) (pa_cons (pv 6) pa_nil)))) pa_nil)))
    (pss_one (ps_ret (pe_op op_cat (pe_op op_cat (pe_slice sl_list (pv 1) po_none (po_some (pv 3))) (pe_call hPick.G hr (by rfl) hPick.g hPick.kp hPick.b .nil pass0 (pa_cons (pv 0) (pa_cons (pe_op op_cat (pe_lc (own := [("_law_one", 8)]) (g := gName 8) (tt := tYes) (te := tLst (tCons (tVar 8) tNil)) rfl scBent.nd (pi_list (pv 7)) (blkOk_by (N := ["_law_pen_here", "_law_chain", "_law_many", "_law_k", "_law_path", "_law_index", "_law_way", "_law_some", "_law_one"]) (sc := defScope sBent) (by decide +kernel)) (fun _ _ _ _ _ => (pg_name (i := 8) scBent.nd rfl (.inl rfl))) (fun _ _ _ _ _ => pts_nil) (fun _ _ _ _ _ => (pe_lst (pa_cons (pv 8) pa_nil)))) (pe_lst (pa_cons (pe_lst pa_nil) (pa_cons (pe_lst (pa_cons (pe_ix ix_list (pv 1) (pv 3) (fun _ _ => rfl)) (pa_cons (pe_ix ix_list (pv 1) (pv 3) (fun _ _ => rfl)) pa_nil))) pa_nil)))) pa_nil)))) (pe_slice sl_list (pv 1) (po_some (pe_op op_add (pv 3) pe_int)) po_none))))))))))), ?_⟩
    have lx := dpAll_len hD
    rw [List.length_map] at lx
    refine ⟨.ref ca, rfl, Nat.zero_le _, fun N1 nN1 => ?_⟩
    have s1 : Same H (upd H N1 (.lst [])) := same_new (fun b o e => e) nN1 _
    have mN : (upd H N1 (.lst [])) N1 = some (.lst []) := upd_same
    have P1 := pen_same hP s1
    have b1 := Pn.But.of (p := p) s1
    have hC1 := s1 _ _ hC
    have hD1 := dpAll_same s1 hD
    generalize upd H N1 (.lst []) = H1 at s1 mN P1 b1 hC1 hD1
    refine ⟨.list (ls.map triD), .list [], .lst (.inl (.inl hC1)) hD1, .lst (.inl (.inl mN)) .nil, triDs_shaped _, by decide +kernel, _, rfl, ?_⟩
    rw [eqv_nil]
    cases hne : (ls.map triD).isEmpty with
    | true =>
      refine iteT ?_
      let σ' : L2.St := [some (.ref p), some (.ref ca), some (.int many), none, none, none, none, none, none]
      have menu : EL K (tLst (tCons (tC .non) (tCons (tTup tNil) (tCons (tTup (tCons (tTup tNil) (tCons (tC (.int 0)) tNil))) (tCons (tTup (tCons (tTup tNil) (tCons (tVar 2) (tCons (tC (.bl true)) tNil)))) (tCons (tTup (tCons (tTup (tCons (tC (.int 0)) tNil)) (tCons (tC (.int 0)) (tCons (tC (.bl true)) tNil)))) (tCons (tTup (tCons (tC (.int 0)) (tCons (tC (.int 0)) (tCons (tC (.bl true)) tNil)))) (tCons (tC (.str "abc")) tNil)))))))) σ' H1
          [.none, .tuple [], .tuple [.tuple [], .int 0], .tuple [.tuple [], .int many, .bool true], .tuple [.tuple [.int 0], .int 0, .bool true], .tuple [.int 0, .int 0, .bool true], .str "abc"] :=
        el_lst (eds_cons ed_non (eds_cons (ed_tup eds_nil (by decide)) (eds_cons (ed_tup (eds_cons (ed_tup eds_nil (by decide)) (eds_cons ed_int eds_nil)) (by show 2 ≤ 1000; decide)) (eds_cons (ed_tup (eds_cons (ed_tup eds_nil (by decide)) (eds_cons (ed_var (v := .int many) rfl (.int _)) (eds_cons ed_bl eds_nil))) (by show 3 ≤ 1000; decide))
          (eds_cons (ed_tup (eds_cons (ed_tup (eds_cons ed_int eds_nil) (by show 1 ≤ 1000; decide)) (eds_cons ed_int (eds_cons ed_bl eds_nil))) (by show 3 ≤ 1000; decide)) (eds_cons (ed_tup (eds_cons ed_int (eds_cons ed_int (eds_cons ed_bl eds_nil))) (by show 3 ≤ 1000; decide)) (eds_cons ed_str eds_nil))))))) (by show 7 ≤ 1000; decide)
      refine ⟨.ref p, rfl, menu.run H1 (Same.refl _) _ fun lm xm H2 s2 nlm glm dlm => ?_⟩
      have lxm := dpAll_len dlm
      have lxm' : xm.length = 7 := lxm
      have P2 := pen_same P1 s2
      have nlm0 := none_before s1 nlm
      refine ⟨p, l, lm, ns, c, xm, rfl, P2, hlen, by omega, .inl (.inl (.inl glm)), (fun e => by rw [e] at lxm'; cases lxm'), by omega, (fun e => by
        obtain ⟨⟨_, _, _, e2, _⟩, _⟩ := hP
        rw [e, e2] at nlm0
        cases nlm0), fun x H3 hx P3 b3 => ?_⟩
      obtain ⟨d, hd, hv⟩ := dpAll_mem dlm hx
      have hv3 := pen_dp P2 b3 hv
      refine ⟨(by show 1 ≤ sizeLine; decide), fun D nD => ?_⟩
      have s4 : Same H3 (upd H3 D (.lst [x])) := same_new (fun b o e => e) nD _
      have nDH : H D = none := by
        cases z : H D with
        | none => rfl
        | some o =>
          by_cases e : D = p
          · rw [e] at nD
            obtain ⟨⟨_, _, _, e2, _⟩, _⟩ := P3
            rw [e2] at nD
            cases nD
          · have e3 := b3 _ _ e (s2 _ _ (s1 _ _ z))
            rw [nD] at e3
            cases e3
      refine q D [d] [x] _ (c + 1) nDH upd_same (.cons (dp_same s4 hv3) .nil) (by show 1 ≤ 8; decide) (fun d' hd' => ?_) (by omega) (pen_same P3 s4) (((b1.trans (Pn.But.of s2)).trans b3).trans (Pn.But.of s4))
      rw [List.mem_singleton.mp hd']
      simp only [List.mem_cons, List.not_mem_nil, or_false] at hd
      rcases hd with e | e | e | e | e | e | e <;> subst e
      · exact okd_other fun p n b z => by cases z
      · exact okd_other fun p n b z => by cases z
      · exact okd_other fun p n b z => by cases z
      · exact okd_tri (by decide)
      · exact okd_tri (by show 1 ≤ 1000; decide)
      · exact okd_other fun p n b z => by cases z
      · exact okd_other fun p n b z => by cases z
    | false =>
      refine iteF ?_
      have pos : 1 ≤ ls.length := by
        cases ls with
        | nil => cases hne
        | cons q r => rw [List.length_cons]; omega
      refine ⟨.ref p, rfl, .ref ca, rfl, ca, _, rfl, .inl (.inl (.inl hC1)), p, l, ns, c, (xs.length : Int), rfl, P1, hlen, by omega, by omega, by omega, fun r H2 r0 r1 P2 b2 => ?_⟩
      obtain ⟨j, rfl⟩ : ∃ j : Nat, r = (j : Int) := ⟨r.toNat, by omega⟩
      have jl : j < ls.length := by omega
      have hC2 := pen_lst P1 b2 hC1
      have hD2 := pen_dpAll P1 b2 hD1
      obtain ⟨tq, htq⟩ : ∃ tq, ls[j]? = some tq := ⟨ls[j], List.getElem?_eq_getElem jl⟩
      have htd : (ls.map triD)[j]? = some (triD tq) := by rw [List.getElem?_map, htq]; rfl
      obtain ⟨cv, hcv, hdcv⟩ := dpAll_get' hD2 htd
      obtain ⟨qa, qp, rfl, sq1, sq2⟩ := triD_dp hdcv
      have plq := pl tq (List.mem_of_getElem? htq)
      refine ⟨.ref ca, rfl, .int (j : Int), rfl, ca, _, _, _, rfl, rfl, .inl (.inl hC2), atI_nat hcv, ?_⟩
      refine ⟨qa, _, rfl, sq1, rfl, _, _, rfl, _, _, rfl, _, _, rfl, rfl, ?_⟩
      let σ' : L2.St := [some (.ref p), some (.ref ca), some (.int many), some (.int (j : Int)), some (.ref qp), some (.int tq.2.1), some (.bl tq.2.2), none, none]
      have vp : ED K (tVar 4) σ' H2 (iD tq.1) := ed_var (v := .ref qp) rfl (iD_dp sq2)
      have vi : ED K (tVar 5) σ' H2 (.int tq.2.1) := ed_var (v := .int tq.2.1) rfl (.int _)
      have vw : ED K (tVar 6) σ' H2 (.bool tq.2.2) := ed_var (v := .bl tq.2.2) rfl (.bl _)
      have pt3 : ∀ {a b c : TE} {x y z : PyData} {σ : L2.St} {H : Hp}, ED K a σ H x → ED K b σ H y → ED K c σ H z → ED K (tTup (tCons a (tCons b (tCons c tNil)))) σ H (.tuple [x, y, z]) := fun h1 h2 h3 => ed_tup (eds_cons h1 (eds_cons h2 (eds_cons h3 eds_nil))) (by show 3 ≤ 1000; decide)
      have plm : (tq.1.map PyData.int).length ≤ 60 := by rw [List.length_map]; exact plq
      have f4 := el_lst (K := K) (σ := σ') (H := H2) (eds_cons (pt3 (ed_catA vp (ed_tup (eds_cons (ed_int (i := 0)) eds_nil) (by show 1 ≤ 1000; decide)) (by show (tq.1.map PyData.int).length + 1 ≤ 1000000; omega)) vi vw)
        (eds_cons (pt3 (ed_sl (i := 4) (tl := tNoPart) (th := tPart (tUn (rU fun i => .int (-i)) (tC (.int 1)))) (lo := none) (hi := some (-1)) (v := .ref qp) rfl (iD_dp sq2) (fun H Q z => z) (fun H Q z => ⟨1, rfl, -1, rfl, z⟩)) vi vw)
        (eds_cons (pt3 vp (ed_add vi (ed_int (i := 1))) vw) (eds_cons (pt3 vp (ed_neg (ed_int (i := 1))) vw) eds_nil)))) (by show 4 ≤ 1000; decide)
      refine to_set (f4.run H2 (Same.refl _) _ fun l4 x4 H3 s3 n4 g4 d4 => ?_)
      let σ4 : L2.St := [some (.ref p), some (.ref ca), some (.int many), some (.int (j : Int)), some (.ref qp), some (.int tq.2.1), some (.bl tq.2.2), some (.ref l4), none]
      have sq23 := (TK.same s3).sq sq2
      have up : ED K (tVar 4) σ4 H3 (iD tq.1) := ed_var (v := .ref qp) rfl (iD_dp sq23)
      have ui : ED K (tVar 5) σ4 H3 (.int tq.2.1) := ed_var (v := .int tq.2.1) rfl (.int _)
      have uw : ED K (tVar 6) σ4 H3 (.bool tq.2.2) := ed_var (v := .bl tq.2.2) rfl (.bl _)
      have f5 := el_cat_var (K := K) (σ := σ4) (H := H3) (i := 7) rfl g4 d4 (el_lst (eds_cons (pt3 up ui (ed_int (i := 1))) (eds_cons (pt3 up ui (ed_not uw)) (eds_cons (pt3 up (ed_bl (b := true)) uw) (eds_cons (pt3 (ed_listOf up) ui uw) eds_nil)))) (by show 4 ≤ 1000; decide)) (by show 4 + 4 ≤ 1000000; decide)
      refine to_set (f5.run H3 (Same.refl _) _ fun l5 x5 H4 s4 n5 g5 d5 => ?_)
      let σ5 : L2.St := [some (.ref p), some (.ref ca), some (.int many), some (.int (j : Int)), some (.ref qp), some (.int tq.2.1), some (.bl tq.2.2), some (.ref l5), none]
      have sq24 := (TK.same s4).sq sq23
      have wp : ED K (tVar 4) σ5 H4 (iD tq.1) := ed_var (v := .ref qp) rfl (iD_dp sq24)
      have wi : ED K (tVar 5) σ5 H4 (.int tq.2.1) := ed_var (v := .int tq.2.1) rfl (.int _)
      have ww : ED K (tVar 6) σ5 H4 (.bool tq.2.2) := ed_var (v := .bl tq.2.2) rfl (.bl _)
      have wm : ED K (tVar 2) σ5 H4 (.int many) := ed_var (v := .int many) rfl (.int _)
      have f6 := el_cat_var (K := K) (σ := σ5) (H := H4) (i := 7) rfl g5 d5 (el_lst (eds_cons (ed_tup (eds_cons wp (eds_cons wi eds_nil)) (by show 2 ≤ 1000; decide)) (eds_cons (ed_lst (eds_cons wp (eds_cons wi (eds_cons ww eds_nil))) (by show 3 ≤ 1000; decide))
        (eds_cons (pt3 (ed_catA (ed_tup (eds_cons (ed_bl (b := true)) eds_nil) (by show 1 ≤ 1000; decide)) (ed_sl (i := 4) (tl := tPart (tC (.int 1))) (th := tNoPart) (lo := some 1) (hi := none) (v := .ref qp) rfl (iD_dp sq24) (fun H Q z => ⟨1, rfl, z⟩) (fun H Q z => z)) (by
          have := cutD_len (tq.1.map PyData.int) (some 1) none
          show 1 + (cutD (tq.1.map PyData.int) (some 1) none).length ≤ 1000000
          omega)) wi ww) (eds_cons (pt3 wp wm ww) (eds_cons ed_non eds_nil))))) (by show 5 ≤ 1000; decide)) (by show 8 + 5 ≤ 1000000; decide)
      refine to_set (f6 H4 (Same.refl _) _ fun l6 x6 H5 s5 n6 d6 => ?_)
      let σ6 : L2.St := [some (.ref p), some (.ref ca), some (.int many), some (.int (j : Int)), some (.ref qp), some (.int tq.2.1), some (.bl tq.2.2), some (.ref l6), none]
      have f7 : ED K (tTup (tCons (tTup (tCons (tUn (rU fun i => .int (-i)) (tC (.int 1))) tNil)) (tCons (tVar 5) (tCons (tVar 6) tNil)))) σ6 (upd H5 l6 (.lst x6)) _ := pt3 (ed_tup (eds_cons (ed_neg (ed_int (i := 1))) eds_nil) (by show 1 ≤ 1000; decide)) (ed_var (v := .int tq.2.1) rfl (.int _)) (ed_var (v := .bl tq.2.2) rfl (.bl _))
      have g6 : (upd H5 l6 (.lst x6)) l6 = some (.lst x6) := upd_same
      have s56 : Same H5 (upd H5 l6 (.lst x6)) := same_new (fun b o e => e) n6 _
      refine ⟨.ref l6, rfl, .inl ⟨rfl, _, .inl (.inl g6)⟩, f7 _ (Same.refl _) _ fun v7 H6 s6 d7 => ?_⟩
      have l6x := dpAll_len d6
      have l6x' : x6.length = 13 := l6x
      refine ⟨l6, x6, v7, rfl, rfl, s6 _ _ g6, by rw [l6x', sizeLine_eq]; decide, ?_⟩
      have s57 : Same H5 (upd H6 l6 (.lst (x6 ++ [v7]))) := same_on (s56.trans s6) n6 _
      have k7 : TK H6 (upd H6 l6 (.lst (x6 ++ [v7]))) := TK.lst (s6 _ _ g6) _
      have g7 : (upd H6 l6 (.lst (x6 ++ [v7]))) l6 = some (.lst (x6 ++ [v7])) := upd_same
      have d7' : Dp K (upd H6 l6 (.lst (x6 ++ [v7]))) v7 (.tuple [.tuple [.int (-1)], .int tq.2.1, .bool tq.2.2]) := by
        cases d7 with
        | @tup a ws _ ha hws =>
        cases hws with
        | cons h1 hws =>
        cases hws with
        | cons h2 hws =>
        cases hws with
        | cons h3 hws =>
        cases hws
        cases h2
        cases h3
        cases h1 with
        | @tup a2 ws2 _ ha2 hws2 =>
        cases hws2 with
        | cons h4 hws2 =>
        cases hws2
        cases h4
        exact .tup (k7.sq ha) (.cons (.tup (k7.sq ha2) (.cons (.int _) .nil)) (.cons (.int _) (.cons (.bl _) .nil)))
      have d8 := dpAll_app (dpAll_same s57 d6) (.cons d7' .nil)
      have s27 : Same H2 (upd H6 l6 (.lst (x6 ++ [v7]))) := s3.trans (s4.trans (s5.trans s57))
      generalize upd H6 l6 (.lst (x6 ++ [v7])) = H7 at g7 d8 s27
      clear f4 f5 f6 f7 d4 d5 d6 d7 d7' s57 k7 s56 g4 g5 g6 s6 s5 s4 s3 vp vi vw up ui uw wp wi ww wm sq23 sq24 n4 n5 n6
      have lcut : ∀ lo hi, (cutD (ls.map triD) lo hi).length ≤ ls.length := fun lo hi => by
        have := cutD_len (ls.map triD) lo hi
        rw [List.length_map] at this
        exact this
      have okcut : ∀ lo hi, ∀ d ∈ cutD (ls.map triD) lo hi, Okd d := fun lo hi d hd => by
        obtain ⟨q', hq', rfl⟩ := List.mem_map.mp (mem_cut hd)
        exact okd_tri (by rw [List.length_map]; have := pl q' hq'; omega)
      have sixOk : ∀ {d0 : PyData}, d0 ∈ _ → Okd d0 := fun {d0} (hd : d0 ∈ (([.tuple [.tuple (tq.1.map .int ++ [.int 0]), .int tq.2.1, .bool tq.2.2], .tuple [.tuple (cutD (tq.1.map .int) none (some (-1))), .int tq.2.1, .bool tq.2.2], .tuple [iD tq.1, .int (tq.2.1 + 1), .bool tq.2.2], .tuple [iD tq.1, .int (-1), .bool tq.2.2]] ++ [.tuple [iD tq.1, .int tq.2.1, .int 1], .tuple [iD tq.1, .int tq.2.1, .bool (!tq.2.2)], .tuple [iD tq.1, .bool true, .bool tq.2.2], .tuple [.list (tq.1.map .int), .int tq.2.1, .bool tq.2.2]] ++
          [.tuple [iD tq.1, .int tq.2.1], .list [iD tq.1, .int tq.2.1, .bool tq.2.2], .tuple [.tuple ([.bool true] ++ cutD (tq.1.map .int) (some 1) none), .int tq.2.1, .bool tq.2.2], .tuple [iD tq.1, .int many, .bool tq.2.2], .none] : List PyData) ++ [.tuple [.tuple [.int (-1)], .int tq.2.1, .bool tq.2.2]])) => by
        have c1 := cutD_len (tq.1.map PyData.int) none (some (-1))
        have c2 := cutD_len (tq.1.map PyData.int) (some 1) none
        simp only [List.cons_append, List.nil_append, List.mem_cons, List.not_mem_nil, or_false] at hd
        rcases hd with e | e | e | e | e | e | e | e | e | e | e | e | e | e <;> subst e
        · exact okd_tri (by rw [List.length_append, List.length_singleton]; omega)
        · exact okd_tri (by omega)
        · exact okd_tri (by omega)
        · exact okd_tri (by omega)
        · exact okd_tri (by omega)
        · exact okd_tri (by omega)
        · exact okd_tri (by omega)
        · exact okd_other fun p n b z => by cases z
        · exact okd_other fun p n b z => by cases z
        · exact okd_other fun p n b z => by cases z
        · exact okd_tri (by rw [List.length_cons]; omega)
        · exact okd_tri (by omega)
        · exact okd_other fun p n b z => by cases z
        · exact okd_tri (by show 1 ≤ 1000; decide)
      -- the beginning of the chain
      have hC7 := s27 _ _ hC2
      have hD7 := dpAll_same s27 hD2
      have P7 := pen_same P2 s27
      have b7 := b1.trans (b2.trans (Pn.But.of s27))
      refine ⟨.ref ca, rfl, .int (j : Int), rfl, _, rfl, ca, _, rfl, .inl (.inl hC7), fun la nla => ?_⟩
      have s8 : Same H7 (upd H7 la (.lst (cutV xs none (some (j : Int))))) := same_new (fun b o e => e) nla _
      have g8 : (upd H7 la (.lst (cutV xs none (some (j : Int))))) la = some (.lst (cutV xs none (some (j : Int)))) := upd_same
      have dla := dpAll_same s8 (cut_dp hD7 none (some (j : Int)))
      replace g7 := s8 _ _ g7
      replace d8 := dpAll_same s8 d8
      replace hC7 := s8 _ _ hC7
      replace hD7 := dpAll_same s8 hD7
      replace P7 := pen_same P7 s8
      have b8 := b7.trans (Pn.But.of s8)
      generalize upd H7 la (.lst (cutV xs none (some (j : Int)))) = H8 at s8 g8 dla g7 d8 hC7 hD7 P7 b8
      -- the rows to pick from
      refine ⟨.ref p, rfl, .ref l6, rfl, l6, rfl, ⟨_, .inl (.inl g7)⟩, fun D nD => ?_⟩
      have rowKeep : ∀ {G G' : Hp} {v : V}, (∀ b o, b ≠ D → G b = some o → G' b = some o) → RowL K H8 D G v → RowL K H8 D G' v := fun k ⟨ds, h1, h2, ll, xx, e1, e2, e3, e4⟩ => ⟨ds, h1, h2, ll, xx, e1, e2, k _ _ e2 e3, e4⟩
      refine lc_list (K := K) (a := l6) (xs := x6 ++ [v7]) (fun i G => ∃ acc, Same H8 G ∧ G D = some (.lst acc) ∧ acc.length = i ∧ ∀ v ∈ acc, RowL K H8 D G v) ⟨[], same_new (fun b o e => e) nD _, upd_same, rfl, fun v hv => nomatch hv⟩ (fun i G _ ⟨_, sm, _⟩ => .inl (.inl (sm _ _ g7))) ?_ ?_
      · rintro i y G hy ⟨acc, sm, gD, la2, all⟩
        obtain ⟨d, hd, hdv⟩ := dpAll_get d8 hy
        have ilt := (List.getElem?_eq_some_iff.mp hy).1
        rw [List.length_append, List.length_singleton] at ilt
        refine ⟨rfl, y, rfl, (by show 1 ≤ sizeLine; decide), fun lo nlo => ⟨acc, ?_, by rw [la2, sizeLine_eq]; omega, acc ++ [.ref lo], ?_, upd_same, by rw [List.length_append, List.length_singleton, la2], fun v hv => ?_⟩⟩
        · rw [upd_ne (ne_of_none gD nlo)]
          exact gD
        · exact same_on (same_new sm nlo _) nD _
        · have loD : lo ≠ D := (ne_of_none gD nlo).symm
          rcases List.mem_append.mp hv with z | z
          · refine rowKeep (fun b o nb e => ?_) (all v z)
            rw [upd_ne nb, upd_ne (ne_of_none e nlo)]
            exact e
          · rw [List.mem_singleton.mp z]
            refine ⟨[d], by show 1 ≤ 2; decide, fun d' hd' => ?_, lo, [y], rfl, loD, by rw [upd_ne loD]; exact upd_same, .cons hdv .nil⟩
            rw [List.mem_singleton.mp hd']
            exact sixOk (List.mem_of_getElem? hd)
      rintro G ⟨acc, sm, gD, la2, all⟩
      rw [List.length_append, List.length_singleton, l6x'] at la2
      have hcv' : xs[j]? = some (.ref qa) := hcv
      have hdq := dpAll_get hD7 hcv
      obtain ⟨dq, hdq1, hdq2⟩ := hdq
      rw [htd] at hdq1
      cases hdq1
      have hC9 := sm _ _ hC7
      refine ⟨Nat.zero_le _, fun e1 ne1 => ?_⟩
      have t1 : Same G (upd G e1 (.lst [])) := same_new (fun b o e => e) ne1 _
      have w1 : (upd G e1 (.lst [])) e1 = some (.lst []) := upd_same
      generalize upd G e1 (.lst []) = G1 at t1 w1
      have hC10 := t1 _ _ hC9
      refine ⟨.ref ca, rfl, .int (j : Int), rfl, ca, _, _, _, rfl, rfl, .inl (.inl hC10), atI_nat hcv, .ref ca, rfl, .int (j : Int), rfl, ca, _, _, _, rfl, rfl, .inl (.inl hC10), atI_nat hcv, (by show 2 ≤ sizeLine; decide), fun e2 ne2 => ?_⟩
      have t2 : Same G1 (upd G1 e2 (.lst [.ref qa, .ref qa])) := same_new (fun b o e => e) ne2 _
      have w2 : (upd G1 e2 (.lst [.ref qa, .ref qa])) e2 = some (.lst [.ref qa, .ref qa]) := upd_same
      have w1' := t2 _ _ w1
      generalize upd G1 e2 (.lst [.ref qa, .ref qa]) = G2 at t2 w2 w1'
      refine ⟨(by show 2 ≤ sizeLine; decide), fun e3 ne3 => ?_⟩
      have t3 : Same G2 (upd G2 e3 (.lst [.ref e1, .ref e2])) := same_new (fun b o e => e) ne3 _
      have w3 : (upd G2 e3 (.lst [.ref e1, .ref e2])) e3 = some (.lst [.ref e1, .ref e2]) := upd_same
      replace w1' := t3 _ _ w1'
      replace w2 := t3 _ _ w2
      have t03 : Same G (upd G2 e3 (.lst [.ref e1, .ref e2])) := t1.trans (t2.trans t3)
      generalize upd G2 e3 (.lst [.ref e1, .ref e2]) = G3 at t3 w3 w1' w2 t03
      refine ⟨D, e3, acc, _, rfl, rfl, t03 _ _ gD, w3, by rw [la2, sizeLine_eq]; show 14 + 2 ≤ 16777216; decide, fun rp nrp => ?_⟩
      have t4 : Same G3 (upd G3 rp (.lst (acc ++ [.ref e1, .ref e2]))) := same_new (fun b o e => e) nrp _
      have w4 : (upd G3 rp (.lst (acc ++ [.ref e1, .ref e2]))) rp = some (.lst (acc ++ [.ref e1, .ref e2])) := upd_same
      replace w1' := t4 _ _ w1'
      replace w2 := t4 _ _ w2
      have t04 : Same G (upd G3 rp (.lst (acc ++ [.ref e1, .ref e2]))) := t03.trans t4
      have nrp0 : H rp = none := by
        have z1 := none_before (sm.trans t03) nrp
        cases z : H rp with
        | none => rfl
        | some o =>
          by_cases e : rp = p
          · rw [e] at z1
            obtain ⟨⟨_, _, _, e2, _⟩, _⟩ := P7
            rw [e2] at z1
            cases z1
          · have e3 := b8 _ _ e z
            rw [z1] at e3
            cases e3
      generalize upd G3 rp (.lst (acc ++ [.ref e1, .ref e2])) = G4 at t4 w4 w1' w2 t04
      have P9 := pen_same P7 (sm.trans t04)
      have s84 := sm.trans t04
      have rows : ∀ v ∈ acc ++ [V.ref e1, V.ref e2], ∃ ds, ds.length ≤ 2 ∧ (∀ d ∈ ds, Okd d) ∧ LstV K G4 ds v := by
        intro v hv
        rcases List.mem_append.mp hv with z | z
        · obtain ⟨ds, h1, h2, ll, xx, x1, x2, x3, x4⟩ := all v z
          exact ⟨ds, h1, h2, ll, xx, x1, t04 _ _ x3, dpAll_same s84 x4⟩
        · rcases List.mem_cons.mp z with z | z
          · rw [z]
            exact ⟨[], Nat.zero_le _, (fun d hd => by cases hd), e1, [], rfl, w1', .nil⟩
          · rw [List.mem_singleton.mp z]
            have two := dp_same s84 hdq2
            refine ⟨[triD tq, triD tq], Nat.le_refl _, fun d hd => ?_, e2, _, rfl, w2, .cons two (.cons two .nil)⟩
            have ed : d = triD tq := by
              rcases List.mem_cons.mp hd with y | y
              · exact y
              · exact List.mem_singleton.mp y
            rw [ed]
            exact okd_tri (by rw [List.length_map]; omega)
      refine ⟨p, l, rp, ns, c + 1, _, rfl, P9, hlen, by omega, .inl (.inl (.inl w4)), (fun e => by
        have := congrArg List.length e
        rw [List.length_append, la2] at this
        cases this), by rw [List.length_append, la2]; show 14 + 2 ≤ 1000000; decide, (fun e => by
        obtain ⟨⟨_, _, _, e2, _⟩, _⟩ := hP
        rw [e, e2] at nrp0
        cases nrp0), fun x G5 hx P10 b10 => ?_⟩
      obtain ⟨ds, lds, okds, hxl⟩ := rows x hx
      obtain ⟨xl, xx, rfl, gx, dx⟩ := LstV.pen P9 b10 ds x hxl
      have g10 := pen_lst P9 b10 (s84 _ _ g8)
      have dla10 := pen_dpAll P9 b10 (dpAll_same s84 dla)
      have hC11 := pen_lst P9 b10 (s84 _ _ hC7)
      have hD11 := pen_dpAll P9 b10 (dpAll_same s84 hD7)
      have lx1 := dpAll_len dx
      have lx2 := dpAll_len dla10
      have lc1 := lcut none (some (j : Int))
      have lc2 := lcut (some ((j : Int) + 1)) none
      refine ⟨la, xl, _, xx, rfl, rfl, g10, gx, by rw [sizeLine_eq]; omega, fun r1 nr1 => ?_⟩
      have u1 : Same G5 (upd G5 r1 (.lst (cutV xs none (some (j : Int)) ++ xx))) := same_new (fun b o e => e) nr1 _
      have v1 : (upd G5 r1 (.lst (cutV xs none (some (j : Int)) ++ xx))) r1 = some (.lst (cutV xs none (some (j : Int)) ++ xx)) := upd_same
      have dd1 := dpAll_app (dpAll_same u1 dla10) (dpAll_same u1 dx)
      generalize upd G5 r1 (.lst (cutV xs none (some (j : Int)) ++ xx)) = G6 at u1 v1 dd1
      refine ⟨.ref ca, rfl, .int (j : Int), rfl, _, _, rfl, rfl, _, rfl, ca, _, rfl, .inl (.inl (u1 _ _ hC11)), fun r2 nr2 => ?_⟩
      have u2 : Same G6 (upd G6 r2 (.lst (cutV xs (some ((j : Int) + 1)) none))) := same_new (fun b o e => e) nr2 _
      have v2 : (upd G6 r2 (.lst (cutV xs (some ((j : Int) + 1)) none))) r2 = some (.lst (cutV xs (some ((j : Int) + 1)) none)) := upd_same
      have dd2 := dpAll_same (u1.trans u2) (cut_dp hD11 (some ((j : Int) + 1)) none)
      have lx3 := dpAll_len dd2
      have lx4 := dpAll_len dd1
      rw [List.length_append] at lx4
      generalize upd G6 r2 (.lst (cutV xs (some ((j : Int) + 1)) none)) = G7 at u2 v2 dd2
      refine ⟨r1, r2, _, _, rfl, rfl, u2 _ _ v1, v2, by rw [List.length_append, sizeLine_eq]; omega, fun r3 nr3 => ?_⟩
      have u3 : Same G7 (upd G7 r3 (.lst ((cutV xs none (some (j : Int)) ++ xx) ++ cutV xs (some ((j : Int) + 1)) none))) := same_new (fun b o e => e) nr3 _
      have u53 := u1.trans (u2.trans u3)
      have bE := ((b8.trans (Pn.But.of s84)).trans b10).trans (Pn.But.of u53)
      refine q r3 (cutD (ls.map triD) none (some (j : Int)) ++ ds ++ cutD (ls.map triD) (some ((j : Int) + 1)) none) _ _ (c + 1 + 1) ?_ upd_same (dpAll_app (dpAll_same (u2.trans u3) dd1) (dpAll_same u3 dd2)) ?_ (fun d hd => ?_) (by omega) (pen_same P10 u53) bE
      · have z1 := none_before (u1.trans u2) nr3
        cases z : H r3 with
        | none => rfl
        | some o =>
          by_cases e : r3 = p
          · rw [e] at z1
            obtain ⟨⟨_, _, _, e2, _⟩, _⟩ := P10
            rw [e2] at z1
            cases z1
          · have e3 := ((b8.trans (Pn.But.of s84)).trans b10) _ _ e z
            rw [z1] at e3
            cases e3
      · rw [List.length_append, List.length_append]
        have c1 : (cutD (ls.map triD) none (some (j : Int))).length + (cutD (ls.map triD) (some ((j : Int) + 1)) none).length ≤ ls.length - 1 := by
          have e1 : (cutD (ls.map triD) none (some (j : Int))).length ≤ j := by
            unfold cutD
            rw [HT.sIx_none, HT.sIx_nat, List.length_take]
            omega
          have e2 : (cutD (ls.map triD) (some ((j : Int) + 1)) none).length ≤ ls.length - (j + 1) := by
            have ej : ((j : Int) + 1) = ((j + 1 : Nat) : Int) := by omega
            unfold cutD
            rw [ej, HT.sIx_none, HT.sIx_nat, List.length_take, List.length_drop, List.length_map]
            omega
          omega
        omega
      · rcases List.mem_append.mp hd with hd | hd
        · rcases List.mem_append.mp hd with hd | hd
          · exact okcut _ _ d hd
          · exact okds d hd
        · exact okcut _ _ d hd
end
end Ad

namespace Ad
open PySem PySem.Spec PySem.Calls PyProof.Rows L2
abbrev sDrawn : Stmt := topS 16
theorem scDrawn : FnScope ["_law_pen_here", "_law_rows", "_law_deep", "_law_variables", "_law_some", "_law_name", "_law_arity", "_law_weight", "_law_row", "_law_k"] ["_law_pen_here", "_law_rows", "_law_deep", "_law_variables"] (defScope sDrawn) := ⟨rfl, rfl, rfl, by decide +kernel, rfl, by decide +kernel, by decide +kernel⟩
section
variable {P : Program} {w : World} {K : PySem.W.Frag} {mg : Str → Option Value} {base : Heap}
theorem ok_drawn {f fD fP : Addr} {fd fdD fdP : FuncData} {k : Nat} (F : Fun K "_law_drawn_term" "_law_drawn_term" sDrawn f fd) (gF : mg "_law_drawn_term" = some (.ref f)) (bF : Binds K fd ["_law_pen_here", "_law_rows", "_law_deep", "_law_variables"] [])
    (GD : FnOk P w K mg base CX0 k fD fdD ["_law_pen_here", "_law_many"] Pn.spDraw) (gD : mg "_law_draw" = some (.ref fD)) (kD : PySem.W.keepIn K (.ref fD) = true) (bD : Binds K fdD ["_law_pen_here", "_law_many"] [])
    (GP : FnOk P w K mg base CX0 k fP fdP ["_law_pen_here", "_law_some"] (Pn.spPick K)) (gP : mg "_law_pick" = some (.ref fP)) (kP : PySem.W.keepIn K (.ref fP) = true) (bP : Binds K fdP ["_law_pen_here", "_law_some"] []) (mt : mg "tuple" = none) (mr : mg "range" = none) :
    ∀ n, FnOk P w K mg base CX0 (k + n) f fd ["_law_pen_here", "_law_rows", "_law_deep", "_law_variables"] (spDrawn K n)
  | 0 => vac fun vs H Q E ⟨p, l, ra, ns, c, deep, nv, R, _, _, _, _, _, _, z, _⟩ => absurd z (Nat.not_lt_zero _)
  | n + 1 => by
    have IH := ok_drawn F gF bF GD gD kD bD GP gP kP bP mt mr n
    refine F.ok scDrawn (fun vs H Q E h => ?_) (fun cdv A outer s H vs Q E hr h => ?_)
    · obtain ⟨p, l, ra, ns, c, deep, nv, R, rfl, _⟩ := h
      rfl
    · obtain ⟨p, l, ra, ns, c, deep, nv, R, rfl, hP, hlen, hc, hR, ok, hd, nv0, nv1, q⟩ := h
      have hr0 := hr.mono (Nat.le_add_right k n)
      refine ⟨_, C8.pss_cut (ps_if (pw_and (pt_cmpR op_gt (pv 3) pe_int (nomark _)) (pw_and1 (pt_cmpR op_eq (pe_call GD hr0 (by rfl) gD kD bD .nil pass0 (pa_cons (pv 0) (pa_cons pe_int pa_nil))) pe_int (nomark _)))).pt
          (pss_one (ps_ret (pe_call GD hr0 (by rfl) gD kD bD .nil pass0 (pa_cons (pv 0) (pa_cons (pv 3) pa_nil))))) pss_nil)
        (pss_cons (ps_setLc (i := 4) (own := [("_law_row", 8)]) (g := gName 8) (tt := tOr (tTest (tOp (rI0 fun i j => .bl (decide (j < i))) (tVar 2) (tC (.int 0)))) (tTest (tOp rEq (tOp (rIxT K) (tVar 8) (tC (.int 1))) (tC (.int 0))))) (te := tVar 8) rfl scDrawn.nd rfl rfl (sw_true rfl rfl rfl (by decide +kernel))
            (pi_tup (pe_ix ix_tup (pv 1) pe_int (fun _ _ => rfl)))
            (blkOk_by (N := ["_law_pen_here", "_law_rows", "_law_deep", "_law_variables", "_law_some", "_law_name", "_law_arity", "_law_weight", "_law_row", "_law_k"]) (sc := defScope sDrawn) (by decide +kernel))
            (fun _ _ _ _ _ => pg_name (i := 8) scDrawn.nd rfl (.inl rfl))
            (fun _ _ _ _ _ => pts_one (pw_or (pt_cmpR op_gt (pv 2) pe_int (nomark _)) (pw_or1 (pt_cmpR op_eq (pe_ix (r := rIxT K) ix_tup (pv 8) pe_int (fun _ _ => rfl)) pe_int (nomark _)))).pt)
            (fun _ _ _ _ _ => pv 8))
        (pss_cons (ps_asg (pe_call GP hr0 (by rfl) gP kP bP .nil pass0 (pa_cons (pv 0) (pa_cons (pv 4) pa_nil))) (pg_tup rfl (pgs_cons (pg_name (i := 5) scDrawn.nd rfl (.inl rfl)) (pgs_cons (pg_name (i := 6) scDrawn.nd rfl (.inl rfl)) (pgs_cons (pg_name (i := 7) scDrawn.nd rfl (.inl rfl)) pgs_nil)))))
        (pss_one (ps_ret (pe_op op_catT (pe_tup (pa_cons (pv 5) pa_nil)) (pe_callTy call_tuple_of (by rfl) mt (by decide +kernel) (pa_cons
          (pe_lc (own := [("_law_k", 9)]) (g := gName 9) (tt := tYes) rfl scDrawn.nd (pi_range1 (by rfl) mr (pa_cons (pv 6) pa_nil))
            (blkOk_by (N := ["_law_pen_here", "_law_rows", "_law_deep", "_law_variables", "_law_some", "_law_name", "_law_arity", "_law_weight", "_law_row", "_law_k"]) (sc := defScope sDrawn) (by decide +kernel))
            (fun _ _ _ _ _ => pg_name (i := 9) scDrawn.nd rfl (.inl rfl)) (fun _ _ _ _ _ => pts_nil)
            (fun _ _ _ _ _ => pe_call IH hr (by rfl) gF F.kp bF .nil pass0 (pa_cons (pv 0) (pa_cons (pv 1) (pa_cons (pe_op op_sub (pv 2) pe_int) (pa_cons (pv 3) pa_nil)))))) pa_nil))))))), ?_⟩
      refine ⟨fun σ G => ∃ c1, σ = [some (.ref p), some (.ref ra), some (.int (deep : Int)), some (.int nv), none, none, none, none, none, none] ∧ c1 ≤ c + 1 ∧ Pn.Pen G p l ns c1 ∧ Pn.But p H G, ?_, ?_⟩
      · have d2 := two_dn deep
        refine ⟨.int nv, rfl, nv, 0, rfl, rfl, _, rfl, ?_⟩
        refine ite2 (fun hpos => ?_) (fun _ => ?_)
        · have hpos' : 0 < nv := of_decide_eq_true hpos
          refine ⟨.ref p, rfl, p, l, ns, c, 3, rfl, hP, hlen, by omega, by decide, by decide, fun r G r0 r1 P1 b1 => ⟨rfl, _, rfl, ?_⟩⟩
          refine ite2 (fun _ => ?_) (fun _ => ?_)
          · refine ⟨.ref p, rfl, .int nv, rfl, p, l, ns, c + 1, nv, rfl, P1, hlen, by omega, by omega, by omega, fun r' G' r0' r1' P2 b2 => ?_⟩
            refine q (.v r') _ G' (c + 1 + 1) rfl ⟨rfl, Nat.zero_le _, one_sz _, fun j hj => ?_, True.intro⟩ (by omega) P2 (b1.trans b2)
            cases List.mem_singleton.mp hj
            exact ⟨r0', r1'⟩
          · exact ⟨c + 1, rfl, Nat.le_refl _, P1, b1⟩
        · exact ⟨c, rfl, Nat.le_succ _, hP, Pn.But.refl _ _⟩
      · rintro σ G ⟨c1, rfl, hc1, P1, b1⟩
        have hR1 := hR.mono (pen_tk hP b1)
        obtain ⟨rb, ry, rs, q1, q2, rows⟩ := hR1
        refine ⟨.ref ra, rfl, ra, _, 0, .ref rb, rfl, rfl, q1, atI_nat (j := 0) rfl, rb, rfl, ⟨rs, q2⟩, fun D nD => ?_⟩
        have lrs := rows.len
        obtain ⟨jc, rc, hjc, rc0⟩ := ok.const
        refine lc_tup (K := K) (a := rb) (xs := rs) (fun i G2 => ∃ acc, Same G G2 ∧ G2 D = some (.lst acc) ∧ (∀ v ∈ acc, ∃ r ∈ R, RowV K G r v ∧ (0 < deep ∨ r.2.1 = 0)) ∧ acc.length ≤ i ∧ (jc < i → acc ≠ [])) ⟨[], same_new (fun b o e => e) nD _, upd_same, (fun v hv => nomatch hv), Nat.le_refl _, fun z => absurd z (Nat.not_lt_zero _)⟩
          (fun i G2 _ ⟨acc, sm, _⟩ => (TK.same sm).sq q2) ?_ ?_
        · rintro i y G2 hy ⟨acc, sm, gD, mem, few, full⟩
          obtain ⟨r, hri, hrv⟩ := rows.get hy
          have hmem := List.mem_of_getElem? hri
          have hilt := (List.getElem?_eq_some_iff.mp hri).1
          have hfew := ok.few
          have yes : (0 < deep ∨ r.2.1 = 0) → ∃ acc', G2 D = some (.lst acc') ∧ acc'.length < sizeLine ∧ ∃ acc2, Same G (upd G2 D (.lst (acc' ++ [y]))) ∧ (upd G2 D (.lst (acc' ++ [y]))) D = some (.lst acc2) ∧ (∀ v ∈ acc2, ∃ r ∈ R, RowV K G r v ∧ (0 < deep ∨ r.2.1 = 0)) ∧ acc2.length ≤ i + 1 ∧ (jc < i + 1 → acc2 ≠ []) := by
            intro fit
            refine ⟨acc, gD, by rw [sizeLine_eq]; omega, _, same_on sm nD _, upd_same, fun v hv => ?_, ?_, fun _ => by simp⟩
            · rcases List.mem_append.mp hv with z | z
              · exact mem v z
              · cases List.mem_singleton.mp z
                exact ⟨r, hmem, hrv, fit⟩
            · rw [List.length_append, List.length_singleton]
              omega
          refine ⟨rfl, .int (deep : Int), rfl, _, _, rfl, rfl, _, rfl, ?_⟩
          refine ite2 (fun hpos => ?_) (fun hneg => ?_)
          · have hpos' : (0 : Int) < (deep : Int) := of_decide_eq_true hpos
            refine iteT ?_
            exact ⟨y, rfl, yes (.inl (by omega))⟩
          · obtain ⟨b, rfl, sqb⟩ := hrv
            refine ⟨.ref b, rfl, b, _, 1, .int (r.2.1 : Int), rfl, rfl, (TK.same sm).sq sqb, atI_nat (j := 1) rfl, rfl, _, rfl, ?_⟩
            by_cases z : r.2.1 = 0
            · have e : decide (V.int (r.2.1 : Int) = V.int 0) = true := by rw [z]; rfl
              rw [e]
              refine iteT ?_
              exact ⟨.ref b, rfl, yes (.inr z)⟩
            · have e : decide (V.int (r.2.1 : Int) = V.int 0) = false := by
                refine decide_eq_false fun w => z ?_
                have := V.int.inj w
                omega
              rw [e]
              refine iteF ?_
              refine ⟨acc, sm, gD, mem, Nat.le_succ_of_le few, fun lt => ?_⟩
              rcases Nat.lt_succ_iff_lt_or_eq.mp lt with w | w
              · exact full w
              · rw [← w, hjc] at hri
                cases hri
                exact absurd rc0 z
        · rintro G2 ⟨acc, sm, gD, mem, few, full⟩
          have hne : acc ≠ [] := full (by
            rw [lrs]
            exact (List.getElem?_eq_some_iff.mp hjc).1)
          have P2 := pen_same P1 sm
          have pD : D ≠ p := fun z => by
            obtain ⟨⟨_, _, _, e, _⟩, _⟩ := P1
            rw [z, e] at nD
            cases nD
          have d2 := two_dn deep
          have hfew := ok.few
          refine ⟨.ref p, rfl, .ref D, rfl, p, l, D, ns, c1, acc, rfl, P2, hlen, by omega, .inl (.inl (.inl gD)), hne, by omega, pD, fun x G3 hx P3 b3 => ?_⟩
          obtain ⟨r, hrR, ⟨b, rfl, sqb⟩, fit⟩ := mem x hx
          have k3 : TK G G3 := (TK.same sm).trans (pen_tk P2 b3)
          have hR3 := hR.mono ((pen_tk hP b1).trans k3)
          have b13 : Pn.But p H G3 := (b1.trans (Pn.But.of sm)).trans b3
          refine ⟨b, _, rfl, k3.sq sqb, rfl, .str r.1, _, rfl, .int (r.2.1 : Int), _, rfl, .int r.2.2, _, rfl, rfl, ?_⟩
          obtain ⟨strOk, ar3⟩ := ok.names r hrR
          refine ⟨.str r.1, rfl, (by show 1 ≤ sizeLine; decide), fun p4 n4 => ?_⟩
          have m4 : (upd G3 p4 (.tup [.str r.1])) p4 = some (.tup [.str r.1]) := upd_same
          have s4 : Same G3 (upd G3 p4 (.tup [.str r.1])) := same_new (fun b o e => e) n4 _
          have P4 := pen_same P3 s4
          have R4 := hR3.mono (TK.same s4)
          have b14 := b13.trans (Pn.But.of s4)
          generalize upd G3 p4 (.tup [.str r.1]) = G4 at m4 s4 P4 R4 b14
          refine ⟨.int (r.2.1 : Int), rfl, _, rfl, by omega, by omega, fun D2 nD2 => ?_⟩
          have pD2 : D2 ≠ p := fun z => by
            obtain ⟨⟨_, _, _, e, _⟩, _⟩ := P4
            rw [z, e] at nD2
            cases nD2
          have P4' := pen_same P4 (same_new (fun b o e => e) nD2 (.lst []))
          refine lc_range (lo := 0) (n := ((r.2.1 : Int)).toNat) (fun i G5 => ∃ (ts : List T) (acc : List V) (c5 : Nat), Pn.But p G4 G5 ∧ G5 D2 = some (.lst acc) ∧ Tms K G5 ts acc ∧ ts.length = i ∧ Pn.Pen G5 p l ns c5 ∧ c5 ≤ c1 + 1 + i * dn (deep - 1) ∧
            (∀ t ∈ ts, DT R (deep - 1) nv t)) ⟨[], [], c1 + 1, Pn.But.of (same_new (fun b o e => e) nD2 _), upd_same, rfl, rfl, P4', by omega, fun t ht => nomatch ht⟩ ?_ ?_
          · rintro i G5 hi ⟨ts, acc, c5, b5, gD, all, len, P5, hc5, dts⟩
            have hi' : i < r.2.1 := by omega
            have dpos : 0 < deep := by
              rcases fit with z | z
              · exact z
              · omega
            obtain ⟨d', rfl⟩ : ∃ d', deep = d' + 1 := ⟨deep - 1, by omega⟩
            have ed : d' + 1 - 1 = d' := Nat.add_sub_cancel ..
            rw [ed] at hc5 dts
            have hm : i * dn d' ≤ 2 * dn d' := Nat.mul_le_mul_right _ (by omega)
            have dd : dn (d' + 1) = 2 + 3 * dn d' := rfl
            have ez : (((d' + 1 : Nat)) : Int) - 1 = (d' : Int) := by omega
            have b45 := b14.trans b5
            refine ⟨rfl, .ref p, rfl, .ref ra, rfl, .int ((d' + 1 : Nat) : Int), rfl, _, _, rfl, rfl, .int nv, rfl, p, l, ra, ns, c5, d', nv, R, ?_, P5, hlen, by omega, hR.mono (pen_tk hP b45), ok, by omega, nv0, nv1, fun t v G6 c6 tv dt hc6 P6 b6 => ?_⟩
            · show [V.ref p, V.ref ra, V.int (((d' + 1 : Nat) : Int) - 1), V.int nv] = _
              rw [ez]
            · have g6 : G6 D2 = some (.lst acc) := b6 _ _ pD2 gD
              have k6 : TK G5 G6 := pen_tk P5 b6
              have kl : TK G6 (upd G6 D2 (.lst (acc ++ [v]))) := TK.lst g6 _
              have la := all.len
              refine ⟨acc, g6, by rw [sizeLine_eq]; omega, ts ++ [t], acc ++ [v], c6, ?_, upd_same, Tms.app (Tms.mono (k6.trans kl) _ _ all) (Tms.one (Tm.mono kl _ _ tv)), by rw [List.length_append, List.length_singleton, len], ?_, ?_, ?_⟩
              · intro b o nb e
                have e2 := b6 _ _ nb (b5 _ _ nb e)
                have nbD : b ≠ D2 := fun z => by rw [z, nD2] at e; cases e
                rw [upd_ne nbD]
                exact e2
              · obtain ⟨⟨a1, a2, a3, a4, a5⟩, a6⟩ := P6
                have lD : l ≠ D2 := fun z => by
                  have e := P4.ls
                  rw [z, nD2] at e
                  cases e
                exact ⟨⟨a1, a2, a3, by rw [upd_ne pD2.symm]; exact a4, a5⟩, by rw [upd_ne lD]; exact a6⟩
              · rw [ed, Nat.succ_mul]
                omega
              · intro t' ht'
                rw [ed]
                rcases List.mem_append.mp ht' with z | z
                · exact dts t' z
                · rw [List.mem_singleton.mp z]
                  exact dt
          · rintro G5 ⟨ts, acc, c5, b5, gD, all, len, P5, hc5, dts⟩
            have b45 := b14.trans b5
            have la := all.len
            have ar : ts.length = r.2.1 := by omega
            have n4p : p4 ≠ p := fun z => by
              obtain ⟨⟨_, _, _, e, _⟩, _⟩ := P3
              rw [z, e] at n4
              cases n4
            have m4' : G5 p4 = some (.tup [.str r.1]) := b5 _ _ n4p m4
            refine ⟨D2, acc, rfl, .inl ⟨.inl (.inl gD), fun p6 n6 => ?_⟩⟩
            have s6 : Same G5 (upd G5 p6 (.tup acc)) := same_new (fun b o e => e) n6 _
            have m6 : (upd G5 p6 (.tup acc)) p6 = some (.tup acc) := upd_same
            have P6 := pen_same P5 s6
            have b16 := b45.trans (Pn.But.of s6)
            have all6 := Tms.mono (TK.same s6) _ _ all
            have m4'' := s6 _ _ m4'
            generalize upd G5 p6 (.tup acc) = G6 at s6 m6 P6 b16 all6 m4''
            have dt : DT R deep nv (.f r.1 ts) ∧ c5 ≤ c + dn deep := by
              have named : ∀ us : List T, (∀ t ∈ us, t.named = true) → T.namedL us = true := by
                intro us
                induction us with
                | nil => intro _; rfl
                | cons u us ih =>
                  intro h
                  show (T.named u && T.namedL us) = true
                  rw [h u List.mem_cons_self, ih fun t ht => h t (List.mem_cons_of_mem _ ht)]
                  rfl
              have deps : ∀ (m : Nat) (us : List T), (∀ t ∈ us, t.dep ≤ m) → T.depL us ≤ m := by
                intro m us
                induction us with
                | nil => intro _; exact Nat.zero_le _
                | cons u us ih =>
                  intro h
                  have h1 := h u List.mem_cons_self
                  have h2 := ih fun t ht => h t (List.mem_cons_of_mem _ ht)
                  show max (T.dep u) (T.depL us) ≤ m
                  omega
              have sizes : ∀ (m : Nat) (us : List T), (∀ t ∈ us, t.size ≤ m) → T.sizeL us ≤ us.length * m := by
                intro m us
                induction us with
                | nil => intro _; exact Nat.zero_le _
                | cons u us ih =>
                  intro h
                  have h1 := h u List.mem_cons_self
                  have h2 := ih fun t ht => h t (List.mem_cons_of_mem _ ht)
                  show T.size u + T.sizeL us ≤ (us.length + 1) * m
                  rw [Nat.succ_mul]
                  omega
              have vars : ∀ us : List T, (∀ t ∈ us, ∀ j ∈ t.vars, 0 ≤ j ∧ j < nv) → ∀ j ∈ T.varsL us, 0 ≤ j ∧ j < nv := by
                intro us
                induction us with
                | nil => intro _ j hj; cases hj
                | cons u us ih =>
                  intro h j hj
                  rcases List.mem_append.mp (show j ∈ T.vars u ++ T.varsL us from hj) with z | z
                  · exact h u List.mem_cons_self j z
                  · exact ih (fun t ht => h t (List.mem_cons_of_mem _ ht)) j z
              have hs := sizes (sz (deep - 1)) ts fun t ht => (dts t ht).size
              have hv := vars ts fun t ht => (dts t ht).vars
              have hn := named ts fun t ht => (dts t ht).named
              have hd := deps (deep - 1 + 1) ts fun t ht => (dts t ht).dep
              cases deep with
              | zero =>
                have z : r.2.1 = 0 := by
                  rcases fit with y | y
                  · exact absurd y (Nat.lt_irrefl _)
                  · exact y
                have e : ts = [] := List.length_eq_zero_iff.mp (by omega)
                subst e
                have z2 : ((r.2.1 : Int)).toNat = 0 := by omega
                rw [z2] at hc5
                refine ⟨⟨?_, Nat.le_refl _, Nat.le_refl _, (fun j hj => nomatch hj), ⟨⟨r, hrR, rfl, ar.symm⟩, True.intro⟩⟩, ?_⟩
                · show (nameOk r.1 && true) = true
                  rw [strOk]
                  rfl
                · show c5 ≤ c + 2
                  omega
              | succ d' =>
                have ed : d' + 1 - 1 = d' := Nat.add_sub_cancel ..
                rw [ed] at hs hd hc5
                have hm : ts.length * sz d' ≤ 3 * sz d' := Nat.mul_le_mul_right _ (by omega)
                have hm2 : ((r.2.1 : Int)).toNat * dn d' ≤ 3 * dn d' := Nat.mul_le_mul_right _ (by omega)
                refine ⟨⟨?_, ?_, ?_, hv, ⟨⟨r, hrR, rfl, ar.symm⟩, Kb.wfL_of fun t ht => (dts t ht).wf⟩⟩, ?_⟩
                · show (nameOk r.1 && T.namedL ts) = true
                  rw [strOk, hn]
                  rfl
                · show 1 + T.depL ts ≤ d' + 1 + 1
                  omega
                · show 1 + T.sizeL ts ≤ 1 + 3 * sz d'
                  omega
                · show c5 ≤ c + (2 + 3 * dn d')
                  omega
            refine ⟨p4, p6, _, _, rfl, rfl, .inl (.inl m4''), .inl (.inl m6), by simp, by rw [List.length_singleton, sizeLine_eq]; omega, fun e => ?_, fun e p7 n7 => ?_⟩
            · refine q (.f r.1 ts) _ G6 c5 ⟨p4, acc, rfl, ?_, all6⟩ dt.1 dt.2 P6 b16
              rw [e]
              exact .inl (.inl m4'')
            · have s7 : Same G6 (upd G6 p7 (.tup ([.str r.1] ++ acc))) := same_new (fun b o e => e) n7 _
              exact q (.f r.1 ts) _ _ c5 ⟨p7, acc, rfl, .inl (.inl upd_same), Tms.mono (TK.same s7) _ _ all6⟩ dt.1 dt.2 (pen_same P6 s7) (b16.trans (Pn.But.of s7))
end
end Ad

/-! picking from a tuple, wherever it stands -/
namespace Ad
open PySem PySem.Spec PySem.Calls PyProof.Rows L2
section
variable {P : Program} {w : World} {K : PySem.W.Frag} {mg : Str → Option Value} {base : Heap}
def spPickT (K : PySem.W.Frag) : Sp := fun vs H Q _ => ∃ (p l s : Addr) (ns : List Int) (c : Nat) (xs : List V), vs = [.ref p, .ref s] ∧ Pn.Pen H p l ns c ∧ ns.length ≤ 1000 ∧ c ≤ 1000000000 ∧ SqT K H s xs ∧ xs ≠ [] ∧ xs.length ≤ 1000000 ∧
  ∀ x H', x ∈ xs → Pn.Pen H' p l ns (c + 1) → Pn.But p H H' → Q x H'
theorem ok_pickT {f fD : Addr} {fd fdD : FuncData} {k : Nat} (F : Fun K "_law_pick" "_law_pick" Pn.sPick f fd) (G : FnOk P w K mg base CX0 (k + 1) fD fdD ["_law_pen_here", "_law_many"] Pn.spDraw) (gD : mg "_law_draw" = some (.ref fD)) (kD : PySem.W.keepIn K (.ref fD) = true) (bD : Binds K fdD ["_law_pen_here", "_law_many"] [])
    (ml : mg "len" = none) : FnOk P w K mg base CX0 (k + 2) f fd ["_law_pen_here", "_law_some"] (spPickT K) := by
  refine F.ok Pn.scPick (fun vs H Q E h => ?_) (fun cdv A outer s H vs Q E hr h => ?_)
  · obtain ⟨p, l, s, ns, c, xs, rfl, _⟩ := h
    rfl
  · obtain ⟨p, l, s, ns, c, xs, rfl, hP, hlen, hc, hS, hne, hx, q⟩ := h
    refine ⟨_, pss_one (ps_ret (pe_ix ix_tup (pv 1) (pe_call G hr (by rfl) gD kD bD .nil pass0 (pa_cons (pv 0) (pa_cons (pe_callB call_len_seq (by rfl) ml PySem.boot_len (pa_cons (pv 1) pa_nil)) pa_nil))) (fun _ _ => rfl))), ?_⟩
    have hpos : 1 ≤ xs.length := by
      cases xs with
      | nil => exact absurd rfl hne
      | cons x r => rw [List.length_cons]; omega
    refine ⟨.ref s, rfl, .ref p, rfl, .ref s, rfl, s, xs, rfl, .inr hS, p, l, ns, c, _, rfl, hP, hlen, hc, by omega, by omega, fun r H' r0 r1 hP' b' => ?_⟩
    obtain ⟨j, rfl⟩ : ∃ j : Nat, r = (j : Int) := ⟨r.toNat, by omega⟩
    have hj : j < xs.length := by omega
    have hg : xs[j]? = some xs[j] := List.getElem?_eq_getElem hj
    exact ⟨s, xs, _, _, rfl, rfl, (pen_tk hP b').sq hS, atI_nat hg, q _ _ (List.getElem_mem hj) hP' b'⟩
end
end Ad

namespace Ad
open PySem PySem.Spec PySem.Calls PyProof.Rows L2
abbrev sLAtom : Stmt := topS 17
theorem scLAtom : FnScope ["_law_pen_here", "_law_rows", "_law_deep", "_law_variables", "_law_name", "_law_arity", "_law_weight", "_law_k"] ["_law_pen_here", "_law_rows", "_law_deep", "_law_variables"] (defScope sLAtom) := ⟨rfl, rfl, rfl, by decide +kernel, rfl, by decide +kernel, by decide +kernel⟩
/-- a drawn atom -/
structure DA (R S : List Row) (deep : Nat) (nv : Int) (t : T) : Prop where
  named : t.named = true
  dep : t.dep ≤ deep + 1
  size : t.size ≤ sz deep
  vars : ∀ j ∈ t.vars, 0 ≤ j ∧ j < nv
  wf : Kb.Wf (R ++ S) t
  hd : ∃ x ts, t = .f x ts ∧ ∃ r ∈ S, r.1 = x
/-- names of truths -/
structure TOk (S : List Row) : Prop where
  names : ∀ r ∈ S, nameOk r.1 = true ∧ r.2.1 ≤ 3
  some : S ≠ []
  few : S.length ≤ 1000
section
variable {P : Program} {w : World} {K : PySem.W.Frag} {mg : Str → Option Value} {base : Heap}
def spLAtom (K : PySem.W.Frag) (n : Nat) : Sp := fun vs H Q _ => ∃ (p l ra : Addr) (ns : List Int) (c d' : Nat) (nv : Int) (R S : List Row), vs = [.ref p, .ref ra, .int ((d' + 1 : Nat) : Int), .int nv] ∧ Pn.Pen H p l ns c ∧ ns.length ≤ 1000 ∧ c + dn (d' + 1) ≤ 1000000000 ∧ OrdAt K H ra R S ∧ ROk R ∧ TOk S ∧
  d' < n ∧ 0 ≤ nv ∧ nv ≤ 1000 ∧ ∀ t v H' c', Tm K H' t v → DA R S (d' + 1) nv t → c' ≤ c + dn (d' + 1) → Pn.Pen H' p l ns c' → Pn.But p H H' → Q v H'
theorem ok_latom {f fP fT : Addr} {fd fdP fdT : FuncData} {k n : Nat} (F : Fun K "_law_drawn_atom" "_law_drawn_atom" sLAtom f fd)
    (GP : FnOk P w K mg base CX0 k fP fdP ["_law_pen_here", "_law_some"] (spPickT K)) (gP : mg "_law_pick" = some (.ref fP)) (kP : PySem.W.keepIn K (.ref fP) = true) (bP : Binds K fdP ["_law_pen_here", "_law_some"] [])
    (IH : FnOk P w K mg base CX0 k fT fdT ["_law_pen_here", "_law_rows", "_law_deep", "_law_variables"] (spDrawn K n)) (gF : mg "_law_drawn_term" = some (.ref fT)) (kF : PySem.W.keepIn K (.ref fT) = true) (bF : Binds K fdT ["_law_pen_here", "_law_rows", "_law_deep", "_law_variables"] []) (mt : mg "tuple" = none) (mr : mg "range" = none) :
    FnOk P w K mg base CX0 (k + 1) f fd ["_law_pen_here", "_law_rows", "_law_deep", "_law_variables"] (spLAtom K n) := by
  refine F.ok scLAtom (fun vs H Q E h => ?_) (fun cdv A outer s H vs Q E hr h => ?_)
  · obtain ⟨p, l, ra, ns, c, d', nv, R, S, rfl, _⟩ := h
    rfl
  · obtain ⟨p, l, ra, ns, c, d', nv, R, S, rfl, hP, hlen, hc, hO, ok, tok, hd, nv0, nv1, q⟩ := h
    have hR := hO.rows
    refine ⟨_, (pss_cons (ps_asg (pe_call GP hr (by rfl) gP kP bP .nil pass0 (pa_cons (pv 0) (pa_cons (pe_ix ix_tup (pv 1) pe_int (fun _ _ => rfl)) pa_nil))) (pg_tup rfl (pgs_cons (pg_name (i := 4) scLAtom.nd rfl (.inl rfl)) (pgs_cons (pg_name (i := 5) scLAtom.nd rfl (.inl rfl)) (pgs_cons (pg_name (i := 6) scLAtom.nd rfl (.inl rfl)) pgs_nil)))))
    (pss_one (ps_ret (pe_op op_catT (pe_tup (pa_cons (pv 4) pa_nil)) (pe_callTy call_tuple_of (by rfl) mt (by decide +kernel) (pa_cons (pe_lc (own := [("_law_k", 7)]) (g := gName 7) (tt := tYes) rfl scLAtom.nd (pi_range1 (by rfl) mr (pa_cons (pv 5) pa_nil)) (blkOk_by (N := ["_law_pen_here", "_law_rows", "_law_deep", "_law_variables", "_law_name", "_law_arity", "_law_weight", "_law_k"]) (sc := defScope sLAtom) (by decide +kernel)) (fun _ _ _ _ _ => (pg_name (i := 7) scLAtom.nd rfl (.inl rfl))) (fun _ _ _ _ _ => pts_nil) (fun _ _ _ _ _ => (pe_call IH hr (by rfl) gF kF bF .nil pass0 (pa_cons (pv 0) (pa_cons (pv 1) (pa_cons (pe_op op_sub (pv 2) pe_int) (pa_cons (pv 3) pa_nil))))))) pa_nil)))))), ?_⟩
    have dd : dn (d' + 1) = 2 + 3 * dn d' := rfl
    obtain ⟨b1, b2, vs1, vs2, sq0, sq1, sq2, f1, f2⟩ := hO
    have l2 := f2.len
    have fewS := tok.few
    have ne2 : vs2 ≠ [] := fun e => tok.some (by
      rw [e] at l2
      exact List.length_eq_zero_iff.mp l2.symm)
    obtain ⟨c1, ec1⟩ : ∃ c1, c1 = c := ⟨c, rfl⟩
    refine ⟨.ref p, rfl, .ref ra, rfl, ra, _, 1, .ref b2, rfl, rfl, sq0, atI_nat (j := 1) rfl, p, l, b2, ns, c, vs2, rfl, hP, hlen, by omega, sq2, ne2, by omega, fun x G3 hx P3 b13 => ?_⟩
    rw [← ec1] at P3
    have k3 := pen_tk hP b13
    have hR3 := hR.mono k3
    obtain ⟨r, hrR, ⟨b, rfl, sqb⟩⟩ := f2.mem hx
    obtain ⟨strOk, ar3⟩ := tok.names r hrR
    refine ⟨b, _, rfl, k3.sq sqb, rfl, .str r.1, _, rfl, .int (r.2.1 : Int), _, rfl, .int r.2.2, _, rfl, rfl, ?_⟩
    obtain ⟨strOk, ar3⟩ := tok.names r hrR
    refine ⟨.str r.1, rfl, (by show 1 ≤ sizeLine; decide), fun p4 n4 => ?_⟩
    have m4 : (upd G3 p4 (.tup [.str r.1])) p4 = some (.tup [.str r.1]) := upd_same
    have s4 : Same G3 (upd G3 p4 (.tup [.str r.1])) := same_new (fun b o e => e) n4 _
    have P4 := pen_same P3 s4
    have R4 := hR3.mono (TK.same s4)
    have b14 := b13.trans (Pn.But.of s4)
    generalize upd G3 p4 (.tup [.str r.1]) = G4 at m4 s4 P4 R4 b14
    refine ⟨.int (r.2.1 : Int), rfl, _, rfl, by omega, by omega, fun D2 nD2 => ?_⟩
    have pD2 : D2 ≠ p := fun z => by
      obtain ⟨⟨_, _, _, e, _⟩, _⟩ := P4
      rw [z, e] at nD2
      cases nD2
    have P4' := pen_same P4 (same_new (fun b o e => e) nD2 (.lst []))
    refine lc_range (lo := 0) (n := ((r.2.1 : Int)).toNat) (fun i G5 => ∃ (ts : List T) (acc : List V) (c5 : Nat), Pn.But p G4 G5 ∧ G5 D2 = some (.lst acc) ∧ Tms K G5 ts acc ∧ ts.length = i ∧ Pn.Pen G5 p l ns c5 ∧ c5 ≤ c1 + 1 + i * dn d' ∧
      (∀ t ∈ ts, DT R d' nv t)) ⟨[], [], c1 + 1, Pn.But.of (same_new (fun b o e => e) nD2 _), upd_same, rfl, rfl, P4', by omega, fun t ht => nomatch ht⟩ ?_ ?_
    · rintro i G5 hi ⟨ts, acc, c5, b5, gD, all, len, P5, hc5, dts⟩
      have hi' : i < r.2.1 := by omega
      have hm : i * dn d' ≤ 2 * dn d' := Nat.mul_le_mul_right _ (by omega)
      have ez : (((d' + 1 : Nat)) : Int) - 1 = (d' : Int) := by omega
      have b45 := b14.trans b5
      refine ⟨rfl, .ref p, rfl, .ref ra, rfl, .int ((d' + 1 : Nat) : Int), rfl, _, _, rfl, rfl, .int nv, rfl, p, l, ra, ns, c5, d', nv, R, ?_, P5, hlen, by omega, hR.mono (pen_tk hP b45), ok, by omega, nv0, nv1, fun t v G6 c6 tv dt hc6 P6 b6 => ?_⟩
      · show [V.ref p, V.ref ra, V.int (((d' + 1 : Nat) : Int) - 1), V.int nv] = _
        rw [ez]
      · have g6 : G6 D2 = some (.lst acc) := b6 _ _ pD2 gD
        have k6 : TK G5 G6 := pen_tk P5 b6
        have kl : TK G6 (upd G6 D2 (.lst (acc ++ [v]))) := TK.lst g6 _
        have la := all.len
        refine ⟨acc, g6, by rw [sizeLine_eq]; omega, ts ++ [t], acc ++ [v], c6, ?_, upd_same, Tms.app (Tms.mono (k6.trans kl) _ _ all) (Tms.one (Tm.mono kl _ _ tv)), by rw [List.length_append, List.length_singleton, len], ?_, ?_, ?_⟩
        · intro b o nb e
          have e2 := b6 _ _ nb (b5 _ _ nb e)
          have nbD : b ≠ D2 := fun z => by rw [z, nD2] at e; cases e
          rw [upd_ne nbD]
          exact e2
        · obtain ⟨⟨a1, a2, a3, a4, a5⟩, a6⟩ := P6
          have lD : l ≠ D2 := fun z => by
            have e := P4.ls
            rw [z, nD2] at e
            cases e
          exact ⟨⟨a1, a2, a3, by rw [upd_ne pD2.symm]; exact a4, a5⟩, by rw [upd_ne lD]; exact a6⟩
        · rw [Nat.succ_mul]
          omega
        · intro t' ht'
          rcases List.mem_append.mp ht' with z | z
          · exact dts t' z
          · rw [List.mem_singleton.mp z]
            exact dt
    · rintro G5 ⟨ts, acc, c5, b5, gD, all, len, P5, hc5, dts⟩
      have b45 := b14.trans b5
      have la := all.len
      have ar : ts.length = r.2.1 := by omega
      have n4p : p4 ≠ p := fun z => by
        obtain ⟨⟨_, _, _, e, _⟩, _⟩ := P3
        rw [z, e] at n4
        cases n4
      have m4' : G5 p4 = some (.tup [.str r.1]) := b5 _ _ n4p m4
      refine ⟨D2, acc, rfl, .inl ⟨.inl (.inl gD), fun p6 n6 => ?_⟩⟩
      have s6 : Same G5 (upd G5 p6 (.tup acc)) := same_new (fun b o e => e) n6 _
      have m6 : (upd G5 p6 (.tup acc)) p6 = some (.tup acc) := upd_same
      have P6 := pen_same P5 s6
      have b16 := b45.trans (Pn.But.of s6)
      have all6 := Tms.mono (TK.same s6) _ _ all
      have m4'' := s6 _ _ m4'
      generalize upd G5 p6 (.tup acc) = G6 at s6 m6 P6 b16 all6 m4''
      have dt : DA R S (d' + 1) nv (.f r.1 ts) ∧ c5 ≤ c + dn (d' + 1) := by
        have named : ∀ us : List T, (∀ t ∈ us, t.named = true) → T.namedL us = true := by
          intro us
          induction us with
          | nil => intro _; rfl
          | cons u us ih =>
            intro h
            show (T.named u && T.namedL us) = true
            rw [h u List.mem_cons_self, ih fun t ht => h t (List.mem_cons_of_mem _ ht)]
            rfl
        have deps : ∀ (m : Nat) (us : List T), (∀ t ∈ us, t.dep ≤ m) → T.depL us ≤ m := by
          intro m us
          induction us with
          | nil => intro _; exact Nat.zero_le _
          | cons u us ih =>
            intro h
            have h1 := h u List.mem_cons_self
            have h2 := ih fun t ht => h t (List.mem_cons_of_mem _ ht)
            show max (T.dep u) (T.depL us) ≤ m
            omega
        have sizes : ∀ (m : Nat) (us : List T), (∀ t ∈ us, t.size ≤ m) → T.sizeL us ≤ us.length * m := by
          intro m us
          induction us with
          | nil => intro _; exact Nat.zero_le _
          | cons u us ih =>
            intro h
            have h1 := h u List.mem_cons_self
            have h2 := ih fun t ht => h t (List.mem_cons_of_mem _ ht)
            show T.size u + T.sizeL us ≤ (us.length + 1) * m
            rw [Nat.succ_mul]
            omega
        have vars : ∀ us : List T, (∀ t ∈ us, ∀ j ∈ t.vars, 0 ≤ j ∧ j < nv) → ∀ j ∈ T.varsL us, 0 ≤ j ∧ j < nv := by
          intro us
          induction us with
          | nil => intro _ j hj; cases hj
          | cons u us ih =>
            intro h j hj
            rcases List.mem_append.mp (show j ∈ T.vars u ++ T.varsL us from hj) with z | z
            · exact h u List.mem_cons_self j z
            · exact ih (fun t ht => h t (List.mem_cons_of_mem _ ht)) j z
        have hs := sizes (sz d') ts fun t ht => (dts t ht).size
        have hv := vars ts fun t ht => (dts t ht).vars
        have hn := named ts fun t ht => (dts t ht).named
        have hd := deps (d' + 1) ts fun t ht => (dts t ht).dep
        have szd : sz (d' + 1) = 1 + 3 * sz d' := rfl
        have hm : ts.length * sz d' ≤ 3 * sz d' := Nat.mul_le_mul_right _ (by omega)
        have hm2 : ((r.2.1 : Int)).toNat * dn d' ≤ 3 * dn d' := Nat.mul_le_mul_right _ (by omega)
        refine ⟨⟨?_, ?_, ?_, hv, ⟨⟨r, List.mem_append_right _ hrR, rfl, ar.symm⟩, Kb.wfL_of fun t ht => (dts t ht).wf.mono fun r hr => List.mem_append_left _ hr⟩, ⟨_, _, rfl, r, hrR, rfl⟩⟩, ?_⟩
        · show (nameOk r.1 && T.namedL ts) = true
          rw [strOk, hn]
          rfl
        · show 1 + T.depL ts ≤ d' + 1 + 1
          omega
        · show 1 + T.sizeL ts ≤ 1 + 3 * sz d'
          omega
        · show c5 ≤ c + (2 + 3 * dn d')
          omega
      refine ⟨p4, p6, _, _, rfl, rfl, .inl (.inl m4''), .inl (.inl m6), by simp, by rw [List.length_singleton, sizeLine_eq]; omega, fun e => ?_, fun e p7 n7 => ?_⟩
      · refine q (.f r.1 ts) _ G6 c5 ⟨p4, acc, rfl, ?_, all6⟩ dt.1 dt.2 P6 b16
        rw [e]
        exact .inl (.inl m4'')
      · have s7 : Same G6 (upd G6 p7 (.tup ([.str r.1] ++ acc))) := same_new (fun b o e => e) n7 _
        exact q (.f r.1 ts) _ _ c5 ⟨p7, acc, rfl, .inl (.inl upd_same), Tms.mono (TK.same s7) _ _ all6⟩ dt.1 dt.2 (pen_same P6 s7) (b16.trans (Pn.But.of s7))
end
end Ad

/-! Drawn ground terms and equations. -/
namespace Ad
open PySem PySem.Spec PySem.Calls PyProof.Rows L2
abbrev sLGround : Stmt := topS 18
theorem scLGround : FnScope ["_law_pen_here", "_law_rows", "_law_deep"] ["_law_pen_here", "_law_rows", "_law_deep"] (defScope sLGround) := ⟨rfl, rfl, rfl, by decide +kernel, rfl, by decide +kernel, by decide +kernel⟩
abbrev sLEq : Stmt := topS 19
theorem scLEq : FnScope ["_law_pen_here", "_law_rows"] ["_law_pen_here", "_law_rows"] (defScope sLEq) := ⟨rfl, rfl, rfl, by decide +kernel, rfl, by decide +kernel, by decide +kernel⟩
abbrev sLEqs : Stmt := topS 20
theorem scLEqs : FnScope ["_law_pen_here", "_law_rows", "_law_many", "_law_k"] ["_law_pen_here", "_law_rows", "_law_many"] (defScope sLEqs) := ⟨rfl, rfl, rfl, by decide +kernel, rfl, by decide +kernel, by decide +kernel⟩
theorem vars_none {t : T} (h : ∀ j ∈ t.vars, 0 ≤ j ∧ j < (0 : Int)) : t.vars = [] := by
  cases e : t.vars with
  | nil => rfl
  | cons j r =>
    have := h j (by rw [e]; exact List.mem_cons_self)
    omega
section
variable {P : Program} {w : World} {K : PySem.W.Frag} {mg : Str → Option Value} {base : Heap}
def spLGround (K : PySem.W.Frag) : Sp := fun vs H Q _ => ∃ (p l ra : Addr) (ns : List Int) (c : Nat) (R : List Row), vs = [.ref p, .ref ra, .int 2] ∧ Pn.Pen H p l ns c ∧ ns.length ≤ 1000 ∧ c ≤ 900000000 ∧ RowsAt K H ra R ∧ ROk R ∧
  ∀ t v H' c', Tm K H' t v → Gt 4 40 t → c' ≤ c + 26 → Pn.Pen H' p l ns c' → Pn.But p H H' → Q v H'
theorem ok_lground {f fT : Addr} {fd fdT : FuncData} {k : Nat} (F : Fun K "_law_ground" "_law_ground" sLGround f fd) (hT : Has P w K mg base k "_law_drawn_term" ["_law_pen_here", "_law_rows", "_law_deep", "_law_variables"] (spDrawn K 5) fT fdT) : FnOk P w K mg base CX0 (k + 1) f fd ["_law_pen_here", "_law_rows", "_law_deep"] (spLGround K) := by
  refine F.ok scLGround (fun vs H Q E h => ?_) (fun cdv A outer s H vs Q E hr h => ?_)
  · obtain ⟨p, l, ra, ns, c, R, rfl, _⟩ := h
    rfl
  · obtain ⟨p, l, ra, ns, c, R, rfl, hP, hlen, hc, hR, ok, q⟩ := h
    refine ⟨_, (pss_one (ps_ret (pe_call hT.G hr (by rfl) hT.g hT.kp hT.b .nil pass0 (pa_cons (pv 0) (pa_cons (pv 1) (pa_cons (pv 2) (pa_cons pe_int pa_nil))))))), ?_⟩
    have d2 : dn 2 = 26 := rfl
    refine ⟨.ref p, rfl, .ref ra, rfl, .int 2, rfl, p, l, ra, ns, c, 2, 0, R, rfl, hP, hlen, by omega, hR, ok, by omega, by omega, by omega, fun t v H' c' tv dt hc' P' b' => q t v H' c' tv ⟨dt.named, vars_none dt.vars, Nat.le_trans dt.dep (by omega), Nat.le_trans dt.size (by decide)⟩ (by omega) P' b'⟩
def spLEq (K : PySem.W.Frag) : Sp := fun vs H Q _ => ∃ (p l ra : Addr) (ns : List Int) (c : Nat) (R S : List Row), vs = [.ref p, .ref ra] ∧ Pn.Pen H p l ns c ∧ ns.length ≤ 1000 ∧ c ≤ 800000000 ∧ OrdAt K H ra R S ∧ ROk R ∧ TOk S ∧
  ∀ e v H' c', EqV K H' e v → Gt 4 40 e.1 → Gt 4 40 e.2 → c' ≤ c + 60 → Pn.Pen H' p l ns c' → Pn.But p H H' → Q v H'
theorem yes_gt : Gt 4 40 (.f "yes" []) := ⟨by decide +kernel, rfl, by decide, by decide⟩
theorem ok_leq {f fD fA fG : Addr} {fd fdD fdA fdG : FuncData} {k : Nat} (F : Fun K "_law_equation" "_law_equation" sLEq f fd) (hDraw : Has P w K mg base k "_law_draw" ["_law_pen_here", "_law_many"] Pn.spDraw fD fdD) (hAtom : Has P w K mg base k "_law_drawn_atom" ["_law_pen_here", "_law_rows", "_law_deep", "_law_variables"] (spLAtom K 5) fA fdA)
    (hGround : Has P w K mg base k "_law_ground" ["_law_pen_here", "_law_rows", "_law_deep"] (spLGround K) fG fdG) : FnOk P w K mg base CX0 (k + 1) f fd ["_law_pen_here", "_law_rows"] (spLEq K) := by
  refine F.ok scLEq (fun vs H Q E h => ?_) (fun cdv A outer s H vs Q E hr h => ?_)
  · obtain ⟨p, l, ra, ns, c, R, S, rfl, _⟩ := h
    rfl
  · obtain ⟨p, l, ra, ns, c, R, S, rfl, hP, hlen, hc, hO, ok, tok, q⟩ := h
    refine ⟨_, (pss_cons (ps_if (pt_cmpR op_eq (pe_call hDraw.G hr (by rfl) hDraw.g hDraw.kp hDraw.b .nil pass0 (pa_cons (pv 0) (pa_cons pe_int pa_nil))) pe_int (nomark _))
      (pss_one (ps_ret (pe_tup (pa_cons (pe_call hAtom.G hr (by rfl) hAtom.g hAtom.kp hAtom.b .nil pass0 (pa_cons (pv 0) (pa_cons (pv 1) (pa_cons pe_int (pa_cons pe_int pa_nil))))) (pa_cons (pe_tup (pa_cons pe_str pa_nil)) pa_nil))))) pss_nil)
    (pss_one (ps_ret (pe_tup (pa_cons (pe_call hGround.G hr (by rfl) hGround.g hGround.kp hGround.b .nil pass0 (pa_cons (pv 0) (pa_cons (pv 1) (pa_cons pe_int pa_nil)))) (pa_cons (pe_call hGround.G hr (by rfl) hGround.g hGround.kp hGround.b .nil pass0 (pa_cons (pv 0) (pa_cons (pv 1) (pa_cons pe_int pa_nil)))) pa_nil)))))), ?_⟩
    have d2 : dn 2 = 26 := rfl
    refine ⟨.ref p, rfl, p, l, ns, c, 4, rfl, hP, hlen, by omega, by decide, by decide, fun z G1 z0 z1 P1 b1 => ⟨rfl, _, rfl, ?_⟩⟩
    have hO1 := hO.mono (pen_tk hP b1)
    refine ite2 (fun _ => ?_) (fun _ => ?_)
    · refine ⟨.ref p, rfl, .ref ra, rfl, p, l, ra, ns, c + 1, 1, 0, R, S, rfl, P1, hlen, ?_, hO1, ok, tok, by omega, by omega, by omega, fun t v G2 c2 tv da hc2 P2 b2 => ?_⟩
      · show c + 1 + dn 2 ≤ _
        omega
      have hc2' : c2 ≤ c + 1 + dn 2 := hc2
      refine ⟨(by show 1 ≤ sizeLine; decide), fun y ny => ?_⟩
      have s3 : Same G2 (upd G2 y (.tup [.str "yes"])) := same_new (fun b o e => e) ny _
      have ey : Tm K (upd G2 y (.tup [.str "yes"])) (.f "yes" []) (.ref y) := ⟨y, [], rfl, .inl (.inl upd_same), rfl⟩
      generalize upd G2 y (.tup [.str "yes"]) = G3 at s3 ey
      refine ⟨(by show 2 ≤ sizeLine; decide), fun e1 ne => ?_⟩
      have s4 : Same G3 (upd G3 e1 (.tup [v, .ref y])) := same_new (fun b o e => e) ne _
      refine q (t, .f "yes" []) _ _ c2 ⟨e1, v, .ref y, rfl, .inl (.inl upd_same), Tm.mono (TK.same (s3.trans s4)) _ _ tv, Tm.mono (TK.same s4) _ _ ey⟩ ⟨da.named, vars_none da.vars, Nat.le_trans da.dep (by omega), Nat.le_trans da.size (by decide)⟩ yes_gt (by omega) (pen_same P2 (s3.trans s4)) ((b1.trans b2).trans (Pn.But.of (s3.trans s4)))
    · refine ⟨.ref p, rfl, .ref ra, rfl, p, l, ra, ns, c + 1, R, rfl, P1, hlen, by omega, hO1.rows, ok, fun t v G2 c2 tv gt hc2 P2 b2 => ?_⟩
      have hO2 := hO1.mono (pen_tk P1 b2)
      refine ⟨.ref p, rfl, .ref ra, rfl, p, l, ra, ns, c2, R, rfl, P2, hlen, by omega, hO2.rows, ok, fun t' v' G3 c3 tv' gt' hc3 P3 b3 => ?_⟩
      refine ⟨(by show 2 ≤ sizeLine; decide), fun e1 ne => ?_⟩
      have s4 : Same G3 (upd G3 e1 (.tup [v, v'])) := same_new (fun b o e => e) ne _
      refine q (t, t') _ _ c3 ⟨e1, v, v', rfl, .inl (.inl upd_same), Tm.mono ((pen_tk P2 b3).trans (TK.same s4)) _ _ tv, Tm.mono (TK.same s4) _ _ tv'⟩ gt gt' (by omega) (pen_same P3 s4) (((b1.trans b2).trans b3).trans (Pn.But.of s4))
def spLEqs (K : PySem.W.Frag) : Sp := fun vs H Q _ => ∃ (p l ra : Addr) (ns : List Int) (c : Nat) (many : Nat) (R S : List Row), vs = [.ref p, .ref ra, .int (many : Int)] ∧ many ≤ 100 ∧ Pn.Pen H p l ns c ∧ ns.length ≤ 1000 ∧ c ≤ 700000000 ∧ OrdAt K H ra R S ∧ ROk R ∧ TOk S ∧
  ∀ d eqs es H' c', H d = none → H' d = some (.lst es) → F2 (EqV K H') eqs es → Egd eqs → eqs.length ≤ many → c' ≤ c + 1 + 60 * many → Pn.Pen H' p l ns c' → Pn.But p H H' → Q (.ref d) H'
theorem ok_leqs {f fD fE : Addr} {fd fdD fdE : FuncData} {k : Nat} (F : Fun K "_law_equations" "_law_equations" sLEqs f fd) (hDraw : Has P w K mg base k "_law_draw" ["_law_pen_here", "_law_many"] Pn.spDraw fD fdD) (hEq : Has P w K mg base k "_law_equation" ["_law_pen_here", "_law_rows"] (spLEq K) fE fdE) (m_range : mg "range" = none) :
    FnOk P w K mg base CX0 (k + 1) f fd ["_law_pen_here", "_law_rows", "_law_many"] (spLEqs K) := by
  refine F.ok scLEqs (fun vs H Q E h => ?_) (fun cdv A outer s H vs Q E hr h => ?_)
  · obtain ⟨p, l, ra, ns, c, many, R, S, rfl, _⟩ := h
    rfl
  · obtain ⟨p, l, ra, ns, c, many, R, S, rfl, few, hP, hlen, hc, hO, ok, tok, q⟩ := h
    refine ⟨_, (pss_one (ps_ret (pe_lc (own := [("_law_k", 3)]) (g := gName 3) (tt := tYes) (te := tCall (spLEq K) [] E0 (tCons (tVar 0) (tCons (tVar 1) tNil))) rfl scLEqs.nd (pi_range1 (by rfl) m_range (pa_cons (pe_call hDraw.G hr (by rfl) hDraw.g hDraw.kp hDraw.b .nil pass0 (pa_cons (pv 0) (pa_cons (pe_op op_add (pv 2) pe_int) pa_nil))) pa_nil)) (blkOk_by (N := ["_law_pen_here", "_law_rows", "_law_many", "_law_k"]) (sc := defScope sLEqs) (by decide +kernel)) (fun _ _ _ _ _ => (pg_name (i := 3) scLEqs.nd rfl (.inl rfl))) (fun _ _ _ _ _ => pts_nil) (fun _ _ _ _ _ => (pe_call hEq.G hr (by rfl) hEq.g hEq.kp hEq.b .nil pass0 (pa_cons (pv 0) (pa_cons (pv 1) pa_nil))))))), ?_⟩
    refine ⟨.ref p, rfl, .int (many : Int), rfl, _, _, rfl, rfl, p, l, ns, c, (many : Int) + 1, rfl, hP, hlen, by omega, by omega, by omega, fun r G1 r0 r1 P1 b1 => ?_⟩
    refine ⟨_, rfl, by omega, by omega, fun D nD => ?_⟩
    have rn : (r.toNat : Int) = r := by omega
    refine lc_range (lo := 0) (n := r.toNat) (fun i G => ∃ (eqs : List (T × T)) (acc : List V) (c2 : Nat), Pn.But p G1 G ∧ G D = some (.lst acc) ∧ Pn.Pen G p l ns c2 ∧ c2 ≤ c + 1 + 60 * i ∧ F2 (EqV K G) eqs acc ∧ Egd eqs ∧ eqs.length = i) ⟨[], [], c + 1, Pn.But.of (same_new (fun b o e => e) nD _), upd_same, pen_same P1 (same_new (fun b o e => e) nD _), by omega, rfl, (fun e he => nomatch he), rfl⟩ ?_ ?_
    · rintro i G hi ⟨eqs, acc, c2, b2, gD, P2, hc2, fe, eg, le⟩
      have b12 := b1.trans b2
      have hO2 := hO.mono (pen_tk hP b12)
      have la := fe.len
      refine ⟨rfl, .ref p, rfl, .ref ra, rfl, p, l, ra, ns, c2, R, S, rfl, P2, hlen, by omega, hO2, ok, tok, fun e v G3 c3 ev g1 g2 hc3 P3 b3 => ?_⟩
      have gD3 := b3 _ _ (pen_kept P1 nD) gD
      have k3 : TK G3 (upd G3 D (.lst (acc ++ [v]))) := TK.lst gD3 _
      refine ⟨acc, gD3, by rw [sizeLine_eq]; omega, eqs ++ [e], acc ++ [v], c3, but_on (b2.trans b3) nD _, upd_same, pen_on P1 nD P3 _, by omega, F2.app (fe.mono (EqV.mono ((pen_tk P2 b3).trans k3))) (F2.one (EqV.mono k3 _ _ ev)), fun e' he => ?_, by rw [List.length_append, List.length_singleton, le]⟩
      rcases List.mem_append.mp he with z | z
      · exact eg e' z
      · rw [List.mem_singleton.mp z]
        exact ⟨g1, g2⟩
    · rintro G ⟨eqs, acc, c2, b2, gD, P2, hc2, fe, eg, le⟩
      refine q D eqs acc G c2 ?_ gD fe eg (by omega) (by omega) P2 (b1.trans b2)
      cases z : H D with
      | none => rfl
      | some o =>
        by_cases e : D = p
        · rw [e] at nD
          obtain ⟨⟨_, _, _, e2, _⟩, _⟩ := P1
          rw [e2] at nD
          cases nD
        · have := b1 _ _ e z
          rw [nD] at this
          cases this
end
end Ad

namespace Ad
open PySem PySem.Spec PySem.Calls PyProof.Rows L2
abbrev sOrder : Stmt := topS 13
theorem scOrder : FnScope ["_law_pen_here", "_law_things", "_law_truths", "_law_rows", "_law_kind", "_law_blend", "_law_lap", "_law_name", "_law_arity"] ["_law_pen_here"] (defScope sOrder) := ⟨rfl, rfl, rfl, by decide +kernel, rfl, by decide +kernel, by decide +kernel⟩
section
variable {P : Program} {w : World} {K : PySem.W.Frag} {mg : Str → Option Value} {base : Heap}
theorem ok_order {f fD fP : Addr} {fd fdD fdP : FuncData} {k : Nat} (F : Fun K "_law_drawn_order" "_law_drawn_order" sOrder f fd)
    (GD : FnOk P w K mg base CX0 k fD fdD ["_law_pen_here", "_law_many"] Pn.spDraw) (gD : mg "_law_draw" = some (.ref fD)) (kD : PySem.W.keepIn K (.ref fD) = true) (bD : Binds K fdD ["_law_pen_here", "_law_many"] [])
    (GP : FnOk P w K mg base CX0 k fP fdP ["_law_pen_here", "_law_some"] (Pn.spPick K)) (gP : mg "_law_pick" = some (.ref fP)) (kP : PySem.W.keepIn K (.ref fP) = true) (bP : Binds K fdP ["_law_pen_here", "_law_some"] []) (mt : mg "tuple" = none) (mr : mg "range" = none) (mL : mg "list" = none) (ml : mg "len" = none) :
    FnOk P w K mg base CX0 (k + 1) f fd ["_law_pen_here"] (spOrder K) := by
  refine F.ok scOrder (fun vs H Q E h => ?_) (fun cdv A outer s H vs Q E hr h => ?_)
  · obtain ⟨p, l, ns, c, rfl, _⟩ := h
    rfl
  · obtain ⟨p, l, ns, c, rfl, hP, hlen, hc, q⟩ := h
    refine' ⟨_, C8.pss_cut ?s1 (C8.pss_cut ?s2 (C8.pss_cut ?s3 (pss_cons ?s4 (pss_cons ?s5 (pss_one ?s6))))), ?_⟩
    case s1 => exact (ps_set (i := 1) scOrder.nd rfl (.inl rfl) (pe_op op_cat (pe_op op_cat (pe_lst (pa_cons (pe_tup (pa_cons pe_str (pa_cons pe_int pa_nil))) (pa_cons (pe_tup (pa_cons pe_str (pa_cons pe_int pa_nil))) pa_nil)))
          (pe_ifExp (pt_cmpR op_eq (pe_call GD hr (by rfl) gD kD bD .nil pass0 (pa_cons (pv 0) (pa_cons pe_int pa_nil))) pe_int (nomark _)) (pe_lst (pa_cons (pe_tup (pa_cons pe_str (pa_cons pe_int pa_nil))) pa_nil)) (pe_lst pa_nil)))
          (pe_lst (pa_cons (pe_tup (pa_cons pe_str (pa_cons pe_int pa_nil))) pa_nil))))
    case s2 => exact (ps_set (i := 1) scOrder.nd rfl (.inl rfl) (pe_op op_cat (pv 1)
          (pe_ifExp (pt_cmpR op_eq (pe_call GD hr (by rfl) gD kD bD .nil pass0 (pa_cons (pv 0) (pa_cons pe_int pa_nil))) pe_int (nomark _)) (pe_lst (pa_cons (pe_tup (pa_cons pe_str (pa_cons pe_int pa_nil))) pa_nil)) (pe_lst pa_nil))))
    case s3 => exact (ps_set (i := 2) scOrder.nd rfl (.inl rfl) (pe_op op_cat (pe_lst (pa_cons (pe_tup (pa_cons pe_str (pa_cons pe_int pa_nil))) pa_nil))
          (pe_call GP hr (by rfl) gP kP bP .nil pass0 (pa_cons (pv 0) (pa_cons (pe_lst (pa_cons (pe_lst (pa_cons (pe_tup (pa_cons pe_str (pa_cons pe_int pa_nil))) pa_nil)) (pa_cons (pe_lst (pa_cons (pe_tup (pa_cons pe_str (pa_cons pe_int pa_nil))) pa_nil)) (pa_cons (pe_lst (pa_cons (pe_tup (pa_cons pe_str (pa_cons pe_int pa_nil))) (pa_cons (pe_tup (pa_cons pe_str (pa_cons pe_int pa_nil))) pa_nil))) pa_nil)))) pa_nil)))))
    case s4 => exact (ps_set (i := 3) scOrder.nd rfl (.inl rfl) (pe_lst pa_nil))
    case s5 => exact (ps_for PassesOwn.never rfl (pi_list (pe_lst (pa_cons (pv 1) (pa_cons (pv 2) pa_nil)))) (pg_name (i := 4) scOrder.nd rfl (.inl rfl))
        (pss_cons (ps_par (i := 4) (j := 5) (by rfl) scOrder.nd rfl rfl (by decide) rfl rfl (pa_cons (pe_callTy call_list_of (by rfl) mL (by decide +kernel) (pa_cons (pv 4) pa_nil)) (pa_cons (pe_lst pa_nil) pa_nil)) (by rfl))
        (pss_cons (ps_for PassesOwn.never rfl (pi_range1 (by rfl) mr (pa_cons (pe_callB call_len_seq (by rfl) ml PySem.boot_len (pa_cons (pv 4) pa_nil)) pa_nil)) (pg_name (i := 6) scOrder.nd rfl (.inl rfl))
          (pss_cons (ps_asg (pe_bm PySem.F.plainAttrs_list PySem.F.slot_list_pop PySem.F.type_list_pop mt_popAt (pv 4) (pa_cons (pe_call GD hr (by rfl) gD kD bD .nil pass0 (pa_cons (pv 0) (pa_cons (pe_callB call_len_seq (by rfl) ml PySem.boot_len (pa_cons (pv 4) pa_nil)) pa_nil))) pa_nil)) (pg_tup rfl (pgs_cons (pg_name (i := 7) scOrder.nd rfl (.inl rfl)) (pgs_cons (pg_name (i := 8) scOrder.nd rfl (.inl rfl)) pgs_nil))))
          (pss_one (ps_expr (pe_bm PySem.F.plainAttrs_list PySem.F.slot_list_append PySem.F.type_list_append mt_append (pv 5) (pa_cons (pe_tup (pa_cons (pv 7) (pa_cons (pv 8) (pa_cons (pe_call GP hr (by rfl) gP kP bP .nil pass0 (pa_cons (pv 0) (pa_cons (pe_lst (pa_cons pe_int (pa_cons pe_int (pa_cons pe_int pa_nil)))) pa_nil))) pa_nil)))) pa_nil))))))
        (pss_one (ps_expr (pe_bm PySem.F.plainAttrs_list PySem.F.slot_list_append PySem.F.type_list_append mt_append (pv 3) (pa_cons (pe_callTy call_tuple_of (by rfl) mt (by decide +kernel) (pa_cons (pv 5) pa_nil)) pa_nil)))))))
    case s6 => exact (ps_ret (pe_tup (pa_cons (pe_ix ix_list (pv 3) pe_int (fun _ _ => rfl)) (pa_cons (pe_ix ix_list (pv 3) pe_int (fun _ _ => rfl)) pa_nil))))
    refine ⟨fun σ G => ∃ (th : Addr) (R : List Pr) (c1 : Nat), σ = [some (.ref p), some (.ref th), none, none, none, none, none, none, none] ∧ LsP K G R th ∧ H th = none ∧ R ∈ [[(("a" : Str), 0), ("b", 0), ("c", 0), ("f", 1)], [("a", 0), ("b", 0), ("f", 1)]] ∧ Pn.Pen G p l ns c1 ∧ c1 ≤ c + 1 ∧ Pn.But p H G, ?_, ?_⟩
    · dsimp only [tAsg, tOp, tIf, tTest]
      refine lit_ls2 K (x := "a") (y := "b") (n := 0) (m := 0) fun a1 G1 s1 n1 L1 => ?_
      have P1 := pen_same hP s1
      refine ⟨.ref p, rfl, p, l, ns, c, 3, rfl, P1, hlen, by omega, by decide, by decide, fun r G2 r0 r1 P2 b2 => ⟨rfl, _, rfl, ?_⟩⟩
      have na := pen_kept hP n1
      replace L1 := LsP.but P1 b2 na L1
      have b12 : Pn.But p H G2 := (Pn.But.of s1).trans b2
      refine ite2 (fun _ => ?_) (fun _ => ?_)
      · refine lit_ls1 K (x := "c") (n := 0) fun a3 G3 s3 n3 L3 => ?_
        refine cat_prs (L1.same s3) L3 (by decide) fun a4 G4 s4 n4 L4 => ?_
        refine lit_ls1 K (x := "f") (n := 1) fun a5 G5 s5 n5 L5 => ?_
        refine cat_prs (L4.same s5) L5 (by decide) fun a6 G6 s6 n6 L6 => ?_
        have sm : Same G2 G5 := fun b o e => s5 b o (s4 b o (s3 b o e))
        have b5 := b12.trans (Pn.But.of sm)
        exact ⟨a6, _, c + 1, rfl, L6, fresh_back b5 (pen_same P2 sm) n6, by simp, pen_same (pen_same P2 sm) s6, Nat.le_refl _, b5.trans (Pn.But.of s6)⟩
      · refine lit_ls0 K fun a3 G3 s3 n3 L3 => ?_
        refine cat_prs (L1.same s3) L3 (by decide) fun a4 G4 s4 n4 L4 => ?_
        refine lit_ls1 K (x := "f") (n := 1) fun a5 G5 s5 n5 L5 => ?_
        refine cat_prs (L4.same s5) L5 (by decide) fun a6 G6 s6 n6 L6 => ?_
        have sm : Same G2 G5 := fun b o e => s5 b o (s4 b o (s3 b o e))
        have b5 := b12.trans (Pn.But.of sm)
        exact ⟨a6, _, c + 1, rfl, L6, fresh_back b5 (pen_same P2 sm) n6, by simp, pen_same (pen_same P2 sm) s6, Nat.le_refl _, b5.trans (Pn.But.of s6)⟩
    rintro σ G ⟨th, R, c1, rfl, LR, nth, hR, P1, hc1, b1⟩
    refine ⟨fun σ G => ∃ (th : Addr) (R : List Pr) (c1 : Nat), σ = [some (.ref p), some (.ref th), none, none, none, none, none, none, none] ∧ LsP K G R th ∧ H th = none ∧ R ∈ thingsB ∧ Pn.Pen G p l ns c1 ∧ c1 ≤ c + 2 ∧ Pn.But p H G, ?_, ?_⟩
    · dsimp only [tAsg, tOp, tIf, tTest]
      refine ⟨.ref th, rfl, .ref p, rfl, p, l, ns, c1, 2, rfl, P1, hlen, by omega, by decide, by decide, fun r G2 r0 r1 P2 b2 => ⟨rfl, _, rfl, ?_⟩⟩
      have na := pen_kept hP nth
      replace LR := LsP.but P1 b2 na LR
      have b12 : Pn.But p H G2 := b1.trans b2
      refine ite2 (fun _ => ?_) (fun _ => ?_)
      · refine lit_ls1 K (x := "g") (n := 2) fun a3 G3 s3 n3 L3 => ?_
        refine cat_prs (LR.same s3) L3 ?_ fun a4 G4 s4 n4 L4 => ?_
        · rcases List.mem_cons.mp hR with e | e
          · rw [e]; decide
          · rw [List.mem_singleton.mp e]; decide
        have b5 := b12.trans (Pn.But.of s3)
        refine ⟨a4, _, c1 + 1, rfl, L4, fresh_back b5 (pen_same P2 s3) n4, ?_, pen_same (pen_same P2 s3) s4, by omega, b5.trans (Pn.But.of s4)⟩
        rcases List.mem_cons.mp hR with e | e
        · rw [e]; decide
        · rw [List.mem_singleton.mp e]; decide
      · refine lit_ls0 K fun a3 G3 s3 n3 L3 => ?_
        refine cat_prs (LR.same s3) L3 ?_ fun a4 G4 s4 n4 L4 => ?_
        · rcases List.mem_cons.mp hR with e | e
          · rw [e]; decide
          · rw [List.mem_singleton.mp e]; decide
        have b5 := b12.trans (Pn.But.of s3)
        refine ⟨a4, _, c1 + 1, rfl, L4, fresh_back b5 (pen_same P2 s3) n4, ?_, pen_same (pen_same P2 s3) s4, by omega, b5.trans (Pn.But.of s4)⟩
        rcases List.mem_cons.mp hR with e | e
        · rw [e]; decide
        · rw [List.mem_singleton.mp e]; decide
    clear hR LR nth P1 hc1 b1 R th c1 G
    rintro σ G ⟨th, R, c1, rfl, LR, nth, hR, P1, hc1, b1⟩
    refine ⟨fun σ G => ∃ (tr : Addr) (S : List Pr) (c1 : Nat), σ = [some (.ref p), some (.ref th), some (.ref tr), none, none, none, none, none, none] ∧ LsP K G R th ∧ LsP K G S tr ∧ H tr = none ∧ S ∈ truthsB ∧ Pn.Pen G p l ns c1 ∧ c1 ≤ c + 3 ∧ Pn.But p H G, ?_, ?_⟩
    · dsimp only [tAsg, tOp, tCall]
      refine lit_ls1 K (x := "p") (n := 1) fun a1 G1 s1 n1 L1 => ?_
      refine ⟨.ref p, rfl, ?_⟩
      refine lit_truths K fun a2 G2 xs s2 n2 e2 len2 mem2 => ?_
      have sm : Same G G2 := fun b o e => s2 b o (s1 b o e)
      have P2 := pen_same P1 sm
      have na1 : a1 ≠ p := pen_kept P1 n1
      have na2 : a2 ≠ p := pen_kept (pen_same P1 s1) n2
      refine ⟨p, l, a2, ns, c1, xs, rfl, P2, hlen, by omega, .inl (.inl (.inl e2)), (by intro z; rw [z] at len2; cases len2), by omega, na2, fun x G3 hx P3 b3 => ?_⟩
      obtain ⟨b, S, rfl, nb, Lb, hS⟩ := mem2 x hx
      have nbp : b ≠ p := pen_kept (pen_same P1 s1) nb
      refine cat_prs (LsP.but P2 b3 na1 (L1.same s2)) (LsP.but P2 b3 nbp Lb) ?_ fun a4 G4 s4 n4 L4 => ?_
      · simp only [List.mem_cons, List.mem_nil_iff, or_false] at hS
        rcases hS with e | e | e <;> rw [e] <;> decide
      have b5 := (b1.trans (Pn.But.of sm)).trans b3
      refine ⟨a4, _, c1 + 1, rfl, ?_, L4, fresh_back b5 P3 n4, ?_, pen_same P3 s4, by omega, b5.trans (Pn.But.of s4)⟩
      · exact (LsP.but P2 b3 (pen_kept hP nth) (LR.same sm)).same s4
      · simp only [List.mem_cons, List.mem_nil_iff, or_false] at hS
        rcases hS with e | e | e <;> rw [e] <;> decide
    clear LR P1 hc1 b1 c1 G
    rintro σ G ⟨tr, S, c1, rfl, LR, LS, ntr, hS, P1, hc1, b1⟩
    refine ⟨by decide, fun rw nrw => ?_⟩
    have nrwH := fresh_back b1 P1 nrw
    have thrw : th ≠ rw := by
      obtain ⟨vs, e, _⟩ := LR
      exact ne_of_none e nrw
    have trrw : tr ≠ rw := by
      obtain ⟨vs, e, _⟩ := LS
      exact ne_of_none e nrw
    have s0 : Same G (upd G rw (.lst [])) := same_new (fun b o e => e) nrw _
    replace LR := LR.same s0
    replace LS := LS.same s0
    replace P1 := pen_same P1 s0
    replace b1 := b1.trans (Pn.But.of s0)
    have erw : (upd G rw (.lst [])) rw = some (.lst []) := upd_same
    clear s0 nrw
    generalize upd G rw (.lst []) = G0 at LR LS P1 b1 erw ⊢
    refine ⟨.ref th, rfl, .ref tr, rfl, (by show 2 ≤ sizeLine; decide), fun it nit => ⟨it, rfl, ⟨_, .inl (.inl upd_same)⟩, ?_⟩⟩
    have nitH := fresh_back b1 P1 nit
    have itrw : it ≠ rw := fun z => by rw [z, erw] at nit; cases nit
    have s0 : Same G0 (upd G0 it (.lst [.ref th, .ref tr])) := same_new (fun b o e => e) nit _
    replace LR := LR.same s0
    replace LS := LS.same s0
    replace P1 := pen_same P1 s0
    replace b1 := b1.trans (Pn.But.of s0)
    replace erw := s0 _ _ erw
    have eit : (upd G0 it (.lst [.ref th, .ref tr])) it = some (.lst [.ref th, .ref tr]) := upd_same
    clear s0 nit
    generalize upd G0 it (.lst [.ref th, .ref tr]) = G1 at LR LS P1 b1 erw eit ⊢
    have thp := pen_kept hP nth
    have trp := pen_kept hP ntr
    have rwp := pen_kept hP nrwH
    have itp := pen_kept hP nitH
    refine for_list (K := K) (a := it) (xs := [.ref th, .ref tr]) (fun i σ G => ∃ (v4 v5 v6 v7 v8 : Option V) (c2 : Nat) (rvs : List V), σ = [some (.ref p), some (.ref th), some (.ref tr), some (.ref rw), v4, v5, v6, v7, v8] ∧ Pn.Pen G p l ns c2 ∧ c2 ≤ c + 3 + i * 10 ∧ Pn.But p H G ∧ LsP K G R th ∧ LsP K G S tr ∧
      G rw = some (.lst rvs) ∧ F2 (KdV K G) ([R, S].take i) rvs ∧ G it = some (.lst [.ref th, .ref tr])) ⟨none, none, none, none, none, c1, [], rfl, P1, by omega, b1, LR, LS, erw, rfl, eit⟩ (fun i σ G _ ⟨_, _, _, _, _, _, _, _, _, _, _, _, _, _, _, e⟩ => .inl (.inl e)) ?_ ?_
    · clear LR LS P1 b1 erw eit G1 G0 hc1 c1 G
      rintro i x σ G hx ⟨v4, v5, v6, v7, v8, c2, rvs, rfl, P2, hc2, b2, LR, LS, erw, frw, eit⟩
      obtain ⟨kd0, B, hB, rfl, LB, nkp, hlt, fewB⟩ : ∃ kd0 B, [R, S][i]? = some B ∧ x = .ref kd0 ∧ LsP K G B kd0 ∧ kd0 ≠ p ∧ i < 2 ∧ B.length ≤ 5 := by
        match i, hx with
        | 0, hx =>
          refine ⟨th, R, rfl, (Option.some.inj hx).symm, LR, thp, by omega, ?_⟩
          have : (thingsB.all fun B => decide (B.length ≤ 5)) = true := by decide
          exact of_decide_eq_true (List.all_eq_true.mp this R hR)
        | 1, hx =>
          refine ⟨tr, S, rfl, (Option.some.inj hx).symm, LS, trp, by omega, ?_⟩
          have : (truthsB.all fun B => decide (B.length ≤ 5)) = true := by decide
          exact of_decide_eq_true (List.all_eq_true.mp this S hS)
      obtain ⟨ks, ek, fk⟩ := LB
      refine ⟨.ref kd0, rfl, kd0, ks, rfl, .inl (.inl (.inl ek)), fun kd nkd => ⟨Nat.zero_le _, fun bl nbl => ⟨.ref kd, .ref bl, rfl, ?_⟩⟩⟩
      have nkdH := fresh_back b2 P2 nkd
      have s0 : Same G (upd G kd (.lst ks)) := same_new (fun b o e => e) nkd _
      have ekd : (upd G kd (.lst ks)) kd = some (.lst ks) := upd_same
      have rwkd : rw ≠ kd := ne_of_none erw nkd
      have thkd : th ≠ kd := by
        obtain ⟨vs, e, _⟩ := LR
        exact ne_of_none e nkd
      have trkd : tr ≠ kd := by
        obtain ⟨vs, e, _⟩ := LS
        exact ne_of_none e nkd
      have itkd : it ≠ kd := ne_of_none eit nkd
      replace LR := LR.same s0
      replace LS := LS.same s0
      replace P2 := pen_same P2 s0
      replace b2 := b2.trans (Pn.But.of s0)
      replace erw := s0 _ _ erw
      replace eit := s0 _ _ eit
      replace fk := fk.mono (PrV.mono (TK.same s0))
      replace frw := frw.mono (KdV.mono (TK.same s0))
      clear s0 nkd ek
      generalize upd G kd (.lst ks) = G2 at ekd LR LS P2 b2 erw eit fk frw nbl ⊢
      have nblH := fresh_back b2 P2 nbl
      have s0 : Same G2 (upd G2 bl (.lst [])) := same_new (fun b o e => e) nbl _
      have ebl : (upd G2 bl (.lst [])) bl = some (.lst []) := upd_same
      have rwbl : rw ≠ bl := ne_of_none erw nbl
      have thbl : th ≠ bl := by
        obtain ⟨vs, e, _⟩ := LR
        exact ne_of_none e nbl
      have trbl : tr ≠ bl := by
        obtain ⟨vs, e, _⟩ := LS
        exact ne_of_none e nbl
      have itbl : it ≠ bl := ne_of_none eit nbl
      have kdbl : kd ≠ bl := ne_of_none ekd nbl
      replace LR := LR.same s0
      replace LS := LS.same s0
      replace P2 := pen_same P2 s0
      replace b2 := b2.trans (Pn.But.of s0)
      replace erw := s0 _ _ erw
      replace eit := s0 _ _ eit
      replace ekd := s0 _ _ ekd
      replace fk := fk.mono (PrV.mono (TK.same s0))
      replace frw := frw.mono (KdV.mono (TK.same s0))
      clear s0 nbl
      generalize upd G2 bl (.lst []) = G3 at ekd ebl LR LS P2 b2 erw eit fk frw ⊢
      have kdp := pen_kept hP nkdH
      have blp := pen_kept hP nblH
      have lk := fk.len
      refine ⟨.ref kd, rfl, kd, ks, rfl, .inl (.inl (.inl ekd)), _, rfl, by omega, by omega, for_range (lo := 0) (n := ((ks.length : Int)).toNat) (fun j σ G => ∃ (v6 v7 v8 : Option V) (c3 : Nat) (rest : List Pr) (done : List Row) (rs ds : List V), σ = [some (.ref p), some (.ref th), some (.ref tr), some (.ref rw), some (.ref kd), some (.ref bl), v6, v7, v8] ∧
        Pn.Pen G p l ns c3 ∧ c3 ≤ c2 + j * 2 ∧ Pn.But p H G ∧ Bt p kd bl G3 G ∧ G kd = some (.lst rs) ∧ G bl = some (.lst ds) ∧ F2 (PrV K G) rest rs ∧ F2 (RowV K G) done ds ∧ done.length = j ∧ (rest ++ done.map fun r => (r.1, r.2.1)).Perm B ∧ ∀ r ∈ done, r.2.2 = 1 ∨ r.2.2 = 2)
        ⟨v6, v7, v8, c2, B, [], ks, [], rfl, P2, by omega, b2, Bt.refl _, ekd, ebl, fk, rfl, rfl, by rw [List.map_nil, List.append_nil], fun r hr => nomatch hr⟩ ?_ ?_⟩
      · rintro j σ G4 hj ⟨v6, v7, v8, c3, rest, done, rs, ds, rfl, P4, hc3, b4, t4, gk, gb, fr, fd, ld, perm, wts⟩
        have lr := fr.len
        have lds := fd.len
        have tot := perm.length_eq
        rw [List.length_append, List.length_map] at tot
        refine ⟨_, rfl, .inl ⟨rfl, _, .inl (.inl gk)⟩, .ref p, rfl, .ref kd, rfl, kd, rs, rfl, .inl (.inl (.inl gk)), p, l, ns, c3, _, rfl, P4, hlen, by omega, by omega, by omega, fun r G5 r0 r1 P5 b5 => ?_⟩
        obtain ⟨m, rfl⟩ : ∃ m : Nat, r = (m : Int) := ⟨r.toNat, by omega⟩
        have hm : m < rs.length := by omega
        have hg : rs[m]? = some rs[m] := List.getElem?_eq_getElem hm
        generalize rs[m] = y at hg
        have gk5 := b5 _ _ kdp gk
        have gb5 := b5 _ _ blp gb
        have k5 := pen_tk P4 b5
        obtain ⟨pr, hpr, ⟨b, rfl, sqb⟩⟩ := (fr.mono (PrV.mono k5)).get hg
        refine ⟨kd, rs, (m : Int), m, .ref b, rfl, rfl, gk5, by omega, by omega, sx_nat hm, hg, ?_⟩
        have k6 : TK G5 (upd G5 kd (.lst (rs.eraseIdx m))) := TK.lst gk5 _
        have gk6 : (upd G5 kd (.lst (rs.eraseIdx m))) kd = some (.lst (rs.eraseIdx m)) := upd_same
        have gb6 : (upd G5 kd (.lst (rs.eraseIdx m))) bl = some (.lst ds) := by rw [upd_ne kdbl.symm]; exact gb5
        have P6 := pen_on hP nkdH P5 (.lst (rs.eraseIdx m))
        have b6 := but_on (b4.trans b5) nkdH (.lst (rs.eraseIdx m))
        have t6 := (t4.but b5).u (.lst (rs.eraseIdx m))
        replace sqb := k6.sq sqb
        have fr6 := F2.erase m (fr.mono (PrV.mono (k5.trans k6)))
        have fd6 := fd.mono (RowV.mono (k5.trans k6))
        clear k5 k6 P5 b5 P4 b4 t4 gk gb fr fd gk5 gb5
        generalize upd G5 kd (.lst (rs.eraseIdx m)) = G6 at gk6 gb6 P6 b6 t6 sqb fr6 fd6 ⊢
        refine ⟨b, _, rfl, sqb, rfl, .str pr.1, _, rfl, .int (pr.2 : Int), _, rfl, rfl, ?_⟩
        refine ⟨_, rfl, .inl ⟨rfl, _, .inl (.inl gb6)⟩, .str pr.1, rfl, .int (pr.2 : Int), rfl, .ref p, rfl, (by show 3 ≤ sizeLine; decide), fun q4 n4 => ?_⟩
        have s7 : Same G6 (upd G6 q4 (.lst [.int 1, .int 1, .int 2])) := same_new (fun b o e => e) n4 _
        have e7 : (upd G6 q4 (.lst [.int 1, .int 1, .int 2])) q4 = some (.lst [.int 1, .int 1, .int 2]) := upd_same
        have q4p := pen_kept P6 n4
        have P7 := pen_same P6 s7
        refine ⟨p, l, q4, ns, c3 + 1, _, rfl, P7, hlen, by omega, .inl (.inl (.inl e7)), (by intro z; cases z), (by show 3 ≤ 1000000; decide), q4p, fun x G8 hx P8 b8 => ?_⟩
        obtain ⟨wt, rfl, hwt⟩ : ∃ wt : Int, x = .int wt ∧ (wt = 1 ∨ wt = 2) := by
          simp only [List.mem_cons, List.mem_nil_iff, or_false] at hx
          rcases hx with e | e | e <;> rw [e]
          · exact ⟨1, rfl, .inl rfl⟩
          · exact ⟨1, rfl, .inl rfl⟩
          · exact ⟨2, rfl, .inr rfl⟩
        refine ⟨(by show 3 ≤ sizeLine; decide), fun q6 n6 => ?_⟩
        have s9 : Same G8 (upd G8 q6 (.tup [.str pr.1, .int (pr.2 : Int), .int wt])) := same_new (fun b o e => e) n6 _
        have e9 : (upd G8 q6 (.tup [.str pr.1, .int (pr.2 : Int), .int wt])) q6 = some (.tup [.str pr.1, .int (pr.2 : Int), .int wt]) := upd_same
        have k9 : TK G6 (upd G8 q6 (.tup [.str pr.1, .int (pr.2 : Int), .int wt])) := ((TK.same s7).trans (pen_tk P7 b8)).trans (TK.same s9)
        have gk9 := s9 _ _ (b8 _ _ kdp (s7 _ _ gk6))
        have gb9 := s9 _ _ (b8 _ _ blp (s7 _ _ gb6))
        have P9 := pen_same P8 s9
        have b9 := ((b6.trans (Pn.But.of s7)).trans b8).trans (Pn.But.of s9)
        have t9 := ((t6.but (Pn.But.of s7)).but b8).but (Pn.But.of s9)
        replace fr6 := fr6.mono (PrV.mono k9)
        replace fd6 := fd6.mono (RowV.mono k9)
        clear k9 s9 P8 b8 n6 P7 q4p e7 s7 n4 sqb P6 b6 t6 gk6 gb6
        generalize upd G8 q6 (.tup [.str pr.1, .int (pr.2 : Int), .int wt]) = G9 at e9 gk9 gb9 P9 b9 t9 fr6 fd6 ⊢
        refine ⟨bl, ds, .ref q6, rfl, rfl, gb9, by rw [sizeLine_eq]; omega, ?_⟩
        have kA : TK G9 (upd G9 bl (.lst (ds ++ [.ref q6]))) := TK.lst gb9 _
        refine ⟨_, _, _, c3 + 2, rest.eraseIdx m, done ++ [(pr.1, pr.2, wt)], rs.eraseIdx m, ds ++ [.ref q6], rfl, pen_on hP nblH P9 _, by omega, but_on b9 nblH _, t9.v _, by rw [upd_ne kdbl]; exact gk9, upd_same, fr6.mono (PrV.mono kA), (fd6.mono (RowV.mono kA)).app (F2.one ⟨q6, rfl, kA.sq (.inl (.inl e9))⟩), by rw [List.length_append, List.length_singleton, ld], ?_, ?_⟩
        · refine List.Perm.trans ?_ perm
          rw [List.map_append]
          show (rest.eraseIdx m ++ (done.map (fun r => (r.1, r.2.1)) ++ [pr])).Perm (rest ++ done.map fun r => (r.1, r.2.1))
          have e1 := erase_perm hpr
          rw [← List.append_assoc]
          refine (List.perm_append_singleton pr _).trans ?_
          exact (e1.symm.append_right _)
        · intro r hr
          rcases List.mem_append.mp hr with z | z
          · exact wts r z
          · rw [List.mem_singleton.mp z]
            exact hwt
      · rintro σ G4 ⟨v6, v7, v8, c3, rest, done, rs, ds, rfl, P4, hc3, b4, t4, gk, gb, fr, fd, ld, perm, wts⟩
        have tot := perm.length_eq
        rw [List.length_append, List.length_map] at tot
        have re : rest = [] := List.length_eq_zero_iff.mp (by omega)
        subst re
        have k4 := t4.tk P2 ekd ebl
        have rw4 := t4 _ _ rwp rwkd rwbl erw
        have it4 := t4 _ _ itp itkd itbl eit
        have ls : ∀ {R a}, LsP K G3 R a → a ≠ p → a ≠ kd → a ≠ bl → LsP K G4 R a := fun h n1 n2 n3 => by
          obtain ⟨vs, e, f⟩ := h
          exact ⟨vs, t4 _ _ n1 n2 n3 e, f.mono (PrV.mono k4)⟩
        have LR4 := ls LR thp thkd thbl
        have LS4 := ls LS trp trkd trbl
        have frw4 := frw.mono (KdV.mono k4)
        refine ⟨_, rfl, .inl ⟨rfl, _, .inl (.inl rw4)⟩, .ref bl, rfl, bl, ds, rfl, .inl ⟨.inl (.inl gb), fun q5 n5 => ?_⟩⟩
        have s5 : Same G4 (upd G4 q5 (.tup ds)) := same_new (fun b o e => e) n5 _
        have e5 : (upd G4 q5 (.tup ds)) q5 = some (.tup ds) := upd_same
        replace LR4 := LR4.same s5
        replace LS4 := LS4.same s5
        replace P4 := pen_same P4 s5
        replace b4 := b4.trans (Pn.But.of s5)
        replace rw4 := s5 _ _ rw4
        replace it4 := s5 _ _ it4
        replace fd := fd.mono (RowV.mono (TK.same s5))
        replace frw4 := frw4.mono (KdV.mono (TK.same s5))
        clear s5 n5 ls k4 t4 gk gb
        generalize upd G4 q5 (.tup ds) = G5 at e5 LR4 LS4 P4 b4 rw4 it4 fd frw4 ⊢
        have lrv := frw4.len
        refine ⟨rw, rvs, .ref q5, rfl, rfl, rw4, by rw [sizeLine_eq, lrv, List.length_take]; omega, ?_⟩
        have kA : TK G5 (upd G5 rw (.lst (rvs ++ [.ref q5]))) := TK.lst rw4 _
        have up : ∀ {R a}, LsP K G5 R a → a ≠ rw → LsP K (upd G5 rw (.lst (rvs ++ [.ref q5]))) R a := fun h n => by
          obtain ⟨vs, e, f⟩ := h
          exact ⟨vs, by rw [upd_ne n]; exact e, f.mono (PrV.mono kA)⟩
        refine ⟨_, _, _, _, _, c3, rvs ++ [.ref q5], rfl, pen_on hP nrwH P4 _, by omega, but_on b4 nrwH _, up LR4 thrw, up LS4 trrw, upd_same, ?_, by rw [upd_ne itrw]; exact it4⟩
        rw [List.take_add_one, hB]
        exact (frw4.mono (KdV.mono kA)).app (F2.one ⟨q5, done, ds, rfl, ⟨perm, wts⟩, kA.sq (.inl (.inl e5)), fd.mono (RowV.mono kA)⟩)
    · rintro σ G ⟨v4, v5, v6, v7, v8, c2, rvs, rfl, P2, hc2, b2, _, _, erw2, frw, _⟩
      obtain ⟨x1, r1, rfl, ⟨k1, R1, vs1, rfl, m1, sq1, f1⟩, ⟨x2, r2, rfl, ⟨k2, R2, vs2, rfl, m2, sq2, f2⟩, fe⟩⟩ := frw
      cases (show r2 = [] from fe)
      refine ⟨.ref rw, rfl, rw, _, 0, _, rfl, rfl, .inl (.inl erw2), atI_nat (j := 0) rfl, .ref rw, rfl, rw, _, 1, _, rfl, rfl, .inl (.inl erw2), atI_nat (j := 1) rfl, (by show 2 ≤ sizeLine; decide), fun q5 n5 => ?_⟩
      have s5 : Same G (upd G q5 (.tup [.ref k1, .ref k2])) := same_new (fun b o e => e) n5 _
      have k5 := TK.same s5
      exact q q5 R1 R2 R S _ c2 ⟨k1, k2, vs1, vs2, .inl (.inl upd_same), k5.sq sq1, k5.sq sq2, f1.mono (RowV.mono k5), f2.mono (RowV.mono k5)⟩ hR hS m1 m2 (by simp only [List.length_cons, List.length_nil] at hc2; omega) (pen_same P2 s5) (b2.trans (Pn.But.of s5))
end
end Ad

namespace Ad
open PySem PySem.Spec PySem.Calls PyProof.Rows L2
/-- rows that were drawn -/
structure GenO (R S : List Row) : Prop where
  r : ROk R
  t : TOk S
  ok : OOk R S
theorem gen_ok {B D : List Pr} {R S : List Row} (hB : B ∈ thingsB) (hD : D ∈ truthsB) (pR : (R.map fun r => (r.1, r.2.1)).Perm B) (pS : (S.map fun r => (r.1, r.2.1)).Perm D) (wR : ∀ r ∈ R, 1 ≤ r.2.2) (wS : ∀ r ∈ S, 1 ≤ r.2.2) : GenO R S := by
  have h : (thingsB.all fun B => B.all (fun r => nameOk r.1 && decide (r.2 ≤ 3)) && B.contains ("a", 0) && decide (B.length ≤ 5)) = true := by decide +kernel
  have h1 := List.all_eq_true.mp h B hB
  rw [Bool.and_eq_true, Bool.and_eq_true] at h1
  obtain ⟨⟨h2, h3⟩, h4⟩ := h1
  have k : (truthsB.all fun B => B.all (fun r => nameOk r.1 && decide (r.2 ≤ 3)) && !B.isEmpty && decide (B.length ≤ 5)) = true := by decide +kernel
  have k1 := List.all_eq_true.mp k D hD
  rw [Bool.and_eq_true, Bool.and_eq_true] at k1
  obtain ⟨⟨k2, k3⟩, k4⟩ := k1
  have lR := pR.length_eq
  have lS := pS.length_eq
  rw [List.length_map] at lR lS
  have m4 := of_decide_eq_true h4
  have n4 := of_decide_eq_true k4
  have const : ∃ r ∈ R, r.2.1 = 0 := by
    have z : (("a", 0) : Pr) ∈ B := List.contains_iff_mem.mp h3
    obtain ⟨r, hr, e⟩ := List.mem_map.mp (pR.mem_iff.mpr z)
    exact ⟨r, hr, (Prod.mk.inj e).2⟩
  refine ⟨⟨fun r hr => ?_, ?_, by omega⟩, ⟨fun r hr => ?_, fun e => ?_, by omega⟩, ⟨?_, fun r hr => ?_, const, by omega⟩⟩
  · have z : (r.1, r.2.1) ∈ B := pR.mem_iff.mp (List.mem_map.mpr ⟨r, hr, rfl⟩)
    have z2 := List.all_eq_true.mp h2 _ z
    rw [Bool.and_eq_true] at z2
    exact ⟨z2.1, of_decide_eq_true z2.2⟩
  · obtain ⟨r, hr, e⟩ := const
    obtain ⟨j, hj⟩ := List.mem_iff_getElem?.mp hr
    exact ⟨j, r, hj, e⟩
  · have z : (r.1, r.2.1) ∈ D := pS.mem_iff.mp (List.mem_map.mpr ⟨r, hr, rfl⟩)
    have z2 := List.all_eq_true.mp k2 _ z
    rw [Bool.and_eq_true] at z2
    exact ⟨z2.1, of_decide_eq_true z2.2⟩
  · rw [e] at lS
    have : D = [] := List.length_eq_zero_iff.mp lS.symm
    rw [this] at k3
    cases k3
  · have n : (thingsB.all fun B => truthsB.all fun D => decide ((("yes" : Str) :: (B ++ D).map (·.1)).Nodup)) = true := by decide +kernel
    have n1 := of_decide_eq_true (List.all_eq_true.mp (List.all_eq_true.mp n B hB) D hD)
    have pp : ((R ++ S).map (·.1)).Perm ((B ++ D).map (·.1)) := by
      have e : (R ++ S).map (·.1) = ((R ++ S).map fun r => (r.1, r.2.1)).map (·.1) := by rw [List.map_map]; rfl
      rw [e, List.map_append]
      exact (pR.append pS).map _
    exact ((pp.cons ("yes" : Str)).nodup_iff).mpr n1
  · rcases List.mem_append.mp hr with e | e
    · exact wR r e
    · exact wS r e
end Ad

/-! The law keeps its word. -/
namespace Ad
open PySem PySem.Spec PySem.Calls PyProof.Rows L2
abbrev sLaw : Stmt := topS 27
theorem scLaw : FnScope ["_law_script", "_law_pen_here", "_law_rows", "_law_lap", "_law_equations_here", "_law_term", "_law_left", "_law_right", "_law_chain", "_law_turn", "_law_tried", "_law_value"] ["_law_script"] (defScope sLaw) := ⟨rfl, rfl, rfl, by decide +kernel, rfl, by decide +kernel, by decide +kernel⟩
def eqD (e : T × T) : PyData := .tuple [e.1.d, e.2.d]
theorem eqs_dp {K : PySem.W.Frag} {H : Hp} : ∀ {eqs : List (T × T)} {es : List V}, F2 (EqV K H) eqs es → DpAll K H es (eqs.map eqD)
  | [], es, h => by
    cases (show es = [] from h)
    exact .nil
  | e :: eqs, es, h => by
    obtain ⟨v, vs, rfl, ⟨b, x, y, rfl, sq, m1, m2⟩, t⟩ := h
    exact .cons (.tup sq (.cons (Tm.dp _ _ m1) (.cons (Tm.dp _ _ m2) .nil))) (eqs_dp t)
theorem eqs_lay : ∀ {eqs : List (T × T)}, Egd eqs → PyData.canLayAll0 (eqs.map eqD) = true
  | [], _ => rfl
  | e :: eqs, h => by
    obtain ⟨g1, g2⟩ := h e List.mem_cons_self
    have l1 := SeqAt.canLay_of_shaped (g1.shape (by decide))
    have l2 := SeqAt.canLay_of_shaped (g2.shape (by decide))
    show ((e.1.d.canLay0 && (e.2.d.canLay0 && true)) && PyData.canLayAll0 (eqs.map eqD)) = true
    rw [l1, l2, eqs_lay fun e' he => h e' (List.mem_cons_of_mem _ he)]
    rfl
theorem eqs_depth : ∀ {eqs : List (T × T)}, Egd eqs → PyData.depthAll (eqs.map eqD) ≤ 5
  | [], _ => Nat.zero_le _
  | e :: eqs, h => by
    obtain ⟨g1, g2⟩ := h e List.mem_cons_self
    have i := eqs_depth fun e' he => h e' (List.mem_cons_of_mem _ he)
    have d1 := g1.dep
    have d2 := g2.dep
    have e1 := T.d_depth e.1
    have e2 := T.d_depth e.2
    show max (max e.1.d.depth (max e.2.d.depth 0) + 1) (PyData.depthAll (eqs.map eqD)) ≤ 5
    omega
theorem eqs_shaped {eqs : List (T × T)} (h : Egd eqs) : SeqAt.shaped (.list (eqs.map eqD)) = true := by
  unfold SeqAt.shaped
  have h1 : (PyData.list (eqs.map eqD)).canLay0 = true := eqs_lay h
  have h2 : (PyData.list (eqs.map eqD)).depth ≤ 64 := by
    show PyData.depthAll (eqs.map eqD) + 1 ≤ 64
    have := eqs_depth h
    omega
  rw [h1, decide_eq_true h2]
  rfl
theorem chainD_gt {eqs : List (T × T)} (hE : Egd eqs) : ∀ {ds : List PyData} {t t' : T} {m z : Nat}, Gt m z t → chainD eqs t ds = some t' → Gt (m + 4 * ds.length) (z + 40 * ds.length) t'
  | [], t, t', m, z, g, h => by
    cases h
    exact g
  | d :: ds, t, t', m, z, g, h => by
    have h' : (match stepD eqs t d with | some t' => chainD eqs t' ds | none => none) = some t' := h
    cases q : stepD eqs t d with
    | none =>
      rw [q] at h'
      cases h'
    | some u =>
      rw [q] at h'
      have i := chainD_gt hE (stepD_gt hE g q) h'
      rw [List.length_cons]
      exact i.mono (by omega) (by omega)
def optD : Option T → PyData
  | none => .none
  | some t => t.d
theorem opt_dp {K : PySem.W.Frag} {H : Hp} : ∀ {o : Option T} {u : V}, OptTm K H o u → Dp K H u (optD o)
  | none, u, h => by
    cases (show u = .non from h)
    exact .non
  | some t, u, h => Tm.dp _ _ h
theorem opt_mono {K : PySem.W.Frag} {H H' : Hp} (k : TK H H') : ∀ {o : Option T} {u : V}, OptTm K H o u → OptTm K H' o u
  | none, _, h => h
  | some _, _, h => Tm.mono k _ _ h
section
variable {P : Program} {w : World} {K : PySem.W.Frag} {mg : Str → Option Value} {base : Heap}
def spLaw (K : PySem.W.Frag) : Sp := fun vs H Q _ => ∃ (a : Addr) (ns : List Int), vs = [.ref a] ∧ SqL K H a (ns.map V.int) ∧ ns.length ≤ 63 ∧ ∀ H', Q (.bl true) H'
theorem ok_law {f : Addr} {fd : FuncData} {k : Nat} (F : Fun K "law" "law" sLaw f fd)
    {f1 f2 f3 f4 f5 f6 f7 f8 f9 fa fb fc : Addr} {d1 d2 d3 d4 d5 d6 d7 d8 d9 da db dc : FuncData}
    (hPen : Has P w K mg base (k + 1) "_law_pen" ["_law_script"] (Pn.spPen K) f1 d1) (hDraw : Has P w K mg base (k + 1) "_law_draw" ["_law_pen_here", "_law_many"] Pn.spDraw f2 d2) (hPick : Has P w K mg base (k + 1) "_law_pick" ["_law_pen_here", "_law_some"] (Pn.spPick K) f3 d3)
    (hOrd : Has P w K mg base (k + 1) "_law_drawn_order" ["_law_pen_here"] (spOrder K) f4 d4) (hEqs : Has P w K mg base (k + 1) "_law_equations" ["_law_pen_here", "_law_rows", "_law_many"] (spLEqs K) f5 d5) (hGround : Has P w K mg base (k + 1) "_law_ground" ["_law_pen_here", "_law_rows", "_law_deep"] (spLGround K) f6 d6)
    (hPut : Has P w K mg base (k + 1) "_law_put_at" ["_law_term", "_law_path", "_law_new"] (spPut K 70) f7 d7) (hPaths : Has P w K mg base (k + 1) "_law_paths" ["_law_term"] (spLPathsG K 70) f8 d8) (hDc : Has P w K mg base (k + 1) "_law_drawn_chain" ["_law_pen_here", "_law_equations_here", "_law_term"] (spDc K) f9 d9)
    (hBent : Has P w K mg base (k + 1) "_law_bent" ["_law_pen_here", "_law_chain", "_law_many"] (spBent K) fa da) (hCe : Has P w K mg base (k + 1) "chain_end" ["equations", "term", "chain"] (spChainEnd K) fb db) (hLce : Has P w K mg base (k + 1) "_law_chain_end" ["_law_equations_here", "_law_term", "_law_chain"] (spLChain K) fc dc)
    (m_range : mg "range" = none) (m_list : mg "list" = none) (m_tuple : mg "tuple" = none) (m_len : mg "len" = none) : FnOk P w K mg base CX0 (k + 2) f fd ["_law_script"] (spLaw K) := by
  refine F.ok scLaw (fun vs H Q E h => ?_) (fun cdv A outer s H vs Q E hr h => ?_)
  · obtain ⟨a, ns, rfl, _⟩ := h
    rfl
  · obtain ⟨a, ns, rfl, hS, few, q⟩ := h
    refine ⟨_, (pss_cons (ps_set (i := 1) scLaw.nd rfl (.inl rfl) (pe_call hPen.G hr (by rfl) hPen.g hPen.kp hPen.b .nil pass0 (pa_cons (pv 0) pa_nil)))
    (pss_cons (ps_set (i := 2) scLaw.nd rfl (.inl rfl) (pe_call hOrd.G hr (by rfl) hOrd.g hOrd.kp hOrd.b .nil pass0 (pa_cons (pv 1) pa_nil)))
    (pss_cons (ps_for PassesOwn.never rfl (pi_range1 (by rfl) m_range (pa_cons pe_int pa_nil)) (pg_name (i := 3) scLaw.nd rfl (.inl rfl))
      (pss_cons (ps_set (i := 4) scLaw.nd rfl (.inl rfl) (pe_call hEqs.G hr (by rfl) hEqs.g hEqs.kp hEqs.b .nil pass0 (pa_cons (pv 1) (pa_cons (pv 2) (pa_cons pe_int pa_nil)))))
      (pss_cons (ps_set (i := 5) scLaw.nd rfl (.inl rfl) (pe_call hGround.G hr (by rfl) hGround.g hGround.kp hGround.b .nil pass0 (pa_cons (pv 1) (pa_cons (pv 2) (pa_cons pe_int pa_nil)))))
      (C8.pss_cut (ps_if (PW.pt (pw_and (pt_cmpR (op_neD (hu64 hr)) (pv 4) (pe_lst pa_nil) (nomark _)) (pw_and1 (pt_cmpR op_eq (pe_call hDraw.G hr (by rfl) hDraw.g hDraw.kp hDraw.b .nil pass0 (pa_cons (pv 1) (pa_cons pe_int pa_nil))) pe_int (nomark _)))))
        (pss_cons (ps_asg (pe_call hPick.G hr (by rfl) hPick.g hPick.kp hPick.b .nil pass0 (pa_cons (pv 1) (pa_cons (pv 4) pa_nil))) (pg_tup rfl (pgs_cons (pg_name (i := 6) scLaw.nd rfl (.inl rfl)) (pgs_cons (pg_name (i := 7) scLaw.nd rfl (.inl rfl)) pgs_nil))))
        (pss_one (ps_set (i := 5) scLaw.nd rfl (.inl rfl) (pe_ifExp (pt_cmpR op_notIn_seq (pe_ix ix_tup (pv 6) pe_int (fun _ _ => rfl)) (pe_lst (pa_cons pe_str (pa_cons pe_str (pa_cons pe_str pa_nil)))) (by with_unfolding_all rfl)) (pe_call hPut.G hr (by rfl) hPut.g hPut.kp hPut.b .nil pass0 (pa_cons (pv 5) (pa_cons (pe_call hPick.G hr (by rfl) hPick.g hPick.kp hPick.b .nil pass0 (pa_cons (pv 1) (pa_cons (pe_call hPaths.G hr (by rfl) hPaths.g hPaths.kp hPaths.b .nil pass0 (pa_cons (pv 5) pa_nil)) pa_nil))) (pa_cons (pv 6) pa_nil)))) (pv 6))))) pss_nil)
      (pss_cons (ps_set (i := 8) scLaw.nd rfl (.inl rfl) (pe_call hDc.G hr (by rfl) hDc.g hDc.kp hDc.b .nil pass0 (pa_cons (pv 1) (pa_cons (pv 4) (pa_cons (pv 5) pa_nil)))))
      (pss_cons (ps_for PassesOwn.never rfl (pi_range1 (by rfl) m_range (pa_cons pe_int pa_nil)) (pg_name (i := 9) scLaw.nd rfl (.inl rfl))
        (C8.pss_cut (ps_set (i := 10) scLaw.nd rfl (.inl rfl) (pe_ifExp (pt_cmpR op_gt (pv 9) pe_int (nomark _)) (pe_call hBent.G hr (by rfl) hBent.g hBent.kp hBent.b .nil pass0 (pa_cons (pv 1) (pa_cons (pv 8) (pa_cons (pe_callB call_len_seq (by rfl) m_len PySem.boot_len (pa_cons (pv 4) pa_nil)) pa_nil)))) (pv 8)))
        (pss_one (ps_if (pt_cmpR (op_neD (hu64 hr)) (pe_call hCe.G hr (by rfl) hCe.g hCe.kp hCe.b .nil pass0 (pa_cons (pv 4) (pa_cons (pv 5) (pa_cons (pe_callTy call_tuple_of (by rfl) m_tuple (by decide +kernel) (pa_cons (pv 10) pa_nil)) pa_nil)))) (pe_call hLce.G hr (by rfl) hLce.g hLce.kp hLce.b .nil pass0 (pa_cons (pv 4) (pa_cons (pv 5) (pa_cons (pv 10) pa_nil)))) (nomark _))
          (pss_one (ps_ret pe_bl)) pss_nil))))
      (pss_cons (ps_for PassesOwn.never rfl (pi_list (pe_lst (pa_cons pe_non (pa_cons pe_int (pa_cons (pe_callTy (r := rLstOf K) call_lstOf (by rfl) m_list (by decide +kernel) (pa_cons (pv 8) pa_nil)) (pa_cons pe_str (pa_cons pe_dnewK pa_nil))))))) (pg_name (i := 11) scLaw.nd rfl (.inl rfl))
        (pss_one (ps_if (pt_cmpR op_notN (pe_call hCe.G hr (by rfl) hCe.g hCe.kp hCe.b .nil pass0 (pa_cons (pv 4) (pa_cons (pv 5) (pa_cons (pv 11) pa_nil)))) pe_non (nomark _))
          (pss_one (ps_ret pe_bl)) pss_nil)))
      (pss_one (ps_if (pt_cmpR (op_neD (hu64 hr)) (pe_call hCe.G hr (by rfl) hCe.g hCe.kp hCe.b .nil pass0 (pa_cons (pe_callTy call_tuple_of (by rfl) m_tuple (by decide +kernel) (pa_cons (pv 4) pa_nil)) (pa_cons (pv 5) (pa_cons (pe_tup pa_nil) pa_nil)))) (pv 5) (nomark _))
        (pss_one (ps_ret pe_bl)) pss_nil)))))))))
    (pss_one (ps_ret pe_bl))))), ?_⟩
    have thin : (thingsB.all fun B => decide (B.length ≤ 5)) = true := by decide
    refine ⟨.ref a, rfl, a, ns, rfl, hS, by omega, fun H1 p l sm1 np nl hP => ?_⟩
    refine ⟨.ref p, rfl, p, l, ns, 0, rfl, hP, by omega, by omega, fun ra R S B D G1 c1 hO hB hD mR mS hc1 P1 b1 => ?_⟩
    have one : ∀ {B : List Pr} {R : List Row}, Mixed B R → ∀ r ∈ R, 1 ≤ r.2.2 := fun m r hr => by
      rcases m.weights r hr with e | e <;> rw [e] <;> decide
    have g0 := gen_ok hB hD mR.perm mS.perm (one mR) (one mS)
    refine ⟨4, rfl, by decide, by decide, for_range (lo := 0) (n := 4) (fun i σ G => ∃ (v3 v4 v5 v6 v7 v8 v9 va vb : Option V) (c : Nat), σ = [some (.ref a), some (.ref p), some (.ref ra), v3, v4, v5, v6, v7, v8, v9, va, vb] ∧ c ≤ 100 + i * 1000 ∧ Pn.Pen G p l ns c ∧ OrdAt K G ra R S)
      ⟨none, none, none, none, none, none, none, none, none, c1, rfl, by omega, P1, hO⟩ ?_ ?_⟩
    · clear hO P1 b1 hc1 hP sm1 np nl
      rintro i σ G hi ⟨v3, v4, v5, v6, v7, v8, v9, va, vb, c, rfl, hc, hP, hO⟩
      refine ⟨.ref p, rfl, .ref ra, rfl, p, l, ra, ns, c, 5, R, S, rfl, by decide, hP, by omega, by omega, hO, g0.r, g0.t, fun ea eqs es G2 c2 nea gea fE eg len hc2 P2 b2 => ?_⟩
      have hO2 := hO.mono (pen_tk hP b2)
      refine ⟨.ref p, rfl, .ref ra, rfl, p, l, ra, ns, c2, R, rfl, P2, by omega, by omega, hO2.rows, g0.r, fun t x G3 c3 mt gt hc3 P3 b3 => ?_⟩
      have hO3 := hO2.mono (pen_tk P2 b3)
      have gea3 := pen_lst P2 b3 gea
      have fE3 := fE.mono (EqV.mono (pen_tk P2 b3))
      clear fE gea hO2 hO hP b2 b3
      have les := fE3.len
      -- the equations, the term
      refine ⟨fun σ G => ∃ (t : T) (x : V) (v6 v7 : Option V) (c : Nat), σ = [some (.ref a), some (.ref p), some (.ref ra), some (.int (0 + (i : Int))), some (.ref ea), some x, v6, v7, v8, v9, va, vb] ∧ c ≤ c3 + 10 ∧ Pn.Pen G p l ns c ∧ OrdAt K G ra R S ∧ G ea = some (.lst es) ∧ F2 (EqV K G) eqs es ∧ Tm K G t x ∧ Gt 8 80 t, ?_, ?_⟩
      · refine ⟨.ref ea, rfl, Nat.zero_le _, fun N1 nN1 => ?_⟩
        have s4 : Same G3 (upd G3 N1 (.lst [])) := same_new (fun b o e => e) nN1 _
        have mN : (upd G3 N1 (.lst [])) N1 = some (.lst []) := upd_same
        replace hO3 := hO3.mono (TK.same s4)
        replace gea3 := s4 _ _ gea3
        replace fE3 := fE3.mono (EqV.mono (TK.same s4))
        replace mt := Tm.mono (TK.same s4) _ _ mt
        replace P3 := pen_same P3 s4
        generalize upd G3 N1 (.lst []) = G4 at s4 mN hO3 gea3 fE3 mt P3
        have stay : ∀ (G : Hp) (c : Nat) (v6 v7 : Option V), c ≤ c3 + 10 → Pn.Pen G p l ns c → OrdAt K G ra R S → G ea = some (.lst es) → F2 (EqV K G) eqs es → Tm K G t x → ∃ (t' : T) (x' : V) (w6 w7 : Option V) (c' : Nat), [some (.ref a), some (.ref p), some (.ref ra), some (.int (0 + (i : Int))), some (.ref ea), some x, v6, v7, v8, v9, va, vb] = [some (.ref a), some (.ref p), some (.ref ra), some (.int (0 + (i : Int))), some (.ref ea), some x', w6, w7, v8, v9, va, vb] ∧ c' ≤ c3 + 10 ∧ Pn.Pen G p l ns c' ∧ OrdAt K G ra R S ∧ G ea = some (.lst es) ∧ F2 (EqV K G) eqs es ∧ Tm K G t' x' ∧ Gt 8 80 t' :=
          fun G c v6 v7 h1 h2 h3 h4 h5 h6 => ⟨t, x, v6, v7, c, rfl, h1, h2, h3, h4, h5, h6, gt.mono (by decide) (by decide)⟩
        refine ⟨.list (eqs.map eqD), .list [], .lst (.inl (.inl gea3)) (eqs_dp fE3), .lst (.inl (.inl mN)) .nil, eqs_shaped eg, by decide +kernel, _, rfl, ?_⟩
        rw [eqv_nil]
        cases hne : (eqs.map eqD).isEmpty with
        | true => exact iteF (iteF (stay G4 c3 v6 v7 (by omega) P3 hO3 gea3 fE3 mt))
        | false =>
        refine iteT ?_
        refine ⟨.ref p, rfl, p, l, ns, c3, 2, rfl, P3, by omega, by omega, by decide, by decide, fun z G5 z0 z1 P5 b5 => ⟨rfl, _, rfl, ?_⟩⟩
        have hO5 := hO3.mono (pen_tk P3 b5)
        have gea5 := pen_lst P3 b5 gea3
        have fE5 := fE3.mono (EqV.mono (pen_tk P3 b5))
        have mt5 := Tm.mono (pen_tk P3 b5) _ _ mt
        refine ite2 (fun _ => ?_) (fun _ => stay G5 (c3 + 1) v6 v7 (by omega) P5 hO5 gea5 fE5 mt5)
        clear stay
        have nees : es ≠ [] := fun e => by
          rw [e] at les
          rw [List.length_eq_zero_iff.mp les.symm] at hne
          cases hne
        have eap : ea ≠ p := fun e => by
          obtain ⟨⟨_, _, _, e2, _⟩, _⟩ := P5
          rw [e, e2] at gea5
          cases gea5
        refine ⟨.ref p, rfl, .ref ea, rfl, p, l, ea, ns, c3 + 1, es, rfl, P5, by omega, by omega, .inl (.inl (.inl gea5)), nees, by omega, eap, fun xe G6 hxe P6 b6 => ?_⟩
        have hO6 := hO5.mono (pen_tk P5 b6)
        have gea6 := pen_lst P5 b6 gea5
        have fE6 := fE5.mono (EqV.mono (pen_tk P5 b6))
        have mt6 := Tm.mono (pen_tk P5 b6) _ _ mt5
        obtain ⟨e, he, ⟨eb, L, Rr, rfl, seb, mL, mR⟩⟩ := fE6.mem hxe
        obtain ⟨gL, gR⟩ := eg e he
        refine ⟨eb, _, rfl, seb, rfl, _, _, rfl, _, _, rfl, rfl, ?_⟩
        obtain ⟨nm, ts, eL⟩ := gL.head
        have mL' := mL
        rw [eL] at mL'
        obtain ⟨lb, lz, rfl, lsq, _⟩ := mL'
        refine ⟨.ref lb, rfl, lb, _, 0, .str nm, rfl, rfl, lsq, atI_nat (j := 0) rfl, (by show 3 ≤ sizeLine; decide), fun N2 nN2 => ?_⟩
        have s7 : Same G6 (upd G6 N2 (.lst [.str "p", .str "q", .str "r"])) := same_new (fun b o e => e) nN2 _
        have m7 : (upd G6 N2 (.lst [.str "p", .str "q", .str "r"])) N2 = some (.lst [.str "p", .str "q", .str "r"]) := upd_same
        replace hO6 := hO6.mono (TK.same s7)
        replace gea6 := s7 _ _ gea6
        replace fE6 := fE6.mono (EqV.mono (TK.same s7))
        replace mt6 := Tm.mono (TK.same s7) _ _ mt6
        replace mL := Tm.mono (TK.same s7) _ _ mL
        replace P6 := pen_same P6 s7
        clear lsq seb mR
        generalize upd G6 N2 (.lst [.str "p", .str "q", .str "r"]) = G7 at s7 m7 hO6 gea6 fE6 mt6 mL P6
        refine ⟨N2, _, rfl, .inl (.inl (.inl m7)), rfl, rfl, _, rfl, ?_⟩
        refine ite2 (fun _ => ?_) (fun _ => ⟨.ref lb, rfl, e.1, .ref lb, _, _, c3 + 1 + 1, rfl, by omega, P6, hO6, gea6, fE6, mL, gL.mono (by decide) (by decide)⟩)
        have td := gt.dep
        have tz := gt.size
        refine ⟨x, rfl, .ref p, rfl, x, rfl, t, x, rfl, mt6, gt.vars, by omega, by omega, fun G8 pl us s8 npl gpl pus => ?_⟩
        have lus := pus.len
        rw [T.paths_len] at lus
        have tpos := t.size_pos
        have P8 := pen_same P6 s8
        have plp : pl ≠ p := fun e => by
          obtain ⟨⟨_, _, _, e2, _⟩, _⟩ := P8
          rw [e, e2] at gpl
          cases gpl
        refine ⟨p, l, pl, ns, c3 + 1 + 1, us, rfl, P8, by omega, by omega, .inl (.inl (.inl gpl)), (fun e => by rw [e, List.length_nil] at lus; omega), by omega, plp, fun xp G9 hxp P9 b9 => ?_⟩
        obtain ⟨pth, hpth, hpv⟩ := pus.mem hxp
        obtain ⟨pa, rfl, spa⟩ := PV.mono (pen_tk P8 b9) _ _ hpv
        obtain ⟨zu, hzu⟩ := T.paths_sub t pth hpth
        obtain ⟨r', h1, h2⟩ := gt.put hzu gL
        have k9 := (TK.same s8).trans (pen_tk P8 b9)
        have psl := sub_len hzu
        refine ⟨.ref lb, rfl, t, e.1, r', x, .ref lb, pa, pth, rfl, Tm.mono k9 _ _ mt6, Tm.mono k9 _ _ mL, spa, by omega, by omega, h1, fun v G10 s10 mv => ?_⟩
        exact ⟨r', v, _, _, c3 + 1 + 1 + 1, rfl, by omega, pen_same P9 s10, (hO6.mono k9).mono (TK.same s10), s10 _ _ (pen_lst P8 b9 (s8 _ _ gea6)), fE6.mono (EqV.mono (k9.trans (TK.same s10))), mv, h2.mono (by decide) (by decide)⟩
      · clear fE3 gea3 hO3 P3 P2 mt gt x t v4 v5 v6 v7
        rintro σ G ⟨t, x, v6, v7, c4, rfl, hc4, P4, hO4, gea, fE, mt, gt⟩
        refine ⟨.ref p, rfl, .ref ea, rfl, x, rfl, p, l, ea, x, ns, c4, eqs, es, t, rfl, P4, by omega, by omega, gea, fE, eg, by omega, mt, gt, fun dC ls xs G5 c5 ndC gdC dpC lenC plC hc5 P5 b5 => ?_⟩
        have hO5 := hO4.mono (pen_tk P4 b5)
        have gea5 := pen_lst P4 b5 gea
        have fE5 := fE.mono (EqV.mono (pen_tk P4 b5))
        have mt5 := Tm.mono (pen_tk P4 b5) _ _ mt
        clear hO4 gea fE mt P4 b5
        have okC : ∀ d ∈ ls.map triD, Okd d := fun d hd => by
          obtain ⟨q', hq', rfl⟩ := List.mem_map.mp hd
          exact okd_tri (by rw [List.length_map]; have := plC q' hq'; omega)
        -- the turns
        refine ⟨5, rfl, by decide, by decide, for_range (lo := 0) (n := 5) (fun j σ G => ∃ (v9 va : Option V) (c : Nat), σ = [some (.ref a), some (.ref p), some (.ref ra), some (.int (0 + (i : Int))), some (.ref ea), some x, v6, v7, some (.ref dC), v9, va, vb] ∧ c ≤ c5 + j * 10 ∧ Pn.Pen G p l ns c ∧ OrdAt K G ra R S ∧ G ea = some (.lst es) ∧ F2 (EqV K G) eqs es ∧ Tm K G t x ∧ G dC = some (.lst xs) ∧ DpAll K G xs (ls.map triD))
          ⟨v9, va, c5, rfl, by omega, P5, hO5, gea5, fE5, mt5, gdC, dpC⟩ ?_ ?_⟩
        · clear hO5 gea5 fE5 mt5 P5 gdC dpC
          rintro j σ G hj ⟨v9, va, c6, rfl, hc6, P6, hO6, gea6, fE6, mt6, gdC, dpC⟩
          have lxs := dpAll_len dpC
          rw [List.length_map] at lxs
          refine ⟨fun σ G => ∃ (dT : Addr) (ys : List V) (ds : List PyData) (c : Nat), σ = [some (.ref a), some (.ref p), some (.ref ra), some (.int (0 + (i : Int))), some (.ref ea), some x, v6, v7, some (.ref dC), some (.int (0 + (j : Int))), some (.ref dT), vb] ∧ c ≤ c6 + 10 ∧ Pn.Pen G p l ns c ∧ OrdAt K G ra R S ∧ G ea = some (.lst es) ∧ F2 (EqV K G) eqs es ∧ Tm K G t x ∧ G dC = some (.lst xs) ∧ DpAll K G xs (ls.map triD) ∧ G dT = some (.lst ys) ∧ DpAll K G ys ds ∧ ds.length ≤ 8 ∧ ∀ d ∈ ds, Okd d, ?_, ?_⟩
          · refine ⟨_, rfl, _, _, rfl, rfl, _, rfl, ?_⟩
            refine ite2 (fun _ => ?_) (fun _ => ?_)
            · refine ⟨.ref p, rfl, .ref dC, rfl, .ref ea, rfl, ea, _, rfl, .inl (.inl (.inl gea6)), p, l, dC, ns, c6, (es.length : Int), ls, xs, rfl, P6, by omega, by omega, gdC, dpC, lenC, plC, fun dT ds ys G7 c7 ndT gdT dpT lenT okT hc7 P7 b7 => ?_⟩
              have k7 := pen_tk P6 b7
              exact ⟨dT, ys, ds, c7, rfl, by omega, P7, hO6.mono k7, pen_lst P6 b7 gea6, fE6.mono (EqV.mono k7), Tm.mono k7 _ _ mt6, pen_lst P6 b7 gdC, pen_dpAll P6 b7 dpC, gdT, dpT, lenT, okT⟩
            · exact ⟨.ref dC, rfl, dC, xs, ls.map triD, c6, rfl, by omega, P6, hO6, gea6, fE6, mt6, gdC, dpC, gdC, dpC, by rw [List.length_map]; omega, okC⟩
          · clear hO6 gea6 fE6 mt6 P6 gdC dpC
            rintro σ G ⟨dT, ys, ds, c7, rfl, hc7, P7, hO7, gea7, fE7, mt7, gdC, dpC, gdT, dpT, lenT, okT⟩
            have lys := dpAll_len dpT
            refine ⟨.ref ea, rfl, x, rfl, .ref dT, rfl, dT, ys, rfl, .inl ⟨.inl (.inl gdT), fun tp ntp => ?_⟩⟩
            have s8 : Same G (upd G tp (.tup ys)) := same_new (fun b o e => e) ntp _
            have m8 : (upd G tp (.tup ys)) tp = some (.tup ys) := upd_same
            generalize upd G tp (.tup ys) = G8 at s8 m8
            refine ⟨ea, x, .ref tp, rfl, .inr ⟨eqs, t, es, tp, ys, ds, 8, 80, rfl, .inl (.inl m8), dpAll_same s8 dpT, .inl (.inl (.inl (s8 _ _ gea7))), fE7.mono (EqV.mono (TK.same s8)), by omega, eg, Tm.mono (TK.same s8) _ _ mt7, gt, by omega, by omega, fun G9 u1 s9 h1 => ?_⟩⟩
            have s79 : Same G G9 := s8.trans s9
            refine ⟨.ref ea, rfl, x, rfl, .ref dT, rfl, ea, dT, x, eqs, t, es, ys, ds, 8, 80, rfl, .inl (.inl (s79 _ _ gdT)), dpAll_same s79 dpT, .inl (.inl (s79 _ _ gea7)), fE7.mono (EqV.mono (TK.same s79)), by omega, eg, Tm.mono (TK.same s79) _ _ mt7, gt, by omega, by omega, (fun _ _ _ _ => True.intro), (fun p n b hm => okT _ hm p n b rfl), fun G10 u2 s10 h2 => ?_⟩
            have s710 : Same G G10 := s79.trans s10
            have shp : SeqAt.shaped (optD (chainD eqs t ds)) = true := by
              cases hq : chainD eqs t ds with
              | none => rfl
              | some t' => exact (chainD_gt eg gt hq).shape (by omega)
            refine ⟨optD (chainD eqs t ds), optD (chainD eqs t ds), opt_dp (opt_mono (TK.same s10) h1), opt_dp h2, shp, shp, _, rfl, ?_⟩
            rw [eqv_one shp]
            refine iteF ?_
            exact ⟨_, _, c7, rfl, by omega, pen_same P7 s710, hO7.mono (TK.same s710), s710 _ _ gea7, fE7.mono (EqV.mono (TK.same s710)), Tm.mono (TK.same s710) _ _ mt7, s710 _ _ gdC, dpAll_same s710 dpC⟩
        · clear hO5 gea5 fE5 mt5 P5 gdC dpC
          rintro σ G ⟨v9, va, c6, rfl, hc6, P6, hO6, gea6, fE6, mt6, gdC, dpC⟩
          -- other values
          refine ⟨.ref dC, rfl, dC, xs, rfl, .inl (.inl (.inl gdC)), fun lC nlC => ?_⟩
          have s7 : Same G (upd G lC (.lst xs)) := same_new (fun b o e => e) nlC _
          have m7 : (upd G lC (.lst xs)) lC = some (.lst xs) := upd_same
          generalize upd G lC (.lst xs) = G7 at s7 m7
          intro dd ndd
          have s8 : Same G7 (upd G7 dd (.dK [])) := same_new (fun b o e => e) ndd _
          have m8 : (upd G7 dd (.dK [])) dd = some (.dK []) := upd_same
          have m7' := s8 _ _ m7
          generalize upd G7 dd (.dK []) = G8 at s8 m8 m7'
          refine ⟨(by show 5 ≤ sizeLine; decide), fun vl nvl => ?_⟩
          have s9 : Same G8 (upd G8 vl (.lst [.non, .int 5, .ref lC, .str "chain", .ref dd])) := same_new (fun b o e => e) nvl _
          have m9 : (upd G8 vl (.lst [.non, .int 5, .ref lC, .str "chain", .ref dd])) vl = some (.lst [.non, .int 5, .ref lC, .str "chain", .ref dd]) := upd_same
          have m8' := s9 _ _ m8
          have m7'' := s9 _ _ m7'
          have s69 : Same G (upd G8 vl (.lst [.non, .int 5, .ref lC, .str "chain", .ref dd])) := s7.trans (s8.trans s9)
          generalize upd G8 vl (.lst [.non, .int 5, .ref lC, .str "chain", .ref dd]) = G9 at s9 m9 m8' m7'' s69
          have gea9 := s69 _ _ gea6
          have fE9 := fE6.mono (EqV.mono (TK.same s69))
          have mt9 := Tm.mono (TK.same s69) _ _ mt6
          have P9 := pen_same P6 s69
          have hO9 := hO6.mono (TK.same s69)
          refine ⟨vl, rfl, ⟨_, .inl (.inl m9)⟩, for_list (K := K) (a := vl) (xs := [.non, .int 5, .ref lC, .str "chain", .ref dd]) (fun j σ G => G = G9 ∧ ∃ vb : Option V, σ = [some (.ref a), some (.ref p), some (.ref ra), some (.int (0 + (i : Int))), some (.ref ea), some x, v6, v7, some (.ref dC), v9, va, vb]) ⟨rfl, vb, rfl⟩ (fun j σ G _ ⟨e, _⟩ => by rw [e]; exact .inl (.inl m9)) ?_ ?_⟩
          · rintro j u σ G hu ⟨rfl, vb, rfl⟩
            have ty : ∃ ty, TyX K G u ty ∧ PySem.W.kitOne K ty (.type "tuple") = some false := by
              have hm := List.mem_of_getElem? hu
              simp only [List.mem_cons, List.not_mem_nil, or_false] at hm
              rcases hm with e | e | e | e | e <;> subst e
              · exact ⟨_, .base .non, kit_ty (a := "NoneType") (b := "tuple") (r := false) (by decide +kernel)⟩
              · exact ⟨_, .base (.int 5), kit_ty (a := "int") (b := "tuple") (r := false) (by decide +kernel)⟩
              · exact ⟨_, .base (.lst m7''), kit_ty (a := "list") (b := "tuple") (r := false) (by decide +kernel)⟩
              · exact ⟨_, .base (.str _), kit_ty (a := "str") (b := "tuple") (r := false) (by decide +kernel)⟩
              · exact ⟨_, .base (.dK m8'), kit_ty (a := "dict") (b := "tuple") (r := false) (by decide +kernel)⟩
            obtain ⟨ty, h1, h2⟩ := ty
            refine ⟨.ref ea, rfl, x, rfl, u, rfl, ea, x, u, rfl, .inl ⟨ty, h1, h2, rfl, _, rfl, ?_⟩⟩
            exact iteF ⟨rfl, _, rfl⟩
          · rintro σ G ⟨rfl, vb, rfl⟩
            refine ⟨.ref ea, rfl, ea, es, rfl, .inl ⟨.inl (.inl gea9), fun te nte => ?_⟩⟩
            have s10 : Same G (upd G te (.tup es)) := same_new (fun b o e => e) nte _
            have m10 : (upd G te (.tup es)) te = some (.tup es) := upd_same
            generalize upd G te (.tup es) = G10 at s10 m10
            refine ⟨x, rfl, (by decide), fun tn ntn => ?_⟩
            have s11 : Same G10 (upd G10 tn (.tup [])) := same_new (fun b o e => e) ntn _
            have m11 : (upd G10 tn (.tup [])) tn = some (.tup []) := upd_same
            have m10' := s11 _ _ m10
            have s911 : Same G (upd G10 tn (.tup [])) := s10.trans s11
            generalize upd G10 tn (.tup []) = G11 at s11 m11 m10' s911
            refine ⟨te, x, .ref tn, rfl, .inr ⟨eqs, t, es, tn, [], [], 8, 80, rfl, .inl (.inl m11), .nil, .inr (.inl (.inl m10')), fE9.mono (EqV.mono (TK.same s911)), by omega, eg, Tm.mono (TK.same s911) _ _ mt9, gt, by decide, by decide, fun G12 u1 s12 h1 => ?_⟩⟩
            have s912 := s911.trans s12
            have m12 := Tm.mono (TK.same s912) _ _ mt9
            have sht : SeqAt.shaped t.d = true := gt.shape (by decide)
            refine ⟨x, rfl, t.d, t.d, opt_dp h1, Tm.dp _ _ m12, sht, sht, _, rfl, ?_⟩
            rw [eqv_one sht]
            refine iteF ?_
            exact ⟨_, _, _, _, _, _, _, _, _, c6, rfl, by omega, pen_same P9 s912, hO9.mono (TK.same s912)⟩
    · rintro σ G ⟨v3, v4, v5, v6, v7, v8, v9, va, vb, c, rfl, hc, hP, hO⟩
      exact q G
end
end Ad

/-! The end of a law of such a def where some defs grow tables of code objects. -/
namespace Ad
open PySem PySem.Spec PySem.Calls PyProof.Rows L2 GxR
abbrev oList (us : List Value) : Obj := { cls := .type "list", data := .seq us.toArray }
abbrev oTab : Obj := { cls := .none, data := .fields #[] }
/-- an abstract heap over h: the list of us at a, locked (or not told), and empty tables -/
structure First (h : Heap) (K : PySem.W.Frag) (a : Addr) (us : List Value) (ns : List Int) (Ts : List Addr) (H : Hp) : Prop where
  told : ∀ b u, H b = some u → (b = a ∧ u = .frz (oList us) (.lst (ns.map V.int))) ∨ (b ∈ Ts ∧ u = .tbl #[])
  tabs : ∀ b ∈ Ts, H b = some (.tbl #[])
  offK : ∀ b u, H b = some u → K.lookup b = none
section
variable {h : Heap} {K : PySem.W.Frag} {a : Addr} {us : List Value} {ns : List Int} {Ts : List Addr} {H : Hp}
/-- an object that is neither is not tracked -/
theorem First.off (F : First h K a us ns Ts H) (ha : h.get? a = some (oList us)) (ht : ∀ b ∈ Ts, h.get? b = some oTab) {b : Addr} {o : Obj} (e : h.get? b = some o) (n1 : o ≠ oList us) (n2 : o ≠ oTab) : H b = none := by
  cases q : H b with
  | none => rfl
  | some u =>
    rcases F.told b u q with ⟨z, _⟩ | ⟨z, _⟩
    · rw [z, ha] at e
      exact absurd (Option.some.inj e).symm n1
    · rw [ht b z] at e
      exact absurd (Option.some.inj e).symm n2
theorem First.offC (F : First h K a us ns Ts H) (ha : h.get? a = some (oList us)) (ht : ∀ b ∈ Ts, h.get? b = some oTab) {b : Addr} {o : Obj} (e : h.get? b = some o) (n1 : o.cls ≠ .type "list") (n2 : o.cls ≠ .none) : H b = none :=
  F.off ha ht e (fun z => n1 (by rw [z])) fun z => n2 (by rw [z])
theorem First.dict (F : First h K a us ns Ts H) (ha : h.get? a = some (oList us)) (ht : ∀ b ∈ Ts, h.get? b = some oTab) {b : Addr} {m : Str → Option Value} (e : h.Ns b m) : (hidT h H).Ns b m := by
  obtain ⟨o, es, ep, e, d, r⟩ := e
  refine ⟨o, es, ep, hidT_get e (F.off ha ht e (fun z => ?_) fun z => ?_), d, r⟩
  · rw [z] at d
    cases d
  · rw [z] at d
    cases d
end
theorem lawGT {P : Program} {w : World} {K : PySem.W.Frag} {mg mb : Str → Option Value} {CX : CXT} {k : Nat} {fa a : Addr} {cs : List (Addr × Addr)} {fd : FuncData} {x : Str} {sp : Sp} {s : Shared} {us : List Value} {ns : List Int}
    (inK : K.In s.heap) (gl : s.heap.Ns mainGlobals mg) (bl : s.heap.Ns builtinsNs mb) (boot : ∀ x : Str, x ≠ "__name__" → mb x = bootBuiltins x) (lim : s.heap.NoLimit) (quiet : s.gens = #[])
    (tabs : ∀ p ∈ cs, s.heap.get? p.2 = some oTab) (off : ∀ p ∈ cs, K.lookup p.2 = none) (codes : ∀ p ∈ cs, PySem.W.CodeHd s.heap p.1 p.2)
    (top : ∃ (bm : Addr) (ob : Obj), mg "__builtins__" = some (.ref bm) ∧ bm ≠ builtinsNs ∧ s.heap.get? bm = some ob ∧ ob.cls = .type "module" ∧ ob.dict = some builtinsNs ∧ ob.data = .plain)
    (script : s.heap.get? a = some (oList us)) (nums : IntsAre us ns) (few : ns.length ≤ sizeLine) (room : Room k callerA)
    (F : ∀ base : Heap, K.In base → base.Ns mainGlobals mg → (∀ p ∈ cs, TabB base mg p.1 p.2) → FnG P w K mg base CX k fa fd [x] sp) (binds : ∀ (s : Shared) (u : Value), BindsTo s fd ⟨[u], []⟩ [(x, u)])
    (ask : ∀ H : Hp, (∀ p ∈ cs, H p.2 = some (.tbl #[])) → SqL K H a (ns.map V.int) → sp [.ref a] H (fun v _ => v = .bl true) fun _ _ _ => False) (noX : ∀ H e s', CX [] H s (fun _ _ _ => False) e s' → False) :
    codeAny (model P w) callerA (.call (.ref fa) ⟨[.ref a], []⟩) (fun r s' => r = .ok (.ret (.bool true)) ∧ OldK s.heap s'.heap ∧ s'.os = s.os ∧ AllBare s'.gens) s := by
  have rel := vals_ints nums
  have len := nums.length
  have ht : ∀ b ∈ cs.map (·.2), s.heap.get? b = some oTab := by
    intro b hb
    obtain ⟨p, hp, rfl⟩ := List.mem_map.mp hb
    exact tabs p hp
  have aOut : a ∉ cs.map (·.2) := fun z => by
    have e := ht a z
    rw [script] at e
    cases e
  have gone : ∀ {q : Prop} (b : Addr), b ∈ ([] : List Addr) → q := fun {q} b hb => absurd hb (by simp)
  have main : ∀ H : Hp, First s.heap K a us ns (cs.map (·.2)) H → SqL K H a (ns.map V.int) →
      codeAny (model P w) callerA (.call (.ref fa) ⟨[.ref a], []⟩) (fun r s' => r = .ok (.ret (.bool true)) ∧ OldK s.heap s'.heap ∧ s'.os = s.os ∧ AllBare s'.gens) s := by
    intro H D seq
    have ok : HOk P w H s.heap := by
      intro b u e
      rcases D.told b u e with ⟨rfl, rfl⟩ | ⟨z, rfl⟩
      · exact ⟨script, by rw [List.length_map]; exact few, us, _, rel, script⟩
      · exact ht b z
    have kin : K.In (hidT s.heap H) := by
      intro b o e
      refine hidT_get (inK b o e) ?_
      cases q : H b with
      | none => rfl
      | some u =>
        rw [D.offK b u q] at e
        cases e
    have tb : ∀ p ∈ cs, TabB (hidT s.heap H) mg p.1 p.2 := by
      intro p hp
      constructor
      · obtain ⟨o, vs, file, tf, flags, tg, inF, text, tt, e, c, r⟩ := codes p hp
        exact ⟨o, vs, file, tf, flags, tg, inF, text, tt, hidT_get e (D.offC script ht e (by rw [c]; decide) (by rw [c]; intro z; cases z)), c, r⟩
      · obtain ⟨bm, ob, b1, b2, b3, b4, b5, b6⟩ := top
        refine ⟨bm, ob, b1, b2, fun z => ?_, fun z => ?_, hidT_get b3 (D.offC script ht b3 (by rw [b4]; decide) (by rw [b4]; intro z; cases z)), b4, b5, b6⟩
        · obtain ⟨o, es, ep, e, d, _⟩ := gl
          rw [z, e] at b3
          cases b3
          rw [d] at b6
          cases b6
        · rw [z, tabs p hp] at b3
          cases b3
          cases b4
      · intro z
        obtain ⟨o, es, ep, e, d, _⟩ := gl
        rw [z, tabs p hp] at e
        cases e
        cases d
    have mod : L2.Mod K mg (hidT s.heap H) := by
      obtain ⟨mc, l1, l2⟩ := lim
      exact ⟨kin, D.dict script ht gl, ⟨mb, D.dict script ht bl, boot⟩, mc, D.dict script ht l1, l2⟩
    have env : Env0 P w K mg (hidT s.heap H) callerA [] s H := ⟨rfl, mod, fun b o e => of_hidT e, Nat.le_of_eq (hidT_size _ _), trivial, fun b hb => gone b hb, ok, .of_eq quiet⟩
    have run := (F _ kin (D.dict script ht gl) tb).run callerA [] s H ⟨[.ref a], []⟩ [.ref a] [.ref a] _ _ rfl room env (binds s (.ref a)) (.cons rfl .nil) (ask H (fun p hp => D.tabs _ (List.mem_map.mpr ⟨p, hp, rfl⟩)) seq)
    refine codeAny_mono run fun r s' back => ?_
    match r, back with
    | .error e, back => exact (noX H e s' back).elim
    | .ok .next, back => exact False.elim back
    | .ok .brk, back => exact False.elim back
    | .ok .cont, back => exact False.elim back
    | .ok (.ret u), ⟨v, H', os, bare, un, ok', rv, (q : v = .bl true)⟩ =>
      subst q
      obtain rfl : u = Value.bool true := rv
      have stays : ∀ b o, b ∉ cs.map (·.2) → s.heap.get? b = some o → s'.heap.get? b = some o := by
        intro b o nb e
        cases q : H b with
        | none => exact un.keep b o e q (fun z => gone b z) (by simp)
        | some u =>
          rcases D.told b u q with ⟨rfl, rfl⟩ | ⟨z, _⟩
          · have e2 := (ok' b _ (un.frzs b _ _ q)).1
            rw [script] at e
            cases e
            exact e2
          · exact absurd z nb
      have grew : ∀ b ∈ cs.map (·.2), ∃ more : Array Value, s'.heap.get? b = some { cls := .none, data := .fields more } := by
        intro b hb
        obtain ⟨more, z⟩ := un.tbls b #[] (D.tabs b hb)
        exact ⟨_, ok' b _ z⟩
      refine ⟨rfl, ⟨fun b o e => ?_, fun b o e => ?_⟩, os, bare⟩
      · by_cases hb : b ∈ cs.map (·.2)
        · obtain ⟨more, z⟩ := grew b hb
          obtain ⟨p, hp, rfl⟩ := List.mem_map.mp hb
          rw [tabs p hp] at e
          cases e
          refine .inr (.inl ⟨((codes p hp).tab (tabs p hp)).isCodeTable, rfl, #[], more, rfl, ?_⟩)
          rw [Array.empty_append]
          exact z
        · exact .inl (stays b o hb e)
      · by_cases hb : b ∈ cs.map (·.2)
        · obtain ⟨more, z⟩ := grew b hb
          exact ⟨_, z⟩
        · exact ⟨o, stays b o hb e⟩
  have offT : ∀ b ∈ cs.map (·.2), K.lookup b = none := by
    intro b hb
    obtain ⟨p, hp, rfl⟩ := List.mem_map.mp hb
    exact off p hp
  by_cases look : K.lookup a = none
  · refine main (fun b => if b ∈ cs.map (·.2) then some (.tbl #[]) else if b = a then some (.frz (oList us) (.lst (ns.map V.int))) else none) ⟨fun b u e => ?_, fun b hb => if_pos hb, fun b u e => ?_⟩ (.inl (.inr ⟨oList us, (if_neg aOut).trans (if_pos rfl)⟩))
    all_goals
      by_cases hb : b ∈ cs.map (·.2)
      · have e' := (if_pos hb).symm.trans e
        first
          | exact .inr ⟨hb, (Option.some.inj e').symm⟩
          | exact offT b hb
      · have e1 := (if_neg hb).symm.trans e
        by_cases hc : b = a
        · have e' := (if_pos hc).symm.trans e1
          first
            | exact .inl ⟨hc, (Option.some.inj e').symm⟩
            | exact hc ▸ look
        · exact nomatch (if_neg hc).symm.trans e1
  · obtain ⟨o, e⟩ := Option.ne_none_iff_exists'.mp look
    have e2 := inK a o e
    rw [script] at e2
    cases e2
    refine main (fun b => if b ∈ cs.map (·.2) then some (.tbl #[]) else none) ⟨fun b u e => ?_, fun b hb => if_pos hb, fun b u e => ?_⟩ (.inr ⟨_, us.toArray, _, e, rfl, rfl, rfl, ?_, by simpa using rel⟩)
    · by_cases hb : b ∈ cs.map (·.2)
      · exact .inr ⟨hb, (Option.some.inj ((if_pos hb).symm.trans e)).symm⟩
      · exact nomatch (if_neg hb).symm.trans e
    · by_cases hb : b ∈ cs.map (·.2)
      · exact offT b hb
      · exact nomatch (if_neg hb).symm.trans e
    · rw [List.size_toArray, len]
      exact few
/-- what is known of the law at the head's heap -/
def LawGAt (l : PySem.W.OpenLaw) (w : World) (K : PySem.W.Frag) (CX : CXT) (k n : Nat) (x : Str) (mg : Str → Option Value) (fa : Addr) (h : Heap) : Prop :=
  ∃ (fd : FuncData) (cs : List (Addr × Addr)) (sp : Sp), (∀ p ∈ cs, h.get? p.2 = some oTab) ∧ (∀ p ∈ cs, K.lookup p.2 = none) ∧ (∀ p ∈ cs, PySem.W.CodeHd h p.1 p.2) ∧ (∀ (s : Shared) (u : Value), BindsTo s fd ⟨[u], []⟩ [(x, u)]) ∧
    (∀ (H : Hp) (a : Addr) (ns : List Int), ns.length ≤ n → (∀ p ∈ cs, H p.2 = some (.tbl #[])) → SqL K H a (ns.map V.int) → sp [.ref a] H (fun v _ => v = .bl true) fun _ _ _ => False) ∧
    ∀ base : Heap, K.In base → base.Ns mainGlobals mg → (∀ p ∈ cs, TabB base mg p.1 p.2) → FnG l.prog w K mg base CX k fa fd [x] sp
theorem walkGT {l : PySem.W.OpenLaw} {n k : Nat} {q : Program} {loose : List Str} {XP : (Str → Option Value) → Heap → Prop} {YP : World → Heap → Prop} {d : DefRec} {CX : World → CXT} {x : Str}
    (most : l.most = some n) (short : n ≤ sizeLine) (plain : d.params.defaults = []) (room : Room k callerA)
    (F : ∀ (w : World) (mg : Str → Option Value) (fa : Addr) (h : Heap), YP w h → h.Ns mainGlobals mg → mg d.name = some (.ref fa) → ∃ K : PySem.W.Frag, K.In h ∧ LawGAt l w K (CX w) k n x mg fa h)
    (noX : ∀ (w : World) (H : Hp) (s : Shared) (e : Value) (s' : Shared), CX w [] H s (fun _ _ _ => False) e s' → False) : PySem.W.WalkO q loose XP YP l.row.toRowW d [] (fun f vs => PySem.call f vs) := by
  refine Att.attach_callB most plain fun w s0 s mg mb fa o pm cd doc a us ns G Y ho hd hcd hmg list nums few bits quiet => ?_
  obtain ⟨K, inK, fd, cs, sp, t1, t2, t3, b, ask, prom⟩ := F w mg fa _ Y G.T.g hmg
  exact lawGT inK G.T.g G.T.b G.T.builtins G.T.nolimit quiet t1 t2 t3 G.T.bmain list nums (Nat.le_trans few short) room prom b (fun H => ask H a ns few) fun H e s' => noX w H s e s'
end Ad

/-! The head: what the top leaves, by one run. -/
namespace Ad
open PySem PySem.Spec PyProof.Rows L2 GxR
def dd (i : Nat) (x : Str) : He.DefD := ⟨(x, none), x, x, defArgs (topS i), defBody (topS i), defScope (topS i), [], []⟩
def fnL : List He.DefD := [dd 1 "is_from", dd 2 "is_below", dd 4 "put_at", dd 6 "chain_end", dd 7 "_part_at", dd 9 "_law_pen", dd 10 "_law_draw", dd 11 "_law_pick", dd 12 "_law_is_whole", dd 13 "_law_drawn_order", dd 14 "_law_is_var", dd 15 "_law_size", dd 16 "_law_drawn_term", dd 17 "_law_drawn_atom", dd 18 "_law_ground", dd 19 "_law_equation", dd 20 "_law_equations", dd 21 "_law_paths", dd 22 "_law_at", dd 23 "_law_put_at", dd 24 "_law_chain_end", dd 25 "_law_drawn_chain", dd 26 "_law_bent", dd 27 "law"]
def faL : List He.Fa := [.glo "is_from", .glo "is_below", .glo "put_at", .glo "chain_end", .glo "_part_at", .glo "_law_pen", .glo "_law_draw", .glo "_law_pick", .glo "_law_is_whole", .glo "_law_drawn_order", .glo "_law_is_var", .glo "_law_size", .glo "_law_drawn_term", .glo "_law_drawn_atom", .glo "_law_ground", .glo "_law_equation", .glo "_law_equations", .glo "_law_paths", .glo "_law_at", .glo "_law_put_at", .glo "_law_chain_end", .glo "_law_drawn_chain", .glo "_law_bent", .glo "law", .free "isinstance", .free "int", .free "bool", .free "list", .free "tuple", .free "len", .free "range", .free "sum", .free "enumerate", .free "reversed"]
def tfL : List He.Defn := []
abbrev looseL : List PySem.Str := "is_from" :: "is_below" :: "put_at" :: "chain_end" :: "_part_at" :: "_law_pen" :: "_law_draw" :: "_law_pick" :: "_law_is_whole" :: "_law_drawn_order" :: "_law_is_var" :: "_law_size" :: "_law_drawn_term" :: "_law_drawn_atom" :: "_law_ground" :: "_law_equation" :: "_law_equations" :: "_law_paths" :: "_law_at" :: "_law_put_at" :: "_law_chain_end" :: "_law_drawn_chain" :: "_law_bent" :: []
abbrev exL : PySem.W.Frag → Bool := fun _ => true
abbrev RL : PySem.W.OpenRow := PySem.W.OpenLaw.row PySem.Challenge.rw_downtoground_k17_whole_chains
abbrev hkL : PySem.W.Hook := He.hookX 4 faL fnL [] tfL exL
def obL (s : PySem.W.SharedT) : He.AlX := He.obsX 4 faL fnL [] tfL exL (HandSHeadRun.getT s)
theorem obL_eq (s : PySem.W.SharedT) : obL s = hkL.obs s.abs := He.obsX_eq (HandSHeadRun.getT_eq s)
theorem runL (w : World) : HandSHeadRun.RunEq RL (PySem.W.view RL.prog [27]) hkL obL 6000 Ad.looseL w := by
  intro os
  kernel_rfl
end Ad

/-! What the head tells, put together. -/
namespace Ad
open PySem PySem.Spec PyProof.Rows L2 GxR
theorem fun_of {K : PySem.W.Frag} {x q : Str} {st : Stmt} {f : Addr} {fd : FuncData} (F : FunD K x q (defArgs st) (defBody st) (defScope st) [] [] f fd) : Fun K x q st f fd := by
  obtain ⟨oc, od, dV, kV, doc, pm, an, cdv, ct, osl, e, lk, code, dfl, _⟩ := F.ex
  rcases dfl with ⟨_, rfl⟩ | ⟨z, _⟩
  · exact ⟨⟨oc, od, kV, doc, pm, an, cdv, ct, osl, e, lk, code⟩, F.kp⟩
  · exact absurd rfl z
section
variable {w : World} {K : PySem.W.Frag} {h : Heap} {mg : Str → Option Value} {f : Addr}
theorem facts (X : K.In h) (G : h.Ns mainGlobals mg) (hfa : mg ("law" : Str) = some (.ref f)) (c : He.SaysX faL fnL [] tfL exL w h K) : LawGAt PySem.Challenge.rw_downtoground_k17_whole_chains w K CX0 73 63 "_law_script" mg f h := by
  have cd := c.t.d
  obtain ⟨d1, E1⟩ : ∃ fd, FunD K "is_from" "is_from" (defArgs (topS 1)) (defBody (topS 1)) (defScope (topS 1)) [] [] (He.fAd K ("is_from", none)) fd := cd.def_ 0 (d := dd 1 "is_from") rfl
  have F1 := fun_of E1
  have g1 : mg "is_from" = some (.ref (He.fAd K ("is_from", none))) := He.glo_ok X G (cd.fact 0 (f := .glo "is_from") rfl)
  have b1 : Binds K d1 ["value", "least"] [] := (fun_of E1).binds fun _ _ _ _ _ _ us hl => match us, hl with | [_, _], _ => rfl
  obtain ⟨d2, E2⟩ : ∃ fd, FunD K "is_below" "is_below" (defArgs (topS 2)) (defBody (topS 2)) (defScope (topS 2)) [] [] (He.fAd K ("is_below", none)) fd := cd.def_ 1 (d := dd 2 "is_below") rfl
  have F2 := fun_of E2
  have g2 : mg "is_below" = some (.ref (He.fAd K ("is_below", none))) := He.glo_ok X G (cd.fact 1 (f := .glo "is_below") rfl)
  have b2 : Binds K d2 ["value", "end"] [] := (fun_of E2).binds fun _ _ _ _ _ _ us hl => match us, hl with | [_, _], _ => rfl
  obtain ⟨d4, E4⟩ : ∃ fd, FunD K "put_at" "put_at" (defArgs (topS 4)) (defBody (topS 4)) (defScope (topS 4)) [] [] (He.fAd K ("put_at", none)) fd := cd.def_ 2 (d := dd 4 "put_at") rfl
  have F4 := fun_of E4
  have g4 : mg "put_at" = some (.ref (He.fAd K ("put_at", none))) := He.glo_ok X G (cd.fact 2 (f := .glo "put_at") rfl)
  have b4 : Binds K d4 ["term", "path", "new"] [] := (fun_of E4).binds fun _ _ _ _ _ _ us hl => match us, hl with | [_, _, _], _ => rfl
  obtain ⟨d6, E6⟩ : ∃ fd, FunD K "chain_end" "chain_end" (defArgs (topS 6)) (defBody (topS 6)) (defScope (topS 6)) [] [] (He.fAd K ("chain_end", none)) fd := cd.def_ 3 (d := dd 6 "chain_end") rfl
  have F6 := fun_of E6
  have g6 : mg "chain_end" = some (.ref (He.fAd K ("chain_end", none))) := He.glo_ok X G (cd.fact 3 (f := .glo "chain_end") rfl)
  have b6 : Binds K d6 ["equations", "term", "chain"] [] := (fun_of E6).binds fun _ _ _ _ _ _ us hl => match us, hl with | [_, _, _], _ => rfl
  obtain ⟨d7, E7⟩ : ∃ fd, FunD K "_part_at" "_part_at" (defArgs (topS 7)) (defBody (topS 7)) (defScope (topS 7)) [] [] (He.fAd K ("_part_at", none)) fd := cd.def_ 4 (d := dd 7 "_part_at") rfl
  have F7 := fun_of E7
  have g7 : mg "_part_at" = some (.ref (He.fAd K ("_part_at", none))) := He.glo_ok X G (cd.fact 4 (f := .glo "_part_at") rfl)
  have b7 : Binds K d7 ["term", "path"] [] := (fun_of E7).binds fun _ _ _ _ _ _ us hl => match us, hl with | [_, _], _ => rfl
  obtain ⟨d9, E9⟩ : ∃ fd, FunD K "_law_pen" "_law_pen" (defArgs (topS 9)) (defBody (topS 9)) (defScope (topS 9)) [] [] (He.fAd K ("_law_pen", none)) fd := cd.def_ 5 (d := dd 9 "_law_pen") rfl
  have F9 := fun_of E9
  have g9 : mg "_law_pen" = some (.ref (He.fAd K ("_law_pen", none))) := He.glo_ok X G (cd.fact 5 (f := .glo "_law_pen") rfl)
  have b9 : Binds K d9 ["_law_script"] [] := (fun_of E9).binds fun _ _ _ _ _ _ us hl => match us, hl with | [_], _ => rfl
  obtain ⟨d10, E10⟩ : ∃ fd, FunD K "_law_draw" "_law_draw" (defArgs (topS 10)) (defBody (topS 10)) (defScope (topS 10)) [] [] (He.fAd K ("_law_draw", none)) fd := cd.def_ 6 (d := dd 10 "_law_draw") rfl
  have F10 := fun_of E10
  have g10 : mg "_law_draw" = some (.ref (He.fAd K ("_law_draw", none))) := He.glo_ok X G (cd.fact 6 (f := .glo "_law_draw") rfl)
  have b10 : Binds K d10 ["_law_pen_here", "_law_many"] [] := (fun_of E10).binds fun _ _ _ _ _ _ us hl => match us, hl with | [_, _], _ => rfl
  obtain ⟨d11, E11⟩ : ∃ fd, FunD K "_law_pick" "_law_pick" (defArgs (topS 11)) (defBody (topS 11)) (defScope (topS 11)) [] [] (He.fAd K ("_law_pick", none)) fd := cd.def_ 7 (d := dd 11 "_law_pick") rfl
  have F11 := fun_of E11
  have g11 : mg "_law_pick" = some (.ref (He.fAd K ("_law_pick", none))) := He.glo_ok X G (cd.fact 7 (f := .glo "_law_pick") rfl)
  have b11 : Binds K d11 ["_law_pen_here", "_law_some"] [] := (fun_of E11).binds fun _ _ _ _ _ _ us hl => match us, hl with | [_, _], _ => rfl
  obtain ⟨d12, E12⟩ : ∃ fd, FunD K "_law_is_whole" "_law_is_whole" (defArgs (topS 12)) (defBody (topS 12)) (defScope (topS 12)) [] [] (He.fAd K ("_law_is_whole", none)) fd := cd.def_ 8 (d := dd 12 "_law_is_whole") rfl
  have F12 := fun_of E12
  have g12 : mg "_law_is_whole" = some (.ref (He.fAd K ("_law_is_whole", none))) := He.glo_ok X G (cd.fact 8 (f := .glo "_law_is_whole") rfl)
  have b12 : Binds K d12 ["_law_thing"] [] := (fun_of E12).binds fun _ _ _ _ _ _ us hl => match us, hl with | [_], _ => rfl
  obtain ⟨d13, E13⟩ : ∃ fd, FunD K "_law_drawn_order" "_law_drawn_order" (defArgs (topS 13)) (defBody (topS 13)) (defScope (topS 13)) [] [] (He.fAd K ("_law_drawn_order", none)) fd := cd.def_ 9 (d := dd 13 "_law_drawn_order") rfl
  have F13 := fun_of E13
  have g13 : mg "_law_drawn_order" = some (.ref (He.fAd K ("_law_drawn_order", none))) := He.glo_ok X G (cd.fact 9 (f := .glo "_law_drawn_order") rfl)
  have b13 : Binds K d13 ["_law_pen_here"] [] := (fun_of E13).binds fun _ _ _ _ _ _ us hl => match us, hl with | [_], _ => rfl
  obtain ⟨d14, E14⟩ : ∃ fd, FunD K "_law_is_var" "_law_is_var" (defArgs (topS 14)) (defBody (topS 14)) (defScope (topS 14)) [] [] (He.fAd K ("_law_is_var", none)) fd := cd.def_ 10 (d := dd 14 "_law_is_var") rfl
  have F14 := fun_of E14
  have g14 : mg "_law_is_var" = some (.ref (He.fAd K ("_law_is_var", none))) := He.glo_ok X G (cd.fact 10 (f := .glo "_law_is_var") rfl)
  have b14 : Binds K d14 ["_law_term"] [] := (fun_of E14).binds fun _ _ _ _ _ _ us hl => match us, hl with | [_], _ => rfl
  obtain ⟨d15, E15⟩ : ∃ fd, FunD K "_law_size" "_law_size" (defArgs (topS 15)) (defBody (topS 15)) (defScope (topS 15)) [] [] (He.fAd K ("_law_size", none)) fd := cd.def_ 11 (d := dd 15 "_law_size") rfl
  have F15 := fun_of E15
  have g15 : mg "_law_size" = some (.ref (He.fAd K ("_law_size", none))) := He.glo_ok X G (cd.fact 11 (f := .glo "_law_size") rfl)
  have b15 : Binds K d15 ["_law_term"] [] := (fun_of E15).binds fun _ _ _ _ _ _ us hl => match us, hl with | [_], _ => rfl
  obtain ⟨d16, E16⟩ : ∃ fd, FunD K "_law_drawn_term" "_law_drawn_term" (defArgs (topS 16)) (defBody (topS 16)) (defScope (topS 16)) [] [] (He.fAd K ("_law_drawn_term", none)) fd := cd.def_ 12 (d := dd 16 "_law_drawn_term") rfl
  have F16 := fun_of E16
  have g16 : mg "_law_drawn_term" = some (.ref (He.fAd K ("_law_drawn_term", none))) := He.glo_ok X G (cd.fact 12 (f := .glo "_law_drawn_term") rfl)
  have b16 : Binds K d16 ["_law_pen_here", "_law_rows", "_law_deep", "_law_variables"] [] := (fun_of E16).binds fun _ _ _ _ _ _ us hl => match us, hl with | [_, _, _, _], _ => rfl
  obtain ⟨d17, E17⟩ : ∃ fd, FunD K "_law_drawn_atom" "_law_drawn_atom" (defArgs (topS 17)) (defBody (topS 17)) (defScope (topS 17)) [] [] (He.fAd K ("_law_drawn_atom", none)) fd := cd.def_ 13 (d := dd 17 "_law_drawn_atom") rfl
  have F17 := fun_of E17
  have g17 : mg "_law_drawn_atom" = some (.ref (He.fAd K ("_law_drawn_atom", none))) := He.glo_ok X G (cd.fact 13 (f := .glo "_law_drawn_atom") rfl)
  have b17 : Binds K d17 ["_law_pen_here", "_law_rows", "_law_deep", "_law_variables"] [] := (fun_of E17).binds fun _ _ _ _ _ _ us hl => match us, hl with | [_, _, _, _], _ => rfl
  obtain ⟨d18, E18⟩ : ∃ fd, FunD K "_law_ground" "_law_ground" (defArgs (topS 18)) (defBody (topS 18)) (defScope (topS 18)) [] [] (He.fAd K ("_law_ground", none)) fd := cd.def_ 14 (d := dd 18 "_law_ground") rfl
  have F18 := fun_of E18
  have g18 : mg "_law_ground" = some (.ref (He.fAd K ("_law_ground", none))) := He.glo_ok X G (cd.fact 14 (f := .glo "_law_ground") rfl)
  have b18 : Binds K d18 ["_law_pen_here", "_law_rows", "_law_deep"] [] := (fun_of E18).binds fun _ _ _ _ _ _ us hl => match us, hl with | [_, _, _], _ => rfl
  obtain ⟨d19, E19⟩ : ∃ fd, FunD K "_law_equation" "_law_equation" (defArgs (topS 19)) (defBody (topS 19)) (defScope (topS 19)) [] [] (He.fAd K ("_law_equation", none)) fd := cd.def_ 15 (d := dd 19 "_law_equation") rfl
  have F19 := fun_of E19
  have g19 : mg "_law_equation" = some (.ref (He.fAd K ("_law_equation", none))) := He.glo_ok X G (cd.fact 15 (f := .glo "_law_equation") rfl)
  have b19 : Binds K d19 ["_law_pen_here", "_law_rows"] [] := (fun_of E19).binds fun _ _ _ _ _ _ us hl => match us, hl with | [_, _], _ => rfl
  obtain ⟨d20, E20⟩ : ∃ fd, FunD K "_law_equations" "_law_equations" (defArgs (topS 20)) (defBody (topS 20)) (defScope (topS 20)) [] [] (He.fAd K ("_law_equations", none)) fd := cd.def_ 16 (d := dd 20 "_law_equations") rfl
  have F20 := fun_of E20
  have g20 : mg "_law_equations" = some (.ref (He.fAd K ("_law_equations", none))) := He.glo_ok X G (cd.fact 16 (f := .glo "_law_equations") rfl)
  have b20 : Binds K d20 ["_law_pen_here", "_law_rows", "_law_many"] [] := (fun_of E20).binds fun _ _ _ _ _ _ us hl => match us, hl with | [_, _, _], _ => rfl
  obtain ⟨d21, E21⟩ : ∃ fd, FunD K "_law_paths" "_law_paths" (defArgs (topS 21)) (defBody (topS 21)) (defScope (topS 21)) [] [] (He.fAd K ("_law_paths", none)) fd := cd.def_ 17 (d := dd 21 "_law_paths") rfl
  have F21 := fun_of E21
  have g21 : mg "_law_paths" = some (.ref (He.fAd K ("_law_paths", none))) := He.glo_ok X G (cd.fact 17 (f := .glo "_law_paths") rfl)
  have b21 : Binds K d21 ["_law_term"] [] := (fun_of E21).binds fun _ _ _ _ _ _ us hl => match us, hl with | [_], _ => rfl
  obtain ⟨d22, E22⟩ : ∃ fd, FunD K "_law_at" "_law_at" (defArgs (topS 22)) (defBody (topS 22)) (defScope (topS 22)) [] [] (He.fAd K ("_law_at", none)) fd := cd.def_ 18 (d := dd 22 "_law_at") rfl
  have F22 := fun_of E22
  have g22 : mg "_law_at" = some (.ref (He.fAd K ("_law_at", none))) := He.glo_ok X G (cd.fact 18 (f := .glo "_law_at") rfl)
  have b22 : Binds K d22 ["_law_term", "_law_path"] [] := (fun_of E22).binds fun _ _ _ _ _ _ us hl => match us, hl with | [_, _], _ => rfl
  obtain ⟨d23, E23⟩ : ∃ fd, FunD K "_law_put_at" "_law_put_at" (defArgs (topS 23)) (defBody (topS 23)) (defScope (topS 23)) [] [] (He.fAd K ("_law_put_at", none)) fd := cd.def_ 19 (d := dd 23 "_law_put_at") rfl
  have F23 := fun_of E23
  have g23 : mg "_law_put_at" = some (.ref (He.fAd K ("_law_put_at", none))) := He.glo_ok X G (cd.fact 19 (f := .glo "_law_put_at") rfl)
  have b23 : Binds K d23 ["_law_term", "_law_path", "_law_new"] [] := (fun_of E23).binds fun _ _ _ _ _ _ us hl => match us, hl with | [_, _, _], _ => rfl
  obtain ⟨d24, E24⟩ : ∃ fd, FunD K "_law_chain_end" "_law_chain_end" (defArgs (topS 24)) (defBody (topS 24)) (defScope (topS 24)) [] [] (He.fAd K ("_law_chain_end", none)) fd := cd.def_ 20 (d := dd 24 "_law_chain_end") rfl
  have F24 := fun_of E24
  have g24 : mg "_law_chain_end" = some (.ref (He.fAd K ("_law_chain_end", none))) := He.glo_ok X G (cd.fact 20 (f := .glo "_law_chain_end") rfl)
  have b24 : Binds K d24 ["_law_equations_here", "_law_term", "_law_chain"] [] := (fun_of E24).binds fun _ _ _ _ _ _ us hl => match us, hl with | [_, _, _], _ => rfl
  obtain ⟨d25, E25⟩ : ∃ fd, FunD K "_law_drawn_chain" "_law_drawn_chain" (defArgs (topS 25)) (defBody (topS 25)) (defScope (topS 25)) [] [] (He.fAd K ("_law_drawn_chain", none)) fd := cd.def_ 21 (d := dd 25 "_law_drawn_chain") rfl
  have F25 := fun_of E25
  have g25 : mg "_law_drawn_chain" = some (.ref (He.fAd K ("_law_drawn_chain", none))) := He.glo_ok X G (cd.fact 21 (f := .glo "_law_drawn_chain") rfl)
  have b25 : Binds K d25 ["_law_pen_here", "_law_equations_here", "_law_term"] [] := (fun_of E25).binds fun _ _ _ _ _ _ us hl => match us, hl with | [_, _, _], _ => rfl
  obtain ⟨d26, E26⟩ : ∃ fd, FunD K "_law_bent" "_law_bent" (defArgs (topS 26)) (defBody (topS 26)) (defScope (topS 26)) [] [] (He.fAd K ("_law_bent", none)) fd := cd.def_ 22 (d := dd 26 "_law_bent") rfl
  have F26 := fun_of E26
  have g26 : mg "_law_bent" = some (.ref (He.fAd K ("_law_bent", none))) := He.glo_ok X G (cd.fact 22 (f := .glo "_law_bent") rfl)
  have b26 : Binds K d26 ["_law_pen_here", "_law_chain", "_law_many"] [] := (fun_of E26).binds fun _ _ _ _ _ _ us hl => match us, hl with | [_, _, _], _ => rfl
  obtain ⟨d27, E27⟩ : ∃ fd, FunD K "law" "law" (defArgs (topS 27)) (defBody (topS 27)) (defScope (topS 27)) [] [] (He.fAd K ("law", none)) fd := cd.def_ 23 (d := dd 27 "law") rfl
  have F27 := fun_of E27
  have g27 : mg "law" = some (.ref (He.fAd K ("law", none))) := He.glo_ok X G (cd.fact 23 (f := .glo "law") rfl)
  have b27 : Binds K d27 ["_law_script"] [] := (fun_of E27).binds fun _ _ _ _ _ _ us hl => match us, hl with | [_], _ => rfl
  have m_isinstance : mg "isinstance" = none := He.free_ok X G (cd.fact 24 (f := .free "isinstance") rfl)
  have m_int : mg "int" = none := He.free_ok X G (cd.fact 25 (f := .free "int") rfl)
  have m_bool : mg "bool" = none := He.free_ok X G (cd.fact 26 (f := .free "bool") rfl)
  have m_list : mg "list" = none := He.free_ok X G (cd.fact 27 (f := .free "list") rfl)
  have m_tuple : mg "tuple" = none := He.free_ok X G (cd.fact 28 (f := .free "tuple") rfl)
  have m_len : mg "len" = none := He.free_ok X G (cd.fact 29 (f := .free "len") rfl)
  have m_range : mg "range" = none := He.free_ok X G (cd.fact 30 (f := .free "range") rfl)
  have m_sum : mg "sum" = none := He.free_ok X G (cd.fact 31 (f := .free "sum") rfl)
  have m_enumerate : mg "enumerate" = none := He.free_ok X G (cd.fact 32 (f := .free "enumerate") rfl)
  have m_reversed : mg "reversed" = none := He.free_ok X G (cd.fact 33 (f := .free "reversed") rfl)
  have law0 : f = He.fAd K ("law", none) := by
    have e := hfa.symm.trans g27
    cases e
    rfl
  subst law0
  refine ⟨d27, [], spLaw K, (fun p hp => nomatch hp), (fun p hp => nomatch hp), (fun p hp => nomatch hp), ?_, ?_, ?_⟩
  · exact fun s v => FunD.bindsA (ps := ["_law_script"]) E27 (fun _ _ _ _ _ _ us hl => match us, hl with | [_], _ => rfl) s [v] rfl
  · intro H a ns few tabs seq
    exact ⟨a, ns, rfl, seq, few, fun _ => rfl⟩
  · intro base inB nsB tb
    have GIs : FnOk PySem.Challenge.rw_downtoground_k17_whole_chains.prog w K mg base CX0 1 _ d14 ["_law_term"] (spIsVar K) := ok_isvar F14 m_isinstance m_int
    have GDr : FnOk PySem.Challenge.rw_downtoground_k17_whole_chains.prog w K mg base CX0 1 _ d10 ["_law_pen_here", "_law_many"] Pn.spDraw := Pn.ok_draw F10 m_int m_len
    have GPi : FnOk PySem.Challenge.rw_downtoground_k17_whole_chains.prog w K mg base CX0 2 _ d11 ["_law_pen_here", "_law_some"] (Pn.spPick K) := Pn.ok_pick F11 GDr g10 F10.kp b10 m_len
    have GPt : FnOk PySem.Challenge.rw_downtoground_k17_whole_chains.prog w K mg base CX0 2 _ d11 ["_law_pen_here", "_law_some"] (spPickT K) := ok_pickT F11 GDr g10 F10.kp b10 m_len
    have GTe : FnOk PySem.Challenge.rw_downtoground_k17_whole_chains.prog w K mg base CX0 7 _ d16 ["_law_pen_here", "_law_rows", "_law_deep", "_law_variables"] (spDrawn K 5) := ok_drawn F16 g16 b16 (GDr.mono (by decide : 1 ≤ 2)) g10 F10.kp b10 GPi g11 F11.kp b11 m_tuple m_range 5
    have GAt : FnOk PySem.Challenge.rw_downtoground_k17_whole_chains.prog w K mg base CX0 8 _ d17 ["_law_pen_here", "_law_rows", "_law_deep", "_law_variables"] (spLAtom K 5) := ok_latom F17 (GPt.mono (by decide : 2 ≤ 7)) g11 F11.kp b11 GTe g16 F16.kp b16 m_tuple m_range
    have GOr : FnOk PySem.Challenge.rw_downtoground_k17_whole_chains.prog w K mg base CX0 3 _ d13 ["_law_pen_here"] (spOrder K) := ok_order F13 (GDr.mono (by decide : 1 ≤ 2)) g10 F10.kp b10 GPi g11 F11.kp b11 m_tuple m_range m_list m_len
    have GPe : FnOk PySem.Challenge.rw_downtoground_k17_whole_chains.prog w K mg base CX0 1 _ d9 ["_law_script"] (Pn.spPen K) := Pn.ok_pen (k := 0) F9 m_int m_list
    have GGr : FnOk PySem.Challenge.rw_downtoground_k17_whole_chains.prog w K mg base CX0 8 _ d18 ["_law_pen_here", "_law_rows", "_law_deep"] (spLGround K) := ok_lground F18 ⟨GTe.mono (by decide), g16, F16.kp, b16⟩
    have GEq : FnOk PySem.Challenge.rw_downtoground_k17_whole_chains.prog w K mg base CX0 9 _ d19 ["_law_pen_here", "_law_rows"] (spLEq K) := ok_leq (k := 8) F19 ⟨GDr.mono (by decide), g10, F10.kp, b10⟩ ⟨GAt.mono (by decide), g17, F17.kp, b17⟩ ⟨GGr.mono (by decide), g18, F18.kp, b18⟩
    have GEs : FnOk PySem.Challenge.rw_downtoground_k17_whole_chains.prog w K mg base CX0 10 _ d20 ["_law_pen_here", "_law_rows", "_law_many"] (spLEqs K) := ok_leqs (k := 9) F20 ⟨GDr.mono (by decide), g10, F10.kp, b10⟩ ⟨GEq.mono (by decide), g19, F19.kp, b19⟩ m_range
    have GPa : FnOk PySem.Challenge.rw_downtoground_k17_whole_chains.prog w K mg base CX0 70 _ d21 ["_law_term"] (spLPathsG K 70) := (ok_lpathsb (k := 0) F21 g21 b21 m_enumerate 70).mono (by decide)
    have GLA : FnOk PySem.Challenge.rw_downtoground_k17_whole_chains.prog w K mg base CX0 1 _ d22 ["_law_term", "_law_path"] (spAt K) := ok_latb (k := 0) F22
    have GLP : FnOk PySem.Challenge.rw_downtoground_k17_whole_chains.prog w K mg base CX0 70 _ d23 ["_law_term", "_law_path", "_law_new"] (spPut K 70) := (ok_lputb (k := 0) F23 g23 b23 70).mono (by decide)
    have GSz : FnOk PySem.Challenge.rw_downtoground_k17_whole_chains.prog w K mg base CX0 71 _ d15 ["_law_term"] (spLSize K 70) := (ok_lsize (k := 1) F15 g15 b15 GIs g14 F14.kp b14 m_sum 70).mono (by decide)
    have GWh : FnOk PySem.Challenge.rw_downtoground_k17_whole_chains.prog w K mg base CX0 1 _ d12 ["_law_thing"] (spWholeD K) := ok_lwhole (k := 0) F12 m_isinstance m_int m_bool
    have GLc : FnOk PySem.Challenge.rw_downtoground_k17_whole_chains.prog w K mg base CX0 71 _ d24 ["_law_equations_here", "_law_term", "_law_chain"] (spLChain K) := ok_lchainend (k := 70) F24 ⟨GWh.mono (by decide), g12, F12.kp, b12⟩ ⟨GPa.mono (by decide), g21, F21.kp, b21⟩ ⟨GLA.mono (by decide), g22, F22.kp, b22⟩ ⟨GLP.mono (by decide), g23, F23.kp, b23⟩ m_isinstance m_tuple m_bool m_len
    have GDc : FnOk PySem.Challenge.rw_downtoground_k17_whole_chains.prog w K mg base CX0 72 _ d25 ["_law_pen_here", "_law_equations_here", "_law_term"] (spDc K) := ok_dc (k := 71) F25 ⟨GDr.mono (by decide), g10, F10.kp, b10⟩ ⟨GPi.mono (by decide), g11, F11.kp, b11⟩ ⟨GPa.mono (by decide), g21, F21.kp, b21⟩ ⟨GLA.mono (by decide), g22, F22.kp, b22⟩ ⟨GSz.mono (by decide), g15, F15.kp, b15⟩ ⟨GLP.mono (by decide), g23, F23.kp, b23⟩ m_range m_enumerate m_int
    have GBe : FnOk PySem.Challenge.rw_downtoground_k17_whole_chains.prog w K mg base CX0 3 _ d26 ["_law_pen_here", "_law_chain", "_law_many"] (spBent K) := ok_bent (k := 2) F26 ⟨GDr.mono (by decide), g10, F10.kp, b10⟩ ⟨GPi.mono (by decide), g11, F11.kp, b11⟩ m_list m_len
    have GFr : FnOk PySem.Challenge.rw_downtoground_k17_whole_chains.prog w K mg base CX0 1 _ d1 ["value", "least"] (spFromD K) := ok_fromD (k := 0) F1 m_isinstance m_int m_bool
    have GBl : FnOk PySem.Challenge.rw_downtoground_k17_whole_chains.prog w K mg base CX0 2 _ d2 ["value", "end"] (spBelowD K) := ok_belowD F2 GFr g1 F1.kp b1
    have GPp : FnOk PySem.Challenge.rw_downtoground_k17_whole_chains.prog w K mg base CX0 3 _ d7 ["term", "path"] (spPartAt K) := ok_partat F7 ⟨GBl.mono (by decide), g2, F2.kp, b2⟩ m_isinstance m_tuple m_len
    have GPu : FnOk PySem.Challenge.rw_downtoground_k17_whole_chains.prog w K mg base CX0 1 _ d4 ["term", "path", "new"] (spPut K 70) := ok_putat (k := 0) 70 F4 m_reversed
    have GCe : FnOk PySem.Challenge.rw_downtoground_k17_whole_chains.prog w K mg base CX0 4 _ d6 ["equations", "term", "chain"] (spChainEnd K) := ok_chainend (k := 3) F6 ⟨GBl.mono (by decide), g2, F2.kp, b2⟩ ⟨GPp.mono (by decide), g7, F7.kp, b7⟩ ⟨GPu.mono (by decide), g4, F4.kp, b4⟩ m_isinstance m_tuple m_bool m_len
    exact FnG.of (ok_law (k := 71) F27 ⟨GPe.mono (by decide), g9, F9.kp, b9⟩ ⟨GDr.mono (by decide), g10, F10.kp, b10⟩ ⟨GPi.mono (by decide), g11, F11.kp, b11⟩ ⟨GOr.mono (by decide), g13, F13.kp, b13⟩ ⟨GEs.mono (by decide), g20, F20.kp, b20⟩ ⟨GGr.mono (by decide), g18, F18.kp, b18⟩ ⟨GLP.mono (by decide), g23, F23.kp, b23⟩ ⟨GPa.mono (by decide), g21, F21.kp, b21⟩ ⟨GDc.mono (by decide), g25, F25.kp, b25⟩ ⟨GBe.mono (by decide), g26, F26.kp, b26⟩ ⟨GCe.mono (by decide), g6, F6.kp, b6⟩ ⟨GLc.mono (by decide), g24, F24.kp, b24⟩ m_range m_list m_tuple m_len)
end
end Ad

open PySem PySem.W PySem.Calls PyProof.Rows
theorem PySem.Challenge.cw_downtoground_k17_whole_chains_holds : PySem.Challenge.rw_downtoground_k17_whole_chains.Holds := by
  w_on
  o_law
  refine HandSHeadRun.head_any (r := OpenLaw.row PySem.Challenge.rw_downtoground_k17_whole_chains) (q := view (OpenLaw.row PySem.Challenge.rw_downtoground_k17_whole_chains).prog [27]) (H := Ad.hkL) (ob := Ad.obL) (M := 6000) (loose := Ad.looseL)
    (d := HandSHeadRun.topDef (OpenLaw.row PySem.Challenge.rw_downtoground_k17_whole_chains).prog 27) (kwd := []) Ad.obL_eq (by kernel_rfl) (fun s => by kernel_rfl) Ad.runL (by kernel_rfl) (by kernel_rfl) (by kernel_rfl) (by rfl) (by first | assumption | decide +kernel) (by decide +kernel) ⟨rfl, rfl, rfl, rfl, rfl, by decide +kernel⟩ ?hw ?hc
  case hw => w_witness2
  case hc =>
    refine Ad.walkGT (l := PySem.Challenge.rw_downtoground_k17_whole_chains) (n := 63) (k := 73) (x := "_law_script") (CX := fun _ => L2.CX0) rfl (by decide) (by kernel_rfl) ⟨rfl, by decide, by decide⟩ ?F (fun _ _ _ _ _ z => z)
    intro w mg fa h ⟨K, KX, c⟩ G named
    have e : (HandSHeadRun.topDef (OpenLaw.row PySem.Challenge.rw_downtoground_k17_whole_chains).prog 27).name = ("law" : PySem.Str) := by kernel_rfl
    rw [e] at named
    exact ⟨K, KX, Ad.facts KX G named c⟩

