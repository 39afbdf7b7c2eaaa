import PyProof.Rows.All
import Wide.All
import OpenK.AllK
import Wide.FinOn
import HandS.ForMost
import HandS.More
import HandS.Style
import HandS.TupAny
import HandS.IsInst
import HandS.Codes
import HandS.Exc
import HandS.Ends
import PyProof.P3Eq
import PyProof.ReprReads
import PyProof.TupleIter
import HandS.GenList
import HandS.AnyAll
import PyProof.GenComp
import PyProof.TupleOfGen
import HandS.Conv
import HandS.WordsDict
import HandS.Zip
import HandS.Zip0
import PyProof.Draws
import PyProof.EnumMake
import PyProof.EnumFor
import PyProof.CollectWalk
import PyProof.ListNew
import HandS.Deep
import HandS.DictComp
import HandS.Rev
import KE.KDictOf
import KE.KxText
import PyProof.WalkInts
import PyProof.Rows.RuleB_bool
import HandS.TryOnly
import KE.KDictZip
import HandS.EndTab
import HandS.Head0
import HandS.Head1
import HandS.Head2
import HandS.HeadEnd
import HandS.HeadHook1
import HandS.HeadHook2
import HandS.HeadHook3
import HandS.HeadHook4
import PySem.Challenge.RW_downtoground_k26_whole_plain_forms
set_option Elab.async false
set_option linter.all false
set_option maxRecDepth 100000
set_option maxHeartbeats 0
namespace Ad
open PySem PySem.Spec PySem.Calls PyProof.Rows L2
def topS (i : Nat) : Stmt := PySem.Challenge.pw_downtoground_k26_whole_plain_forms.main.body.getD i (.Pass ⟨0, 0, 0, 0⟩)
end Ad

/-! A tuple's tail from behind: t[:0:-1]. -/
namespace Ad
open PySem PySem.Spec PySem.Calls PyProof.Rows L2
section
variable {prog : Program} {w : World} {A : Around} {E : Value → Shared → Prop} {s : Shared}
theorem adj_back {n : Nat} (h : 1 ≤ n) : Builtin.Slice.sliceAdjust none (some 0) (-1) (n : Int) = ((n : Int) - 1, 0) := by
  unfold Builtin.Slice.sliceAdjust
  have h1 : ((-1 : Int) < 0) := by decide
  have h0 : ¬ ((0 : Int) < 0) := by decide
  simp only [h1, h0, if_true, if_false]
  congr 1
  omega
theorem places_back (n : Nat) : Builtin.Slice.slicePlaces ((n : Int) - 1) 0 (-1) = n - 1 := by
  unfold Builtin.Slice.slicePlaces
  have h1 : ¬ ((-1 : Int) > 0) := by decide
  have h2 : (- (-1 : Int)) = 1 := by decide
  simp only [h1, if_false, h2, Int.ediv_one]
  split <;> omega
theorem pick_back (xs : Array Value) : ((List.range (xs.size - 1)).filterMap fun (k : Nat) => xs[(((xs.size : Int) - 1) + (k : Int) * (-1)).toNat]?).toArray = (xs.toList.drop 1).reverse.toArray := by
  congr 1
  obtain ⟨l⟩ := xs
  simp only [List.size_toArray]
  have key : ∀ m, m ≤ l.length - 1 → (List.range m).filterMap (fun (k : Nat) => (l.toArray)[(((l.length : Int) - 1) + (k : Int) * (-1)).toNat]?) = (l.drop (l.length - m)).reverse := by
    intro m
    induction m with
    | zero =>
      intro _
      rw [List.range_zero, List.filterMap_nil, Nat.sub_zero, List.drop_length, List.reverse_nil]
    | succ m ih =>
      intro hm
      rw [List.range_succ, List.filterMap_append, ih (by omega), List.filterMap_cons, List.filterMap_nil]
      have e : (((l.length : Int) - 1) + (m : Int) * (-1)).toNat = l.length - (m + 1) := by omega
      rw [e]
      have hlt : l.length - (m + 1) < l.length := by omega
      rw [List.getElem?_toArray, List.getElem?_eq_getElem hlt]
      have d : l.drop (l.length - (m + 1)) = l[l.length - (m + 1)] :: l.drop (l.length - m) := by
        rw [List.drop_eq_getElem_cons hlt]
        congr 2
        omega
      rw [d, List.reverse_cons]
  have k1 := key (l.length - 1) (Nat.le_refl _)
  rw [k1]
  by_cases h : l.length = 0
  · have : l = [] := List.length_eq_zero_iff.mp h
    subst this
    rfl
  · congr 2
    omega
theorem applied_back {sl : Addr} {vu vs : Value} {n : Nat} {Q : Int × Int × Nat → Shared → Prop} (here : s.heap.IsSliceOf sl .none vu vs) (pu : IsPart vu (some 0)) (ps : IsPart vs (some (-1))) (hn : 1 ≤ n)
    (h : Q ((n : Int) - 1, -1, n - 1) s) : wpAny (model prog w) A (Builtin.Slice.sliceApplied (.ref sl) (pure (n : Int))) Q E s := by
  obtain ⟨ob, at', _, dat⟩ := id here
  unfold Builtin.Slice.sliceApplied Builtin.Slice.sliceFields
  refine wpAny_bind (wpAny_bind ?_)
  refine wpAny_field at' dat (x := .none) rfl (wpAny_bind ?_)
  refine wpAny_field at' dat (x := vu) rfl (wpAny_bind ?_)
  refine wpAny_field at' dat (x := vs) rfl (wpAny_pure ?_)
  refine wpAny_bind (HT.slicePart_ ps ?_)
  show wpAny _ _ (if ((-1 : Int) == 0) = true then _ else _) _ _ s
  rw [if_neg (by decide)]
  refine wpAny_bind (slicePart_none (wpAny_bind ?_))
  refine HT.slicePart_ pu (wpAny_bind (wpAny_pure ?_))
  show wpAny _ _ (match Builtin.Slice.sliceAdjust none (some 0) (-1) (n : Int) with | (lo, hi) => pure (lo, (-1 : Int), Builtin.Slice.slicePlaces lo hi (-1))) _ _ s
  rw [adj_back hn]
  show wpAny _ _ (pure ((n : Int) - 1, (-1 : Int), Builtin.Slice.slicePlaces ((n : Int) - 1) 0 (-1))) _ _ s
  rw [places_back]
  exact wpAny_pure h
theorem item_back {t sl : Addr} {items : Array Value} {vu vs : Value} {Q : Value → Shared → Prop} (ht : IsTup s.heap t items) (here : s.heap.IsSliceOf sl .none vu vs) (pu : IsPart vu (some 0)) (ps : IsPart vs (some (-1))) (hn : 1 ≤ items.size)
    (h : Q (.ref s.heap.objs.size) { s with heap := s.heap.push { cls := .type "tuple", data := .seq (items.toList.drop 1).reverse.toArray } }) (hsz : items.size ≤ sizeLine) :
    wpAny (model prog w) A (getItem (.ref t) (.ref sl)) Q E s := by
  have fits : sizeOk (.seq (items.toList.drop 1).reverse.toArray) := by
    show (items.toList.drop 1).reverse.toArray.size ≤ sizeLine
    rw [List.size_toArray, List.length_reverse, List.length_drop, Array.length_toList]
    omega
  obtain ⟨ob, at', cl, _⟩ := id here
  have isSl : s.TypeIs (.ref sl) "slice" := ⟨ob, at', cl⟩
  unfold getItem
  try (with_reducible refine wpAny_holding ?_)
  first
    | refine wpAny_bind (wpAny_pure ?_)
    | skip
  refine wpAny_bind (wpAny_sequenceKey ht.typeIs (by decide) ?_)
  refine wpAny_bind (wpAny_callSpecial?_slot (name := Str.ofString "__getitem__") ht.typeIs slot_tuple_getitem ?_)
  refine wpAny_call_entry slot_tuple_getitem ht.typeIs entry_tuple_getitem ?_ (args_tuple_getitem _ _)
  show wpAny _ _ (Builtin.Tuple.tupleItemsOf (.ref t) >>= _) _ _ s
  refine wpAny_bind (tupleItemsOf_ ht (wpAny_bind (wpAny_typeOf isSl ?_)))
  rw [if_pos (by decide)]
  refine wpAny_bind (applied_back here pu ps hn ?_)
  have not1 : ¬ ((((items.size : Int) - 1) == 0 && (-1 : Int) == 1 && (items.size - 1) == items.size) = true) := by
    intro q
    rw [Bool.and_eq_true, Bool.and_eq_true] at q
    exact absurd q.1.2 (by decide)
  show wpAny _ _ (if (((items.size : Int) - 1) == 0 && (-1 : Int) == 1 && (items.size - 1) == items.size) = true then _ else _) _ _ s
  rw [if_neg not1]
  rw [pick_back]
  first
    | exact wpAny_bind (wpAny_bind (m := Builtin.Tuple.tupleExact _) (wpAny_newObj_type (wpAny_pure ⟨_, rfl, wpAny_pure h⟩) fits))
    | exact wpAny_bind (wpAny_bind (m := Builtin.Tuple.tupleExact _) (wpAny_newObj_type (wpAny_pure (wpAny_pure ⟨_, rfl, wpAny_pure h⟩)) fits))
    | exact wpAny_bind (m := Builtin.Tuple.tupleExact _) (wpAny_newObj_type (wpAny_bind (wpAny_pure (wpAny_pure ⟨_, rfl, wpAny_pure h⟩))) fits)
    | exact wpAny_bind (m := Builtin.Tuple.tupleExact _) (wpAny_newObj_type (wpAny_pure ⟨_, rfl, wpAny_pure h⟩) fits)
end
section
variable {X : Cx}
/-- t[:0:-1], t a tuple that is not empty -/
def tBack (K : PySem.W.Frag) (te : TE) : TE := fun σ H Q => te σ H fun x G => ∃ a xs, x = .ref a ∧ SqT K G a xs ∧ 1 ≤ xs.length ∧ ∀ p, G p = none → Q (.ref p) (upd G p (.tup (xs.drop 1).reverse))
theorem pe_back {e : Expr} {te : TE} {k k0 : Nat} {p0 p1 p2 p3 pos : Pos} (he : PE X e te) :
    PE X (.Subscript e (.Slice none (some (.Constant (.int 0) k0 p0)) (some (.UnaryOp .USub (.Constant (.int 1) k p1) p2)) p3) pos) (tBack X.K te) := by
  constructor
  intro pins s0 σ H Q J ask
  refine Subscript_ (thn (he.run pins s0 σ H _ J ask) fun v s1 back => ?_)
  obtain ⟨x, G, J1, rx, a, xs, rfl, hx, hne, q⟩ := back
  cases rx
  have up : PO X (some (.Constant (.int 0) k0 p0)) (tPart (tC (.int 0))) := po_some pe_int
  have st : PO X (some (.UnaryOp .USub (.Constant (.int 1) k p1) p2)) (tPart (tUn (rU fun i => .int (-i)) (tC (.int 1)))) := po_some (pe_un un_neg pe_int)
  refine wpAny_Slice (thn (po_none.run pins s1 σ G (fun o G2 => o = none ∧ G2 = G) J1 ⟨rfl, rfl⟩) fun vl s2 r2 => ?_)
  obtain ⟨l, G2, J2, pl, rfl, rfl⟩ := r2
  refine thn (up.run pins s2 σ G2 (fun o G3 => o = some 0 ∧ G3 = G2) J2 ⟨0, rfl, rfl, rfl⟩) fun vu s3 r3 => ?_
  obtain ⟨u, G3, J3, pu, rfl, rfl⟩ := r3
  refine thn (st.run pins s3 σ G3 (fun o G4 => o = some (-1) ∧ G4 = G3) J3 ⟨1, rfl, -1, rfl, rfl, rfl⟩) fun vs s4 r4 => ?_
  obtain ⟨o, G4, J4, ps, rfl, rfl⟩ := r4
  cases pl
  have J5 : Inv X pins σ G4 { s4 with heap := s4.heap.push { cls := .type "slice", data := .fields #[.none, vu, vs] } } := J4.kept (t' := s4.toks) fun b ob z => Heap.get?_push_of_some _ z
  obtain ⟨its, r, ht, hz⟩ := J5.tuple hx
  have len := r.length
  show wpAny (model X.prog X.w) X.A (subscriptTail e (.Slice none (some (.Constant (.int 0) k0 p0)) (some (.UnaryOp .USub (.Constant (.int 1) k p1) p2)) p3) (.ref a) (.ref s4.heap.objs.size)) (EP X pins σ Q) X.xe _
  refine tail_any (ops := [.ref a, .ref s4.heap.objs.size]) ht.typeIs slot_tuple_getitem.lookup ?_ (by with_unfolding_all rfl)
  refine item_back ht (Heap.IsSliceOf.new _ .none vu vs) pu ps (by rw [List.size_toArray]; omega) ?_ (by rw [List.size_toArray]; omega)
  refine ⟨.ref _, _, J5.laid (t' := s4.toks) (o := .tup (xs.drop 1).reverse) (fun b ob z => Heap.get?_push_of_some _ z) (Nat.le_refl _) ?_, rfl, q _ (J5.hok.fresh (Nat.le_refl _))⟩
  refine ⟨by rw [List.length_reverse, List.length_drop]; omega, _, (r.drop 1).reverse, IsTup.new _ _⟩
end
end Ad

/-! Defs that are called where no repr is under way; repr of data; the end of a law of such a def. -/
namespace Ad
open PySem PySem.Spec PySem.Calls PyProof.Rows L2
theorem deeper_guards {A : Around} {env : Env} (h : A.guards = some []) : (A.deeper env).guards = some [] := by
  first
    | exact h
    | (show (A.deeper env).guards = _; simp [Around.deeper, h])
    | (obtain ⟨a, b, c, d, e⟩ := A; cases h; rfl)
/-- a def's promise, kept wherever no repr is under way -/
structure FnG (P : Program) (w : World) (K : PySem.W.Frag) (mg : Str → Option Value) (base : Heap) (CX : CXT) (k : Nat) (f : Addr) (fd : FuncData) (ps : List Str) (sp : Sp) : Prop where
  len : ∀ vs H Q E, sp vs H Q E → vs.length = ps.length
  run : ∀ (A : Around) (outer : List Env) (s : Shared) (H : Hp) (args : Args) (us : List Value) (vs : List V) (Q : VK) (E : XK), A.guards = some [] → Room k A → Env0 P w K mg base A outer s H → BindsTo s fd args (ps.zip us) → Vals vs us → sp vs H Q E →
    codeAny (model P w) A (.call (.ref f) args) (CR CX outer P w H s Q E) s
/-- a def of the text, its code object told -/
structure FunC (K : PySem.W.Frag) (x qual : Str) (st : Stmt) (f : Addr) (cdv : Value) (fd : FuncData) : Prop where
  ex : ∃ (oc : Value) (od : Option Addr) (kV doc pm : Value) (an : Option Addr) (ct : Value) (osl : Array (Option Value)),
    fd = PySem.W.fnOf x qual (defArgs st) (defBody st) (defScope st) .none kV doc pm an cdv ct ∧ K.lookup f = some ⟨oc, od, .func fd, osl⟩ ∧ PySem.W.codeIn K cdv qual = true
  kp : PySem.W.keepIn K (.ref f) = true
theorem FunC.fun {K : PySem.W.Frag} {x qual : Str} {st : Stmt} {f : Addr} {cdv : Value} {fd : FuncData} (F : FunC K x qual st f cdv fd) : Fun K x qual st f fd := by
  obtain ⟨⟨oc, od, kV, doc, pm, an, ct, osl, h⟩, k⟩ := F
  exact ⟨⟨oc, od, kV, doc, pm, an, cdv, ct, osl, h⟩, k⟩
theorem fng_ofC {CX : CXT} {P : Program} {w : World} {K : PySem.W.Frag} {mg : Str → Option Value} {base : Heap} {k : Nat} {x qual : Str} {st : Stmt} {f : Addr} {cdv : Value} {fd : FuncData} {N ps : List Str} {sp : Sp} (F : FunC K x qual st f cdv fd) (S : FnScope N ps (defScope st))
    (len : ∀ vs H Q E, sp vs H Q E → vs.length = ps.length)
    (body : ∀ (A : Around) (outer : List Env) (s : Shared) (H : Hp) (vs : List V) (Q : VK) (E : XK), A.guards = some [] → Room k (A.deeper (envOfC qual (defScope st) s.heap.objs.size f cdv)) → sp vs H Q E →
      ∃ t, PSs (cxOf CX P w K mg base N qual (defScope st) f cdv A outer s H E) (defBody st) t ∧ t { nx := fun _ H' => Q .non H', rt := Q } (start N vs) H) : FnG P w K mg base CX (k + 1) f fd ps sp := by
  obtain ⟨oc, od, kV, doc, pm, an, ct, osl, rfl, look, code⟩ := F.ex
  constructor
  · exact len
  · intro A outer s H args us vs Q E gd room e0 binds rel asked
    have many := len _ _ _ _ asked
    have kin : K.In s.heap := e0.mod.kin.keeps fun b o e => (e0.bs b o e).1
    have lim : s.heap.NoLimit := e0.mod.nolimit.keeps fun b o e => (e0.bs b o e).1
    have kinds : ∀ y ∈ ps.zip us, (defScope st).names.lookup y.1 = some .local ∨ ((defScope st).names.lookup y.1 = some .cell ∧ ((cellsFrom (s.heap.objs.size + 1) (defScope st).names []).lookup y.1).isSome = true) := by
      rintro ⟨n, v⟩ hy
      rcases S.par n (List.of_mem_zip hy).1 with q | q
      · exact .inl q
      · exact .inr ⟨q, PySem.W.cellsFrom_some _ _ _ (.inl q)⟩
    refine codeAny_call_function room.depth (kin _ _ look) rfl S.co S.gen rfl (PySem.W.codeRec_of kin code) (binds _ _ _ _ ?_)
    refine wpAny_newFunctionEnv_cells S.kind kinds fun env he s1 ready => ?_
    subst he
    refine ⟨lim.keeps ready.toInCall.keep, codeAny_func ?_⟩
    obtain ⟨t, ht, hq⟩ := body A outer s H vs Q E gd (room.deeper _) asked
    have J : Inv (cxOf CX P w K mg base N qual (defScope st) f cdv A outer s H E) [] (start N vs) H s1 := inv_start S room.hd e0 many rel ready
    refine wpAny_mono (ht.run [] s1 (start N vs) H _ J hq) (fun fl s' hs => ?_) fun e s' hs => hs
    have fin : ∀ {σ' : L2.St} {H' : Hp} {v : V} {u : Value}, Inv (cxOf CX P w K mg base N qual (defScope st) f cdv A outer s H E) [] σ' H' s' → RelV v u → Q v H' → CE outer P w H s Q u s' := by
      intro σ' H' v u J' rv q
      exact ⟨v, H', J'.os, J'.bare, J'.base, J'.hok, rv, q⟩
    match fl, hs with
    | .ret u, ⟨v, σ', H', J', rv, q⟩ => exact fin J' rv q
    | .next, ⟨σ', H', J', q⟩ => exact fin (v := V.non) (u := Value.none) J' rfl q
    | .brk, ⟨_, _, _, q⟩ => exact False.elim q
    | .cont, ⟨_, _, _, q⟩ => exact False.elim q
theorem fng_of {CX : CXT} {P : Program} {w : World} {K : PySem.W.Frag} {mg : Str → Option Value} {base : Heap} {k : Nat} {x qual : Str} {st : Stmt} {f : Addr} {fd : FuncData} {N ps : List Str} {sp : Sp} (F : Fun K x qual st f fd) (S : FnScope N ps (defScope st))
    (len : ∀ vs H Q E, sp vs H Q E → vs.length = ps.length)
    (body : ∀ (cdv : Value) (A : Around) (outer : List Env) (s : Shared) (H : Hp) (vs : List V) (Q : VK) (E : XK), A.guards = some [] → Room k (A.deeper (envOfC qual (defScope st) s.heap.objs.size f cdv)) → sp vs H Q E →
      ∃ t, PSs (cxOf CX P w K mg base N qual (defScope st) f cdv A outer s H E) (defBody st) t ∧ t { nx := fun _ H' => Q .non H', rt := Q } (start N vs) H) : FnG P w K mg base CX (k + 1) f fd ps sp := by
  obtain ⟨⟨oc, od, kV, doc, pm, an, cdv, ct, osl, h⟩, kp⟩ := F
  exact fng_ofC (F := ⟨⟨oc, od, kV, doc, pm, an, ct, osl, h⟩, kp⟩) S len (body cdv)
/-- a def that keeps its promise everywhere -/
theorem FnG.of {CX : CXT} {P : Program} {w : World} {K : PySem.W.Frag} {mg : Str → Option Value} {base : Heap} {k : Nat} {f : Addr} {fd : FuncData} {ps : List Str} {sp : Sp} (F : FnOk P w K mg base CX k f fd ps sp) : FnG P w K mg base CX k f fd ps sp :=
  ⟨F.len, fun A outer s H args us vs Q E _ => F.run A outer s H args us vs Q E⟩
section
variable {X : Cx} {CX : CXT} {k : Nat} {f : Addr} {fd : FuncData} {ps : List Str} {sp : Sp} {E : XK} {x : Str} {p pos : Pos} {e : Expr} {es : List Expr} {t : TA}
/-- f(e, ..) of such a def, where no repr is under way -/
theorem pe_callG (F : FnG X.prog X.w X.K X.mg X.base CX k f fd ps sp) (gd : X.A.guards = some []) (hr : Room k X.A) (hg : Gl X x) (hm : X.mg x = some (.ref f)) (hk : PySem.W.keepIn X.K (.ref f) = true) (hb : Binds X.K fd ps []) (hx : Passes CX X E)
    (pa : PA X (e :: es) t) (hdb : (x == ("__debug__" : Str)) = false := by decide) (hst : starEach (e :: es) X.env = (false, eval e X.env) :: starEach es X.env := by rfl) (hpl : (backTo pos (starEach es X.env)).any (·.1) = false := by rfl) :
    PE X (.Call (.Name x p) (e :: es) [] pos) (tCall sp [] E t) := by
  constructor
  intro pins s σ H Q J ask
  refine wpAny_Call_Name_kw (ld_glob J hg hm ?_ hdb)
  refine PySem.W.callWith_K (h₀ := X.base) J.ok.mod.kin hk (thn (pa.run pos pins s σ H _ (J.tok _) ask) fun us s1 back => ?_) hst hpl
  obtain ⟨vs, G, J1, rel, q⟩ := back
  refine ⟨J1.kIn, ?_⟩
  have q' : sp vs G Q E := by
    have z : sp (vs ++ []) G Q E := q
    rw [List.append_nil] at z
    exact z
  have many : us.length = ps.length := by
    rw [← rel.length]
    exact F.len _ _ _ _ q'
  have b := hb s1 us J1.kIn (by rw [List.append_nil]; exact many)
  rw [List.append_nil] at b
  refine wpAny_call (codeAny_mono (F.run X.A X.stack s1 G ⟨us, []⟩ us vs Q E gd hr J1.env0 b rel q') fun r s' back => ?_)
  match r, back with
  | .error er, back => exact hx pins σ G s1 er s' J1 back
  | .ok (.ret u), back => exact J1.after back
  | .ok .next, back => exact False.elim back
  | .ok .brk, back => exact False.elim back
  | .ok .cont, back => exact False.elim back
/-- repr(x) of data, where no repr is under way -/
theorem call_reprD (gd : X.A.guards = some []) (hu : X.A.units + 64 < cLine) : CallR X (.builtin "repr") (fun xs H Q => ∃ (v : V) (d : PyData), xs = [v] ∧ Dp X.K H v d ∧ d.showable = true ∧ d.hasDict = false ∧ d.depth ≤ 60 ∧ d.shown.length ≤ sizeLine ∧ Q (.str d.shown) H) := by
  intro pins s σ H xs us Q J rel ask
  obtain ⟨v, d, rfl, hd, show', plain, deep, fits, q⟩ := ask
  match us, rel with
  | [u], .cons r .nil =>
    obtain ⟨as, reads⟩ := Dp.reads J d v u hd r
    cases reads with
    | none => exact P.repr_of_none ⟨.str _, H, J.tok _, ⟨_, rfl⟩, q⟩
    | bool b =>
      refine P.repr_of_bool ⟨.str _, H, J.tok _, ⟨_, rfl⟩, ?_⟩
      cases b <;> exact q
    | int i tk => exact P.repr_of_int (of_decide_eq_true show') ⟨.str _, H, J.tok _, ⟨_, rfl⟩, q⟩
    | str z tk => exact P.repr_of_str ⟨.str _, H, J.tok _, ⟨_, rfl⟩, q⟩ fits
    | list h1 h2 h3 h4 => exact repr_of_reads' (Reads.list h1 h2 h3 h4) show' (PyData.noDict_hsm plain) gd (by omega) (fun _ _ z => z) (fun h' u tk kp => ⟨.str _, H, J.kept (t' := tk) kp, ⟨_, rfl⟩, q⟩) fits
    | tuple h1 h2 h3 h4 => exact repr_of_reads' (Reads.tuple h1 h2 h3 h4) show' (PyData.noDict_hsm plain) gd (by omega) (fun _ _ z => z) (fun h' u tk kp => ⟨.str _, H, J.kept (t' := tk) kp, ⟨_, rfl⟩, q⟩) fits
    | dict h1 h2 h3 h4 h5 => cases plain
end
/-- the call of a law by such a def, from the state behind the top -/
theorem lawG {P : Program} {w : World} {K : PySem.W.Frag} {mg mb : Str → Option Value} {CX : CXT} {k : Nat} {fa a : Addr} {fd : FuncData} {x : Str} {sp : Sp} {s : Shared} {vs : List Value} {ns : List Int}
    (kin : K.In s.heap) (gl : s.heap.Ns mainGlobals mg) (bl : s.heap.Ns builtinsNs mb) (same : ∀ x : Str, x ≠ "__name__" → mb x = bootBuiltins x) (lim : s.heap.NoLimit) (gens : s.gens = #[])
    (at' : s.heap.get? a = some { cls := .type "list", data := .seq vs.toArray }) (nums : IntsAre vs ns) (few : ns.length ≤ sizeLine) (room : Room k callerA)
    (F : ∀ base : Heap, K.In base → base.Ns mainGlobals mg → FnG P w K mg base CX k fa fd [x] sp) (bind : ∀ (s : Shared) (u : Value), BindsTo s fd ⟨[u], []⟩ [(x, u)])
    (asked : ∀ H : Hp, Only H → SqL K H a (ns.map V.int) → sp [.ref a] H (fun v _ => v = .bl true) fun _ _ _ => False) (noExc : ∀ H e s', CX [] H s (fun _ _ _ => False) e s' → False) :
    codeAny (model P w) callerA (.call (.ref fa) ⟨[.ref a], []⟩) (fun r s' => r = .ok (.ret (.bool true)) ∧ OldK s.heap s'.heap ∧ s'.os = s.os ∧ AllBare s'.gens) s := by
  have rel := vals_ints nums
  have many := nums.length
  have from' : ∀ H : Hp, Only H → SqL K H a (ns.map V.int) → HOk P w H s.heap → (∀ b, H b ≠ none → b = a) → (H a ≠ none → K.lookup a = none) →
      codeAny (model P w) callerA (.call (.ref fa) ⟨[.ref a], []⟩) (fun r s' => r = .ok (.ret (.bool true)) ∧ OldK s.heap s'.heap ∧ s'.os = s.os ∧ AllBare s'.gens) s := by
    intro H only seq ok onlyA notK
    have hid : ∀ {b : Addr} {o : Obj}, s.heap.get? b = some o → H b = none → (hidT s.heap H).get? b = some o := by
      intro b o e n
      exact hidT_get e n
    have dict0 : ∀ {b : Addr} {o : Obj} {es : Array DictEntry} {ep : Nat}, s.heap.get? b = some o → o.data = .dict es ep → H b = none := by
      intro b o es ep e d
      cases q : H b with
      | none => rfl
      | some u =>
        obtain rfl : b = a := onlyA b (by rw [q]; exact Option.some_ne_none u)
        rw [at'] at e
        cases e
        exact nomatch (show Data.seq vs.toArray _ = Data.dict es ep from d)
    have ns' : ∀ {b : Addr} {m : Str → Option Value}, s.heap.Ns b m → (hidT s.heap H).Ns b m := by
      rintro b m ⟨o, es, ep, e, d, r⟩
      exact ⟨o, es, ep, hid e (dict0 e d), d, r⟩
    have kin' : K.In (hidT s.heap H) := by
      intro b o e
      refine hid (kin b o e) ?_
      cases q : H b with
      | none => rfl
      | some u =>
        obtain rfl : b = a := onlyA b (by rw [q]; exact Option.some_ne_none u)
        rw [notK (by rw [q]; exact Option.some_ne_none u)] at e
        cases e
    have mod : Mod K mg (hidT s.heap H) := by
      refine ⟨kin', ns' gl, ⟨mb, ns' bl, same⟩, ?_⟩
      obtain ⟨mc, h1, h2⟩ := lim
      exact ⟨mc, ns' h1, h2⟩
    have none' : ∀ {q : Prop} (b : Addr), b ∈ ([] : List Addr) → q := fun {q} b hb => absurd hb (by simp)
    have env : Env0 P w K mg (hidT s.heap H) callerA [] s H := ⟨rfl, mod, fun b o e => of_hidT e, Nat.le_of_eq (hidT_size _ _), trivial, fun b hb => none' b hb, ok, .of_eq gens⟩
    have run := (F _ kin' (ns' gl)).run callerA [] s H ⟨[.ref a], []⟩ [.ref a] [.ref a] _ _ rfl room env (bind s (.ref a)) (.cons rfl .nil) (asked H only seq)
    refine codeAny_mono run fun r s' back => ?_
    match r, back with
    | .error e, back => exact (noExc H e s' back).elim
    | .ok .next, back => exact False.elim back
    | .ok .brk, back => exact False.elim back
    | .ok .cont, back => exact False.elim back
    | .ok (.ret u), ⟨v, H', os, bare, un, ok', rv, (q : v = .bl true)⟩ =>
      subst q
      obtain rfl : u = Value.bool true := rv
      refine ⟨rfl, OldK.of_keep fun b o e => ?_, os, bare⟩
      cases q : H b with
      | none => exact un.keep b o e q (fun z => none' b z) (by simp)
      | some u =>
        rcases only b with z | ⟨ob, xs, z⟩
        · rw [q] at z
          cases z
        · obtain ⟨e1, _⟩ := ok b _ z
          obtain ⟨e2, _⟩ := ok' b _ (un.frzs b ob _ z)
          rw [e] at e1
          cases e1
          exact e2
  cases look : K.lookup a with
  | some o =>
    have e := kin a o look
    rw [at'] at e
    cases e
    refine from' (fun _ => none) (fun _ => .inl rfl) (.inr ⟨_, vs.toArray, _, look, rfl, rfl, rfl, ?_, by simpa using rel⟩) ?_ (fun b z => absurd rfl z) fun z => absurd rfl z
    · rw [List.size_toArray, many]
      exact few
    · intro b u z
      exact nomatch (show (none : Option HO) = some u from z)
  | none =>
    refine from' (fun b => if b = a then some (.frz { cls := .type "list", data := .seq vs.toArray } (.lst (ns.map V.int))) else none) (fun b => ?_) (.inl (.inr ⟨{ cls := .type "list", data := .seq vs.toArray }, if_pos rfl⟩)) (fun b u z => ?_) (fun b z => ?_) fun _ => look
    all_goals by_cases hb : b = a
    · exact .inr ⟨_, _, if_pos hb⟩
    · exact .inl (if_neg hb)
    · cases (if_pos hb).symm.trans z
      subst hb
      refine ⟨at', ?_, vs, _, rel, at'⟩
      rw [List.length_map]
      exact few
    · cases (if_neg hb).symm.trans z
    · exact hb
    · exact absurd (if_neg hb) z
/-- the head's goal from such a law's promise -/
theorem walkG {l : PySem.W.OpenLaw} {n k : Nat} {q : Program} {loose : List Str} {XP : (Str → Option Value) → Heap → Prop} {YP : World → Heap → Prop} {d : DefRec} {K : Params → PySem.W.Frag} {CX : World → CXT} {sp : World → Sp} {x : Str}
    (hn : l.most = some n) (hn2 : n ≤ sizeLine) (hdf : d.params.defaults = []) (room : Room k callerA) (hY : ∀ (w : World) (h : Heap), YP w h → (K w.params).In h)
    (F : ∀ (w : World) (mg : Str → Option Value) (fa : Addr) (h : Heap), (K w.params).In h → h.Ns mainGlobals mg → mg d.name = some (.ref fa) →
      ∃ fd : FuncData, (∀ (s : Shared) (u : Value), BindsTo s fd ⟨[u], []⟩ [(x, u)]) ∧ ∀ base : Heap, (K w.params).In base → base.Ns mainGlobals mg → FnG l.prog w (K w.params) mg base (CX w) k fa fd [x] (sp w))
    (asked : ∀ (w : World) (H : Hp) (a : Addr) (ns : List Int), ns.length ≤ n → Only H → SqL (K w.params) H a (ns.map V.int) → sp w [.ref a] H (fun v _ => v = .bl true) fun _ _ _ => False)
    (noExc : ∀ (w : World) (H : Hp) (s : Shared) (e : Value) (s' : Shared), CX w [] H s (fun _ _ _ => False) e s' → False) :
    PySem.W.WalkO q loose XP YP l.row.toRowW d [] (fun f vs => PySem.call f vs) := by
  refine Att.attach_call hn hdf ?_
  intro w s0 s1 mg mb fa o pm cd doc a vs ns G Y ho hd hcd hmg hobj nums short gens
  have kin := hY w _ Y
  obtain ⟨fd, binds, prom⟩ := F w mg fa _ kin G.T.g hmg
  exact lawG kin G.T.g G.T.b G.T.builtins G.T.nolimit gens hobj nums (Nat.le_trans short hn2) room prom binds (fun H only seq => asked w H a ns short only seq) fun H e s' => noExc w H s1 e s'
end Ad

/-! xs.extend(t) of a tuple. -/
namespace Ad
open PySem PySem.Spec PySem.Calls PyProof.Rows L2
section
variable {X : Cx}
/-- xs.extend(t), t a tuple that may carry more than its items -/
theorem ext_tuple (l : Addr) (items : Array Value) (n : Nat) (b : Addr) (zs : Array Value) (m : Nat) (dd : Option Addr) (sl : Array (Option Value)) (notLong : ¬(!items.isEmpty && Builtin.List.listTooLong (items.size + zs.size)) = true) (short : items.size ≤ sizeLine) (both : items.size + zs.size ≤ sizeLine + 1) :
    Meets (Builtin.«list.extend» ⟨[.ref l, .ref b], []⟩) (fun _ R s => s.heap.get? l = some { cls := .type "list", dict := none, data := .seq items n, slots := #[] } ∧ s.heap.get? b = some { cls := .type "tuple", dict := dd, data := .seq zs m, slots := sl } ∧
      R (.ok (.ret Value.none)) { s with heap := s.heap.update l (Obj.mapSeq fun x => x ++ zs), toks := s.toks }) :=
  .of_wp fun prog w A R s h => by
    obtain ⟨hp, g, d, tk, os⟩ := s
    obtain ⟨hl, hb, h⟩ := h
    have f1 := AutoSeq1.idx_int
    have f2 := AutoSeq1.sub_tuple_tuple
    have f3 := AutoSeq1.sub_list_list
    have f4 := AutoSeq1.sub_tuple_list
    have f5 := AutoSeq1.sub_list_tuple
    have size2 : (items ++ zs).size ≤ sizeLine + 1 := by rw [Array.size_append]; exact both
    wp_walk using (wpAny_updateSeq hl rfl (hz := short) (_hz' := size2)), AutoSeq1.wpAny_loadPart' hl, AutoSeq1.wpAny_loadPart' hb
    exact ⟨_, rfl, h⟩
/-- xs.extend(t), t a tuple -/
def rExtT (K : PySem.W.Frag) : V → List V → Hp → VK → Prop := fun x vs H Q => ∃ l b xs zs, x = .ref l ∧ vs = [.ref b] ∧ H l = some (.lst xs) ∧ SqT K H b zs ∧ xs.length + zs.length ≤ sizeLine ∧ Q .non (upd H l (.lst (xs ++ zs)))
theorem mt_extT : MtM X "list.extend" (rExtT X.K) := by
  intro pins s σ H x vs v us Q I rx rv h
  obtain ⟨l, b, xs, zs, rfl, rfl, hH, hB, hz, q⟩ := h
  cases rx
  obtain ⟨u, rfl, ru⟩ := rv.one
  cases ru
  obtain ⟨z, its, n, r, hl, e⟩ := I.lstM hH
  obtain ⟨its2, r2, ⟨⟨cls, dd, data, sl⟩, ho, hcl, n2, hd⟩, _⟩ := I.tuple hB
  simp only at hcl hd
  subst hcl hd
  have hl2 := r2.length
  have short : its.toArray.size + its2.toArray.size ≤ sizeLine := by rw [List.size_toArray, List.size_toArray]; omega
  have notLong : ¬ (!its.toArray.isEmpty && Builtin.List.listTooLong (its.toArray.size + its2.toArray.size)) = true := by
    rw [notLongL short, Bool.and_false]
    exact Bool.false_ne_true
  refine call_meets F.slot_list_extend ⟨_, e, rfl⟩ F.entry_list_extend (F.args_list_extend_2 _ _) (ext_tuple l its.toArray n b its2.toArray n2 dd sl notLong (by rw [List.size_toArray]; omega) (by omega)) ⟨e, ho, ?_⟩
  refine ⟨.non, _, I.lset (its' := its ++ its2) hH e (by simp) (r.append r2) ?_, rfl, q⟩
  rw [List.length_append]
  omega
end
end Ad

/-! Terms: a variable's number, or a name with arguments; where they stand. -/
namespace Ad
open PySem PySem.Spec PySem.Calls PyProof.Rows L2
/-- a name whose text is short -/
def nameOk (x : Str) : Bool := PyData.strOk x && decide ((PyData.shown (.str x)).length ≤ 10)
theorem nameOk_lay {x : Str} (h : nameOk x = true) : PyData.strOk x = true := (Bool.and_eq_true_iff.mp h).1
theorem nameOk_short {x : Str} (h : nameOk x = true) : (PyData.shown (.str x)).length ≤ 10 := of_decide_eq_true (Bool.and_eq_true_iff.mp h).2
inductive T where
  | v (i : Int)
  | f (x : Str) (ts : List T)
namespace T
mutual
def d : T → PyData
  | .v i => .int i
  | .f x ts => .tuple (.str x :: ds ts)
def ds : List T → List PyData
  | [] => []
  | t :: ts => d t :: ds ts
end
mutual
/-- all that stands in a term -/
def parts : T → List T
  | .v i => [.v i]
  | .f x ts => .f x ts :: partsL ts
def partsL : List T → List T
  | [] => []
  | t :: ts => parts t ++ partsL ts
end
mutual
def size : T → Nat
  | .v _ => 1
  | .f _ ts => 1 + sizeL ts
def sizeL : List T → Nat
  | [] => 0
  | t :: ts => size t + sizeL ts
end
mutual
def dep : T → Nat
  | .v _ => 0
  | .f _ ts => 1 + depL ts
def depL : List T → Nat
  | [] => 0
  | t :: ts => max (dep t) (depL ts)
end
mutual
/-- the variables, as often as they stand there -/
def vars : T → List Int
  | .v i => [i]
  | .f _ ts => varsL ts
def varsL : List T → List Int
  | [] => []
  | t :: ts => vars t ++ varsL ts
end
mutual
/-- all names can be laid -/
def named : T → Bool
  | .v _ => true
  | .f x ts => nameOk x && namedL ts
def namedL : List T → Bool
  | [] => true
  | t :: ts => named t && namedL ts
end
mutual
theorem parts_len : ∀ t : T, t.parts.length = t.size
  | .v _ => rfl
  | .f x ts => by
    show (partsL ts).length + 1 = 1 + sizeL ts
    rw [partsL_len ts]
    omega
theorem partsL_len : ∀ ts : List T, (partsL ts).length = sizeL ts
  | [] => rfl
  | t :: ts => by
    show (parts t ++ partsL ts).length = size t + sizeL ts
    rw [List.length_append, parts_len t, partsL_len ts]
end
theorem size_pos : ∀ t : T, 1 ≤ t.size
  | .v _ => Nat.le_refl _
  | .f _ _ => Nat.le_add_right _ _
mutual
theorem dep_size : ∀ t : T, t.dep ≤ t.size
  | .v _ => Nat.zero_le _
  | .f x ts => by
    show 1 + depL ts ≤ 1 + sizeL ts
    have h := depL_size ts
    omega
theorem depL_size : ∀ ts : List T, depL ts ≤ sizeL ts
  | [] => Nat.le_refl _
  | t :: ts => by
    show max (dep t) (depL ts) ≤ size t + sizeL ts
    have h1 := dep_size t
    have h2 := depL_size ts
    omega
end
mutual
theorem d_depth : ∀ t : T, t.d.depth = t.dep
  | .v _ => rfl
  | .f x ts => by
    show max 0 (PyData.depthAll (ds ts)) + 1 = 1 + depL ts
    rw [ds_depth ts]
    omega
theorem ds_depth : ∀ ts : List T, PyData.depthAll (ds ts) = depL ts
  | [] => rfl
  | t :: ts => by
    show max (PyData.depth (d t)) (PyData.depthAll (ds ts)) = max (dep t) (depL ts)
    rw [d_depth t, ds_depth ts]
end
mutual
theorem d_lay : ∀ t : T, t.named = true → t.d.canLay0 = true
  | .v _, _ => rfl
  | .f x ts, h => by
    have h' : (nameOk x && namedL ts) = true := h
    rw [Bool.and_eq_true] at h'
    show (PyData.strOk x && PyData.canLayAll0 (ds ts)) = true
    rw [nameOk_lay h'.1, ds_lay ts h'.2]
    rfl
theorem ds_lay : ∀ ts : List T, namedL ts = true → PyData.canLayAll0 (ds ts) = true
  | [], _ => rfl
  | t :: ts, h => by
    have h' : (named t && namedL ts) = true := h
    rw [Bool.and_eq_true] at h'
    show (PyData.canLay0 (d t) && PyData.canLayAll0 (ds ts)) = true
    rw [d_lay t h'.1, ds_lay ts h'.2]
    rfl
end
theorem shaped {t : T} (h : t.named = true) (small : t.dep ≤ 64) : SeqAt.shaped t.d = true := by
  unfold SeqAt.shaped
  rw [d_lay t h, d_depth t]
  exact decide_eq_true small
theorem ds_map : ∀ ts : List T, ds ts = ts.map d
  | [] => rfl
  | t :: ts => by
    show d t :: ds ts = _
    rw [ds_map ts]
    rfl
theorem partsL_append : ∀ (as bs : List T), partsL (as ++ bs) = partsL as ++ partsL bs
  | [], _ => rfl
  | t :: ts, bs => by
    show parts t ++ partsL (ts ++ bs) = parts t ++ partsL ts ++ partsL bs
    rw [partsL_append ts bs, List.append_assoc]
theorem sizeL_append : ∀ (as bs : List T), sizeL (as ++ bs) = sizeL as + sizeL bs
  | [], _ => (Nat.zero_add _).symm
  | t :: ts, bs => by
    show size t + sizeL (ts ++ bs) = size t + sizeL ts + sizeL bs
    rw [sizeL_append ts bs, Nat.add_assoc]
theorem sizeL_reverse : ∀ ts : List T, sizeL ts.reverse = sizeL ts
  | [] => rfl
  | t :: ts => by
    rw [List.reverse_cons, sizeL_append, sizeL_reverse ts]
    show sizeL ts + (size t + 0) = size t + sizeL ts
    omega
theorem size_mem {t : T} {ts : List T} (h : t ∈ ts) : t.size ≤ sizeL ts := by
  induction ts with
  | nil => cases h
  | cons u us ih =>
    show t.size ≤ size u + sizeL us
    rcases List.mem_cons.mp h with e | e
    · rw [e]; omega
    · have := ih e; omega
theorem len_sizeL : ∀ ts : List T, ts.length ≤ sizeL ts
  | [] => Nat.le_refl _
  | t :: ts => by
    show ts.length + 1 ≤ size t + sizeL ts
    have h1 := size_pos t
    have h2 := len_sizeL ts
    omega
theorem dep_mem {t : T} {ts : List T} (h : t ∈ ts) : t.dep ≤ depL ts := by
  induction ts with
  | nil => cases h
  | cons u us ih =>
    show t.dep ≤ max (dep u) (depL us)
    rcases List.mem_cons.mp h with e | e
    · rw [e]; omega
    · have := ih e; omega
theorem named_mem {t : T} {ts : List T} (h : t ∈ ts) (n : namedL ts = true) : t.named = true := by
  induction ts with
  | nil => cases h
  | cons u us ih =>
    have n' : (named u && namedL us) = true := n
    rw [Bool.and_eq_true] at n'
    rcases List.mem_cons.mp h with e | e
    · rw [e]; exact n'.1
    · exact ih e n'.2
end T
/-- tuples stay -/
def TK (H H' : Hp) : Prop := ∀ b xs, (H b = some (.tup xs) → H' b = some (.tup xs)) ∧ (∀ o, H b = some (.frz o (.tup xs)) → H' b = some (.frz o (.tup xs)))
theorem TK.refl (H : Hp) : TK H H := fun _ _ => ⟨id, fun _ => id⟩
theorem TK.trans {H H1 H2 : Hp} (a : TK H H1) (b : TK H1 H2) : TK H H2 := fun c xs => ⟨fun e => (b c xs).1 ((a c xs).1 e), fun o e => (b c xs).2 o ((a c xs).2 o e)⟩
theorem TK.same {H H' : Hp} (s : Same H H') : TK H H' := fun b _ => ⟨s b _, fun _ => s b _⟩
theorem TK.lst {H : Hp} {p : Addr} {ys : List V} (h : H p = some (.lst ys)) (o : HO) : TK H (upd H p o) := fun b xs => by
  refine ⟨fun e => ?_, fun u e => ?_⟩
  · have n : b ≠ p := fun z => by rw [z, h] at e; cases e
    rw [upd_ne n]; exact e
  · have n : b ≠ p := fun z => by rw [z, h] at e; cases e
    rw [upd_ne n]; exact e
theorem TK.new {H : Hp} {p : Addr} (h : H p = none) (o : HO) : TK H (upd H p o) := fun b xs => by
  refine ⟨fun e => ?_, fun u e => ?_⟩
  · have n : b ≠ p := fun z => by rw [z, h] at e; cases e
    rw [upd_ne n]; exact e
  · have n : b ≠ p := fun z => by rw [z, h] at e; cases e
    rw [upd_ne n]; exact e
section
variable {K : PySem.W.Frag} {H H' : Hp}
theorem TK.sq (k : TK H H') {a : Addr} {xs : List V} (h : SqT K H a xs) : SqT K H' a xs := by
  rcases h with (h | ⟨o, h⟩) | h
  · exact .inl (.inl ((k a xs).1 h))
  · exact .inl (.inr ⟨o, (k a xs).2 o h⟩)
  · exact .inr h
mutual
/-- a value is a term -/
def Tm (K : PySem.W.Frag) (H : Hp) : T → V → Prop
  | .v i, x => x = .int i
  | .f n ts, x => ∃ a xs, x = .ref a ∧ SqT K H a (.str n :: xs) ∧ Tms K H ts xs
def Tms (K : PySem.W.Frag) (H : Hp) : List T → List V → Prop
  | [], xs => xs = []
  | t :: ts, xs => ∃ y ys, xs = y :: ys ∧ Tm K H t y ∧ Tms K H ts ys
end
mutual
theorem Tm.mono (k : TK H H') : ∀ (t : T) (x : V), Tm K H t x → Tm K H' t x
  | .v _, _, h => h
  | .f n ts, x, h => by
    obtain ⟨a, xs, e, sq, all⟩ := h
    exact ⟨a, xs, e, k.sq sq, Tms.mono k ts xs all⟩
theorem Tms.mono (k : TK H H') : ∀ (ts : List T) (xs : List V), Tms K H ts xs → Tms K H' ts xs
  | [], _, h => h
  | t :: ts, xs, h => by
    obtain ⟨y, ys, e, one, all⟩ := h
    exact ⟨y, ys, e, Tm.mono k t y one, Tms.mono k ts ys all⟩
end
mutual
theorem Tm.dp : ∀ (t : T) (x : V), Tm K H t x → Dp K H x t.d
  | .v i, x, h => by
    cases (show x = .int i from h)
    exact .int i
  | .f n ts, x, h => by
    obtain ⟨a, xs, rfl, sq, all⟩ := h
    exact .tup sq (.cons (.str n) (Tms.dp ts xs all))
theorem Tms.dp : ∀ (ts : List T) (xs : List V), Tms K H ts xs → DpAll K H xs (T.ds ts)
  | [], xs, h => by
    cases (show xs = [] from h)
    exact .nil
  | t :: ts, xs, h => by
    obtain ⟨y, ys, rfl, one, all⟩ := h
    exact .cons (Tm.dp t y one) (Tms.dp ts ys all)
end
theorem Tms.len : ∀ {ts : List T} {xs : List V}, Tms K H ts xs → xs.length = ts.length
  | [], xs, h => by
    cases (show xs = [] from h)
    rfl
  | t :: ts, xs, h => by
    obtain ⟨y, ys, rfl, _, all⟩ := h
    rw [List.length_cons, List.length_cons, Tms.len all]
theorem Tms.app : ∀ {as : List T} {xs : List V} {bs : List T} {ys : List V}, Tms K H as xs → Tms K H bs ys → Tms K H (as ++ bs) (xs ++ ys)
  | [], xs, _, _, h, k => by
    cases (show xs = [] from h)
    exact k
  | t :: ts, xs, _, _, h, k => by
    obtain ⟨y, zs, rfl, one, all⟩ := h
    exact ⟨y, _, rfl, one, Tms.app all k⟩
theorem Tms.one {t : T} {x : V} (h : Tm K H t x) : Tms K H [t] [x] := ⟨x, [], rfl, h, rfl⟩
theorem Tms.rev : ∀ {ts : List T} {xs : List V}, Tms K H ts xs → Tms K H ts.reverse xs.reverse
  | [], xs, h => by
    cases (show xs = [] from h)
    exact rfl
  | t :: ts, xs, h => by
    obtain ⟨y, ys, rfl, one, all⟩ := h
    rw [List.reverse_cons, List.reverse_cons]
    exact Tms.app (Tms.rev all) (Tms.one one)
theorem Tms.get : ∀ {ts : List T} {xs : List V} {i : Nat} {x : V}, Tms K H ts xs → xs[i]? = some x → ∃ t, ts[i]? = some t ∧ Tm K H t x
  | [], xs, i, x, h, e => by
    cases (show xs = [] from h)
    cases e
  | t :: ts, xs, i, x, h, e => by
    obtain ⟨y, ys, rfl, one, all⟩ := h
    cases i with
    | zero =>
      cases e
      exact ⟨t, rfl, one⟩
    | succ i => exact Tms.get (ts := ts) (xs := ys) (i := i) all e
theorem Tms.get' : ∀ {ts : List T} {xs : List V} {i : Nat} {t : T}, Tms K H ts xs → ts[i]? = some t → ∃ x, xs[i]? = some x ∧ Tm K H t x
  | [], xs, i, x, h, e => by cases e
  | t :: ts, xs, i, x, h, e => by
    obtain ⟨y, ys, rfl, one, all⟩ := h
    cases i with
    | zero =>
      cases e
      exact ⟨y, rfl, one⟩
    | succ i => exact Tms.get' (ts := ts) (xs := ys) (i := i) all e
/-- the last of them -/
theorem Tms.last : ∀ {ts : List T} {xs : List V}, Tms K H ts xs → ts ≠ [] → ∃ us u ys y, ts = us ++ [u] ∧ xs = ys ++ [y] ∧ Tms K H us ys ∧ Tm K H u y
  | [], _, _, n => absurd rfl n
  | [t], xs, h, _ => by
    obtain ⟨y, ys, rfl, one, all⟩ := h
    cases (show ys = [] from all)
    exact ⟨[], t, [], y, rfl, rfl, rfl, one⟩
  | t :: u :: ts, xs, h, _ => by
    obtain ⟨y, ys, rfl, one, all⟩ := h
    obtain ⟨us, w, zs, z, e1, e2, a, b⟩ := Tms.last (ts := u :: ts) all (by simp)
    exact ⟨t :: us, w, y :: zs, z, by rw [e1]; rfl, by rw [e2]; rfl, ⟨y, zs, rfl, one, a⟩, b⟩
end
end Ad

/-! What stands in a term. -/
namespace Ad
open PySem PySem.Spec PySem.Calls PyProof.Rows L2
theorem sq_ty {K : PySem.W.Frag} {H : Hp} {a : Addr} {xs : List V} (h : SqT K H a xs) : TyX K H (.ref a) (.type "tuple") := by
  rcases h with (h | ⟨o, h⟩) | h
  · exact .base (.tup h)
  · exact .fTuple h
  · obtain ⟨o, _, _, e, c, _⟩ := h
    exact .kTuple e c
theorem tm_tuple {K : PySem.W.Frag} {H : Hp} {n : Str} {ts : List T} {x : V} (h : Tm K H (.f n ts) x) : TyX K H x (.type "tuple") := by
  obtain ⟨a, xs, rfl, sq, _⟩ := h
  exact sq_ty sq
theorem kitTT {K : PySem.W.Frag} : PySem.W.kitOne K (.type "tuple") (.type "tuple") = some true := kit_ty (by decide +kernel)
theorem kitIT {K : PySem.W.Frag} : PySem.W.kitOne K (.type "int") (.type "tuple") = some false := kit_ty (by decide +kernel)
theorem kitTI {K : PySem.W.Frag} : PySem.W.kitOne K (.type "tuple") (.type "int") = some false := kit_ty (by decide +kernel)
theorem kitII {K : PySem.W.Frag} : PySem.W.kitOne K (.type "int") (.type "int") = some true := kit_ty (by decide +kernel)
def lenAt (H : Hp) (p : Addr) : Nat := match H p with
  | some (.lst xs) => xs.length
  | _ => 0
theorem lenAt_of {H : Hp} {p : Addr} {xs : List V} (h : H p = some (.lst xs)) : lenAt H p = xs.length := by
  unfold lenAt
  rw [h]
theorem same_on {H H' : Hp} {p : Addr} (s : Same H H') (n : H p = none) (o : HO) : Same H (upd H' p o) := fun b u e => by
  rw [upd_ne (ne_of_none e n)]
  exact s b u e
/-- the truth of a value, as a test -/
def tTrue (K : PySem.W.Frag) (te : TE) : TT := fun σ H Q => te σ H fun x G => ∃ b, TruV K x G b ∧ Q b G
theorem pt_true {X : Cx} {e : Expr} {te : TE} (he : PE X e te) (plain : ∀ whole, isTrue e X.env whole = (do let v ← whole; standAt e.pos; holding [v] (truthy v)) := by intro _; rfl) : PT X e (tTrue X.K te) := pt_truth he plain
/-- a while by a word and a measure -/
theorem while_m {c : TT} {tb : TS} {D : Ends} {σ : L2.St} {H : Hp} (Pv : L2.St → Hp → Prop) (μ : L2.St → Hp → Nat) (start : Pv σ H)
    (turn : ∀ σ H, Pv σ H → c σ H fun b G => if b = true then tb { D with nx := fun σ' H' => Pv σ' H' ∧ μ σ' H' < μ σ H, ct := fun σ' H' => Pv σ' H' ∧ μ σ' H' < μ σ H, bk := D.nx } σ G else D.nx σ G) (mono : ∀ σ H Q Q', (∀ b G, Q b G → Q' b G) → c σ H Q → c σ H Q') :
    ∃ W : Nat → L2.St → Hp → Prop, (∃ m, W m σ H) ∧ ∀ m σ H, W m σ H → c σ H fun b G => if b = true then ∃ N : L2.St → Hp → Prop, (∀ σ' H', N σ' H' → ∃ m', m' < m ∧ W m' σ' H') ∧ tb { D with nx := N, ct := N, bk := D.nx } σ G else D.nx σ G :=
  while_by Pv μ start turn mono
theorem mono_true {K : PySem.W.Frag} {te : TE} (m : ∀ σ H (Q Q' : VK), (∀ v G, Q v G → Q' v G) → te σ H Q → te σ H Q') : ∀ σ H (Q Q' : Bool → Hp → Prop), (∀ b G, Q b G → Q' b G) → tTrue K te σ H Q → tTrue K te σ H Q' := fun σ H Q Q' imp h => m σ H _ _ (fun v G ⟨b, t, q⟩ => ⟨b, t, imp _ _ q⟩) h
theorem mono_var {i : Nat} : ∀ σ H (Q Q' : VK), (∀ v G, Q v G → Q' v G) → tVar i σ H Q → tVar i σ H Q' := fun _ _ _ _ imp ⟨v, e, q⟩ => ⟨v, e, imp _ _ q⟩
end Ad

/-! Paths; places_of. -/
namespace Ad
open PySem PySem.Spec PySem.Calls PyProof.Rows L2
/-- two lists, item by item -/
def F2 {α β : Type} (R : α → β → Prop) : List α → List β → Prop
  | [], ys => ys = []
  | x :: xs, ys => ∃ y zs, ys = y :: zs ∧ R x y ∧ F2 R xs zs
section
variable {α β : Type} {R S : α → β → Prop}
theorem F2.mono (imp : ∀ a b, R a b → S a b) : ∀ {xs : List α} {ys : List β}, F2 R xs ys → F2 S xs ys
  | [], _, h => h
  | x :: xs, _, h => by
    obtain ⟨y, zs, rfl, r, t⟩ := h
    exact ⟨y, zs, rfl, imp _ _ r, F2.mono imp t⟩
theorem F2.len : ∀ {xs : List α} {ys : List β}, F2 R xs ys → ys.length = xs.length
  | [], ys, h => by
    cases (show ys = [] from h)
    rfl
  | x :: xs, _, h => by
    obtain ⟨y, zs, rfl, r, t⟩ := h
    rw [List.length_cons, List.length_cons, F2.len t]
theorem F2.app : ∀ {xs xs' : List α} {ys ys' : List β}, F2 R xs ys → F2 R xs' ys' → F2 R (xs ++ xs') (ys ++ ys')
  | [], _, ys, _, h, k => by
    cases (show ys = [] from h)
    exact k
  | x :: xs, _, _, _, h, k => by
    obtain ⟨y, zs, rfl, r, t⟩ := h
    exact ⟨y, _, rfl, r, F2.app t k⟩
theorem F2.one {a : α} {b : β} (h : R a b) : F2 R [a] [b] := ⟨b, [], rfl, h, rfl⟩
theorem F2.last : ∀ {xs : List α} {ys : List β}, F2 R xs ys → xs ≠ [] → ∃ us u zs z, xs = us ++ [u] ∧ ys = zs ++ [z] ∧ F2 R us zs ∧ R u z
  | [], _, _, n => absurd rfl n
  | [x], ys, h, _ => by
    obtain ⟨y, zs, rfl, r, t⟩ := h
    cases (show zs = [] from t)
    exact ⟨[], x, [], y, rfl, rfl, rfl, r⟩
  | x :: x2 :: xs, ys, h, _ => by
    obtain ⟨y, zs, rfl, r, t⟩ := h
    obtain ⟨us, u, qs, q, e1, e2, a, b⟩ := F2.last (xs := x2 :: xs) t (by simp)
    exact ⟨x :: us, u, y :: qs, q, by rw [e1]; rfl, by rw [e2]; rfl, ⟨y, qs, rfl, r, a⟩, b⟩
theorem F2.get : ∀ {xs : List α} {ys : List β} {i : Nat} {y : β}, F2 R xs ys → ys[i]? = some y → ∃ x, xs[i]? = some x ∧ R x y
  | [], ys, i, y, h, e => by
    cases (show ys = [] from h)
    cases e
  | x :: xs, ys, i, y, h, e => by
    obtain ⟨z, zs, rfl, r, t⟩ := h
    cases i with
    | zero =>
      cases e
      exact ⟨x, rfl, r⟩
    | succ i => exact F2.get (xs := xs) (ys := zs) (i := i) t e
theorem F2.get' : ∀ {xs : List α} {ys : List β} {i : Nat} {x : α}, F2 R xs ys → xs[i]? = some x → ∃ y, ys[i]? = some y ∧ R x y
  | [], ys, i, x, h, e => by cases e
  | x :: xs, ys, i, y, h, e => by
    obtain ⟨z, zs, rfl, r, t⟩ := h
    cases i with
    | zero =>
      cases e
      exact ⟨z, rfl, r⟩
    | succ i => exact F2.get' (xs := xs) (ys := zs) (i := i) t e
theorem F2.mem : ∀ {xs : List α} {ys : List β} {y : β}, F2 R xs ys → y ∈ ys → ∃ x, x ∈ xs ∧ R x y := fun h m => by
  obtain ⟨i, hi, rfl⟩ := List.mem_iff_getElem.mp m
  obtain ⟨x, e, r⟩ := h.get (List.getElem?_eq_getElem hi)
  exact ⟨x, List.mem_of_getElem? e, r⟩
end
end Ad

/-! at, put_at. -/
namespace Ad
open PySem PySem.Spec PySem.Calls PyProof.Rows L2
def iD (ns : List Int) : PyData := .tuple (ns.map .int)
theorem int_lay : ∀ ns : List Int, PyData.canLayAll0 (ns.map .int) = true
  | [] => rfl
  | n :: ns => by
    show (true && PyData.canLayAll0 (ns.map .int)) = true
    rw [int_lay ns]
    rfl
theorem int_depth : ∀ ns : List Int, PyData.depthAll (ns.map .int) = 0
  | [] => rfl
  | n :: ns => by
    show max 0 (PyData.depthAll (ns.map .int)) = 0
    rw [int_depth ns]
    rfl
theorem iD_shaped (ns : List Int) : SeqAt.shaped (iD ns) = true := by
  unfold SeqAt.shaped
  have h1 : (iD ns).canLay0 = true := int_lay ns
  have h2 : (iD ns).depth = 1 := by
    show PyData.depthAll (ns.map .int) + 1 = 1
    rw [int_depth]
  rw [h1, h2]
  rfl
theorem ints_dp {K : PySem.W.Frag} {H : Hp} : ∀ ns : List Int, DpAll K H (ns.map V.int) (ns.map .int)
  | [] => .nil
  | n :: ns => .cons (.int n) (ints_dp ns)
theorem iD_dp {K : PySem.W.Frag} {H : Hp} {a : Addr} {ns : List Int} (h : SqT K H a (ns.map V.int)) : Dp K H (.ref a) (iD ns) := .tup h (ints_dp ns)
theorem iD_nil (ns : List Int) : PyData.eqv (iD ns) (iD []) = ns.isEmpty := by
  cases ns <;> first | rfl | (simp [iD, PyData.eqv, PyData.eqvAll])
theorem hu1 {k : Nat} {A : Around} (hr : Room k A) : A.units + 1 < cLine := by
  have := hr.un
  omega
theorem hu64 {k : Nat} {A : Around} (hr : Room k A) : A.units + 64 < cLine := by
  have := hr.un
  omega
section
variable {P : Program} {w : World} {K : PySem.W.Frag} {mg : Str → Option Value} {base : Heap}
theorem same_new {H H' : Hp} {p : Addr} (s : Same H H') (n : H' p = none) (o : HO) : Same H (upd H' p o) := fun b u e => by
  rw [upd_ne (ne_of_none (s b u e) n)]
  exact s b u e
theorem vac {k : Nat} {f : Addr} {fd : FuncData} {ps : List Str} {sp : Sp} (no : ∀ vs H Q E, ¬ sp vs H Q E) : FnOk P w K mg base CX0 k f fd ps sp :=
  ⟨fun vs H Q E h => absurd h (no vs H Q E), fun A outer s H args us vs Q E _ _ _ _ h => absurd h (no vs H Q E)⟩
end
end Ad

/-! The law's own going: is it a variable, size, variables. -/
namespace Ad
open PySem PySem.Spec PySem.Calls PyProof.Rows L2
namespace T
mutual
theorem v_parts (j : Int) : ∀ t : T, .v j ∈ parts t ↔ j ∈ vars t
  | .v i => by
    show T.v j ∈ [T.v i] ↔ j ∈ [i]
    rw [List.mem_singleton, List.mem_singleton]
    exact ⟨fun e => T.v.inj e, fun e => congrArg T.v e⟩
  | .f x ts => by
    show T.v j ∈ T.f x ts :: partsL ts ↔ j ∈ varsL ts
    rw [List.mem_cons, ← v_partsL j ts]
    exact ⟨fun h => h.elim (fun e => nomatch e) id, .inr⟩
theorem v_partsL (j : Int) : ∀ ts : List T, .v j ∈ partsL ts ↔ j ∈ varsL ts
  | [] => ⟨(fun h => nomatch h), (fun h => nomatch h)⟩
  | t :: ts => by
    show T.v j ∈ parts t ++ partsL ts ↔ j ∈ vars t ++ varsL ts
    rw [List.mem_append, List.mem_append, v_parts j t, v_partsL j ts]
end
mutual
theorem vars_len : ∀ t : T, t.vars.length ≤ t.size
  | .v _ => Nat.le_refl _
  | .f x ts => by
    show (varsL ts).length ≤ 1 + sizeL ts
    have := varsL_len ts
    omega
theorem varsL_len : ∀ ts : List T, (varsL ts).length ≤ sizeL ts
  | [] => Nat.le_refl _
  | t :: ts => by
    show (vars t ++ varsL ts).length ≤ size t + sizeL ts
    have h1 := vars_len t
    have h2 := varsL_len ts
    rw [List.length_append]
    omega
end
end T
def T.isV : T → Bool
  | .v _ => true
  | .f _ _ => false
def spIsVar (K : PySem.W.Frag) : Sp := fun vs H Q _ => ∃ (t : T) (x : V), vs = [x] ∧ Tm K H t x ∧ Q (.bl t.isV) H
theorem cut_args {x : V} {xs : List V} : ¬ (HT.sIx (x :: xs).length 0 (some 1) = 0 ∧ HT.sIx (x :: xs).length (x :: xs).length none = (x :: xs).length) ∧ cutV (x :: xs) (some 1) none = xs := by
  have e2 : HT.sIx (x :: xs).length 0 (some ((1 : Nat) : Int)) = 1 := by
    rw [HT.sIx_nat, List.length_cons]
    omega
  have e3 : HT.sIx (x :: xs).length 0 (some 1) = 1 := e2
  constructor
  · rw [e3]
    omega
  · unfold cutV
    rw [e3, HT.sIx_none]
    show xs.take _ = _
    rw [List.take_of_length_le]
    rw [List.length_cons]
    omega
theorem sum_sizes : ∀ ts : List T, (ts.map fun t => (t.size : Int)).sum = (T.sizeL ts : Int)
  | [] => rfl
  | t :: ts => by
    rw [List.map_cons, List.sum_cons, sum_sizes ts]
    show (t.size : Int) + (T.sizeL ts : Int) = ((t.size + T.sizeL ts : Nat) : Int)
    omega
section
variable {P : Program} {w : World} {K : PySem.W.Frag} {mg : Str → Option Value} {base : Heap}
theorem T.varsL_append : ∀ (as bs : List T), T.varsL (as ++ bs) = T.varsL as ++ T.varsL bs
  | [], _ => rfl
  | t :: ts, bs => by
    show T.vars t ++ T.varsL (ts ++ bs) = T.vars t ++ T.varsL ts ++ T.varsL bs
    rw [T.varsL_append ts bs, List.append_assoc]
theorem T.varsL_take (ts : List T) (i : Nat) : (T.varsL (ts.take i)).length ≤ T.sizeL ts := by
  have h1 := T.varsL_len (ts.take i)
  have h2 := T.sizeL_append (ts.take i) (ts.drop i)
  rw [List.take_append_drop] at h2
  omega
end
end Ad

/-! The pen of a law: its cells, its draws, its picks. -/
namespace Pn
open PySem PySem.Spec PyProof.Rows L2
abbrev sPen : Stmt := Ad.topS 18
abbrev sDraw : Stmt := Ad.topS 19
abbrev sPick : Stmt := Ad.topS 20
theorem scPen : FnScope ["_law_script", "_law_fold", "_law_cell"] ["_law_script"] (defScope sPen) := ⟨rfl, rfl, rfl, by decide +kernel, rfl, by decide +kernel, by decide +kernel⟩
theorem scDraw : FnScope ["_law_pen_here", "_law_many_here", "_law_cell", "_law_digit", "_law_blend"] ["_law_pen_here", "_law_many_here"] (defScope sDraw) := ⟨rfl, rfl, rfl, by decide +kernel, rfl, by decide +kernel, by decide +kernel⟩
theorem scPick : FnScope ["_law_pen_here", "_law_some"] ["_law_pen_here", "_law_some"] (defScope sPick) := ⟨rfl, rfl, rfl, by decide +kernel, rfl, by decide +kernel, by decide +kernel⟩
/-! ### the pen's dict -/
abbrev kC : Key := .inr "cells"
abbrev kA : Key := .inr "at"
abbrev kD : Key := .inr "digits"
abbrev kN : Key := .inr "count"
abbrev kF : Key := .inr "fold"
theorem nCA : ¬ (kC = kA) := by decide +kernel
theorem nCD : ¬ (kC = kD) := by decide +kernel
theorem nCN : ¬ (kC = kN) := by decide +kernel
theorem nCF : ¬ (kC = kF) := by decide +kernel
theorem nAD : ¬ (kA = kD) := by decide +kernel
theorem nAN : ¬ (kA = kN) := by decide +kernel
theorem nAF : ¬ (kA = kF) := by decide +kernel
theorem nDN : ¬ (kD = kN) := by decide +kernel
theorem nDF : ¬ (kD = kF) := by decide +kernel
theorem nNF : ¬ (kN = kF) := by decide +kernel
def penK (l : Addr) (a d n f : Int) : List (Key × V) := [(kC, .ref l), (kA, .int a), (kD, .int d), (kN, .int n), (kF, .int f)]
section
variable (l : Addr) (a d n f x : Int)
theorem getC : valV (penK l a d n f) kC = some (.ref l) := valV_pos rfl
theorem getA : valV (penK l a d n f) kA = some (.int a) := by
  unfold penK; rw [valV_neg nCA, valV_pos rfl]
theorem getD : valV (penK l a d n f) kD = some (.int d) := by
  unfold penK; rw [valV_neg nCD, valV_neg nAD, valV_pos rfl]
theorem getN : valV (penK l a d n f) kN = some (.int n) := by
  unfold penK; rw [valV_neg nCN, valV_neg nAN, valV_neg nDN, valV_pos rfl]
theorem getF : valV (penK l a d n f) kF = some (.int f) := by
  unfold penK; rw [valV_neg nCF, valV_neg nAF, valV_neg nDF, valV_neg nNF, valV_pos rfl]
theorem put_is {kvs : List (Key × V)} {k : Key} {v : V} (h : valV kvs k = some v) (y : V) : putK kvs k y = kvs.map fun kv => if kv.1 = k then (kv.1, y) else kv := by
  unfold putK
  rw [valV_any, h]
  rfl
theorem putA : putK (penK l a d n f) kA (.int x) = penK l x d n f := by
  rw [put_is (getA l a d n f)]
  show [_, _, _, _, _] = _
  dsimp only
  rw [if_neg nCA, if_pos rfl, if_neg (Ne.symm nAD), if_neg (Ne.symm nAN), if_neg (Ne.symm nAF)]
  rfl
theorem putD : putK (penK l a d n f) kD (.int x) = penK l a x n f := by
  rw [put_is (getD l a d n f)]
  show [_, _, _, _, _] = _
  dsimp only
  rw [if_neg nCD, if_neg nAD, if_pos rfl, if_neg (Ne.symm nDN), if_neg (Ne.symm nDF)]
  rfl
theorem putN : putK (penK l a d n f) kN (.int x) = penK l a d x f := by
  rw [put_is (getN l a d n f)]
  show [_, _, _, _, _] = _
  dsimp only
  rw [if_neg nCN, if_neg nAN, if_neg nDN, if_pos rfl, if_neg (Ne.symm nNF)]
  rfl
theorem putF' : putK (penK l a d n f) kF (.int x) = penK l a d n x := by
  rw [put_is (getF l a d n f)]
  show [_, _, _, _, _] = _
  dsimp only
  rw [if_neg nCF, if_neg nAF, if_neg nDF, if_neg nNF, if_pos rfl]
  rfl
theorem merge_pen : mergeK [] [(kC, .ref l), (kA, .int a), (kD, .int d), (kN, .int n), (kF, .int f)] = penK l a d n f := by
  unfold mergeK penK
  simp only [List.foldl_cons, List.foldl_nil]
  rw [putK_new (kvs := []) (k := kC) _ rfl]
  rw [putK_new (k := kA) _ (by rw [List.nil_append, valV_neg nCA]; rfl)]
  rw [putK_new (k := kD) _ (by rw [List.nil_append, List.cons_append, valV_neg nCD, List.nil_append, valV_neg nAD]; rfl)]
  rw [putK_new (k := kN) _ (by simp only [List.nil_append, List.cons_append]; rw [valV_neg nCN, valV_neg nAN, valV_neg nDN]; rfl)]
  rw [putK_new (k := kF) _ (by simp only [List.nil_append, List.cons_append]; rw [valV_neg nCF, valV_neg nAF, valV_neg nDF, valV_neg nNF]; rfl)]
  rfl
end
/-- a pen stands at p, its cells at l, so many draws done -/
structure Pen (H : Hp) (p l : Addr) (ns : List Int) (c : Nat) : Prop where
  ex : ∃ (a : Nat) (d f : Int), H p = some (.dK (penK l (a : Int) d (c : Int) f)) ∧ a ≤ ns.length ∧ 0 ≤ d ∧ 0 ≤ f ∧ f < 2147483648
  ls : H l = some (.lst (ns.map V.int))
theorem pen_ne {H : Hp} {p l : Addr} {ns : List Int} {c : Nat} (h : Pen H p l ns c) : p ≠ l := by
  obtain ⟨⟨a, d, f, e, _⟩, q⟩ := h
  exact ne_of e q (by intro z; cases z)
/-- all but the pen's dict stays -/
def But (p : Addr) (H H' : Hp) : Prop := ∀ b o, b ≠ p → H b = some o → H' b = some o
theorem But.refl (p : Addr) (H : Hp) : But p H H := fun _ _ _ h => h
theorem But.trans {p : Addr} {H H1 H2 : Hp} (a : But p H H1) (b : But p H1 H2) : But p H H2 := fun c o n h => b c o n (a c o n h)
theorem But.upd {p : Addr} (H : Hp) (o : HO) : But p H (L2.upd H p o) := fun b u n h => by rw [upd_ne n]; exact h
theorem But.of {p : Addr} {H H' : Hp} (s : Same H H') : But p H H' := fun b o _ h => s b o h
theorem same_upd {H : Hp} {p : Addr} {o : HO} (h : H p = none) : Same H (L2.upd H p o) := fun b x e => by
  rw [upd_ne (ne_of_none e h)]
  exact e
section
variable {P : Program} {w : World} {K : PySem.W.Frag} {mg : Str → Option Value} {base : Heap}
def spPen (K : PySem.W.Frag) : Sp := fun vs H Q _ => ∃ (a : Addr) (ns : List Int), vs = [.ref a] ∧ SqL K H a (ns.map V.int) ∧ ns.length ≤ 63 ∧
  ∀ H' p l, Same H H' → H p = none → H l = none → Pen H' p l ns 0 → Q (.ref p) H'
theorem ok_pen {f : Addr} {fd : FuncData} {k : Nat} (F : Fun K "_law_pen" "_law_pen" sPen f fd) (mi : mg "int" = none) (ml : mg "list" = none) : FnOk P w K mg base CX0 (k + 1) f fd ["_law_script"] (spPen K) := by
  refine F.ok scPen (fun vs H Q E h => ?_) (fun cdv A outer s H vs Q E hr h => ?_)
  · obtain ⟨a, ns, rfl, _⟩ := h
    rfl
  · obtain ⟨a, ns, rfl, hS, hlen, q⟩ := h
    refine ⟨_, pss_cons (ps_set (i := 1) scPen.nd rfl (.inl rfl) pe_int)
      (pss_cons (ps_for PassesOwn.never rfl (pi_list (pv 0)) (pg_name (i := 2) scPen.nd rfl (.inl rfl))
        (pss_one (ps_set (i := 1) scPen.nd rfl (.inl rfl) (pe_op op_mod (pe_callTy call_int1 (by rfl) mi (by decide +kernel) (pa_cons (pe_op op_add (pe_op op_mul (pv 1) pe_int) (pv 2)) pa_nil)) pe_int))))
      (pss_one (ps_ret (pe_disp (pps_cons pe_str (pe_callTy call_list_of (by rfl) ml (by decide +kernel) (pa_cons (pv 0) pa_nil))
        (pps_cons pe_str pe_int (pps_cons pe_str pe_int (pps_cons pe_str pe_int (pps_cons pe_str (pv 1) pps_nil))))) (by rfl) (by rfl) (fun z => by cases z) (by decide))))), ?_⟩
    refine ⟨.ref a, rfl, a, rfl, ⟨_, hS⟩, for_list (K := K) (a := a) (xs := ns.map V.int) (fun i σ H2 => ∃ (g : Int) (v : Option V), σ = [some (.ref a), some (.int g), v] ∧ H2 = H ∧ 0 ≤ g ∧ g < 1000000007)
      ⟨0, none, rfl, rfl, by decide, by decide⟩ (fun i σ H2 _ ⟨_, _, _, e, _⟩ => by rw [e]; exact hS) ?_ ?_⟩
    · rintro i y σ H2 hi ⟨g, v, rfl, rfl, g0, g1⟩
      obtain ⟨z, rfl⟩ : ∃ z, y = V.int z := by
        rw [List.getElem?_map] at hi
        cases e : ns[i]? with
        | none =>
          rw [e] at hi
          cases hi
        | some z =>
          rw [e] at hi
          exact ⟨z, (Option.some.inj hi).symm⟩
      refine ⟨.int g, rfl, _, _, rfl, rfl, .inr ⟨by decide, by decide⟩, .int z, rfl, _, _, rfl, rfl, .inl ⟨_, rfl, _, _, rfl, rfl, (by show (0 : Int) < 1000000007; decide), ?_⟩⟩
      exact ⟨(g * 47 + z) % 1000000007, some (.int z), rfl, rfl, Int.emod_nonneg _ (by decide), Int.emod_lt_of_pos _ (by decide)⟩
    · rintro σ H2 ⟨g, v, rfl, rfl, g0, g1⟩
      intro p hp
      refine ⟨.ref a, rfl, a, _, rfl, .inl ((same_upd hp).seq hS), fun l hl => ?_⟩
      have nlp : l ≠ p := fun e => by
        rw [e, upd_same] at hl
        cases hl
      have hl0 : H2 l = none := by rw [upd_ne nlp] at hl; exact hl
      refine ⟨.int g, rfl, by rw [upd_ne nlp.symm, upd_same], [(kC, .ref l), (kA, .int 0), (kD, .int 0), (kN, .int 0), (kF, .int g)], rfl, (by show 5 ≤ 15; decide), ?_⟩
      rw [merge_pen]
      refine q _ p l ?_ hp hl0 ⟨⟨0, 0, g, upd_same, Nat.zero_le _, by decide, g0, by omega⟩, ?_⟩
      · intro b o e
        have b1 : b ≠ p := ne_of_none e hp
        have b2 : b ≠ l := ne_of_none e hl0
        rw [upd_ne b1, upd_ne b2, upd_ne b1]
        exact e
      · rw [upd_ne nlp, upd_same]
end
end Pn

namespace Pn
open PySem PySem.Spec PyProof.Rows L2
theorem pget {H : Hp} {p : Addr} {kvs : List (Key × V)} {k : Key} {v : V} (e : H p = some (.dK kvs)) (h : valV kvs k = some v) : DGet H p (kV k) (some v) := by
  have q : DGet H p (kV k) (valV kvs k) := DGet.k e
  rw [h] at q
  exact q
theorem pput {H : Hp} {p : Addr} {kvs kvs' : List (Key × V)} {k : Key} {v : V} (e : H p = some (.dK kvs)) (hl : kvs.length < sizeLine) (h : putK kvs k v = kvs') : DPut H p (kV k) v (L2.upd H p (.dK kvs')) := by
  have q : DPut H p (kV k) v (L2.upd H p (.dK (putK kvs k v))) := DPut.k e hl
  rw [h] at q
  exact q
theorem penl (l : Addr) (a d n f : Int) : (penK l a d n f).length < sizeLine := by
  show 5 < sizeLine
  decide
theorem pow17 {b : Int} (h0 : 0 ≤ b) : 0 ≤ b ^ (17 : Int).toNat := Int.pow_nonneg h0
section
variable {P : Program} {w : World} {K : PySem.W.Frag} {mg : Str → Option Value} {base : Heap}
def spDraw : Sp := fun vs H Q _ => ∃ (p l : Addr) (ns : List Int) (c : Nat) (m : Int), vs = [.ref p, .int m] ∧ Pen H p l ns c ∧ ns.length ≤ 1000 ∧ c ≤ 1000000000 ∧ 1 ≤ m ∧ m ≤ 1000000 ∧
  ∀ r H', 0 ≤ r → r < m → Pen H' p l ns (c + 1) → But p H H' → Q (.int r) H'
theorem ok_draw {f : Addr} {fd : FuncData} {k : Nat} (F : Fun K "_law_draw" "_law_draw" sDraw f fd) (mi : mg "int" = none) (ml : mg "len" = none) : FnOk P w K mg base CX0 (k + 1) f fd ["_law_pen_here", "_law_many_here"] spDraw := by
  refine F.ok scDraw (fun vs H Q E h => ?_) (fun cdv A outer s H vs Q E hr h => ?_)
  · obtain ⟨p, l, ns, c, m, rfl, _⟩ := h
    rfl
  · obtain ⟨p, l, ns, c, m, rfl, hP, hlen, hc, m1, m2, q⟩ := h
    have hu := hu_of hr
    have npl : p ≠ l := pen_ne hP
    obtain ⟨⟨a, d, f0, e, ha, hd, hf, hf2⟩, hl⟩ := hP
    refine ⟨_, pss_cons (ps_dput hu (pv 0) pe_str (pe_op op_add (pe_dget hu (pv 0) pe_str (fun _ _ => rfl)) pe_int) rfl)
      (C8.pss_cut (ps_if (pw_and (pt_cmpR op_eq (pe_dget hu (pv 0) pe_str (fun _ _ => rfl)) pe_int (nomark _)) (pw_and1 (pt_cmpR op_lt (pe_dget hu (pv 0) pe_str (fun _ _ => rfl)) (pe_callB call_len_seq (by rfl) ml PySem.boot_len (pa_cons (pe_dget hu (pv 0) pe_str (fun _ _ => rfl)) pa_nil)) (nomark _)))).pt
        (pss_cons (ps_set (i := 2) scDraw.nd rfl (.inl rfl) (pe_ix ix_list (pe_dget hu (pv 0) pe_str (fun _ _ => rfl)) (pe_dget hu (pv 0) pe_str (fun _ _ => rfl)) (fun _ _ => rfl)))
        (pss_cons (ps_dput hu (pv 0) pe_str (pe_op op_add (pe_dget hu (pv 0) pe_str (fun _ _ => rfl)) pe_int) rfl)
        (pss_one (ps_if (pt_cmpR op_ge (pv 2) (pe_op op_pow pe_int pe_int) (nomark _))
          (pss_one (ps_dput hu (pv 0) pe_str (pe_op op_sub (pv 2) (pe_op op_pow pe_int pe_int)) rfl))
          (pss_one (ps_dput hu (pv 0) pe_str (pe_op op_mod (pe_callTy call_int1 (by rfl) mi (by decide +kernel) (pa_cons (pe_op op_add (pe_op op_mul (pe_dget hu (pv 0) pe_str (fun _ _ => rfl)) pe_int) (pv 2)) pa_nil)) pe_int) rfl))))))
        pss_nil)
      (pss_cons (ps_if (pt_cmpR op_gt (pe_dget hu (pv 0) pe_str (fun _ _ => rfl)) pe_int (nomark _))
        (pss_cons (ps_set (i := 3) scDraw.nd rfl (.inl rfl) (pe_op op_mod (pe_callTy call_int1 (by rfl) mi (by decide +kernel) (pa_cons (pe_dget hu (pv 0) pe_str (fun _ _ => rfl)) pa_nil)) (pv 1)))
        (pss_cons (ps_dput hu (pv 0) pe_str (pe_op op_fdiv (pe_dget hu (pv 0) pe_str (fun _ _ => rfl)) (pv 1)) rfl)
        (pss_one (ps_ret (pv 3)))))
        pss_nil)
      (pss_cons (ps_set (i := 4) scDraw.nd rfl (.inl rfl) (pe_op op_add (pe_op op_add (pe_dget hu (pv 0) pe_str (fun _ _ => rfl)) (pe_op op_mul (pe_dget hu (pv 0) pe_str (fun _ _ => rfl)) pe_int)) pe_int))
      (pss_one (ps_ret (pe_op op_mod (pe_op op_fdiv (pe_callTy call_int1 (by rfl) mi (by decide +kernel) (pa_cons (pe_op op_mod (pe_op op_pow (pv 4) pe_int) pe_int) pa_nil)) pe_int) (pv 1))))))), ?_⟩
    -- count
    refine ⟨.ref p, rfl, p, _, rfl, pget e (getN ..), _, _, rfl, rfl, .ref p, rfl, p, _, rfl, pput e (penl ..) (putN ..), ?_⟩
    have e1 : (L2.upd H p (.dK (penK l (a : Int) d ((c : Int) + 1) f0))) p = some (.dK (penK l (a : Int) d ((c : Int) + 1) f0)) := upd_same
    have l1 : (L2.upd H p (.dK (penK l (a : Int) d ((c : Int) + 1) f0))) l = some (.lst (ns.map V.int)) := by rw [upd_ne npl.symm]; exact hl
    have b1 : But p H (L2.upd H p (.dK (penK l (a : Int) d ((c : Int) + 1) f0))) := But.upd _ _
    generalize L2.upd H p (.dK (penK l (a : Int) d ((c : Int) + 1) f0)) = H1 at e1 l1 b1
    -- the cell
    refine ⟨fun σ H' => ∃ (v2 : Option V) (a : Nat) (d f : Int), σ = [some (.ref p), some (.int m), v2, none, none] ∧ H' p = some (.dK (penK l (a : Int) d ((c : Int) + 1) f)) ∧ a ≤ ns.length ∧ 0 ≤ d ∧ 0 ≤ f ∧ f < 2147483648 ∧ H' l = some (.lst (ns.map V.int)) ∧ But p H H', ?_, ?_⟩
    · refine ⟨.ref p, rfl, p, _, rfl, pget e1 (getD ..), rfl, _, rfl, ?_⟩
      refine ite2 (fun hd0 => ?_) (fun _ => ?_)
      · refine ⟨.ref p, rfl, p, _, rfl, pget e1 (getA ..), .ref p, rfl, p, _, rfl, pget e1 (getC ..), l, _, rfl, .inl (.inl (.inl l1)), _, _, rfl, rfl, _, rfl, ?_⟩
        refine ite2 (fun hlt => ?_) (fun _ => ?_)
        · have hlt' : (a : Int) < ((ns.map V.int).length : Int) := of_decide_eq_true hlt
          have hlt2 : a < ns.length := by
            rw [List.length_map] at hlt'
            omega
          have hz : (ns.map V.int)[a]? = some (.int ns[a]) := by
            rw [List.getElem?_map, List.getElem?_eq_getElem hlt2]
            rfl
          refine ⟨.ref p, rfl, p, _, rfl, pget e1 (getC ..), .ref p, rfl, p, _, rfl, pget e1 (getA ..), l, _, _, _, rfl, rfl, .inl (.inl l1), atI_nat hz, ?_⟩
          refine ⟨.ref p, rfl, p, _, rfl, pget e1 (getA ..), _, _, rfl, rfl, .ref p, rfl, p, _, rfl, pput e1 (penl ..) (putA ..), ?_⟩
          have e2 : (L2.upd H1 p (.dK (penK l ((a : Int) + 1) d ((c : Int) + 1) f0))) p = some (.dK (penK l ((a + 1 : Nat) : Int) d ((c : Int) + 1) f0)) := upd_same
          have l2 : (L2.upd H1 p (.dK (penK l ((a : Int) + 1) d ((c : Int) + 1) f0))) l = some (.lst (ns.map V.int)) := by rw [upd_ne npl.symm]; exact l1
          have b2 : But p H (L2.upd H1 p (.dK (penK l ((a : Int) + 1) d ((c : Int) + 1) f0))) := b1.trans (But.upd _ _)
          generalize L2.upd H1 p (.dK (penK l ((a : Int) + 1) d ((c : Int) + 1) f0)) = H2 at e2 l2 b2
          refine ⟨.int ns[a], rfl, _, _, rfl, rfl, ⟨by decide, by decide, by decide⟩, _, _, rfl, rfl, _, rfl, ?_⟩
          refine ite2 (fun hbig => ?_) (fun _ => ?_)
          · have hb : (10 : Int) ^ (18 : Int).toNat ≤ ns[a] := of_decide_eq_true hbig
            refine ⟨.int ns[a], rfl, _, _, rfl, rfl, ⟨by decide, by decide, by decide⟩, _, _, rfl, rfl, .ref p, rfl, p, _, rfl, pput e2 (penl ..) (putD ..), ?_⟩
            exact ⟨_, a + 1, _, f0, rfl, upd_same, hlt2, by omega, hf, hf2, by rw [upd_ne npl.symm]; exact l2, b2.trans (But.upd _ _)⟩
          · refine ⟨.ref p, rfl, p, _, rfl, pget e2 (getF ..), _, _, rfl, rfl, .inr ⟨by decide, by decide⟩, .int ns[a], rfl, _, _, rfl, rfl, .inl ⟨_, rfl, _, _, rfl, rfl, (by show (0 : Int) < 2147483587; decide), .ref p, rfl, p, _, rfl, pput e2 (penl ..) (putF' ..), ?_⟩⟩
            refine ⟨_, a + 1, d, _, rfl, upd_same, hlt2, hd, Int.emod_nonneg _ (by decide), Int.lt_trans (Int.emod_lt_of_pos _ (by decide)) (by decide), by rw [upd_ne npl.symm]; exact l2, b2.trans (But.upd _ _)⟩
        · exact ⟨none, a, d, f0, rfl, e1, ha, hd, hf, hf2, l1, b1⟩
      · refine iteF ?_
        exact ⟨none, a, d, f0, rfl, e1, ha, hd, hf, hf2, l1, b1⟩
    · rintro σ' H2 ⟨v2, a, d, f0, rfl, e2, ha, hd, hf, hf2, l2, b2⟩
      refine ⟨.ref p, rfl, p, _, rfl, pget e2 (getD ..), _, _, rfl, rfl, _, rfl, ?_⟩
      refine ite2 (fun _ => ?_) (fun _ => ?_)
      · refine ⟨.ref p, rfl, p, _, rfl, pget e2 (getD ..), .inl ⟨_, rfl, .int m, rfl, _, _, rfl, rfl, (by show 0 < m; omega), ?_⟩⟩
        refine ⟨.ref p, rfl, p, _, rfl, pget e2 (getD ..), .int m, rfl, _, _, rfl, rfl, ⟨(by omega), (by omega)⟩, .ref p, rfl, p, _, rfl, pput e2 (penl ..) (putD ..), ?_⟩
        refine ⟨.int (d % m), rfl, ?_⟩
        refine q _ _ (Int.emod_nonneg _ (by omega)) (Int.emod_lt_of_pos _ (by omega)) ⟨⟨a, d / m, f0, upd_same, ha, Int.ediv_nonneg hd (by omega), hf, hf2⟩, by rw [upd_ne npl.symm]; exact l2⟩ (b2.trans (But.upd _ _))
      · refine ⟨.ref p, rfl, p, _, rfl, pget e2 (getF ..), .ref p, rfl, p, _, rfl, pget e2 (getN ..), _, _, rfl, rfl, .inr ⟨by decide, by decide⟩, _, _, rfl, rfl, _, _, rfl, rfl, ?_⟩
        refine ⟨.int (f0 + ((c : Int) + 1) * 7907 + 43), rfl, _, _, rfl, rfl, ⟨by decide, by decide, by omega⟩, _, _, rfl, rfl, (by show (0 : Int) < 2305843009213693951; decide), .inl ⟨_, rfl, _, _, rfl, rfl, ⟨by decide, by decide⟩, .int m, rfl, _, _, rfl, rfl, (by show 0 < m; omega), ?_⟩⟩
        exact q _ _ (Int.emod_nonneg _ (by omega)) (Int.emod_lt_of_pos _ (by omega)) ⟨⟨a, d, f0, e2, ha, hd, hf, hf2⟩, l2⟩ b2
def spPick (K : PySem.W.Frag) : Sp := fun vs H Q _ => ∃ (p l s : Addr) (ns : List Int) (c : Nat) (xs : List V), vs = [.ref p, .ref s] ∧ Pen H p l ns c ∧ ns.length ≤ 1000 ∧ c ≤ 1000000000 ∧ (SqL K H s xs ∨ SqT K H s xs) ∧ xs ≠ [] ∧ xs.length ≤ 1000000 ∧ s ≠ p ∧
  ∀ x H', x ∈ xs → Pen H' p l ns (c + 1) → But p H H' → Q x H'
theorem But.sq {H H' : Hp} {p s : Addr} {xs : List V} (b : But p H H') (n : s ≠ p) (h : SqL K H s xs) : SqL K H' s xs := by
  rcases h with (h | ⟨o, h⟩) | h
  · exact .inl (.inl (b _ _ n h))
  · exact .inl (.inr ⟨o, b _ _ n h⟩)
  · exact .inr h
end
end Pn

namespace Pn
open PySem PySem.Spec PyProof.Rows L2
theorem ix_or {X : Cx} : IxR X (fun x y H Q => rIxL X.K x y H Q ∨ rIxT X.K x y H Q) := ix_list.or ix_tup
section
variable {P : Program} {w : World} {K : PySem.W.Frag} {mg : Str → Option Value} {base : Heap}
theorem ok_pick {f fD : Addr} {fd fdD : FuncData} {k : Nat} (F : Fun K "_law_pick" "_law_pick" sPick f fd) (G : FnOk P w K mg base CX0 (k + 1) fD fdD ["_law_pen_here", "_law_many_here"] spDraw) (gD : mg "_law_draw" = some (.ref fD)) (kD : PySem.W.keepIn K (.ref fD) = true) (bD : Binds K fdD ["_law_pen_here", "_law_many_here"] [])
    (ml : mg "len" = none) : FnOk P w K mg base CX0 (k + 2) f fd ["_law_pen_here", "_law_some"] (spPick K) := by
  refine F.ok scPick (fun vs H Q E h => ?_) (fun cdv A outer s H vs Q E hr h => ?_)
  · obtain ⟨p, l, s, ns, c, xs, rfl, _⟩ := h
    rfl
  · obtain ⟨p, l, s, ns, c, xs, rfl, hP, hlen, hc, hS, hne, hx, hsp, q⟩ := h
    refine ⟨_, pss_one (ps_ret (pe_ix ix_or (pv 1) (pe_call G hr (by rfl) gD kD bD .nil pass0 (pa_cons (pv 0) (pa_cons (pe_callB call_len_seq (by rfl) ml PySem.boot_len (pa_cons (pv 1) pa_nil)) pa_nil))) (fun _ _ => rfl))), ?_⟩
    have hpos : 1 ≤ xs.length := by
      cases xs with
      | nil => exact absurd rfl hne
      | cons x r => rw [List.length_cons]; omega
    refine ⟨.ref s, rfl, .ref p, rfl, .ref s, rfl, s, xs, rfl, hS, p, l, ns, c, _, rfl, hP, hlen, hc, by omega, by omega, fun r H' r0 r1 hP' b' => ?_⟩
    obtain ⟨j, rfl⟩ : ∃ j : Nat, r = (j : Int) := ⟨r.toNat, by omega⟩
    have hj : j < xs.length := by omega
    have hg : xs[j]? = some xs[j] := List.getElem?_eq_getElem hj
    rcases hS with hS | hS
    · exact .inl ⟨s, xs, _, _, rfl, rfl, b'.sq hsp hS, atI_nat hg, q _ _ (List.getElem_mem hj) hP' b'⟩
    · refine .inr ⟨s, xs, _, _, rfl, rfl, ?_, atI_nat hg, q _ _ (List.getElem_mem hj) hP' b'⟩
      rcases hS with (h | ⟨o, h⟩) | h
      · exact .inl (.inl (b' _ _ hsp h))
      · exact .inl (.inr ⟨o, b' _ _ hsp h⟩)
      · exact .inr h
end
end Pn

/-! Drawn terms. -/
namespace Ad
open PySem PySem.Spec PySem.Calls PyProof.Rows L2
/-- a row: name, number of arguments, weight -/
abbrev Row := Str × Nat × Int
def RowV (K : PySem.W.Frag) (H : Hp) (r : Row) (v : V) : Prop := ∃ b, v = .ref b ∧ SqT K H b [.str r.1, .int (r.2.1 : Int), .int r.2.2]
def RowsAt (K : PySem.W.Frag) (H : Hp) (a : Addr) (R : List Row) : Prop := ∃ b y vs, SqT K H a [.ref b, y] ∧ SqT K H b vs ∧ F2 (RowV K H) R vs
theorem RowV.mono {K : PySem.W.Frag} {H H' : Hp} (k : TK H H') (r : Row) (v : V) (h : RowV K H r v) : RowV K H' r v := by
  obtain ⟨b, e, s⟩ := h
  exact ⟨b, e, k.sq s⟩
theorem RowsAt.mono {K : PySem.W.Frag} {H H' : Hp} (k : TK H H') {a : Addr} {R : List Row} (h : RowsAt K H a R) : RowsAt K H' a R := by
  obtain ⟨b, y, vs, s1, s2, f⟩ := h
  exact ⟨b, y, vs, k.sq s1, k.sq s2, f.mono (RowV.mono k)⟩
/-- rows to draw from: names that can be laid, at most three arguments, one without any -/
structure ROk (R : List Row) : Prop where
  names : ∀ r ∈ R, nameOk r.1 = true ∧ r.2.1 ≤ 3
  const : ∃ (j : Nat) (r : Row), R[j]? = some r ∧ r.2.1 = 0
  few : R.length ≤ 1000
def sz : Nat → Nat
  | 0 => 1
  | d + 1 => 1 + 3 * sz d
def dn : Nat → Nat
  | 0 => 2
  | d + 1 => 2 + 3 * dn d
theorem two_dn : ∀ d, 2 ≤ dn d
  | 0 => Nat.le_refl _
  | _ + 1 => Nat.le_add_right _ _
theorem one_sz : ∀ d, 1 ≤ sz d
  | 0 => Nat.le_refl _
  | _ + 1 => Nat.le_add_right _ _
namespace Kb
mutual
/-- all names with their arities stand in the rows -/
def Wf (rk : List Row) : T → Prop
  | .v _ => True
  | .f x ts => (∃ r ∈ rk, r.1 = x ∧ r.2.1 = ts.length) ∧ WfL rk ts
def WfL (rk : List Row) : List T → Prop
  | [] => True
  | t :: ts => Wf rk t ∧ WfL rk ts
end
theorem wfL_of {rk : List Row} : ∀ {ts : List T}, (∀ t ∈ ts, Wf rk t) → WfL rk ts
  | [], _ => True.intro
  | t :: ts, h => ⟨h t (List.mem_cons_self ..), wfL_of fun u hu => h u (List.mem_cons_of_mem _ hu)⟩
mutual
theorem Wf.mono {rk rl : List Row} (h : ∀ r ∈ rk, r ∈ rl) : ∀ {t : T}, Wf rk t → Wf rl t
  | .v _, _ => True.intro
  | .f x ts, ⟨⟨r, hr, e⟩, k⟩ => ⟨⟨r, h r hr, e⟩, WfL.mono h k⟩
theorem WfL.mono {rk rl : List Row} (h : ∀ r ∈ rk, r ∈ rl) : ∀ {ts : List T}, WfL rk ts → WfL rl ts
  | [], _ => True.intro
  | t :: ts, ⟨a, b⟩ => ⟨Wf.mono h a, WfL.mono h b⟩
end
end Kb
/-- a drawn term of a depth, its variables below a number -/
structure DT (R : List Row) (deep : Nat) (nv : Int) (t : T) : Prop where
  named : t.named = true
  dep : t.dep ≤ deep + 1
  size : t.size ≤ sz deep
  vars : ∀ j ∈ t.vars, 0 ≤ j ∧ j < nv
  wf : Kb.Wf R t
theorem pen_tk {H H' : Hp} {p l : Addr} {ns : List Int} {c : Nat} (P : Pn.Pen H p l ns c) (b : Pn.But p H H') : TK H H' := by
  obtain ⟨⟨a, d, f, e, _⟩, _⟩ := P
  intro q xs
  refine ⟨fun h => b _ _ (fun z => ?_) h, fun o h => b _ _ (fun z => ?_) h⟩
  · rw [z, e] at h
    cases h
  · rw [z, e] at h
    cases h
theorem pen_same {H H' : Hp} {p l : Addr} {ns : List Int} {c : Nat} (P : Pn.Pen H p l ns c) (s : Same H H') : Pn.Pen H' p l ns c := by
  obtain ⟨⟨a, d, f, e, r⟩, h⟩ := P
  exact ⟨⟨a, d, f, s _ _ e, r⟩, s _ _ h⟩
def spDrawn (K : PySem.W.Frag) (n : Nat) : Sp := fun vs H Q _ => ∃ (p l ra : Addr) (ns : List Int) (c deep : Nat) (nv : Int) (R : List Row), vs = [.ref p, .ref ra, .int (deep : Int), .int nv] ∧ Pn.Pen H p l ns c ∧ ns.length ≤ 1000 ∧ c + dn deep ≤ 1000000000 ∧ RowsAt K H ra R ∧ ROk R ∧
  deep < n ∧ 0 ≤ nv ∧ nv ≤ 1000 ∧ ∀ t v H' c', Tm K H' t v → DT R deep nv t → c' ≤ c + dn deep → Pn.Pen H' p l ns c' → Pn.But p H H' → Q v H'
end Ad

/-! dict(t) of a tuple of pairs. -/
namespace Dt
open PySem PySem.Spec PySem.Calls PyProof.Rows L2
theorem tuple_keys_none : typeLookup (.type "tuple") "keys" = pure none := am_miss_of_fast (by first | decide +kernel | rfl)
section
variable {prog : Program} {w : World} {A : Around} {E : Value → Shared → Prop}
/-- a tuple has no attribute 'keys' -/
theorem no_keys {s : Shared} {a : Addr} {o : Obj} {xs : Array Value} {k : Nat} {Q : Option Value → Shared → Prop} (hx : s.heap.get? a = some o) (hc : o.cls = .type "tuple") (hdat : o.data = .seq xs k) (hd : o.dict = none) (hA : A.handled = none)
    (h : ∀ h' tk, (∀ b ob, s.heap.get? b = some ob → h'.get? b = some ob) → Q none { s with heap := h', toks := tk }) : wpAny (model prog w) A (getAttr? (.ref a) "keys") Q E s := by
  obtain ⟨c, dct, dat, sl⟩ := o
  simp only at hc hdat hd
  subst hc hdat hd
  obtain ⟨hp, g, d, tk, os⟩ := s
  have isT : ∀ tk', (⟨hp, g, d, tk', os⟩ : Shared).TypeIs (.ref a) "tuple" := fun _ => ⟨_, hx, rfl⟩
  have g1 := tuple_keys_none
  have g2 : (["__module__", "__name__", "__qualname__", "__doc__", "__annotations__"] : List Str).contains "keys" = false := by decide +kernel
  have g3 : ("keys" : Str).length + 100 ≤ sizeLine := by first | size_fits | decide +kernel
  have g4 := sub_AttributeError
  have g5 := PySem.F.slot_tuple_getattribute.lookup
  have g6 := PySem.F.slot_tuple_getattribute.bind (.ref a)
  have g7 := am_tuple_getattr_none
  unfold getAttr? getAttrBy? getAttrBy
  repeat (any_goals (first | assumption | exact isT _ | ((with_reducible show wpAny _ _ (call (Value.builtin "tuple.__getattribute__") _ _) _ _ _); refine call_meets PySem.F.slot_tuple_getattribute (isT _) am_entry_tuple_getattribute (PySem.F.args_tuple_getattribute_2 _ _) (meets_getattribute_miss_tuple a xs k sl "keys" _ g1 g2 g3) ⟨hx, hA, fun h' tk' e hx' => ?_⟩) | wp_step))
  obtain ⟨t', u', he⟩ := hx'.there
  show wpAny _ _ (getattributeRaised _ _ _ _ _ _ _) _ _ _
  unfold getattributeRaised
  repeat (any_goals (first | assumption | wp_step))
  all_goals first | exact h _ _ hx'.keeps | (dsimp only; repeat (any_goals (first | assumption | exact h _ _ hx'.keeps | wp_step)))
theorem walk {R : Result → Shared → Prop} {S I l : Addr} {items : Array Value} {res : Value} (hh : A.handled = none) (lI : l ≠ I) (sI : S ≠ I) (sl : S ≠ l) :
    ∀ (rest : List (L2.Key × Value)) (i : Nat) (acc : List (L2.Key × Value)) (ix : Int) (t : Tok) (s : Shared), items.size = i + rest.length → acc.length + rest.length ≤ sizeLine →
      (∀ (j : Nat) (q : L2.Key × Value), rest[j]? = some q → ∃ (b : Addr) (u : Value), items[i + j]? = some (.ref b) ∧ b ≠ S ∧ b ≠ I ∧ IsTup s.heap b #[u, q.2] ∧ keyIs q.1 u = true) →
      s.heap.IsTupleIter I l i → s.heap.IsTuple l items → s.heap.DictOf (mixKind prog w) S acc →
      (∀ h' tk, h'.DictOf (mixKind prog w) S (merged acc rest) → (∀ b o, b ≠ S → b ≠ I → s.heap.get? b = some o → h'.get? b = some o) → R (.ok (.ret res)) { s with heap := h', toks := tk }) →
      codeAny (model prog w) A (.builtin "dict.update.loop" ⟨[.ref S, .ref I, .int ix t, res], []⟩) R s
  | [], i, acc, ix, t, s, hsz, hln, ht, hit, hl, hm, hR => by
    refine codeAny_builtin ud_entry ?_
    rw [Around.under_plainId ud_plain _]
    show wpAny _ A.in1 (pyNext (.ref I) >>= _) _ _ s
    refine wpAny_bind (wpAny_pyNext_tuple_end (A := A.in1) hh hit hl (by first | exact Array.getElem?_eq_none (Nat.le_of_eq hsz) | (simp at hsz; simp; omega)) fun h' he => ?_)
    show wpAny _ A.in1 (Builtin.Dict.addKeywords S [] >>= _) _ _ _
    refine wpAny_bind (wpAny_pure (wpAny_pure ?_))
    exact hR h' s.toks (hm.extBut he sI) fun b o _ hb e => he b o hb e
  | q :: rest, i, acc, ix, t, s, hsz, hln, ht, hit, hl, hm, hR => by
    obtain ⟨b, u, hb, hbS, hbI, htup, hk⟩ := ht 0 q rfl
    rw [List.length_cons] at hsz hln
    refine codeAny_builtin ud_entry ?_
    rw [Around.under_plainId ud_plain _]
    show wpAny _ A.in1 (pyNext (.ref I) >>= _) _ _ s
    refine wpAny_bind (wpAny_pyNext_tuple_item (x := .ref b) hit hl (by simpa using hb) fun h1 hit1 hs1 => ?_)
    have tup1 : IsTup h1 b #[u, q.2] := htup.extBut hs1.extBut hbI
    have hl1 : h1.IsTuple l items := by
      obtain ⟨o, e, r⟩ := id hl
      exact ⟨o, hs1.extBut l o lI e, r⟩
    have hm1 : h1.DictOf (mixKind prog w) S acc := hm.extBut hs1.extBut sI
    obtain ⟨o, ho, hc, n, hd⟩ := id tup1
    show wpAny _ A.in1 (holding [Value.ref b] _ >>= _) _ _ _
    refine wpAny_bind (wpAny_holding (wpAny_bind (wpAny_tryCatch ?_)))
    unfold Builtin.Dict.pairItems
    refine wpAny_bind (wpAny_typeOf (T := "tuple") ⟨o, ho, hc⟩ ?_)
    rw [if_pos (by first | decide | rfl | simp)]
    refine wpAny_bind (wpAny_seqItems ho hd (wpAny_pure ?_))
    show wpAny _ A.in1 (holding [u, q.2] (dictSet S u q.2)) _ _ _
    refine wpAny_holding (wpAny_dictSet_pairs (knd := mixKind prog w) (k := q.1) hk hm1 (fun h2 hm2 hs2 => ?_) (by omega))
    refine wpAny_pure ⟨plainId_quiet ud_plain _, walk (items := items) hh lI sI sl rest (i + 1) (stored acc q.1 q.2) (ix + 1) 0 _ (show items.size = i + 1 + rest.length by omega) ?_ (fun j q' e => ?_) ?_ ?_ hm2 fun h' tk hd' k => ?_⟩
    · have z := stored_length_le acc q.1 q.2
      omega
    · obtain ⟨b', u', hb', hbS', hbI', htup', hk'⟩ := ht (j + 1) q' (by simpa using e)
      refine ⟨b', u', ?_, hbS', hbI', (htup'.extBut hs1.extBut hbI').extBut hs2.extBut hbS', hk'⟩
      rw [show i + 1 + j = i + (j + 1) by omega]
      exact hb'
    · exact hit1.at fun o' e => hs2.extBut I o' (Ne.symm sI) e
    · obtain ⟨o', e, r⟩ := id hl1
      exact ⟨o', hs2.extBut l o' (Ne.symm sl) e, r⟩
    · exact hR h' tk hd' fun c oc h3 h4 e => k c oc h3 h4 (hs2.extBut c oc h3 (hs1.extBut c oc h4 e))
theorem new_dict {s : Shared} {l : Addr} {ol : Obj} {items : Array Value} {n : Nat} {prs : List (L2.Key × Value)} {Q : Value → Shared → Prop} (hh : A.handled = none) (hl : s.heap.get? l = some ol) (hc : ol.cls = .type "tuple") (hd : ol.dict = none)
    (hdat : ol.data = .seq items n) (hsz : items.size = prs.length) (hln : prs.length ≤ sizeLine)
    (ht : ∀ (j : Nat) (q : L2.Key × Value), prs[j]? = some q → ∃ (b : Addr) (u : Value), items[j]? = some (.ref b) ∧ IsTup s.heap b #[u, q.2] ∧ keyIs q.1 u = true)
    (h : ∀ h' tk, h'.DictOf (mixKind prog w) s.heap.objs.size (merged [] prs) → (∀ b o, s.heap.get? b = some o → h'.get? b = some o) → Q (.ref s.heap.objs.size) { s with heap := h', toks := tk }) :
    wpAny (model prog w) A (call (.type "dict") [.ref l]) Q E s := by
  refine callType_codes (Q₁ := fun v sA => v = .ref s.heap.objs.size ∧ sA = { s with heap := s.heap.push { cls := .type "dict", data := .dict #[] } }) PySem.F.kt_called_dict (PySem.F.kt_typeCall_dict_1 _) PySem.F.entry_dict_init (kt_code_dict_new _ ⟨rfl, rfl⟩) ?_
  rintro v sA ⟨rfl, rfl⟩
  have made : (s.heap.push { cls := .type "dict", data := .dict #[] }).DictOf (mixKind prog w) s.heap.objs.size [] := Heap.DictOf.new s.heap
  have k0 : ∀ b o, s.heap.get? b = some o → (s.heap.push { cls := .type "dict", data := .dict #[] }).get? b = some o := fun b o e => Heap.get?_push_of_some _ e
  refine ⟨made.typeIs, PySem.F.args_dict_init_2 _ _, ?_⟩
  unfold Builtin.«dict.__init__»
  refine wpAny_bind ?_
  unfold Builtin.Dict.selfAndRest
  refine wpAny_bind (wpAny_notOrdered_dict made.typeIs ?_)
  show wpAny _ _ (pure (s.heap.objs.size, [Value.ref l])) _ _ _
  refine wpAny_pure ?_
  show wpAny _ _ (Builtin.Dict.updateFrom "dict.__init__" s.heap.objs.size (.ref l) [] .none) _ _ _
  unfold Builtin.Dict.updateFrom
  refine wpAny_bind (wpAny_typeOf (T := "tuple") ⟨ol, k0 _ _ hl, hc⟩ ?_)
  rw [if_pos (by first | decide | rfl | simp)]
  refine wpAny_bind (no_keys (k0 _ _ hl) hc hdat hd hh fun h1 tk1 hk1 => ?_)
  rw [if_pos (show (none : Option Value).isNone = true from rfl)]
  refine wpAny_bind (wpAny_rule ?_)
  have hl1 : h1.IsTuple l items := ⟨ol, hk1 _ _ (k0 _ _ hl), hc, n, hdat⟩
  have hS1 : s.heap.objs.size < h1.objs.size := by
    have e : (s.heap.push { cls := .type "dict", data := .dict #[] }).get? s.heap.objs.size = some { cls := .type "dict", data := .dict #[] } := Heap.get?_push_size _ rfl
    exact Heap.lt_size (hk1 _ _ e)
  refine wpAny_bind (wpAny_pyIter_tuple hl1 ?_)
  have k2 : ∀ b o, h1.get? b = some o → (h1.push { cls := .type "tuple_iterator", data := .fields #[.ref l, .int 0 0] }).get? b = some o := fun b o e => Heap.get?_push_of_some _ e
  have low : l < s.heap.objs.size := Heap.lt_size hl
  have key := walk (prog := prog) (w := w) (A := A.in1) (R := wants (fun r sB => r = .none ∧ Q (.ref s.heap.objs.size) sB) E) (S := s.heap.objs.size) (I := h1.objs.size) (l := l) (items := items) (res := Value.none) hh
    (Nat.ne_of_lt (Nat.lt_trans low hS1)) (Nat.ne_of_lt hS1) (Nat.ne_of_gt low) prs 0 [] 0 0
    { s with heap := h1.push { cls := .type "tuple_iterator", data := .fields #[.ref l, .int 0 0] }, toks := tk1 } (by rw [hsz, Nat.zero_add]) (by rw [List.length_nil, Nat.zero_add]; exact hln)
    (fun j q e => by
      obtain ⟨b, u, e1, e2, e3⟩ := ht j q e
      have hb : b < s.heap.objs.size := e2.lt
      exact ⟨b, u, by rw [Nat.zero_add]; exact e1, Nat.ne_of_lt hb, Nat.ne_of_lt (Nat.lt_trans hb hS1), e2.keeps fun c o z => k2 _ _ (hk1 _ _ (k0 _ _ z)), e3⟩)
    ⟨_, Heap.get?_push_size _ rfl, rfl, rfl⟩ (by
      obtain ⟨o', e, r⟩ := id hl1
      exact ⟨o', k2 _ _ e, r⟩) ((made.at fun o e => hk1 _ _ e).at fun o e => k2 _ _ e)
    (fun h' tk hd' k => ⟨rfl, h h' tk hd' fun b o e => k b o (Nat.ne_of_lt (Heap.lt_size e)) (Nat.ne_of_lt (Nat.lt_trans (Heap.lt_size e) hS1)) (k2 _ _ (hk1 _ _ (k0 _ _ e)))⟩)
  first
    | exact wpAny_pure ⟨plainId_quiet ud_plain _, key⟩
    | exact wpAny_bind (wpAny_pure (wpAny_pure ⟨plainId_quiet ud_plain _, key⟩))
end
/-- a tuple whose object is known: it bears no dict of its own -/
def Tup0 (H : Hp) (a : Addr) (xs : List V) : Prop := ∃ o : Obj, H a = some (.frz o (.tup xs)) ∧ o.dict = none
theorem Tup0.sq {K : PySem.W.Frag} {H : Hp} {a : Addr} {xs : List V} (h : Tup0 H a xs) : SqT K H a xs := by
  obtain ⟨o, e, _⟩ := h
  exact .inl (.inr ⟨o, e⟩)
section
variable {X : Cx}
/-- dict(t), t a tuple of pairs -/
theorem call_dictT (calm : X.calm = true) : CallR X (.type "dict") (fun xs H Q => ∃ (a : Addr) (ps : List Addr) (kvs : List (L2.Key × V)), xs = [.ref a] ∧ Tup0 H a (ps.map V.ref) ∧ Paired (fun p kv => SqT X.K H p [kV kv.1, kv.2]) ps kvs ∧
    ∀ p, H p = none → Q (.ref p) (upd H p (.dK (mergeK [] kvs)))) := by
  intro pins s σ H xs us Q I r q
  obtain ⟨a, ps, kvs, rfl, ⟨o, e, hd⟩, hp, q⟩ := q
  rw [Vals.ref1 r]
  obtain ⟨ho, hz, its, rv, ⟨o', ho', hc, n, hdat⟩⟩ := (show ObjOk X.prog X.w H s.heap a (.frz o (.tup (ps.map V.ref))) from I.hok a _ e)
  rw [ho] at ho'
  cases ho'
  have ei := refs_at rv
  subst ei
  rw [List.length_map] at hz
  obtain ⟨prs, rel, hl, hpr⟩ := pairs_of I hp
  refine new_dict (prs := prs) (I.ok.hd calm) ho hc hd hdat (by simp [hl]) (by rw [hl]; exact hz) (fun j q' e => ?_) fun h' tk hd' k => ?_
  · obtain ⟨b, u, e1, e2, e3⟩ := hpr j q' e
    exact ⟨b, u, by simp [e1], e2, e3⟩
  · have hm : (s.heap.objs.size == sysModules) = false := beq_eq_false_iff_ne.mpr (Nat.ne_of_gt I.big)
    have short : (mergeK [] kvs).length ≤ sizeLine := by
      refine Nat.le_trans (length_mergeK kvs []) ?_
      rw [List.length_nil, Nat.zero_add, rel.length, hl]
      exact hz
    exact ⟨.ref s.heap.objs.size, upd H s.heap.objs.size (.dK (mergeK [] kvs)), I.laid (t' := tk) k (Nat.le_refl _) (show ObjOk X.prog X.w _ _ _ (.dK (mergeK [] kvs)) from ⟨short, hm, merged [] prs, KV.merge rel .nil, hd'⟩), rfl, q _ (I.hok.fresh (Nat.le_refl _))⟩
/-- (a, b, ..), its object known -/
def tTup0 (t : TA) : TE := fun σ H Q => t σ H fun xs G => xs.length ≤ sizeLine ∧ ∀ p o, G p = none → o.dict = none → Q (.ref p) (upd G p (.frz o (.tup xs)))
theorem pe_tup0 {es : List Expr} {t : TA} {x1 : Nat} {pos : Pos} (h : PA X es t) : PE X (.Tuple es x1 pos) (tTup0 t) := by
  refine ⟨fun pins s σ H Q I hq => ?_⟩
  refine wpAny_Tuple_spliced (thn (h.run pos pins s σ H _ I hq) fun us s1 ⟨xs, H1, I1, r, z, q⟩ => ⟨by rw [← r.length]; exact z, ?_⟩)
  refine ⟨.ref s1.heap.objs.size, _, I1.laid (t' := s1.toks) (o := .frz { cls := .type "tuple", data := .seq us.toArray } (.tup xs)) (fun b u e => Heap.get?_push_of_some _ e) (Nat.le_refl _) ?_, rfl, q _ _ (I1.hok.fresh (Nat.le_refl _)) rfl⟩
  exact ⟨Heap.get?_push_size _ rfl, z, us, r, ⟨_, Heap.get?_push_size _ rfl, rfl, _, rfl⟩⟩
/-- tuple(xs) of a list, its object known -/
theorem call_tuple0 : CallR X (.type "tuple") (fun xs H Q => ∃ p ys, xs = [.ref p] ∧ SqL X.K H p ys ∧ ∀ q o, H q = none → o.dict = none → Q (.ref q) (upd H q (.frz o (.tup ys)))) := by
  intro pins s σ H xs us Q I r h
  obtain ⟨p, ys, rfl, hq, q⟩ := h
  rw [Vals.ref1 r]
  obtain ⟨its, r', pl, hz⟩ := I.list hq
  have len := r'.length
  refine call_tuple_list pl.isList (fun h' kp => ?_) (by simp only [List.size_toArray] <;> omega)
  have I1 : Inv X pins σ H { s with heap := h' } := I.kept (t' := s.toks) kp
  refine ⟨.ref h'.objs.size, _, I1.laid (t' := s.toks) (o := .frz { cls := .type "tuple", data := .seq its.toArray } (.tup ys)) (fun b o e => Heap.get?_push_of_some _ e) (Nat.le_refl _) ?_, rfl, q _ _ (I1.hok.fresh (Nat.le_refl _)) rfl⟩
  exact ⟨Heap.get?_push_size _ rfl, hz, its, r', IsTup.new _ _⟩
end
end Dt

/-! Substitutions. -/
namespace Ad
open PySem PySem.Spec PySem.Calls PyProof.Rows L2
abbrev Sb := List (Int × T)
namespace Sb
def look : Sb → Int → Option T
  | [], _ => none
  | (j, t) :: r, i => if j = i then some t else look r i
def put (tb : Sb) (i : Int) (t : T) : Sb := if (look tb i).isSome = true then tb.map (fun e => if e.1 = i then (e.1, t) else e) else tb ++ [(i, t)]
/-- what a variable becomes -/
def asg (tb : Sb) (i : Int) : T := (look tb i).getD (.v i)
theorem look_app (tb : Sb) (i : Int) (t : T) (j : Int) : look (tb ++ [(i, t)]) j = match look tb j with
    | some u => some u
    | none => if i = j then some t else none := by
  induction tb with
  | nil => rfl
  | cons e r ih =>
    obtain ⟨k, u⟩ := e
    show (if k = j then some u else look (r ++ [(i, t)]) j) = match (if k = j then some u else look r j) with | some u => some u | none => _
    by_cases h : k = j
    · rw [if_pos h, if_pos h]
    · rw [if_neg h, if_neg h, ih]
theorem look_map (tb : Sb) (i : Int) (t : T) (j : Int) : look (tb.map (fun e => if e.1 = i then (e.1, t) else e)) j = if i = j ∧ (look tb j).isSome = true then some t else look tb j := by
  induction tb with
  | nil =>
    rw [if_neg (by intro h; cases h.2)]
    rfl
  | cons e r ih =>
    obtain ⟨k, u⟩ := e
    show look ((if k = i then (k, t) else (k, u)) :: _) j = _
    by_cases h : k = i
    · rw [if_pos h]
      show (if k = j then some t else look (r.map _) j) = if i = j ∧ (if k = j then some u else look r j).isSome = true then some t else (if k = j then some u else look r j)
      by_cases hj : k = j
      · rw [if_pos hj, if_pos hj, if_pos ⟨h.symm.trans hj, rfl⟩]
      · have ne : ¬ i = j := fun z => hj (h.trans z)
        rw [if_neg hj, if_neg hj, ih]
    · rw [if_neg h]
      show (if k = j then some u else look (r.map _) j) = if i = j ∧ (if k = j then some u else look r j).isSome = true then some t else (if k = j then some u else look r j)
      by_cases hj : k = j
      · rw [if_pos hj, if_pos hj, if_neg (fun z => h (hj.trans z.1.symm))]
      · rw [if_neg hj, if_neg hj, ih]
theorem look_put (tb : Sb) (i : Int) (t : T) (j : Int) : look (put tb i t) j = if i = j then some t else look tb j := by
  unfold put
  by_cases h : (look tb i).isSome = true
  · rw [if_pos h, look_map]
    by_cases e : i = j
    · subst e
      rw [if_pos ⟨rfl, h⟩, if_pos rfl]
    · rw [if_neg (fun z => e z.1), if_neg e]
  · rw [if_neg h, look_app]
    by_cases e : i = j
    · subst e
      rw [if_pos rfl]
      cases z : look tb i with
      | none =>
        show some t = if i = i then some t else none
        exact (if_pos rfl).symm
      | some u =>
        rw [z] at h
        exact absurd rfl h
    · rw [if_neg e, if_neg e]
      cases look tb j <;> rfl
theorem look_key (tb : Sb) (i : Int) : (look tb i).isSome = true ↔ i ∈ tb.map (·.1) := by
  induction tb with
  | nil => exact ⟨(fun h => nomatch h), (fun h => nomatch h)⟩
  | cons e r ih =>
    obtain ⟨k, u⟩ := e
    show (if k = i then some u else look r i).isSome = true ↔ i ∈ k :: r.map (·.1)
    by_cases h : k = i
    · rw [if_pos h]
      exact ⟨fun _ => h ▸ List.mem_cons_self, fun _ => rfl⟩
    · rw [if_neg h, ih, List.mem_cons]
      exact ⟨.inr, fun z => z.elim (fun y => absurd y.symm h) id⟩
theorem keys_put (tb : Sb) (i : Int) (t : T) : (put tb i t).map (·.1) = if i ∈ tb.map (·.1) then tb.map (·.1) else tb.map (·.1) ++ [i] := by
  unfold put
  by_cases h : (look tb i).isSome = true
  · rw [if_pos h, if_pos ((look_key tb i).1 h), List.map_map]
    refine List.map_congr_left fun e _ => ?_
    show (if e.1 = i then (e.1, t) else e).1 = e.1
    split <;> rfl
  · rw [if_neg h, if_neg (fun z => h ((look_key tb i).2 z)), List.map_append]
    rfl
theorem nodup_put {tb : Sb} (h : (tb.map (·.1)).Nodup) (i : Int) (t : T) : ((put tb i t).map (·.1)).Nodup := by
  rw [keys_put]
  split
  · exact h
  · rename_i z
    rw [List.nodup_append]
    exact ⟨h, List.nodup_cons.mpr ⟨(fun y => nomatch y), List.nodup_nil⟩, fun a ha b hb e => z (by rw [List.mem_singleton.mp hb] at e; exact e ▸ ha)⟩
theorem len_put (tb : Sb) (i : Int) (t : T) : (put tb i t).length ≤ tb.length + 1 := by
  unfold put
  split
  · rw [List.length_map]
    exact Nat.le_succ _
  · rw [List.length_append]
    exact Nat.le_refl _
theorem mem_look {tb : Sb} (h : (tb.map (·.1)).Nodup) {i : Int} {t : T} : (i, t) ∈ tb ↔ look tb i = some t := by
  induction tb with
  | nil => exact ⟨(fun h => nomatch h), (fun h => nomatch h)⟩
  | cons e r ih =>
    obtain ⟨k, u⟩ := e
    obtain ⟨h1, h2⟩ := List.nodup_cons.mp h
    show _ ↔ (if k = i then some u else look r i) = some t
    by_cases z : k = i
    · rw [if_pos z, List.mem_cons]
      subst z
      constructor
      · rintro (y | y)
        · cases y
          rfl
        · exact absurd (List.mem_map.mpr ⟨_, y, rfl⟩) h1
      · intro y
        cases y
        exact .inl rfl
    · rw [if_neg z, List.mem_cons, ← ih h2]
      exact ⟨fun y => y.elim (fun x => absurd (congrArg Prod.fst x).symm z) id, .inr⟩
theorem look_mem {tb : Sb} {i : Int} {t : T} (h : look tb i = some t) : (i, t) ∈ tb := by
  induction tb with
  | nil => cases h
  | cons e r ih =>
    obtain ⟨k, u⟩ := e
    have h' : (if k = i then some u else look r i) = some t := h
    by_cases z : k = i
    · rw [if_pos z] at h'
      cases h'
      subst z
      exact List.mem_cons_self
    · rw [if_neg z] at h'
      exact List.mem_cons_of_mem _ (ih h')
end Sb
namespace T
mutual
def fill (s : Int → T) : T → T
  | .v i => s i
  | .f x ts => .f x (fillL s ts)
def fillL (s : Int → T) : List T → List T
  | [] => []
  | t :: ts => fill s t :: fillL s ts
end
theorem fillL_map (s : Int → T) : ∀ ts : List T, fillL s ts = ts.map (fill s)
  | [] => rfl
  | t :: ts => congrArg (fill s t :: ·) (fillL_map s ts)
mutual
theorem fill_fill (s r : Int → T) : ∀ t : T, fill r (fill s t) = fill (fun i => fill r (s i)) t
  | .v i => rfl
  | .f x ts => congrArg (T.f x) (fillL_fill s r ts)
theorem fillL_fill (s r : Int → T) : ∀ ts : List T, fillL r (fillL s ts) = fillL (fun i => fill r (s i)) ts
  | [] => rfl
  | t :: ts => by
    show fill r (fill s t) :: fillL r (fillL s ts) = _
    rw [fill_fill s r t, fillL_fill s r ts]
    rfl
end
mutual
theorem fill_congr {s r : Int → T} : ∀ t : T, (∀ j ∈ t.vars, s j = r j) → fill s t = fill r t
  | .v i, h => h i List.mem_cons_self
  | .f x ts, h => congrArg (T.f x) (fillL_congr ts h)
theorem fillL_congr {s r : Int → T} : ∀ ts : List T, (∀ j ∈ varsL ts, s j = r j) → fillL s ts = fillL r ts
  | [], _ => rfl
  | t :: ts, h => by
    show fill s t :: fillL s ts = _
    rw [fill_congr t fun j hj => h j (List.mem_append_left _ hj), fillL_congr ts fun j hj => h j (List.mem_append_right _ hj)]
    rfl
end
mutual
theorem fill_size {s : Int → T} {M : Nat} (one : 1 ≤ M) : ∀ t : T, (∀ j ∈ t.vars, (s j).size ≤ M) → (fill s t).size ≤ t.size * M
  | .v i, h => by
    have := h i List.mem_cons_self
    show (s i).size ≤ 1 * M
    omega
  | .f x ts, h => by
    have := fillL_size one ts h
    show 1 + sizeL (fillL s ts) ≤ (1 + sizeL ts) * M
    rw [Nat.add_mul]
    omega
theorem fillL_size {s : Int → T} {M : Nat} (one : 1 ≤ M) : ∀ ts : List T, (∀ j ∈ varsL ts, (s j).size ≤ M) → sizeL (fillL s ts) ≤ sizeL ts * M
  | [], _ => Nat.zero_le _
  | t :: ts, h => by
    have h1 := fill_size one t fun j hj => h j (List.mem_append_left _ hj)
    have h2 := fillL_size one ts fun j hj => h j (List.mem_append_right _ hj)
    show size (fill s t) + sizeL (fillL s ts) ≤ (size t + sizeL ts) * M
    rw [Nat.add_mul]
    omega
end
mutual
theorem fill_dep {s : Int → T} {D : Nat} : ∀ t : T, (∀ j ∈ t.vars, (s j).dep ≤ D) → (fill s t).dep ≤ t.dep + D
  | .v i, h => by
    have := h i List.mem_cons_self
    show (s i).dep ≤ 0 + D
    omega
  | .f x ts, h => by
    have := fillL_dep ts h
    show 1 + depL (fillL s ts) ≤ 1 + depL ts + D
    omega
theorem fillL_dep {s : Int → T} {D : Nat} : ∀ ts : List T, (∀ j ∈ varsL ts, (s j).dep ≤ D) → depL (fillL s ts) ≤ depL ts + D
  | [], _ => Nat.zero_le _
  | t :: ts, h => by
    have h1 := fill_dep t fun j hj => h j (List.mem_append_left _ hj)
    have h2 := fillL_dep ts fun j hj => h j (List.mem_append_right _ hj)
    show max (dep (fill s t)) (depL (fillL s ts)) ≤ max (dep t) (depL ts) + D
    omega
end
mutual
theorem fill_named {s : Int → T} : ∀ t : T, t.named = true → (∀ j ∈ t.vars, (s j).named = true) → (fill s t).named = true
  | .v i, _, h => h i List.mem_cons_self
  | .f x ts, n, h => by
    have n' : (nameOk x && namedL ts) = true := n
    rw [Bool.and_eq_true] at n'
    show (nameOk x && namedL (fillL s ts)) = true
    rw [n'.1, fillL_named ts n'.2 h]
    rfl
theorem fillL_named {s : Int → T} : ∀ ts : List T, namedL ts = true → (∀ j ∈ varsL ts, (s j).named = true) → namedL (fillL s ts) = true
  | [], _, _ => rfl
  | t :: ts, n, h => by
    have n' : (named t && namedL ts) = true := n
    rw [Bool.and_eq_true] at n'
    show (named (fill s t) && namedL (fillL s ts)) = true
    rw [fill_named t n'.1 fun j hj => h j (List.mem_append_left _ hj), fillL_named ts n'.2 fun j hj => h j (List.mem_append_right _ hj)]
    rfl
end
def isVar (i : Int) : T → Bool
  | .v j => decide (j = i)
  | .f _ _ => false
theorem isVar_iff {i : Int} {t : T} : isVar i t = true ↔ t = .v i := by
  cases t with
  | v j =>
    show decide (j = i) = true ↔ _
    rw [decide_eq_true_eq]
    exact ⟨fun e => congrArg T.v e, fun e => T.v.inj e⟩
  | f x ts => exact ⟨(fun h => nomatch h), (fun h => nomatch h)⟩
theorem eqv_var (t : T) (i : Int) : PyData.eqv t.d (.int i) = isVar i t := by
  cases t with
  | v j =>
    show PyData.eqv (.int j) (.int i) = decide (j = i)
    rw [PyData.eqv]
    first
      | rfl
      | (cases z : decide (j = i) <;> simp_all)
  | f x ts =>
    show PyData.eqv (.tuple _) (.int i) = false
    rw [PyData.eqv]
    all_goals (intros; first | contradiction | (intro z; cases z))
end T
namespace Sb
/-- the form of a substitution: rising, nothing that stays -/
structure Norm (tb su : Sb) : Prop where
  rising : (su.map (·.1)).Pairwise (· < ·)
  has : ∀ i t, (i, t) ∈ su ↔ look tb i = some t ∧ t.isVar i = false
theorem rising_nodup {l : List Int} (h : l.Pairwise (· < ·)) : l.Nodup := h.imp fun z e => by
  rw [e] at z
  exact Int.lt_irrefl _ z
theorem Norm.one {tb tb' su su' : Sb} (a : Norm tb su) (b : Norm tb' su') (same : ∀ i, look tb i = look tb' i) : su = su' := by
  have keys : su.map (·.1) = su'.map (·.1) := by
    refine rising_one' a.rising b.rising fun j => ?_
    constructor
    · intro h
      obtain ⟨⟨i, t⟩, h1, rfl⟩ := List.mem_map.mp h
      have h2 := (a.has i t).1 h1
      rw [same] at h2
      exact List.mem_map.mpr ⟨_, (b.has i t).2 h2, rfl⟩
    · intro h
      obtain ⟨⟨i, t⟩, h1, rfl⟩ := List.mem_map.mp h
      have h2 := (b.has i t).1 h1
      rw [← same] at h2
      exact List.mem_map.mpr ⟨_, (a.has i t).2 h2, rfl⟩
  have at' : ∀ {tb su : Sb}, Norm tb su → su.map some = su.map fun e => (look tb e.1).map fun t => (e.1, t) := by
    intro tb su n
    refine List.map_congr_left fun e he => ?_
    obtain ⟨i, t⟩ := e
    rw [((n.has i t).1 he).1]
    rfl
  have e1 : su.map some = (su.map (·.1)).map fun i => (look tb i).map fun t => (i, t) := by
    rw [at' a, List.map_map]
    rfl
  have e2 : su'.map some = (su'.map (·.1)).map fun i => (look tb' i).map fun t => (i, t) := by
    rw [at' b, List.map_map]
    rfl
  have e3 : su.map some = su'.map some := by
    rw [e1, e2, keys]
    exact List.map_congr_left fun i _ => by rw [same]
  exact List.map_inj_right (fun x y h => Option.some.inj h) |>.1 e3
where
  rising_one' : ∀ {as bs : List Int}, as.Pairwise (· < ·) → bs.Pairwise (· < ·) → (∀ j, j ∈ as ↔ j ∈ bs) → as = bs
    | [], [], _, _, _ => rfl
    | [], b :: bs, _, _, h => nomatch (h b).2 List.mem_cons_self
    | a :: as, [], _, _, h => nomatch (h a).1 List.mem_cons_self
    | a :: as, b :: bs, pa, pb, h => by
      obtain ⟨a1, a2⟩ := List.pairwise_cons.mp pa
      obtain ⟨b1, b2⟩ := List.pairwise_cons.mp pb
      have e : a = b := by
        rcases List.mem_cons.mp ((h a).1 List.mem_cons_self) with z | z
        · exact z
        · rcases List.mem_cons.mp ((h b).2 List.mem_cons_self) with y | y
          · exact y.symm
          · have h1 := b1 a z
            have h2 := a1 b y
            omega
      subst e
      congr 1
      refine rising_one' a2 b2 fun j => ⟨fun m => ?_, fun m => ?_⟩
      · rcases List.mem_cons.mp ((h j).1 (List.mem_cons_of_mem _ m)) with z | z
        · have := a1 j m
          omega
        · exact z
      · rcases List.mem_cons.mp ((h j).2 (List.mem_cons_of_mem _ m)) with z | z
        · have := b1 j m
          omega
        · exact z
/-- a substitution in its form does what the table does -/
theorem Norm.asg {tb su : Sb} (n : Norm tb su) (i : Int) : asg su i = asg tb i := by
  have nd := rising_nodup n.rising
  unfold Sb.asg
  cases h : look su i with
  | some t =>
    have m := (mem_look nd).2 h
    rw [((n.has i t).1 m).1]
  | none =>
    cases h2 : look tb i with
    | none => rfl
    | some t =>
      cases h3 : t.isVar i with
      | true => exact (T.isVar_iff.1 h3).symm
      | false =>
        have m := (mem_look nd).1 ((n.has i t).2 ⟨h2, h3⟩)
        rw [h] at m
        cases m
end Sb
/-! ### in the heap -/
/-- a table's entries -/
def TV (K : PySem.W.Frag) (H : Hp) (tb : Sb) (kvs : List (L2.Key × V)) : Prop := F2 (fun e kv => kv.1 = .inl e.1 ∧ Tm K H e.2 kv.2) tb kvs
section
variable {K : PySem.W.Frag} {H H' : Hp}
theorem TV.mono (k : TK H H') {tb : Sb} {kvs : List (L2.Key × V)} (h : TV K H tb kvs) : TV K H' tb kvs := F2.mono (fun _ _ z => ⟨z.1, Tm.mono k _ _ z.2⟩) h
theorem TV.val : ∀ {tb : Sb} {kvs : List (L2.Key × V)}, TV K H tb kvs → ∀ i, (tb.look i = none ∧ valV kvs (.inl i) = none) ∨ ∃ t v, tb.look i = some t ∧ valV kvs (.inl i) = some v ∧ Tm K H t v
  | [], kvs, h, i => by
    cases (show kvs = [] from h)
    exact .inl ⟨rfl, rfl⟩
  | (j, t) :: tb, kvs, h, i => by
    obtain ⟨kv, r, rfl, ⟨e, tm⟩, rest⟩ := h
    by_cases z : j = i
    · subst z
      exact .inr ⟨t, kv.2, if_pos rfl, valV_pos e, tm⟩
    · have ne : ¬ kv.1 = .inl i := fun y => z (by rw [e] at y; exact Sum.inl.inj y)
      rw [valV_neg ne]
      have e2 : Sb.look ((j, t) :: tb) i = Sb.look tb i := if_neg z
      rw [e2]
      exact TV.val (tb := tb) rest i
theorem TV.put {tb : Sb} {kvs : List (L2.Key × V)} (h : TV K H tb kvs) (i : Int) {t : T} {v : V} (tv : Tm K H t v) : TV K H (tb.put i t) (putK kvs (.inl i) v) := by
  unfold Sb.put putK
  have e : ((kvs.any fun kv => decide (kv.1 = .inl i)) = true) = ((tb.look i).isSome = true) := by
    rw [valV_any]
    rcases h.val i with ⟨a, b⟩ | ⟨t', v', a, b, _⟩
    · rw [a, b]
      rfl
    · rw [a, b]
      rfl
  simp only [e]
  split
  · clear e
    rename_i z
    clear z
    induction tb generalizing kvs with
    | nil =>
      cases (show kvs = [] from h)
      exact rfl
    | cons x tb ih =>
      obtain ⟨kv, r, rfl, ⟨e, tm⟩, rest⟩ := h
      refine ⟨_, _, rfl, ?_, ih rest⟩
      show (if kv.1 = .inl i then (kv.1, v) else kv).1 = .inl (if x.1 = i then (x.1, t) else x).1 ∧ Tm K H (if x.1 = i then (x.1, t) else x).2 (if kv.1 = .inl i then (kv.1, v) else kv).2
      by_cases y : x.1 = i
      · rw [if_pos y, if_pos (by rw [e, y])]
        exact ⟨e, tv⟩
      · rw [if_neg y, if_neg (fun z => y (by rw [e] at z; exact Sum.inl.inj z))]
        exact ⟨e, tm⟩
  · exact F2.app h (F2.one ⟨rfl, tv⟩)
theorem TV.keys : ∀ {tb : Sb} {kvs : List (L2.Key × V)}, TV K H tb kvs → kvs.map (·.1) = (tb.map (·.1)).map Sum.inl
  | [], kvs, h => by
    cases (show kvs = [] from h)
    rfl
  | e :: tb, kvs, h => by
    obtain ⟨kv, r, rfl, ⟨z, _⟩, rest⟩ := h
    show kv.1 :: r.map (·.1) = .inl e.1 :: _
    rw [z, TV.keys (tb := tb) rest]
theorem valV_out {kvs : List (L2.Key × V)} {k : L2.Key} (h : k ∉ kvs.map (·.1)) : valV kvs k = none := by
  induction kvs with
  | nil => rfl
  | cons p r ih =>
    rw [valV_neg (fun z => h (by rw [← z]; exact List.mem_cons_self))]
    exact ih fun z => h (List.mem_cons_of_mem _ z)
/-- pairs of unlike keys: all of them -/
theorem merge_all : ∀ (more kvs : List (L2.Key × V)), ((kvs ++ more).map (·.1)).Nodup → mergeK kvs more = kvs ++ more
  | [], kvs, _ => (List.append_nil _).symm
  | p :: more, kvs, h => by
    show mergeK (putK kvs p.1 p.2) more = _
    have out : p.1 ∉ kvs.map (·.1) := by
      intro z
      rw [List.map_append, List.nodup_append] at h
      exact h.2.2 p.1 z p.1 (by rw [List.map_cons]; exact List.mem_cons_self) rfl
    rw [putK_new _ (valV_out out)]
    have e : kvs ++ [(p.1, p.2)] ++ more = kvs ++ p :: more := by rw [List.append_assoc]; rfl
    rw [merge_all more _ (by rw [e]; exact h), e]
/-- a pair of a substitution -/
def SP (K : PySem.W.Frag) (H : Hp) (e : Int × T) (b : Addr) : Prop := ∃ v, SqT K H b [.int e.1, v] ∧ Tm K H e.2 v
/-- a substitution's value -/
def Su (K : PySem.W.Frag) (H : Hp) (su : Sb) (x : V) : Prop := ∃ (a : Addr) (bs : List Addr), x = .ref a ∧ Dt.Tup0 H a (bs.map V.ref) ∧ F2 (SP K H) su bs
theorem SP.mono (k : TK H H') (e : Int × T) (b : Addr) (h : SP K H e b) : SP K H' e b := by
  obtain ⟨v, s, t⟩ := h
  exact ⟨v, k.sq s, Tm.mono k _ _ t⟩
theorem tup0_mono (k : TK H H') {a : Addr} {xs : List V} (h : Dt.Tup0 H a xs) : Dt.Tup0 H' a xs := by
  obtain ⟨o, e, d⟩ := h
  exact ⟨o, (k a xs).2 o e, d⟩
theorem Su.mono (k : TK H H') {su : Sb} {x : V} (h : Su K H su x) : Su K H' su x := by
  obtain ⟨a, bs, e, t, f⟩ := h
  exact ⟨a, bs, e, tup0_mono k t, F2.mono (SP.mono k) f⟩
/-- its pairs as entries -/
theorem sp_pairs : ∀ {su : Sb} {bs : List Addr}, F2 (SP K H) su bs → ∃ kvs, Paired (fun p kv => SqT K H p [kV kv.1, kv.2]) bs kvs ∧ TV K H su kvs
  | [], bs, h => by
    cases (show bs = [] from h)
    exact ⟨[], .nil, rfl⟩
  | e :: su, bs, h => by
    obtain ⟨b, r, rfl, ⟨v, s, t⟩, rest⟩ := h
    obtain ⟨kvs, p, q⟩ := sp_pairs (su := su) rest
    exact ⟨(.inl e.1, v) :: kvs, .cons s p, _, _, rfl, ⟨rfl, t⟩, q⟩
end
end Ad

namespace Ad
open PySem PySem.Spec PySem.Calls PyProof.Rows L2
def spFilled (K : PySem.W.Frag) (n : Nat) : Sp := fun vs H Q _ => ∃ (t : T) (x : V) (d : Addr) (tb : Sb) (kvs : List (L2.Key × V)), vs = [x, .ref d] ∧ Tm K H t x ∧ H d = some (.dK kvs) ∧ TV K H tb kvs ∧ t.dep < n ∧ t.size ≤ 10000 ∧
  ∀ v H', Same H H' → Tm K H' (T.fill tb.asg t) v → Q v H'
def spPutIn (K : PySem.W.Frag) (n : Nat) : Sp := fun vs H Q _ => ∃ (t : T) (su : Sb) (x y : V), vs = [x, y] ∧ Tm K H t x ∧ Su K H su y ∧ (su.map (·.1)).Nodup ∧ t.dep < n ∧ t.size ≤ 10000 ∧ ∀ v H', Same H H' → Tm K H' (T.fill su.asg t) v → Q v H'
end Ad

/-! The run of a generator expression: its context, its start. -/
namespace Gx
open PySem PySem.Spec PySem.Calls PyProof.Rows L2
/-- the context of the run: its frame behind those that stood at s, its iterator's objects at fp -/
abbrev ctx (X : Cx) (s : Shared) (H : Hp) (e : Env) (fp : List Addr) (A : Around) (pn : List (Addr × Obj)) : Cx :=
  { X with A := A.deeper e, s_0 := s, H_0 := H, env := e, outer := X.stack, stack := e :: X.stack, ex := fp, fn := fun _ => false, calm := true, pn := pn, xe := fun _ _ => False }
theorem over_gen {A : Around} {e : Env} {elt tg iter : Expr} {ifs : List Expr} {scope : Scope} {pos : Pos} {it acc : Value} : A.over (.compLoop (.GeneratorExp elt [⟨tg, iter, ifs, 0⟩] scope pos) 0 it acc e) [] = A.deeper e := by
  first
    | rfl
    | (obtain ⟨hd, d, fr, gs, u⟩ := A; simp [Around.over, Around.deeper, marksOver, frameCount, unitsOf, envsOf, guardsOf, pushEnvs, pushGuards, Code.envs, Code.env?, Code.isFrame, Code.guards, Code.isGuard, Code.weight, Code.frames, Code.isCreation, Code.isCaller, Code.cUnits])
theorem over_start {A : Around} {e : Env} {elt tg iter : Expr} {ifs : List Expr} {scope : Scope} {pos : Pos} {it acc : Value} : A.over (.compStart (.GeneratorExp elt [⟨tg, iter, ifs, 0⟩] scope pos) 0 it acc e) [] = A.deeper e := by
  first
    | rfl
    | (obtain ⟨hd, d, fr, gs, u⟩ := A; simp [Around.over, Around.deeper, marksOver, frameCount, unitsOf, envsOf, guardsOf, pushEnvs, pushGuards, Code.envs, Code.env?, Code.isFrame, Code.guards, Code.isGuard, Code.weight, Code.frames, Code.isCreation, Code.isCaller, Code.cUnits])
section
variable {X : Cx} {pins : List (Addr × Obj)} {σ : L2.St} {H : Hp} {s : Shared}
theorem start {scope : Scope} {own : List (PySem.Str × Nat)} {fp : List Addr} {e : Env} {A : Around} {pn pins' : List (Addr × Obj)} {s' : Shared} {m : Str → Option Value} (I : Inv X pins σ H s) (ok : BlkOk X.N X.env.scope scope own) (nodup : X.N.Nodup) (noCell : ∀ y ∈ scope.names, y.2 ≠ .cell)
    (sc : e.scope = scope) (loc : e.locals = s.heap.objs.size) (glob : e.globals = mainGlobals) (blt : e.builtins = builtinsNs) (cells : e.cells = cloFrom X.env.cells scope.names []) (fr : e.frame = some e.locals)
    (ff : ∀ b ∈ fp, FpOk X pins H b ∧ b < s.heap.objs.size) (calm : A.handled = none) (frames : A.frames = some X.stack)
    (kp : ∀ b o, s.heap.get? b = some o → s'.heap.get? b = some o) (os : s'.os = s.os) (bare : AllBare s'.gens) (ns : s'.heap.Ns e.locals m)
    (pinned : ∀ p ∈ pn ++ pins', s'.heap.get? p.1 = some p.2 ∧ s.heap.objs.size < p.1 ∧ ∀ v, p.2.data ≠ .cell v) :
    Inv (ctx X s H e fp A pn) pins' (wipe σ (own.map (·.2))) H s' := by
  have from' : ∀ {y c}, e.cells.lookup y = some c → X.env.cells.lookup y = some c ∧ c < s.heap.objs.size := by
    intro y c h
    rw [cells] at h
    rcases cloFrom_mem (PySem.mem_of_lookup h) with z | ⟨h1, rfl⟩
    · cases z
    · obtain ⟨c, hc⟩ : ∃ c, X.env.cells.lookup y = some c := by
        rcases ok.free _ h1 rfl with k | k
        · exact I.ok.has _ (.inl k)
        · exact I.ok.has _ (.inr k)
      rw [hc]
      obtain ⟨w, z⟩ := I.cell _ _ hc
      exact ⟨rfl, z.lt⟩
  have to' : ∀ {y}, scope.names.lookup y = some .free → ∃ c, e.cells.lookup y = some c ∧ X.env.cells.lookup y = some c := by
    intro y h
    obtain ⟨c, hc⟩ := mem_lookup (cloFrom_has (cells := X.env.cells) (acc := []) (PySem.mem_of_lookup h))
    rw [← cells] at hc
    exact ⟨c, hc, (from' hc).1⟩
  refine ⟨?_, os, bare, Un.kept kp, ⟨m, ns, ?_⟩, ?_, ?_, ?_, ?_, I.hok.kept kp, ?_⟩
  · refine ⟨I.ok.mod, ?_, glob, blt, ?_, ?_, ?_, (fun x c z => nomatch z), fun _ => calm, Around.frames_deeper frames, .inr ⟨rfl, fr⟩, ?_, I.bs, Nat.le_trans I.ok.bsz I.sz, ?_, ?_, I.stack, I.stkFree⟩
    · show e.scope.kind = _
      rw [sc]
      exact ok.kind
    · show s.heap.objs.size ≤ e.locals
      rw [loc]
      exact Nat.le_refl _
    · intro x y c h1 h2
      exact I.ok.inj x y c (from' h1).1 (from' h2).1
    · intro x hx
      show ∃ c, e.cells.lookup x = some c
      have key : ∀ k, e.kindOf x = some k → (k = .cell ∨ k = .free) → ∃ c, e.cells.lookup x = some c := by
        intro k hk hk'
        unfold Env.kindOf at hk
        rw [sc] at hk
        rcases hk' with rfl | rfl
        · exact absurd rfl (noCell _ (PySem.mem_of_lookup hk))
        · obtain ⟨c, h, _⟩ := to' hk
          exact ⟨c, h⟩
      rcases hx with hx | hx
      · exact key _ hx (.inl rfl)
      · exact key _ hx (.inr rfl)
    · intro b hb
      refine ⟨?_, fun y c h z => ?_⟩
      · show b ≠ e.locals
        rw [loc]
        exact Nat.ne_of_lt (ff b hb).2
      · exact (ff b hb).1.2.2.2.2.1 y c (from' h).1 z
    · intro b o h hb
      rcases (ff b hb).1.2.2.2.1 with z | z
      · exact I.ok.noex b o h z
      · exact absurd (Nat.lt_of_lt_of_le (Heap.lt_size h) (Nat.le_trans I.ok.bsz z)) (Nat.lt_irrefl _)
    · intro b hb z
      rcases List.mem_cons.mp (I.stkSub b z) with z | z
      · exact (ff b hb).1.2.1 z
      · exact (ff b hb).1.2.2.1 z
  · intro i x v h1 h2 h3
    obtain ⟨h2, off⟩ := wipe_some h2
    have isFree : scope.names.lookup x = some .free := by
      have h3 : Vis e.scope x := h3
      rw [sc] at h3
      have no : ∀ k, scope.names.lookup x = some k → k = .local → False := by
        intro k hk hl
        rcases ok.own _ (PySem.mem_of_lookup hk) (.inl hl) with z | z
        · obtain ⟨p, hp, hpx⟩ := List.mem_map.mp z
          have h4 := ok.ix p hp
          have h5 : p.1 = x := hpx
          rw [h5] at h4
          exact off (List.mem_map.mpr ⟨p, hp, nodup_ix nodup h4 h1⟩)
        · exact z (List.mem_of_getElem? h1)
      rcases h3 with k | k | k
      · exact (no _ k rfl).elim
      · exact absurd rfl (noCell _ (PySem.mem_of_lookup k))
      · exact k
    obtain ⟨m0, _, look⟩ := I.loc
    have vis : Vis X.env.scope x := (ok.free _ (PySem.mem_of_lookup isFree) rfl).elim (fun k => .inr (.inl k)) fun k => .inr (.inr k)
    obtain ⟨u, r, q⟩ := look i x v h1 h2 vis
    obtain ⟨c, c1, c2⟩ := to' isFree
    refine ⟨u, r, .inr ⟨.inr ?_, c, c1, ?_⟩⟩
    · show e.scope.names.lookup x = some .free
      rw [sc]
      exact isFree
    · rcases q with ⟨k, _⟩ | ⟨_, c', e', z⟩
      · have k : X.env.scope.names.lookup x = some .local := k
        rcases ok.free _ (PySem.mem_of_lookup isFree) rfl with k' | k' <;> rw [show X.env.scope.names.lookup x = _ from k'] at k <;> cases k
      · rw [c2] at e'
        cases e'
        exact z.keeps kp
  · intro x c h
    obtain ⟨v, z⟩ := I.cell x c (from' h).1
    exact ⟨v, z.keeps kp⟩
  · show H e.locals = none
    rw [loc]
    exact I.hok.fresh (Nat.le_refl _)
  · intro x c h
    exact I.freeC x c (from' h).1
  · intro p hp
    obtain ⟨h1, h2, h3⟩ := pinned p hp
    refine ⟨h1, I.hok.fresh (Nat.le_of_lt h2), ?_, ?_, h3⟩
    · show p.1 ≠ e.locals
      rw [loc]
      exact Nat.ne_of_gt h2
    · intro z
      rcases List.mem_cons.mp (I.stkSub _ z) with z | z
      · have := I.lt
        rw [z] at h2
        exact absurd (Nat.lt_trans h2 this) (Nat.lt_irrefl _)
      · exact I.nofs (Nat.le_of_lt h2) z
  · rw [wipe_length]
    exact I.len
end
end Gx

/-! The run of a generator expression: its loop. -/
namespace Gx
open PySem PySem.Spec PySem.Calls PyProof.Rows L2
/-- what the run will hand out: J the walk; W turn, measure, what is out, heap -/
def Turns (J : It) (g : TG) (tt : TT) (te : TE) (vs : List Nat) (σ : L2.St) (cont : List V → Hp → Prop) (W : Nat → Nat → List V → Hp → Prop) : Prop := ∀ i m ys H, W i m ys H →
  (J.stop i H ∧ cont ys H) ∨ (J.go i H ∧ ∃ Nx : List V → Hp → Prop, (∀ ys' H', Nx ys' H' → ∃ m', m' < m ∧ W (i + 1) m' ys' H') ∧ ∀ x H', J.yld i H x H' → g x (wipe σ vs) H' fun σ2 H2 => wipe σ2 vs = wipe σ vs ∧ tt σ2 H2 fun b H3 =>
    if b = true then te σ2 H3 fun y H4 => ys.length < sizeLine ∧ Nx (ys ++ [y]) H4 else Nx ys H3)
/-- the end of such a run -/
def End (Y : Cx) (S : Addr) (cont : List V → Hp → Prop) : GenEnd := fun n _ r s => r = .ok .next ∧ ∃ ys ip σ H, n + ys.length = sizeLine ∧ GI Y S ip ys σ H s ∧ cont ys H
section
variable {Y : Cx} {A : Around} {S it : Addr} {fp : List Addr} {tn : Nat → Heap → Prop} {J : It} {elt tg iter : Expr} {ifs : List Expr} {scope : Scope} {pos : Pos} {g : TG} {tt : TT} {te : TE} {vs : List Nat} {σ : L2.St} {cont : List V → Hp → Prop} {W : Nat → Nat → List V → Hp → Prop}
theorem run (hov : A.over (.compLoop (.GeneratorExp elt [⟨tg, iter, ifs, 0⟩] scope pos) 0 (.ref it) .none Y.env) [] = Y.A) (calm : Y.calm = true) (co : Y.env.scope.isCoroutine = false) (noX : ∀ e s, Y.xe e s → False) (T : Turn Y.prog Y.w Y.K tg J fp it tn) (ex : Y.ex = fp)
    (pnS : ∀ p ∈ Y.pn, p.1 ≠ S) (pnF : ∀ p ∈ Y.pn, p.1 ∉ fp) (young : Apart Y S) (offS : S ∉ fp) (pg : PG Y tg g) (pt : PTs Y ifs tt) (pe : PE Y elt te) (turns : Turns J g tt te vs σ cont W) :
    ∀ (m n i : Nat) (ys : List V) (s₀ s : Shared) (H : Hp), n + ys.length = sizeLine → W i m ys H → GI Y S [] ys (wipe σ vs) H s → tn i s.heap → (∀ b ∈ fp, H b = none) →
      Seg (model Y.prog Y.w) A (End Y S cont) (GY Y S) n s₀ (.compLoop (.GeneratorExp elt [⟨tg, iter, ifs, 0⟩] scope pos) 0 (.ref it) .none Y.env)
        ((model Y.prog Y.w).den (.compLoop (.GeneratorExp elt [⟨tg, iter, ifs, 0⟩] scope pos) 0 (.ref it) .none Y.env)) [] s := by
  intro m
  induction m using Nat.strongRecOn with
  | ind m ih =>
    intro n i ys s₀ s H len w gi st none0
    obtain ⟨acc, cc, rv, I⟩ := gi
    have apart : ∀ {σ' : L2.St} {H' : Hp} {s' : Shared}, Inv Y [(S, lstObj acc cc)] σ' H' s' → (∀ b ∈ fp, H' b = none) → ∀ b ∈ fp, FpOk Y [(S, lstObj acc cc)] H' b := by
      intro σ' H' s' I' hn b hb
      have hb' : b ∈ Y.ex := by rw [ex]; exact hb
      refine ⟨hn b hb, (I'.ok.exf b hb').1, I'.ok.exfs b hb', .inl hb', fun x c e => (I'.ok.exf b hb').2 x c e, fun p hp z => ?_⟩
      rcases List.mem_append.mp hp with q | q
      · exact pnF p q (z ▸ hb)
      · rw [List.mem_singleton.mp q] at z
        have z' : S = b := z
        rw [← z'] at hb
        exact offS hb
    show Seg _ A _ _ _ s₀ _ ((compTurn (.GeneratorExp elt [⟨tg, iter, ifs, 0⟩] scope pos) 0 (.ref it) .none Y.env).onRaise (leaving Y.env)) [] s
    rw [compTurn_gen, Sem.onRaise_eq_wrap]
    refine seg_bind_wrap (wpAny_standAt ?_)
    refine seg_bind_wrap ?_
    rw [hov]
    rcases turns i m ys H w with ⟨stop, here⟩ | ⟨more, Nx, down, step⟩
    · refine wpAny_mono (T.done Y rfl rfl rfl calm i [(S, lstObj acc cc)] s _ H (fun _ _ => False) I (apart I none0) st stop) (fun r s6 r6 => ?_) fun x s' q => q.elim
      obtain ⟨rfl, I6⟩ := r6
      exact seg_end (.ok .next) ⟨rfl, ys, [], _, H, len, ⟨acc, cc, rv, I6⟩, here⟩
    · refine wpAny_mono (T.item Y rfl rfl rfl calm i [(S, lstObj acc cc)] s _ H (fun _ _ => False) I (apart I none0) st more) (fun r s6 r6 => ?_) fun x s' q => q.elim
      obtain ⟨u, rfl, h6⟩ := r6
      refine seg_bind_wrap ?_
      rw [hov]
      refine wpAny_mono h6 (fun _ s7 r7 => ?_) fun x s' q => q.elim
      obtain ⟨x, H7, I7, rx, y7, st7, n7⟩ := r7
      refine seg_bind_wrap ?_
      rw [hov]
      refine wpAny_mono (pg.run _ s7 _ H7 x u _ (I7.pinned (apart I7 n7) (T.obj _ _ st7)) rx (step x H7 y7)) (fun _ s8 r8 => ?_) fun x s' q => (noX _ _ q).elim
      obtain ⟨σ8, H8, I8, same, q8⟩ := r8
      refine seg_bind_wrap ?_
      rw [hov]
      refine wpAny_mono (pt.run _ s8 σ8 H8 _ I8 q8) (fun b s9 r9 => ?_) fun x s' q => (noX _ _ q).elim
      obtain ⟨H9, I9, q9⟩ := r9
      have lenσ : (wipe σ vs).length = σ8.length := by
        rw [← same]
        exact wipe_length ..
      have onward : ∀ {s' : Shared} {H' : Hp} {acc' : Array Value} {c' : Nat} {ys' : List V}, Vals ys' acc'.toList → Inv Y ([(S, lstObj acc' c')] ++ pinsAt fp s7.heap) σ8 H' s' → Nx ys' H' → ∀ n', n' + ys'.length = sizeLine → ∀ s₀',
          Seg (model Y.prog Y.w) A (End Y S cont) (GY Y S) n' s₀' (.compLoop (.GeneratorExp elt [⟨tg, iter, ifs, 0⟩] scope pos) 0 (.ref it) .none Y.env)
            ((model Y.prog Y.w).den (.compLoop (.GeneratorExp elt [⟨tg, iter, ifs, 0⟩] scope pos) 0 (.ref it) .none Y.env)) [] s' := by
        intro s' H' acc' c' ys' rv' I' nx n' len' s₀'
        obtain ⟨m', less, w'⟩ := down ys' H' nx
        have pinned : ∀ b ∈ fp, ∀ o, s7.heap.get? b = some o → s'.heap.get? b = some o ∧ H' b = none := by
          intro b hb o e
          have z := I'.pin (b, o) (List.mem_append_right _ (List.mem_append_right _ (mem_pinsAt hb e)))
          exact ⟨z.1, z.2.1⟩
        refine ih m' less n' (i + 1) ys' s₀' s' H' len' w' ⟨acc', c', rv', (I'.unpinned).weak lenσ ?_⟩ (T.keep _ _ _ st7 fun b hb o e => (pinned b hb o e).1) ?_
        · intro j v e
          rw [← same] at e
          exact (wipe_some e).1
        · intro b hb
          obtain ⟨o, e, _⟩ := T.obj _ _ st7 b hb
          exact (pinned b hb o e).2
      cases b with
      | false =>
        rw [if_neg Bool.false_ne_true] at q9
        simp only [Bool.false_eq_true, if_false]
        exact seg_again rfl (onward rv I9 q9 n len s₀)
      | true =>
        rw [if_pos rfl] at q9
        simp only [if_true]
        have hy : ∀ v, yieldOut Y.env v = yieldValue v := fun v => by simp only [yieldOut, co, Bool.false_eq_true, if_false]
        simp only [hy]
        rw [Sem.bind_eq_wrap', Sem.bind_eq_wrap', Sem.wrap_wrap, Sem.wrap_wrap]
        refine seg_wrap ?_
        rw [hov]
        refine wpAny_mono (pe.run _ s9 σ8 H9 _ I9 q9) (fun z s10 r10 => ?_) fun x s' q => (noX _ _ q).elim
        obtain ⟨yv, H10, I10, ry, room, nx⟩ := r10
        obtain ⟨n', rfl⟩ : ∃ n', n = n' + 1 := ⟨n - 1, by omega⟩
        have hip : ∀ p ∈ pinsAt fp s7.heap, p.1 ≠ S := fun p hp z => offS (z ▸ (of_pinsAt hp).1)
        have gi10 : GI Y S (pinsAt fp s7.heap) ys σ8 H10 s10 := ⟨acc, cc, rv, I10⟩
        refine seg_at (seg_yield rfl rfl rfl ⟨ys, yv, pinsAt fp s7.heap, σ8, H10, len, ry, gi10, fun s'' slept => ?_⟩)
        obtain ⟨acc', c', rv', I'⟩ := gi10.woken pnS hip young ry slept
        refine seg_again rfl (onward rv' I' nx n' ?_ s'')
        rw [List.length_append, List.length_singleton]
        omega
end
end Gx

/-! A generator expression as a value. -/
namespace Gx
open PySem PySem.Spec PySem.Calls PyProof.Rows L2 GxR
/-- (elt for tg in iter if ..); P: the def's table of code objects -/
def tGen (P : Addr) (wi : TI) (g : TG) (tt : TT) (te : TE) (vs : List Nat) : TGen := fun σ H cont => wi σ H fun J G => TabG G P ∧ ∀ G2, Tabbed P G G2 → ∃ W : Nat → Nat → List V → Hp → Prop, (∃ m, W 0 m [] G2) ∧ Turns J g tt te vs σ cont W
abbrev gEnv (X : Cx) (scope : Scope) (C : Addr) (cv : Value) : Env := genEnv scope (cloFrom X.env.cells scope.names []) C cv builtinsNs X.env
section
variable {X : Cx} {c P : Addr} {elt tg iter : Expr} {ifs : List Expr} {scope : Scope} {own : List (PySem.Str × Nat)} {pos : Pos} {wi : TI} {g : TG} {tt : TT} {te : TE} {k : Nat}
theorem pgen (room : Room (k + 1) X.A) (TB : TabB X.base X.mg c P) (code : X.env.code = .ref c) (nodup : X.N.Nodup) (walked : PI X tg iter wi) (blk : BlkOk X.N X.env.scope scope own) (noCell : ∀ y ∈ scope.names, y.2 ≠ .cell) (dot : scope.names.lookup (".0" : PySem.Str) = some NameKind.local) (co : scope.isCoroutine = false)
    (gg : ∀ (s : Shared) (H : Hp) (C : Addr) (cv : Value) (fp : List Addr) (A : Around) (pn : List (Addr × Obj)), PG (ctx X s H (gEnv X scope C cv) fp A pn) tg g)
    (gt : ∀ (s : Shared) (H : Hp) (C : Addr) (cv : Value) (fp : List Addr) (A : Around) (pn : List (Addr × Obj)), Room k (A.deeper (gEnv X scope C cv)) → PTs (ctx X s H (gEnv X scope C cv) fp A pn) ifs tt)
    (ge : ∀ (s : Shared) (H : Hp) (C : Addr) (cv : Value) (fp : List Addr) (A : Around) (pn : List (Addr × Obj)), Room k (A.deeper (gEnv X scope C cv)) → PE (ctx X s H (gEnv X scope C cv) fp A pn) elt te)
    (fold : ∀ v, genFold iter X.env v = pure v := by intro _; rfl) : PGen X (k + 1) (.GeneratorExp elt [⟨tg, iter, ifs, 0⟩] scope pos) (tGen P wi g tt te (own.map (·.2))) fun _ _ _ => False := by
  constructor
  intro pins s σ H cont I0 want
  have free : ∀ y ∈ scope.names, y.2 = .free → ∃ c, X.env.cells.lookup y.1 = some c := by
    intro y hy e
    rcases blk.free y hy e with z | z
    · exact I0.ok.has _ (.inl z)
    · exact I0.ok.has _ (.inr z)
  refine wpAny_GeneratorExp_make co (closure_ok free) noCell dot blk.kind (by have := room.dp; omega) ?_ fold
  refine thn (walked.run pins s σ H _ I0 want) fun xv s1 r1 => thn r1 fun itv s2 r2 => ?_
  obtain ⟨it, fp, tn, J, H2, rfl, I2, T, st2, f2, ⟨tab, hP, ht⟩, q⟩ := r2
  refine ⟨I2.nolimit, ?_⟩
  have tabS : s2.heap.get? P = some { cls := .none, data := .fields tab } := I2.hok P _ hP
  have cd : PySem.W.CodeHd s2.heap c P := TB.code.keeps fun b u e => I2.bk b u e
  have fpP : ∀ b ∈ fp, b ≠ P := by
    intro b hb z
    have e := (f2 b hb).1
    rw [z, hP] at e
    cases e
  have goOn : ∀ (cv : Value) (h3 : Heap) (tk : Nat) (tab' : Array Value), Heap.ExtBut P s2.heap h3 → s2.heap.objs.size ≤ h3.objs.size → h3.get? P = some { cls := .none, data := .fields tab' } → (∃ more, tab' = tab ++ more) → TriplesOk tab'.toList →
      wpAny (model X.prog X.w) X.A (builtinsFor X.env.globals X.env.builtins) (fun bi s₄ =>
        ∀ h', h'.Ns s₄.heap.objs.size (fun y => if y = ".0" then some (.ref it) else none) → Heap.SameBut s₄.heap.objs.size (s₄.heap.push { cls := .type "frame", data := .dict #[] }) h' →
          (fun u s' => ∃ H1 sc ex, Inv X pins σ H1 sc ∧ ExOk X pins ex ∧ GMade X.prog X.w (k + 1) X.stack H1 sc ex cont (fun _ _ _ => False) u s') (.ref h'.objs.size) { s₄ with
            gens := s₄.gens.push (.fresh (.compStart (.GeneratorExp elt [⟨tg, iter, ifs, 0⟩] scope pos) 0 (.ref it) .none (genEnv scope (cloFrom X.env.cells scope.names []) s₄.heap.objs.size cv bi X.env))),
            toks := s₄.toks + 1 + 1 + 1,
            heap := h'.push { cls := .type "generator", data := .fields #[.int s₄.gens.size 0, .str "<genexpr>" (s₄.toks + 1), .str (X.env.qual ++ "<genexpr>") (s₄.toks + 1 + 1)] } }) X.xe { s2 with heap := h3, toks := tk } := by
    intro cv h3 tk tab' ext grown tab3 more ok3
    obtain ⟨bm, ob, e1, e2, e3, e4, e5, e6, e7, e8⟩ := TB.bm
    refine wpAny_builtinsFor (m := X.mg) (by rw [I2.ok.glob]; exact (I2.mod.glob.keeps I2.bk).extBut ext TB.gP) e1 e2 (ext _ _ e4 (I2.bk _ _ e5)) e6 e7 e8 ?_
    intro h' hn' hs'
    obtain ⟨mo, em⟩ := more
    have I3 : Inv X pins σ (upd H2 P (.tbl (tab ++ mo))) { s2 with heap := h3, toks := tk } :=
      inv_tab (more := mo) (h' := h3) (g' := s2.gens) (d' := s2.drawn) (t' := tk) I2 hP (fun b u hb e => ext b u hb e) (by rw [← em]; exact tab3) I2.bare
    have tb3 : Tabbed P H2 (upd H2 P (.tbl (tab ++ mo))) := ⟨⟨tab ++ mo, upd_same, by rw [← em]; exact ok3⟩, fun b hb => upd_ne hb⟩
    obtain ⟨W, ⟨m0, w0⟩, turns⟩ := q _ tb3
    have f3 : ∀ b ∈ fp, FpOk X pins (upd H2 P (.tbl (tab ++ mo))) b := fun b hb => ⟨by rw [upd_ne (fpP b hb)]; exact (f2 b hb).1, (f2 b hb).2⟩
    have lt3 : ∀ b ∈ fp, b < h3.objs.size := by
      intro b hb
      obtain ⟨_, e, _⟩ := T.obj _ _ st2 b hb
      exact Nat.lt_of_lt_of_le (Heap.lt_size e) grown
    have st3 : tn 0 h3 := T.keep _ _ _ st2 fun b hb o e => ext b o (fpP b hb) e
    generalize upd H2 P (.tbl (tab ++ mo)) = H3 at I3 w0 f3
    generalize e3s : ({ s2 with heap := h3, toks := tk } : Shared) = s3 at I3
    have hh3 : s3.heap = h3 := congrArg Shared.heap e3s.symm
    clear e3s
    subst hh3
    have sz' : h'.objs.size = s3.heap.objs.size + 1 := by
      rw [hs'.1]
      exact Heap.size_push ..
    have kp' : ∀ b o, s3.heap.get? b = some o → h'.get? b = some o := fun b o e => hs'.extBut b o (Nat.ne_of_lt (Heap.lt_size e)) (Heap.get?_push_of_some _ e)
    refine ⟨H3, s3, fp, I3, fun b hb => ⟨(f3 b hb).2.2.2.1, (f3 b hb).2.1, (f3 b hb).2.2.2.2.1, (f3 b hb).2.2.2.2.2⟩, ?_⟩
    generalize ego : ({ cls := .type "generator", data := .fields #[.int s3.gens.size 0, .str "<genexpr>" (s3.toks + 1), .str (X.env.qual ++ "<genexpr>") (s3.toks + 1 + 1)] } : Obj) = go
    have isGen : ∀ h : Heap, h.get? h'.objs.size = some go → h.IsGen h'.objs.size s3.gens.size := by
      intro h e
      subst ego
      exact ⟨_, _, _, e, rfl, rfl, rfl⟩
    have pushed : (h'.push go).get? h'.objs.size = some go := by
      subst ego
      exact Heap.get?_push_size _ rfl
    have goData : ∀ v, go.data ≠ .cell v := by
      subst ego
      intro v z
      cases z
    have kpush : ∀ b o, s3.heap.get? b = some o → (h'.push go).get? b = some o := fun b o e => Heap.get?_push_of_some _ (kp' b o e)
    refine ⟨h'.objs.size, s3.gens.size, _, rfl, by rw [sz']; exact Nat.le_succ _, by show _ < (h'.push go).objs.size; rw [Heap.size_push]; exact Nat.lt_succ_self _, isGen _ pushed, Array.getElem?_push_size .., rfl, AllBare.push I3.bare rfl, ?_, fun b o e => kpush b o (e), ?_⟩
    · exact I3.nolimit.keeps fun b o e => kpush b o (e)
    intro A S s9 room9 frames9 young9 keep9 atS os9 bare9
    obtain ⟨cS, atS⟩ := atS
    have young9 : (h'.push go).objs.size ≤ S := young9
    rw [Heap.size_push] at young9
    have goAt : s9.heap.get? h'.objs.size = some go := keep9 _ _ pushed
    have kp9 : ∀ b o, s3.heap.get? b = some o → s9.heap.get? b = some o := fun b o e => keep9 b o (kpush b o (e))
    have ns9 : s9.heap.Ns (gEnv X scope s3.heap.objs.size cv).locals (fun y => if y = ".0" then some (.ref it) else none) := (hn'.push go).keeps fun b o e => keep9 b o e
    have I9 : Inv (ctx X s3 H3 (gEnv X scope s3.heap.objs.size cv) fp A [(h'.objs.size, go)]) [(S, lstObj #[] cS)] (wipe σ (own.map (·.2))) H3 s9 := by
      refine start I3 blk nodup noCell rfl rfl I0.ok.glob rfl rfl rfl (fun b hb => ⟨f3 b hb, lt3 b hb⟩) room9.hd frames9 kp9 os9 bare9 ns9 ?_
      intro p hp
      rcases List.mem_append.mp hp with z | z
      · rw [List.mem_singleton.mp z]
        refine ⟨goAt, ?_, goData⟩
        show s3.heap.objs.size < h'.objs.size
        rw [sz']
        exact Nat.lt_succ_self _
      · rw [List.mem_singleton.mp z]
        refine ⟨atS, ?_, fun v y => by cases y⟩
        show s3.heap.objs.size < S
        exact Nat.lt_of_lt_of_le (by rw [sz']; exact Nat.lt_succ_of_lt (Nat.lt_succ_self _)) young9
    have ltS : s3.heap.objs.size < S := Nat.lt_of_lt_of_le (by rw [sz']; exact Nat.lt_succ_of_lt (Nat.lt_succ_self _)) young9
    have apS : Apart (ctx X s3 H3 (gEnv X scope s3.heap.objs.size cv) fp A [(h'.objs.size, go)]) S := by
      refine ⟨by show s3.heap.objs.size ≤ S; exact Nat.le_of_lt ltS, Nat.ne_of_gt ltS, fun x c' e z => ?_⟩
      have e : (cloFrom X.env.cells scope.names []).lookup x = some c' := e
      rcases cloFrom_mem (PySem.mem_of_lookup e) with y | ⟨h1, rfl⟩
      · cases y
      · obtain ⟨c0, hc⟩ := free _ h1 rfl
        rw [hc] at z
        have z : c0 = S := z
        obtain ⟨v, y⟩ := I3.cell _ _ hc
        have lt := y.lt
        rw [z] at lt
        exact Nat.lt_irrefl _ (Nat.lt_trans lt ltS)
    have offS : S ∉ fp := fun z => Nat.lt_irrefl _ (Nat.lt_trans (lt3 S z) ltS)
    have st9 : tn 0 s9.heap := T.keep _ _ _ st3 fun b hb o e => kp9 b o e
    have deep := room9.deeper (gEnv X scope s3.heap.objs.size cv)
    have loop := run (Y := ctx X s3 H3 (gEnv X scope s3.heap.objs.size cv) fp A [(h'.objs.size, go)]) (A := A) (S := S) (it := it) (elt := elt) (tg := tg) (ifs := ifs) (scope := scope) (iter := iter) (pos := pos) (cont := cont) over_gen rfl co (fun _ _ z => z) T rfl
      (fun p hp => by rw [List.mem_singleton.mp hp]; exact Nat.ne_of_lt (Nat.lt_of_lt_of_le (Nat.lt_succ_self _) young9)) (fun p hp z => by
        rw [List.mem_singleton.mp hp] at z
        have := lt3 _ z
        rw [sz'] at this
        exact Nat.lt_irrefl _ (Nat.lt_trans (Nat.lt_succ_self _) this)) apS offS
      (gg s3 H3 s3.heap.objs.size cv fp A [(h'.objs.size, go)]) (gt s3 H3 s3.heap.objs.size cv fp A [(h'.objs.size, go)] deep) (ge s3 H3 s3.heap.objs.size cv fp A [(h'.objs.size, go)] deep) turns
      m0 sizeLine 0 [] s9 s9 H3 (Nat.add_zero _) w0 ⟨#[], cS, .nil, I9⟩ st9 (fun b hb => (f3 b hb).1)
    refine seg_imp (R := End (ctx X s3 H3 (gEnv X scope s3.heap.objs.size cv) fp A [(h'.objs.size, go)]) S cont) (Y := GY (ctx X s3 H3 (gEnv X scope s3.heap.objs.size cv) fp A [(h'.objs.size, go)]) S) (fun n s₀ r s1' hR => ?_) (fun n s₀ v s1' kap kap' hkk hY => ?_) sizeLine ?_
    · obtain ⟨rfl, ys, ip, σ', H', len, gi, fin⟩ := hR
      obtain ⟨a1, _, _, acc, cc, ra, ea⟩ := gi.at
      obtain ⟨_, _, _, K9⟩ := gi
      exact .inl ⟨.inr rfl, H', ys, acc, cc, K9.os, K9.bare, K9.base, K9.hok, a1, ea, ra, by omega, fin⟩
    · obtain ⟨ys, xx, ip, σ', H', len, h2, gi, h4⟩ := hY
      obtain ⟨_, _, _, acc, cc, ra, ea⟩ := gi.at
      obtain ⟨_, _, _, K9⟩ := gi
      have hg := isGen _ (K9.pin (h'.objs.size, go) (List.mem_append_left _ (List.mem_singleton.mpr rfl))).1
      have size : acc.size = ys.length := by
        have l1 := ra.length
        have l2 : acc.toList.length = acc.size := by simp
        omega
      exact ⟨K9.os, K9.bare, K9.nolimit, hg, ⟨acc, cc, ea, by rw [size]; exact len⟩, fun s' z => hkk _ _ (h4 s' z)⟩
    · show Seg _ A _ _ _ s9 _ ((compStart (.GeneratorExp elt [⟨tg, iter, ifs, 0⟩] scope pos) 0 (.ref it) .none (gEnv X scope s3.heap.objs.size cv)).onRaise (leaving (gEnv X scope s3.heap.objs.size cv))) [] s9
      unfold compStart
      rw [Sem.onRaise_eq_wrap]
      show Seg _ A _ _ _ s9 _ ((ask >>= _).wrap _ _ _ _) [] s9
      refine seg_bind_wrap (wpAny_askSetting ?_)
      split
      · exact seg_again rfl loop
      · first
          | exact seg_bind_wrap (wpAny_rule (seg_bind_wrap (wpAny_standAt (seg_bind_wrap (T.self _ 0 s9 _ _ st9 (seg_again rfl loop))))))
          | (refine seg_bind_wrap (wpAny_rule ?_); show Seg _ A _ _ _ s9 _ ((standAt iter.pos >>= _).wrap _ _ _ _) [] s9; exact seg_bind_wrap (wpAny_standAt (seg_bind_wrap (T.self _ 0 s9 _ _ st9 (seg_again rfl loop)))))
  cases hf : codeAmong pos tab.toList with
  | none =>
    refine wpAny_genexprCodeX code (cd.code tabS ht) (cd.tab tabS) hf fun c' h' tk hx hge hlt hco' _ htab' _ => ?_
    obtain ⟨o1, vs, f1, tf, fl, tg', inF, tx, tt', op, _, _, _, _, _, _, _, _, _, htr, _⟩ := hco'
    exact goOn _ h' tk _ hx (Nat.le_trans hge (Nat.le_of_lt hlt)) htab'.2 ⟨_, rfl⟩ htr
  | some cv =>
    refine wpAny_genexprCode_hit code (cd.code tabS ht) hf ?_
    exact goOn cv s2.heap s2.toks tab (Heap.ExtBut.refl _ _) (Nat.le_refl _) tabS ⟨#[], by simp⟩ ht
end
end Gx

/-! tuple(g) of a generator that has not begun. -/
namespace Gx
open PySem PySem.Spec PySem.Calls PyProof.Rows L2 GxR
section
variable {P : Program} {w : World} {outer : List Env} {H : Hp} {sc s : Shared} {ex : List Addr} {Q : List V → Hp → Prop} {A : Around} {k : Nat} {u : Value} {E : Value → Shared → Prop}
abbrev noEx : XK := fun _ _ _ => False
theorem never {e : Value} {s' : Shared} (h : CX P w outer H sc noEx e s') : False := by
  obtain ⟨a, B, H', cls, d, _, _, _, _, _, _, _, z⟩ := h
  exact z
/-- all that comes out of it -/
theorem gathered {Q' : List Value → Shared → Prop} (hr : Room (k + 1) A) (fr : A.frames = some outer) (made : GMade P w k outer H sc ex Q noEx u s)
    (hQ : ∀ S s' acc c H' ys, s.heap.objs.size ≤ S → s'.heap.get? S = some (lstObj acc c) → Vals ys acc.toList → ys.length ≤ sizeLine → s'.os = sc.os → AllBare s'.gens → Un (frs outer) ex H H' sc.heap s'.heap → HOk P w H' s'.heap → H' S = none → Q ys H' → Q' acc.toList s') :
    wpAny (model P w) A (collect u) Q' E s := by
  obtain ⟨a, g, c, rfl, above, below, isGen, fresh, os, bare, lim, old, wake⟩ := made
  have unlike : s.heap.objs.size ≠ a := Nat.ne_of_gt below
  have noStat : s.heap.objs.size ≠ cStatics := by
    obtain ⟨_, hn, _⟩ := lim
    exact Nat.ne_of_gt hn.lt
  unfold collect
  refine wpAny_bind (wpAny_runValue (codeAny_builtin F.entry_proto_collect ?_))
  rw [Around.under_plainId F.plain_proto_collect _]
  show wpAny _ A.in1 (newList [] >>= fun l => again (.builtin "list.__iadd__" ⟨[l, .ref a], []⟩)) _ _ s
  refine wpAny_bind (wpAny_newObj_type ?_)
  refine wpAny_pure ⟨plainId_quiet F.plain_list_iadd _, codeAny_builtin F.entry_list_iadd ?_⟩
  rw [Around.under_plainId F.plain_list_iadd _]
  have at1 : (s.heap.push { cls := .type "list", data := .seq ([] : List Value).toArray }).get? s.heap.objs.size = some { cls := .type "list", data := .seq ([] : List Value).toArray } := Heap.get?_push_size _ rfl
  have keep1 : ∀ b o, s.heap.get? b = some o → (s.heap.push { cls := .type "list", data := .seq ([] : List Value).toArray }).get? b = some o := fun b o e => Heap.get?_push_of_some _ e
  have up : ∀ (h : Heap) (f : Obj → Obj), (∀ b o, s.heap.get? b = some o → h.get? b = some o) → ∀ b o, s.heap.get? b = some o → (h.update s.heap.objs.size f).get? b = some o := fun h f q b o e =>
    (Heap.get?_update_other _ _ (Ne.symm (Nat.ne_of_lt (Heap.lt_size e)))).trans (q b o e)
  have genAt : ∀ {h : Heap}, (∀ b o, s.heap.get? b = some o → h.get? b = some o) → h.IsGen a g := fun {h} q => isGen.keeps q
  show wpAny _ A.in1 (Builtin.List.listExtendWith (.ref s.heap.objs.size) (.ref a) (.ref s.heap.objs.size)) _ _ _
  unfold Builtin.List.listExtendWith
  refine wpAny_bind (wpAny_typeOf (Heap.IsGen.typeIs (s := { s with heap := _ }) (genAt keep1)) ?_)
  have q1 : Builtin.List.listSameRef (.ref s.heap.objs.size) (.ref a) = false := by simp [Builtin.List.listSameRef, unlike]
  have q2 : (Value.type "generator" == Value.type "list") = false := by decide
  have q3 : (Value.type "generator" == Value.type "tuple") = false := by decide
  simp only [q1, q2, q3, Bool.or_false, Bool.false_eq_true, if_false]
  refine wpAny_bind (wpAny_pyIter_gen (s := { s with heap := _ }) (genAt keep1) ?_)
  refine wpAny_bind (wpAny_holding ?_)
  unfold Builtin.List.listLengthHint
  refine wpAny_bind (wpAny_specialOf (Heap.IsGen.typeIs (s := { s with heap := _ }) (genAt keep1)) F.gen_no_len ?_)
  show wpAny _ A.in1 (specialOf (Value.ref a) (Str.ofString "__length_hint__") >>= _) _ _ _
  refine wpAny_bind (wpAny_specialOf (Heap.IsGen.typeIs (s := { s with heap := _ }) (genAt keep1)) F.gen_no_hint ?_)
  refine wpAny_pure ?_
  show wpAny _ A.in1 (rule "list.extend.makes-room" >>= fun _ => Builtin.List.listTouch (.ref s.heap.objs.size) >>= fun _ =>
    again (.builtin "list.extend.loop" ⟨[.ref s.heap.objs.size, .ref a, .ref s.heap.objs.size], []⟩)) _ _ _
  refine wpAny_bind (wpAny_rule ?_)
  refine wpAny_bind ?_
  show wpAny _ A.in1 (updateSeq s.heap.objs.size (·.push .none) >>= fun _ => updateSeq s.heap.objs.size (·.pop)) _ _ _
  refine wpAny_bind (wpAny_updateSeq at1 rfl ?_)
  have at2 := Heap.get?_update_self (Obj.mapSeq (·.push Value.none)) at1 rfl
  refine wpAny_updateSeq (hz := by seq_fits) at2 rfl ?_
  have at3 := Heap.get?_update_self (Obj.mapSeq (·.pop)) at2 rfl
  have keep3 := up _ (Obj.mapSeq (·.pop)) (up _ (Obj.mapSeq (·.push Value.none)) keep1)
  refine wpAny_pure ⟨plainId_quiet F.plain_extend_loop _, ?_⟩
  refine drain (P := P) (w := w) (outer := outer) (H := H) (sc := sc) (ex := ex) (Q := Q) (EX := noEx) (A := A) (g := g) hr.hd (by have := hr.dp; show A.depth < _; omega) unlike noStat
    (fun s' acc c H' ys r1 r2 r3 r4 r5 r6 r7 r8 r9 => ?_) (fun e s' z => (never z).elim) sizeLine _ ?_ ?_ ⟨_, fresh, rfl, ?_⟩
  · show wpAny _ A (load s.heap.objs.size >>= _) _ _ s'
    refine wpAny_bind (wpAny_load r1 ?_)
    exact wpAny_pure (hQ s.heap.objs.size s' acc c H' ys (Nat.le_refl _) r1 r2 r3 r4 r5 r6 r7 r8 r9)
  · exact genAt keep3
  · exact lim.keeps keep3
  · refine wake _ _ _ ⟨hr.hd, ?_, ?_⟩ fr (Nat.le_refl _) keep3 ⟨_, at3⟩ os (allBare_setGen (s := { s with heap := _ }) bare rfl)
    · have := hr.dp
      show A.depth + 3 * k + 5 < _
      omega
    · have := hr.un
      show A.units + 1 + 1 + 16 * k + 200 < _
      omega
end
end Gx

/-! tuple(g), list(g) as expressions. -/
namespace Gx
open PySem PySem.Spec PySem.Calls PyProof.Rows L2 GxR
section
variable {P : Program} {w : World} {outer : List Env} {H : Hp} {sc s : Shared} {ex : List Addr} {Q : List V → Hp → Prop} {A : Around} {k : Nat} {u : Value} {E : Value → Shared → Prop}
theorem new_tuple {Q' : Value → Shared → Prop} (hr : Room (k + 2) A) (fr : A.frames = some outer) (made : GMade P w k outer H sc ex Q noEx u s)
    (hQ : ∀ (s' : Shared) (acc : Array Value) (H' : Hp) (ys : List V), s.heap.objs.size ≤ s'.heap.objs.size → Vals ys acc.toList → ys.length ≤ sizeLine → s'.os = sc.os → AllBare s'.gens → Un (frs outer) ex H H' sc.heap s'.heap → HOk P w H' s'.heap → Q ys H' → Q' (.ref s'.heap.objs.size) { s' with heap := s'.heap.push { cls := .type "tuple", data := .seq acc } }) :
    codeAny (model P w) A (.call (.builtin "tuple.__new__") ⟨[.type "tuple", u], []⟩) (wants Q' E) s := by
  have made' := made
  obtain ⟨a, g, c, rfl, _, _, isGen, _⟩ := made'
  refine codeAny_of_tree ?_
  show wpAny _ A.in1 (do checkBuiltinCall "tuple.__new__" ⟨[.type "tuple", .ref a], []⟩; again (.builtin "tuple.__new__" ⟨[.type "tuple", .ref a], []⟩)) _ _ s
  refine wpAny_bind (wpAny_of_eq (F.newCall_tuple_1 _) (wpAny_pure ⟨plainId_quiet F.plain_tuple_new _, codeAny_builtin F.entry_tuple_new ?_⟩))
  rw [Around.under_plainId F.plain_tuple_new _]
  have q1 := sub_tuple_self
  have q2 := init_tuple_lookup
  have q3 := madeHere_tuple
  have q4 := isGen.typeIs (s := s)
  have fr1 : A.in1.frames = some outer := fr
  wp_walk using wpAny_typeOf q4, gathered (k := k) hr.in1 fr1 made
  intro S s' acc c' H' ys r1 r2 r3 r4 r5 r6 r7 r8 r9 r10
  show wpAny _ _ (Builtin.Tuple.tupleExact acc.toList.toArray >>= fun v => ret v) _ _ _
  have e : acc.toList.toArray = acc := by simp
  have l := r3.length
  have l2 : acc.toList.length = acc.size := by simp
  unfold Builtin.Tuple.tupleExact
  refine wpAny_bind (wpAny_newObj_type ?_ (by show acc.toList.toArray.size ≤ sizeLine; rw [e]; omega))
  refine wpAny_pure ?_
  rw [e]
  exact hQ s' acc H' ys (Nat.le_trans r1 (Nat.le_of_lt (Heap.lt_size r2))) r3 r4 r5 r6 r7 r8 r10
theorem call_tuple_made {Q' : Value → Shared → Prop} (hr : Room (k + 4) A) (fr : A.frames = some outer) (made : GMade P w k outer H sc ex Q noEx u s)
    (hQ : ∀ (s' : Shared) (acc : Array Value) (H' : Hp) (ys : List V), s.heap.objs.size ≤ s'.heap.objs.size → Vals ys acc.toList → ys.length ≤ sizeLine → s'.os = sc.os → AllBare s'.gens → Un (frs outer) ex H H' sc.heap s'.heap → HOk P w H' s'.heap → Q ys H' → Q' (.ref s'.heap.objs.size) { s' with heap := s'.heap.push { cls := .type "tuple", data := .seq acc } }) :
    wpAny (model P w) A (call (.type "tuple") [u]) Q' E s := by
  have fr1 : A.in1.frames = some outer := fr
  refine callType_codes (Q₁ := fun obj s₁ => s₁.TypeIs obj "tuple" ∧ Q' obj s₁) F.called_tuple (F.typeCall_tuple_1 _) F.entry_object_init
    (new_tuple (k := k) (hr.mono (by omega : k + 3 ≤ k + 4)).in1 fr1 made fun s' acc H' ys r1 r2 r3 r4 r5 r6 r7 r8 => ⟨⟨_, Heap.get?_push_size _ rfl, rfl⟩, hQ s' acc H' ys r1 r2 r3 r4 r5 r6 r7 r8⟩) fun obj s₁ h₁ => ?_
  exact ⟨h₁.1, F.args_object_init_2 obj _, object_init_meets F.called_tuple.init.lookup F.called_tuple.made (by decide) P w A.in1 _ s₁ ⟨h₁.1, rfl, h₁.2⟩⟩
end
section
variable {X : Cx} {k : Nat} {e : Expr} {tg : TGen} {p pos : Pos}
def tTupG (tg : TGen) : TE := fun σ H Q => tg σ H fun out H2 => ∀ q, H2 q = none → Q (.ref q) (upd H2 q (.tup out))
/-- tuple(g) -/
theorem pe_tupG (h : PGen X k e tg noEx) (hr : Room (k + 4) X.A) (hg : Gl X "tuple") (hm : X.mg "tuple" = none) (he : starEach [e] X.env = (false, eval e X.env) :: starEach [] X.env := by rfl) : PE X (.Call (.Name "tuple" p) [e] [] pos) (tTupG tg) := by
  refine ⟨fun pins s σ H Q I hq => ?_⟩
  refine wpAny_Call_Name_kw (ld_blt I hg hm boot_tuple ?_)
  refine PyProof.Rows.callWith_type1 ?_ he rfl
  rw [he]
  show wpAny _ _ (spliced ((false, eval e X.env) :: backTo pos (starEach [] X.env))) _ _ s
  refine Calls.spliced_cons (thn (h.run pins s σ H _ I hq) fun u s1 ⟨H1, sc, ex, I1, hex, made⟩ => ?_)
  refine Calls.spliced_nil ?_
  refine call_tuple_made hr I1.ok.frames made fun s' acc H' ys r1 r2 r3 r4 r5 r6 r7 r8 => ?_
  have I2 : Inv X pins σ H' s' := I1.call' (ch := ex) r4 r6 r7 r5 hex
  refine ⟨.ref _, upd H' s'.heap.objs.size (.tup ys), I2.laid (t' := s'.toks) (fun b u z => Heap.get?_push_of_some _ z) (Nat.le_refl _) ?_, rfl, r8 _ (I2.hok.fresh (Nat.le_refl _))⟩
  refine ⟨r3, acc.toList, r2, ?_⟩
  have z : acc.toList.toArray = acc := by simp
  rw [z]
  exact ⟨_, Heap.get?_push_size _ rfl, rfl, _, rfl⟩
/-- tuple(g), its object known -/
def tTupG0 (tg : TGen) : TE := fun σ H Q => tg σ H fun out H2 => ∀ q o, H2 q = none → o.dict = none → Q (.ref q) (upd H2 q (.frz o (.tup out)))
theorem pe_tupG0 (h : PGen X k e tg noEx) (hr : Room (k + 4) X.A) (hg : Gl X "tuple") (hm : X.mg "tuple" = none) (he : starEach [e] X.env = (false, eval e X.env) :: starEach [] X.env := by rfl) : PE X (.Call (.Name "tuple" p) [e] [] pos) (tTupG0 tg) := by
  refine ⟨fun pins s σ H Q I hq => ?_⟩
  refine wpAny_Call_Name_kw (ld_blt I hg hm boot_tuple ?_)
  refine PyProof.Rows.callWith_type1 ?_ he rfl
  rw [he]
  show wpAny _ _ (spliced ((false, eval e X.env) :: backTo pos (starEach [] X.env))) _ _ s
  refine Calls.spliced_cons (thn (h.run pins s σ H _ I hq) fun u s1 ⟨H1, sc, ex, I1, hex, made⟩ => ?_)
  refine Calls.spliced_nil ?_
  refine call_tuple_made hr I1.ok.frames made fun s' acc H' ys r1 r2 r3 r4 r5 r6 r7 r8 => ?_
  have I2 : Inv X pins σ H' s' := I1.call' (ch := ex) r4 r6 r7 r5 hex
  refine ⟨.ref _, _, I2.laid (t' := s'.toks) (o := .frz { cls := .type "tuple", data := .seq acc } (.tup ys)) (fun b u z => Heap.get?_push_of_some _ z) (Nat.le_refl _) ?_, rfl, r8 _ _ (I2.hok.fresh (Nat.le_refl _)) rfl⟩
  refine ⟨Heap.get?_push_size _ rfl, r3, acc.toList, r2, ?_⟩
  have z : acc.toList.toArray = acc := by simp
  rw [z]
  exact ⟨_, Heap.get?_push_size _ rfl, rfl, _, rfl⟩
end
end Gx

/-! Turns over a list, a tuple that stay as they are. -/
namespace Gx
open PySem PySem.Spec PySem.Calls PyProof.Rows L2 GxR
section
variable {K : PySem.W.Frag} {a : Addr} {xs : List V} {g : TG} {tt : TT} {te : TE} {vs : List Nat} {σ : L2.St} {G : Hp} {cont : List V → Hp → Prop}
theorem turns_list (Pv : Nat → List V → Hp → Prop) (first : Pv 0 [] G) (stays : ∀ i ys H, i ≤ xs.length → Pv i ys H → SqL K H a xs)
    (turn : ∀ i x ys H, xs[i]? = some x → Pv i ys H → g x (wipe σ vs) H fun σ2 H2 => wipe σ2 vs = wipe σ vs ∧ tt σ2 H2 fun b H3 => if b = true then te σ2 H3 fun y H4 => ys.length < sizeLine ∧ Pv (i + 1) (ys ++ [y]) H4 else Pv (i + 1) ys H3)
    (after : ∀ ys H, Pv xs.length ys H → cont ys H) : ∃ W : Nat → Nat → List V → Hp → Prop, (∃ m, W 0 m [] G) ∧ Turns (Itl K a) g tt te vs σ cont W := by
  refine ⟨fun i m ys H => m = xs.length - i ∧ i ≤ xs.length ∧ Pv i ys H, ⟨xs.length, (Nat.sub_zero _).symm, Nat.zero_le _, first⟩, ?_⟩
  rintro i m ys H ⟨rfl, le, p⟩
  have seq := stays i ys H le p
  rcases Nat.lt_or_ge i xs.length with lt | ge
  · refine .inr ⟨⟨xs, xs[i], seq, List.getElem?_eq_getElem lt⟩, Pv (i + 1), fun ys' H' p' => ⟨xs.length - (i + 1), by omega, rfl, lt, p'⟩, fun x H' y => ?_⟩
    obtain ⟨rfl, y⟩ := y
    exact turn i x ys _ (y xs seq) p
  · have e : i = xs.length := by omega
    subst e
    exact .inl ⟨⟨xs, seq, Nat.le_refl _⟩, after ys H p⟩
theorem turns_tup (Pv : Nat → List V → Hp → Prop) (first : Pv 0 [] G) (stays : ∀ i ys H, i ≤ xs.length → Pv i ys H → SqT K H a xs)
    (turn : ∀ i x ys H, xs[i]? = some x → Pv i ys H → g x (wipe σ vs) H fun σ2 H2 => wipe σ2 vs = wipe σ vs ∧ tt σ2 H2 fun b H3 => if b = true then te σ2 H3 fun y H4 => ys.length < sizeLine ∧ Pv (i + 1) (ys ++ [y]) H4 else Pv (i + 1) ys H3)
    (after : ∀ ys H, Pv xs.length ys H → cont ys H) : ∃ W : Nat → Nat → List V → Hp → Prop, (∃ m, W 0 m [] G) ∧ Turns (Itt K a) g tt te vs σ cont W := by
  refine ⟨fun i m ys H => m = xs.length - i ∧ i ≤ xs.length ∧ Pv i ys H, ⟨xs.length, (Nat.sub_zero _).symm, Nat.zero_le _, first⟩, ?_⟩
  rintro i m ys H ⟨rfl, le, p⟩
  have seq := stays i ys H le p
  rcases Nat.lt_or_ge i xs.length with lt | ge
  · refine .inr ⟨⟨xs, xs[i], seq, List.getElem?_eq_getElem lt⟩, Pv (i + 1), fun ys' H' p' => ⟨xs.length - (i + 1), by omega, rfl, lt, p'⟩, fun x H' y => ?_⟩
    obtain ⟨rfl, y⟩ := y
    exact turn i x ys _ (y xs seq) p
  · have e : i = xs.length := by omega
    subst e
    exact .inl ⟨⟨xs, seq, Nat.le_refl _⟩, after ys H p⟩
end
end Gx

/-! A table's substitution. -/
namespace Ad
open PySem PySem.Spec PySem.Calls PyProof.Rows L2 GxR
namespace Sb
def pick (tb : Sb) (i : Int) : Option (Int × T) := match look tb i with
  | some t => if t.isVar i = true then none else some (i, t)
  | none => none
def sel (tb : Sb) (ks : List Int) : Sb := ks.filterMap (pick tb)
theorem pick_iff {tb : Sb} {i j : Int} {t : T} : pick tb i = some (j, t) ↔ i = j ∧ look tb i = some t ∧ t.isVar i = false := by
  unfold pick
  cases h : look tb i with
  | none => exact ⟨(fun z => nomatch z), (fun z => nomatch z.2.1)⟩
  | some u =>
    show (if u.isVar i = true then none else some (i, u)) = some (j, t) ↔ _
    cases hv : u.isVar i with
    | true =>
      rw [if_pos rfl]
      refine ⟨(fun z => nomatch z), fun z => ?_⟩
      have e := Option.some.inj z.2.1
      rw [← e, hv] at z
      exact nomatch z.2.2
    | false =>
      rw [if_neg Bool.false_ne_true]
      constructor
      · intro z
        cases z
        exact ⟨rfl, rfl, hv⟩
      · rintro ⟨rfl, z, _⟩
        cases z
        rfl
theorem norm_sel {tb : Sb} {ks : List Int} (rising : ks.Pairwise (· < ·)) (all : ∀ i, i ∈ ks ↔ i ∈ tb.map (·.1)) : Norm tb (sel tb ks) := by
  constructor
  · unfold sel
    have key : ∀ l : List Int, l.Pairwise (· < ·) → ((l.filterMap (pick tb)).map (·.1)).Pairwise (· < ·) ∧ ∀ j ∈ (l.filterMap (pick tb)).map (·.1), j ∈ l := by
      intro l
      induction l with
      | nil => intro _; exact ⟨.nil, fun j hj => nomatch hj⟩
      | cons i l ih =>
        intro h
        obtain ⟨h1, h2⟩ := List.pairwise_cons.mp h
        obtain ⟨r1, r2⟩ := ih h2
        cases hp : pick tb i with
        | none =>
          rw [List.filterMap_cons, hp]
          exact ⟨r1, fun j hj => List.mem_cons_of_mem _ (r2 j hj)⟩
        | some e =>
          obtain ⟨k, t⟩ := e
          have ek := (pick_iff.1 hp).1
          subst ek
          rw [List.filterMap_cons, hp]
          refine ⟨List.pairwise_cons.mpr ⟨fun j hj => h1 j (r2 j hj), r1⟩, fun j hj => ?_⟩
          rcases List.mem_cons.mp hj with z | z
          · rw [z]
            exact List.mem_cons_self
          · exact List.mem_cons_of_mem _ (r2 j z)
    exact (key ks rising).1
  · intro i t
    unfold sel
    rw [List.mem_filterMap]
    constructor
    · rintro ⟨k, _, hp⟩
      obtain ⟨rfl, h1, h2⟩ := pick_iff.1 hp
      exact ⟨h1, h2⟩
    · rintro ⟨h1, h2⟩
      exact ⟨i, (all i).2 ((look_key tb i).1 (by rw [h1]; rfl)), pick_iff.2 ⟨rfl, h1, h2⟩⟩
theorem sel_take {tb : Sb} {ks : List Int} {n : Nat} {i : Int} (h : ks[n]? = some i) : sel tb (ks.take (n + 1)) = sel tb (ks.take n) ++ (match pick tb i with
    | some e => [e]
    | none => []) := by
  unfold sel
  rw [List.take_add_one, h, List.filterMap_append]
  congr 1
  show List.filterMap (pick tb) [i] = _
  cases hp : pick tb i with
  | none => rw [List.filterMap_cons, hp]; rfl
  | some e => rw [List.filterMap_cons, hp]; rfl
end Sb
/-- all in a table can be compared -/
def Good (tb : Sb) : Prop := ∀ e ∈ tb, e.2.named = true ∧ e.2.dep ≤ 60
theorem TV.at {K : PySem.W.Frag} {H : Hp} {tb : Sb} {kvs : List (L2.Key × V)} (h : TV K H tb kvs) {i : Int} (m : i ∈ tb.map (·.1)) : ∃ t v, tb.look i = some t ∧ valV kvs (.inl i) = some v ∧ Tm K H t v := by
  rcases h.val i with ⟨a, _⟩ | z
  · have := (Sb.look_key tb i).2 m
    rw [a] at this
    cases this
  · exact z
theorem int_shaped (i : Int) : SeqAt.shaped (.int i) = true := rfl
theorem tab_same {H H' : Hp} {P : Addr} (s : Same H H') (t : TabG H P) : TabG H' P := by
  obtain ⟨ps, e, ok⟩ := t
  exact ⟨ps, s _ _ e, ok⟩
theorem tab_tk {H H' : Hp} {P : Addr} (t : TabG H P) (k : ∀ b o, b ≠ P → H b = some o → H' b = some o) : TK H H' := by
  obtain ⟨ps, e, ok⟩ := t
  intro b xs
  refine ⟨fun h => k b _ (fun z => ?_) h, fun o h => k b _ (fun z => ?_) h⟩
  · rw [z, e] at h
    cases h
  · rw [z, e] at h
    cases h
section
variable {P : Program} {w : World} {K : PySem.W.Frag} {mg : Str → Option Value} {base : Heap}
theorem tab_upd {H : Hp} {P q : Addr} {o : HO} (t : TabG H P) (n : H q = none) : TabG (upd H q o) P := by
  obtain ⟨ps, e, ok⟩ := t
  exact ⟨ps, by rw [upd_ne (ne_of_none e n)]; exact e, ok⟩
end
def spSubst (K : PySem.W.Frag) (Pt : Addr) : Sp := fun vs H Q _ => ∃ (d : Addr) (tb : Sb) (kvs : List (L2.Key × V)), vs = [.ref d] ∧ H d = some (.dK kvs) ∧ TV K H tb kvs ∧ (tb.map (·.1)).Nodup ∧ tb.length < 64 ∧ Good tb ∧ TabG H Pt ∧
  ∀ su x H', tb.Norm su → Su K H' su x → (∀ b o, b ≠ Pt → H b = some o → H' b = some o) → TabG H' Pt → Q x H'
end Ad

/-! One substitution behind another. -/
namespace Ad
open PySem PySem.Spec PySem.Calls PyProof.Rows L2 GxR
namespace Sb
def beh (one other : Sb) : Sb := one.foldl (fun tb e => put tb e.1 (T.fill (asg other) e.2)) other
theorem beh_take {one other : Sb} {i : Nat} {e : Int × T} (h : one[i]? = some e) : beh (one.take (i + 1)) other = put (beh (one.take i) other) e.1 (T.fill (asg other) e.2) := by
  unfold beh
  rw [List.take_add_one, h, List.foldl_append]
  rfl
theorem fold_look (other : Sb) (s : Int → T) : ∀ (one tb : Sb), (one.map (·.1)).Nodup → ∀ i, look (one.foldl (fun tb e => put tb e.1 (T.fill s e.2)) tb) i = match look one i with
    | some t => some (T.fill s t)
    | none => look tb i
  | [], tb, _, i => rfl
  | e :: one, tb, nd, i => by
    obtain ⟨n1, n2⟩ := List.nodup_cons.mp nd
    rw [List.foldl_cons, fold_look other s one _ n2]
    have e1 : look (e :: one) i = if e.1 = i then some e.2 else look one i := rfl
    rw [e1, look_put]
    by_cases h : e.1 = i
    · rw [if_pos h, if_pos h]
      have out : look one i = none := by
        cases z : look one i with
        | none => rfl
        | some t =>
          have := (look_key one i).1 (by rw [z]; rfl)
          rw [← h] at this
          exact absurd this n1
      rw [out]
    · rw [if_neg h, if_neg h]
theorem beh_look {one other : Sb} (nd : (one.map (·.1)).Nodup) (i : Int) : look (beh one other) i = match look one i with
    | some t => some (T.fill (asg other) t)
    | none => look other i := fold_look other _ one other nd i
/-- putting in by it is putting in by one, then by the other -/
theorem beh_asg {one other : Sb} (nd : (one.map (·.1)).Nodup) (i : Int) : asg (beh one other) i = T.fill (asg other) (asg one i) := by
  show (look (beh one other) i).getD (.v i) = T.fill (asg other) ((look one i).getD (.v i))
  rw [beh_look nd]
  cases look one i <;> rfl
theorem nodup_fold (s : Int → T) : ∀ (one tb : Sb), (tb.map (·.1)).Nodup → ((one.foldl (fun tb e => put tb e.1 (T.fill s e.2)) tb).map (·.1)).Nodup
  | [], tb, h => h
  | e :: one, tb, h => nodup_fold s one _ (nodup_put h _ _)
theorem len_fold (s : Int → T) : ∀ (one tb : Sb), (one.foldl (fun tb e => put tb e.1 (T.fill s e.2)) tb).length ≤ tb.length + one.length
  | [], tb => Nat.le_refl _
  | e :: one, tb => by
    have h1 := len_fold s one (put tb e.1 (T.fill s e.2))
    have h2 := len_put tb e.1 (T.fill s e.2)
    rw [List.foldl_cons, List.length_cons]
    omega
end Sb
section
variable {P : Program} {w : World} {K : PySem.W.Frag} {mg : Str → Option Value} {base : Heap}
theorem dict_of {H : Hp} {a : Addr} {bs : List Addr} {su : Sb} (tup : Dt.Tup0 H a (bs.map V.ref)) (prs : F2 (SP K H) su bs) (nd : (su.map (·.1)).Nodup) : ∃ kvs, Paired (fun p kv => SqT K H p [kV kv.1, kv.2]) bs kvs ∧ TV K H su kvs ∧ mergeK [] kvs = kvs := by
  obtain ⟨kvs, pd, tv⟩ := sp_pairs prs
  refine ⟨kvs, pd, tv, ?_⟩
  have z := merge_all kvs [] (by
    rw [List.nil_append, tv.keys]
    exact List.Pairwise.map Sum.inl (fun a b h e => h (Sum.inl.inj e)) nd)
  rw [z, List.nil_append]
def spBehind (K : PySem.W.Frag) (Pt : Addr) (n : Nat) : Sp := fun vs H Q _ => ∃ (one other : Sb) (x y : V), vs = [x, y] ∧ Su K H one x ∧ Su K H other y ∧ (one.map (·.1)).Nodup ∧ (other.map (·.1)).Nodup ∧ (∀ e ∈ one, e.2.dep < n ∧ e.2.size ≤ 10000) ∧ one.length + other.length < 64 ∧
  Good (Sb.beh one other) ∧ TabG H Pt ∧ ∀ su z H', (Sb.beh one other).Norm su → Su K H' su z → (∀ b o, b ≠ Pt → H b = some o → H' b = some o) → TabG H' Pt → Q z H'
end
end Ad

namespace Ad
open PySem PySem.Spec PySem.Calls PyProof.Rows L2 GxR
def spLPairs (K : PySem.W.Frag) : Sp := fun vs H Q _ => ∃ (d : Addr) (tb : Sb) (kvs : List (L2.Key × V)), vs = [.ref d] ∧ H d = some (.dK kvs) ∧ TV K H tb kvs ∧ (tb.map (·.1)).Nodup ∧ tb.length < 64 ∧ Good tb ∧
  ∀ su x H', tb.Norm su → Su K H' su x → Same H H' → Q x H'
end Ad

/-! The law's own: behind; renamed; drawn pairs. -/
namespace Ad
open PySem PySem.Spec PySem.Calls PyProof.Rows L2 GxR
theorem dk_tk {H : Hp} {d : Addr} {kvs : List (L2.Key × V)} (h : H d = some (.dK kvs)) (o : HO) : TK H (upd H d o) := by
  intro b xs
  refine ⟨fun e => ?_, fun u e => ?_⟩
  · rw [upd_ne (fun z => by rw [z, h] at e; cases e)]
    exact e
  · rw [upd_ne (fun z => by rw [z, h] at e; cases e)]
    exact e
section
variable {P : Program} {w : World} {K : PySem.W.Frag} {mg : Str → Option Value} {base : Heap}
def spLBeh (K : PySem.W.Frag) (n : Nat) : Sp := fun vs H Q _ => ∃ (one other : Sb) (x y : V), vs = [x, y] ∧ Su K H one x ∧ Su K H other y ∧ (one.map (·.1)).Nodup ∧ (other.map (·.1)).Nodup ∧ (∀ e ∈ one, e.2.dep < n ∧ e.2.size ≤ 10000) ∧ one.length + other.length < 64 ∧
  Good (Sb.beh one other) ∧ ∀ su z H', (Sb.beh one other).Norm su → Su K H' su z → Same H H' → Q z H'
end
/-! ### renamed -/
namespace Sb
/-- the variables of a row, in the order in which they come, called first, first + 1, .. -/
def ren (first : Int) (tb : Sb) : List Int → Sb
  | [] => tb
  | i :: l => ren first (if (look tb i).isSome = true then tb else put tb i (.v (first + (tb.length : Int)))) l
theorem ren_app (first : Int) : ∀ (l m : List Int) (tb : Sb), ren first tb (l ++ m) = ren first (ren first tb l) m
  | [], m, tb => rfl
  | i :: l, m, tb => ren_app first l m _
theorem ren_len (first : Int) : ∀ (l : List Int) (tb : Sb), (ren first tb l).length ≤ tb.length + l.length
  | [], tb => Nat.le_refl _
  | i :: l, tb => by
    have h1 := ren_len first l (if (look tb i).isSome = true then tb else put tb i (.v (first + (tb.length : Int))))
    have h2 := len_put tb i (.v (first + (tb.length : Int)))
    show (ren first _ l).length ≤ tb.length + (l.length + 1)
    split at h1
    · rename_i z
      rw [if_pos z]
      omega
    · rename_i z
      rw [if_neg z]
      omega
end Sb
namespace T
def varOf : T → List Int
  | .v i => [i]
  | .f _ _ => []
mutual
theorem parts_vars : ∀ t : T, t.parts.flatMap varOf = t.vars
  | .v i => rfl
  | .f x ts => by
    show (T.f x ts :: partsL ts).flatMap varOf = varsL ts
    rw [List.flatMap_cons, partsL_vars ts]
    rfl
theorem partsL_vars : ∀ ts : List T, (partsL ts).flatMap varOf = varsL ts
  | [] => rfl
  | t :: ts => by
    show (parts t ++ partsL ts).flatMap varOf = vars t ++ varsL ts
    rw [List.flatMap_append, parts_vars t, partsL_vars ts]
end
end T
end Ad

/-! Drawn orders. -/
namespace Ad
open PySem PySem.Spec PySem.Calls PyProof.Rows L2
/-- a name and its number of arguments -/
abbrev Pr := Str × Nat
def PrV (K : PySem.W.Frag) (H : Hp) (r : Pr) (v : V) : Prop := ∃ b, v = .ref b ∧ SqT K H b [.str r.1, .int (r.2 : Int)]
theorem PrV.mono {K : PySem.W.Frag} {H H' : Hp} (k : TK H H') (r : Pr) (v : V) (h : PrV K H r v) : PrV K H' r v := by
  obtain ⟨b, e, s⟩ := h
  exact ⟨b, e, k.sq s⟩
/-- a list of such pairs -/
def LsP (K : PySem.W.Frag) (H : Hp) (R : List Pr) (a : Addr) : Prop := ∃ vs, H a = some (.lst vs) ∧ F2 (PrV K H) R vs
theorem LsP.same {K : PySem.W.Frag} {H H' : Hp} (s : Same H H') {R : List Pr} {a : Addr} (h : LsP K H R a) : LsP K H' R a := by
  obtain ⟨vs, e, f⟩ := h
  exact ⟨vs, s _ _ e, f.mono (PrV.mono (TK.same s))⟩
section
variable {K : PySem.W.Frag} {σ : L2.St} {H : Hp} {Q : VK}
abbrev tPr (x : Str) (n : Int) : TE := tTup (tCons (tC (.str x)) (tCons (tC (.int n)) tNil))
theorem lit_pr (K : PySem.W.Frag) {x : Str} {n : Nat} (h : ∀ v G, Same H G → PrV K G (x, n) v → Q v G) : tPr x (n : Int) σ H Q :=
  ⟨(by show 2 ≤ sizeLine; decide), fun p np => h _ _ (same_new (fun b o e => e) np _) ⟨p, rfl, .inl (.inl upd_same)⟩⟩
theorem lit_ls1 (K : PySem.W.Frag) {x : Str} {n : Nat} (h : ∀ a G, Same H G → H a = none → LsP K G [(x, n)] a → Q (.ref a) G) : tLst (tCons (tPr x (n : Int)) tNil) σ H Q := by
  show tPr x (n : Int) σ H (fun v G => [v].length ≤ sizeLine ∧ ∀ p, G p = none → Q (.ref p) (upd G p (.lst [v])))
  refine lit_pr K fun v G s pv => ⟨(by show 1 ≤ sizeLine; decide), fun p np => h p _ (same_new s np _) ?_ ⟨_, upd_same, F2.one (PrV.mono (TK.new np _) _ _ pv)⟩⟩
  cases z : H p with
  | none => rfl
  | some o =>
    rw [s _ _ z] at np
    cases np
theorem lit_ls2 (K : PySem.W.Frag) {x y : Str} {n m : Nat} (h : ∀ a G, Same H G → H a = none → LsP K G [(x, n), (y, m)] a → Q (.ref a) G) : tLst (tCons (tPr x (n : Int)) (tCons (tPr y (m : Int)) tNil)) σ H Q := by
  show tPr x (n : Int) σ H (fun v G => tPr y (m : Int) σ G (fun v2 G2 => [v, v2].length ≤ sizeLine ∧ ∀ p, G2 p = none → Q (.ref p) (upd G2 p (.lst [v, v2]))))
  refine lit_pr K fun v G s pv => lit_pr K fun v2 G2 s2 pv2 => ⟨(by show 2 ≤ sizeLine; decide), fun p np => h p _ (same_new (show Same H G2 from fun b o e => s2 b o (s b o e)) np _) ?_ ⟨_, upd_same, ⟨_, _, rfl, PrV.mono ((TK.same s2).trans (TK.new np _)) _ _ pv, F2.one (PrV.mono (TK.new np _) _ _ pv2)⟩⟩⟩
  cases z : H p with
  | none => rfl
  | some o =>
    rw [s2 _ _ (s _ _ z)] at np
    cases np
theorem lit_ls0 (K : PySem.W.Frag) (h : ∀ a G, Same H G → H a = none → LsP K G [] a → Q (.ref a) G) : tLst tNil σ H Q :=
  ⟨Nat.zero_le _, fun p np => h p _ (same_new (fun b o e => e) np _) np ⟨_, upd_same, rfl⟩⟩
theorem cat_prs {R S : List Pr} {a b : Addr} (ha : LsP K H R a) (hb : LsP K H S b) (few : R.length + S.length ≤ 1000) (h : ∀ c G, Same H G → H c = none → LsP K G (R ++ S) c → Q (.ref c) G) : rCat (.ref a) (.ref b) H Q := by
  obtain ⟨xs, e1, f1⟩ := ha
  obtain ⟨ys, e2, f2⟩ := hb
  have l1 := f1.len
  have l2 := f2.len
  refine ⟨a, b, xs, ys, rfl, rfl, e1, e2, by rw [sizeLine_eq]; omega, fun p np => h p _ (same_new (fun b o e => e) np _) np ⟨_, upd_same, ?_⟩⟩
  exact (f1.app f2).mono (PrV.mono (TK.new np _))
end
section
variable {K : PySem.W.Frag} {σ : L2.St} {H : Hp}
theorem lit_truths (K : PySem.W.Frag) {Q : List V → Hp → Prop} (h : ∀ a G xs, Same H G → H a = none → G a = some (.lst xs) → xs.length = 3 → (∀ v ∈ xs, ∃ b S, v = .ref b ∧ H b = none ∧ LsP K G S b ∧ S ∈ [[(("q" : Str), 0)], [("r", 2)], [("q", 0), ("r", 2)]]) → Q [.ref a] G) :
    tCons (tLst (tCons (tLst (tCons (tPr "q" 0) tNil)) (tCons (tLst (tCons (tPr "r" 2) tNil)) (tCons (tLst (tCons (tPr "q" 0) (tCons (tPr "r" 2) tNil))) tNil)))) tNil σ H Q := by
  dsimp only [tCons]
  show tLst (tCons (tPr "q" ((0 : Nat) : Int)) tNil) σ H (fun v1 G1 => tLst (tCons (tPr "r" ((2 : Nat) : Int)) tNil) σ G1 (fun v2 G2 => tLst (tCons (tPr "q" ((0 : Nat) : Int)) (tCons (tPr "r" ((2 : Nat) : Int)) tNil)) σ G2 (fun v3 G3 => [v1, v2, v3].length ≤ sizeLine ∧ ∀ p, G3 p = none → Q [.ref p] (upd G3 p (.lst [v1, v2, v3])))))
  refine lit_ls1 K fun a1 G1 s1 n1 L1 => lit_ls1 K fun a2 G2 s2 n2 L2 => lit_ls2 K fun a3 G3 s3 n3 L3 => ⟨(by show 3 ≤ sizeLine; decide), fun p np => ?_⟩
  have sm : Same H G3 := fun b o e => s3 b o (s2 b o (s1 b o e))
  have back : ∀ {q : Addr} {G : Hp}, Same H G → G q = none → H q = none := fun {q G} s n => by
    cases z : H q with
    | none => rfl
    | some o =>
      rw [s _ _ z] at n
      cases n
  have s4 : Same G3 (upd G3 p (.lst [.ref a1, .ref a2, .ref a3])) := same_new (fun b o e => e) np _
  refine h p _ _ (fun b o e => s4 b o (sm b o e)) (back sm np) upd_same rfl ?_
  intro v hv
  rcases List.mem_cons.mp hv with e | hv
  · exact ⟨a1, _, e, n1, ((L1.same s2).same s3).same s4, by simp⟩
  · rcases List.mem_cons.mp hv with e | hv
    · exact ⟨a2, _, e, back s1 n2, (L2.same s3).same s4, by simp⟩
    · exact ⟨a3, _, List.mem_singleton.mp hv, back (show Same H G2 from fun b o e => s2 b o (s1 b o e)) n3, L3.same s4, by simp⟩
end
/-! ### frames of a pen -/
theorem but_on {p d : Addr} {H G : Hp} (b : Pn.But p H G) (n : H d = none) (o : HO) : Pn.But p H (upd G d o) := fun q u nq e => by
  rw [upd_ne (fun z => by rw [z, n] at e; cases e)]
  exact b _ _ nq e
theorem pen_on {H G : Hp} {p l d : Addr} {ns : List Int} {c0 c : Nat} (P0 : Pn.Pen H p l ns c0) (n : H d = none) (P : Pn.Pen G p l ns c) (o : HO) : Pn.Pen (upd G d o) p l ns c := by
  obtain ⟨⟨a0, d0, f0, e0, _⟩, h0⟩ := P0
  obtain ⟨⟨a, d1, f, e, r⟩, h⟩ := P
  have n1 : p ≠ d := fun z => by rw [z, n] at e0; cases e0
  have n2 : l ≠ d := fun z => by rw [z, n] at h0; cases h0
  exact ⟨⟨a, d1, f, by rw [upd_ne n1]; exact e, r⟩, by rw [upd_ne n2]; exact h⟩
theorem fresh_back {H G : Hp} {p l q : Addr} {ns : List Int} {c : Nat} (b : Pn.But p H G) (P : Pn.Pen G p l ns c) (n : G q = none) : H q = none := by
  cases z : H q with
  | none => rfl
  | some o =>
    by_cases e : q = p
    · obtain ⟨⟨_, _, _, e0, _⟩, _⟩ := P
      rw [e, e0] at n
      cases n
    · rw [b _ _ e z] at n
      cases n
theorem pen_kept {H : Hp} {p l d : Addr} {ns : List Int} {c : Nat} (P : Pn.Pen H p l ns c) (n : H d = none) : d ≠ p := fun z => by
  obtain ⟨⟨_, _, _, e0, _⟩, _⟩ := P
  rw [z, e0] at n
  cases n
theorem LsP.but {K : PySem.W.Frag} {H H' : Hp} {p l : Addr} {ns : List Int} {c : Nat} (P : Pn.Pen H p l ns c) (b : Pn.But p H H') {R : List Pr} {a : Addr} (na : a ≠ p) (h : LsP K H R a) : LsP K H' R a := by
  obtain ⟨vs, e, f⟩ := h
  exact ⟨vs, b _ _ na e, f.mono (PrV.mono (pen_tk P b))⟩
/-! ### the order -/
def thingsB : List (List Pr) := [[("a", 0), ("b", 0), ("c", 0), ("f", 1), ("g", 2)], [("a", 0), ("b", 0), ("f", 1), ("g", 2)], [("a", 0), ("b", 0), ("c", 0), ("f", 1)], [("a", 0), ("b", 0), ("f", 1)]]
def truthsB : List (List Pr) := [[("p", 1), ("q", 0)], [("p", 1), ("r", 2)], [("p", 1), ("q", 0), ("r", 2)]]
/-- the same names in some order, with weights of one and two -/
structure Mixed (B : List Pr) (R : List Row) : Prop where
  perm : (R.map fun r => (r.1, r.2.1)).Perm B
  weights : ∀ r ∈ R, r.2.2 = 1 ∨ r.2.2 = 2
def KdV (K : PySem.W.Frag) (H : Hp) (B : List Pr) (v : V) : Prop := ∃ b R vs, v = .ref b ∧ Mixed B R ∧ SqT K H b vs ∧ F2 (RowV K H) R vs
theorem KdV.mono {K : PySem.W.Frag} {H H' : Hp} (k : TK H H') (B : List Pr) (v : V) (h : KdV K H B v) : KdV K H' B v := by
  obtain ⟨b, R, vs, e, m, s, f⟩ := h
  exact ⟨b, R, vs, e, m, k.sq s, f.mono (RowV.mono k)⟩
def OrdAt (K : PySem.W.Frag) (H : Hp) (a : Addr) (R S : List Row) : Prop := ∃ b1 b2 vs1 vs2, SqT K H a [.ref b1, .ref b2] ∧ SqT K H b1 vs1 ∧ SqT K H b2 vs2 ∧ F2 (RowV K H) R vs1 ∧ F2 (RowV K H) S vs2
theorem OrdAt.rows {K : PySem.W.Frag} {H : Hp} {a : Addr} {R S : List Row} (h : OrdAt K H a R S) : RowsAt K H a R := by
  obtain ⟨b1, b2, vs1, vs2, h0, h1, h2, f1, f2⟩ := h
  exact ⟨b1, _, vs1, h0, h1, f1⟩
theorem OrdAt.mono {K : PySem.W.Frag} {H H' : Hp} (k : TK H H') {a : Addr} {R S : List Row} (h : OrdAt K H a R S) : OrdAt K H' a R S := by
  obtain ⟨b1, b2, vs1, vs2, h0, h1, h2, f1, f2⟩ := h
  exact ⟨b1, b2, vs1, vs2, k.sq h0, k.sq h1, k.sq h2, f1.mono (RowV.mono k), f2.mono (RowV.mono k)⟩
theorem mixed_ok {B : List Pr} {R : List Row} (hB : B ∈ thingsB) (m : Mixed B R) : ROk R := by
  have h : (thingsB.all fun B => B.all (fun r => nameOk r.1 && decide (r.2 ≤ 3)) && B.contains ("a", 0) && decide (B.length ≤ 5)) = true := by decide +kernel
  have h1 := List.all_eq_true.mp h B hB
  rw [Bool.and_eq_true, Bool.and_eq_true] at h1
  obtain ⟨⟨h2, h3⟩, h4⟩ := h1
  refine ⟨fun r hr => ?_, ?_, ?_⟩
  · have z : (r.1, r.2.1) ∈ B := m.perm.mem_iff.mp (List.mem_map.mpr ⟨r, hr, rfl⟩)
    have z2 := List.all_eq_true.mp h2 _ z
    rw [Bool.and_eq_true] at z2
    exact ⟨z2.1, of_decide_eq_true z2.2⟩
  · have z : (("a", 0) : Pr) ∈ B := List.contains_iff_mem.mp h3
    obtain ⟨r, hr, e⟩ := List.mem_map.mp (m.perm.mem_iff.mpr z)
    obtain ⟨j, hj⟩ := List.mem_iff_getElem?.mp hr
    exact ⟨j, r, hj, (Prod.mk.inj e).2⟩
  · have e := m.perm.length_eq
    rw [List.length_map] at e
    have := of_decide_eq_true h4
    omega
theorem F2.erase {α β : Type} {R : α → β → Prop} : ∀ {xs : List α} {ys : List β} (k : Nat), F2 R xs ys → F2 R (xs.eraseIdx k) (ys.eraseIdx k)
  | [], ys, k, h => by
    cases (show ys = [] from h)
    exact rfl
  | x :: xs, ys, 0, h => by
    obtain ⟨y, zs, rfl, h1, h2⟩ := h
    exact h2
  | x :: xs, ys, k + 1, h => by
    obtain ⟨y, zs, rfl, h1, h2⟩ := h
    exact ⟨y, _, rfl, h1, F2.erase k h2⟩
theorem erase_perm {α : Type} : ∀ {xs : List α} {k : Nat} {x : α}, xs[k]? = some x → xs.Perm (x :: xs.eraseIdx k)
  | [], k, x, h => by cases h
  | y :: ys, 0, x, h => by
    cases h
    exact List.Perm.refl _
  | y :: ys, k + 1, x, h => ((erase_perm (xs := ys) (k := k) h).cons y).trans (List.Perm.swap x y _)
theorem sx_nat {j n : Nat} (h : j < n) : seqIndex? (j : Int) n = some j := by
  unfold seqIndex?
  have h1 : ¬ ((j : Int) < 0) := by omega
  have h2 : (decide (0 ≤ (j : Int)) && decide ((j : Int) < (n : Int))) = true := by
    rw [decide_eq_true (by omega), decide_eq_true (by omega)]
    rfl
  simp only [if_neg h1, h2, if_true, Int.toNat_natCast]
/-- what stays but for a pen and two lists -/
def Bt (p u v : Addr) (G G' : Hp) : Prop := ∀ b o, b ≠ p → b ≠ u → b ≠ v → G b = some o → G' b = some o
theorem Bt.refl {p u v : Addr} (G : Hp) : Bt p u v G G := fun _ _ _ _ _ e => e
theorem Bt.but {p u v : Addr} {G G1 G2 : Hp} (a : Bt p u v G G1) (b : Pn.But p G1 G2) : Bt p u v G G2 := fun c o n1 n2 n3 e => b _ _ n1 (a _ _ n1 n2 n3 e)
theorem Bt.u {p u v : Addr} {G G1 : Hp} (a : Bt p u v G G1) (o : HO) : Bt p u v G (upd G1 u o) := fun c o n1 n2 n3 e => by
  rw [upd_ne n2]
  exact a _ _ n1 n2 n3 e
theorem Bt.v {p u v : Addr} {G G1 : Hp} (a : Bt p u v G G1) (o : HO) : Bt p u v G (upd G1 v o) := fun c o n1 n2 n3 e => by
  rw [upd_ne n3]
  exact a _ _ n1 n2 n3 e
theorem Bt.tk {p u v l : Addr} {ns : List Int} {c : Nat} {G G1 : Hp} {us vs : List V} (a : Bt p u v G G1) (P : Pn.Pen G p l ns c) (hu : G u = some (.lst us)) (hv : G v = some (.lst vs)) : TK G G1 := by
  obtain ⟨⟨_, _, _, e0, _⟩, _⟩ := P
  have n : ∀ b o, (∀ kvs, o ≠ HO.dK kvs) → (∀ xs, o ≠ HO.lst xs) → G b = some o → b ≠ p ∧ b ≠ u ∧ b ≠ v := fun b o h1 h2 e => by
    refine ⟨fun z => ?_, fun z => ?_, fun z => ?_⟩
    · rw [z, e0] at e
      cases e
      exact h1 _ rfl
    · rw [z, hu] at e
      cases e
      exact h2 _ rfl
    · rw [z, hv] at e
      cases e
      exact h2 _ rfl
  intro b xs
  refine ⟨fun e => ?_, fun o e => ?_⟩
  · obtain ⟨n1, n2, n3⟩ := n b _ (by intro _ z; cases z) (by intro _ z; cases z) e
    exact a _ _ n1 n2 n3 e
  · obtain ⟨n1, n2, n3⟩ := n b _ (by intro _ z; cases z) (by intro _ z; cases z) e
    exact a _ _ n1 n2 n3 e
def spOrder (K : PySem.W.Frag) : Sp := fun vs H Q _ => ∃ (p l : Addr) (ns : List Int) (c : Nat), vs = [.ref p] ∧ Pn.Pen H p l ns c ∧ ns.length ≤ 1000 ∧ c ≤ 900000000 ∧
  ∀ a R S B C H' c', OrdAt K H' a R S → B ∈ thingsB → C ∈ truthsB → Mixed B R → Mixed C S → c' ≤ c + 40 → Pn.Pen H' p l ns c' → Pn.But p H H' → Q (.ref a) H'
end Ad

namespace Ad
open PySem PySem.Spec PySem.Calls PyProof.Rows L2
abbrev sOrder : Stmt := topS 21
theorem scOrder : FnScope ["_law_pen_here", "_law_things", "_law_truths", "_law_rows", "_law_kind", "_law_blend", "_law_lap", "_law_name", "_law_arity"] ["_law_pen_here"] (defScope sOrder) := ⟨rfl, rfl, rfl, by decide +kernel, rfl, by decide +kernel, by decide +kernel⟩
section
variable {P : Program} {w : World} {K : PySem.W.Frag} {mg : Str → Option Value} {base : Heap}
theorem ok_order {f fD fP : Addr} {fd fdD fdP : FuncData} {k : Nat} (F : Fun K "_law_drawn_order" "_law_drawn_order" sOrder f fd)
    (GD : FnOk P w K mg base CX0 k fD fdD ["_law_pen_here", "_law_many_here"] Pn.spDraw) (gD : mg "_law_draw" = some (.ref fD)) (kD : PySem.W.keepIn K (.ref fD) = true) (bD : Binds K fdD ["_law_pen_here", "_law_many_here"] [])
    (GP : FnOk P w K mg base CX0 k fP fdP ["_law_pen_here", "_law_some"] (Pn.spPick K)) (gP : mg "_law_pick" = some (.ref fP)) (kP : PySem.W.keepIn K (.ref fP) = true) (bP : Binds K fdP ["_law_pen_here", "_law_some"] []) (mt : mg "tuple" = none) (mr : mg "range" = none) (mL : mg "list" = none) (ml : mg "len" = none) :
    FnOk P w K mg base CX0 (k + 1) f fd ["_law_pen_here"] (spOrder K) := by
  refine F.ok scOrder (fun vs H Q E h => ?_) (fun cdv A outer s H vs Q E hr h => ?_)
  · obtain ⟨p, l, ns, c, rfl, _⟩ := h
    rfl
  · obtain ⟨p, l, ns, c, rfl, hP, hlen, hc, q⟩ := h
    refine' ⟨_, C8.pss_cut ?s1 (C8.pss_cut ?s2 (C8.pss_cut ?s3 (pss_cons ?s4 (pss_cons ?s5 (pss_one ?s6))))), ?_⟩
    case s1 => exact (ps_set (i := 1) scOrder.nd rfl (.inl rfl) (pe_op op_cat (pe_op op_cat (pe_lst (pa_cons (pe_tup (pa_cons pe_str (pa_cons pe_int pa_nil))) (pa_cons (pe_tup (pa_cons pe_str (pa_cons pe_int pa_nil))) pa_nil)))
          (pe_ifExp (pt_cmpR op_eq (pe_call GD hr (by rfl) gD kD bD .nil pass0 (pa_cons (pv 0) (pa_cons pe_int pa_nil))) pe_int (nomark _)) (pe_lst (pa_cons (pe_tup (pa_cons pe_str (pa_cons pe_int pa_nil))) pa_nil)) (pe_lst pa_nil)))
          (pe_lst (pa_cons (pe_tup (pa_cons pe_str (pa_cons pe_int pa_nil))) pa_nil))))
    case s2 => exact (ps_set (i := 1) scOrder.nd rfl (.inl rfl) (pe_op op_cat (pv 1)
          (pe_ifExp (pt_cmpR op_eq (pe_call GD hr (by rfl) gD kD bD .nil pass0 (pa_cons (pv 0) (pa_cons pe_int pa_nil))) pe_int (nomark _)) (pe_lst (pa_cons (pe_tup (pa_cons pe_str (pa_cons pe_int pa_nil))) pa_nil)) (pe_lst pa_nil))))
    case s3 => exact (ps_set (i := 2) scOrder.nd rfl (.inl rfl) (pe_op op_cat (pe_lst (pa_cons (pe_tup (pa_cons pe_str (pa_cons pe_int pa_nil))) pa_nil))
          (pe_call GP hr (by rfl) gP kP bP .nil pass0 (pa_cons (pv 0) (pa_cons (pe_lst (pa_cons (pe_lst (pa_cons (pe_tup (pa_cons pe_str (pa_cons pe_int pa_nil))) pa_nil)) (pa_cons (pe_lst (pa_cons (pe_tup (pa_cons pe_str (pa_cons pe_int pa_nil))) pa_nil)) (pa_cons (pe_lst (pa_cons (pe_tup (pa_cons pe_str (pa_cons pe_int pa_nil))) (pa_cons (pe_tup (pa_cons pe_str (pa_cons pe_int pa_nil))) pa_nil))) pa_nil)))) pa_nil)))))
    case s4 => exact (ps_set (i := 3) scOrder.nd rfl (.inl rfl) (pe_lst pa_nil))
    case s5 => exact (ps_for PassesOwn.never rfl (pi_list (pe_lst (pa_cons (pv 1) (pa_cons (pv 2) pa_nil)))) (pg_name (i := 4) scOrder.nd rfl (.inl rfl))
        (pss_cons (ps_par (i := 4) (j := 5) (by rfl) scOrder.nd rfl rfl (by decide) rfl rfl (pa_cons (pe_callTy call_list_of (by rfl) mL (by decide +kernel) (pa_cons (pv 4) pa_nil)) (pa_cons (pe_lst pa_nil) pa_nil)) (by rfl))
        (pss_cons (ps_for PassesOwn.never rfl (pi_range1 (by rfl) mr (pa_cons (pe_callB call_len_seq (by rfl) ml PySem.boot_len (pa_cons (pv 4) pa_nil)) pa_nil)) (pg_name (i := 6) scOrder.nd rfl (.inl rfl))
          (pss_cons (ps_asg (pe_bm PySem.F.plainAttrs_list PySem.F.slot_list_pop PySem.F.type_list_pop mt_popAt (pv 4) (pa_cons (pe_call GD hr (by rfl) gD kD bD .nil pass0 (pa_cons (pv 0) (pa_cons (pe_callB call_len_seq (by rfl) ml PySem.boot_len (pa_cons (pv 4) pa_nil)) pa_nil))) pa_nil)) (pg_tup rfl (pgs_cons (pg_name (i := 7) scOrder.nd rfl (.inl rfl)) (pgs_cons (pg_name (i := 8) scOrder.nd rfl (.inl rfl)) pgs_nil))))
          (pss_one (ps_expr (pe_bm PySem.F.plainAttrs_list PySem.F.slot_list_append PySem.F.type_list_append mt_append (pv 5) (pa_cons (pe_tup (pa_cons (pv 7) (pa_cons (pv 8) (pa_cons (pe_call GP hr (by rfl) gP kP bP .nil pass0 (pa_cons (pv 0) (pa_cons (pe_lst (pa_cons pe_int (pa_cons pe_int (pa_cons pe_int pa_nil)))) pa_nil))) pa_nil)))) pa_nil))))))
        (pss_one (ps_expr (pe_bm PySem.F.plainAttrs_list PySem.F.slot_list_append PySem.F.type_list_append mt_append (pv 3) (pa_cons (pe_callTy call_tuple_of (by rfl) mt (by decide +kernel) (pa_cons (pv 5) pa_nil)) pa_nil)))))))
    case s6 => exact (ps_ret (pe_tup (pa_cons (pe_ix ix_list (pv 3) pe_int (fun _ _ => rfl)) (pa_cons (pe_ix ix_list (pv 3) pe_int (fun _ _ => rfl)) pa_nil))))
    refine ⟨fun σ G => ∃ (th : Addr) (R : List Pr) (c1 : Nat), σ = [some (.ref p), some (.ref th), none, none, none, none, none, none, none] ∧ LsP K G R th ∧ H th = none ∧ R ∈ [[(("a" : Str), 0), ("b", 0), ("c", 0), ("f", 1)], [("a", 0), ("b", 0), ("f", 1)]] ∧ Pn.Pen G p l ns c1 ∧ c1 ≤ c + 1 ∧ Pn.But p H G, ?_, ?_⟩
    · dsimp only [tAsg, tOp, tIf, tTest]
      refine lit_ls2 K (x := "a") (y := "b") (n := 0) (m := 0) fun a1 G1 s1 n1 L1 => ?_
      have P1 := pen_same hP s1
      refine ⟨.ref p, rfl, p, l, ns, c, 3, rfl, P1, hlen, by omega, by decide, by decide, fun r G2 r0 r1 P2 b2 => ⟨rfl, _, rfl, ?_⟩⟩
      have na := pen_kept hP n1
      replace L1 := LsP.but P1 b2 na L1
      have b12 : Pn.But p H G2 := (Pn.But.of s1).trans b2
      refine ite2 (fun _ => ?_) (fun _ => ?_)
      · refine lit_ls1 K (x := "c") (n := 0) fun a3 G3 s3 n3 L3 => ?_
        refine cat_prs (L1.same s3) L3 (by decide) fun a4 G4 s4 n4 L4 => ?_
        refine lit_ls1 K (x := "f") (n := 1) fun a5 G5 s5 n5 L5 => ?_
        refine cat_prs (L4.same s5) L5 (by decide) fun a6 G6 s6 n6 L6 => ?_
        have sm : Same G2 G5 := fun b o e => s5 b o (s4 b o (s3 b o e))
        have b5 := b12.trans (Pn.But.of sm)
        exact ⟨a6, _, c + 1, rfl, L6, fresh_back b5 (pen_same P2 sm) n6, by simp, pen_same (pen_same P2 sm) s6, Nat.le_refl _, b5.trans (Pn.But.of s6)⟩
      · refine lit_ls0 K fun a3 G3 s3 n3 L3 => ?_
        refine cat_prs (L1.same s3) L3 (by decide) fun a4 G4 s4 n4 L4 => ?_
        refine lit_ls1 K (x := "f") (n := 1) fun a5 G5 s5 n5 L5 => ?_
        refine cat_prs (L4.same s5) L5 (by decide) fun a6 G6 s6 n6 L6 => ?_
        have sm : Same G2 G5 := fun b o e => s5 b o (s4 b o (s3 b o e))
        have b5 := b12.trans (Pn.But.of sm)
        exact ⟨a6, _, c + 1, rfl, L6, fresh_back b5 (pen_same P2 sm) n6, by simp, pen_same (pen_same P2 sm) s6, Nat.le_refl _, b5.trans (Pn.But.of s6)⟩
    rintro σ G ⟨th, R, c1, rfl, LR, nth, hR, P1, hc1, b1⟩
    refine ⟨fun σ G => ∃ (th : Addr) (R : List Pr) (c1 : Nat), σ = [some (.ref p), some (.ref th), none, none, none, none, none, none, none] ∧ LsP K G R th ∧ H th = none ∧ R ∈ thingsB ∧ Pn.Pen G p l ns c1 ∧ c1 ≤ c + 2 ∧ Pn.But p H G, ?_, ?_⟩
    · dsimp only [tAsg, tOp, tIf, tTest]
      refine ⟨.ref th, rfl, .ref p, rfl, p, l, ns, c1, 2, rfl, P1, hlen, by omega, by decide, by decide, fun r G2 r0 r1 P2 b2 => ⟨rfl, _, rfl, ?_⟩⟩
      have na := pen_kept hP nth
      replace LR := LsP.but P1 b2 na LR
      have b12 : Pn.But p H G2 := b1.trans b2
      refine ite2 (fun _ => ?_) (fun _ => ?_)
      · refine lit_ls1 K (x := "g") (n := 2) fun a3 G3 s3 n3 L3 => ?_
        refine cat_prs (LR.same s3) L3 ?_ fun a4 G4 s4 n4 L4 => ?_
        · rcases List.mem_cons.mp hR with e | e
          · rw [e]; decide
          · rw [List.mem_singleton.mp e]; decide
        have b5 := b12.trans (Pn.But.of s3)
        refine ⟨a4, _, c1 + 1, rfl, L4, fresh_back b5 (pen_same P2 s3) n4, ?_, pen_same (pen_same P2 s3) s4, by omega, b5.trans (Pn.But.of s4)⟩
        rcases List.mem_cons.mp hR with e | e
        · rw [e]; decide
        · rw [List.mem_singleton.mp e]; decide
      · refine lit_ls0 K fun a3 G3 s3 n3 L3 => ?_
        refine cat_prs (LR.same s3) L3 ?_ fun a4 G4 s4 n4 L4 => ?_
        · rcases List.mem_cons.mp hR with e | e
          · rw [e]; decide
          · rw [List.mem_singleton.mp e]; decide
        have b5 := b12.trans (Pn.But.of s3)
        refine ⟨a4, _, c1 + 1, rfl, L4, fresh_back b5 (pen_same P2 s3) n4, ?_, pen_same (pen_same P2 s3) s4, by omega, b5.trans (Pn.But.of s4)⟩
        rcases List.mem_cons.mp hR with e | e
        · rw [e]; decide
        · rw [List.mem_singleton.mp e]; decide
    clear hR LR nth P1 hc1 b1 R th c1 G
    rintro σ G ⟨th, R, c1, rfl, LR, nth, hR, P1, hc1, b1⟩
    refine ⟨fun σ G => ∃ (tr : Addr) (S : List Pr) (c1 : Nat), σ = [some (.ref p), some (.ref th), some (.ref tr), none, none, none, none, none, none] ∧ LsP K G R th ∧ LsP K G S tr ∧ H tr = none ∧ S ∈ truthsB ∧ Pn.Pen G p l ns c1 ∧ c1 ≤ c + 3 ∧ Pn.But p H G, ?_, ?_⟩
    · dsimp only [tAsg, tOp, tCall]
      refine lit_ls1 K (x := "p") (n := 1) fun a1 G1 s1 n1 L1 => ?_
      refine ⟨.ref p, rfl, ?_⟩
      refine lit_truths K fun a2 G2 xs s2 n2 e2 len2 mem2 => ?_
      have sm : Same G G2 := fun b o e => s2 b o (s1 b o e)
      have P2 := pen_same P1 sm
      have na1 : a1 ≠ p := pen_kept P1 n1
      have na2 : a2 ≠ p := pen_kept (pen_same P1 s1) n2
      refine ⟨p, l, a2, ns, c1, xs, rfl, P2, hlen, by omega, .inl (.inl (.inl e2)), (by intro z; rw [z] at len2; cases len2), by omega, na2, fun x G3 hx P3 b3 => ?_⟩
      obtain ⟨b, S, rfl, nb, Lb, hS⟩ := mem2 x hx
      have nbp : b ≠ p := pen_kept (pen_same P1 s1) nb
      refine cat_prs (LsP.but P2 b3 na1 (L1.same s2)) (LsP.but P2 b3 nbp Lb) ?_ fun a4 G4 s4 n4 L4 => ?_
      · simp only [List.mem_cons, List.mem_nil_iff, or_false] at hS
        rcases hS with e | e | e <;> rw [e] <;> decide
      have b5 := (b1.trans (Pn.But.of sm)).trans b3
      refine ⟨a4, _, c1 + 1, rfl, ?_, L4, fresh_back b5 P3 n4, ?_, pen_same P3 s4, by omega, b5.trans (Pn.But.of s4)⟩
      · exact (LsP.but P2 b3 (pen_kept hP nth) (LR.same sm)).same s4
      · simp only [List.mem_cons, List.mem_nil_iff, or_false] at hS
        rcases hS with e | e | e <;> rw [e] <;> decide
    clear LR P1 hc1 b1 c1 G
    rintro σ G ⟨tr, S, c1, rfl, LR, LS, ntr, hS, P1, hc1, b1⟩
    refine ⟨by decide, fun rw nrw => ?_⟩
    have nrwH := fresh_back b1 P1 nrw
    have thrw : th ≠ rw := by
      obtain ⟨vs, e, _⟩ := LR
      exact ne_of_none e nrw
    have trrw : tr ≠ rw := by
      obtain ⟨vs, e, _⟩ := LS
      exact ne_of_none e nrw
    have s0 : Same G (upd G rw (.lst [])) := same_new (fun b o e => e) nrw _
    replace LR := LR.same s0
    replace LS := LS.same s0
    replace P1 := pen_same P1 s0
    replace b1 := b1.trans (Pn.But.of s0)
    have erw : (upd G rw (.lst [])) rw = some (.lst []) := upd_same
    clear s0 nrw
    generalize upd G rw (.lst []) = G0 at LR LS P1 b1 erw ⊢
    refine ⟨.ref th, rfl, .ref tr, rfl, (by show 2 ≤ sizeLine; decide), fun it nit => ⟨it, rfl, ⟨_, .inl (.inl upd_same)⟩, ?_⟩⟩
    have nitH := fresh_back b1 P1 nit
    have itrw : it ≠ rw := fun z => by rw [z, erw] at nit; cases nit
    have s0 : Same G0 (upd G0 it (.lst [.ref th, .ref tr])) := same_new (fun b o e => e) nit _
    replace LR := LR.same s0
    replace LS := LS.same s0
    replace P1 := pen_same P1 s0
    replace b1 := b1.trans (Pn.But.of s0)
    replace erw := s0 _ _ erw
    have eit : (upd G0 it (.lst [.ref th, .ref tr])) it = some (.lst [.ref th, .ref tr]) := upd_same
    clear s0 nit
    generalize upd G0 it (.lst [.ref th, .ref tr]) = G1 at LR LS P1 b1 erw eit ⊢
    have thp := pen_kept hP nth
    have trp := pen_kept hP ntr
    have rwp := pen_kept hP nrwH
    have itp := pen_kept hP nitH
    refine for_list (K := K) (a := it) (xs := [.ref th, .ref tr]) (fun i σ G => ∃ (v4 v5 v6 v7 v8 : Option V) (c2 : Nat) (rvs : List V), σ = [some (.ref p), some (.ref th), some (.ref tr), some (.ref rw), v4, v5, v6, v7, v8] ∧ Pn.Pen G p l ns c2 ∧ c2 ≤ c + 3 + i * 10 ∧ Pn.But p H G ∧ LsP K G R th ∧ LsP K G S tr ∧
      G rw = some (.lst rvs) ∧ F2 (KdV K G) ([R, S].take i) rvs ∧ G it = some (.lst [.ref th, .ref tr])) ⟨none, none, none, none, none, c1, [], rfl, P1, by omega, b1, LR, LS, erw, rfl, eit⟩ (fun i σ G _ ⟨_, _, _, _, _, _, _, _, _, _, _, _, _, _, _, e⟩ => .inl (.inl e)) ?_ ?_
    · clear LR LS P1 b1 erw eit G1 G0 hc1 c1 G
      rintro i x σ G hx ⟨v4, v5, v6, v7, v8, c2, rvs, rfl, P2, hc2, b2, LR, LS, erw, frw, eit⟩
      obtain ⟨kd0, B, hB, rfl, LB, nkp, hlt, fewB⟩ : ∃ kd0 B, [R, S][i]? = some B ∧ x = .ref kd0 ∧ LsP K G B kd0 ∧ kd0 ≠ p ∧ i < 2 ∧ B.length ≤ 5 := by
        match i, hx with
        | 0, hx =>
          refine ⟨th, R, rfl, (Option.some.inj hx).symm, LR, thp, by omega, ?_⟩
          have : (thingsB.all fun B => decide (B.length ≤ 5)) = true := by decide
          exact of_decide_eq_true (List.all_eq_true.mp this R hR)
        | 1, hx =>
          refine ⟨tr, S, rfl, (Option.some.inj hx).symm, LS, trp, by omega, ?_⟩
          have : (truthsB.all fun B => decide (B.length ≤ 5)) = true := by decide
          exact of_decide_eq_true (List.all_eq_true.mp this S hS)
      obtain ⟨ks, ek, fk⟩ := LB
      refine ⟨.ref kd0, rfl, kd0, ks, rfl, .inl (.inl (.inl ek)), fun kd nkd => ⟨Nat.zero_le _, fun bl nbl => ⟨.ref kd, .ref bl, rfl, ?_⟩⟩⟩
      have nkdH := fresh_back b2 P2 nkd
      have s0 : Same G (upd G kd (.lst ks)) := same_new (fun b o e => e) nkd _
      have ekd : (upd G kd (.lst ks)) kd = some (.lst ks) := upd_same
      have rwkd : rw ≠ kd := ne_of_none erw nkd
      have thkd : th ≠ kd := by
        obtain ⟨vs, e, _⟩ := LR
        exact ne_of_none e nkd
      have trkd : tr ≠ kd := by
        obtain ⟨vs, e, _⟩ := LS
        exact ne_of_none e nkd
      have itkd : it ≠ kd := ne_of_none eit nkd
      replace LR := LR.same s0
      replace LS := LS.same s0
      replace P2 := pen_same P2 s0
      replace b2 := b2.trans (Pn.But.of s0)
      replace erw := s0 _ _ erw
      replace eit := s0 _ _ eit
      replace fk := fk.mono (PrV.mono (TK.same s0))
      replace frw := frw.mono (KdV.mono (TK.same s0))
      clear s0 nkd ek
      generalize upd G kd (.lst ks) = G2 at ekd LR LS P2 b2 erw eit fk frw nbl ⊢
      have nblH := fresh_back b2 P2 nbl
      have s0 : Same G2 (upd G2 bl (.lst [])) := same_new (fun b o e => e) nbl _
      have ebl : (upd G2 bl (.lst [])) bl = some (.lst []) := upd_same
      have rwbl : rw ≠ bl := ne_of_none erw nbl
      have thbl : th ≠ bl := by
        obtain ⟨vs, e, _⟩ := LR
        exact ne_of_none e nbl
      have trbl : tr ≠ bl := by
        obtain ⟨vs, e, _⟩ := LS
        exact ne_of_none e nbl
      have itbl : it ≠ bl := ne_of_none eit nbl
      have kdbl : kd ≠ bl := ne_of_none ekd nbl
      replace LR := LR.same s0
      replace LS := LS.same s0
      replace P2 := pen_same P2 s0
      replace b2 := b2.trans (Pn.But.of s0)
      replace erw := s0 _ _ erw
      replace eit := s0 _ _ eit
      replace ekd := s0 _ _ ekd
      replace fk := fk.mono (PrV.mono (TK.same s0))
      replace frw := frw.mono (KdV.mono (TK.same s0))
      clear s0 nbl
      generalize upd G2 bl (.lst []) = G3 at ekd ebl LR LS P2 b2 erw eit fk frw ⊢
      have kdp := pen_kept hP nkdH
      have blp := pen_kept hP nblH
      have lk := fk.len
      refine ⟨.ref kd, rfl, kd, ks, rfl, .inl (.inl (.inl ekd)), _, rfl, by omega, by omega, for_range (lo := 0) (n := ((ks.length : Int)).toNat) (fun j σ G => ∃ (v6 v7 v8 : Option V) (c3 : Nat) (rest : List Pr) (done : List Row) (rs ds : List V), σ = [some (.ref p), some (.ref th), some (.ref tr), some (.ref rw), some (.ref kd), some (.ref bl), v6, v7, v8] ∧
        Pn.Pen G p l ns c3 ∧ c3 ≤ c2 + j * 2 ∧ Pn.But p H G ∧ Bt p kd bl G3 G ∧ G kd = some (.lst rs) ∧ G bl = some (.lst ds) ∧ F2 (PrV K G) rest rs ∧ F2 (RowV K G) done ds ∧ done.length = j ∧ (rest ++ done.map fun r => (r.1, r.2.1)).Perm B ∧ ∀ r ∈ done, r.2.2 = 1 ∨ r.2.2 = 2)
        ⟨v6, v7, v8, c2, B, [], ks, [], rfl, P2, by omega, b2, Bt.refl _, ekd, ebl, fk, rfl, rfl, by rw [List.map_nil, List.append_nil], fun r hr => nomatch hr⟩ ?_ ?_⟩
      · rintro j σ G4 hj ⟨v6, v7, v8, c3, rest, done, rs, ds, rfl, P4, hc3, b4, t4, gk, gb, fr, fd, ld, perm, wts⟩
        have lr := fr.len
        have lds := fd.len
        have tot := perm.length_eq
        rw [List.length_append, List.length_map] at tot
        refine ⟨_, rfl, .inl ⟨rfl, _, .inl (.inl gk)⟩, .ref p, rfl, .ref kd, rfl, kd, rs, rfl, .inl (.inl (.inl gk)), p, l, ns, c3, _, rfl, P4, hlen, by omega, by omega, by omega, fun r G5 r0 r1 P5 b5 => ?_⟩
        obtain ⟨m, rfl⟩ : ∃ m : Nat, r = (m : Int) := ⟨r.toNat, by omega⟩
        have hm : m < rs.length := by omega
        have hg : rs[m]? = some rs[m] := List.getElem?_eq_getElem hm
        generalize rs[m] = y at hg
        have gk5 := b5 _ _ kdp gk
        have gb5 := b5 _ _ blp gb
        have k5 := pen_tk P4 b5
        obtain ⟨pr, hpr, ⟨b, rfl, sqb⟩⟩ := (fr.mono (PrV.mono k5)).get hg
        refine ⟨kd, rs, (m : Int), m, .ref b, rfl, rfl, gk5, by omega, by omega, sx_nat hm, hg, ?_⟩
        have k6 : TK G5 (upd G5 kd (.lst (rs.eraseIdx m))) := TK.lst gk5 _
        have gk6 : (upd G5 kd (.lst (rs.eraseIdx m))) kd = some (.lst (rs.eraseIdx m)) := upd_same
        have gb6 : (upd G5 kd (.lst (rs.eraseIdx m))) bl = some (.lst ds) := by rw [upd_ne kdbl.symm]; exact gb5
        have P6 := pen_on hP nkdH P5 (.lst (rs.eraseIdx m))
        have b6 := but_on (b4.trans b5) nkdH (.lst (rs.eraseIdx m))
        have t6 := (t4.but b5).u (.lst (rs.eraseIdx m))
        replace sqb := k6.sq sqb
        have fr6 := F2.erase m (fr.mono (PrV.mono (k5.trans k6)))
        have fd6 := fd.mono (RowV.mono (k5.trans k6))
        clear k5 k6 P5 b5 P4 b4 t4 gk gb fr fd gk5 gb5
        generalize upd G5 kd (.lst (rs.eraseIdx m)) = G6 at gk6 gb6 P6 b6 t6 sqb fr6 fd6 ⊢
        refine ⟨b, _, rfl, sqb, rfl, .str pr.1, _, rfl, .int (pr.2 : Int), _, rfl, rfl, ?_⟩
        refine ⟨_, rfl, .inl ⟨rfl, _, .inl (.inl gb6)⟩, .str pr.1, rfl, .int (pr.2 : Int), rfl, .ref p, rfl, (by show 3 ≤ sizeLine; decide), fun q4 n4 => ?_⟩
        have s7 : Same G6 (upd G6 q4 (.lst [.int 1, .int 1, .int 2])) := same_new (fun b o e => e) n4 _
        have e7 : (upd G6 q4 (.lst [.int 1, .int 1, .int 2])) q4 = some (.lst [.int 1, .int 1, .int 2]) := upd_same
        have q4p := pen_kept P6 n4
        have P7 := pen_same P6 s7
        refine ⟨p, l, q4, ns, c3 + 1, _, rfl, P7, hlen, by omega, .inl (.inl (.inl e7)), (by intro z; cases z), (by show 3 ≤ 1000000; decide), q4p, fun x G8 hx P8 b8 => ?_⟩
        obtain ⟨wt, rfl, hwt⟩ : ∃ wt : Int, x = .int wt ∧ (wt = 1 ∨ wt = 2) := by
          simp only [List.mem_cons, List.mem_nil_iff, or_false] at hx
          rcases hx with e | e | e <;> rw [e]
          · exact ⟨1, rfl, .inl rfl⟩
          · exact ⟨1, rfl, .inl rfl⟩
          · exact ⟨2, rfl, .inr rfl⟩
        refine ⟨(by show 3 ≤ sizeLine; decide), fun q6 n6 => ?_⟩
        have s9 : Same G8 (upd G8 q6 (.tup [.str pr.1, .int (pr.2 : Int), .int wt])) := same_new (fun b o e => e) n6 _
        have e9 : (upd G8 q6 (.tup [.str pr.1, .int (pr.2 : Int), .int wt])) q6 = some (.tup [.str pr.1, .int (pr.2 : Int), .int wt]) := upd_same
        have k9 : TK G6 (upd G8 q6 (.tup [.str pr.1, .int (pr.2 : Int), .int wt])) := ((TK.same s7).trans (pen_tk P7 b8)).trans (TK.same s9)
        have gk9 := s9 _ _ (b8 _ _ kdp (s7 _ _ gk6))
        have gb9 := s9 _ _ (b8 _ _ blp (s7 _ _ gb6))
        have P9 := pen_same P8 s9
        have b9 := ((b6.trans (Pn.But.of s7)).trans b8).trans (Pn.But.of s9)
        have t9 := ((t6.but (Pn.But.of s7)).but b8).but (Pn.But.of s9)
        replace fr6 := fr6.mono (PrV.mono k9)
        replace fd6 := fd6.mono (RowV.mono k9)
        clear k9 s9 P8 b8 n6 P7 q4p e7 s7 n4 sqb P6 b6 t6 gk6 gb6
        generalize upd G8 q6 (.tup [.str pr.1, .int (pr.2 : Int), .int wt]) = G9 at e9 gk9 gb9 P9 b9 t9 fr6 fd6 ⊢
        refine ⟨bl, ds, .ref q6, rfl, rfl, gb9, by rw [sizeLine_eq]; omega, ?_⟩
        have kA : TK G9 (upd G9 bl (.lst (ds ++ [.ref q6]))) := TK.lst gb9 _
        refine ⟨_, _, _, c3 + 2, rest.eraseIdx m, done ++ [(pr.1, pr.2, wt)], rs.eraseIdx m, ds ++ [.ref q6], rfl, pen_on hP nblH P9 _, by omega, but_on b9 nblH _, t9.v _, by rw [upd_ne kdbl]; exact gk9, upd_same, fr6.mono (PrV.mono kA), (fd6.mono (RowV.mono kA)).app (F2.one ⟨q6, rfl, kA.sq (.inl (.inl e9))⟩), by rw [List.length_append, List.length_singleton, ld], ?_, ?_⟩
        · refine List.Perm.trans ?_ perm
          rw [List.map_append]
          show (rest.eraseIdx m ++ (done.map (fun r => (r.1, r.2.1)) ++ [pr])).Perm (rest ++ done.map fun r => (r.1, r.2.1))
          have e1 := erase_perm hpr
          rw [← List.append_assoc]
          refine (List.perm_append_singleton pr _).trans ?_
          exact (e1.symm.append_right _)
        · intro r hr
          rcases List.mem_append.mp hr with z | z
          · exact wts r z
          · rw [List.mem_singleton.mp z]
            exact hwt
      · rintro σ G4 ⟨v6, v7, v8, c3, rest, done, rs, ds, rfl, P4, hc3, b4, t4, gk, gb, fr, fd, ld, perm, wts⟩
        have tot := perm.length_eq
        rw [List.length_append, List.length_map] at tot
        have re : rest = [] := List.length_eq_zero_iff.mp (by omega)
        subst re
        have k4 := t4.tk P2 ekd ebl
        have rw4 := t4 _ _ rwp rwkd rwbl erw
        have it4 := t4 _ _ itp itkd itbl eit
        have ls : ∀ {R a}, LsP K G3 R a → a ≠ p → a ≠ kd → a ≠ bl → LsP K G4 R a := fun h n1 n2 n3 => by
          obtain ⟨vs, e, f⟩ := h
          exact ⟨vs, t4 _ _ n1 n2 n3 e, f.mono (PrV.mono k4)⟩
        have LR4 := ls LR thp thkd thbl
        have LS4 := ls LS trp trkd trbl
        have frw4 := frw.mono (KdV.mono k4)
        refine ⟨_, rfl, .inl ⟨rfl, _, .inl (.inl rw4)⟩, .ref bl, rfl, bl, ds, rfl, .inl ⟨.inl (.inl gb), fun q5 n5 => ?_⟩⟩
        have s5 : Same G4 (upd G4 q5 (.tup ds)) := same_new (fun b o e => e) n5 _
        have e5 : (upd G4 q5 (.tup ds)) q5 = some (.tup ds) := upd_same
        replace LR4 := LR4.same s5
        replace LS4 := LS4.same s5
        replace P4 := pen_same P4 s5
        replace b4 := b4.trans (Pn.But.of s5)
        replace rw4 := s5 _ _ rw4
        replace it4 := s5 _ _ it4
        replace fd := fd.mono (RowV.mono (TK.same s5))
        replace frw4 := frw4.mono (KdV.mono (TK.same s5))
        clear s5 n5 ls k4 t4 gk gb
        generalize upd G4 q5 (.tup ds) = G5 at e5 LR4 LS4 P4 b4 rw4 it4 fd frw4 ⊢
        have lrv := frw4.len
        refine ⟨rw, rvs, .ref q5, rfl, rfl, rw4, by rw [sizeLine_eq, lrv, List.length_take]; omega, ?_⟩
        have kA : TK G5 (upd G5 rw (.lst (rvs ++ [.ref q5]))) := TK.lst rw4 _
        have up : ∀ {R a}, LsP K G5 R a → a ≠ rw → LsP K (upd G5 rw (.lst (rvs ++ [.ref q5]))) R a := fun h n => by
          obtain ⟨vs, e, f⟩ := h
          exact ⟨vs, by rw [upd_ne n]; exact e, f.mono (PrV.mono kA)⟩
        refine ⟨_, _, _, _, _, c3, rvs ++ [.ref q5], rfl, pen_on hP nrwH P4 _, by omega, but_on b4 nrwH _, up LR4 thrw, up LS4 trrw, upd_same, ?_, by rw [upd_ne itrw]; exact it4⟩
        rw [List.take_add_one, hB]
        exact (frw4.mono (KdV.mono kA)).app (F2.one ⟨q5, done, ds, rfl, ⟨perm, wts⟩, kA.sq (.inl (.inl e5)), fd.mono (RowV.mono kA)⟩)
    · rintro σ G ⟨v4, v5, v6, v7, v8, c2, rvs, rfl, P2, hc2, b2, _, _, erw2, frw, _⟩
      obtain ⟨x1, r1, rfl, ⟨k1, R1, vs1, rfl, m1, sq1, f1⟩, ⟨x2, r2, rfl, ⟨k2, R2, vs2, rfl, m2, sq2, f2⟩, fe⟩⟩ := frw
      cases (show r2 = [] from fe)
      refine ⟨.ref rw, rfl, rw, _, 0, _, rfl, rfl, .inl (.inl erw2), atI_nat (j := 0) rfl, .ref rw, rfl, rw, _, 1, _, rfl, rfl, .inl (.inl erw2), atI_nat (j := 1) rfl, (by show 2 ≤ sizeLine; decide), fun q5 n5 => ?_⟩
      have s5 : Same G (upd G q5 (.tup [.ref k1, .ref k2])) := same_new (fun b o e => e) n5 _
      have k5 := TK.same s5
      exact q q5 R1 R2 R S _ c2 ⟨k1, k2, vs1, vs2, .inl (.inl upd_same), k5.sq sq1, k5.sq sq2, f1.mono (RowV.mono k5), f2.mono (RowV.mono k5)⟩ hR hS m1 m2 (by simp only [List.length_cons, List.length_nil] at hc2; omega) (pen_same P2 s5) (b2.trans (Pn.But.of s5))
end
end Ad

/-! enumerate(t) of a tuple; walks over a list or a tuple. -/
namespace Et
open PySem PySem.Spec PySem.Calls PyProof.Rows L2 RZ
theorem draws {prog : Program} {w : World} {A : Around} (hh : A.handled = none) (it l : Addr) (hl : l ≠ it) (items : Array Value) :
    Draws prog w A it [it, l] items.size (fun i v => items[i]? = some v) (fun i h => h.IsTupleIter it l i ∧ h.IsTuple l items) where
  live := fun _ _ ⟨⟨o, ho, _⟩, _⟩ => ⟨o, ho⟩
  frame := fun _ _ _ ⟨st, tp⟩ hk => ⟨st.at fun o e => hk it (by simp) o e, by
    obtain ⟨o, e, r⟩ := tp
    exact ⟨o, hk l (by simp) o e, r⟩⟩
  item := fun i s Q E hi ⟨st, tp⟩ hQ => by
    refine nextOf_tuple_item st tp (x := items[i]) (by simp [hi]) fun h' hit' hs' => ?_
    refine hQ _ h' s.toks (by simp [hi]) ⟨hit', ?_⟩ hs'
    obtain ⟨o, e, r⟩ := tp
    exact ⟨o, hs'.extBut _ _ hl e, r⟩
  done := fun s Q E ⟨st, tp⟩ hE => nextOf_tuple_end hh st tp (by simp) hE
theorem meets_newT (l : Addr) (items : Array Value) :
    Meets (Builtin.«enumerate.__new__» ⟨[.type "enumerate", .ref l], []⟩) (fun _ R s => s.heap.IsTuple l items ∧
      R (.ok (.ret (.ref (s.heap.push { cls := .type "tuple_iterator", data := .fields #[.ref l, .int 0 0] }).objs.size)))
        { s with heap := (s.heap.push { cls := .type "tuple_iterator", data := .fields #[.ref l, .int 0 0] }).push { cls := .type "enumerate", data := .fields #[.none, .bool false, .ref s.heap.objs.size, rawInt 0, .none, .none] } }) :=
  .of_wp fun prog w A R s h => by
    obtain ⟨hp, g, d, tk, os⟩ := s; obtain ⟨hL, h⟩ := h
    have hsub := sub_enumerate
    have hL : Heap.IsTuple (Shared.heap ⟨hp, g, d, tk, os⟩) l items := hL
    wp_walk
    refine wpAny_stack_any fun st => wpAny_pure ?_
    split
    · rename_i c _ _ _ _ _
      cases (c == Value.type "enumerate")
      · wp_walk using wpAny_pyIter_tuple hL
        exact ⟨_, rfl, h⟩
      · wp_walk using wpAny_pyIter_tuple hL
        exact ⟨_, rfl, h⟩
    · wp_walk using wpAny_pyIter_tuple hL
      exact ⟨_, rfl, h⟩
section
variable {prog : Program} {w : World} {A : Around} {E : Value → Shared → Prop} {s : Shared}
theorem call_enumT {l : Addr} {items : Array Value} {Q : Value → Shared → Prop} (hL : s.heap.IsTuple l items)
    (h : ∀ h', IsEnum h' (s.heap.objs.size + 1) s.heap.objs.size 0 .none → h'.IsTupleIter s.heap.objs.size l 0 → h'.objs.size = s.heap.objs.size + 2 →
      (∀ b o, s.heap.get? b = some o → h'.get? b = some o) → Q (.ref (s.heap.objs.size + 1)) { s with heap := h' }) :
    wpAny (model prog w) A (call (.type "enumerate") [.ref l]) Q E s := by
  refine callType_new F.called_enumerate (by decide) (F.typeCall_enumerate_1 _) (F.newCall_enumerate_1 _) (fun obj => F.args_object_init_2 obj _) F.entry_enumerate_new
    (meets_newT l items) ⟨hL, ?_⟩
  have hz : (s.heap.push { cls := .type "tuple_iterator", data := .fields #[.ref l, .int 0 0] }).objs.size = s.heap.objs.size + 1 := Heap.size_push ..
  show _ ∧ _
  rw [hz]
  have he : IsEnum ((s.heap.push { cls := .type "tuple_iterator", data := .fields #[.ref l, .int 0 0] }).push
      { cls := .type "enumerate", data := .fields #[.none, .bool false, .ref s.heap.objs.size, rawInt 0, .none, .none] }) (s.heap.objs.size + 1) s.heap.objs.size 0 .none := by
    have := Heap.get?_push_size (s.heap.push { cls := .type "tuple_iterator", data := .fields #[.ref l, .int 0 0] })
      (o := { cls := .type "enumerate", data := .fields #[.none, .bool false, .ref s.heap.objs.size, rawInt 0, .none, .none] }) rfl
    rw [hz] at this; exact this
  refine ⟨⟨_, he, rfl⟩, h _ he ⟨_, Heap.get?_push_of_some _ (Heap.get?_push_size _ rfl), rfl, rfl⟩ (by rw [Heap.size_push, hz]) fun b o x => Heap.get?_push_of_some _ (Heap.get?_push_of_some _ x)⟩
end
/-- the tuple at a, each item in a new pair -/
def IteT (K : PySem.W.Frag) (a : Addr) : It :=
  ⟨fun i H => ∃ (xs : List V) (x : V), SqT K H a xs ∧ xs[i]? = some x, fun i H v H' => ∃ T x, v = .ref T ∧ H T = none ∧ H' = upd H T (.tup [.int (i : Nat), x]) ∧ ∀ xs, SqT K H a xs → xs[i]? = some x, fun i H => ∃ xs : List V, SqT K H a xs ∧ xs.length ≤ i⟩
theorem turn_enumT {P : Program} {w : World} {K : PySem.W.Frag} {elts : List Expr} {kk : Nat} {tpos : Pos} (a e it : Addr) :
    Turn P w K (.Tuple elts kk tpos) (IteT K a) [e, it] e (fun i h => (∃ old, IsEnum h e it ((i : Nat) : Int) old) ∧ h.IsTupleIter it a i ∧ e ≠ it ∧ a ≠ e ∧ a ≠ it) where
  mem := by simp
  obj := fun i h st b hb => by
    obtain ⟨⟨old, he⟩, ⟨o, ho, hc, hd⟩, _⟩ := st
    have e' : b = e ∨ b = it := by simpa using hb
    rcases e' with z | z
    · rw [z]; exact ⟨_, he, fun v q => nomatch q⟩
    · rw [z]; exact ⟨o, ho, fun v q => by rw [hd] at q; cases q⟩
  keep := fun i h h' st k => let ⟨⟨old, he⟩, hi, hne, r⟩ := st; ⟨⟨old, k e (by simp) _ he⟩, hi.at fun o q => k it (by simp) o q, hne, r⟩
  item := by
    intro X hP hw hK hc i pins s σ H E I hf st hg
    subst hP hw hK
    obtain ⟨⟨old, he⟩, hit, hne, ae, ai⟩ := st
    obtain ⟨xs, x, hq, hx⟩ := hg
    obtain ⟨its, rv, p, hz⟩ := I.tuple hq
    obtain ⟨u, hu, ru⟩ := rv.get hx
    have hel : e < s.heap.objs.size := Heap.lt_size he
    have hil : it < s.heap.objs.size := by obtain ⟨_, q, _⟩ := hit; exact Heap.lt_size q
    have lt : i < its.toArray.size := by
      have := (List.getElem?_eq_some_iff.mp hu).1
      simpa using this
    refine wpAny_pyNext_enum_itemD (draws (A := X.A.in1) (show X.A.in1.handled = none from I.ok.hd hc) it a ai its.toArray) he ⟨hit, p⟩ lt hne (by simp [hne, Ne.symm ae]) fun u' h' tk hu' ho hst' hT hsz hk => ?_
    have eu : u' = u := by
      have z : its[i]? = some u' := by simpa using hu'
      rw [hu] at z
      exact (Option.some.inj z).symm
    subst eu
    refine ⟨_, rfl, wpAny_letOwnedTupleGo_enum (s := { s with heap := h', toks := tk + 1 }) ho fun h'' he' sb => ?_⟩
    have hT2 : h''.get? s.heap.objs.size = some { cls := .type "tuple", data := .seq #[.int i tk, u'] } := (sb.2 _ (Nat.ne_of_gt hel)).trans hT
    have new : ObjOk X.prog X.w (upd H s.heap.objs.size (.tup [.int (i : Nat), x])) h'' s.heap.objs.size (.tup [.int (i : Nat), x]) :=
      ⟨by show 2 ≤ sizeLine; decide, [.int i tk, u'], .cons ⟨_, rfl⟩ (.cons ru .nil), ⟨_, hT2, rfl, _, rfl⟩⟩
    have I1 : Inv X pins σ (upd H s.heap.objs.size (.tup [.int (i : Nat), x])) { s with heap := h'', toks := tk + 1 } :=
      I.turnedNew (ch := [e, it]) (fun b ob hb q => (sb.2 b (fun z => hb (by simp [z]))).trans (hk b ob (fun z => hb (by simp [z])) (fun z => hb (by simp [z])) q)) hf (Nat.le_refl _) new
    refine ⟨.ref s.heap.objs.size, _, I1, rfl, ⟨_, x, rfl, I.hok.fresh (Nat.le_refl _), rfl, fun ys hy => by rw [I.tuple_inj hy hq]; exact hx⟩, ⟨⟨u', ?_⟩, hst'.1.at fun o q => (sb.2 it (Ne.symm hne)).trans q, hne, ae, ai⟩, fun b hb => ?_⟩
    · have e1 : ((i + 1 : Nat) : Int) = (i : Int) + 1 := by omega
      rw [e1]; exact he'
    · have hb' : b < s.heap.objs.size := by
        have e' : b = e ∨ b = it := by simpa using hb
        rcases e' with z | z
        · rw [z]; exact hel
        · rw [z]; exact hil
      rw [upd_ne (Nat.ne_of_lt hb')]
      exact (hf b hb).1
  done := by
    intro X hP hw hK hc i pins s σ H E I hf st hg
    subst hP hw hK
    obtain ⟨⟨old, he⟩, hit, hne, ae, ai⟩ := st
    obtain ⟨xs, hq, hx⟩ := hg
    obtain ⟨its, rv, p, hz⟩ := I.tuple hq
    obtain ⟨f0, f1, f2, f3, f4, f5⟩ := hf it (by simp)
    have hl := rv.length
    have key : ∀ (Q : Option Value → Shared → Prop), (∀ h', Heap.ExtBut it s.heap h' → Q none { s with heap := h' }) → wpAny (model X.prog X.w) X.A (pyNext (.ref e)) Q E s := by
      intro Q hQ
      have hT : s.TypeIs (.ref e) "enumerate" := ⟨_, he, rfl⟩
      unfold pyNext
      refine wpAny_bind (wpAny_attempt (wpAny_callSpecial?_slot (name := Str.ofString "__next__") hT F.slot_enumerate_next
        (wpAny_call_entry F.slot_enumerate_next hT F.entry_enumerate_next ?_ (F.args_enumerate_next_1 _))))
      show wpAny _ _ (field (.ref e) 2 >>= _) _ _ _
      refine wpAny_bind (wpAny_field he rfl (x := .ref it) rfl ?_)
      refine wpAny_bind (nextOf_tuple_end (show X.A.in1.handled = none from I.ok.hd hc) hit p (by simp; omega) fun h' x he' hx' => ?_)
      obtain ⟨o, ho, hcx⟩ := hx'
      refine wpAny_bind (wpAny_isInstance (T := "StopIteration") (b := true) ⟨o, ho, hcx⟩ isSubtype_stop ?_)
      exact wpAny_pure (hQ _ he')
    exact key _ fun h' eb => ⟨rfl, I.turned (t' := s.toks) (fun b o hb q => eb b o hb q) f0 f1 f3 f4 f5⟩
  self := fun A i s Q E st h => let ⟨⟨_, he⟩, _⟩ := st; wpAny_pyIter_enum he h
def iEnumT (K : PySem.W.Frag) (ta : TA) : TI := fun σ H R => ta σ H fun vs H1 => ∃ a xs, vs = [.ref a] ∧ SqT K H1 a xs ∧ R (IteT K a) H1
theorem pi_enumT {X : Cx} {e : Expr} {ta : TA} {p pos tpos : Pos} {elts : List Expr} {kk : Nat} (hg : Gl X "enumerate") (hm : X.mg "enumerate" = none) (ha : PA X [e] ta) (hs : starEach [e] X.env = [(false, eval e X.env)] := by rfl) :
    PI X (.Tuple elts kk tpos) (.Call (.Name "enumerate" p) [e] [] pos) (iEnumT X.K ta) := by
  refine ⟨fun pins s σ H R I h => ?_⟩
  refine Call_ (ld_blt I hg hm boot_enumerate (PyProof.Rows.callWith_type1 (thn (ha.run pos pins s σ H _ I h) fun us s1 ⟨vs, H1, I1, r1, q1⟩ => ?_) hs rfl))
  obtain ⟨a, xs, ex, hq, q⟩ := q1
  subst ex
  cases r1 with
  | cons r rr =>
    cases rr
    cases r
    obtain ⟨its, rv, p', hz⟩ := I1.tuple hq
    have la : a < s1.heap.objs.size := p'.lt
    refine call_enumT p' fun h' he hit hsz hk => wpAny_pyIter_enum he ?_
    have I2 : Inv X pins σ H1 { s1 with heap := h' } := I1.kept (t' := s1.toks) hk
    refine ⟨s1.heap.objs.size + 1, [s1.heap.objs.size + 1, s1.heap.objs.size], _, _, H1, rfl, I2, turn_enumT a (s1.heap.objs.size + 1) s1.heap.objs.size, ⟨⟨.none, he⟩, hit, Nat.succ_ne_self _, Nat.ne_of_lt (Nat.lt_succ_of_lt la), Nat.ne_of_lt la⟩, fun b hb => ?_, q⟩
    have e' : b = s1.heap.objs.size + 1 ∨ b = s1.heap.objs.size := by simpa using hb
    have hle : s1.heap.objs.size ≤ b := by
      rcases e' with z | z
      · rw [z]; exact Nat.le_add_right _ _
      · rw [z]; exact Nat.le_refl _
    exact I1.fpOk hle (I1.hok.fresh hle)
/-! ### a list or a tuple -/
def iAny (K : PySem.W.Frag) (tl : TE) : TI := fun σ H R => tl σ H fun x H1 => ∃ a, x = .ref a ∧ ((∃ xs, SqL K H1 a xs ∧ R (Itl K a) H1) ∨ ∃ xs, SqT K H1 a xs ∧ R (Itt K a) H1)
theorem pi_any {X : Cx} {tg l : Expr} {tl : TE} (hl : PE X l tl) : PI X tg l (iAny X.K tl) := by
  refine ⟨fun pins s σ H R I h => ?_⟩
  refine thn (hl.run pins s σ H _ I h) fun v s1 ⟨x, H1, I1, r1, q1⟩ => ?_
  obtain ⟨a, e, q1⟩ := q1
  subst e
  cases r1
  rcases q1 with ⟨xs, hq, q⟩ | ⟨xs, hq, q⟩
  · obtain ⟨its, rv, p, hz⟩ := I1.list hq
    refine wpAny_pyIter_list p.isList ?_
    refine ⟨s1.heap.objs.size, [s1.heap.objs.size], _, _, H1, rfl, I1.kept (t' := s1.toks) fun b o e => Heap.get?_push_of_some _ e, turn_list a _, ⟨_, Heap.get?_push_size _ rfl, rfl, rfl⟩, fun b hb => ?_, q⟩
    have e : b = s1.heap.objs.size := by simpa using hb
    subst e
    exact I1.fpOk (Nat.le_refl _) (I1.hok.fresh (Nat.le_refl _))
  · obtain ⟨its, rv, p, hz⟩ := I1.tuple hq
    refine wpAny_pyIter_tuple (show s1.heap.IsTuple a its.toArray from p) ?_
    refine ⟨s1.heap.objs.size, [s1.heap.objs.size], _, _, H1, rfl, I1.kept (t' := s1.toks) fun b o e => Heap.get?_push_of_some _ e, turn_tuple a _, ⟨_, Heap.get?_push_size _ rfl, rfl, rfl⟩, fun b hb => ?_, q⟩
    have e : b = s1.heap.objs.size := by simpa using hb
    subst e
    exact I1.fpOk (Nat.le_refl _) (I1.hok.fresh (Nat.le_refl _))
end Et

/-! Orders: rows handed in, the object, its dicts. -/
namespace Ad
open PySem PySem.Spec PySem.Calls PyProof.Rows L2
theorem lsq_ty {K : PySem.W.Frag} {H : Hp} {a : Addr} {xs : List V} (h : SqL K H a xs) : TyX K H (.ref a) (.type "list") := by
  rcases h with (h | ⟨o, h⟩) | h
  · exact .base (.lst h)
  · exact .base (.frz h)
  · obtain ⟨o, _, _, e, c, _⟩ := h
    exact .kList e c
theorem kitSS' {K : PySem.W.Frag} : PySem.W.kitOne K (.type "str") (.type "str") = some true := kit_ty (by decide +kernel)
theorem kitIB {K : PySem.W.Frag} : PySem.W.kitOne K (.type "int") (.type "bool") = some false := kit_ty (by decide +kernel)
theorem kitLL {K : PySem.W.Frag} : PySem.W.kitAny K (.type "list") [.type "list", .type "tuple"] = some true := kitAny_cons (b := true) (kit_ty (by decide +kernel)) (fun z => nomatch z) fun _ => rfl
theorem kitTL {K : PySem.W.Frag} : PySem.W.kitAny K (.type "tuple") [.type "list", .type "tuple"] = some true :=
  kitAny_cons (b := false) (kit_ty (by decide +kernel)) (fun _ => kitAny_cons (b := true) (kit_ty (by decide +kernel)) (fun z => nomatch z) fun _ => rfl) (fun z => nomatch z)
/-- a list or a tuple -/
def SqX (K : PySem.W.Frag) (H : Hp) (a : Addr) (xs : List V) : Prop := SqL K H a xs ∨ SqT K H a xs
theorem SqX.same {K : PySem.W.Frag} {H H' : Hp} (s : Same H H') {a : Addr} {xs : List V} (h : SqX K H a xs) : SqX K H' a xs := h.elim (fun q => .inl (s.seq q)) fun q => .inr ((TK.same s).sq q)
theorem sqx_ty {K : PySem.W.Frag} {H : Hp} {a : Addr} {xs : List V} (h : SqX K H a xs) : ∃ t, TyX K H (.ref a) t ∧ PySem.W.kitAny K t [.type "list", .type "tuple"] = some true := by
  rcases h with h | h
  · exact ⟨_, lsq_ty h, kitLL⟩
  · exact ⟨_, sq_ty h, kitTL⟩
/-- a triple, as a list or a tuple -/
def RowX (K : PySem.W.Frag) (H : Hp) (r : Row) (v : V) : Prop := ∃ b, v = .ref b ∧ SqX K H b [.str r.1, .int (r.2.1 : Int), .int r.2.2]
theorem RowX.same {K : PySem.W.Frag} {H H' : Hp} (s : Same H H') (r : Row) (v : V) (h : RowX K H r v) : RowX K H' r v := by
  obtain ⟨b, e, q⟩ := h
  exact ⟨b, e, q.same s⟩
theorem RowV.x {K : PySem.W.Frag} {H : Hp} (r : Row) (v : V) (h : RowV K H r v) : RowX K H r v := by
  obtain ⟨b, e, q⟩ := h
  exact ⟨b, e, .inr q⟩
/-- names in their places -/
def ranked (R S : List Row) : List Row := ("yes", 0, 1) :: (R ++ S)
def wK (rs : List Row) : List (L2.Key × V) := rs.map fun r => (.inr r.1, .int r.2.2)
def pK : Nat → List Row → List (L2.Key × V)
  | _, [] => []
  | n, r :: rs => (.inr r.1, .int (n : Int)) :: pK (n + 1) rs
theorem valV_wK {rs : List Row} (nd : (rs.map (·.1)).Nodup) {r : Row} (h : r ∈ rs) : valV (wK rs) (.inr r.1) = some (.int r.2.2) := by
  induction rs with
  | nil => cases h
  | cons q rs ih =>
    obtain ⟨n1, n2⟩ := List.nodup_cons.mp nd
    rcases List.mem_cons.mp h with e | e
    · rw [e]
      exact valV_pos rfl
    · have ne : ¬ ((.inr q.1 : L2.Key) = .inr r.1) := fun z => n1 (by show q.1 ∈ _; rw [Sum.inr.inj z]; exact List.mem_map.mpr ⟨r, e, rfl⟩)
      show valV ((.inr q.1, .int q.2.2) :: wK rs) _ = _
      rw [valV_neg ne]
      exact ih n2 e
theorem valV_pK {rs : List Row} (nd : (rs.map (·.1)).Nodup) : ∀ (n i : Nat) (r : Row), rs[i]? = some r → valV (pK n rs) (.inr r.1) = some (.int ((n + i : Nat) : Int)) := by
  induction rs with
  | nil => intro n i r h; cases h
  | cons q rs ih =>
    intro n i r h
    obtain ⟨n1, n2⟩ := List.nodup_cons.mp nd
    cases i with
    | zero =>
      cases h
      exact valV_pos rfl
    | succ i =>
      have ne : ¬ ((.inr q.1 : L2.Key) = .inr r.1) := fun z => n1 (by show q.1 ∈ _; rw [Sum.inr.inj z]; exact List.mem_map.mpr ⟨r, List.mem_of_getElem? h, rfl⟩)
      show valV ((.inr q.1, .int (n : Int)) :: pK (n + 1) rs) _ = _
      rw [valV_neg ne, ih n2 (n + 1) i r h]
      have : n + 1 + i = n + (i + 1) := by omega
      rw [this]
theorem wK_app (a b : List Row) : wK (a ++ b) = wK a ++ wK b := List.map_append
theorem pK_app : ∀ (a b : List Row) (n : Nat), pK n (a ++ b) = pK n a ++ pK (n + a.length) b
  | [], b, n => rfl
  | r :: a, b, n => by
    show _ :: pK (n + 1) (a ++ b) = _ :: (pK (n + 1) a ++ pK (n + (a.length + 1)) b)
    rw [pK_app a b (n + 1)]
    have : n + 1 + a.length = n + (a.length + 1) := by omega
    rw [this]
theorem wK_len (rs : List Row) : (wK rs).length = rs.length := List.length_map ..
theorem pK_len : ∀ (rs : List Row) (n : Nat), (pK n rs).length = rs.length
  | [], _ => rfl
  | r :: rs, n => congrArg Nat.succ (pK_len rs (n + 1))
theorem pK_keys : ∀ (rs : List Row) (n : Nat), (pK n rs).map (·.1) = rs.map fun r => Sum.inr r.1
  | [], _ => rfl
  | r :: rs, n => congrArg (Sum.inr r.1 :: ·) (pK_keys rs (n + 1))
theorem wK_put {rs : List Row} {r : Row} (h : r.1 ∉ rs.map (·.1)) : putK (wK rs) (.inr r.1) (.int r.2.2) = wK (rs ++ [r]) := by
  rw [wK_app, putK_new _ (valV_out fun z => ?_)]
  · rfl
  · unfold wK at z
    rw [List.map_map] at z
    obtain ⟨q, hq, e⟩ := List.mem_map.mp z
    exact h (List.mem_map.mpr ⟨q, hq, Sum.inr.inj e⟩)
theorem pK_put {rs : List Row} {r : Row} (h : r.1 ∉ rs.map (·.1)) : putK (pK 0 rs) (.inr r.1) (.int (rs.length : Int)) = pK 0 (rs ++ [r]) := by
  rw [pK_app, putK_new _ (valV_out fun z => ?_), Nat.zero_add]
  · rfl
  · rw [pK_keys] at z
    obtain ⟨q, hq, e⟩ := List.mem_map.mp z
    exact h (List.mem_map.mpr ⟨q, hq, Sum.inr.inj e⟩)
/-- the object's fields -/
def ordF (bt br bw bp : Addr) : List (Str × V) := putF "_places" (.ref bp) (putF "_weights" (.ref bw) (putF "truths" (.ref br) (putF "things" (.ref bt) [])))
theorem nTT : ¬ (("things" : Str) = "truths") := by decide +kernel
theorem nTW : ¬ (("things" : Str) = "_weights") := by decide +kernel
theorem nTP : ¬ (("things" : Str) = "_places") := by decide +kernel
theorem nRW : ¬ (("truths" : Str) = "_weights") := by decide +kernel
theorem nRP : ¬ (("truths" : Str) = "_places") := by decide +kernel
theorem nWP : ¬ (("_weights" : Str) = "_places") := by decide +kernel
section
variable (bt br bw bp : Addr)
theorem ordF_things : (ordF bt br bw bp).lookup ("things" : Str) = some (.ref bt) := by
  unfold ordF
  rw [lookup_putF, if_neg nTP, lookup_putF, if_neg nTW, lookup_putF, if_neg nTT, lookup_putF, if_pos rfl]
theorem ordF_truths : (ordF bt br bw bp).lookup ("truths" : Str) = some (.ref br) := by
  unfold ordF
  rw [lookup_putF, if_neg nRP, lookup_putF, if_neg nRW, lookup_putF, if_pos rfl]
theorem ordF_weights : (ordF bt br bw bp).lookup ("_weights" : Str) = some (.ref bw) := by
  unfold ordF
  rw [lookup_putF, if_neg nWP, lookup_putF, if_pos rfl]
theorem ordF_places : (ordF bt br bw bp).lookup ("_places" : Str) = some (.ref bp) := by
  unfold ordF
  rw [lookup_putF, if_pos rfl]
end
/-- an Order of these rows stands at o -/
structure OrdI (K : PySem.W.Frag) (C : Addr) (H : Hp) (o : Addr) (R S : List Row) : Prop where
  ex : ∃ dx bt br bw bp vs1 vs2, H o = some (.ins C dx (ordF bt br bw bp)) ∧ SqT K H bt vs1 ∧ F2 (RowV K H) R vs1 ∧ SqT K H br vs2 ∧ F2 (RowV K H) S vs2 ∧ H bw = some (.dK (wK (ranked R S))) ∧ H bp = some (.dK (pK 0 (ranked R S)))
theorem OrdI.same {K : PySem.W.Frag} {C : Addr} {H H' : Hp} (s : Same H H') {o : Addr} {R S : List Row} (h : OrdI K C H o R S) : OrdI K C H' o R S := by
  obtain ⟨dx, bt, br, bw, bp, vs1, vs2, e1, e2, e3, e4, e5, e6, e7⟩ := h.ex
  have k := TK.same s
  exact ⟨dx, bt, br, bw, bp, vs1, vs2, s _ _ e1, k.sq e2, e3.mono (RowV.mono k), k.sq e4, e5.mono (RowV.mono k), s _ _ e6, s _ _ e7⟩
theorem OrdI.but {K : PySem.W.Frag} {C : Addr} {H H' : Hp} {p l : Addr} {ns : List Int} {c : Nat} (P : Pn.Pen H p l ns c) (b : Pn.But p H H') {o : Addr} {R S : List Row} (h : OrdI K C H o R S) : OrdI K C H' o R S := by
  obtain ⟨dx, bt, br, bw, bp, vs1, vs2, e1, e2, e3, e4, e5, e6, e7⟩ := h.ex
  have k := pen_tk P b
  obtain ⟨⟨a, d, f, ep, _⟩, _⟩ := P
  have n : ∀ {q : Addr} {ob : HO}, H q = some ob → (∀ f, ob ≠ .dK (Pn.penK l a d (c : Int) f)) → q ≠ p := fun {q ob} e hn z => by
    rw [z, ep] at e
    exact hn f (Option.some.inj e).symm
  have wn : ∀ (kvs : List (L2.Key × V)), (∃ v r, kvs = (.inr "yes", v) :: r) → ∀ f, HO.dK kvs ≠ .dK (Pn.penK l a d (c : Int) f) := by
    rintro kvs ⟨v, r, rfl⟩ f z
    have z' := HO.dK.inj z
    unfold Pn.penK at z'
    have z2 := congrArg (fun x : List (L2.Key × V) => x.head?.map (·.1)) z'
    have z3 : (some (.inr "yes") : Option L2.Key) = some (.inr "cells") := z2
    have z4 : ("yes" : Str) = "cells" := Sum.inr.inj (Option.some.inj z3)
    exact absurd z4 (by decide +kernel)
  exact ⟨dx, bt, br, bw, bp, vs1, vs2, b _ _ (n e1 (fun f z => nomatch z)) e1, k.sq e2, e3.mono (RowV.mono k), k.sq e4, e5.mono (RowV.mono k), b _ _ (n e6 (wn _ ⟨_, _, rfl⟩)) e6, b _ _ (n e7 (wn _ ⟨_, _, rfl⟩)) e7⟩
/-- rows that make an order -/
structure OOk (R S : List Row) : Prop where
  nd : ((ranked R S).map (·.1)).Nodup
  wt : ∀ r ∈ R ++ S, 1 ≤ r.2.2
  const : ∃ r ∈ R, r.2.1 = 0
  few : R.length + S.length ≤ 100
end Ad

namespace Ad
open PySem PySem.Spec PySem.Calls PyProof.Rows L2
namespace T
mutual
/-- the paths of a term, each ahead of those within -/
def paths : T → List (List Int)
  | .v _ => [[]]
  | .f _ ts => [] :: pathsL 0 ts
def pathsL (k : Nat) : List T → List (List Int)
  | [] => []
  | t :: ts => (paths t).map ((k : Int) :: ·) ++ pathsL (k + 1) ts
end
mutual
theorem paths_len : ∀ t : T, t.paths.length = t.size
  | .v _ => rfl
  | .f x ts => by
    show (pathsL 0 ts).length + 1 = 1 + sizeL ts
    rw [pathsL_len 0 ts]
    omega
theorem pathsL_len (k : Nat) : ∀ ts : List T, (pathsL k ts).length = sizeL ts
  | [] => rfl
  | t :: ts => by
    show ((paths t).map ((k : Int) :: ·) ++ pathsL (k + 1) ts).length = size t + sizeL ts
    rw [List.length_append, List.length_map, paths_len t, pathsL_len (k + 1) ts]
end
mutual
theorem paths_dep : ∀ (t : T) (p : List Int), p ∈ t.paths → p.length ≤ t.dep
  | .v _, p, h => by
    cases List.mem_singleton.mp h
    exact Nat.le_refl _
  | .f x ts, p, h => by
    show p.length ≤ 1 + depL ts
    rcases List.mem_cons.mp h with e | e
    · rw [e]
      exact Nat.zero_le _
    · exact pathsL_dep 0 ts p e
theorem pathsL_dep (k : Nat) : ∀ (ts : List T) (p : List Int), p ∈ pathsL k ts → p.length ≤ 1 + depL ts
  | [], p, h => by cases h
  | t :: ts, p, h => by
    show p.length ≤ 1 + max (dep t) (depL ts)
    rcases List.mem_append.mp h with e | e
    · obtain ⟨q, hq, rfl⟩ := List.mem_map.mp e
      have := paths_dep t q hq
      rw [List.length_cons]
      omega
    · have := pathsL_dep (k + 1) ts p e
      omega
end
/-- the part at a path -/
def sub : List Int → T → Option T
  | [], t => some t
  | _ :: _, .v _ => none
  | k :: p, .f _ ts => if 0 ≤ k then (match ts[k.toNat]? with
      | some u => sub p u
      | none => none) else none
/-- a term with another part at a path -/
def put (new : T) : List Int → T → Option T
  | [], _ => some new
  | _ :: _, .v _ => none
  | k :: p, .f x ts => if 0 ≤ k then (match ts[k.toNat]? with
      | some u => (match put new p u with
        | some r => some (.f x (ts.set k.toNat r))
        | none => none)
      | none => none) else none
theorem sub_cons {k : Int} {p : List Int} {t u : T} (h : sub (k :: p) t = some u) : ∃ (j : Nat) (x : Str) (ts : List T) (y : T), k = (j : Int) ∧ t = .f x ts ∧ ts[j]? = some y ∧ sub p y = some u := by
  cases t with
  | v i => cases h
  | f x ts =>
    have h' : (if 0 ≤ k then (match ts[k.toNat]? with | some u => sub p u | none => none) else none) = some u := h
    by_cases k0 : 0 ≤ k
    · rw [if_pos k0] at h'
      cases e : ts[k.toNat]? with
      | none =>
        rw [e] at h'
        cases h'
      | some y =>
        rw [e] at h'
        exact ⟨k.toNat, x, ts, y, by omega, rfl, e, h'⟩
    · rw [if_neg k0] at h'
      cases h'
theorem put_cons {new : T} {k : Int} {p : List Int} {t r : T} (h : put new (k :: p) t = some r) : ∃ (j : Nat) (x : Str) (ts : List T) (y z : T), k = (j : Int) ∧ t = .f x ts ∧ ts[j]? = some y ∧ put new p y = some z ∧ r = .f x (ts.set j z) := by
  cases t with
  | v i => cases h
  | f x ts =>
    have h' : (if 0 ≤ k then (match ts[k.toNat]? with | some u => (match put new p u with | some r => some (T.f x (ts.set k.toNat r)) | none => none) | none => none) else none) = some r := h
    by_cases k0 : 0 ≤ k
    · rw [if_pos k0] at h'
      cases e : ts[k.toNat]? with
      | none =>
        rw [e] at h'
        cases h'
      | some y =>
        rw [e] at h'
        dsimp only at h'
        cases e2 : put new p y with
        | none =>
          rw [e2] at h'
          cases h'
        | some z =>
          rw [e2] at h'
          cases h'
          exact ⟨k.toNat, x, ts, y, z, by omega, rfl, e, e2, rfl⟩
    · rw [if_neg k0] at h'
      cases h'
theorem pathsL_append : ∀ (k : Nat) (as bs : List T), pathsL k (as ++ bs) = pathsL k as ++ pathsL (k + as.length) bs
  | _, [], _ => rfl
  | k, t :: ts, bs => by
    show (paths t).map ((k : Int) :: ·) ++ pathsL (k + 1) (ts ++ bs) = (paths t).map ((k : Int) :: ·) ++ pathsL (k + 1) ts ++ pathsL (k + (ts.length + 1)) bs
    rw [pathsL_append (k + 1) ts bs, List.append_assoc]
    congr 3
    omega
theorem pathsL_next {ts : List T} {i : Nat} {u : T} (h : ts[i]? = some u) : pathsL 0 (ts.take (i + 1)) = pathsL 0 (ts.take i) ++ u.paths.map ((i : Int) :: ·) := by
  have hi := (List.getElem?_eq_some_iff.mp h).1
  rw [List.take_add_one, h, pathsL_append, List.length_take]
  show _ ++ ((paths u).map ((((0 + min i ts.length : Nat)) : Int) :: ·) ++ []) = _
  rw [List.append_nil]
  have e : 0 + min i ts.length = i := by omega
  rw [e]
theorem sizeL_take (ts : List T) (i : Nat) : sizeL (ts.take i) ≤ sizeL ts := by
  have h2 := sizeL_append (ts.take i) (ts.drop i)
  rw [List.take_append_drop] at h2
  omega
theorem sub_f {j : Nat} {p : List Int} {x : Str} {ts : List T} {y u : T} (h : ts[j]? = some y) (e : sub p y = some u) : sub ((j : Int) :: p) (.f x ts) = some u := by
  show (if 0 ≤ (j : Int) then (match ts[((j : Int)).toNat]? with | some u => sub p u | none => none) else none) = _
  rw [if_pos (by omega), Int.toNat_natCast, h]
  exact e
theorem put_f {new : T} {j : Nat} {p : List Int} {x : Str} {ts : List T} {y z : T} (h : ts[j]? = some y) (e : put new p y = some z) : put new ((j : Int) :: p) (.f x ts) = some (.f x (ts.set j z)) := by
  show (if 0 ≤ (j : Int) then (match ts[((j : Int)).toNat]? with | some u => (match put new p u with | some r => some (T.f x (ts.set ((j : Int)).toNat r)) | none => none) | none => none) else none) = _
  rw [if_pos (by omega), Int.toNat_natCast, h]
  show (match put new p y with | some r => some (T.f x (ts.set j r)) | none => none) = _
  rw [e]
mutual
/-- at each path something stands -/
theorem paths_sub : ∀ (t : T) (p : List Int), p ∈ t.paths → ∃ u, sub p t = some u
  | .v i, p, h => by
    cases List.mem_singleton.mp h
    exact ⟨_, rfl⟩
  | .f x ts, p, h => by
    rcases List.mem_cons.mp h with e | e
    · subst e
      exact ⟨_, rfl⟩
    · obtain ⟨j, p', y, u, e1, e2, e3⟩ := pathsL_sub 0 ts p e
      subst e1
      refine ⟨u, ?_⟩
      rw [Nat.zero_add]
      exact sub_f e2 e3
theorem pathsL_sub (k : Nat) : ∀ (ts : List T) (p : List Int), p ∈ pathsL k ts → ∃ (j : Nat) (p' : List Int) (y u : T), p = ((k + j : Nat) : Int) :: p' ∧ ts[j]? = some y ∧ sub p' y = some u
  | [], p, h => by cases h
  | t :: ts, p, h => by
    rcases List.mem_append.mp h with e | e
    · obtain ⟨q, hq, rfl⟩ := List.mem_map.mp e
      obtain ⟨u, hu⟩ := paths_sub t q hq
      exact ⟨0, q, t, u, rfl, rfl, hu⟩
    · obtain ⟨j, p', y, u, e1, e2, e3⟩ := pathsL_sub (k + 1) ts p e
      refine ⟨j + 1, p', y, u, ?_, e2, e3⟩
      rw [e1]
      congr 2
      omega
end
/-- what stands at a path is no larger -/
theorem sub_small : ∀ {p : List Int} {t u : T}, sub p t = some u → (t.named = true → u.named = true) ∧ u.dep ≤ t.dep ∧ u.size ≤ t.size
  | [], t, u, h => by
    cases (show some t = some u from h)
    exact ⟨id, Nat.le_refl _, Nat.le_refl _⟩
  | k :: p, t, u, h => by
    obtain ⟨j, x, ts, y, rfl, rfl, e1, e2⟩ := sub_cons h
    obtain ⟨h1, h2, h3⟩ := sub_small e2
    have m := List.mem_of_getElem? e1
    have d1 := dep_mem m
    have d2 := size_mem m
    refine ⟨fun n => h1 (named_mem m ?_), ?_, ?_⟩
    · have n' : (nameOk x && namedL ts) = true := n
      rw [Bool.and_eq_true] at n'
      exact n'.2
    · show u.dep ≤ 1 + depL ts
      omega
    · show u.size ≤ 1 + sizeL ts
      omega
theorem depL_set : ∀ {ts : List T} {j : Nat} {y z : T}, ts[j]? = some y → ∀ m, depL ts ≤ m → z.dep ≤ m → depL (ts.set j z) ≤ m
  | [], j, y, z, h, m, _, _ => by cases h
  | t :: ts, 0, y, z, h, m, h1, h2 => by
    show max (dep z) (depL ts) ≤ m
    have h1' : max (dep t) (depL ts) ≤ m := h1
    omega
  | t :: ts, j + 1, y, z, h, m, h1, h2 => by
    have h1' : max (dep t) (depL ts) ≤ m := h1
    have := depL_set (ts := ts) (j := j) (y := y) (z := z) h m (by omega) h2
    show max (dep t) (depL (ts.set j z)) ≤ m
    omega
theorem sizeL_set : ∀ {ts : List T} {j : Nat} {y z : T}, ts[j]? = some y → sizeL (ts.set j z) + y.size = sizeL ts + z.size
  | [], j, y, z, h => by cases h
  | t :: ts, 0, y, z, h => by
    cases h
    show size z + sizeL ts + size t = size t + sizeL ts + size z
    omega
  | t :: ts, j + 1, y, z, h => by
    have := sizeL_set (ts := ts) (j := j) (y := y) (z := z) h
    show size t + sizeL (ts.set j z) + y.size = size t + sizeL ts + z.size
    omega
theorem namedL_set : ∀ {ts : List T} {j : Nat} {z : T}, namedL ts = true → z.named = true → namedL (ts.set j z) = true
  | [], j, z, _, _ => rfl
  | t :: ts, 0, z, h, hz => by
    have h' : (named t && namedL ts) = true := h
    rw [Bool.and_eq_true] at h'
    show (named z && namedL ts) = true
    rw [hz, h'.2]
    rfl
  | t :: ts, j + 1, z, h, hz => by
    have h' : (named t && namedL ts) = true := h
    rw [Bool.and_eq_true] at h'
    show (named t && namedL (ts.set j z)) = true
    rw [h'.1, namedL_set h'.2 hz]
    rfl
/-- what is put at a path stands there, and what stood there can be put back -/
theorem put_sub (new : T) : ∀ {p : List Int} {t u : T}, sub p t = some u → ∃ r, put new p t = some r ∧ sub p r = some new ∧ put u p r = some t ∧ r.size ≤ t.size + new.size ∧ r.dep ≤ t.dep + new.dep ∧ (t.named = true → new.named = true → r.named = true)
  | [], t, u, h => by
    cases (show some t = some u from h)
    exact ⟨new, rfl, rfl, rfl, Nat.le_add_left _ _, Nat.le_add_left _ _, fun _ n => n⟩
  | k :: p, t, u, h => by
    obtain ⟨j, x, ts, y, rfl, rfl, e1, e2⟩ := sub_cons h
    obtain ⟨r, h1, h2, h3, h4, h5, h6⟩ := put_sub new e2
    have hj := (List.getElem?_eq_some_iff.mp e1).1
    have at' : (ts.set j r)[j]? = some r := by
      rw [List.getElem?_set_self hj]
    have m := List.mem_of_getElem? e1
    have d1 := dep_mem m
    have d2 := size_mem m
    refine ⟨.f x (ts.set j r), put_f e1 h1, sub_f at' h2, ?_, ?_, ?_, ?_⟩
    · rw [put_f at' h3, List.set_set]
      congr 2
      refine List.ext_getElem? fun i => ?_
      by_cases e : j = i
      · subst e
        rw [List.getElem?_set_self hj, e1]
      · rw [List.getElem?_set_ne e]
    · have := sizeL_set (z := r) e1
      show 1 + sizeL (ts.set j r) ≤ 1 + sizeL ts + new.size
      omega
    · have := depL_set (z := r) e1 (depL ts + new.dep) (by omega) (by omega)
      show 1 + depL (ts.set j r) ≤ 1 + depL ts + new.dep
      omega
    · intro n nn
      have n' : (nameOk x && namedL ts) = true := n
      rw [Bool.and_eq_true] at n'
      show (nameOk x && namedL (ts.set j r)) = true
      rw [n'.1, namedL_set n'.2 (h6 (named_mem m n'.2) nn)]
      rfl
mutual
/-- the steps of a path are small -/
theorem paths_small : ∀ (t : T) (p : List Int), p ∈ t.paths → ∀ k ∈ p, 0 ≤ k ∧ k < t.size
  | .v i, p, h, k, hk => by
    cases List.mem_singleton.mp h
    cases hk
  | .f x ts, p, h, k, hk => by
    have e0 : size (.f x ts) = 1 + sizeL ts := rfl
    rcases List.mem_cons.mp h with e | e
    · rw [e] at hk
      cases hk
    · have := pathsL_small 0 ts p e k hk
      have l := len_sizeL ts
      omega
theorem pathsL_small (n : Nat) : ∀ (ts : List T) (p : List Int), p ∈ pathsL n ts → ∀ k ∈ p, 0 ≤ k ∧ k < n + sizeL ts
  | [], p, h, k, hk => by cases h
  | t :: ts, p, h, k, hk => by
    have s1 := size_pos t
    have e0 : sizeL (t :: ts) = size t + sizeL ts := rfl
    rcases List.mem_append.mp h with e | e
    · obtain ⟨q, hq, rfl⟩ := List.mem_map.mp e
      rcases List.mem_cons.mp hk with z | z
      · omega
      · have := paths_small t q hq k z
        omega
    · have := pathsL_small (n + 1) ts p e k hk
      omega
end
end T
/-- a path's value -/
def PV (K : PySem.W.Frag) (H : Hp) (p : List Int) (v : V) : Prop := ∃ a, v = .ref a ∧ SqT K H a (p.map V.int)
theorem PV.mono {K : PySem.W.Frag} {H H' : Hp} (k : TK H H') (p : List Int) (v : V) (h : PV K H p v) : PV K H' p v := by
  obtain ⟨a, e, s⟩ := h
  exact ⟨a, e, k.sq s⟩
def spLPaths (K : PySem.W.Frag) (n : Nat) : Sp := fun vs H Q _ => ∃ (t : T) (x : V), vs = [x] ∧ Tm K H t x ∧ t.dep < n ∧ t.size ≤ 10000 ∧
  ∀ H' p us, Same H H' → H p = none → H' p = some (.lst us) → F2 (PV K H') t.paths us → Q (.ref p) H'
def spAt (K : PySem.W.Frag) : Sp := fun vs H Q _ => ∃ (t u : T) (x : V) (a : Addr) (p : List Int), vs = [x, .ref a] ∧ Tm K H t x ∧ SqT K H a (p.map V.int) ∧ T.sub p t = some u ∧ ∀ v, Tm K H u v → Q v H
/-- put at a path of fewer than n steps -/
def spPut (K : PySem.W.Frag) (n : Nat) : Sp := fun vs H Q _ => ∃ (t new r : T) (x y : V) (a : Addr) (p : List Int), vs = [x, .ref a, y] ∧ Tm K H t x ∧ Tm K H new y ∧ SqT K H a (p.map V.int) ∧ p.length < n ∧ t.size ≤ 10000 ∧ T.put new p t = some r ∧ ∀ v H', Same H H' → Tm K H' r v → Q v H'
section
variable {K : PySem.W.Frag}
theorem Tms.set {H : Hp} {x : V} {t : T} : ∀ {ts : List T} {xs : List V} (j : Nat), Tms K H ts xs → Tm K H t x → Tms K H (ts.set j t) (xs.take j ++ x :: xs.drop (j + 1)) ∨ ts.length ≤ j
  | [], _, j, _, _ => .inr (Nat.zero_le _)
  | u :: us, xs, j, h, hx => by
    obtain ⟨y, ys, rfl, one, all⟩ := h
    cases j with
    | zero => exact .inl ⟨x, ys, rfl, hx, all⟩
    | succ j =>
      rcases Tms.set (ts := us) (xs := ys) j all hx with z | z
      · exact .inl ⟨y, _, rfl, one, z⟩
      · exact .inr (Nat.succ_le_succ z)
end
theorem cut_low {x : V} {xs : List V} {j : Nat} (h : j < xs.length) : ¬ (HT.sIx (x :: xs).length 0 none = 0 ∧ HT.sIx (x :: xs).length (x :: xs).length (some ((j : Int) + 1)) = (x :: xs).length) ∧ cutV (x :: xs) none (some ((j : Int) + 1)) = x :: xs.take j := by
  have e : ((j : Int) + 1) = ((j + 1 : Nat) : Int) := by omega
  rw [e]
  have e2 : HT.sIx (x :: xs).length (x :: xs).length (some ((j + 1 : Nat) : Int)) = j + 1 := by
    rw [HT.sIx_nat, List.length_cons]
    omega
  constructor
  · rw [e2, List.length_cons]
    omega
  · unfold cutV
    rw [e2, HT.sIx_none, List.drop_zero, Nat.sub_zero, List.take_succ_cons]
theorem cut_high {x : V} {xs : List V} {j : Nat} (h : j < xs.length) : ¬ (HT.sIx (x :: xs).length 0 (some ((j : Int) + 1 + 1)) = 0 ∧ HT.sIx (x :: xs).length (x :: xs).length none = (x :: xs).length) ∧ cutV (x :: xs) (some ((j : Int) + 1 + 1)) none = xs.drop (j + 1) := by
  have e : ((j : Int) + 1 + 1) = ((j + 2 : Nat) : Int) := by omega
  rw [e]
  have e2 : HT.sIx (x :: xs).length 0 (some ((j + 2 : Nat) : Int)) = j + 2 := by
    rw [HT.sIx_nat, List.length_cons]
    omega
  constructor
  · rw [e2]
    omega
  · unfold cutV
    rw [e2, HT.sIx_none]
    show ((xs.drop (j + 1))).take _ = _
    rw [List.take_of_length_le]
    rw [List.length_drop, List.length_cons]
    omega
theorem cut_tail {k : Int} {p : List Int} : ¬ (HT.sIx ((k :: p).map V.int).length 0 (some 1) = 0 ∧ HT.sIx ((k :: p).map V.int).length ((k :: p).map V.int).length none = ((k :: p).map V.int).length) ∧ cutV ((k :: p).map V.int) (some 1) none = p.map V.int := by
  have e2 : HT.sIx ((k :: p).map V.int).length 0 (some ((1 : Nat) : Int)) = 1 := by
    rw [HT.sIx_nat, List.length_map, List.length_cons]
    omega
  have e3 : HT.sIx ((k :: p).map V.int).length 0 (some 1) = 1 := e2
  constructor
  · rw [e3]
    omega
  · unfold cutV
    rw [e3, HT.sIx_none]
    show (p.map V.int).take _ = _
    rw [List.take_of_length_le]
    rw [List.length_map, List.length_map, List.length_cons]
    omega
theorem cut_low' {x : V} {xs : List V} {j : Nat} (h : j < xs.length) : ¬ (HT.sIx (x :: xs).length 0 none = 0 ∧ HT.sIx (x :: xs).length (x :: xs).length (some (1 + (j : Int))) = (x :: xs).length) ∧ cutV (x :: xs) none (some (1 + (j : Int))) = x :: xs.take j := by
  rw [Int.add_comm]
  exact cut_low h
theorem cut_high' {x : V} {xs : List V} {j : Nat} (h : j < xs.length) : ¬ (HT.sIx (x :: xs).length 0 (some (1 + (j : Int) + 1)) = 0 ∧ HT.sIx (x :: xs).length (x :: xs).length none = (x :: xs).length) ∧ cutV (x :: xs) (some (1 + (j : Int) + 1)) none = xs.drop (j + 1) := by
  rw [Int.add_comm 1]
  exact cut_high h
end Ad

/-! Drawn substitutions. -/
namespace Ad
open PySem PySem.Spec PySem.Calls PyProof.Rows L2
theorem sz_mono {a b : Nat} (h : a ≤ b) : sz a ≤ sz b := by
  induction h with
  | refl => exact Nat.le_refl _
  | step h ih =>
    refine Nat.le_trans ih ?_
    show sz _ ≤ 1 + 3 * sz _
    omega
theorem dn_mono {a b : Nat} (h : a ≤ b) : dn a ≤ dn b := by
  induction h with
  | refl => exact Nat.le_refl _
  | step h ih =>
    refine Nat.le_trans ih ?_
    show dn _ ≤ 2 + 3 * dn _
    omega
theorem DT.mono {R : List Row} {d e : Nat} {nv : Int} {t : T} (h : d ≤ e) (x : DT R d nv t) : DT R e nv t := ⟨x.named, Nat.le_trans x.dep (by omega), Nat.le_trans x.size (sz_mono h), x.vars, x.wf⟩
theorem rising_len : ∀ {l : List Int} {lo hi : Int}, l.Pairwise (· < ·) → (∀ i ∈ l, lo ≤ i ∧ i < hi) → lo ≤ hi → (l.length : Int) ≤ hi - lo
  | [], lo, hi, _, _, h => by
    show ((0 : Nat) : Int) ≤ hi - lo
    omega
  | a :: l, lo, hi, h1, h2, h => by
    obtain ⟨p1, p2⟩ := List.pairwise_cons.mp h1
    obtain ⟨q1, q2⟩ := h2 a List.mem_cons_self
    have := rising_len (lo := a + 1) (hi := hi) p2 (fun i hi' => ⟨by have := p1 i hi'; omega, (h2 i (List.mem_cons_of_mem _ hi')).2⟩) (by omega)
    rw [List.length_cons]
    omega
theorem Sb.mem_put {tb : Sb} {i : Int} {t : T} {e : Int × T} (h : e ∈ tb.put i t) : e = (i, t) ∨ e ∈ tb := by
  unfold Sb.put at h
  split at h
  · obtain ⟨e', he, h'⟩ := List.mem_map.mp h
    split at h'
    · rename_i z
      left
      rw [← h', z]
    · right
      rw [← h']
      exact he
  · rcases List.mem_append.mp h with z | z
    · exact .inr z
    · exact .inl (List.mem_singleton.mp z)
/-- a substitution in its one form, drawn -/
structure DSu (R : List Row) (deep : Nat) (nv : Int) (su : Sb) : Prop where
  rising : (su.map (·.1)).Pairwise (· < ·)
  each : ∀ e ∈ su, 0 ≤ e.1 ∧ e.1 < nv ∧ DT R deep nv e.2
theorem DSu.few {R : List Row} {deep : Nat} {nv : Int} {su : Sb} (h : DSu R deep nv su) (n : 0 ≤ nv) : (su.length : Int) ≤ nv := by
  have := rising_len (lo := 0) (hi := nv) h.rising (fun i hi => by
    obtain ⟨e, he, rfl⟩ := List.mem_map.mp hi
    exact ⟨(h.each e he).1, (h.each e he).2.1⟩) n
  rw [List.length_map] at this
  omega
section
variable {P : Program} {w : World} {K : PySem.W.Frag} {mg : Str → Option Value} {base : Heap}
def spDPairs (K : PySem.W.Frag) (n : Nat) : Sp := fun vs H Q _ => ∃ (p l ra : Addr) (ns : List Int) (c deep nv : Nat) (R : List Row), vs = [.ref p, .ref ra, .int (nv : Int), .int (deep : Int)] ∧ Pn.Pen H p l ns c ∧ ns.length ≤ 1000 ∧ c + nv * (2 + dn deep) ≤ 1000000000 ∧ RowsAt K H ra R ∧ ROk R ∧
  deep < n ∧ deep ≤ 50 ∧ nv ≤ 60 ∧ ∀ su x H' c', DSu R deep nv su → Su K H' su x → c' ≤ c + nv * (2 + dn deep) → Pn.Pen H' p l ns c' → Pn.But p H H' → Q x H'
end
end Ad

/-! Texts of terms and substitutions. -/
namespace Ad
open PySem PySem.Spec PySem.Calls PyProof.Rows L2
theorem tuple_piled (ts : List Str) : (tupleText ts).length ≤ 3 + piled ts := by
  unfold tupleText
  rw [strLen_append, strLen_append]
  have e1 : ((("(" : String) : Str)).length = 1 := rfl
  have e3 : (((if ts.length == 1 then ",)" else ")" : String) : Str)).length ≤ 2 := by split <;> decide
  rw [e1]
  by_cases z : ts = []
  · subst z
    have e4 : (Str.join ", " ([] : List Str)).length = 0 := rfl
    rw [e4]
    omega
  · have h2 := join_length_add ts z
    omega
theorem small_text (i : Int) (h0 : 0 ≤ i) (h : i < 64) : (toString i : Str).length ≤ 2 ∧ i.natAbs.log2 < 1920 := by
  have all : ∀ j : Fin 64, (toString ((j.val : Nat) : Int) : Str).length ≤ 2 ∧ (((j.val : Nat) : Int)).natAbs.log2 < 1920 := by decide +kernel
  have := all ⟨i.toNat, by omega⟩
  have e : ((i.toNat : Nat) : Int) = i := Int.toNat_of_nonneg h0
  rw [show (((⟨i.toNat, by omega⟩ : Fin 64).val : Nat) : Int) = i from e] at this
  exact this
namespace T
mutual
theorem text : ∀ t : T, t.named = true → (∀ j ∈ t.vars, 0 ≤ j ∧ j < 64) → t.d.showable = true ∧ t.d.shown.length + 2 ≤ 17 * t.size
  | .v i, _, h => by
    obtain ⟨a, b⟩ := h i List.mem_cons_self
    obtain ⟨s1, s2⟩ := small_text i a b
    refine ⟨decide_eq_true s2, ?_⟩
    show (toString i : Str).length + 2 ≤ 17 * 1
    omega
  | .f x ts, n, h => by
    have n' : (nameOk x && namedL ts) = true := n
    rw [Bool.and_eq_true] at n'
    obtain ⟨a, b⟩ := texts ts n'.2 h
    refine ⟨?_, ?_⟩
    · show (true && PyData.showableAll (ds ts)) = true
      rw [a]
      rfl
    · have l := tuple_piled (PyData.shownAll (.str x :: ds ts))
      have e : piled (PyData.shownAll (.str x :: ds ts)) = ((PyData.shown (.str x)).length + 2) + piled (PyData.shownAll (ds ts)) := piled_cons _ _
      have s := nameOk_short n'.1
      show (tupleText (PyData.shownAll (.str x :: ds ts))).length + 2 ≤ 17 * (1 + sizeL ts)
      omega
theorem texts : ∀ ts : List T, namedL ts = true → (∀ j ∈ varsL ts, 0 ≤ j ∧ j < 64) → PyData.showableAll (ds ts) = true ∧ piled (PyData.shownAll (ds ts)) ≤ 17 * sizeL ts
  | [], _, _ => ⟨rfl, Nat.zero_le _⟩
  | t :: ts, n, h => by
    have n' : (named t && namedL ts) = true := n
    rw [Bool.and_eq_true] at n'
    obtain ⟨a1, a2⟩ := text t n'.1 fun j hj => h j (List.mem_append_left _ hj)
    obtain ⟨b1, b2⟩ := texts ts n'.2 fun j hj => h j (List.mem_append_right _ hj)
    refine ⟨?_, ?_⟩
    · show (PyData.showable (d t) && PyData.showableAll (ds ts)) = true
      rw [a1, b1]
      rfl
    · have e : piled (PyData.shownAll (d t :: ds ts)) = ((PyData.shown (d t)).length + 2) + piled (PyData.shownAll (ds ts)) := piled_cons _ _
      show piled (PyData.shownAll (d t :: ds ts)) ≤ 17 * (size t + sizeL ts)
      rw [e]
      omega
end
mutual
theorem fill_vars {s : Int → T} {j : Int} : ∀ t : T, j ∈ (fill s t).vars → ∃ i ∈ t.vars, j ∈ (s i).vars
  | .v i, h => ⟨i, List.mem_cons_self, h⟩
  | .f x ts, h => fillL_vars ts h
theorem fillL_vars {s : Int → T} {j : Int} : ∀ ts : List T, j ∈ varsL (fillL s ts) → ∃ i ∈ varsL ts, j ∈ (s i).vars
  | [], h => by cases h
  | t :: ts, h => by
    rcases List.mem_append.mp h with z | z
    · obtain ⟨i, a, b⟩ := fill_vars t z
      exact ⟨i, List.mem_append_left _ a, b⟩
    · obtain ⟨i, a, b⟩ := fillL_vars ts z
      exact ⟨i, List.mem_append_right _ a, b⟩
end
end T
/-- a substitution's data -/
def suD (su : Sb) : PyData := .tuple (su.map fun e => .tuple [.int e.1, e.2.d])
theorem sps_dp {K : PySem.W.Frag} {H : Hp} : ∀ {su : Sb} {bs : List Addr}, F2 (SP K H) su bs → DpAll K H (bs.map V.ref) (su.map fun e => PyData.tuple [.int e.1, e.2.d])
  | [], bs, h => by
    cases (show bs = [] from h)
    exact .nil
  | e :: su, bs, h => by
    obtain ⟨b, r, rfl, ⟨v, s, t⟩, rest⟩ := h
    exact .cons (.tup s (.cons (.int _) (.cons (Tm.dp _ _ t) .nil))) (sps_dp rest)
theorem su_dp {K : PySem.W.Frag} {H : Hp} {su : Sb} {x : V} (h : Su K H su x) : Dp K H x (suD su) := by
  obtain ⟨a, bs, rfl, t, f⟩ := h
  exact .tup t.sq (sps_dp f)
/-- terms that can be shown, with few parts -/
structure Sm (m : Nat) (t : T) : Prop where
  named : t.named = true
  dep : t.dep ≤ 40
  size : t.size ≤ m
  vars : ∀ j ∈ t.vars, 0 ≤ j ∧ j < 64
theorem su_lay : ∀ {su : Sb}, (∀ e ∈ su, e.2.named = true) → PyData.canLayAll0 (su.map fun e => PyData.tuple [.int e.1, e.2.d]) = true
  | [], _ => rfl
  | e :: su, h => by
    show (PyData.canLay0 (.tuple [.int e.1, e.2.d]) && PyData.canLayAll0 (su.map _)) = true
    rw [su_lay fun e he => h e (List.mem_cons_of_mem _ he)]
    show (((PyData.canLay0 (.int e.1) && (PyData.canLay0 e.2.d && true))) && true) = true
    rw [T.d_lay _ (h e List.mem_cons_self)]
    rfl
theorem su_depth : ∀ {su : Sb}, (∀ e ∈ su, e.2.dep ≤ 40) → PyData.depthAll (su.map fun e => PyData.tuple [.int e.1, e.2.d]) ≤ 41
  | [], _ => Nat.zero_le _
  | e :: su, h => by
    show max (PyData.depth (.tuple [.int e.1, e.2.d])) (PyData.depthAll (su.map _)) ≤ 41
    have h1 := su_depth (su := su) fun e he => h e (List.mem_cons_of_mem _ he)
    have h2 : PyData.depth (.tuple [.int e.1, e.2.d]) = max 0 (max e.2.d.depth 0) + 1 := rfl
    have h3 := h e List.mem_cons_self
    rw [T.d_depth] at h2
    omega
theorem su_show {m : Nat} : ∀ {su : Sb}, (∀ e ∈ su, 0 ≤ e.1 ∧ e.1 < 64 ∧ Sm m e.2) → PyData.showableAll (su.map fun e => PyData.tuple [.int e.1, e.2.d]) = true ∧ piled (PyData.shownAll (su.map fun e => PyData.tuple [.int e.1, e.2.d])) ≤ su.length * (17 * m + 9)
  | [], _ => ⟨rfl, Nat.zero_le _⟩
  | e :: su, h => by
    obtain ⟨a, b⟩ := su_show (m := m) (su := su) fun e he => h e (List.mem_cons_of_mem _ he)
    obtain ⟨i0, i1, sm⟩ := h e List.mem_cons_self
    obtain ⟨s1, s2⟩ := T.text e.2 sm.named sm.vars
    obtain ⟨t1, t2⟩ := small_text e.1 i0 i1
    have z := sm.size
    refine ⟨?_, ?_⟩
    · show ((decide (e.1.natAbs.log2 < 1920) && (PyData.showable e.2.d && true)) && PyData.showableAll (su.map _)) = true
      rw [a, s1, decide_eq_true t2]
      rfl
    · have l := tuple_piled [PyData.shown (.int e.1), PyData.shown e.2.d]
      have p : piled [PyData.shown (.int e.1), PyData.shown e.2.d] = ((PyData.shown (.int e.1)).length + 2) + ((PyData.shown e.2.d).length + 2) := by
        rw [piled_cons, piled_cons, piled_nil]
      have t1' : (PyData.shown (.int e.1)).length ≤ 2 := t1
      have q : piled (PyData.shownAll ((e :: su).map fun e => PyData.tuple [.int e.1, e.2.d])) = ((tupleText [PyData.shown (.int e.1), PyData.shown e.2.d]).length + 2) + piled (PyData.shownAll (su.map fun e => PyData.tuple [.int e.1, e.2.d])) := piled_cons _ _
      rw [q, List.length_cons, Nat.succ_mul]
      omega
/-- a small substitution can be shown -/
theorem su_text {m : Nat} {su : Sb} (hm : m ≤ 10000) (few : su.length ≤ 64) (h : ∀ e ∈ su, 0 ≤ e.1 ∧ e.1 < 64 ∧ Sm m e.2) : (suD su).showable = true ∧ (suD su).hasDict = false ∧ (suD su).depth ≤ 60 ∧ (suD su).shown.length ≤ sizeLine := by
  obtain ⟨a, b⟩ := su_show h
  refine ⟨a, PyData.hasDict_of_canLay _ ?_, ?_, ?_⟩
  · exact su_lay fun e he => (h e he).2.2.named
  · have := su_depth (su := su) fun e he => (h e he).2.2.dep
    show PyData.depthAll (su.map _) + 1 ≤ 60
    omega
  · have l := tuple_piled (PyData.shownAll (su.map fun e => PyData.tuple [.int e.1, e.2.d]))
    have mm : su.length * (17 * m + 9) ≤ 64 * (17 * 10000 + 9) := Nat.mul_le_mul few (by omega)
    show (tupleText (PyData.shownAll (su.map fun e => PyData.tuple [.int e.1, e.2.d]))).length ≤ sizeLine
    rw [sizeLine_eq]
    omega
theorem su_shaped {su : Sb} (h : ∀ e ∈ su, e.2.named = true ∧ e.2.dep ≤ 40) : SeqAt.shaped (suD su) = true := by
  have d := su_depth (su := su) fun e he => (h e he).2
  have l := su_lay (su := su) fun e he => (h e he).1
  unfold SeqAt.shaped
  rw [Bool.and_eq_true]
  refine ⟨l, decide_eq_true ?_⟩
  show PyData.depthAll (su.map _) + 1 ≤ _
  omega
theorem eqv_one {d : PyData} (h : SeqAt.shaped d = true) : PyData.eqv d d = true := SeqAt.eqv_refl d (SeqAt.canLay_of_shaped h)
end Ad

/-! zip's next, once a pair of its own still stands. -/
namespace Zl
open PySem RZ
abbrev IsZ (h : Heap) (z TI TO : Addr) (f0 : Value) (b : Bool) : Prop :=
  h.get? z = some { cls := .type "zip", dict := none, data := .fields #[f0, .bool b, .bool false, .ref TI, .ref TO], slots := #[] }
section
variable {prog : Program} {w : World} {A : Around} {E : Value → Shared → Prop} {s : Shared}
theorem wpAny_alive {M : Model} {a : Addr} {Q : Option Obj → Shared → Prop} (h : Q (s.heap.get? a) s) : wpAny M A (loadIfAlive a) Q E s := fun _ _ _ => h
theorem not_free {z TI TO a : Addr} {b : Bool} {oa : Obj} {Q : Bool → Shared → Prop} (hz : IsZ s.heap z TI TO (rawInt a) b) (ha : s.heap.get? a = some oa)
    (h : ∀ h', IsZ h' z TI TO (rawInt a) true → Heap.SameBut z s.heap h' → Q false { s with heap := h' }) : wpAny (model prog w) A (Builtin.SmallTypes.ownedTupleIsFree (.ref z)) Q E s := by
  unfold Builtin.SmallTypes.ownedTupleIsFree
  refine wpAny_bind (wpAny_field hz rfl (x := rawInt a) rfl ?_)
  show wpAny _ _ (loadIfAlive ((a : Int)).toNat >>= _) _ _ _
  rw [Int.toNat_natCast]
  refine wpAny_bind (wpAny_alive ?_)
  rw [ha]
  show wpAny _ _ (field (.ref z) 1 >>= _) _ _ _
  refine wpAny_bind (wpAny_field hz rfl (x := .bool b) rfl ?_)
  cases b with
  | true =>
    first
      | exact wpAny_pure (h s.heap hz (Heap.SameBut.refl ..))
      | exact wpAny_bind (wpAny_pure (wpAny_pure (h s.heap hz ⟨rfl, fun _ _ _ e => e⟩)))
  | false =>
    refine wpAny_bind (wpAny_setField_rec hz (by simp) fun h₁ hz₁ hs₁ => wpAny_pure ?_)
    exact h h₁ hz₁ hs₁
theorem next2_item {z TI TO i1 i2 l1 l2 c : Addr} {k1 k2 : Nat} {xs ys : Array Value} {x y : Value} {b : Bool} {oa : Obj} {Q : Value → Shared → Prop} (D : ZipApart z TI TO i1 i2 l1 l2)
    (hz : IsZ s.heap z TI TO (rawInt c) b) (ha : s.heap.get? c = some oa) (hTI : IsPair s.heap TI (.ref i1) (.ref i2))
    (h1 : s.heap.IsTupleIter i1 l1 k1) (h2 : s.heap.IsTupleIter i2 l2 k2) (hl1 : s.heap.IsTuple l1 xs) (hl2 : s.heap.IsTuple l2 ys) (hx : xs[k1]? = some x) (hy : ys[k2]? = some y)
    (hQ : ∀ h', IsZ h' z TI TO (rawInt c) true → h'.IsTupleIter i1 l1 (k1 + 1) → h'.IsTupleIter i2 l2 (k2 + 1) → IsPair h' s.heap.objs.size x y → h'.objs.size = s.heap.objs.size + 1 →
      (∀ c o, c ≠ z → c ≠ i1 → c ≠ i2 → s.heap.get? c = some o → h'.get? c = some o) → Q (.ref s.heap.objs.size) { s with heap := h' }) :
    wpAny (model prog w) A (Builtin.«zip.__next__» ⟨[.ref z], []⟩) (fun fin s' => ∃ v, fin = .done (.ret v) ∧ Q v s') E s := by
  show wpAny _ _ (field (.ref z) 2 >>= _) _ _ _
  refine wpAny_bind (wpAny_field hz rfl (x := .bool false) rfl ?_)
  show wpAny _ _ (field (.ref z) 3 >>= _) _ _ _
  refine wpAny_bind (wpAny_field hz rfl (x := .ref TI) rfl ?_)
  refine wpAny_bind (wpAny_seqItems hTI rfl ?_)
  show wpAny _ _ (Builtin.SmallTypes.ownedTupleIsFree (.ref z) >>= _) _ _ _
  refine wpAny_bind (not_free hz ha fun h₁ hz₁ hs₁ => ?_)
  simp only [Bool.false_eq_true, if_false]
  refine wpAny_bind ?_
  simp only [List.forIn_toArray, List.forIn_cons, List.forIn_nil]
  refine wpAny_bind (wpAny_bind (wpAny_holding ?_))
  show wpAny _ _ (Builtin.SmallTypes.nextOf (.ref i1) >>= _) _ _ _
  refine wpAny_bind (nextOf_tuple_item (h1.extBut hs₁.extBut D.i1z) (hl1.extBut hs₁.extBut D.l1z) hx fun h₂ h1₂ hs₂ => wpAny_pure ?_)
  refine wpAny_pure ?_
  refine wpAny_bind (wpAny_bind (wpAny_holding ?_))
  show wpAny _ _ (Builtin.SmallTypes.nextOf (.ref i2) >>= _) _ _ _
  refine wpAny_bind (nextOf_tuple_item ((h2.extBut hs₁.extBut D.i2z).extBut hs₂.extBut D.i12.symm) ((hl2.extBut hs₁.extBut D.l2z).extBut hs₂.extBut D.l2i1) hy fun h₃ h2₃ hs₃ => wpAny_pure ?_)
  refine wpAny_pure (wpAny_pure ?_)
  refine wpAny_bind (wpAny_newTuple (hsz := by show 2 ≤ sizeLine; decide) ?_)
  have hsz : h₃.objs.size = s.heap.objs.size := by rw [hs₃.1, hs₂.1, hs₁.1]
  refine wpAny_pure ⟨_, rfl, ?_⟩
  show Q (.ref h₃.objs.size) _
  have up : ∀ c o, c ≠ z → c ≠ i1 → c ≠ i2 → s.heap.get? c = some o → h₃.get? c = some o := fun c o c1 c2 c3 e => hs₃.extBut _ _ c3 (hs₂.extBut _ _ c2 (hs₁.extBut _ _ c1 e))
  have hp : IsPair (h₃.push { cls := .type "tuple", data := .seq #[x, y] }) h₃.objs.size x y := Heap.get?_push_size _ rfl
  rw [hsz] at hp ⊢
  refine hQ _ (Heap.get?_push_of_some _ (hs₃.extBut _ _ D.i2z.symm (hs₂.extBut _ _ D.i1z.symm hz₁))) ((h1₂.extBut hs₃.extBut D.i12).at fun o e => Heap.get?_push_of_some _ e) (h2₃.at fun o e => Heap.get?_push_of_some _ e) hp (by rw [Heap.size_push, hsz]) fun c o c1 c2 c3 e => Heap.get?_push_of_some _ (up c o c1 c2 c3 e)
theorem next2_end {z TI TO i1 i2 l1 l2 c : Addr} {k1 : Nat} {xs : Array Value} {b : Bool} {oa : Obj} {Q : Fin → Shared → Prop} (hh : A.handled = none) (D : ZipApart z TI TO i1 i2 l1 l2)
    (hz : IsZ s.heap z TI TO (rawInt c) b) (ha : s.heap.get? c = some oa) (hTI : IsPair s.heap TI (.ref i1) (.ref i2))
    (h1 : s.heap.IsTupleIter i1 l1 k1) (hl1 : s.heap.IsTuple l1 xs) (hx : xs[k1]? = none)
    (hE : ∀ h' e, (∀ c o, c ≠ z → c ≠ i1 → s.heap.get? c = some o → h'.get? c = some o) → (∃ o, h'.get? e = some o ∧ o.cls = .type "StopIteration") → E (.ref e) { s with heap := h' }) :
    wpAny (model prog w) A (Builtin.«zip.__next__» ⟨[.ref z], []⟩) Q E s := by
  show wpAny _ _ (field (.ref z) 2 >>= _) _ _ _
  refine wpAny_bind (wpAny_field hz rfl (x := .bool false) rfl ?_)
  show wpAny _ _ (field (.ref z) 3 >>= _) _ _ _
  refine wpAny_bind (wpAny_field hz rfl (x := .ref TI) rfl ?_)
  refine wpAny_bind (wpAny_seqItems hTI rfl ?_)
  show wpAny _ _ (Builtin.SmallTypes.ownedTupleIsFree (.ref z) >>= _) _ _ _
  refine wpAny_bind (not_free hz ha fun h₁ hz₁ hs₁ => ?_)
  simp only [Bool.false_eq_true, if_false]
  refine wpAny_bind ?_
  simp only [List.forIn_toArray, List.forIn_cons, List.forIn_nil]
  refine wpAny_bind (wpAny_bind (wpAny_holding ?_))
  show wpAny _ _ (Builtin.SmallTypes.nextOf (.ref i1) >>= _) _ _ _
  refine wpAny_bind (nextOf_tuple_end hh (h1.extBut hs₁.extBut D.i1z) (hl1.extBut hs₁.extBut D.l1z) hx fun h₂ e hs₂ he => ?_)
  exact hE h₂ e (fun c o c1 c2 x => hs₂ _ _ c2 (hs₁.extBut _ _ c1 x)) he
theorem pyNext2_item {z TI TO i1 i2 l1 l2 c : Addr} {k1 k2 : Nat} {xs ys : Array Value} {x y : Value} {b : Bool} {oa : Obj} {Q : Option Value → Shared → Prop} (D : ZipApart z TI TO i1 i2 l1 l2)
    (hz : IsZ s.heap z TI TO (rawInt c) b) (ha : s.heap.get? c = some oa) (hTI : IsPair s.heap TI (.ref i1) (.ref i2))
    (h1 : s.heap.IsTupleIter i1 l1 k1) (h2 : s.heap.IsTupleIter i2 l2 k2) (hl1 : s.heap.IsTuple l1 xs) (hl2 : s.heap.IsTuple l2 ys) (hx : xs[k1]? = some x) (hy : ys[k2]? = some y)
    (hQ : ∀ h', IsZ h' z TI TO (rawInt c) true → h'.IsTupleIter i1 l1 (k1 + 1) → h'.IsTupleIter i2 l2 (k2 + 1) → IsPair h' s.heap.objs.size x y → h'.objs.size = s.heap.objs.size + 1 →
      (∀ c o, c ≠ z → c ≠ i1 → c ≠ i2 → s.heap.get? c = some o → h'.get? c = some o) → Q (some (.ref s.heap.objs.size)) { s with heap := h' }) :
    wpAny (model prog w) A (pyNext (.ref z)) Q E s := by
  have hT : s.TypeIs (.ref z) "zip" := ⟨_, hz, rfl⟩
  unfold pyNext
  exact wpAny_bind (wpAny_attempt (wpAny_callSpecial?_slot (name := Str.ofString "__next__") hT F.slot_zip_next
    (wpAny_call_entry F.slot_zip_next hT F.entry_zip_next
      (next2_item D hz ha hTI h1 h2 hl1 hl2 hx hy fun h' a1 a2 a3 a4 a5 a6 => wpAny_pure (hQ h' a1 a2 a3 a4 a5 a6)) (F.args_zip_next_1 _))))
theorem pyNext2_end {z TI TO i1 i2 l1 l2 c : Addr} {k1 : Nat} {xs : Array Value} {b : Bool} {oa : Obj} {Q : Option Value → Shared → Prop} (hh : A.handled = none) (D : ZipApart z TI TO i1 i2 l1 l2)
    (hz : IsZ s.heap z TI TO (rawInt c) b) (ha : s.heap.get? c = some oa) (hTI : IsPair s.heap TI (.ref i1) (.ref i2))
    (h1 : s.heap.IsTupleIter i1 l1 k1) (hl1 : s.heap.IsTuple l1 xs) (hx : xs[k1]? = none)
    (hQ : ∀ h', (∀ c o, c ≠ z → c ≠ i1 → s.heap.get? c = some o → h'.get? c = some o) → Q none { s with heap := h' }) : wpAny (model prog w) A (pyNext (.ref z)) Q E s := by
  have hT : s.TypeIs (.ref z) "zip" := ⟨_, hz, rfl⟩
  unfold pyNext
  refine wpAny_bind (wpAny_attempt (wpAny_callSpecial?_slot (name := Str.ofString "__next__") hT F.slot_zip_next
    (wpAny_call_entry F.slot_zip_next hT F.entry_zip_next (next2_end hh D hz ha hTI h1 hl1 hx fun h' e hk he => ?_) (F.args_zip_next_1 _))))
  obtain ⟨o, ho, hc⟩ := he
  refine wpAny_bind (wpAny_isInstance (T := "StopIteration") (b := true) ⟨o, ho, hc⟩ isSubtype_stop ?_)
  exact wpAny_pure (hQ _ hk)
end
end Zl

/-! list(zip(t, u)) of two tuples of one length. -/
namespace Zl
open PySem PySem.Spec PySem.Calls PyProof.Rows L2 RZ
/-- where the walk stands -/
structure ZSt (h : Heap) (z TI TO i1 i2 a b : Addr) (k : Nat) : Prop where
  zip : (IsZip h z TI TO .none) ∨ ∃ c bb oa, IsZ h z TI TO (rawInt (c : Nat)) bb ∧ h.get? c = some oa ∧ c ≠ z ∧ c ≠ TI ∧ c ≠ TO ∧ c ≠ i1 ∧ c ≠ i2
  ti : IsPair h TI (.ref i1) (.ref i2)
  to : ∃ x y, IsPair h TO x y
  it1 : h.IsTupleIter i1 a k
  it2 : h.IsTupleIter i2 b k
/-- pairs stand at cs -/
def Prs (G : Hp) (xs ys : List V) (cs : List Addr) : Prop := ∀ (i : Nat) (c : Addr), cs[i]? = some c → ∃ x y, xs[i]? = some x ∧ ys[i]? = some y ∧ G c = some (.tup [x, y])
section
variable {X : Cx} {pins : List (Addr × Obj)} {σ : L2.St} {H : Hp}
theorem loop {A : Around} {R : Result → Shared → Prop} {S z TI TO i1 i2 a b : Addr} {xs ys : List V} {res : Value} (hh : A.handled = none) (D : ZipApart z TI TO i1 i2 a b) (len : xs.length = ys.length) (few : xs.length ≤ sizeLine) (nS : H S = none)
    (hR : ∀ s' G' cs, Inv X pins σ G' s' → Same H G' → G' S = some (.lst (cs.map V.ref)) → cs.length = xs.length → Prs G' xs ys cs → R (.ok (.ret res)) s') :
    ∀ (m k : Nat) (s : Shared) (G : Hp) (cs : List Addr), xs.length = k + m → Inv X pins σ G s → Same H G → G S = some (.lst (cs.map V.ref)) → cs.length = k → Prs G xs ys cs → SqT X.K G a xs → SqT X.K G b ys → (∀ c ∈ [z, TI, TO, i1, i2], FpOk X pins G c) → ZSt s.heap z TI TO i1 i2 a b k →
      codeAny (model X.prog X.w) A (.builtin "list.extend.loop" ⟨[.ref S, .ref z, res], []⟩) R s := by
  intro m
  induction m with
  | zero =>
    intro k s G cs hk I sm gS lcs prs sa sb fp st
    obtain ⟨its, rv, p, _⟩ := I.tuple sa
    obtain ⟨its2, rv2, p2, _⟩ := I.tuple sb
    have l1 := rv.length
    have e1 : its.toArray[k]? = none := by simp; omega
    refine codeAny_builtin F.entry_extend_loop ?_
    rw [Around.under_plainId F.plain_extend_loop _]
    show wpAny _ A.in1 (pyNext (.ref z) >>= _) _ _ s
    obtain ⟨zip, ti, ⟨x0, y0, to⟩, it1, it2⟩ := st
    have fin : ∀ h' : Heap, (∀ c o, c ∉ [z, TI, TO, i1, i2] → s.heap.get? c = some o → h'.get? c = some o) → R (.ok (.ret res)) { s with heap := h' } := fun h' hk' =>
      hR _ G cs (I.turnedL (t' := s.toks) (ch := [z, TI, TO, i1, i2]) hk' fp) sm gS (by omega) prs
    rcases zip with zip | ⟨c, bb, oa, zip, alive, _⟩
    · refine wpAny_bind (pyNext_zipT_end (A := A.in1) hh D zip ti to it1 it2 p p2 (.inl e1) fun h' hk' => wpAny_pure (fin h' fun c o hc e => ?_))
      exact hk' c o (fun q => hc (by simp [q])) (fun q => hc (by simp [q])) (fun q => hc (by simp [q])) (fun q => hc (by simp [q])) e
    · refine wpAny_bind (pyNext2_end (A := A.in1) hh D zip alive ti it1 p e1 fun h' hk' => wpAny_pure (fin h' fun c o hc e => ?_))
      exact hk' c o (fun q => hc (by simp [q])) (fun q => hc (by simp [q])) e
  | succ m ih =>
    intro k s G cs hk I sm gS lcs prs sa sb fp st
    obtain ⟨its, rv, p, _⟩ := I.tuple sa
    obtain ⟨its2, rv2, p2, _⟩ := I.tuple sb
    have hx : xs[k]? = some xs[k] := List.getElem?_eq_getElem (by omega)
    have hy : ys[k]? = some ys[k] := List.getElem?_eq_getElem (by omega)
    generalize xs[k] = x at hx
    generalize ys[k] = y at hy
    obtain ⟨u, hu, ru⟩ := rv.get hx
    obtain ⟨u2, hu2, ru2⟩ := rv2.get hy
    refine codeAny_builtin F.entry_extend_loop ?_
    rw [Around.under_plainId F.plain_extend_loop _]
    show wpAny _ A.in1 (pyNext (.ref z) >>= _) _ _ s
    obtain ⟨zip, ti, ⟨x0, y0, to⟩, it1, it2⟩ := st
    have lt : ∀ {c o}, s.heap.get? c = some o → s.heap.objs.size ≠ c := fun e => Nat.ne_of_gt (Heap.lt_size e)
    have nz : s.heap.objs.size ≠ z := by
      rcases zip with q | ⟨_, _, _, q, _⟩
      · exact lt q
      · exact lt q
    have nTI := lt ti
    have nTO := lt to
    have n1 : s.heap.objs.size ≠ i1 := by obtain ⟨_, e, _⟩ := it1; exact lt e
    have n2 : s.heap.objs.size ≠ i2 := by obtain ⟨_, e, _⟩ := it2; exact lt e
    have on : ∀ h' : Heap, (∀ c o, c ∉ [z, TI, TO, i1, i2] → s.heap.get? c = some o → h'.get? c = some o) → IsPair h' s.heap.objs.size u u2 → ZSt h' z TI TO i1 i2 a b (k + 1) →
        wpAny (model X.prog X.w) A.in1 (updateSeq S (·.push (.ref s.heap.objs.size)) >>= fun _ => again (.builtin "list.extend.loop" ⟨[.ref S, .ref z, res], []⟩))
          (fun fin s' => match fin with | .done f => R (.ok f) s' | .again c' => c'.quiet = true ∧ codeAny (model X.prog X.w) A c' R s') (fun e s' => R (.error e) s') { s with heap := h' } := by
      intro h' hk' hp st'
      have new : ObjOk X.prog X.w (upd G s.heap.objs.size (.tup [x, y])) h' s.heap.objs.size (.tup [x, y]) := ⟨by show 2 ≤ sizeLine; decide, [u, u2], .cons ru (.cons ru2 .nil), ⟨_, hp, rfl, _, rfl⟩⟩
      have fr := I.hok.fresh (Nat.le_refl s.heap.objs.size)
      have I1 : Inv X pins σ (upd G s.heap.objs.size (.tup [x, y])) { s with heap := h' } := I.turnedNew (t' := s.toks) (ch := [z, TI, TO, i1, i2]) hk' fp (Nat.le_refl _) new
      have k1 : Same G (upd G s.heap.objs.size (.tup [x, y])) := fun c o e => by
        rw [upd_ne (ne_of_none e fr)]
        exact e
      have gS1 := k1 _ _ gS
      have m1 : (upd G s.heap.objs.size (.tup [x, y])) s.heap.objs.size = some (.tup [x, y]) := upd_same
      have fp1 : ∀ c ∈ [z, TI, TO, i1, i2], FpOk X pins (upd G s.heap.objs.size (.tup [x, y])) c := by
        intro c hc
        obtain ⟨q1, q2⟩ := fp c hc
        refine ⟨?_, q2⟩
        rw [upd_ne (fun q => ?_)]
        · exact q1
        · simp only [List.mem_cons, List.mem_nil_iff, or_false] at hc
          rcases hc with e | e | e | e | e <;> rw [e] at q <;> first | exact nz q.symm | exact nTI q.symm | exact nTO q.symm | exact n1 q.symm | exact n2 q.symm
      have sa1 : SqT X.K (upd G s.heap.objs.size (.tup [x, y])) a xs := by
        rcases sa with (q | ⟨o, q⟩) | q
        · exact .inl (.inl (k1 _ _ q))
        · exact .inl (.inr ⟨o, k1 _ _ q⟩)
        · exact .inr q
      have sb1 : SqT X.K (upd G s.heap.objs.size (.tup [x, y])) b ys := by
        rcases sb with (q | ⟨o, q⟩) | q
        · exact .inl (.inl (k1 _ _ q))
        · exact .inl (.inr ⟨o, k1 _ _ q⟩)
        · exact .inr q
      have prs1 : Prs (upd G s.heap.objs.size (.tup [x, y])) xs ys cs := fun i c e => by
        obtain ⟨x', y', q1, q2, q3⟩ := prs i c e
        exact ⟨x', y', q1, q2, k1 _ _ q3⟩
      have sm1 : Same H (upd G s.heap.objs.size (.tup [x, y])) := fun c o e => k1 _ _ (sm _ _ e)
      generalize upd G s.heap.objs.size (.tup [x, y]) = G1 at I1 gS1 m1 fp1 sa1 sb1 prs1 sm1
      clear new fr k1
      obtain ⟨_, itsS, nn, rS, hlS, eS⟩ := I1.lstM gS1
      have lS := rS.length
      rw [List.length_map] at lS
      have I2 : Inv X pins σ (upd G1 S (.lst (cs.map V.ref ++ [.ref s.heap.objs.size]))) { ({ s with heap := h' } : Shared) with heap := h'.update S (Obj.mapSeq (·.push (.ref s.heap.objs.size))), toks := s.toks } :=
        I1.lset (its' := itsS ++ [Value.ref s.heap.objs.size]) gS1 eS (by simp) (rS.append (.cons (show L2.RelV (V.ref s.heap.objs.size) (Value.ref s.heap.objs.size) from rfl) .nil)) (by rw [List.length_append, List.length_map, List.length_singleton]; omega)
      have offS : ∀ c ∈ [z, TI, TO, i1, i2], c ≠ S := fun c hc q => by
        have := (fp1 c hc).1
        rw [q, gS1] at this
        cases this
      refine wpAny_bind (wpAny_updateSeq eS rfl (wpAny_pure ⟨plainId_quiet F.plain_extend_loop _, ?_⟩) (by rw [List.size_toArray]; omega) (by show (itsS.toArray.push _).size ≤ sizeLine + 1; rw [Array.size_push, List.size_toArray]; omega))
      have other : ∀ {c o}, c ≠ S → h'.get? c = some o → (h'.update S (Obj.mapSeq (·.push (.ref s.heap.objs.size)))).get? c = some o := fun n e => (Heap.get?_update_other _ _ (Ne.symm n)).trans e
      have bS : ∀ {c o}, G1 c = some o → (∀ l, o ≠ .lst l) → c ≠ S := fun e n q => by
        rw [q, gS1] at e
        exact n _ (Option.some.inj e).symm
      have k2 : ∀ {c o}, G1 c = some o → (∀ l, o ≠ .lst l) → (upd G1 S (.lst (cs.map V.ref ++ [.ref s.heap.objs.size]))) c = some o := fun e n => by
        rw [upd_ne (bS e n)]
        exact e
      refine ih (k + 1) _ (upd G1 S (.lst (cs.map V.ref ++ [.ref s.heap.objs.size]))) (cs ++ [s.heap.objs.size]) (by omega) I2 (fun c o e => ?_) (by rw [List.map_append]; exact upd_same) (by rw [List.length_append, List.length_singleton, lcs]) ?_ ?_ ?_ ?_ ?_
      · rw [upd_ne (ne_of_none e nS)]
        exact sm1 _ _ e
      · intro i c e
        rw [List.getElem?_append] at e
        split at e
        · obtain ⟨x', y', q1, q2, q3⟩ := prs1 i c e
          exact ⟨x', y', q1, q2, k2 q3 (by intro l q; cases q)⟩
        · rename_i hlt
          have i0 : i = k := by
            cases hi : i - cs.length with
            | zero => omega
            | succ j =>
              rw [hi] at e
              cases e
          subst i0
          rw [lcs, Nat.sub_self] at e
          cases e
          exact ⟨x, y, hx, hy, k2 m1 (by intro l q; cases q)⟩
      · rcases sa1 with (q | ⟨o, q⟩) | q
        · exact .inl (.inl (k2 q (by intro l q; cases q)))
        · exact .inl (.inr ⟨o, k2 q (by intro l q; cases q)⟩)
        · exact .inr q
      · rcases sb1 with (q | ⟨o, q⟩) | q
        · exact .inl (.inl (k2 q (by intro l q; cases q)))
        · exact .inl (.inr ⟨o, k2 q (by intro l q; cases q)⟩)
        · exact .inr q
      · intro c hc
        obtain ⟨q1, q2⟩ := fp1 c hc
        exact ⟨by rw [upd_ne (offS c hc)]; exact q1, q2⟩
      · obtain ⟨zip', ti', ⟨x1, y1, to'⟩, it1', it2'⟩ := st'
        refine ⟨?_, other (offS TI (by simp)) ti', ⟨x1, y1, other (offS TO (by simp)) to'⟩, it1'.at fun o e => other (offS i1 (by simp)) e, it2'.at fun o e => other (offS i2 (by simp)) e⟩
        rcases zip' with q | ⟨c, bb, oa, q, al, r⟩
        · exact .inl (other (offS z (by simp)) q)
        · by_cases hc : c = S
          · have al' := al
            rw [hc, eS] at al'
            cases al'
            have e5 := Heap.get?_update_self (Obj.mapSeq (·.push (.ref s.heap.objs.size))) eS rfl
            exact .inr ⟨c, bb, _, other (offS z (by simp)) q, by rw [hc]; exact e5, r⟩
          · exact .inr ⟨c, bb, oa, other (offS z (by simp)) q, other hc al, r⟩
    rcases zip with zip | ⟨c, bb, oa, zip, alive, c1, c2, c3, c4, c5⟩
    · refine wpAny_bind (pyNext_zipT_item (A := A.in1) D zip ti to it1 it2 p p2 (x := u) (y := u2) (by simpa using hu) (by simpa using hu2) fun h' z' TO' h1' h2' hT hsz hk' => ?_)
      refine on h' (fun c o hc e => hk' c o (fun q => hc (by simp [q])) (fun q => hc (by simp [q])) (fun q => hc (by simp [q])) (fun q => hc (by simp [q])) e) hT ?_
      exact ⟨.inr ⟨_, false, _, z', hT, nz, nTI, nTO, n1, n2⟩, hk' _ _ D.TIz D.TITO D.TIi1 D.TIi2 ti, ⟨_, _, TO'⟩, h1', h2'⟩
    · refine wpAny_bind (pyNext2_item (A := A.in1) D zip alive ti it1 it2 p p2 (x := u) (y := u2) (by simpa using hu) (by simpa using hu2) fun h' z' h1' h2' hT hsz hk' => ?_)
      refine on h' (fun c o hc e => hk' c o (fun q => hc (by simp [q])) (fun q => hc (by simp [q])) (fun q => hc (by simp [q])) e) hT ?_
      exact ⟨.inr ⟨c, true, oa, z', hk' _ _ c1 c4 c5 alive, c1, c2, c3, c4, c5⟩, hk' _ _ D.TIz D.TIi1 D.TIi2 ti, ⟨_, _, hk' _ _ D.TOz D.TOi1 D.TOi2 to⟩, h1', h2'⟩
end
end Zl

/-! list(zip(t, u)) as an expression. -/
namespace Zl
open PySem PySem.Spec PySem.Calls PyProof.Rows L2 RZ
theorem zip_no_len : typeLookup (.type "zip") "__len__" = pure none := by rw [typeLookup_type, builtinLookup_eq_fast]; kernel_rfl
theorem zip_no_hint : typeLookup (.type "zip") "__length_hint__" = pure none := by rw [typeLookup_type, builtinLookup_eq_fast]; kernel_rfl
section
variable {X : Cx} {pins : List (Addr × Obj)} {σ : L2.St}
theorem extend {A : Around} {R : Result → Shared → Prop} {S z TI TO i1 i2 a b : Addr} {xs ys : List V} {res : Value} {H G : Hp} {s : Shared} (hh : A.handled = none) (D : ZipApart z TI TO i1 i2 a b) (len : xs.length = ys.length) (few : xs.length ≤ sizeLine) (nS : H S = none)
    (I : Inv X pins σ G s) (sm : Same H G) (gS : G S = some (.lst [])) (sa : SqT X.K G a xs) (sb : SqT X.K G b ys) (fp : ∀ c ∈ [z, TI, TO, i1, i2], FpOk X pins G c) (zip : IsZip s.heap z TI TO .none) (ti : IsPair s.heap TI (.ref i1) (.ref i2)) (to : IsPair s.heap TO .none .none) (it1 : s.heap.IsTupleIter i1 a 0) (it2 : s.heap.IsTupleIter i2 b 0)
    (hR : ∀ s' G' cs, Inv X pins σ G' s' → Same H G' → G' S = some (.lst (cs.map V.ref)) → cs.length = xs.length → Prs G' xs ys cs → R (.ok (.ret res)) s') :
    wpAny (model X.prog X.w) A.in1 (Builtin.List.listExtendWith (.ref S) (.ref z) res)
      (fun fin s' => match fin with | .done f => R (.ok f) s' | .again c' => c'.quiet = true ∧ codeAny (model X.prog X.w) A c' R s') (fun e s' => R (.error e) s') s := by
  have offS : ∀ c ∈ [z, TI, TO, i1, i2], c ≠ S := fun c hc q => by
    have := (fp c hc).1
    rw [q, gS] at this
    cases this
  have hT : s.TypeIs (.ref z) "zip" := ⟨_, zip, rfl⟩
  unfold Builtin.List.listExtendWith
  refine wpAny_bind (wpAny_typeOf hT ?_)
  have h1 : Builtin.List.listSameRef (.ref S) (.ref z) = false := by simp [Builtin.List.listSameRef, Ne.symm (offS z (by simp))]
  have h2 : (Value.type "zip" == Value.type "list") = false := by decide
  have h3 : (Value.type "zip" == Value.type "tuple") = false := by decide
  simp only [h1, h2, h3, Bool.or_false, Bool.false_eq_true, if_false]
  refine wpAny_bind (wpAny_pyIter_zip zip ?_)
  refine wpAny_bind (wpAny_holding ?_)
  unfold Builtin.List.listLengthHint
  refine wpAny_bind (wpAny_specialOf hT zip_no_len ?_)
  show wpAny _ A.in1 (specialOf (Value.ref z) (Str.ofString "__length_hint__") >>= _) _ _ _
  refine wpAny_bind (wpAny_specialOf hT zip_no_hint ?_)
  refine wpAny_pure ?_
  show wpAny _ A.in1 (rule "list.extend.makes-room" >>= fun _ => Builtin.List.listTouch (.ref S) >>= fun _ =>
    again (.builtin "list.extend.loop" ⟨[.ref S, .ref z, res], []⟩)) _ _ _
  refine wpAny_bind (wpAny_rule ?_)
  refine wpAny_bind ?_
  show wpAny _ A.in1 (updateSeq S (·.push .none) >>= fun _ => updateSeq S (·.pop)) _ _ _
  obtain ⟨_, its, nn, r0, hl0, e0⟩ := I.lstM gS
  have i0 : its = [] := by cases r0; rfl
  subst i0
  refine wpAny_bind (wpAny_updateSeq e0 rfl ?_)
  have I1 : Inv X pins σ (upd G S (.lst [.non])) { s with heap := s.heap.update S (Obj.mapSeq (·.push .none)), toks := s.toks } := I.lset (its' := [Value.none]) gS e0 (by simp) (.cons (show L2.RelV V.non Value.none from rfl) .nil) (by show 1 ≤ sizeLine; decide)
  have g1 : (upd G S (.lst [.non])) S = some (.lst [.non]) := upd_same
  have e1 := Heap.get?_update_self (Obj.mapSeq (·.push Value.none)) e0 rfl
  refine wpAny_updateSeq (hz := by seq_fits) e1 rfl ?_
  have I2 : Inv X pins σ (upd (upd G S (.lst [.non])) S (.lst [])) { ({ s with heap := s.heap.update S (Obj.mapSeq (·.push .none)) } : Shared) with heap := (s.heap.update S (Obj.mapSeq (·.push .none))).update S (Obj.mapSeq (·.pop)), toks := s.toks } := by
    obtain ⟨_, its2, nn2, r2, hl2, e2⟩ := I1.lstM g1
    obtain ⟨u0, rfl, _⟩ := Vals.one r2
    exact I1.lset (its := [u0]) (its' := []) g1 e2 (by simp) .nil (Nat.zero_le _)
  have other : ∀ {c o}, c ≠ S → s.heap.get? c = some o → ((s.heap.update S (Obj.mapSeq (·.push .none))).update S (Obj.mapSeq (·.pop))).get? c = some o := fun n e => (Heap.get?_update_other _ _ (Ne.symm n)).trans ((Heap.get?_update_other _ _ (Ne.symm n)).trans e)
  have k2 : ∀ {c o}, G c = some o → (∀ l, o ≠ .lst l) → (upd (upd G S (.lst [.non])) S (.lst [])) c = some o := fun {c o} e n => by
    have q : c ≠ S := fun q => by
      rw [q, gS] at e
      exact n _ (Option.some.inj e).symm
    rw [upd_ne q, upd_ne q]
    exact e
  refine wpAny_pure ⟨plainId_quiet F.plain_extend_loop _, loop hh D len few nS hR xs.length 0 _ _ [] (by omega) I2 (fun c o e => ?_) upd_same rfl (fun i c e => nomatch e) ?_ ?_ (fun c hc => ?_) ⟨.inl (other (offS z (by simp)) zip), other (offS TI (by simp)) ti, ⟨_, _, other (offS TO (by simp)) to⟩, it1.at fun o e => other (offS i1 (by simp)) e, it2.at fun o e => other (offS i2 (by simp)) e⟩⟩
  · rw [upd_ne (ne_of_none e nS), upd_ne (ne_of_none e nS)]
    exact sm _ _ e
  · rcases sa with (q | ⟨o, q⟩) | q
    · exact .inl (.inl (k2 q (by intro l q; cases q)))
    · exact .inl (.inr ⟨o, k2 q (by intro l q; cases q)⟩)
    · exact .inr q
  · rcases sb with (q | ⟨o, q⟩) | q
    · exact .inl (.inl (k2 q (by intro l q; cases q)))
    · exact .inl (.inr ⟨o, k2 q (by intro l q; cases q)⟩)
    · exact .inr q
  · obtain ⟨q1, q2⟩ := fp c hc
    exact ⟨by rw [upd_ne (offS c hc), upd_ne (offS c hc)]; exact q1, q2⟩
def tListZip (K : PySem.W.Frag) (ta : TA) : TE := fun σ H Q => ta σ H fun vs H1 => ∃ a b xs ys, vs = [.ref a, .ref b] ∧ SqT K H1 a xs ∧ SqT K H1 b ys ∧ xs.length = ys.length ∧
  ∀ G p cs, Same H1 G → H1 p = none → G p = some (.lst (cs.map V.ref)) → cs.length = xs.length → Prs G xs ys cs → Q (.ref p) G
theorem pe_listZip {e1 e2 : Expr} {ta : TA} {p p2 pos pos2 : Pos} (ha : PA X [e1, e2] ta) (hgl : Gl X "list") (hml : X.mg "list" = none) (hgz : Gl X "zip") (hmz : X.mg "zip" = none) (calm : X.calm = true)
    (hs : starEach [e1, e2] X.env = (false, eval e1 X.env) :: starEach [e2] X.env := by rfl) (hpl : (backTo pos2 (starEach [e2] X.env)).any (·.1) = false := by rfl)
    (he : starEach [.Call (.Name "zip" p2) [e1, e2] [] pos2] X.env = (false, eval (.Call (.Name "zip" p2) [e1, e2] [] pos2) X.env) :: starEach [] X.env := by rfl) :
    PE X (.Call (.Name "list" p) [.Call (.Name "zip" p2) [e1, e2] [] pos2] [] pos) (tListZip X.K ta) := by
  refine ⟨fun pins s σ H Q I h => ?_⟩
  refine wpAny_Call_Name_kw (ld_blt I hgl hml boot_list ?_)
  refine PyProof.Rows.callWith_type1 ?_ he rfl
  rw [he]
  show wpAny _ _ (spliced ((false, eval _ X.env) :: backTo pos (starEach [] X.env))) _ _ s
  refine Calls.spliced_cons ?_
  refine wpAny_Call_Name_kw (ld_blt I hgz hmz PyProof.Rows.boot_zip (PyProof.Rows.callWith_type1 (thn (ha.run pos2 pins s σ H _ I h) fun us s1 ⟨vs, H1, I1, r1, q1⟩ => ?_) hs hpl))
  obtain ⟨a, b, xs, ys, ex, sa, sb, len, q⟩ := q1
  subst ex
  cases r1 with
  | cons r rr =>
    cases rr with
    | cons r' rr =>
      cases rr
      cases r
      cases r'
      obtain ⟨its, rv, p1, few⟩ := I1.tuple sa
      obtain ⟨its2, rv2, p2, _⟩ := I1.tuple sb
      have la : a < s1.heap.objs.size := p1.lt
      have lb : b < s1.heap.objs.size := p2.lt
      refine call_zipT p1 p2 fun h' hz hTI hTO h1 h2 hsz hk => ?_
      refine Calls.spliced_nil ?_
      have I2 : Inv X pins σ H1 { s1 with heap := h' } := I1.kept (t' := s1.toks) hk
      have fp2 : ∀ c ∈ [s1.heap.objs.size + 4, s1.heap.objs.size + 2, s1.heap.objs.size + 3, s1.heap.objs.size, s1.heap.objs.size + 1], FpOk X pins H1 c ∧ c < h'.objs.size := by
        intro c hcm
        have e' : c = s1.heap.objs.size + 4 ∨ c = s1.heap.objs.size + 2 ∨ c = s1.heap.objs.size + 3 ∨ c = s1.heap.objs.size ∨ c = s1.heap.objs.size + 1 := by simpa using hcm
        have hle : s1.heap.objs.size ≤ c := by
          rcases e' with z | z | z | z | z <;> rw [z] <;> omega
        refine ⟨I1.fpOk hle (I1.hok.fresh hle), ?_⟩
        rcases e' with z | z | z | z | z <;> rw [z, hsz] <;> omega
      have nS : H1 h'.objs.size = none := I2.hok.fresh (Nat.le_refl _)
      refine callType_codes (Q₁ := fun obj s₁ => obj = .ref h'.objs.size ∧ s₁ = { ({ s1 with heap := h' } : Shared) with heap := h'.push { cls := .type "list", data := .seq #[] } }) F.called_list (F.typeCall_list_1 _) F.entry_list_init
        (code_list_new _ ⟨rfl, rfl⟩) fun obj s₁ h₁ => ?_
      obtain ⟨rfl, rfl⟩ := h₁
      have hS : (h'.push { cls := .type "list", data := .seq #[] }).get? h'.objs.size = some { cls := .type "list", data := .seq #[] } := Heap.get?_push_size _ rfl
      have I3 : Inv X pins σ (upd H1 h'.objs.size (.lst [])) { ({ s1 with heap := h' } : Shared) with heap := h'.push { cls := .type "list", data := .seq #[] }, toks := s1.toks } := I2.lnew (its := []) .nil (Nat.zero_le _)
      have g3 : (upd H1 h'.objs.size (.lst [])) h'.objs.size = some (.lst []) := upd_same
      refine ⟨⟨_, hS, rfl⟩, F.args_list_init_2 _ _, ?_⟩
      show wpAny _ _ (do let old ← Builtin.List.listItems (.ref h'.objs.size); Builtin.List.listUpdate (.ref h'.objs.size) (fun _ => #[]); letGo old.toList.reverse; Builtin.List.listExtendWith (.ref h'.objs.size) (.ref (s1.heap.objs.size + 4)) .none) _ _ _
      refine wpAny_bind ?_
      unfold Builtin.List.listItems
      refine wpAny_bind (wpAny_seqItems hS rfl (wpAny_pure ?_))
      show wpAny _ _ (updateSeq h'.objs.size (fun _ => #[]) >>= fun _ => letGo (#[] : Array Value).toList.reverse >>= fun _ => Builtin.List.listExtendWith (.ref h'.objs.size) (.ref (s1.heap.objs.size + 4)) .none) _ _ _
      refine wpAny_bind (wpAny_updateSeq hS rfl ?_)
      have I4 : Inv X pins σ (upd (upd H1 h'.objs.size (.lst [])) h'.objs.size (.lst [])) { ({ s1 with heap := h' } : Shared) with heap := (h'.push { cls := .type "list", data := .seq #[] }).update h'.objs.size (Obj.mapSeq (fun _ => (#[] : Array Value))), toks := s1.toks } :=
        I3.lset (its := []) (its' := []) (n := 0) g3 hS rfl .nil (Nat.zero_le _)
      have other : ∀ {c o}, h'.get? c = some o → ((h'.push { cls := .type "list", data := .seq #[] }).update h'.objs.size (Obj.mapSeq (fun _ => (#[] : Array Value)))).get? c = some o := fun e =>
        (Heap.get?_update_other _ _ (Ne.symm (Nat.ne_of_lt (Heap.lt_size e)))).trans (Heap.get?_push_of_some _ e)
      refine wpAny_bind (wpAny_letGo ?_)
      have k4 : Same H1 (upd (upd H1 h'.objs.size (.lst [])) h'.objs.size (.lst [])) := fun c o e => by
        rw [upd_ne (ne_of_none e nS), upd_ne (ne_of_none e nS)]
        exact e
      have sq : ∀ {c : Addr} {zs : List V}, SqT X.K H1 c zs → SqT X.K (upd (upd H1 h'.objs.size (.lst [])) h'.objs.size (.lst [])) c zs := fun h => by
        rcases h with (q | ⟨o, q⟩) | q
        · exact .inl (.inl (k4 _ _ q))
        · exact .inl (.inr ⟨o, k4 _ _ q⟩)
        · exact .inr q
      refine extend (a := a) (b := b) (I.ok.hd calm) (PySem.W.ktu_apart s1.heap.objs.size a b la lb) len few nS I4 k4 upd_same (sq sa) (sq sb) (fun c hc => ?_) (other hz) (other hTI) (other hTO) (h1.at fun o e => other e) (h2.at fun o e => other e) fun s' G' cs J s4 gS lcs prs => ?_
      · obtain ⟨⟨q1, q2⟩, q3⟩ := fp2 c hc
        have n := Nat.ne_of_lt q3
        exact ⟨by rw [upd_ne n, upd_ne n]; exact q1, q2⟩
      · exact ⟨rfl, .ref h'.objs.size, G', J, rfl, q G' _ cs s4 nS gS lcs prs⟩
end
end Zl

/-! Matching, as a plain function. -/
namespace Ad
open PySem PySem.Spec PySem.Calls PyProof.Rows L2
theorem eqvAll_cons (a b : PyData) (as bs : List PyData) : PyData.eqvAll (a :: as) (b :: bs) = (PyData.eqv a b && PyData.eqvAll as bs) := by
  first
    | rfl
    | rw [PyData.eqvAll]
    | simp only [PyData.eqvAll]
namespace T
mutual
theorem eqv_eq : ∀ t u : T, PyData.eqv t.d u.d = true → t = u
  | .v i, .v j, h => by
    have e : PyData.eqv (.int i) (.int j) = (i == j) := by rw [PyData.eqv]
    have h' : (i == j) = true := by rw [← e]; exact h
    rw [eq_of_beq h']
  | .v i, .f x ts, h => by
    have e : PyData.eqv (.int i) (.tuple (.str x :: ds ts)) = false := by rw [PyData.eqv]
    have h' : PyData.eqv (.int i) (.tuple (.str x :: ds ts)) = true := h
    rw [e] at h'
    cases h'
  | .f x ts, .v i, h => by
    have e : PyData.eqv (.tuple (.str x :: ds ts)) (.int i) = false := by rw [PyData.eqv]
    have h' : PyData.eqv (.tuple (.str x :: ds ts)) (.int i) = true := h
    rw [e] at h'
    cases h'
  | .f x ts, .f y us, h => by
    have e : PyData.eqv (.tuple (.str x :: ds ts)) (.tuple (.str y :: ds us)) = (PyData.eqv (.str x) (.str y) && PyData.eqvAll (ds ts) (ds us)) := by
      rw [← eqvAll_cons]
      have e0 : ∀ as bs : List PyData, PyData.eqv (.tuple as) (.tuple bs) = PyData.eqvAll as bs := fun as bs => by rw [PyData.eqv]
      exact e0 _ _
    have h' : PyData.eqv (.tuple (.str x :: ds ts)) (.tuple (.str y :: ds us)) = true := h
    have es : PyData.eqv (.str x) (.str y) = (x == y) := by rw [PyData.eqv]
    rw [e, es, Bool.and_eq_true] at h'
    rw [eq_of_beq h'.1, eqvs_eq ts us h'.2]
theorem eqvs_eq : ∀ ts us : List T, PyData.eqvAll (ds ts) (ds us) = true → ts = us
  | [], [], _ => rfl
  | [], u :: us, h => by
    have e : PyData.eqvAll [] (d u :: ds us) = false := by rw [PyData.eqvAll]
    have h' : PyData.eqvAll [] (d u :: ds us) = true := h
    rw [e] at h'
    cases h'
  | t :: ts, [], h => by
    have e : PyData.eqvAll (d t :: ds ts) [] = false := by rw [PyData.eqvAll]
    have h' : PyData.eqvAll (d t :: ds ts) [] = true := h
    rw [e] at h'
    cases h'
  | t :: ts, u :: us, h => by
    have e : PyData.eqvAll (d t :: ds ts) (d u :: ds us) = (PyData.eqv (d t) (d u) && PyData.eqvAll (ds ts) (ds us)) := eqvAll_cons _ _ _ _
    have h' : PyData.eqvAll (d t :: ds ts) (d u :: ds us) = true := h
    rw [e, Bool.and_eq_true] at h'
    rw [eqv_eq t u h'.1, eqvs_eq ts us h'.2]
end
theorem mem_varsL {p : T} {j : Int} : ∀ {ps : List T}, p ∈ ps → j ∈ p.vars → j ∈ varsL ps
  | q :: ps, h, hj => by
    rcases List.mem_cons.mp h with w | w
    · exact List.mem_append_left _ (by rw [← w]; exact hj)
    · exact List.mem_append_right _ (mem_varsL w hj)
/-- a name and arguments like those of another term -/
def alike (x : Str) (ps : List T) : T → Bool
  | .v _ => false
  | .f y ts => decide (ps.length = ts.length) && decide (x = y)
end T
/-- a row of pairs, how large its first sides are -/
def psz : List (T × T) → Nat
  | [] => 0
  | e :: r => e.1.size + psz r
theorem psz_app : ∀ a b : List (T × T), psz (a ++ b) = psz a + psz b
  | [], b => (Nat.zero_add _).symm
  | e :: a, b => by
    show e.1.size + psz (a ++ b) = e.1.size + psz a + psz b
    rw [psz_app a b, Nat.add_assoc]
theorem psz_rev (a : List (T × T)) : psz a.reverse = psz a := by
  induction a with
  | nil => rfl
  | cons e a ih =>
    rw [List.reverse_cons, psz_app, ih]
    show psz a + (e.1.size + 0) = e.1.size + psz a
    omega
theorem psz_zip : ∀ ps ts : List T, psz (ps.zip ts) ≤ T.sizeL ps
  | [], _ => Nat.zero_le _
  | p :: ps, [] => Nat.zero_le _
  | p :: ps, t :: ts => by
    have := psz_zip ps ts
    show p.size + psz (ps.zip ts) ≤ T.size p + T.sizeL ps
    omega
theorem psz_len : ∀ a : List (T × T), a.length ≤ psz a
  | [] => Nat.le_refl _
  | e :: a => by
    have h1 := psz_len a
    have h2 := e.1.size_pos
    show a.length + 1 ≤ e.1.size + psz a
    omega
/-- matching; the last pair of the row is the first here -/
def mt : Nat → Sb → List (T × T) → Option Sb
  | 0, _, _ => none
  | _ + 1, tb, [] => some tb
  | n + 1, tb, (.v i, t) :: r => match tb.look i with
    | some u => if PyData.eqv u.d t.d = true then mt n tb r else none
    | none => mt n (tb.put i t) r
  | n + 1, tb, (.f x ps, .f y ts) :: r => if T.alike x ps (.f y ts) = true then mt n tb ((ps.zip ts).reverse ++ r) else none
  | _ + 1, _, (.f _ _, .v _) :: _ => none
theorem Sb.put_same {tb : Sb} {i : Int} {t : T} (nd : (tb.map (·.1)).Nodup) (h : tb.look i = some t) : tb.put i t = tb := by
  unfold Sb.put
  rw [h, if_pos (show (some t).isSome = true from rfl)]
  have key : ∀ e ∈ tb, (if e.1 = i then (e.1, t) else e) = e := by
    intro e he
    split
    · rename_i z
      have := (Sb.mem_look nd (i := e.1) (t := e.2)).1 he
      rw [z, h] at this
      rw [Option.some.inj this]
    · rfl
  have := List.map_congr_left key
  rw [this]
  exact List.map_id' _
/-- what holds of all that stands in the result -/
theorem mt_all {P : T → Prop} {Kp : Int → Prop} (hP : ∀ x ts, P (.f x ts) → ∀ u ∈ ts, P u) : ∀ (n : Nat) (tb : Sb) (es : List (T × T)) (tb' : Sb), mt n tb es = some tb' → (∀ e ∈ tb, Kp e.1 ∧ P e.2) → (∀ e ∈ es, (∀ j ∈ e.1.vars, Kp j) ∧ P e.2) → ∀ e ∈ tb', Kp e.1 ∧ P e.2
  | 0, _, _, _, h, _, _ => nomatch h
  | n + 1, tb, [], tb', h, h1, _ => by
    cases (show some tb = some tb' from h)
    exact h1
  | n + 1, tb, (.v i, t) :: r, tb', h, h1, h2 => by
    have h' : (match tb.look i with | some u => if PyData.eqv u.d t.d = true then mt n tb r else none | none => mt n (tb.put i t) r) = some tb' := h
    obtain ⟨k0, p0⟩ := h2 _ List.mem_cons_self
    have hr : ∀ e ∈ r, (∀ j ∈ e.1.vars, Kp j) ∧ P e.2 := fun e he => h2 e (List.mem_cons_of_mem _ he)
    cases lk : tb.look i with
    | some u =>
      rw [lk] at h'
      by_cases z : PyData.eqv u.d t.d = true
      · have h'' : mt n tb r = some tb' := by
          have e := h'
          simp only [z, if_true] at e
          exact e
        exact mt_all hP n tb r tb' h'' h1 hr
      · have e := h'
        simp only [z, if_false] at e
        cases e
    | none =>
      rw [lk] at h'
      refine mt_all hP n _ r tb' h' (fun e he => ?_) hr
      rcases Sb.mem_put he with z | z
      · rw [z]
        exact ⟨k0 i List.mem_cons_self, p0⟩
      · exact h1 e z
  | n + 1, tb, (.f x ps, .f y ts) :: r, tb', h, h1, h2 => by
    have h' : (if T.alike x ps (.f y ts) = true then mt n tb ((ps.zip ts).reverse ++ r) else none) = some tb' := h
    by_cases z : T.alike x ps (.f y ts) = true
    · rw [if_pos z] at h'
      obtain ⟨k0, p0⟩ := h2 _ List.mem_cons_self
      refine mt_all hP n tb _ tb' h' h1 fun e he => ?_
      rcases List.mem_append.mp he with q | q
      · have q' := List.mem_reverse.mp q
        obtain ⟨q1, q2⟩ : e.1 ∈ ps ∧ e.2 ∈ ts := List.of_mem_zip q'
        refine ⟨fun j hj => k0 j ?_, hP y ts p0 _ q2⟩
        exact T.mem_varsL q1 hj
      · exact h2 e (List.mem_cons_of_mem _ q)
    · rw [if_neg z] at h'
      cases h'
  | n + 1, tb, (.f x ps, .v i) :: r, tb', h, _, _ => nomatch (show none = some tb' from h)
end Ad

/-! Chains as data of any kind: what they lead to. -/
namespace Ad
open PySem PySem.Spec PySem.Calls PyProof.Rows L2
def tyD : PyData → Value
  | .none => .type "NoneType"
  | .bool _ => .type "bool"
  | .int _ => .type "int"
  | .str _ => .type "str"
  | .list _ => .type "list"
  | .tuple _ => .type "tuple"
  | .dict _ => .type "dict"
theorem dp_ty {K : PySem.W.Frag} {H : Hp} {v : V} {d : PyData} (h : Dp K H v d) : TyX K H v (tyD d) := by
  cases h with
  | non => exact .base .non
  | bl b => exact .base (.bl b)
  | int i => exact .base (.int i)
  | str x => exact .base (.str x)
  | lst h _ => exact lsq_ty h
  | tup h _ => exact sq_ty h
def isTu : PyData → Bool
  | .tuple _ => true
  | _ => false
def isIn : PyData → Bool
  | .int _ => true
  | .bool _ => true
  | _ => false
def isBo : PyData → Bool
  | .bool _ => true
  | _ => false
theorem kit_tu {K : PySem.W.Frag} : ∀ d : PyData, PySem.W.kitOne K (tyD d) (.type "tuple") = some (isTu d)
  | .none => kit_ty (a := "NoneType") (b := "tuple") (r := false) (by decide +kernel)
  | .bool _ => kit_ty (a := "bool") (b := "tuple") (r := false) (by decide +kernel)
  | .int _ => kit_ty (a := "int") (b := "tuple") (r := false) (by decide +kernel)
  | .str _ => kit_ty (a := "str") (b := "tuple") (r := false) (by decide +kernel)
  | .list _ => kit_ty (a := "list") (b := "tuple") (r := false) (by decide +kernel)
  | .tuple _ => kit_ty (a := "tuple") (b := "tuple") (r := true) (by decide +kernel)
  | .dict _ => kit_ty (a := "dict") (b := "tuple") (r := false) (by decide +kernel)
theorem kit_in {K : PySem.W.Frag} : ∀ d : PyData, PySem.W.kitOne K (tyD d) (.type "int") = some (isIn d)
  | .none => kit_ty (a := "NoneType") (b := "int") (r := false) (by decide +kernel)
  | .bool _ => kit_ty (a := "bool") (b := "int") (r := true) (by decide +kernel)
  | .int _ => kit_ty (a := "int") (b := "int") (r := true) (by decide +kernel)
  | .str _ => kit_ty (a := "str") (b := "int") (r := false) (by decide +kernel)
  | .list _ => kit_ty (a := "list") (b := "int") (r := false) (by decide +kernel)
  | .tuple _ => kit_ty (a := "tuple") (b := "int") (r := false) (by decide +kernel)
  | .dict _ => kit_ty (a := "dict") (b := "int") (r := false) (by decide +kernel)
theorem kit_bo {K : PySem.W.Frag} : ∀ d : PyData, PySem.W.kitOne K (tyD d) (.type "bool") = some (isBo d)
  | .none => kit_ty (a := "NoneType") (b := "bool") (r := false) (by decide +kernel)
  | .bool _ => kit_ty (a := "bool") (b := "bool") (r := true) (by decide +kernel)
  | .int _ => kit_ty (a := "int") (b := "bool") (r := false) (by decide +kernel)
  | .str _ => kit_ty (a := "str") (b := "bool") (r := false) (by decide +kernel)
  | .list _ => kit_ty (a := "list") (b := "bool") (r := false) (by decide +kernel)
  | .tuple _ => kit_ty (a := "tuple") (b := "bool") (r := false) (by decide +kernel)
  | .dict _ => kit_ty (a := "dict") (b := "bool") (r := false) (by decide +kernel)
mutual
theorem dp_mono {K : PySem.W.Frag} {H H' : Hp} (k : ∀ {a : Addr} {xs : List V}, (SqL K H a xs → SqL K H' a xs) ∧ (SqT K H a xs → SqT K H' a xs)) : ∀ {d : PyData} {v : V}, Dp K H v d → Dp K H' v d
  | _, _, .non => .non
  | _, _, .bl b => .bl b
  | _, _, .int i => .int i
  | _, _, .str x => .str x
  | _, _, .lst h a => .lst (k.1 h) (dpAll_mono k a)
  | _, _, .tup h a => .tup (k.2 h) (dpAll_mono k a)
theorem dpAll_mono {K : PySem.W.Frag} {H H' : Hp} (k : ∀ {a : Addr} {xs : List V}, (SqL K H a xs → SqL K H' a xs) ∧ (SqT K H a xs → SqT K H' a xs)) : ∀ {ds : List PyData} {vs : List V}, DpAll K H vs ds → DpAll K H' vs ds
  | _, _, .nil => .nil
  | _, _, .cons h t => .cons (dp_mono k h) (dpAll_mono k t)
end
theorem dp_same {K : PySem.W.Frag} {H H' : Hp} (s : Same H H') {d : PyData} {v : V} (h : Dp K H v d) : Dp K H' v d := dp_mono (fun {_ _} => ⟨fun q => s.seq q, fun q => (TK.same s).sq q⟩) h
theorem dpAll_same {K : PySem.W.Frag} {H H' : Hp} (s : Same H H') {ds : List PyData} {vs : List V} (h : DpAll K H vs ds) : DpAll K H' vs ds := dpAll_mono (fun {_ _} => ⟨fun q => s.seq q, fun q => (TK.same s).sq q⟩) h
theorem dpAll_len {K : PySem.W.Frag} {H : Hp} : ∀ {ds : List PyData} {vs : List V}, DpAll K H vs ds → vs.length = ds.length
  | _, _, .nil => rfl
  | _, _, .cons _ t => by rw [List.length_cons, List.length_cons, dpAll_len t]
theorem dpAll_get {K : PySem.W.Frag} {H : Hp} : ∀ {ds : List PyData} {vs : List V} {i : Nat} {v : V}, DpAll K H vs ds → vs[i]? = some v → ∃ d, ds[i]? = some d ∧ Dp K H v d
  | _, _, _, _, .nil, e => by cases e
  | _, _, i, v, .cons (d := d) h t, e => by
    cases i with
    | zero =>
      cases e
      exact ⟨d, rfl, h⟩
    | succ i => exact dpAll_get (i := i) t e
theorem dpAll_get' {K : PySem.W.Frag} {H : Hp} : ∀ {ds : List PyData} {vs : List V} {i : Nat} {d : PyData}, DpAll K H vs ds → ds[i]? = some d → ∃ v, vs[i]? = some v ∧ Dp K H v d
  | _, _, _, _, .nil, e => by cases e
  | _, _, i, d, .cons (v := v) h t, e => by
    cases i with
    | zero =>
      cases e
      exact ⟨v, rfl, h⟩
    | succ i => exact dpAll_get' (i := i) t e
theorem dpAll_app {K : PySem.W.Frag} {H : Hp} : ∀ {ds es : List PyData} {vs us : List V}, DpAll K H vs ds → DpAll K H us es → DpAll K H (vs ++ us) (ds ++ es)
  | _, _, _, _, .nil, k => k
  | _, _, _, _, .cons h t, k => .cons h (dpAll_app t k)
theorem dpAll_take {K : PySem.W.Frag} {H : Hp} : ∀ {ds : List PyData} {vs : List V} (n : Nat), DpAll K H vs ds → DpAll K H (vs.take n) (ds.take n)
  | _, _, 0, _ => by rw [List.take_zero, List.take_zero]; exact .nil
  | _, _, n + 1, .nil => .nil
  | _, _, n + 1, .cons h t => .cons h (dpAll_take n t)
theorem dpAll_drop {K : PySem.W.Frag} {H : Hp} : ∀ {ds : List PyData} {vs : List V} (n : Nat), DpAll K H vs ds → DpAll K H (vs.drop n) (ds.drop n)
  | _, _, 0, h => h
  | _, _, n + 1, .nil => .nil
  | _, _, n + 1, .cons h t => dpAll_drop n t
/-- whole numbers alone -/
def wAll : List PyData → Option (List Int)
  | [] => some []
  | .int i :: r => (wAll r).map (i :: ·)
  | _ :: _ => none
theorem wAll_ints : ∀ {ds : List PyData} {p : List Int}, wAll ds = some p → ds = p.map .int
  | [], p, h => by cases h; rfl
  | .int i :: r, p, h => by
    have h' : (wAll r).map (i :: ·) = some p := h
    cases e : wAll r with
    | none => rw [e] at h'; cases h'
    | some q =>
      rw [e] at h'
      cases h'
      rw [wAll_ints e]
      rfl
  | .none :: _, _, h => by cases h
  | .bool _ :: _, _, h => by cases h
  | .str _ :: _, _, h => by cases h
  | .list _ :: _, _, h => by cases h
  | .tuple _ :: _, _, h => by cases h
  | .dict _ :: _, _, h => by cases h
theorem ints_wAll : ∀ p : List Int, wAll (p.map .int) = some p
  | [] => rfl
  | i :: p => by
    show (wAll (p.map .int)).map (i :: ·) = _
    rw [ints_wAll p]
    rfl
def subW (o : Option (List Int)) (t : T) : Option T :=
  match o with
  | some p => T.sub p t
  | none => none
/-- the part at any data -/
def partD (t : T) : PyData → Option T
  | .tuple ps => subW (wAll ps) t
  | _ => none
def pathD : PyData → List Int
  | .tuple ps => (wAll ps).getD []
  | _ => []
def stepG (l r t : T) (p : PyData) : Option T :=
  match partD t p with
  | some u => if PyData.eqv u.d l.d = true then T.put r (pathD p) t else none
  | none => none
def wayG (b : Bool) (l r : T) : T := if b = true then l else r
/-- one step of a chain -/
def stepD (eqs : List (T × T)) (t : T) : PyData → Option T
  | .tuple [p, .int n, .bool b] => if 0 ≤ n then (match eqs[n.toNat]? with
      | some e => stepG (wayG b e.1 e.2) (wayG b e.2 e.1) t p
      | none => none) else none
  | _ => none
def chainD (eqs : List (T × T)) : T → List PyData → Option T
  | t, [] => some t
  | t, d :: ds => match stepD eqs t d with
    | some t' => chainD eqs t' ds
    | none => none
def OptTm (K : PySem.W.Frag) (H : Hp) : Option T → V → Prop
  | none, v => v = .non
  | some t, v => Tm K H t v
/-- a ground term, small -/
structure Gt (m z : Nat) (t : T) : Prop where
  named : t.named = true
  vars : t.vars = []
  dep : t.dep ≤ m
  size : t.size ≤ z
theorem Gt.mono {m n y z : Nat} {t : T} (h : Gt m y t) (a : m ≤ n) (b : y ≤ z) : Gt n z t := ⟨h.named, h.vars, Nat.le_trans h.dep a, Nat.le_trans h.size b⟩
theorem Gt.shape {m z : Nat} {t : T} (h : Gt m z t) (hm : m ≤ 64) : SeqAt.shaped t.d = true := T.shaped h.named (Nat.le_trans h.dep hm)
theorem Gt.head {m z : Nat} {t : T} (h : Gt m z t) : ∃ x ts, t = .f x ts := by
  cases t with
  | v i => cases (show [i] = [] from h.vars)
  | f x ts => exact ⟨x, ts, rfl⟩
theorem varsL_mem : ∀ {ts : List T} {u : T}, T.varsL ts = [] → u ∈ ts → u.vars = []
  | t :: ts, u, h, m => by
    have h' : t.vars ++ T.varsL ts = [] := h
    obtain ⟨h1, h2⟩ := List.append_eq_nil_iff.mp h'
    rcases List.mem_cons.mp m with e | e
    · rw [e]; exact h1
    · exact varsL_mem h2 e
theorem varsL_of : ∀ {ts : List T}, (∀ u ∈ ts, u.vars = []) → T.varsL ts = []
  | [], _ => rfl
  | t :: ts, h => by
    show t.vars ++ T.varsL ts = []
    rw [h t List.mem_cons_self, varsL_of fun u m => h u (List.mem_cons_of_mem _ m)]
    rfl
theorem sub_vars : ∀ {p : List Int} {t u : T}, T.sub p t = some u → t.vars = [] → u.vars = []
  | [], t, u, h, g => by
    cases (show some t = some u from h)
    exact g
  | k :: p, t, u, h, g => by
    obtain ⟨j, x, ts, y, rfl, rfl, e1, e2⟩ := T.sub_cons h
    exact sub_vars e2 (varsL_mem (ts := ts) g (List.mem_of_getElem? e1))
theorem put_vars {new : T} (gn : new.vars = []) : ∀ {p : List Int} {t r : T}, T.put new p t = some r → t.vars = [] → r.vars = []
  | [], t, r, h, _ => by
    cases (show some new = some r from h)
    exact gn
  | k :: p, t, r, h, g => by
    obtain ⟨j, x, ts, y, z, rfl, rfl, e1, e2, rfl⟩ := T.put_cons h
    have gz := put_vars gn e2 (varsL_mem (ts := ts) g (List.mem_of_getElem? e1))
    refine varsL_of (ts := ts.set j z) fun u hu => ?_
    rcases List.mem_or_eq_of_mem_set hu with m | m
    · exact varsL_mem (ts := ts) g m
    · rw [m]; exact gz
/-- what stands at a path, what comes when something is put there -/
theorem Gt.sub {m z : Nat} {t u : T} {p : List Int} (h : Gt m z t) (e : T.sub p t = some u) : Gt m z u := by
  obtain ⟨a, b, c⟩ := T.sub_small e
  exact ⟨a h.named, sub_vars e h.vars, Nat.le_trans b h.dep, Nat.le_trans c h.size⟩
theorem Gt.put {m z n y : Nat} {t u new : T} {p : List Int} (h : Gt m z t) (e : T.sub p t = some u) (k : Gt n y new) : ∃ r, T.put new p t = some r ∧ Gt (m + n) (z + y) r := by
  obtain ⟨r, a, _, _, b, c, d⟩ := T.put_sub new e
  have h1 := h.dep
  have h2 := h.size
  have h3 := k.dep
  have h4 := k.size
  exact ⟨r, a, d h.named k.named, put_vars k.vars a h.vars, by omega, by omega⟩
/-- the sides of equations -/
def Egd (eqs : List (T × T)) : Prop := ∀ e ∈ eqs, Gt 4 40 e.1 ∧ Gt 4 40 e.2
theorem partD_some {t u : T} {d : PyData} (h : partD t d = some u) : ∃ p, d = .tuple (p.map .int) ∧ pathD d = p ∧ T.sub p t = some u := by
  cases d with
  | tuple ps =>
    have h' : subW (wAll ps) t = some u := h
    cases e : wAll ps with
    | none => rw [e] at h'; cases h'
    | some p =>
      rw [e] at h'
      refine ⟨p, by rw [wAll_ints e], ?_, h'⟩
      show (wAll ps).getD [] = p
      rw [e]
      rfl
  | _ => cases h
theorem stepG_gt {m z n y : Nat} {l r t t' : T} {p : PyData} (h : Gt m z t) (k : Gt n y r) (e : stepG l r t p = some t') : Gt (m + n) (z + y) t' := by
  unfold stepG at e
  cases q : partD t p with
  | none => rw [q] at e; cases e
  | some u =>
    rw [q] at e
    dsimp only at e
    obtain ⟨p', _, e2, e3⟩ := partD_some q
    obtain ⟨r', h1, h2⟩ := h.put e3 k
    by_cases c : PyData.eqv u.d l.d = true
    · rw [if_pos c, e2, h1] at e
      cases e
      exact h2
    · rw [if_neg c] at e
      cases e
theorem wayG_gt {m z : Nat} {b : Bool} {l r : T} (h : Gt m z l) (k : Gt m z r) : Gt m z (wayG b l r) := by
  unfold wayG
  cases b
  · exact k
  · exact h
/-- triples of a chain: what else can't be one -/
theorem stepD_other (eqs : List (T × T)) (t : T) {d : PyData} (h : ∀ p n b, d ≠ .tuple [p, .int n, .bool b]) : stepD eqs t d = none := by
  unfold stepD
  split
  · rename_i p n b
    exact absurd rfl (h p n b)
  · rfl
theorem stepD_tri (eqs : List (T × T)) (t : T) (p : PyData) {n : Int} {b : Bool} {e : T × T} (h0 : 0 ≤ n) (he : eqs[n.toNat]? = some e) : stepD eqs t (.tuple [p, .int n, .bool b]) = stepG (wayG b e.1 e.2) (wayG b e.2 e.1) t p := by
  show (if 0 ≤ n then (match eqs[n.toNat]? with | some e => stepG (wayG b e.1 e.2) (wayG b e.2 e.1) t p | none => none) else none) = _
  rw [if_pos h0, he]
theorem stepD_far (eqs : List (T × T)) (t : T) (p : PyData) {n : Int} {b : Bool} (h : ¬ (0 ≤ n ∧ n < eqs.length)) : stepD eqs t (.tuple [p, .int n, .bool b]) = none := by
  show (if 0 ≤ n then (match eqs[n.toNat]? with | some e => stepG (wayG b e.1 e.2) (wayG b e.2 e.1) t p | none => none) else none) = none
  by_cases h0 : 0 ≤ n
  · rw [if_pos h0, List.getElem?_eq_none (by omega)]
  · rw [if_neg h0]
theorem stepD_gt {m z : Nat} {eqs : List (T × T)} {t t' : T} {d : PyData} (hE : Egd eqs) (h : Gt m z t) (e : stepD eqs t d = some t') : Gt (m + 4) (z + 40) t' := by
  unfold stepD at e
  split at e
  · rename_i p n b
    by_cases h0 : 0 ≤ n
    · rw [if_pos h0] at e
      cases q : eqs[n.toNat]? with
      | none => rw [q] at e; cases e
      | some x =>
        rw [q] at e
        dsimp only at e
        obtain ⟨g1, g2⟩ := hE x (List.mem_of_getElem? q)
        exact stepG_gt h (wayG_gt g2 g1) e
    · rw [if_neg h0] at e
      cases e
  · cases e
end Ad

/-! What a reading evaluates to, as data, from any heap that keeps what was there. -/
namespace Ad
open PySem PySem.Spec PySem.Calls PyProof.Rows L2
theorem Same.refl (H : Hp) : Same H H := fun _ _ e => e
theorem Same.trans {H H1 H2 : Hp} (a : Same H H1) (b : Same H1 H2) : Same H H2 := fun q o e => b q o (a q o e)
/-- te gives the data d, and keeps what was there -/
def ED (K : PySem.W.Frag) (te : TE) (σ : L2.St) (H : Hp) (d : PyData) : Prop := ∀ H1, Same H H1 → ∀ Q : VK, (∀ v H2, Same H1 H2 → Dp K H2 v d → Q v H2) → te σ H1 Q
def EDs (K : PySem.W.Frag) (ta : TA) (σ : L2.St) (H : Hp) (ds : List PyData) : Prop := ∀ H1, Same H H1 → ∀ Q : List V → Hp → Prop, (∀ vs H2, Same H1 H2 → DpAll K H2 vs ds → Q vs H2) → ta σ H1 Q
/-- te gives a new list of the data ds -/
def EL (K : PySem.W.Frag) (te : TE) (σ : L2.St) (H : Hp) (ds : List PyData) : Prop := ∀ H1, Same H H1 → ∀ Q : VK, (∀ l xs H2, Same H1 H2 → H2 l = none → DpAll K H2 xs ds → Q (.ref l) (upd H2 l (.lst xs))) → te σ H1 Q
theorem none_before {H1 H2 : Hp} (s : Same H1 H2) {p : Addr} (n : H2 p = none) : H1 p = none := by
  cases z : H1 p with
  | none => rfl
  | some o =>
    rw [s _ _ z] at n
    cases n
theorem EL.run {K : PySem.W.Frag} {te : TE} {σ : L2.St} {H : Hp} {ds : List PyData} (h : EL K te σ H ds) (H1 : Hp) (s : Same H H1) (Q : VK) (q : ∀ l xs H2, Same H1 H2 → H1 l = none → H2 l = some (.lst xs) → DpAll K H2 xs ds → Q (.ref l) H2) : te σ H1 Q :=
  h H1 s Q fun l xs H2 s2 n hv => by
    have s3 : Same H2 (upd H2 l (.lst xs)) := same_new (fun b o e => e) n _
    exact q l xs _ (s2.trans s3) (none_before s2 n) upd_same (dpAll_same s3 hv)
section
variable {K : PySem.W.Frag} {σ : L2.St} {H : Hp}
theorem ED.later {te : TE} {d : PyData} {H' : Hp} (h : ED K te σ H d) (s : Same H H') : ED K te σ H' d := fun H1 s1 => h H1 (s.trans s1)
theorem EDs.later {ta : TA} {d : List PyData} {H' : Hp} (h : EDs K ta σ H d) (s : Same H H') : EDs K ta σ H' d := fun H1 s1 => h H1 (s.trans s1)
theorem EL.later {te : TE} {d : List PyData} {H' : Hp} (h : EL K te σ H d) (s : Same H H') : EL K te σ H' d := fun H1 s1 => h H1 (s.trans s1)
theorem ed_var {i : Nat} {v : V} {d : PyData} (e : σ[i]? = some (some v)) (h : Dp K H v d) : ED K (tVar i) σ H d := fun H1 s Q q => ⟨v, e, q v H1 (Same.refl _) (dp_same s h)⟩
theorem ed_int {i : Int} : ED K (tC (.int i)) σ H (.int i) := fun H1 s Q q => q _ H1 (Same.refl _) (.int i)
theorem ed_bl {b : Bool} : ED K (tC (.bl b)) σ H (.bool b) := fun H1 s Q q => q _ H1 (Same.refl _) (.bl b)
theorem ed_str {x : Str} : ED K (tC (.str x)) σ H (.str x) := fun H1 s Q q => q _ H1 (Same.refl _) (.str x)
theorem ed_non : ED K (tC .non) σ H .none := fun H1 s Q q => q _ H1 (Same.refl _) .non
theorem eds_nil : EDs K tNil σ H [] := fun H1 s Q q => q _ H1 (Same.refl _) .nil
theorem eds_cons {te : TE} {ta : TA} {d : PyData} {ds : List PyData} (h : ED K te σ H d) (t : EDs K ta σ H ds) : EDs K (tCons te ta) σ H (d :: ds) := fun H1 s Q q =>
  h H1 s _ fun v H2 s2 hv => t H2 (s.trans s2) _ fun vs H3 s3 hvs => q _ H3 (s2.trans s3) (.cons (dp_same s3 hv) hvs)
theorem ed_tup {ta : TA} {ds : List PyData} (h : EDs K ta σ H ds) (few : ds.length ≤ 1000) : ED K (tTup ta) σ H (.tuple ds) := fun H1 s Q q =>
  h H1 s _ fun vs H2 s2 hv => ⟨by rw [dpAll_len hv, sizeLine_eq]; omega, fun p np => by
    have s3 : Same H2 (upd H2 p (.tup vs)) := same_new (fun b o e => e) np _
    exact q _ _ (s2.trans s3) (.tup (.inl (.inl upd_same)) (dpAll_same s3 hv))⟩
theorem el_lst {ta : TA} {ds : List PyData} (h : EDs K ta σ H ds) (few : ds.length ≤ 1000) : EL K (tLst ta) σ H ds := fun H1 s Q q =>
  h H1 s _ fun vs H2 s2 hv => ⟨by rw [dpAll_len hv, sizeLine_eq]; omega, fun p np => q p vs H2 s2 np hv⟩
theorem ed_lst {ta : TA} {ds : List PyData} (h : EDs K ta σ H ds) (few : ds.length ≤ 1000) : ED K (tLst ta) σ H (.list ds) := fun H1 s Q q =>
  (el_lst h few).run H1 s Q fun l xs H2 s2 _ e hv => q _ H2 s2 (.lst (.inl (.inl e)) hv)
theorem EL.ed {te : TE} {ds : List PyData} (h : EL K te σ H ds) : ED K te σ H (.list ds) := fun H1 s Q q => h.run H1 s Q fun l xs H2 s2 _ e hv => q _ H2 s2 (.lst (.inl (.inl e)) hv)
theorem el_cat {t1 t2 : TE} {d1 d2 : List PyData} (h1 : EL K t1 σ H d1) (h2 : EL K t2 σ H d2) (few : d1.length + d2.length ≤ 1000000) : EL K (tOp rCat t1 t2) σ H (d1 ++ d2) := fun H1 s Q q =>
  h1.run H1 s _ fun l xs H2 s2 nl e hv => h2.run H2 (s.trans s2) _ fun l' xs' H3 s3 nl' e' hv' =>
    ⟨l, l', xs, xs', rfl, rfl, s3 _ _ e, e', by rw [dpAll_len hv, dpAll_len hv', sizeLine_eq]; omega, fun p np => q p _ H3 (s2.trans s3) np (dpAll_app (dpAll_same s3 hv) hv')⟩
/-- a list that stands in a slot -/
theorem el_cat_var {i : Nat} {l : Addr} {xs : List V} {t2 : TE} {d1 d2 : List PyData} (e0 : σ[i]? = some (some (.ref l))) (e : H l = some (.lst xs)) (hv : DpAll K H xs d1) (h2 : EL K t2 σ H d2) (few : d1.length + d2.length ≤ 1000000) : EL K (tOp rCat (tVar i) t2) σ H (d1 ++ d2) := fun H1 s Q q =>
  ⟨.ref l, e0, h2.run H1 s _ fun l' xs' H3 s3 nl' e' hv' =>
    ⟨l, l', xs, xs', rfl, rfl, s3 _ _ (s _ _ e), e', by rw [dpAll_len hv, dpAll_len hv', sizeLine_eq]; omega, fun p np => q p _ H3 s3 np (dpAll_app (dpAll_same (s.trans s3) hv) hv')⟩⟩
theorem ed_neg {t1 : TE} {i : Int} (h1 : ED K t1 σ H (.int i)) : ED K (tUn (rU fun i => .int (-i)) t1) σ H (.int (-i)) := fun H1 s Q q =>
  h1 H1 s _ fun v H2 s2 hv => by
    cases hv
    exact ⟨i, rfl, q _ _ s2 (.int _)⟩
end
theorem pen_lists {K : PySem.W.Frag} {H H' : Hp} {p l : Addr} {ns : List Int} {c : Nat} (P : Pn.Pen H p l ns c) (b : Pn.But p H H') {a : Addr} {xs : List V} (h : SqL K H a xs) : SqL K H' a xs := by
  obtain ⟨⟨a1, d, f, e, _⟩, _⟩ := P
  rcases h with (h | ⟨o, h⟩) | h
  · exact .inl (.inl (b _ _ (fun z => by rw [z, e] at h; cases h) h))
  · exact .inl (.inr ⟨o, b _ _ (fun z => by rw [z, e] at h; cases h) h⟩)
  · exact .inr h
theorem pen_dp {K : PySem.W.Frag} {H H' : Hp} {p l : Addr} {ns : List Int} {c : Nat} (P : Pn.Pen H p l ns c) (b : Pn.But p H H') {d : PyData} {v : V} (h : Dp K H v d) : Dp K H' v d := dp_mono (fun {_ _} => ⟨pen_lists P b, (pen_tk P b).sq⟩) h
theorem pen_dpAll {K : PySem.W.Frag} {H H' : Hp} {p l : Addr} {ns : List Int} {c : Nat} (P : Pn.Pen H p l ns c) (b : Pn.But p H H') {d : List PyData} {v : List V} (h : DpAll K H v d) : DpAll K H' v d := dpAll_mono (fun {_ _} => ⟨pen_lists P b, (pen_tk P b).sq⟩) h
theorem to_set {te : TE} {g : TG} {u : TS} {D : Ends} {σ : L2.St} {H : Hp} (h : te σ H fun v H1 => g v σ H1 fun σ2 H2 => u D σ2 H2) : tSeq (tAsg te g) u D σ H := h
end Ad

/-! The parts of data of any kind, from the left. -/
namespace Ad
open PySem PySem.Spec PySem.Calls PyProof.Rows L2
mutual
def partsD : PyData → List PyData
  | .tuple [] => [.tuple []]
  | .tuple (x :: ds) => .tuple (x :: ds) :: partsDL ds
  | .none => [.none]
  | .bool b => [.bool b]
  | .int i => [.int i]
  | .str x => [.str x]
  | .list ds => [.list ds]
  | .dict ds => [.dict ds]
def partsDL : List PyData → List PyData
  | [] => []
  | d :: ds => partsD d ++ partsDL ds
end
mutual
/-- no empty tuple among its parts -/
def tupOk : PyData → Bool
  | .tuple [] => false
  | .tuple (_ :: ds) => tupOkL ds
  | .none => true
  | .bool _ => true
  | .int _ => true
  | .str _ => true
  | .list _ => true
  | .dict _ => true
def tupOkL : List PyData → Bool
  | [] => true
  | d :: ds => tupOk d && tupOkL ds
end
theorem partsDL_app : ∀ ds es : List PyData, partsDL (ds ++ es) = partsDL ds ++ partsDL es
  | [], _ => rfl
  | d :: ds, es => by
    show partsD d ++ partsDL (ds ++ es) = partsD d ++ partsDL ds ++ partsDL es
    rw [partsDL_app, List.append_assoc]
theorem partsDL_rev_len : ∀ ds : List PyData, (partsDL ds.reverse).length = (partsDL ds).length
  | [] => rfl
  | d :: ds => by
    rw [List.reverse_cons, partsDL_app, List.length_append, partsDL_rev_len]
    show _ + (partsD d ++ []).length = (partsD d ++ partsDL ds).length
    rw [List.append_nil, List.length_append]
    omega
theorem partsD_pos : ∀ d : PyData, 1 ≤ (partsD d).length
  | .tuple [] => Nat.le_refl _
  | .tuple (x :: ds) => by
    show 1 ≤ (PyData.tuple (x :: ds) :: partsDL ds).length
    rw [List.length_cons]
    omega
  | .none => Nat.le_refl _
  | .bool _ => Nat.le_refl _
  | .int _ => Nat.le_refl _
  | .str _ => Nat.le_refl _
  | .list _ => Nat.le_refl _
  | .dict _ => Nat.le_refl _
theorem partsDL_len : ∀ ds : List PyData, ds.length ≤ (partsDL ds).length
  | [] => Nat.le_refl _
  | d :: ds => by
    have h1 := partsD_pos d
    have h2 := partsDL_len ds
    show ds.length + 1 ≤ (partsD d ++ partsDL ds).length
    rw [List.length_append]
    omega
theorem tupOkL_app : ∀ ds es : List PyData, tupOkL (ds ++ es) = (tupOkL ds && tupOkL es)
  | [], _ => rfl
  | d :: ds, es => by
    show (tupOk d && tupOkL (ds ++ es)) = (tupOk d && tupOkL ds && tupOkL es)
    rw [tupOkL_app, Bool.and_assoc]
theorem tupOkL_rev : ∀ ds : List PyData, tupOkL ds.reverse = tupOkL ds
  | [] => rfl
  | d :: ds => by
    rw [List.reverse_cons, tupOkL_app, tupOkL_rev]
    show (tupOkL ds && (tupOk d && true)) = (tupOk d && tupOkL ds)
    rw [Bool.and_true, Bool.and_comm]
theorem dpAll_last {K : PySem.W.Frag} {H : Hp} {ds : List PyData} {vs : List V} (h : DpAll K H vs ds) (n : ds ≠ []) : ∃ es d us v, ds = es ++ [d] ∧ vs = us ++ [v] ∧ DpAll K H us es ∧ Dp K H v d := by
  induction ds generalizing vs with
  | nil => exact absurd rfl n
  | cons d ds ih =>
    cases h with
    | @cons v vs _ _ hv ht =>
      cases ds with
      | nil =>
        cases ht
        exact ⟨[], d, [], v, rfl, rfl, .nil, hv⟩
      | cons e es =>
        obtain ⟨es', d', us, v', e1, e2, h1, h2⟩ := ih ht (by simp)
        exact ⟨d :: es', d', v :: us, v', by rw [e1]; rfl, by rw [e2]; rfl, .cons hv h1, h2⟩
theorem dpAll_rev {K : PySem.W.Frag} {H : Hp} : ∀ {ds : List PyData} {vs : List V}, DpAll K H vs ds → DpAll K H vs.reverse ds.reverse
  | _, _, .nil => .nil
  | _, _, .cons h t => by
    rw [List.reverse_cons, List.reverse_cons]
    exact dpAll_app (dpAll_rev t) (.cons h .nil)
end Ad

/-! A loop with a measure of one's own. -/
namespace Ad
open PySem PySem.Spec PySem.Calls PyProof.Rows L2
theorem while_g {c : TT} {tb : TS} {D : Ends} {σ : L2.St} {H : Hp} (W : Nat → L2.St → Hp → Prop) (start : ∃ m, W m σ H)
    (turn : ∀ m σ H, W m σ H → c σ H fun b G => if b = true then tb { D with nx := fun σ' H' => ∃ m', m' < m ∧ W m' σ' H', ct := fun σ' H' => ∃ m', m' < m ∧ W m' σ' H', bk := D.nx } σ G else D.nx σ G) (mono : ∀ σ H Q Q', (∀ b G, Q b G → Q' b G) → c σ H Q → c σ H Q') : tWhile c tb D σ H := by
  refine ⟨W, start, fun m σ H h => mono σ H _ _ (fun b G q => ?_) (turn m σ H h)⟩
  cases b with
  | true => exact ⟨_, fun σ' H' z => z, q⟩
  | false => exact q
/-- a if t else b, as a test -/
def tIfT (t ta tb : TT) : TT := fun σ H Q => t σ H fun c H1 => if c = true then ta σ H1 Q else tb σ H1 Q
theorem pt_ifExp {X : Cx} {c a b : Expr} {pos : Pos} {tc ta tb : TT} (hc : PT X c tc) (ha : PT X a ta) (hb : PT X b tb) : PT X (.IfExp c a b pos) (tIfT tc ta tb) := by
  refine ⟨fun pins s σ H Q I h => ?_⟩
  refine isTrue_IfExp (wpAny_mono (hc.run pins s σ H _ I h) (fun d s1 r => ?_) fun _ _ x => x)
  obtain ⟨H1, I1, q1⟩ := r
  cases d with
  | true => exact ha.run pins s1 σ H1 Q I1 q1
  | false => exact hb.run pins s1 σ H1 Q I1 q1
end Ad

/-! Sentences as data; a loop with a measure of one's own. -/
namespace Ad
open PySem PySem.Spec PySem.Calls PyProof.Rows L2
inductive Sn where
  | atm (eq : Bool) (as : List PyData)
  | qu (al : Bool) (x : Str) (s : Sn)
  | one (s : Sn)
  | two (w : Str) (a b : Sn)
namespace Sn
def word : Sn → Str
  | .atm eq _ => if eq = true then "equal" else "is"
  | .qu al _ _ => if al = true then "all" else "some"
  | .one _ => "not"
  | .two w _ _ => w
def d : Sn → PyData
  | .atm eq as => .tuple (.str (word (.atm eq as)) :: as)
  | .qu al x s => .tuple [.str (word (.qu al x s)), .str x, d s]
  | .one s => .tuple [.str "not", d s]
  | .two w a b => .tuple [.str w, d a, d b]
def ok : Sn → Bool
  | .atm _ _ => true
  | .qu _ _ s => ok s
  | .one s => ok s
  | .two w a b => decide (w ∈ (["and", "or", "then", "same"] : List Str)) && (ok a && ok b)
def size : Sn → Nat
  | .atm _ _ => 1
  | .qu _ _ s => 1 + size s
  | .one s => 1 + size s
  | .two _ a b => 1 + size a + size b
/-- the atoms from the left, each with the names that bind it -/
def atoms : List Str → Sn → List (PyData × List Str)
  | B, .atm eq as => [(d (.atm eq as), B)]
  | B, .qu _ x s => atoms (B ++ [x]) s
  | B, .one s => atoms B s
  | B, .two _ a b => atoms B a ++ atoms B b
theorem size_pos : ∀ s : Sn, 1 ≤ s.size
  | .atm _ _ => Nat.le_refl _
  | .qu _ _ s => Nat.le_add_right _ _
  | .one s => Nat.le_add_right _ _
  | .two _ a b => by
    show 1 ≤ 1 + a.size + b.size
    omega
theorem atoms_len : ∀ (s : Sn) (B : List Str), (atoms B s).length ≤ s.size
  | .atm _ _, _ => Nat.le_refl _
  | .qu _ x s, B => by
    have := atoms_len s (B ++ [x])
    show (atoms (B ++ [x]) s).length ≤ 1 + s.size
    omega
  | .one s, B => by
    have := atoms_len s B
    show (atoms B s).length ≤ 1 + s.size
    omega
  | .two _ a b, B => by
    have h1 := atoms_len a B
    have h2 := atoms_len b B
    show (atoms B a ++ atoms B b).length ≤ 1 + a.size + b.size
    rw [List.length_append]
    omega
/-- the sentences of a not, and, or, then, same -/
def subs : Sn → List Sn
  | .one s => [s]
  | .two _ a b => [a, b]
  | _ => []
def sizes : List (Sn × List Str) → Nat
  | [] => 0
  | q :: l => q.1.size + sizes l
theorem sizes_app : ∀ l m : List (Sn × List Str), sizes (l ++ m) = sizes l + sizes m
  | [], m => (Nat.zero_add _).symm
  | q :: l, m => by
    show q.1.size + sizes (l ++ m) = q.1.size + sizes l + sizes m
    rw [sizes_app]
    omega
theorem sizes_rev : ∀ l : List (Sn × List Str), sizes l.reverse = sizes l
  | [] => rfl
  | q :: l => by
    rw [List.reverse_cons, sizes_app, sizes_rev]
    show sizes l + (q.1.size + 0) = q.1.size + sizes l
    omega
theorem sizes_len : ∀ l : List (Sn × List Str), l.length ≤ sizes l
  | [] => Nat.le_refl _
  | q :: l => by
    have h1 := sizes_len l
    have h2 := q.1.size_pos
    show l.length + 1 ≤ q.1.size + sizes l
    omega
def all : List (Sn × List Str) → List (PyData × List Str)
  | [] => []
  | q :: l => atoms q.2 q.1 ++ all l
theorem all_app : ∀ l m : List (Sn × List Str), all (l ++ m) = all l ++ all m
  | [], m => rfl
  | q :: l, m => by
    show atoms q.2 q.1 ++ all (l ++ m) = atoms q.2 q.1 ++ all l ++ all m
    rw [all_app, List.append_assoc]
end Sn
/-- a pair of an atom or a sentence and the names that bind it; the data is told of H -/
def ItV (K : PySem.W.Frag) (H G : Hp) (q : PyData × List Str) (v : V) : Prop := ∃ (b : Addr) (pv : V) (c : Addr), v = .ref b ∧ SqT K G b [pv, .ref c] ∧ Dp K H pv q.1 ∧ SqT K G c (q.2.map V.str)
theorem ItV.mono {K : PySem.W.Frag} {H G G' : Hp} (k : TK G G') (q : PyData × List Str) (v : V) (h : ItV K H G q v) : ItV K H G' q v := by
  obtain ⟨b, pv, c, e, h1, h2, h3⟩ := h
  exact ⟨b, pv, c, e, k.sq h1, h2, k.sq h3⟩
theorem F2.last' {α β : Type} {R : α → β → Prop} : ∀ {xs : List α} {ys : List β}, F2 R xs ys → xs ≠ [] → ∃ xs' x ys' y, xs = xs' ++ [x] ∧ ys = ys' ++ [y] ∧ F2 R xs' ys' ∧ R x y
  | [], _, _, n => absurd rfl n
  | [x], _, ⟨y, zs, e, h, t⟩, _ => by
    cases (show zs = [] from t)
    exact ⟨[], x, [], y, rfl, e, rfl, h⟩
  | x :: x2 :: xs, _, ⟨y, zs, e, h, t⟩, _ => by
    obtain ⟨xs', x', ys', y', e1, e2, h1, h2⟩ := F2.last' t (by simp)
    exact ⟨x :: xs', x', y :: ys', y', by rw [e1]; rfl, by rw [e, e2]; rfl, ⟨y, ys', rfl, h, h1⟩, h2⟩
end Ad

/-! dict comprehensions over enumerate of a tuple; tuples set behind each other -/
namespace Ad
open PySem PySem.Spec PySem.Calls PyProof.Rows L2
theorem dc_enumT {K : PySem.W.Frag} {a : Addr} {xs : List V} {g : TG} {tt : TT} {tk tv : TE} {vs : List Nat} {σ : L2.St} {H1 : Hp} {D : Addr} {Qd : Hp → Prop} (Pv : Nat → Hp → Prop) (h0 : Pv 0 (upd H1 D (.dK []))) (hl : ∀ i H, i ≤ xs.length → Pv i H → SqT K H a xs)
    (hs : ∀ i x T H, xs[i]? = some x → Pv i H → H T = none → g (.ref T) (wipe σ vs) (upd H T (.tup [.int (i : Nat), x])) fun σ2 H2 => wipe σ2 vs = wipe σ vs ∧ tt σ2 H2 fun b H3 =>
      if b = true then tk σ2 H3 fun y H4 => tv σ2 H4 fun z H5 => ∃ kvs k, y = kV k ∧ H5 D = some (.dK kvs) ∧ kvs.length < sizeLine ∧ Pv (i + 1) (upd H5 D (.dK (putK kvs k z))) else Pv (i + 1) H3) (hd : ∀ H, Pv xs.length H → Qd H) :
    ∃ W : Nat → Nat → Hp → Prop, (∃ m, W 0 m (upd H1 D (.dK []))) ∧ ∀ i m H, W i m H →
      ((Et.IteT K a).stop i H ∧ Qd H) ∨ ((Et.IteT K a).go i H ∧ ∃ Nx : Hp → Prop, (∀ H', Nx H' → ∃ m', m' < m ∧ W (i + 1) m' H') ∧ ∀ x H', (Et.IteT K a).yld i H x H' → g x (wipe σ vs) H' fun σ2 H2 => wipe σ2 vs = wipe σ vs ∧ tt σ2 H2 fun b H3 =>
        if b = true then tk σ2 H3 fun y H4 => tv σ2 H4 fun z H5 => ∃ kvs k, y = kV k ∧ H5 D = some (.dK kvs) ∧ kvs.length < sizeLine ∧ Nx (upd H5 D (.dK (putK kvs k z))) else Nx H3) := by
  refine ⟨fun i m H => m = xs.length - i ∧ i ≤ xs.length ∧ Pv i H, ⟨xs.length, by simp, Nat.zero_le _, h0⟩, ?_⟩
  rintro i m H ⟨rfl, hi, p⟩
  have q := hl i H hi p
  by_cases hlt : i < xs.length
  · refine .inr ⟨⟨xs, xs[i], q, by simp [hlt]⟩, Pv (i + 1), fun H' p' => ⟨xs.length - (i + 1), by omega, rfl, hlt, p'⟩, fun x H' y => ?_⟩
    obtain ⟨T, x', ex, nT, eH, y⟩ := y
    subst ex
    subst eH
    exact hs i x' T H (y xs q) p nT
  · have e : i = xs.length := by omega
    subst e
    exact .inl ⟨⟨xs, q, Nat.le_refl _⟩, hd H p⟩
theorem catT {K : PySem.W.Frag} {H : Hp} {a b : Addr} {xs ys : List V} {Q : VK} (hx : SqT K H a xs) (hy : SqT K H b ys) (ne : xs ≠ []) (l : xs.length + ys.length ≤ sizeLine) (q : ∀ c G, Same H G → SqT K G c (xs ++ ys) → Q (.ref c) G) : rCatT K (.ref a) (.ref b) H Q :=
  ⟨a, b, xs, ys, rfl, rfl, hx, hy, ne, l, fun e => q a H (fun b o e => e) (by rw [e, List.append_nil]; exact hx), fun _ p np => q p _ (same_new (fun b o e => e) np _) (.inl (.inl upd_same))⟩
theorem inV_here {x : V} {xs : List V} (h : x ∈ xs) (e : eqV x x = true) : inV x xs = true := by
  unfold inV
  exact List.any_eq_true.mpr ⟨x, h, e⟩
theorem TK.ins {H : Hp} {p C dx : Addr} {fs : List (Str × V)} (h : H p = some (.ins C dx fs)) (o : HO) : TK H (upd H p o) := fun b xs => by
  have n : ∀ u, H b = some u → (∀ c d f, u ≠ .ins c d f) → b ≠ p := fun u e z w => by
    rw [w, h] at e
    exact z _ _ _ (Option.some.inj e).symm
  refine ⟨fun e => ?_, fun o e => ?_⟩
  · rw [upd_ne (n _ e (fun c d f z => nomatch z))]
    exact e
  · rw [upd_ne (n _ e (fun c d f z => nomatch z))]
    exact e
theorem take_fresh {rs : List Row} (nd : (rs.map (·.1)).Nodup) {i : Nat} {r : Row} (h : rs[i]? = some r) : r.1 ∉ (rs.take i).map (·.1) := by
  rw [← List.take_append_drop i rs, List.map_append, List.nodup_append] at nd
  refine fun z => nd.2.2 _ z r.1 ?_ rfl
  refine List.mem_map.mpr ⟨r, ?_, rfl⟩
  refine List.mem_of_getElem? (i := 0) ?_
  rw [List.getElem?_drop]
  exact h
theorem take_next {α : Type} {rs : List α} {i : Nat} {r : α} (h : rs[i]? = some r) : rs.take (i + 1) = rs.take i ++ [r] := by
  rw [List.take_add_one, h]
  rfl
end Ad

/-! The law: its parts. -/
namespace Ad
open PySem PySem.Spec PySem.Calls PyProof.Rows L2 GxR
/-- a def of the top, with its promise -/
structure Has (P : Program) (w : World) (K : PySem.W.Frag) (mg : Str → Option Value) (base : Heap) (k : Nat) (x : Str) (ps : List Str) (sp : Sp) (f : Addr) (fd : FuncData) : Prop where
  G : FnOk P w K mg base CX0 k f fd ps sp
  g : mg x = some (.ref f)
  kp : PySem.W.keepIn K (.ref f) = true
  b : Binds K fd ps []
structure HasG (P : Program) (w : World) (K : PySem.W.Frag) (mg : Str → Option Value) (base : Heap) (k : Nat) (x : Str) (ps : List Str) (sp : Sp) (f : Addr) (fd : FuncData) : Prop where
  G : FnG P w K mg base CX0 k f fd ps sp
  g : mg x = some (.ref f)
  kp : PySem.W.keepIn K (.ref f) = true
  b : Binds K fd ps []
theorem iteNE {b : Bool} {A B : Prop} (hb : b = true) (h : B) : if (!b) = true then A else B := by
  rw [hb]
  exact iteF h
theorem iteE {b : Bool} {A B : Prop} (hb : b = true) (h : A) : if b = true then A else B := by
  rw [hb]
  exact iteT h
/-! ### written substitutions -/
/-- a written pair -/
def PLit (K : PySem.W.Frag) (tp : TE) (e : Int × T) : Prop := ∀ (σ : L2.St) (H : Hp) (Q : VK), (∀ b G, Same H G → SP K G e b → Q (.ref b) G) → tp σ H Q
theorem plit_v (K : PySem.W.Frag) (i j : Int) : PLit K (tTup (tCons (tC (.int i)) (tCons (tC (.int j)) tNil))) (i, .v j) := fun σ H Q h =>
  ⟨(by show 2 ≤ sizeLine; decide), fun p np => h p _ (same_new (fun b o e => e) np _) ⟨.int j, .inl (.inl upd_same), rfl⟩⟩
theorem plit_f (K : PySem.W.Frag) (i j : Int) (x : Str) : PLit K (tTup (tCons (tC (.int i)) (tCons (tTup (tCons (tC (.str x)) (tCons (tC (.int j)) tNil))) tNil))) (i, .f x [.v j]) := fun σ H Q h =>
  ⟨(by show 2 ≤ sizeLine; decide), fun p1 n1 => ⟨(by show 2 ≤ sizeLine; decide), fun p np => h p _ (same_new (same_new (fun b o e => e) n1 _) np _)
    ⟨.ref p1, .inl (.inl upd_same), p1, [.int j], rfl, (TK.new np _).sq (.inl (.inl upd_same)), .int j, [], rfl, rfl, rfl⟩⟩⟩
theorem sulit0 (K : PySem.W.Frag) {σ : L2.St} {H : Hp} {Q : VK} (h : ∀ x G, Same H G → Su K G [] x → Q x G) : Dt.tTup0 tNil σ H Q :=
  ⟨Nat.zero_le _, fun p o np od => h (.ref p) _ (same_new (fun b o e => e) np _) ⟨p, [], rfl, ⟨o, upd_same, od⟩, rfl⟩⟩
theorem sulit1 {K : PySem.W.Frag} {σ : L2.St} {H : Hp} {Q : VK} {t1 : TE} {e1 : Int × T} (p1 : PLit K t1 e1) (h : ∀ x G, Same H G → Su K G [e1] x → Q x G) : Dt.tTup0 (tCons t1 tNil) σ H Q := by
  show t1 σ H (fun v G => [v].length ≤ sizeLine ∧ ∀ p o, G p = none → o.dict = none → Q (.ref p) (upd G p (.frz o (.tup [v]))))
  exact p1 σ H _ fun b G s sp => ⟨(by show 1 ≤ sizeLine; decide), fun p o np od => h (.ref p) _ (same_new s np _) ⟨p, [b], rfl, ⟨o, upd_same, od⟩, F2.one (SP.mono (TK.new np _) _ _ sp)⟩⟩
theorem sulit2 {K : PySem.W.Frag} {σ : L2.St} {H : Hp} {Q : VK} {t1 t2 : TE} {e1 e2 : Int × T} (p1 : PLit K t1 e1) (p2 : PLit K t2 e2) (h : ∀ x G, Same H G → Su K G [e1, e2] x → Q x G) : Dt.tTup0 (tCons t1 (tCons t2 tNil)) σ H Q := by
  show t1 σ H (fun v G => t2 σ G (fun v2 G2 => [v, v2].length ≤ sizeLine ∧ ∀ p o, G2 p = none → o.dict = none → Q (.ref p) (upd G2 p (.frz o (.tup [v, v2])))))
  exact p1 σ H _ fun b G s sp => p2 σ G _ fun b2 G2 s2 sp2 => ⟨(by show 2 ≤ sizeLine; decide), fun p o np od => h (.ref p) _ (same_new (show Same H G2 from fun b o e => s2 b o (s b o e)) np _)
    ⟨p, [b, b2], rfl, ⟨o, upd_same, od⟩, _, _, rfl, SP.mono ((TK.same s2).trans (TK.new np _)) _ _ sp, F2.one (SP.mono (TK.new np _) _ _ sp2)⟩⟩
/-! ### the law's substitutions -/
theorem dt_v {R : List Row} {j nv : Int} (h0 : 0 ≤ j) (h1 : j < nv) : DT R 2 nv (.v j) := ⟨rfl, Nat.zero_le _, one_sz _, fun i hi => by
  cases List.mem_singleton.mp hi
  exact ⟨h0, h1⟩, True.intro⟩
theorem dt_f {R : List Row} (hf : ∃ r ∈ R, r.1 = ("f" : Str) ∧ r.2.1 = 1) : DT R 2 4 (.f "f" [.v 0]) := ⟨by decide +kernel, (by show 1 + max 0 0 ≤ 3; decide), (by show 1 + (1 + 0) ≤ 13; decide), fun i hi => by
  cases List.mem_singleton.mp (show i ∈ [(0 : Int)] from hi)
  exact ⟨by decide, by decide⟩, ⟨hf, True.intro, True.intro⟩⟩
theorem dsu_a {R : List Row} : DSu R 2 4 [(0, .v 1), (1, .v 0)] := ⟨by simp, fun e he => by
  rcases List.mem_cons.mp he with z | z
  · rw [z]
    exact ⟨by decide, by decide, dt_v (by decide) (by decide)⟩
  · rw [List.mem_singleton.mp z]
    exact ⟨by decide, by decide, dt_v (by decide) (by decide)⟩⟩
theorem dsu_b {R : List Row} (hf : ∃ r ∈ R, r.1 = ("f" : Str) ∧ r.2.1 = 1) : DSu R 2 4 [(0, .v 1), (1, .f "f" [.v 0])] := ⟨by simp, fun e he => by
  rcases List.mem_cons.mp he with z | z
  · rw [z]
    exact ⟨by decide, by decide, dt_v (by decide) (by decide)⟩
  · rw [List.mem_singleton.mp z]
    exact ⟨by decide, by decide, dt_f hf⟩⟩
theorem dsu_c {R : List Row} : DSu R 2 4 [] := ⟨.nil, fun e he => nomatch he⟩
theorem dsu_one {R : List Row} {i : Int} {t : T} (h0 : 0 ≤ i) (h1 : i < 4) (h : DT R 2 4 t) : DSu R 2 4 [(i, t)] := ⟨List.pairwise_singleton _ _, fun e he => by
  rw [List.mem_singleton.mp he]
  exact ⟨h0, h1, h⟩⟩
theorem DSu.nd {R : List Row} {d : Nat} {nv : Int} {su : Sb} (h : DSu R d nv su) : (su.map (·.1)).Nodup := Sb.rising_nodup h.rising
theorem DSu.asg {R : List Row} {su : Sb} (h : DSu R 2 4 su) {j nv : Int} (h4 : 4 ≤ nv) (h0 : 0 ≤ j) (h1 : j < nv) : DT R 2 nv (su.asg j) := by
  show DT R 2 nv ((su.look j).getD (.v j))
  cases e : su.look j with
  | none => exact dt_v h0 h1
  | some t =>
    obtain ⟨_, _, d⟩ := h.each _ (Sb.look_mem e)
    exact ⟨d.named, d.dep, d.size, fun i hi => ⟨(d.vars i hi).1, by have := (d.vars i hi).2; omega⟩, d.wf⟩
theorem put_small {R : List Row} {su : Sb} (h : DSu R 2 4 su) {t : T} {nv : Int} (h4 : 4 ≤ nv) (n : t.named = true) (v : ∀ j ∈ t.vars, 0 ≤ j ∧ j < nv) :
    (T.fill su.asg t).named = true ∧ (T.fill su.asg t).dep ≤ t.dep + 3 ∧ (T.fill su.asg t).size ≤ t.size * 13 ∧ ∀ j ∈ (T.fill su.asg t).vars, 0 ≤ j ∧ j < nv := by
  have d : ∀ j ∈ t.vars, DT R 2 nv (su.asg j) := fun j hj => h.asg h4 (v j hj).1 (v j hj).2
  refine ⟨T.fill_named t n fun j hj => (d j hj).named, T.fill_dep t fun j hj => (d j hj).dep, T.fill_size (by decide) t fun j hj => (d j hj).size, fun j hj => ?_⟩
  obtain ⟨i, hi, hj'⟩ := T.fill_vars t hj
  exact (d i hi).vars j hj'
theorem beh_small {R : List Row} {one two : Sb} (d1 : DSu R 2 4 one) (d2 : DSu R 2 4 two) : ∀ e ∈ Sb.beh one two, 0 ≤ e.1 ∧ e.1 < 4 ∧ e.2.named = true ∧ e.2.dep ≤ 6 ∧ e.2.size ≤ 169 ∧ ∀ j ∈ e.2.vars, 0 ≤ j ∧ j < 4 := by
  intro e he
  have nd : ((Sb.beh one two).map (·.1)).Nodup := Sb.nodup_fold _ one two d2.nd
  have lk := (Sb.mem_look nd (i := e.1) (t := e.2)).1 he
  rw [Sb.beh_look d1.nd] at lk
  cases h : Sb.look one e.1 with
  | some t =>
    rw [h] at lk
    have e2 : T.fill two.asg t = e.2 := Option.some.inj lk
    obtain ⟨a, b, d⟩ := d1.each _ (Sb.look_mem h)
    have d' : DT R 2 4 t := d
    obtain ⟨p1, p2, p3, p4⟩ := put_small d2 (by decide) d'.named d'.vars
    have z1 := d'.dep
    have z2 : t.size ≤ 13 := d'.size
    rw [e2] at p1 p2 p3 p4
    exact ⟨a, b, p1, by omega, by omega, p4⟩
  | none =>
    rw [h] at lk
    obtain ⟨a, b, d⟩ := d2.each _ (Sb.look_mem lk)
    have z1 : e.2.dep ≤ 3 := d.dep
    have z2 : e.2.size ≤ 13 := d.size
    exact ⟨a, b, d.named, by omega, by omega, d.vars⟩
theorem beh_good {R : List Row} {one two : Sb} (d1 : DSu R 2 4 one) (d2 : DSu R 2 4 two) : Good (Sb.beh one two) := fun e he => by
  obtain ⟨_, _, h1, h2, _⟩ := beh_small d1 d2 e he
  exact ⟨h1, by omega⟩
theorem norm_text {R : List Row} {one two su : Sb} (d1 : DSu R 2 4 one) (d2 : DSu R 2 4 two) (n : (Sb.beh one two).Norm su) : (suD su).showable = true ∧ (suD su).hasDict = false ∧ (suD su).depth ≤ 60 ∧ (suD su).shown.length ≤ sizeLine := by
  have each : ∀ e ∈ su, 0 ≤ e.1 ∧ e.1 < 4 ∧ e.2.named = true ∧ e.2.dep ≤ 6 ∧ e.2.size ≤ 169 ∧ ∀ j ∈ e.2.vars, 0 ≤ j ∧ j < 4 := fun e he => beh_small d1 d2 e (Sb.look_mem ((n.has e.1 e.2).1 he).1)
  refine su_text (m := 169) (by decide) ?_ fun e he => ?_
  · have := rising_len (lo := 0) (hi := 4) n.rising (fun i hi => by
      obtain ⟨e, he, rfl⟩ := List.mem_map.mp hi
      exact ⟨(each e he).1, (each e he).2.1⟩) (by decide)
    rw [List.length_map] at this
    omega
  · obtain ⟨a, b, c, d, f, g⟩ := each e he
    exact ⟨a, by omega, c, by omega, f, fun j hj => ⟨(g j hj).1, by have := (g j hj).2; omega⟩⟩
namespace Sb
theorem ren_vars (first : Int) : ∀ (l : List Int) (tb : Sb), (∀ e ∈ tb, ∃ i, e.2 = T.v i) → ∀ e ∈ ren first tb l, ∃ i, e.2 = T.v i
  | [], tb, h => h
  | i :: l, tb, h => by
    show ∀ e ∈ ren first (if (look tb i).isSome = true then tb else put tb i (.v (first + (tb.length : Int)))) l, ∃ i, e.2 = T.v i
    refine ren_vars first l _ ?_
    split
    · exact h
    · intro e he
      rcases mem_put he with z | z
      · rw [z]
        exact ⟨_, rfl⟩
      · exact h e z
theorem ren_asg (first : Int) (l : List Int) (j : Int) : ∃ i, (ren first [] l).asg j = T.v i := by
  show ∃ i, ((ren first [] l).look j).getD (.v j) = T.v i
  cases e : (ren first [] l).look j with
  | none => exact ⟨j, rfl⟩
  | some t => exact ren_vars first l [] (fun e he => nomatch he) _ (look_mem e)
end Sb
theorem ren_shaped {t : T} (n : t.named = true) (d : t.dep ≤ 60) (first : Int) (l : List Int) : SeqAt.shaped (T.fill (Sb.ren first [] l).asg t).d = true := by
  refine T.shaped (T.fill_named t n fun j _ => ?_) ?_
  · obtain ⟨i, e⟩ := Sb.ren_asg first l j
    rw [e]
    rfl
  · have := T.fill_dep (s := (Sb.ren first [] l).asg) (D := 0) t fun j _ => by
      obtain ⟨i, e⟩ := Sb.ren_asg first l j
      rw [e]
      exact Nat.le_refl _
    omega
/-! ### what a lap knows -/
structure Wk (K : PySem.W.Frag) (Pt p l ra : Addr) (ns : List Int) (c : Nat) (R : List Row) (G : Hp) : Prop where
  pen : Pn.Pen G p l ns c
  rows : RowsAt K G ra R
  tab : TabG G Pt
section
variable {K : PySem.W.Frag} {Pt p l ra : Addr} {ns : List Int} {c c' : Nat} {R : List Row} {G G' : Hp}
theorem Wk.same (h : Wk K Pt p l ra ns c R G) (s : Same G G') : Wk K Pt p l ra ns c R G' := ⟨pen_same h.pen s, h.rows.mono (TK.same s), tab_same s h.tab⟩
theorem Wk.new (h : Wk K Pt p l ra ns c R G) {q : Addr} (n : G q = none) (o : HO) : Wk K Pt p l ra ns c R (upd G q o) := h.same (same_new (fun b o e => e) n _)
theorem tab_ne {l : Addr} {ns : List Int} {c : Nat} (P : Pn.Pen G p l ns c) (t : TabG G Pt) : Pt ≠ p ∧ Pt ≠ l := by
  obtain ⟨ps, e, _⟩ := t
  obtain ⟨⟨_, _, _, e0, _⟩, e1⟩ := P
  refine ⟨fun z => ?_, fun z => ?_⟩
  · rw [← z, e] at e0
    cases e0
  · rw [← z, e] at e1
    cases e1
theorem tab_pen {l : Addr} {ns : List Int} {c : Nat} (P : Pn.Pen G p l ns c) (t : TabG G Pt) (b : Pn.But p G G') : TabG G' Pt := by
  have n := (tab_ne P t).1
  obtain ⟨ps, e, ok⟩ := t
  exact ⟨ps, b _ _ n e, ok⟩
theorem Wk.step (h : Wk K Pt p l ra ns c R G) (P : Pn.Pen G' p l ns c') (b : Pn.But p G G') : Wk K Pt p l ra ns c' R G' := ⟨P, h.rows.mono (pen_tk h.pen b), tab_pen h.pen h.tab b⟩
theorem Wk.but (h : Wk K Pt p l ra ns c R G) (b : ∀ q o, q ≠ Pt → G q = some o → G' q = some o) (t : TabG G' Pt) : Wk K Pt p l ra ns c R G' := by
  refine ⟨?_, h.rows.mono (tab_tk h.tab b), t⟩
  obtain ⟨n1, n2⟩ := tab_ne h.pen h.tab
  obtain ⟨⟨a, d, f, e, r⟩, e1⟩ := h.pen
  exact ⟨⟨a, d, f, b _ _ n1.symm e, r⟩, b _ _ n2.symm e1⟩
end
end Ad

/-! What kind data is of. -/
namespace Ad
open PySem PySem.Spec PySem.Calls PyProof.Rows L2
def isTL : PyData → Bool
  | .list _ => true
  | .tuple _ => true
  | _ => false
def isSt : PyData → Bool
  | .str _ => true
  | _ => false
theorem kit_st {K : PySem.W.Frag} : ∀ d : PyData, PySem.W.kitOne K (tyD d) (.type "str") = some (isSt d)
  | .none => kit_ty (a := "NoneType") (b := "str") (r := false) (by decide +kernel)
  | .bool _ => kit_ty (a := "bool") (b := "str") (r := false) (by decide +kernel)
  | .int _ => kit_ty (a := "int") (b := "str") (r := false) (by decide +kernel)
  | .str _ => kit_ty (a := "str") (b := "str") (r := true) (by decide +kernel)
  | .list _ => kit_ty (a := "list") (b := "str") (r := false) (by decide +kernel)
  | .tuple _ => kit_ty (a := "tuple") (b := "str") (r := false) (by decide +kernel)
  | .dict _ => kit_ty (a := "dict") (b := "str") (r := false) (by decide +kernel)
theorem kit_no {K : PySem.W.Frag} (a : String) (h1 : kitB a "list" = some false) (h2 : kitB a "tuple" = some false) : PySem.W.kitAny K (.type a) [.type "list", .type "tuple"] = some false :=
  kitAny_cons (b := false) (kit_ty (a := a) (b := "list") (r := false) h1) (fun _ => kitAny_cons (b := false) (kit_ty (a := a) (b := "tuple") (r := false) h2) (fun _ => rfl) (fun z => nomatch z)) (fun z => nomatch z)
theorem kit_tl {K : PySem.W.Frag} : ∀ d : PyData, PySem.W.kitAny K (tyD d) [.type "list", .type "tuple"] = some (isTL d)
  | .none => kit_no "NoneType" (by decide +kernel) (by decide +kernel)
  | .bool _ => kit_no "bool" (by decide +kernel) (by decide +kernel)
  | .int _ => kit_no "int" (by decide +kernel) (by decide +kernel)
  | .str _ => kit_no "str" (by decide +kernel) (by decide +kernel)
  | .list _ => kitLL
  | .tuple _ => kitTL
  | .dict _ => kit_no "dict" (by decide +kernel) (by decide +kernel)
end Ad

/-! Names within terms, where they stand: name, how many arguments, whether a truth's. -/
namespace Ad
open PySem PySem.Spec PySem.Calls PyProof.Rows L2
def nameD : PyData → Str
  | .str x => x
  | _ => ""
mutual
/-- a term of names, great names alone among them -/
def wfT : PyData → Bool
  | .str _ => true
  | .tuple [] => false
  | .tuple (x :: ds) => isSt x && wfTL ds
  | .none => false
  | .bool _ => false
  | .int _ => false
  | .list _ => false
  | .dict _ => false
def wfTL : List PyData → Bool
  | [] => true
  | d :: ds => wfT d && wfTL ds
end
mutual
def occ : Bool → PyData → List (Str × Nat × Bool)
  | _, .tuple [] => []
  | b, .tuple (x :: ds) => (nameD x, ds.length, b) :: occL ds
  | _, .str _ => []
  | _, .none => []
  | _, .bool _ => []
  | _, .int _ => []
  | _, .list _ => []
  | _, .dict _ => []
def occL : List PyData → List (Str × Nat × Bool)
  | [] => []
  | d :: ds => occ false d ++ occL ds
end
theorem occL_app : ∀ ds es : List PyData, occL (ds ++ es) = occL ds ++ occL es
  | [], _ => rfl
  | d :: ds, es => by
    show occ false d ++ occL (ds ++ es) = occ false d ++ occL ds ++ occL es
    rw [occL_app, List.append_assoc]
mutual
theorem occ_len : ∀ (b : Bool) (d : PyData), (occ b d).length ≤ (partsD d).length
  | _, .tuple [] => Nat.zero_le _
  | b, .tuple (x :: ds) => by
    have h := occL_len ds
    show ((nameD x, ds.length, b) :: occL ds).length ≤ (PyData.tuple (x :: ds) :: partsDL ds).length
    rw [List.length_cons, List.length_cons]
    omega
  | _, .str _ => Nat.zero_le _
  | _, .none => Nat.zero_le _
  | _, .bool _ => Nat.zero_le _
  | _, .int _ => Nat.zero_le _
  | _, .list _ => Nat.zero_le _
  | _, .dict _ => Nat.zero_le _
theorem occL_len : ∀ ds : List PyData, (occL ds).length ≤ (partsDL ds).length
  | [] => Nat.le_refl _
  | d :: ds => by
    have h1 := occ_len false d
    have h2 := occL_len ds
    show (occ false d ++ occL ds).length ≤ (partsD d ++ partsDL ds).length
    rw [List.length_append, List.length_append]
    omega
end
mutual
theorem wfT_ok : ∀ d : PyData, wfT d = true → tupOk d = true
  | .tuple [], h => by cases h
  | .tuple (x :: ds), h => wfTL_ok ds (Bool.and_eq_true_iff.mp h).2
  | .str _, _ => rfl
  | .none, h => by cases h
  | .bool _, h => by cases h
  | .int _, h => by cases h
  | .list _, h => by cases h
  | .dict _, h => by cases h
theorem wfTL_ok : ∀ ds : List PyData, wfTL ds = true → tupOkL ds = true
  | [], _ => rfl
  | d :: ds, h => by
    obtain ⟨h1, h2⟩ := Bool.and_eq_true_iff.mp h
    show (tupOk d && tupOkL ds) = true
    rw [wfT_ok d h1, wfTL_ok ds h2]
    rfl
end
theorem wfTL_mem {d : PyData} : ∀ {ds : List PyData} {i : Nat}, wfTL ds = true → ds[i]? = some d → wfT d = true ∧ (partsD d).length ≤ (partsDL ds).length
  | [], i, _, h => by cases h
  | e :: l, i, o, h => by
    obtain ⟨o1, o2⟩ := Bool.and_eq_true_iff.mp o
    have ln : (partsDL (e :: l)).length = (partsD e).length + (partsDL l).length := by
      show (partsD e ++ partsDL l).length = _
      rw [List.length_append]
    cases i with
    | zero =>
      cases h
      exact ⟨o1, by omega⟩
    | succ i =>
      obtain ⟨h1, h2⟩ := wfTL_mem (i := i) o2 h
      exact ⟨h1, by omega⟩
theorem parts_take {ds : List PyData} (i : Nat) : (partsDL (ds.take i)).length ≤ (partsDL ds).length := by
  have e : partsDL ds = partsDL (ds.take i) ++ partsDL (ds.drop i) := by rw [← partsDL_app, List.take_append_drop]
  rw [e, List.length_append]
  omega
/-- such a place as the law tells it -/
def OcV (K : PySem.W.Frag) (G : Hp) (q : Str × Nat × Bool) (v : V) : Prop := ∃ a, v = .ref a ∧ SqT K G a [.str q.1, .int (q.2.1 : Int), .bl q.2.2]
theorem OcV.mono {K : PySem.W.Frag} {G G' : Hp} (k : TK G G') (q : Str × Nat × Bool) (v : V) (h : OcV K G q v) : OcV K G' q v := by
  obtain ⟨a, e, s⟩ := h
  exact ⟨a, e, k.sq s⟩
end Ad

/-! Drawn terms with great names. -/
namespace Ad
open PySem PySem.Spec PySem.Calls PyProof.Rows L2
/-! terms of the rows' names with as many arguments as these have, of known great names -/
mutual
def TOk (R : List Row) (kn : List Str) : PyData → Prop
  | .str x => x ∈ kn
  | .tuple [] => False
  | .tuple (x :: ds) => (∃ r ∈ R, x = .str r.1 ∧ r.2.1 = ds.length) ∧ TOkL R kn ds
  | .none => False
  | .bool _ => False
  | .int _ => False
  | .list _ => False
  | .dict _ => False
def TOkL (R : List Row) (kn : List Str) : List PyData → Prop
  | [] => True
  | d :: ds => TOk R kn d ∧ TOkL R kn ds
end
theorem TOkL_of {R : List Row} {kn : List Str} : ∀ {ds : List PyData}, (∀ d ∈ ds, TOk R kn d) → TOkL R kn ds
  | [], _ => True.intro
  | d :: ds, h => ⟨h d List.mem_cons_self, TOkL_of fun e he => h e (List.mem_cons_of_mem _ he)⟩
/-- what is drawn: a term of the rows' names -/
structure DSp (R : List Row) (kn : List Str) (deep : Nat) (d : PyData) : Prop where
  wf : wfT d = true
  size : (partsD d).length ≤ sz deep
  names : ∀ b q, q ∈ occ b d → q.1 ∈ R.map (·.1)
  tok : TOk R kn d
mutual
theorem wf_tk {K : PySem.W.Frag} {H H' : Hp} (k : TK H H') : ∀ (d : PyData) (v : V), wfT d = true → Dp K H v d → Dp K H' v d
  | .str x, _, _, h => by
    cases h
    exact .str x
  | .tuple [], _, w, _ => by cases w
  | .tuple (x :: ds), _, w, h => by
    obtain ⟨w1, w2⟩ := Bool.and_eq_true_iff.mp (show (isSt x && wfTL ds) = true from w)
    cases h with
    | @tup a zs _ sq all =>
    cases all with
    | @cons v vs _ _ hv all =>
    cases x with
    | str y =>
      cases hv
      exact .tup (k.sq sq) (.cons (.str y) (wf_tkL k ds vs w2 all))
    | _ => cases w1
  | .none, _, w, _ => by cases w
  | .bool _, _, w, _ => by cases w
  | .int _, _, w, _ => by cases w
  | .list _, _, w, _ => by cases w
  | .dict _, _, w, _ => by cases w
theorem wf_tkL {K : PySem.W.Frag} {H H' : Hp} (k : TK H H') : ∀ (ds : List PyData) (vs : List V), wfTL ds = true → DpAll K H vs ds → DpAll K H' vs ds
  | [], _, _, h => by
    cases h
    exact .nil
  | d :: ds, _, w, h => by
    obtain ⟨w1, w2⟩ := Bool.and_eq_true_iff.mp (show (wfT d && wfTL ds) = true from w)
    cases h with
    | @cons v vs _ _ hv all => exact .cons (wf_tk k d v w1 hv) (wf_tkL k ds vs w2 all)
end
theorem wfTL_of : ∀ {ds : List PyData}, (∀ d ∈ ds, wfT d = true) → wfTL ds = true
  | [], _ => rfl
  | d :: ds, h => by
    show (wfT d && wfTL ds) = true
    rw [h d List.mem_cons_self, wfTL_of fun e he => h e (List.mem_cons_of_mem _ he)]
    rfl
theorem strs_dp {K : PySem.W.Frag} {H : Hp} : ∀ kn : List Str, DpAll K H (kn.map V.str) (kn.map .str)
  | [] => .nil
  | x :: kn => .cons (.str x) (strs_dp kn)
theorem strs_nil (kn : List Str) : PyData.eqv (.list (kn.map .str)) (.list []) = kn.isEmpty := by
  cases kn <;> rfl
def spDrawnSp (K : PySem.W.Frag) (n : Nat) : Sp := fun vs H Q _ => ∃ (p l ra kl : Addr) (ns : List Int) (c deep : Nat) (kn : List Str) (R : List Row), vs = [.ref p, .ref ra, .int (deep : Int), .ref kl] ∧ Pn.Pen H p l ns c ∧ ns.length ≤ 1000 ∧ c + dn deep ≤ 1000000000 ∧ RowsAt K H ra R ∧ ROk R ∧
  deep < n ∧ SqL K H kl (kn.map V.str) ∧ SeqAt.shaped (.list (kn.map .str)) = true ∧ kn.length ≤ 100 ∧ kl ≠ p ∧ ∀ d v H' c', Dp K H' v d → DSp R kn deep d → c' ≤ c + dn deep → Pn.Pen H' p l ns c' → Pn.But p H H' → Q v H'
abbrev sDrawnSp : Stmt := topS 22
theorem scDrawnSp : FnScope ["_law_pen_here", "_law_rows", "_law_deep", "_law_known", "_law_some", "_law_name", "_law_arity", "_law_weight", "_law_row", "_law_k"] ["_law_pen_here", "_law_rows", "_law_deep", "_law_known"] (defScope sDrawnSp) := ⟨rfl, rfl, rfl, by decide +kernel, rfl, by decide +kernel, by decide +kernel⟩
section
variable {P : Program} {w : World} {K : PySem.W.Frag} {mg : Str → Option Value} {base : Heap}
theorem ok_drawnsp {f fD fP : Addr} {fd fdD fdP : FuncData} {k : Nat} (F : Fun K "_law_drawn_spoken" "_law_drawn_spoken" sDrawnSp f fd) (gF : mg "_law_drawn_spoken" = some (.ref f)) (bF : Binds K fd ["_law_pen_here", "_law_rows", "_law_deep", "_law_known"] [])
    (GD : FnOk P w K mg base CX0 k fD fdD ["_law_pen_here", "_law_many_here"] Pn.spDraw) (gD : mg "_law_draw" = some (.ref fD)) (kD : PySem.W.keepIn K (.ref fD) = true) (bD : Binds K fdD ["_law_pen_here", "_law_many_here"] [])
    (GP : FnOk P w K mg base CX0 k fP fdP ["_law_pen_here", "_law_some"] (Pn.spPick K)) (gP : mg "_law_pick" = some (.ref fP)) (kP : PySem.W.keepIn K (.ref fP) = true) (bP : Binds K fdP ["_law_pen_here", "_law_some"] []) (mt : mg "tuple" = none) (mr : mg "range" = none) :
    ∀ n, FnOk P w K mg base CX0 (k + n) f fd ["_law_pen_here", "_law_rows", "_law_deep", "_law_known"] (spDrawnSp K n)
  | 0 => vac fun vs H Q E ⟨p, l, ra, kl, ns, c, deep, kn, R, _, _, _, _, _, _, z, _⟩ => absurd z (Nat.not_lt_zero _)
  | n + 1 => by
    have IH := ok_drawnsp F gF bF GD gD kD bD GP gP kP bP mt mr n
    refine F.ok scDrawnSp (fun vs H Q E h => ?_) (fun cdv A outer s H vs Q E hr h => ?_)
    · obtain ⟨p, l, ra, kl, ns, c, deep, kn, R, rfl, _⟩ := h
      rfl
    · obtain ⟨p, l, ra, kl, ns, c, deep, kn, R, rfl, hP, hlen, hc, hR, ok, hd, hK, shK, fewK, klp, q⟩ := h
      have hr0 := hr.mono (Nat.le_add_right k n)
      refine ⟨_, C8.pss_cut (ps_if (pw_and (pt_cmpR (op_neD (hu64 hr)) (pv 3) (pe_lst pa_nil) (nomark _)) (pw_and1 (pt_cmpR op_eq (pe_call GD hr0 (by rfl) gD kD bD .nil pass0 (pa_cons (pv 0) (pa_cons pe_int pa_nil))) pe_int (nomark _)))).pt
          (pss_one (ps_ret (pe_call GP hr0 (by rfl) gP kP bP .nil pass0 (pa_cons (pv 0) (pa_cons (pv 3) pa_nil))))) pss_nil)
        (pss_cons (ps_setLc (i := 4) (own := [("_law_row", 8)]) (g := gName 8) (tt := tOr (tTest (tOp (rI0 fun i j => .bl (decide (j < i))) (tVar 2) (tC (.int 0)))) (tTest (tOp rEq (tOp (rIxT K) (tVar 8) (tC (.int 1))) (tC (.int 0))))) (te := tVar 8) rfl scDrawnSp.nd rfl rfl (sw_true rfl rfl rfl (by decide +kernel))
            (pi_tup (pe_ix ix_tup (pv 1) pe_int (fun _ _ => rfl)))
            (blkOk_by (N := ["_law_pen_here", "_law_rows", "_law_deep", "_law_known", "_law_some", "_law_name", "_law_arity", "_law_weight", "_law_row", "_law_k"]) (sc := defScope sDrawnSp) (by decide +kernel))
            (fun _ _ _ _ _ => pg_name (i := 8) scDrawnSp.nd rfl (.inl rfl))
            (fun _ _ _ _ _ => pts_one (pw_or (pt_cmpR op_gt (pv 2) pe_int (nomark _)) (pw_or1 (pt_cmpR op_eq (pe_ix (r := rIxT K) ix_tup (pv 8) pe_int (fun _ _ => rfl)) pe_int (nomark _)))).pt)
            (fun _ _ _ _ _ => pv 8))
        (pss_cons (ps_asg (pe_call GP hr0 (by rfl) gP kP bP .nil pass0 (pa_cons (pv 0) (pa_cons (pv 4) pa_nil))) (pg_tup rfl (pgs_cons (pg_name (i := 5) scDrawnSp.nd rfl (.inl rfl)) (pgs_cons (pg_name (i := 6) scDrawnSp.nd rfl (.inl rfl)) (pgs_cons (pg_name (i := 7) scDrawnSp.nd rfl (.inl rfl)) pgs_nil)))))
        (pss_one (ps_ret (pe_op op_catT (pe_tup (pa_cons (pv 5) pa_nil)) (pe_callTy call_tuple_of (by rfl) mt (by decide +kernel) (pa_cons
          (pe_lc (own := [("_law_k", 9)]) (g := gName 9) (tt := tYes) rfl scDrawnSp.nd (pi_range1 (by rfl) mr (pa_cons (pv 6) pa_nil))
            (blkOk_by (N := ["_law_pen_here", "_law_rows", "_law_deep", "_law_known", "_law_some", "_law_name", "_law_arity", "_law_weight", "_law_row", "_law_k"]) (sc := defScope sDrawnSp) (by decide +kernel))
            (fun _ _ _ _ _ => pg_name (i := 9) scDrawnSp.nd rfl (.inl rfl)) (fun _ _ _ _ _ => pts_nil)
            (fun _ _ _ _ _ => pe_call IH hr (by rfl) gF F.kp bF .nil pass0 (pa_cons (pv 0) (pa_cons (pv 1) (pa_cons (pe_op op_sub (pv 2) pe_int) (pa_cons (pv 3) pa_nil)))))) pa_nil))))))), ?_⟩
      refine ⟨fun σ G => ∃ c1, σ = [some (.ref p), some (.ref ra), some (.int (deep : Int)), some (.ref kl), none, none, none, none, none, none] ∧ c1 ≤ c + 1 ∧ Pn.Pen G p l ns c1 ∧ Pn.But p H G, ?_, ?_⟩
      · have d2 := two_dn deep
        refine ⟨.ref kl, rfl, Nat.zero_le _, fun l0 n0 => ?_⟩
        have s0 : Same H (upd H l0 (.lst [])) := same_new (fun b o e => e) n0 _
        have e0 : (upd H l0 (.lst [])) l0 = some (.lst []) := upd_same
        generalize upd H l0 (.lst []) = H0 at s0 e0
        have P0 := pen_same hP s0
        have b0 : Pn.But p H H0 := Pn.But.of s0
        refine ⟨.list (kn.map .str), .list [], .lst (s0.seq hK) (strs_dp kn), .lst (.inl (.inl e0)) .nil, shK, by decide +kernel, _, rfl, ?_⟩
        rw [strs_nil]
        cases hE : kn.isEmpty with
        | true => exact iteF ⟨c, rfl, Nat.le_succ _, P0, b0⟩
        | false =>
          refine iteT ?_
          refine ⟨.ref p, rfl, p, l, ns, c, 2, rfl, P0, hlen, by omega, by decide, by decide, fun r G r0 r1 P1 b1 => ⟨rfl, _, rfl, ?_⟩⟩
          refine ite2 (fun _ => ?_) (fun _ => ⟨c + 1, rfl, Nat.le_refl _, P1, b0.trans b1⟩)
          refine ⟨.ref p, rfl, .ref kl, rfl, p, l, kl, ns, c + 1, kn.map V.str, rfl, P1, hlen, by omega, .inl (Pn.But.sq (b0.trans b1) klp hK), (fun z => ?_), by rw [List.length_map]; omega, klp, fun x G' hx P2 b2 => ?_⟩
          · rw [List.map_eq_nil_iff] at z
            rw [z] at hE
            cases hE
          · obtain ⟨y, hy, rfl⟩ := List.mem_map.mp hx
            refine q (.str y) _ G' (c + 1 + 1) (.str y) ⟨rfl, one_sz _, fun b z hz => (nomatch hz), hy⟩ (by omega) P2 ((b0.trans b1).trans b2)
      · rintro σ G ⟨c1, rfl, hc1, P1, b1⟩
        have hR1 := hR.mono (pen_tk hP b1)
        obtain ⟨rb, ry, rs, q1, q2, rows⟩ := hR1
        refine ⟨.ref ra, rfl, ra, _, 0, .ref rb, rfl, rfl, q1, atI_nat (j := 0) rfl, rb, rfl, ⟨rs, q2⟩, fun D nD => ?_⟩
        have lrs := rows.len
        obtain ⟨jc, rc, hjc, rc0⟩ := ok.const
        refine lc_tup (K := K) (a := rb) (xs := rs) (fun i G2 => ∃ acc, Same G G2 ∧ G2 D = some (.lst acc) ∧ (∀ v ∈ acc, ∃ r ∈ R, RowV K G r v ∧ (0 < deep ∨ r.2.1 = 0)) ∧ acc.length ≤ i ∧ (jc < i → acc ≠ [])) ⟨[], same_new (fun b o e => e) nD _, upd_same, (fun v hv => nomatch hv), Nat.le_refl _, fun z => absurd z (Nat.not_lt_zero _)⟩
          (fun i G2 _ ⟨acc, sm, _⟩ => (TK.same sm).sq q2) ?_ ?_
        · rintro i y G2 hy ⟨acc, sm, gD, mem, few, full⟩
          obtain ⟨r, hri, hrv⟩ := rows.get hy
          have hmem := List.mem_of_getElem? hri
          have hilt := (List.getElem?_eq_some_iff.mp hri).1
          have hfew := ok.few
          have yes : (0 < deep ∨ r.2.1 = 0) → ∃ acc', G2 D = some (.lst acc') ∧ acc'.length < sizeLine ∧ ∃ acc2, Same G (upd G2 D (.lst (acc' ++ [y]))) ∧ (upd G2 D (.lst (acc' ++ [y]))) D = some (.lst acc2) ∧ (∀ v ∈ acc2, ∃ r ∈ R, RowV K G r v ∧ (0 < deep ∨ r.2.1 = 0)) ∧ acc2.length ≤ i + 1 ∧ (jc < i + 1 → acc2 ≠ []) := by
            intro fit
            refine ⟨acc, gD, by rw [sizeLine_eq]; omega, _, same_on sm nD _, upd_same, fun v hv => ?_, ?_, fun _ => by simp⟩
            · rcases List.mem_append.mp hv with z | z
              · exact mem v z
              · cases List.mem_singleton.mp z
                exact ⟨r, hmem, hrv, fit⟩
            · rw [List.length_append, List.length_singleton]
              omega
          refine ⟨rfl, .int (deep : Int), rfl, _, _, rfl, rfl, _, rfl, ?_⟩
          refine ite2 (fun hpos => ?_) (fun hneg => ?_)
          · have hpos' : (0 : Int) < (deep : Int) := of_decide_eq_true hpos
            refine iteT ?_
            exact ⟨y, rfl, yes (.inl (by omega))⟩
          · obtain ⟨b, rfl, sqb⟩ := hrv
            refine ⟨.ref b, rfl, b, _, 1, .int (r.2.1 : Int), rfl, rfl, (TK.same sm).sq sqb, atI_nat (j := 1) rfl, rfl, _, rfl, ?_⟩
            by_cases z : r.2.1 = 0
            · have e : decide (V.int (r.2.1 : Int) = V.int 0) = true := by rw [z]; rfl
              rw [e]
              refine iteT ?_
              exact ⟨.ref b, rfl, yes (.inr z)⟩
            · have e : decide (V.int (r.2.1 : Int) = V.int 0) = false := by
                refine decide_eq_false fun w => z ?_
                have := V.int.inj w
                omega
              rw [e]
              refine iteF ?_
              refine ⟨acc, sm, gD, mem, Nat.le_succ_of_le few, fun lt => ?_⟩
              rcases Nat.lt_succ_iff_lt_or_eq.mp lt with w | w
              · exact full w
              · rw [← w, hjc] at hri
                cases hri
                exact absurd rc0 z
        · rintro G2 ⟨acc, sm, gD, mem, few, full⟩
          have hne : acc ≠ [] := full (by
            rw [lrs]
            exact (List.getElem?_eq_some_iff.mp hjc).1)
          have P2 := pen_same P1 sm
          have pD : D ≠ p := fun z => by
            obtain ⟨⟨_, _, _, e, _⟩, _⟩ := P1
            rw [z, e] at nD
            cases nD
          have d2 := two_dn deep
          have hfew := ok.few
          refine ⟨.ref p, rfl, .ref D, rfl, p, l, D, ns, c1, acc, rfl, P2, hlen, by omega, .inl (.inl (.inl gD)), hne, by omega, pD, fun x G3 hx P3 b3 => ?_⟩
          obtain ⟨r, hrR, ⟨b, rfl, sqb⟩, fit⟩ := mem x hx
          have k3 : TK G G3 := (TK.same sm).trans (pen_tk P2 b3)
          have hR3 := hR.mono ((pen_tk hP b1).trans k3)
          have b13 : Pn.But p H G3 := (b1.trans (Pn.But.of sm)).trans b3
          refine ⟨b, _, rfl, k3.sq sqb, rfl, .str r.1, _, rfl, .int (r.2.1 : Int), _, rfl, .int r.2.2, _, rfl, rfl, ?_⟩
          obtain ⟨strOk, ar3⟩ := ok.names r hrR
          refine ⟨.str r.1, rfl, (by show 1 ≤ sizeLine; decide), fun p4 n4 => ?_⟩
          have m4 : (upd G3 p4 (.tup [.str r.1])) p4 = some (.tup [.str r.1]) := upd_same
          have s4 : Same G3 (upd G3 p4 (.tup [.str r.1])) := same_new (fun b o e => e) n4 _
          have P4 := pen_same P3 s4
          have R4 := hR3.mono (TK.same s4)
          have b14 := b13.trans (Pn.But.of s4)
          generalize upd G3 p4 (.tup [.str r.1]) = G4 at m4 s4 P4 R4 b14
          refine ⟨.int (r.2.1 : Int), rfl, _, rfl, by omega, by omega, fun D2 nD2 => ?_⟩
          have pD2 : D2 ≠ p := fun z => by
            obtain ⟨⟨_, _, _, e, _⟩, _⟩ := P4
            rw [z, e] at nD2
            cases nD2
          have P4' := pen_same P4 (same_new (fun b o e => e) nD2 (.lst []))
          refine lc_range (lo := 0) (n := ((r.2.1 : Int)).toNat) (fun i G5 => ∃ (ts : List PyData) (acc : List V) (c5 : Nat), Pn.But p G4 G5 ∧ G5 D2 = some (.lst acc) ∧ DpAll K G5 acc ts ∧ ts.length = i ∧ Pn.Pen G5 p l ns c5 ∧ c5 ≤ c1 + 1 + i * dn (deep - 1) ∧
            (∀ t ∈ ts, DSp R kn (deep - 1) t)) ⟨[], [], c1 + 1, Pn.But.of (same_new (fun b o e => e) nD2 _), upd_same, .nil, rfl, P4', by omega, fun t ht => nomatch ht⟩ ?_ ?_
          · rintro i G5 hi ⟨ts, acc, c5, b5, gD, all, len, P5, hc5, dts⟩
            have hi' : i < r.2.1 := by omega
            have dpos : 0 < deep := by
              rcases fit with z | z
              · exact z
              · omega
            obtain ⟨d', rfl⟩ : ∃ d', deep = d' + 1 := ⟨deep - 1, by omega⟩
            have ed : d' + 1 - 1 = d' := Nat.add_sub_cancel ..
            rw [ed] at hc5 dts
            have hm : i * dn d' ≤ 2 * dn d' := Nat.mul_le_mul_right _ (by omega)
            have dd : dn (d' + 1) = 2 + 3 * dn d' := rfl
            have ez : (((d' + 1 : Nat)) : Int) - 1 = (d' : Int) := by omega
            have b45 := b14.trans b5
            refine ⟨rfl, .ref p, rfl, .ref ra, rfl, .int ((d' + 1 : Nat) : Int), rfl, _, _, rfl, rfl, .ref kl, rfl, p, l, ra, kl, ns, c5, d', kn, R, ?_, P5, hlen, by omega, hR.mono (pen_tk hP b45), ok, by omega, Pn.But.sq b45 klp hK, shK, fewK, klp, fun t v G6 c6 tv dt hc6 P6 b6 => ?_⟩
            · show [V.ref p, V.ref ra, V.int (((d' + 1 : Nat) : Int) - 1), V.ref kl] = _
              rw [ez]
            · have g6 : G6 D2 = some (.lst acc) := b6 _ _ pD2 gD
              have k6 : TK G5 G6 := pen_tk P5 b6
              have kk : TK G6 (upd G6 D2 (.lst (acc ++ [v]))) := TK.lst g6 _
              have la := dpAll_len all
              have wfs : wfTL ts = true := wfTL_of fun t ht => (dts t ht).wf
              refine ⟨acc, g6, by rw [sizeLine_eq]; omega, ts ++ [t], acc ++ [v], c6, ?_, upd_same, dpAll_app (wf_tkL (k6.trans kk) _ _ wfs all) (.cons (wf_tk kk _ _ dt.wf tv) .nil), by rw [List.length_append, List.length_singleton, len], ?_, ?_, ?_⟩
              · intro b o nb e
                have e2 := b6 _ _ nb (b5 _ _ nb e)
                have nbD : b ≠ D2 := fun z => by rw [z, nD2] at e; cases e
                rw [upd_ne nbD]
                exact e2
              · obtain ⟨⟨a1, a2, a3, a4, a5⟩, a6⟩ := P6
                have lD : l ≠ D2 := fun z => by
                  have e := P4.ls
                  rw [z, nD2] at e
                  cases e
                exact ⟨⟨a1, a2, a3, by rw [upd_ne pD2.symm]; exact a4, a5⟩, by rw [upd_ne lD]; exact a6⟩
              · rw [ed, Nat.succ_mul]
                omega
              · intro t' ht'
                rw [ed]
                rcases List.mem_append.mp ht' with z | z
                · exact dts t' z
                · rw [List.mem_singleton.mp z]
                  exact dt
          · rintro G5 ⟨ts, acc, c5, b5, gD, all, len, P5, hc5, dts⟩
            have b45 := b14.trans b5
            have la := dpAll_len all
            have ar : ts.length = r.2.1 := by omega
            have n4p : p4 ≠ p := fun z => by
              obtain ⟨⟨_, _, _, e, _⟩, _⟩ := P3
              rw [z, e] at n4
              cases n4
            have m4' : G5 p4 = some (.tup [.str r.1]) := b5 _ _ n4p m4
            refine ⟨D2, acc, rfl, .inl ⟨.inl (.inl gD), fun p6 n6 => ?_⟩⟩
            have s6 : Same G5 (upd G5 p6 (.tup acc)) := same_new (fun b o e => e) n6 _
            have m6 : (upd G5 p6 (.tup acc)) p6 = some (.tup acc) := upd_same
            have P6 := pen_same P5 s6
            have b16 := b45.trans (Pn.But.of s6)
            have all6 := dpAll_same s6 all
            have m4'' := s6 _ _ m4'
            generalize upd G5 p6 (.tup acc) = G6 at s6 m6 P6 b16 all6 m4''
            have dt : DSp R kn deep (.tuple (.str r.1 :: ts)) ∧ c5 ≤ c + dn deep := by
              have sizes : ∀ (m : Nat) (us : List PyData), (∀ t ∈ us, (partsD t).length ≤ m) → (partsDL us).length ≤ us.length * m := by
                intro m us
                induction us with
                | nil => intro _; exact Nat.zero_le _
                | cons u us ih =>
                  intro h
                  have h1 := h u List.mem_cons_self
                  have h2 := ih fun t ht => h t (List.mem_cons_of_mem _ ht)
                  show (partsD u ++ partsDL us).length ≤ (us.length + 1) * m
                  rw [List.length_append, Nat.succ_mul]
                  omega
              have nms : ∀ us : List PyData, (∀ t ∈ us, ∀ b q, q ∈ occ b t → q.1 ∈ R.map (·.1)) → ∀ q ∈ occL us, q.1 ∈ R.map (·.1) := by
                intro us
                induction us with
                | nil => intro _ q hq; cases hq
                | cons u us ih =>
                  intro h q hq
                  rcases List.mem_append.mp (show q ∈ occ false u ++ occL us from hq) with z | z
                  · exact h u List.mem_cons_self false q z
                  · exact ih (fun t ht => h t (List.mem_cons_of_mem _ ht)) q z
              have hs := sizes (sz (deep - 1)) ts fun t ht => (dts t ht).size
              have hn := nms ts fun t ht => (dts t ht).names
              have hw : wfT (.tuple (.str r.1 :: ts)) = true := by
                show (true && wfTL ts) = true
                rw [wfTL_of fun t ht => (dts t ht).wf]
                rfl
              have hnm : ∀ b q, q ∈ occ b (.tuple (.str r.1 :: ts)) → q.1 ∈ R.map (·.1) := by
                intro b q hq
                rcases List.mem_cons.mp (show q ∈ (r.1, ts.length, b) :: occL ts from hq) with rfl | z
                · exact List.mem_map.mpr ⟨r, hrR, rfl⟩
                · exact hn q z
              have htk : TOk R kn (.tuple (.str r.1 :: ts)) := ⟨⟨r, hrR, rfl, ar.symm⟩, TOkL_of fun t ht => (dts t ht).tok⟩
              have lp : (partsD (.tuple (.str r.1 :: ts))).length = 1 + (partsDL ts).length := by
                show (PyData.tuple (.str r.1 :: ts) :: partsDL ts).length = _
                rw [List.length_cons]
                omega
              cases deep with
              | zero =>
                have z : r.2.1 = 0 := by
                  rcases fit with y | y
                  · exact absurd y (Nat.lt_irrefl _)
                  · exact y
                have e : ts = [] := List.length_eq_zero_iff.mp (by omega)
                subst e
                have z2 : ((r.2.1 : Int)).toNat = 0 := by omega
                rw [z2] at hc5
                exact ⟨⟨hw, Nat.le_refl _, hnm, htk⟩, by show c5 ≤ c + 2; omega⟩
              | succ d' =>
                have ed : d' + 1 - 1 = d' := Nat.add_sub_cancel ..
                rw [ed] at hs hc5
                have hm : ts.length * sz d' ≤ 3 * sz d' := Nat.mul_le_mul_right _ (by omega)
                have hm2 : ((r.2.1 : Int)).toNat * dn d' ≤ 3 * dn d' := Nat.mul_le_mul_right _ (by omega)
                refine ⟨⟨hw, ?_, hnm, htk⟩, ?_⟩
                · rw [lp]
                  show 1 + (partsDL ts).length ≤ 1 + 3 * sz d'
                  omega
                · show c5 ≤ c + (2 + 3 * dn d')
                  omega
            refine ⟨p4, p6, _, _, rfl, rfl, .inl (.inl m4''), .inl (.inl m6), by simp, by rw [List.length_singleton, sizeLine_eq]; omega, fun e => ?_, fun e p7 n7 => ?_⟩
            · refine q _ _ G6 c5 (.tup (a := p4) (.inl (.inl ?_)) (.cons (.str r.1) all6)) dt.1 dt.2 P6 b16
              rw [e]
              exact m4''
            · have s7 : Same G6 (upd G6 p7 (.tup ([.str r.1] ++ acc))) := same_new (fun b o e => e) n7 _
              exact q _ _ _ c5 (.tup (a := p7) (.inl (.inl upd_same)) (.cons (.str r.1) (dpAll_same s7 all6))) dt.1 dt.2 (pen_same P6 s7) (b16.trans (Pn.But.of s7))
end
end Ad

/-! Sentences of well-formed terms; the names in them. -/
namespace Ad
open PySem PySem.Spec PySem.Calls PyProof.Rows L2
namespace Sn
/-- a sentence of names: is with one term that is no great name, equal with two -/
def wf : Sn → Bool
  | .atm false as => decide (as.length = 1) && (wfTL as && (isTu (as.getD 0 .none) && decide ((partsDL as).length ≤ 40)))
  | .atm true as => decide (as.length = 2) && (wfTL as && decide ((partsDL as).length ≤ 40))
  | .qu _ _ s => wf s
  | .one s => wf s
  | .two _ a b => wf a && wf b
/-- the names in it, where they stand -/
def occs : Sn → List (Str × Nat × Bool)
  | .atm false as => occ true (as.getD 0 .none)
  | .atm true as => occL as
  | .qu _ _ s => occs s
  | .one s => occs s
  | .two _ a b => occs a ++ occs b
def occsL : List Sn → List (Str × Nat × Bool)
  | [] => []
  | s :: ss => occs s ++ occsL ss
theorem occsL_app : ∀ l m : List Sn, occsL (l ++ m) = occsL l ++ occsL m
  | [], _ => rfl
  | s :: l, m => by
    show occs s ++ occsL (l ++ m) = occs s ++ occsL l ++ occsL m
    rw [occsL_app, List.append_assoc]
theorem occs_len : ∀ s : Sn, s.wf = true → s.occs.length ≤ 40 * s.size
  | .atm false as, h => by
    obtain ⟨h1, h⟩ := Bool.and_eq_true_iff.mp h
    obtain ⟨h2, h⟩ := Bool.and_eq_true_iff.mp h
    obtain ⟨h3, h4⟩ := Bool.and_eq_true_iff.mp h
    have l1 := of_decide_eq_true h1
    have l4 := of_decide_eq_true h4
    match as, l1 with
    | [t], _ =>
      have h5 := occ_len true t
      have h6 : (partsDL [t]).length = (partsD t).length := by
        show (partsD t ++ []).length = _
        rw [List.append_nil]
      show (occ true t).length ≤ 40 * 1
      omega
  | .atm true as, h => by
    obtain ⟨h1, h⟩ := Bool.and_eq_true_iff.mp h
    obtain ⟨h2, h4⟩ := Bool.and_eq_true_iff.mp h
    have l4 := of_decide_eq_true h4
    have h5 := occL_len as
    show (occL as).length ≤ 40 * 1
    omega
  | .qu _ _ s, h => by
    have := occs_len s h
    show s.occs.length ≤ 40 * (1 + s.size)
    omega
  | .one s, h => by
    have := occs_len s h
    show s.occs.length ≤ 40 * (1 + s.size)
    omega
  | .two _ a b, h => by
    obtain ⟨h1, h2⟩ := Bool.and_eq_true_iff.mp h
    have h3 := occs_len a h1
    have h4 := occs_len b h2
    show (a.occs ++ b.occs).length ≤ 40 * (1 + a.size + b.size)
    rw [List.length_append]
    omega
end Sn
end Ad

/-! How deep a sentence is, how many words it has. -/
namespace Ad
open PySem PySem.Spec PySem.Calls PyProof.Rows L2
namespace Sn
/-- how deep -/
def hi : Sn → Nat
  | .atm _ _ => 1
  | .qu _ _ s => 1 + hi s
  | .one s => 1 + hi s
  | .two _ a b => 1 + max (hi a) (hi b)
theorem hi_pos : ∀ s : Sn, 1 ≤ s.hi
  | .atm _ _ => Nat.le_refl _
  | .qu _ _ s => Nat.le_add_right _ _
  | .one s => Nat.le_add_right _ _
  | .two _ a b => Nat.le_add_right _ _
theorem hi_le : ∀ s : Sn, s.hi ≤ s.size
  | .atm _ _ => Nat.le_refl _
  | .qu _ _ s => by
    have := hi_le s
    show 1 + s.hi ≤ 1 + s.size
    omega
  | .one s => by
    have := hi_le s
    show 1 + s.hi ≤ 1 + s.size
    omega
  | .two _ a b => by
    have h1 := hi_le a
    have h2 := hi_le b
    show 1 + max a.hi b.hi ≤ 1 + a.size + b.size
    omega
end Sn
mutual
/-- how many words a term has -/
def spw : PyData → Nat
  | .str _ => 1
  | .tuple [] => 1
  | .tuple (_ :: ds) => 1 + spwL ds
  | .none => 1
  | .bool _ => 1
  | .int _ => 1
  | .list _ => 1
  | .dict _ => 1
def spwL : List PyData → Nat
  | [] => 0
  | d :: ds => spw d + spwL ds
end
theorem spwL_app : ∀ ds es : List PyData, spwL (ds ++ es) = spwL ds + spwL es
  | [], es => (Nat.zero_add _).symm
  | d :: ds, es => by
    show spw d + spwL (ds ++ es) = spw d + spwL ds + spwL es
    rw [spwL_app, Nat.add_assoc]
namespace Sn
def words : Sn → Nat
  | .atm _ as => spwL as + 1
  | .qu _ _ s => 2 + words s
  | .one s => 1 + words s
  | .two _ a b => 1 + (words a + words b)
def sames : Sn → Nat
  | .atm _ _ => 0
  | .qu _ _ s => sames s
  | .one s => sames s
  | .two w a b => (if w = "same" then 1 else 0) + max (sames a) (sames b)
theorem size_words : ∀ s : Sn, s.size ≤ s.words
  | .atm _ as => Nat.le_add_left _ _
  | .qu _ _ s => by
    have := size_words s
    show 1 + s.size ≤ 2 + s.words
    omega
  | .one s => by
    have := size_words s
    show 1 + s.size ≤ 1 + s.words
    omega
  | .two _ a b => by
    have h1 := size_words a
    have h2 := size_words b
    show 1 + a.size + b.size ≤ 1 + (a.words + b.words)
    omega
end Sn
end Ad

/-! picking from a tuple, wherever it stands -/
namespace Ad
open PySem PySem.Spec PySem.Calls PyProof.Rows L2
section
variable {P : Program} {w : World} {K : PySem.W.Frag} {mg : Str → Option Value} {base : Heap}
def spPickT (K : PySem.W.Frag) : Sp := fun vs H Q _ => ∃ (p l s : Addr) (ns : List Int) (c : Nat) (xs : List V), vs = [.ref p, .ref s] ∧ Pn.Pen H p l ns c ∧ ns.length ≤ 1000 ∧ c ≤ 1000000000 ∧ SqT K H s xs ∧ xs ≠ [] ∧ xs.length ≤ 1000000 ∧
  ∀ x H', x ∈ xs → Pn.Pen H' p l ns (c + 1) → Pn.But p H H' → Q x H'
theorem ok_pickT {f fD : Addr} {fd fdD : FuncData} {k : Nat} (F : Fun K "_law_pick" "_law_pick" Pn.sPick f fd) (G : FnOk P w K mg base CX0 (k + 1) fD fdD ["_law_pen_here", "_law_many_here"] Pn.spDraw) (gD : mg "_law_draw" = some (.ref fD)) (kD : PySem.W.keepIn K (.ref fD) = true) (bD : Binds K fdD ["_law_pen_here", "_law_many_here"] [])
    (ml : mg "len" = none) : FnOk P w K mg base CX0 (k + 2) f fd ["_law_pen_here", "_law_some"] (spPickT K) := by
  refine F.ok Pn.scPick (fun vs H Q E h => ?_) (fun cdv A outer s H vs Q E hr h => ?_)
  · obtain ⟨p, l, s, ns, c, xs, rfl, _⟩ := h
    rfl
  · obtain ⟨p, l, s, ns, c, xs, rfl, hP, hlen, hc, hS, hne, hx, q⟩ := h
    refine ⟨_, pss_one (ps_ret (pe_ix ix_tup (pv 1) (pe_call G hr (by rfl) gD kD bD .nil pass0 (pa_cons (pv 0) (pa_cons (pe_callB call_len_seq (by rfl) ml PySem.boot_len (pa_cons (pv 1) pa_nil)) pa_nil))) (fun _ _ => rfl))), ?_⟩
    have hpos : 1 ≤ xs.length := by
      cases xs with
      | nil => exact absurd rfl hne
      | cons x r => rw [List.length_cons]; omega
    refine ⟨.ref s, rfl, .ref p, rfl, .ref s, rfl, s, xs, rfl, .inr hS, p, l, ns, c, _, rfl, hP, hlen, hc, by omega, by omega, fun r H' r0 r1 hP' b' => ?_⟩
    obtain ⟨j, rfl⟩ : ∃ j : Nat, r = (j : Int) := ⟨r.toNat, by omega⟩
    have hj : j < xs.length := by omega
    have hg : xs[j]? = some xs[j] := List.getElem?_eq_getElem hj
    exact ⟨s, xs, _, _, rfl, rfl, (pen_tk hP b').sq hS, atI_nat hg, q _ _ (List.getElem_mem hj) hP' b'⟩
end
end Ad

/-! Drawn sentences. -/
namespace Ad
open PySem PySem.Spec PySem.Calls PyProof.Rows L2
abbrev sDS : Stmt := topS 23
theorem scDS : FnScope ["_law_pen_here", "_law_rows", "_law_deep", "_law_known", "_law_way", "_law_name", "_law_arity", "_law_weight", "_law_word", "_law_one", "_law_k"] ["_law_pen_here", "_law_rows", "_law_deep", "_law_known"] (defScope sDS) := ⟨rfl, rfl, rfl, by decide +kernel, rfl, by decide +kernel, by decide +kernel⟩
theorem sn_tk {K : PySem.W.Frag} {H H' : Hp} (k : TK H H') : ∀ (s : Sn) (v : V), s.wf = true → Dp K H v s.d → Dp K H' v s.d
  | .atm eq as, v, w, h => by
    have w2 : wfTL as = true := by
      cases eq with
      | false =>
        obtain ⟨h1, h⟩ := Bool.and_eq_true_iff.mp (show (decide (as.length = 1) && (wfTL as && (isTu (as.getD 0 .none) && decide ((partsDL as).length ≤ 40)))) = true from w)
        exact (Bool.and_eq_true_iff.mp h).1
      | true =>
        obtain ⟨h1, h⟩ := Bool.and_eq_true_iff.mp (show (decide (as.length = 2) && (wfTL as && decide ((partsDL as).length ≤ 40))) = true from w)
        exact (Bool.and_eq_true_iff.mp h).1
    cases h with
    | @tup a zs _ sq all =>
    cases all with
    | @cons v vs _ _ hv all =>
    cases hv
    exact .tup (k.sq sq) (.cons (.str _) (wf_tkL k as vs w2 all))
  | .qu al x s, v, w, h => by
    cases h with
    | @tup a zs _ sq all =>
    cases all with
    | @cons v vs _ _ hv all =>
    cases hv
    cases all with
    | @cons v2 vs2 _ _ hv2 all =>
    cases hv2
    cases all with
    | @cons v3 vs3 _ _ hs all =>
    cases all with
    | nil => exact .tup (k.sq sq) (.cons (.str _) (.cons (.str _) (.cons (sn_tk k s v3 w hs) .nil)))
  | .one s, v, w, h => by
    cases h with
    | @tup a zs _ sq all =>
    cases all with
    | @cons v vs _ _ hv all =>
    cases hv
    cases all with
    | @cons v2 vs2 _ _ hs all =>
    cases all with
    | nil => exact .tup (k.sq sq) (.cons (.str _) (.cons (sn_tk k s v2 w hs) .nil))
  | .two wd a b, v, w, h => by
    obtain ⟨w1, w2⟩ := Bool.and_eq_true_iff.mp (show (a.wf && b.wf) = true from w)
    cases h with
    | @tup ad zs _ sq all =>
    cases all with
    | @cons v vs _ _ hv all =>
    cases hv
    cases all with
    | @cons v2 vs2 _ _ ha all =>
    cases all with
    | @cons v3 vs3 _ _ hb all =>
    cases all with
    | nil => exact .tup (k.sq sq) (.cons (.str _) (.cons (sn_tk k a v2 w1 ha) (.cons (sn_tk k b v3 w2 hb) .nil)))
def xyz : List Str := ["X", "Y", "Z", "V9"]
def xyz3 : List Str := ["X", "Y", "Z"]
theorem xyz3_in {x : Str} (h : x ∈ xyz3) : x ∈ xyz := by
  rcases List.mem_cons.mp h with rfl | h
  · exact List.mem_cons_self
  rcases List.mem_cons.mp h with rfl | h
  · exact List.mem_cons_of_mem _ List.mem_cons_self
  cases List.mem_singleton.mp h
  exact List.mem_cons_of_mem _ (List.mem_cons_of_mem _ List.mem_cons_self)
theorem xyz_strOk {x : Str} (h : x ∈ xyz) : PyData.strOk x = true := by
  rcases List.mem_cons.mp h with rfl | h
  · decide +kernel
  rcases List.mem_cons.mp h with rfl | h
  · decide +kernel
  rcases List.mem_cons.mp h with rfl | h
  · decide +kernel
  cases List.mem_singleton.mp h
  decide +kernel
theorem xyz_lay : ∀ kn : List Str, (∀ x ∈ kn, x ∈ xyz) → PyData.canLayAll0 (kn.map .str) = true
  | [], _ => rfl
  | x :: kn, h => by
    show (PyData.canLay0 (.str x) && PyData.canLayAll0 (kn.map .str)) = true
    rw [xyz_lay kn fun y hy => h y (List.mem_cons_of_mem _ hy), Bool.and_true]
    rcases List.mem_cons.mp (h x List.mem_cons_self) with rfl | z
    · decide +kernel
    rcases List.mem_cons.mp z with rfl | z
    · decide +kernel
    rcases List.mem_cons.mp z with rfl | z
    · decide +kernel
    cases List.mem_singleton.mp z
    decide +kernel
theorem xyz_depth : ∀ kn : List Str, PyData.depthAll (kn.map .str) ≤ 1
  | [] => Nat.zero_le _
  | x :: kn => by
    have h := xyz_depth kn
    show max (PyData.depth (.str x)) (PyData.depthAll (kn.map .str)) ≤ 1
    have e : PyData.depth (.str x) ≤ 1 := by first | exact Nat.le_refl _ | exact Nat.zero_le _
    omega
theorem xyz_shaped {kn : List Str} (h : ∀ x ∈ kn, x ∈ xyz) : SeqAt.shaped (.list (kn.map .str)) = true := by
  unfold SeqAt.shaped
  rw [Bool.and_eq_true]
  refine ⟨xyz_lay kn h, decide_eq_true ?_⟩
  have := xyz_depth kn
  show PyData.depthAll (kn.map .str) + 1 ≤ 64
  omega
def sdn : Nat → Nat
  | 0 => 40
  | d + 1 => 40 + 2 * sdn d
def sns : Nat → Nat
  | 0 => 1
  | d + 1 => 1 + 2 * sns d
/-- a sentence of the rows' names, of known great names -/
def Sn.good (R S : List Row) : List Str → Sn → Prop
  | kn, .atm false as => ∃ (r : Row) (ds : List PyData), as = [.tuple (.str r.1 :: ds)] ∧ r ∈ S ∧ r.2.1 = ds.length ∧ TOkL R kn ds
  | kn, .atm true as => ∃ t u, as = [t, u] ∧ TOk R kn t ∧ TOk R kn u
  | kn, .qu _ x s => PyData.strOk x = true ∧ Sn.good R S (kn ++ [x]) s
  | kn, .one s => Sn.good R S kn s
  | kn, .two _ a b => Sn.good R S kn a ∧ Sn.good R S kn b
structure DSn (R S : List Row) (kn : List Str) (deep : Nat) (s : Sn) : Prop where
  ok : s.ok = true
  wf : s.wf = true
  size : s.size ≤ sns deep
  hi : s.hi ≤ deep + 1
  names : ∀ q ∈ s.occs, q.1 ∈ R.map (·.1) ∨ q.1 ∈ S.map (·.1)
  good : Sn.good R S kn s
structure SOk (S : List Row) : Prop where
  ne : S ≠ []
  few : S.length ≤ 1000
  names : ∀ r ∈ S, r.2.1 ≤ 3
theorem sns_pos : ∀ d, 1 ≤ sns d
  | 0 => Nat.le_refl _
  | _ + 1 => Nat.le_add_right _ _
theorem sdn_pos : ∀ d, 40 ≤ sdn d
  | 0 => Nat.le_refl _
  | _ + 1 => Nat.le_add_right _ _
section
variable {P : Program} {w : World} {K : PySem.W.Frag} {mg : Str → Option Value} {base : Heap}
def spDS (K : PySem.W.Frag) (n : Nat) : Sp := fun vs H Q _ => ∃ (p l ra kl : Addr) (ns : List Int) (c deep : Nat) (kn : List Str) (R S : List Row), vs = [.ref p, .ref ra, .int (deep : Int), .ref kl] ∧ Pn.Pen H p l ns c ∧ ns.length ≤ 1000 ∧ c + sdn deep ≤ 1000000000 ∧ OrdAt K H ra R S ∧ ROk R ∧ SOk S ∧
  deep < n ∧ H kl = some (.lst (kn.map V.str)) ∧ (∀ x ∈ kn, x ∈ xyz) ∧ kn.length + deep ≤ 50 ∧ kl ≠ p ∧ ∀ s v H' c', Dp K H' v s.d → DSn R S kn deep s → c' ≤ c + sdn deep → Pn.Pen H' p l ns c' → Pn.But p H H' → Q v H'
theorem ok_ds {f f1 f2 f3 : Addr} {fd d1 d2 d3 : FuncData} {k : Nat} (F : Fun K "_law_drawn_sentence" "_law_drawn_sentence" sDS f fd) (gF : mg "_law_drawn_sentence" = some (.ref f)) (bF : Binds K fd ["_law_pen_here", "_law_rows", "_law_deep", "_law_known"] [])
    (hDraw0 : Has P w K mg base k "_law_draw" ["_law_pen_here", "_law_many_here"] Pn.spDraw f1 d1) (hPick0 : Has P w K mg base k "_law_pick" ["_law_pen_here", "_law_some"] (Pn.spPick K) f2 d2) (hPickT0 : Has P w K mg base k "_law_pick" ["_law_pen_here", "_law_some"] (spPickT K) f2 d2) (hSp0 : Has P w K mg base k "_law_drawn_spoken" ["_law_pen_here", "_law_rows", "_law_deep", "_law_known"] (spDrawnSp K 5) f3 d3)
    (m_tuple : mg "tuple" = none) (m_range : mg "range" = none) : ∀ n, FnOk P w K mg base CX0 (k + n) f fd ["_law_pen_here", "_law_rows", "_law_deep", "_law_known"] (spDS K n)
  | 0 => vac fun vs H Q E ⟨_, _, _, _, _, _, _, _, _, _, _, _, _, _, _, _, _, z, _⟩ => absurd z (Nat.not_lt_zero _)
  | n + 1 => by
    have IH : FnOk P w K mg base CX0 (k + n) f fd ["_law_pen_here", "_law_rows", "_law_deep", "_law_known"] (spDS K n) := ok_ds F gF bF hDraw0 hPick0 hPickT0 hSp0 m_tuple m_range n
    have hMe : Has P w K mg base (k + n) "_law_drawn_sentence" ["_law_pen_here", "_law_rows", "_law_deep", "_law_known"] (spDS K n) f fd := ⟨IH, gF, F.kp, bF⟩
    have hDraw : Has P w K mg base (k + n) "_law_draw" ["_law_pen_here", "_law_many_here"] Pn.spDraw f1 d1 := ⟨hDraw0.G.mono (Nat.le_add_right _ _), hDraw0.g, hDraw0.kp, hDraw0.b⟩
    have hPick : Has P w K mg base (k + n) "_law_pick" ["_law_pen_here", "_law_some"] (Pn.spPick K) f2 d2 := ⟨hPick0.G.mono (Nat.le_add_right _ _), hPick0.g, hPick0.kp, hPick0.b⟩
    have hPickT : Has P w K mg base (k + n) "_law_pick" ["_law_pen_here", "_law_some"] (spPickT K) f2 d2 := ⟨hPickT0.G.mono (Nat.le_add_right _ _), hPickT0.g, hPickT0.kp, hPickT0.b⟩
    have hSp : Has P w K mg base (k + n) "_law_drawn_spoken" ["_law_pen_here", "_law_rows", "_law_deep", "_law_known"] (spDrawnSp K 5) f3 d3 := ⟨hSp0.G.mono (Nat.le_add_right _ _), hSp0.g, hSp0.kp, hSp0.b⟩
    refine F.ok scDS (fun vs H Q E h => ?_) (fun cdv A outer s H vs Q E hr h => ?_)
    · obtain ⟨p, l, ra, kl, ns, c, deep, kn, R, S, rfl, _⟩ := h
      rfl
    · obtain ⟨p, l, ra, kl, ns, c, deep, kn, R, S, rfl, hP, hlen, hc, hO, okR, okS, hd, hK, kx, kfew, klp, q⟩ := h
      refine ⟨_, (C8.pss_cut (ps_set (i := 4) scDS.nd rfl (.inl rfl) (pe_ifExp (pt_cmpR op_gt (pv 2) pe_int (nomark _)) (pe_call hDraw.G hr (by rfl) hDraw.g hDraw.kp hDraw.b .nil pass0 (pa_cons (pv 0) (pa_cons pe_int pa_nil))) (pe_call hDraw.G hr (by rfl) hDraw.g hDraw.kp hDraw.b .nil pass0 (pa_cons (pv 0) (pa_cons pe_int pa_nil)))))
    (pss_cons (ps_if (pt_cmpR op_eq (pv 4) pe_int (nomark _))
      (pss_cons (ps_asg (pe_call hPickT.G hr (by rfl) hPickT.g hPickT.kp hPickT.b .nil pass0 (pa_cons (pv 0) (pa_cons (pe_ix ix_tup (pv 1) pe_int (fun _ _ => rfl)) pa_nil))) (pg_tup rfl (pgs_cons (pg_name (i := 5) scDS.nd rfl (.inl rfl)) (pgs_cons (pg_name (i := 6) scDS.nd rfl (.inl rfl)) (pgs_cons (pg_name (i := 7) scDS.nd rfl (.inl rfl)) pgs_nil)))))
      (pss_one (ps_ret (pe_tup (pa_cons pe_str (pa_cons (pe_op op_catT (pe_tup (pa_cons (pv 5) pa_nil)) (pe_callTy call_tuple_of (by rfl) m_tuple (by decide +kernel) (pa_cons (pe_lc (own := [("_law_k", 10)]) (g := gName 10) (tt := tYes) rfl scDS.nd (pi_range1 (by rfl) m_range (pa_cons (pv 6) pa_nil)) (blkOk_by (N := ["_law_pen_here", "_law_rows", "_law_deep", "_law_known", "_law_way", "_law_name", "_law_arity", "_law_weight", "_law_word", "_law_one", "_law_k"]) (sc := defScope sDS) (by decide +kernel)) (fun _ _ _ _ _ => (pg_name (i := 10) scDS.nd rfl (.inl rfl))) (fun _ _ _ _ _ => pts_nil) (fun _ _ _ _ _ => (pe_call hSp.G hr (by rfl) hSp.g hSp.kp hSp.b .nil pass0 (pa_cons (pv 0) (pa_cons (pv 1) (pa_cons pe_int (pa_cons (pv 3) pa_nil))))))) pa_nil))) pa_nil)))))) pss_nil)
    (pss_cons (ps_if (pt_cmpR op_eq (pv 4) pe_int (nomark _))
      (pss_one (ps_ret (pe_tup (pa_cons pe_str (pa_cons (pe_call hSp.G hr (by rfl) hSp.g hSp.kp hSp.b .nil pass0 (pa_cons (pv 0) (pa_cons (pv 1) (pa_cons pe_int (pa_cons (pv 3) pa_nil))))) (pa_cons (pe_call hSp.G hr (by rfl) hSp.g hSp.kp hSp.b .nil pass0 (pa_cons (pv 0) (pa_cons (pv 1) (pa_cons pe_int (pa_cons (pv 3) pa_nil))))) pa_nil)))))) pss_nil)
    (pss_cons (ps_if (pt_cmpR op_eq (pv 4) pe_int (nomark _))
      (pss_one (ps_ret (pe_tup (pa_cons pe_str (pa_cons (pe_call hMe.G hr (by rfl) hMe.g hMe.kp hMe.b .nil pass0 (pa_cons (pv 0) (pa_cons (pv 1) (pa_cons (pe_op op_sub (pv 2) pe_int) (pa_cons (pv 3) pa_nil))))) pa_nil))))) pss_nil)
    (pss_cons (ps_if (pt_cmpR op_lt (pv 4) pe_int (nomark _))
      (pss_cons (ps_set (i := 8) scDS.nd rfl (.inl rfl) (pe_call hPick.G hr (by rfl) hPick.g hPick.kp hPick.b .nil pass0 (pa_cons (pv 0) (pa_cons (pe_lst (pa_cons pe_str (pa_cons pe_str (pa_cons pe_str (pa_cons pe_str pa_nil))))) pa_nil))))
      (pss_cons (ps_set (i := 9) scDS.nd rfl (.inl rfl) (pe_call hMe.G hr (by rfl) hMe.g hMe.kp hMe.b .nil pass0 (pa_cons (pv 0) (pa_cons (pv 1) (pa_cons (pe_op op_sub (pv 2) pe_int) (pa_cons (pv 3) pa_nil))))))
      (pss_one (ps_ret (pe_tup (pa_cons (pv 8) (pa_cons (pv 9) (pa_cons (pe_call hMe.G hr (by rfl) hMe.g hMe.kp hMe.b .nil pass0 (pa_cons (pv 0) (pa_cons (pv 1) (pa_cons (pe_op op_sub (pv 2) pe_int) (pa_cons (pv 3) pa_nil))))) pa_nil)))))))) pss_nil)
    (pss_cons (ps_set (i := 5) scDS.nd rfl (.inl rfl) (pe_call hPick.G hr (by rfl) hPick.g hPick.kp hPick.b .nil pass0 (pa_cons (pv 0) (pa_cons (pe_lst (pa_cons pe_str (pa_cons pe_str (pa_cons pe_str pa_nil)))) pa_nil))))
    (pss_one (ps_ret (pe_tup (pa_cons (pe_call hPick.G hr (by rfl) hPick.g hPick.kp hPick.b .nil pass0 (pa_cons (pv 0) (pa_cons (pe_lst (pa_cons pe_str (pa_cons pe_str pa_nil))) pa_nil))) (pa_cons (pv 5) (pa_cons (pe_call hMe.G hr (by rfl) hMe.g hMe.kp hMe.b .nil pass0 (pa_cons (pv 0) (pa_cons (pv 1) (pa_cons (pe_op op_sub (pv 2) pe_int) (pa_cons (pe_op op_cat (pv 3) (pe_lst (pa_cons (pv 5) pa_nil))) pa_nil))))) pa_nil)))))))))))), ?_⟩
      have big := sdn_pos deep
      -- the way
      refine ⟨fun σ G => ∃ (m : Int), σ = [some (.ref p), some (.ref ra), some (.int (deep : Int)), some (.ref kl), some (.int m), none, none, none, none, none, none] ∧ 0 ≤ m ∧ (deep = 0 → m < 2) ∧ Pn.Pen G p l ns (c + 1) ∧ Pn.But p H G, ?_, ?_⟩
      · refine ⟨.int (deep : Int), rfl, _, _, rfl, rfl, _, rfl, ?_⟩
        refine ite2 (fun h => ?_) (fun h => ?_)
        · have hp : (0 : Int) < (deep : Int) := of_decide_eq_true h
          exact ⟨.ref p, rfl, p, l, ns, c, 8, rfl, hP, hlen, by omega, by decide, by decide, fun m G m0 m1 P1 b1 => ⟨m, rfl, m0, fun z => by omega, P1, b1⟩⟩
        · exact ⟨.ref p, rfl, p, l, ns, c, 2, rfl, hP, hlen, by omega, by decide, by decide, fun m G m0 m1 P1 b1 => ⟨m, rfl, m0, fun _ => m1, P1, b1⟩⟩
      rintro σ G ⟨m, rfl, m0, mdeep, P1, b1⟩
      have hO1 := hO.mono (pen_tk hP b1)
      have hK1 := b1 _ _ klp hK
      have fresh : ∀ {G : Hp} {c : Nat} {b : Addr}, Pn.Pen G p l ns c → G b = none → b ≠ p := fun P n z => by
        obtain ⟨⟨_, _, _, e, _⟩, _⟩ := P
        rw [z, e] at n
        cases n
      refine ⟨.int m, rfl, rfl, _, rfl, ite2 (fun _ => ?_) (fun n0 => ?_)⟩
      · -- is
        have dn1 : dn 1 = 8 := rfl
        have sz1 : sz 1 = 4 := rfl
        obtain ⟨rb1, rb2, vs1, vs2, q0, q1, q2, f1, f2⟩ := id hO1
        have lS := f2.len
        have fewS := okS.few
        refine ⟨.ref p, rfl, .ref ra, rfl, ra, _, 1, .ref rb2, rfl, rfl, q0, atI_nat (j := 1) rfl, p, l, rb2, ns, c + 1, vs2, rfl, P1, hlen, by omega, q2, (fun z => by rw [z] at lS; exact okS.ne (List.length_eq_zero_iff.mp lS.symm)), by omega, fun x G2 hx P2 b2 => ?_⟩
        obtain ⟨r, hrS, ⟨b, rfl, sqb⟩⟩ := f2.mem hx
        have ar3 := okS.names r hrS
        have b12 := b1.trans b2
        refine ⟨b, _, rfl, (pen_tk P1 b2).sq sqb, rfl, .str r.1, _, rfl, .int (r.2.1 : Int), _, rfl, .int r.2.2, _, rfl, rfl, ?_⟩
        refine ⟨.str r.1, rfl, by show 1 ≤ sizeLine; decide, fun p4 n4 => ?_⟩
        have m4 : (upd G2 p4 (.tup [.str r.1])) p4 = some (.tup [.str r.1]) := upd_same
        have s4 : Same G2 (upd G2 p4 (.tup [.str r.1])) := same_new (fun b o e => e) n4 _
        have P4 := pen_same P2 s4
        have b14 := b12.trans (Pn.But.of s4)
        have n4p := fresh P2 n4
        generalize upd G2 p4 (.tup [.str r.1]) = G4 at m4 s4 P4 b14
        refine ⟨.int (r.2.1 : Int), rfl, _, rfl, by omega, by omega, fun D2 nD2 => ?_⟩
        have pD2 : D2 ≠ p := fresh P4 nD2
        have P4' := pen_same P4 (same_new (fun b o e => e) nD2 (.lst []))
        refine lc_range (lo := 0) (n := ((r.2.1 : Int)).toNat) (fun i G5 => ∃ (ts : List PyData) (acc : List V) (c5 : Nat), Pn.But p G4 G5 ∧ G5 D2 = some (.lst acc) ∧ DpAll K G5 acc ts ∧ ts.length = i ∧ Pn.Pen G5 p l ns c5 ∧ c5 ≤ c + 2 + i * 8 ∧
          (∀ t ∈ ts, DSp R kn 1 t)) ⟨[], [], c + 2, Pn.But.of (same_new (fun b o e => e) nD2 _), upd_same, .nil, rfl, P4', by omega, fun t ht => nomatch ht⟩ ?_ ?_
        · rintro i G5 hi ⟨ts, acc, c5, b5, gD, all, len, P5, hc5, dts⟩
          have hi' : i < r.2.1 := by omega
          have b15 := b14.trans b5
          have lK := b15 _ _ klp hK
          refine ⟨rfl, .ref p, rfl, .ref ra, rfl, .ref kl, rfl, p, l, ra, kl, ns, c5, 1, kn, R, rfl, P5, hlen, by omega, (hO.mono (pen_tk hP b15)).rows, okR, by decide, .inl (.inl lK), xyz_shaped kx, by omega, klp, fun t v G6 c6 tv dt hc6 P6 b6 => ?_⟩
          have g6 : G6 D2 = some (.lst acc) := b6 _ _ pD2 gD
          have k6 : TK G5 G6 := pen_tk P5 b6
          have kk : TK G6 (upd G6 D2 (.lst (acc ++ [v]))) := TK.lst g6 _
          have la := dpAll_len all
          have wfs : wfTL ts = true := wfTL_of fun t ht => (dts t ht).wf
          refine ⟨acc, g6, by rw [sizeLine_eq]; omega, ts ++ [t], acc ++ [v], c6, ?_, upd_same, dpAll_app (wf_tkL (k6.trans kk) _ _ wfs all) (.cons (wf_tk kk _ _ dt.wf tv) .nil), by rw [List.length_append, List.length_singleton, len], ?_, ?_, ?_⟩
          · intro b o nb e
            have e2 := b6 _ _ nb (b5 _ _ nb e)
            have nbD : b ≠ D2 := fun z => by rw [z, nD2] at e; cases e
            rw [upd_ne nbD]
            exact e2
          · obtain ⟨⟨a1, a2, a3, a4, a5⟩, a6⟩ := P6
            have lD : l ≠ D2 := fun z => by
              have e := P4.ls
              rw [z, nD2] at e
              cases e
            exact ⟨⟨a1, a2, a3, by rw [upd_ne pD2.symm]; exact a4, a5⟩, by rw [upd_ne lD]; exact a6⟩
          · rw [Nat.succ_mul]
            omega
          · intro t' ht'
            rcases List.mem_append.mp ht' with z | z
            · exact dts t' z
            · rw [List.mem_singleton.mp z]
              exact dt
        · rintro G5 ⟨ts, acc, c5, b5, gD, all, len, P5, hc5, dts⟩
          have b15 := b14.trans b5
          have la := dpAll_len all
          have m4' : G5 p4 = some (.tup [.str r.1]) := b5 _ _ n4p m4
          refine ⟨D2, acc, rfl, .inl ⟨.inl (.inl gD), fun p6 n6 => ?_⟩⟩
          have s6 : Same G5 (upd G5 p6 (.tup acc)) := same_new (fun b o e => e) n6 _
          have m6 : (upd G5 p6 (.tup acc)) p6 = some (.tup acc) := upd_same
          have P6 := pen_same P5 s6
          have b16 := b15.trans (Pn.But.of s6)
          have all6 := dpAll_same s6 all
          have m4'' := s6 _ _ m4'
          generalize upd G5 p6 (.tup acc) = G6 at s6 m6 P6 b16 all6 m4''
          have sizes : ∀ (us : List PyData), (∀ t ∈ us, (partsD t).length ≤ 4) → (partsDL us).length ≤ us.length * 4 := by
            intro us
            induction us with
            | nil => intro _; exact Nat.zero_le _
            | cons u us ih =>
              intro h
              have h1 := h u List.mem_cons_self
              have h2 := ih fun t ht => h t (List.mem_cons_of_mem _ ht)
              show (partsD u ++ partsDL us).length ≤ (us.length + 1) * 4
              rw [List.length_append, Nat.succ_mul]
              omega
          have nms : ∀ us : List PyData, (∀ t ∈ us, ∀ b q, q ∈ occ b t → q.1 ∈ R.map (·.1)) → ∀ q ∈ occL us, q.1 ∈ R.map (·.1) := by
            intro us
            induction us with
            | nil => intro _ q hq; cases hq
            | cons u us ih =>
              intro h q hq
              rcases List.mem_append.mp (show q ∈ occ false u ++ occL us from hq) with z | z
              · exact h u List.mem_cons_self false q z
              · exact ih (fun t ht => h t (List.mem_cons_of_mem _ ht)) q z
          have hs := sizes ts fun t ht => (dts t ht).size
          have hn := nms ts fun t ht => (dts t ht).names
          have lp : (partsDL [PyData.tuple (.str r.1 :: ts)]).length = 1 + (partsDL ts).length := by
            show ((PyData.tuple (.str r.1 :: ts) :: partsDL ts) ++ []).length = _
            rw [List.append_nil, List.length_cons]
            omega
          have hw : wfTL [PyData.tuple (.str r.1 :: ts)] = true := by
            show ((true && wfTL ts) && true) = true
            rw [wfTL_of fun t ht => (dts t ht).wf]
            rfl
          have hm : ((r.2.1 : Int)).toNat * 8 ≤ 3 * 8 := Nat.mul_le_mul_right _ (by omega)
          have hm2 : ts.length * 4 ≤ 3 * 4 := Nat.mul_le_mul_right _ (by omega)
          have dsn : DSn R S kn deep (.atm false [.tuple (.str r.1 :: ts)]) := by
            refine ⟨rfl, ?_, sns_pos _, Nat.le_add_left 1 _, ?_, ⟨r, ts, rfl, hrS, (show r.2.1 = ts.length by omega), TOkL_of fun t ht => (dts t ht).tok⟩⟩
            · show (decide (1 = 1) && (wfTL [PyData.tuple (.str r.1 :: ts)] && (true && decide ((partsDL [PyData.tuple (.str r.1 :: ts)]).length ≤ 40)))) = true
              rw [hw, decide_eq_true (show (partsDL [PyData.tuple (.str r.1 :: ts)]).length ≤ 40 by omega)]
              rfl
            · intro z hz
              rcases List.mem_cons.mp (show z ∈ (r.1, ts.length, true) :: occL ts from hz) with rfl | y
              · exact .inr (List.mem_map.mpr ⟨r, hrS, rfl⟩)
              · exact .inl (hn z y)
          have fin : ∀ (G7 : Hp) (a7 : Addr), Same G6 G7 → SqT K G7 a7 (.str r.1 :: acc) → 2 ≤ sizeLine ∧ ∀ t, G7 t = none → Q (.ref t) (upd G7 t (.tup [.str "is", .ref a7])) := by
            intro G7 a7 s7 sq7
            refine ⟨by rw [sizeLine_eq]; decide, fun t nt => ?_⟩
            have s8 : Same G7 (upd G7 t (.tup [.str "is", .ref a7])) := same_new (fun b o e => e) nt _
            exact q (.atm false [.tuple (.str r.1 :: ts)]) (.ref t) _ c5 (.tup (.inl (.inl upd_same)) (.cons (.str _) (.cons (.tup ((TK.same s8).sq sq7) (.cons (.str _) (dpAll_same (s7.trans s8) all6))) .nil))) dsn (by omega) (pen_same P6 (s7.trans s8)) (b16.trans (Pn.But.of (s7.trans s8)))
          refine ⟨p4, p6, _, _, rfl, rfl, .inl (.inl m4''), .inl (.inl m6), by simp, by rw [List.length_singleton, sizeLine_eq]; omega, fun e => ?_, fun e p7 n7 => ?_⟩
          · exact fin G6 p4 (Same.refl _) (by rw [e]; exact .inl (.inl m4''))
          · exact fin _ p7 (same_new (fun b o e => e) n7 _) (.inl (.inl upd_same))
      refine ⟨.int m, rfl, rfl, _, rfl, ite2 (fun _ => ?_) (fun n1 => ?_)⟩
      · -- equal
        have dn1 : dn 1 = 8 := rfl
        refine ⟨.ref p, rfl, .ref ra, rfl, .ref kl, rfl, p, l, ra, kl, ns, c + 1, 1, kn, R, rfl, P1, hlen, by omega, hO1.rows, okR, by decide, .inl (.inl hK1), xyz_shaped kx, by omega, klp, fun t1 v1 G2 c2 h1 ds1 hc2 P2 b2 => ?_⟩
        refine ⟨.ref p, rfl, .ref ra, rfl, .ref kl, rfl, p, l, ra, kl, ns, c2, 1, kn, R, rfl, P2, hlen, by omega, (hO1.mono (pen_tk P1 b2)).rows, okR, by decide, .inl (.inl (b2 _ _ klp hK1)), xyz_shaped kx, by omega, klp, fun t2 v2 G3 c3 h2 ds2 hc3 P3 b3 => ⟨by show 3 ≤ sizeLine; rw [sizeLine_eq]; decide, fun t nt => ?_⟩⟩
        have s4 : Same G3 (upd G3 t (.tup [.str "equal", v1, v2])) := same_new (fun b o e => e) nt _
        have z1 := ds1.size
        have z2 := ds2.size
        have sz1 : sz 1 = 4 := rfl
        have lp : (partsDL [t1, t2]).length = (partsD t1).length + (partsD t2).length := by
          show (partsD t1 ++ (partsD t2 ++ [])).length = _
          rw [List.append_nil, List.length_append]
        have hw : wfTL [t1, t2] = true := by
          show (wfT t1 && (wfT t2 && true)) = true
          rw [ds1.wf, ds2.wf]
          rfl
        refine q (.atm true [t1, t2]) (.ref t) _ c3 (.tup (.inl (.inl upd_same)) (.cons (.str _) (.cons (wf_tk ((pen_tk P2 b3).trans (TK.same s4)) _ _ ds1.wf h1) (.cons (dp_same s4 h2) .nil)))) ⟨rfl, ?_, sns_pos _, Nat.le_add_left 1 _, ?_, ⟨t1, t2, rfl, ds1.tok, ds2.tok⟩⟩ (by omega) (pen_same P3 s4) (((b1.trans b2).trans b3).trans (Pn.But.of s4))
        · show (decide (2 = 2) && (wfTL [t1, t2] && decide ((partsDL [t1, t2]).length ≤ 40))) = true
          rw [hw, decide_eq_true (show (partsDL [t1, t2]).length ≤ 40 by omega)]
          rfl
        · intro z hz
          rcases List.mem_append.mp (show z ∈ occ false t1 ++ (occ false t2 ++ []) from hz) with y | y
          · exact .inl (ds1.names false z y)
          · rw [List.append_nil] at y
            exact .inl (ds2.names false z y)
      have dpos : 0 < deep := by
        rcases Nat.eq_zero_or_pos deep with z | z
        · have m2 := mdeep z
          have e0 : m ≠ 0 := fun e => by rw [e] at n0; exact absurd n0 (by decide)
          have e1 : m ≠ 1 := fun e => by rw [e] at n1; exact absurd n1 (by decide)
          omega
        · exact z
      obtain ⟨d', rfl⟩ : ∃ d', deep = d' + 1 := ⟨deep - 1, by omega⟩
      have dd : sdn (d' + 1) = 40 + 2 * sdn d' := rfl
      have ez : (((d' + 1 : Nat)) : Int) - 1 = (d' : Int) := by omega
      refine ⟨.int m, rfl, rfl, _, rfl, ite2 (fun _ => ?_) (fun n2 => ?_)⟩
      · -- not
        refine ⟨.ref p, rfl, .ref ra, rfl, .int ((d' + 1 : Nat) : Int), rfl, _, _, rfl, rfl, .ref kl, rfl, p, l, ra, kl, ns, c + 1, d', kn, R, S, ?_, P1, hlen, by omega, hO1, okR, okS, by omega, hK1, kx, by omega, klp, fun s v G2 c2 hv ds hc2 P2 b2 => ⟨by show 2 ≤ sizeLine; rw [sizeLine_eq]; decide, fun t nt => ?_⟩⟩
        · show [V.ref p, V.ref ra, V.int (((d' + 1 : Nat) : Int) - 1), V.ref kl] = _
          rw [ez]
        · have s3 : Same G2 (upd G2 t (.tup [.str "not", v])) := same_new (fun b o e => e) nt _
          have z1 := ds.size
          have z0 := sns_pos d'
          refine q (.one s) (.ref t) _ c2 (.tup (.inl (.inl upd_same)) (.cons (.str _) (.cons (dp_same s3 hv) .nil))) ⟨ds.ok, ds.wf, ?_, (by have := ds.hi; show 1 + s.hi ≤ d' + 1 + 1; omega), ds.names, ds.good⟩ (by omega) (pen_same P2 s3) ((b1.trans b2).trans (Pn.But.of s3))
          show 1 + s.size ≤ 1 + 2 * sns d'
          omega
      refine ⟨.int m, rfl, _, _, rfl, rfl, _, rfl, ite2 (fun _ => ?_) (fun n3 => ?_)⟩
      · -- and, or, then, same
        refine to_set ?_
        refine ⟨.ref p, rfl, by show 4 ≤ sizeLine; rw [sizeLine_eq]; decide, fun lw nw => ?_⟩
        have s2 : Same G (upd G lw (.lst [.str "and", .str "or", .str "then", .str "same"])) := same_new (fun b o e => e) nw _
        refine ⟨p, l, lw, ns, c + 1, _, rfl, pen_same P1 s2, hlen, by omega, .inl (.inl (.inl upd_same)), by simp, by show 4 ≤ 1000000; decide, fresh P1 nw, fun x G2 hx P2 b2 => ?_⟩
        obtain ⟨wd, hwd, rfl⟩ : ∃ wd, wd ∈ (["and", "or", "then", "same"] : List Str) ∧ V.str wd = x := List.mem_map.mp (show x ∈ (["and", "or", "then", "same"] : List Str).map V.str from hx)
        have b12 := (b1.trans (Pn.But.of s2)).trans b2
        refine to_set ?_
        refine ⟨.ref p, rfl, .ref ra, rfl, .int ((d' + 1 : Nat) : Int), rfl, _, _, rfl, rfl, .ref kl, rfl, p, l, ra, kl, ns, c + 2, d', kn, R, S, ?_, P2, hlen, by omega, hO.mono (pen_tk hP b12), okR, okS, by omega, b12 _ _ klp hK, kx, by omega, klp, fun sa va G3 c3 ha dsa hc3 P3 b3 => ?_⟩
        · show [V.ref p, V.ref ra, V.int (((d' + 1 : Nat) : Int) - 1), V.ref kl] = _
          rw [ez]
        have b13 := b12.trans b3
        refine ⟨.str wd, rfl, va, rfl, .ref p, rfl, .ref ra, rfl, .int ((d' + 1 : Nat) : Int), rfl, _, _, rfl, rfl, .ref kl, rfl, p, l, ra, kl, ns, c3, d', kn, R, S, ?_, P3, hlen, by omega, hO.mono (pen_tk hP b13), okR, okS, by omega, b13 _ _ klp hK, kx, by omega, klp, fun sb vb G4 c4 hvb dsb hc4 P4 b4 => ⟨by show 3 ≤ sizeLine; rw [sizeLine_eq]; decide, fun t nt => ?_⟩⟩
        · show [V.ref p, V.ref ra, V.int (((d' + 1 : Nat) : Int) - 1), V.ref kl] = _
          rw [ez]
        · have s5 : Same G4 (upd G4 t (.tup [.str wd, va, vb])) := same_new (fun b o e => e) nt _
          have z1 := dsa.size
          have z2 := dsb.size
          refine q (.two wd sa sb) (.ref t) _ c4 (.tup (.inl (.inl upd_same)) (.cons (.str _) (.cons (dp_same s5 (sn_tk (pen_tk P3 b4) sa va dsa.wf ha)) (.cons (dp_same s5 hvb) .nil)))) ⟨?_, ?_, ?_, (by have := dsa.hi; have := dsb.hi; show 1 + max sa.hi sb.hi ≤ d' + 1 + 1; omega), ?_, dsa.good, dsb.good⟩ (by omega) (pen_same P4 s5) ((b13.trans b4).trans (Pn.But.of s5))
          · show (decide (wd ∈ (["and", "or", "then", "same"] : List Str)) && (sa.ok && sb.ok)) = true
            rw [decide_eq_true hwd, dsa.ok, dsb.ok]
            rfl
          · show (sa.wf && sb.wf) = true
            rw [dsa.wf, dsb.wf]
            rfl
          · show 1 + sa.size + sb.size ≤ 1 + 2 * sns d'
            omega
          · intro z hz
            rcases List.mem_append.mp (show z ∈ sa.occs ++ sb.occs from hz) with y | y
            · exact dsa.names z y
            · exact dsb.names z y
      -- all, some
      refine ⟨.ref p, rfl, by show 3 ≤ sizeLine; rw [sizeLine_eq]; decide, fun lw nw => ?_⟩
      have s2 : Same G (upd G lw (.lst [.str "X", .str "Y", .str "Z"])) := same_new (fun b o e => e) nw _
      refine ⟨p, l, lw, ns, c + 1, _, rfl, pen_same P1 s2, hlen, by omega, .inl (.inl (.inl upd_same)), by simp, by show 3 ≤ 1000000; decide, fresh P1 nw, fun x G2 hx P2 b2 => ?_⟩
      obtain ⟨gn, hgn3, rfl⟩ : ∃ gn, gn ∈ xyz3 ∧ V.str gn = x := List.mem_map.mp (show x ∈ xyz3.map V.str from hx)
      have hgn := xyz3_in hgn3
      have b12 := (b1.trans (Pn.But.of s2)).trans b2
      refine ⟨.ref p, rfl, by show 2 ≤ sizeLine; rw [sizeLine_eq]; decide, fun lv nv => ?_⟩
      have s3 : Same G2 (upd G2 lv (.lst [.str "all", .str "some"])) := same_new (fun b o e => e) nv _
      refine ⟨p, l, lv, ns, c + 2, _, rfl, pen_same P2 s3, hlen, by omega, .inl (.inl (.inl upd_same)), by simp, by show 2 ≤ 1000000; decide, fresh P2 nv, fun x G3 hx P3 b3 => ?_⟩
      obtain ⟨al, rfl⟩ : ∃ al : Bool, V.str (Sn.word (.qu al "" (.one (.atm true [])))) = x := by
        rcases List.mem_cons.mp hx with rfl | hx
        · exact ⟨true, rfl⟩
        · cases List.mem_singleton.mp hx
          exact ⟨false, rfl⟩
      have b13 := (b12.trans (Pn.But.of s3)).trans b3
      have hK3 := b13 _ _ klp hK
      refine ⟨.str gn, rfl, .ref p, rfl, .ref ra, rfl, .int ((d' + 1 : Nat) : Int), rfl, _, _, rfl, rfl, .ref kl, rfl, .str gn, rfl, by show 1 ≤ sizeLine; decide, fun l4 n4 => ?_⟩
      have s4 : Same G3 (upd G3 l4 (.lst [.str gn])) := same_new (fun b o e => e) n4 _
      refine ⟨kl, l4, _, _, rfl, rfl, s4 _ _ hK3, upd_same, by rw [List.length_map, sizeLine_eq]; show kn.length + 1 ≤ _; omega, fun l5 n5 => ?_⟩
      have s5 : Same (upd G3 l4 (.lst [.str gn])) (upd (upd G3 l4 (.lst [.str gn])) l5 (.lst (kn.map V.str ++ [.str gn]))) := same_new (fun b o e => e) n5 _
      have e5 : (upd (upd G3 l4 (.lst [.str gn])) l5 (.lst (kn.map V.str ++ [.str gn]))) l5 = some (.lst ((kn ++ [gn]).map V.str)) := by
        rw [upd_same, List.map_append]
        rfl
      have P5 := pen_same (pen_same P3 s4) s5
      have b15 := (b13.trans (Pn.But.of s4)).trans (Pn.But.of s5)
      have l5p := fresh (pen_same P3 s4) n5
      generalize upd (upd G3 l4 (.lst [.str gn])) l5 (.lst (kn.map V.str ++ [.str gn])) = G5 at e5 P5 b15
      refine ⟨p, l, ra, l5, ns, c + 3, d', kn ++ [gn], R, S, ?_, P5, hlen, by omega, hO.mono (pen_tk hP b15), okR, okS, by omega, e5, ?_, ?_, l5p, fun s v G6 c6 hv ds hc6 P6 b6 => ⟨by show 3 ≤ sizeLine; rw [sizeLine_eq]; decide, fun t nt => ?_⟩⟩
      · show [V.ref p, V.ref ra, V.int (((d' + 1 : Nat) : Int) - 1), V.ref l5] = _
        rw [ez]
      · intro y hy
        rcases List.mem_append.mp hy with z | z
        · exact kx y z
        · cases List.mem_singleton.mp z
          exact hgn
      · rw [List.length_append]
        show kn.length + 1 + d' ≤ 50
        omega
      · have s7 : Same G6 (upd G6 t (.tup [.str (Sn.word (.qu al "" (.one (.atm true [])))), .str gn, v])) := same_new (fun b o e => e) nt _
        have z1 := ds.size
        have z0 := sns_pos d'
        refine q (.qu al gn s) (.ref t) _ c6 (.tup (.inl (.inl upd_same)) (.cons (.str _) (.cons (.str _) (.cons (dp_same s7 hv) .nil)))) ⟨ds.ok, ds.wf, ?_, (by have := ds.hi; show 1 + s.hi ≤ d' + 1 + 1; omega), ds.names, xyz_strOk hgn, ds.good⟩ (by omega) (pen_same P6 s7) ((b15.trans b6).trans (Pn.But.of s7))
        show 1 + s.size ≤ 1 + 2 * sns d'
        omega
end
end Ad

/-! Structures: what terms and sentences come to in them. -/
namespace Ad
open PySem PySem.Spec PySem.Calls PyProof.Rows L2
/-- a structure: its size, a row of values for each name -/
structure Mo where
  size : Nat
  tab : Str → List V
abbrev En := Str → Option Nat
def En.set (E : En) (x : Str) (n : Nat) : En := fun y => if y = x then some n else E y
def natV : V → Nat
  | .int i => i.toNat
  | _ => 0
def truV : V → Bool
  | .bl b => b
  | _ => false
mutual
def evT (M : Mo) (E : En) : PyData → V
  | .str x => match E x with
    | some n => .int (n : Int)
    | none => .non
  | .tuple [] => .non
  | .tuple (x :: ds) => ((M.tab (nameD x))[ixL M E 0 ds]?).getD .non
  | .none => .non
  | .bool _ => .non
  | .int _ => .non
  | .list _ => .non
  | .dict _ => .non
/-- the place in a table -/
def ixL (M : Mo) (E : En) : Nat → List PyData → Nat
  | p, [] => p
  | p, d :: ds => ixL M E (p * M.size + natV (evT M E d)) ds
end
theorem ixL_app (M : Mo) (E : En) : ∀ (ds es : List PyData) (p : Nat), ixL M E p (ds ++ es) = ixL M E (ixL M E p ds) es
  | [], _, _ => rfl
  | d :: ds, es, p => ixL_app M E ds es _
structure MoOk (M : Mo) (R S : List Row) : Prop where
  pos : 1 ≤ M.size
  few : M.size ≤ 3
  thing : ∀ r ∈ R, (M.tab r.1).length = M.size ^ r.2.1 ∧ ∀ v ∈ M.tab r.1, ∃ n : Nat, n < M.size ∧ v = .int (n : Int)
  truth : ∀ r ∈ S, (M.tab r.1).length = M.size ^ r.2.1 ∧ ∀ v ∈ M.tab r.1, ∃ b, v = .bl b
def EnOk (M : Mo) (E : En) (kn : List Str) : Prop := ∀ x ∈ kn, ∃ n, E x = some n ∧ n < M.size
theorem EnOk.set {M : Mo} {E : En} {kn : List Str} (h : EnOk M E kn) {x : Str} {n : Nat} (hn : n < M.size) : EnOk M (E.set x n) (kn ++ [x]) := by
  intro y hy
  show ∃ m, (if y = x then some n else E y) = some m ∧ m < M.size
  by_cases e : y = x
  · rw [if_pos e]
    exact ⟨n, rfl, hn⟩
  · rw [if_neg e]
    rcases List.mem_append.mp hy with z | z
    · exact h y z
    · exact absurd (List.mem_singleton.mp z) e
section
variable {M : Mo} {R S : List Row} {E : En} {kn : List Str}
mutual
theorem ev_ok (m : MoOk M R S) (e : EnOk M E kn) : ∀ d : PyData, TOk R kn d → ∃ n : Nat, n < M.size ∧ evT M E d = .int (n : Int)
  | .str x, h => by
    obtain ⟨n, e1, e2⟩ := e x h
    refine ⟨n, e2, ?_⟩
    show (match E x with
      | some n => V.int (n : Int)
      | none => .non) = _
    rw [e1]
  | .tuple [], h => h.elim
  | .tuple (x :: ds), h => by
    obtain ⟨⟨r, hr, rfl, ar⟩, hds⟩ := h
    have lt := ix_lt m e ds hds 0
    obtain ⟨l1, l2⟩ := m.thing r hr
    rw [Nat.zero_add, Nat.one_mul, ← ar, ← l1] at lt
    obtain ⟨v, hv⟩ : ∃ v, (M.tab r.1)[ixL M E 0 ds]? = some v := ⟨_, List.getElem?_eq_getElem lt⟩
    obtain ⟨n, n1, rfl⟩ := l2 v (List.mem_of_getElem? hv)
    refine ⟨n, n1, ?_⟩
    show ((M.tab r.1)[ixL M E 0 ds]?).getD .non = _
    rw [hv]
    rfl
  | .none, h => h.elim
  | .bool _, h => h.elim
  | .int _, h => h.elim
  | .list _, h => h.elim
  | .dict _, h => h.elim
theorem ix_lt (m : MoOk M R S) (e : EnOk M E kn) : ∀ ds : List PyData, TOkL R kn ds → ∀ p, ixL M E p ds < (p + 1) * M.size ^ ds.length
  | [], _, p => by
    show p < (p + 1) * M.size ^ 0
    rw [Nat.pow_zero, Nat.mul_one]
    exact Nat.lt_succ_self p
  | d :: ds, h, p => by
    obtain ⟨n, n1, n2⟩ := ev_ok m e d h.1
    have ih := ix_lt m e ds h.2 (p * M.size + natV (evT M E d))
    have z : natV (evT M E d) = n := by
      rw [n2]
      show ((n : Nat) : Int).toNat = n
      omega
    rw [z] at ih
    show ixL M E (p * M.size + natV (evT M E d)) ds < (p + 1) * M.size ^ (ds.length + 1)
    rw [z]
    refine Nat.lt_of_lt_of_le ih ?_
    rw [Nat.pow_succ, Nat.mul_comm (M.size ^ ds.length), ← Nat.mul_assoc]
    refine Nat.mul_le_mul_right _ ?_
    rw [Nat.succ_mul]
    omega
end
/-- a term at the top: a truth's, or a thing's -/
def TopOk (R S : List Row) (kn : List Str) (b : Bool) (d : PyData) : Prop := if b = true then ∃ (r : Row) (ds : List PyData), d = .tuple (.str r.1 :: ds) ∧ r ∈ S ∧ r.2.1 = ds.length ∧ TOkL R kn ds else TOk R kn d
theorem ev_truth (m : MoOk M R S) (e : EnOk M E kn) {d : PyData} (h : TopOk R S kn true d) : ∃ b, evT M E d = .bl b := by
  obtain ⟨r, ds, rfl, hr, ar, hds⟩ := (show ∃ (r : Row) (ds : List PyData), d = .tuple (.str r.1 :: ds) ∧ r ∈ S ∧ r.2.1 = ds.length ∧ TOkL R kn ds from h)
  have lt := ix_lt m e ds hds 0
  obtain ⟨l1, l2⟩ := m.truth r hr
  rw [Nat.zero_add, Nat.one_mul, ← ar, ← l1] at lt
  obtain ⟨v, hv⟩ : ∃ v, (M.tab r.1)[ixL M E 0 ds]? = some v := ⟨_, List.getElem?_eq_getElem lt⟩
  obtain ⟨b, rfl⟩ := l2 v (List.mem_of_getElem? hv)
  refine ⟨b, ?_⟩
  show ((M.tab r.1)[ixL M E 0 ds]?).getD .non = _
  rw [hv]
  rfl
end
/-- what a sentence comes to -/
def mean (M : Mo) : En → Sn → Bool
  | E, .atm false as => truV (evT M E (as.getD 0 .none))
  | E, .atm true as => decide (evT M E (as.getD 0 .none) = evT M E (as.getD 1 .none))
  | E, .qu true x s => (List.range M.size).all fun n => mean M (E.set x n) s
  | E, .qu false x s => (List.range M.size).any fun n => mean M (E.set x n) s
  | E, .one s => !mean M E s
  | E, .two w a b => if w = "and" then mean M E a && mean M E b else if w = "or" then mean M E a || mean M E b else if w = "then" then !mean M E a || mean M E b else mean M E a == mean M E b
/-! ### in the heap -/
/-- a row of names told there, with the values of the structure -/
def TabAt (K : PySem.W.Frag) (H : Hp) (M : Mo) (T : List Row) (td : Addr) : Prop := ∃ kvs, H td = some (.dK kvs) ∧ ∀ r ∈ T, ∃ t, valV kvs (.inr r.1) = some (.ref t) ∧ SqT K H t (M.tab r.1)
theorem TabAt.same {K : PySem.W.Frag} {H H' : Hp} (s : Same H H') {M : Mo} {T : List Row} {td : Addr} (h : TabAt K H M T td) : TabAt K H' M T td := by
  obtain ⟨kvs, e, q⟩ := h
  refine ⟨kvs, s _ _ e, fun r hr => ?_⟩
  obtain ⟨t, t1, t2⟩ := q r hr
  exact ⟨t, t1, (TK.same s).sq t2⟩
def ValAt (H : Hp) (vd : Addr) (E : En) : Prop := ∃ kvs, H vd = some (.dK kvs) ∧ (∀ x, valV kvs (.inr x) = (E x).map fun n => .int ((n : Nat) : Int)) ∧ kvs.length ≤ 1000
theorem ValAt.same {H H' : Hp} (s : Same H H') {vd : Addr} {E : En} (h : ValAt H vd E) : ValAt H' vd E := by
  obtain ⟨kvs, e, q⟩ := h
  exact ⟨kvs, s _ _ e, q⟩
def strF (n : Nat) (td : Addr) : List (Str × V) := putF "tables" (.ref td) (putF "size" (.int (n : Int)) [])
theorem nST : ¬ (("size" : Str) = "tables") := by decide +kernel
theorem strF_size (n : Nat) (td : Addr) : (strF n td).lookup ("size" : Str) = some (.int (n : Int)) := by
  unfold strF
  rw [lookup_putF, if_neg nST, lookup_putF, if_pos rfl]
theorem strF_tables (n : Nat) (td : Addr) : (strF n td).lookup ("tables" : Str) = some (.ref td) := by
  unfold strF
  rw [lookup_putF, if_pos rfl]
/-- a Structure stands at o -/
def StrI (K : PySem.W.Frag) (C : Addr) (H : Hp) (o td : Addr) (M : Mo) (T : List Row) : Prop := (∃ dx, H o = some (.ins C dx (strF M.size td))) ∧ TabAt K H M T td
theorem StrI.same {K : PySem.W.Frag} {C : Addr} {H H' : Hp} (s : Same H H') {o td : Addr} {M : Mo} {T : List Row} (h : StrI K C H o td M T) : StrI K C H' o td M T := by
  obtain ⟨⟨dx, e⟩, t⟩ := h
  exact ⟨⟨dx, s _ _ e⟩, t.same s⟩
/-! ### terms as data -/
section
variable {R S : List Row} {kn : List Str}
mutual
theorem tok_lay (hR : ∀ r ∈ R, PyData.strOk r.1 = true) (hk : ∀ x ∈ kn, PyData.strOk x = true) : ∀ d : PyData, TOk R kn d → d.canLay0 = true
  | .str x, h => hk x h
  | .tuple [], h => h.elim
  | .tuple (x :: ds), h => by
    obtain ⟨⟨r, hr, rfl, _⟩, hds⟩ := h
    show (PyData.strOk r.1 && PyData.canLayAll0 ds) = true
    rw [hR r hr, tok_layL hR hk ds hds]
    rfl
  | .none, h => h.elim
  | .bool _, h => h.elim
  | .int _, h => h.elim
  | .list _, h => h.elim
  | .dict _, h => h.elim
theorem tok_layL (hR : ∀ r ∈ R, PyData.strOk r.1 = true) (hk : ∀ x ∈ kn, PyData.strOk x = true) : ∀ ds : List PyData, TOkL R kn ds → PyData.canLayAll0 ds = true
  | [], _ => rfl
  | d :: ds, h => by
    show (d.canLay0 && PyData.canLayAll0 ds) = true
    rw [tok_lay hR hk d h.1, tok_layL hR hk ds h.2]
    rfl
end
mutual
theorem tok_depth : ∀ d : PyData, TOk R kn d → d.depth ≤ (partsD d).length
  | .str x, _ => Nat.zero_le _
  | .tuple [], h => h.elim
  | .tuple (x :: ds), h => by
    obtain ⟨⟨r, hr, rfl, _⟩, hds⟩ := h
    have ih := tok_depthL ds hds
    show max (PyData.str r.1).depth (PyData.depthAll ds) + 1 ≤ (PyData.tuple (.str r.1 :: ds) :: partsDL ds).length
    have z : (PyData.str r.1).depth = 0 := rfl
    rw [z, List.length_cons]
    omega
  | .none, h => h.elim
  | .bool _, h => h.elim
  | .int _, h => h.elim
  | .list _, h => h.elim
  | .dict _, h => h.elim
theorem tok_depthL : ∀ ds : List PyData, TOkL R kn ds → PyData.depthAll ds ≤ (partsDL ds).length
  | [], _ => Nat.zero_le _
  | d :: ds, h => by
    have h1 := tok_depth d h.1
    have h2 := tok_depthL ds h.2
    show max d.depth (PyData.depthAll ds) ≤ (partsD d ++ partsDL ds).length
    rw [List.length_append]
    omega
end
end
end Ad

/-! Plain sentences, and such with not gone inwards. -/
namespace Ad
open PySem PySem.Spec PySem.Calls PyProof.Rows L2
namespace Sn
/-- without then and same -/
def pl : Sn → Sn
  | .atm eq as => .atm eq as
  | .qu al x s => .qu al x (pl s)
  | .one s => .one (pl s)
  | .two w a b => if w = "then" then .two "or" (.one (pl a)) (pl b) else if w = "same" then .two "and" (.two "or" (.one (pl a)) (pl b)) (.two "or" (.one (pl b)) (pl a)) else .two w (pl a) (pl b)
def isPl : Sn → Bool
  | .atm _ _ => true
  | .qu _ _ s => isPl s
  | .one s => isPl s
  | .two w a b => decide (w ∈ (["and", "or"] : List Str)) && (isPl a && isPl b)
/-- the sentence (b), or its not, with not just ahead of atoms -/
def inw : Bool → Sn → Sn
  | b, .atm eq as => if b = true then .atm eq as else .one (.atm eq as)
  | b, .qu al x s => .qu (al == b) x (inw b s)
  | b, .one s => inw (!b) s
  | b, .two w a c => .two (if b = true then w else if w = "and" then "or" else "and") (inw b a) (inw b c)
theorem tw (w : Str) : w = "then" ∨ w = "same" ∨ (w ≠ "then" ∧ w ≠ "same") := by
  by_cases h1 : w = "then"
  · exact .inl h1
  · by_cases h2 : w = "same"
    · exact .inr (.inl h2)
    · exact .inr (.inr ⟨h1, h2⟩)
theorem ns_then : ¬ (("same" : Str) = "then") := by decide +kernel
theorem pl_then (a b : Sn) : pl (.two "then" a b) = .two "or" (.one (pl a)) (pl b) := if_pos rfl
theorem pl_same (a b : Sn) : pl (.two "same" a b) = .two "and" (.two "or" (.one (pl a)) (pl b)) (.two "or" (.one (pl b)) (pl a)) := by
  show (if ("same" : Str) = "then" then _ else if ("same" : Str) = "same" then _ else _) = _
  rw [if_neg ns_then, if_pos rfl]
theorem pl_two {w : Str} (h1 : w ≠ "then") (h2 : w ≠ "same") (a b : Sn) : pl (.two w a b) = .two w (pl a) (pl b) := by
  show (if w = "then" then _ else if w = "same" then _ else _) = _
  rw [if_neg h1, if_neg h2]
theorem okw {w : Str} {a b : Sn} (h : ok (.two w a b) = true) : w ∈ (["and", "or", "then", "same"] : List Str) ∧ a.ok = true ∧ b.ok = true := by
  obtain ⟨h1, h2⟩ := Bool.and_eq_true_iff.mp (show (decide (w ∈ (["and", "or", "then", "same"] : List Str)) && (a.ok && b.ok)) = true from h)
  exact ⟨of_decide_eq_true h1, Bool.and_eq_true_iff.mp h2⟩
theorem and_or {w : Str} (h : w ∈ (["and", "or", "then", "same"] : List Str)) (h1 : w ≠ "then") (h2 : w ≠ "same") : w = "and" ∨ w = "or" := by
  rcases List.mem_cons.mp h with e | h
  · exact .inl e
  rcases List.mem_cons.mp h with e | h
  · exact .inr e
  rcases List.mem_cons.mp h with e | h
  · exact absurd e h1
  exact absurd (List.mem_singleton.mp h) h2
theorem ok_or (a b : Sn) : ok (.two "or" a b) = (a.ok && b.ok) := by
  show (decide (("or" : Str) ∈ (["and", "or", "then", "same"] : List Str)) && (a.ok && b.ok)) = _
  rw [decide_eq_true (by decide +kernel), Bool.true_and]
theorem ok_and (a b : Sn) : ok (.two "and" a b) = (a.ok && b.ok) := by
  show (decide (("and" : Str) ∈ (["and", "or", "then", "same"] : List Str)) && (a.ok && b.ok)) = _
  rw [decide_eq_true (by decide +kernel), Bool.true_and]
theorem pl_ok : ∀ s : Sn, s.ok = true → s.pl.ok = true
  | .atm _ _, _ => rfl
  | .qu _ _ s, h => pl_ok s h
  | .one s, h => pl_ok s h
  | .two w a b, h => by
    obtain ⟨h1, h2, h3⟩ := okw h
    have ia := pl_ok a h2
    have ib := pl_ok b h3
    rcases tw w with rfl | rfl | ⟨n1, n2⟩
    · rw [pl_then, ok_or]
      show ((pl a).ok && (pl b).ok) = true
      rw [ia, ib]
      rfl
    · rw [pl_same, ok_and, ok_or, ok_or]
      show (((pl a).ok && (pl b).ok) && ((pl b).ok && (pl a).ok)) = true
      rw [ia, ib]
      rfl
    · rw [pl_two n1 n2]
      show (decide (w ∈ (["and", "or", "then", "same"] : List Str)) && ((pl a).ok && (pl b).ok)) = true
      rw [ia, ib, decide_eq_true h1]
      rfl
theorem isPl_or (a b : Sn) : isPl (.two "or" a b) = (a.isPl && b.isPl) := by
  show (decide (("or" : Str) ∈ (["and", "or"] : List Str)) && (a.isPl && b.isPl)) = _
  rw [decide_eq_true (by decide +kernel), Bool.true_and]
theorem isPl_and (a b : Sn) : isPl (.two "and" a b) = (a.isPl && b.isPl) := by
  show (decide (("and" : Str) ∈ (["and", "or"] : List Str)) && (a.isPl && b.isPl)) = _
  rw [decide_eq_true (by decide +kernel), Bool.true_and]
theorem pl_isPl : ∀ s : Sn, s.ok = true → s.pl.isPl = true
  | .atm _ _, _ => rfl
  | .qu _ _ s, h => pl_isPl s h
  | .one s, h => pl_isPl s h
  | .two w a b, h => by
    obtain ⟨h1, h2, h3⟩ := okw h
    have ia := pl_isPl a h2
    have ib := pl_isPl b h3
    rcases tw w with rfl | rfl | ⟨n1, n2⟩
    · rw [pl_then, isPl_or]
      show ((pl a).isPl && (pl b).isPl) = true
      rw [ia, ib]
      rfl
    · rw [pl_same, isPl_and, isPl_or, isPl_or]
      show (((pl a).isPl && (pl b).isPl) && ((pl b).isPl && (pl a).isPl)) = true
      rw [ia, ib]
      rfl
    · rw [pl_two n1 n2]
      show (decide (w ∈ (["and", "or"] : List Str)) && ((pl a).isPl && (pl b).isPl)) = true
      rw [ia, ib]
      rcases and_or h1 n1 n2 with rfl | rfl
      · decide +kernel
      · decide +kernel
theorem pl_wf : ∀ s : Sn, s.wf = true → s.pl.wf = true
  | .atm _ _, h => h
  | .qu _ _ s, h => pl_wf s h
  | .one s, h => pl_wf s h
  | .two w a b, h => by
    obtain ⟨h2, h3⟩ := Bool.and_eq_true_iff.mp (show (a.wf && b.wf) = true from h)
    have ia := pl_wf a h2
    have ib := pl_wf b h3
    rcases tw w with rfl | rfl | ⟨n1, n2⟩
    · rw [pl_then]
      show ((pl a).wf && (pl b).wf) = true
      rw [ia, ib]
      rfl
    · rw [pl_same]
      show (((pl a).wf && (pl b).wf) && ((pl b).wf && (pl a).wf)) = true
      rw [ia, ib]
      rfl
    · rw [pl_two n1 n2]
      show ((pl a).wf && (pl b).wf) = true
      rw [ia, ib]
      rfl
theorem pl_good {R S : List Row} : ∀ (s : Sn) (kn : List Str), good R S kn s → good R S kn s.pl
  | .atm false _, _, h => h
  | .atm true _, _, h => h
  | .qu _ x s, kn, h => ⟨h.1, pl_good s (kn ++ [x]) h.2⟩
  | .one s, kn, h => pl_good s kn h
  | .two w a b, kn, h => by
    have ia := pl_good a kn h.1
    have ib := pl_good b kn h.2
    rcases tw w with rfl | rfl | ⟨n1, n2⟩
    · rw [pl_then]
      exact ⟨ia, ib⟩
    · rw [pl_same]
      exact ⟨⟨ia, ib⟩, ⟨ib, ia⟩⟩
    · rw [pl_two n1 n2]
      exact ⟨ia, ib⟩
theorem pl_hi : ∀ s : Sn, s.pl.hi + 2 ≤ 3 * s.hi
  | .atm _ _ => Nat.le_refl _
  | .qu _ _ s => by
    have := pl_hi s
    show 1 + s.pl.hi + 2 ≤ 3 * (1 + s.hi)
    omega
  | .one s => by
    have := pl_hi s
    show 1 + s.pl.hi + 2 ≤ 3 * (1 + s.hi)
    omega
  | .two w a b => by
    have ha := pl_hi a
    have hb := pl_hi b
    rcases tw w with rfl | rfl | ⟨n1, n2⟩
    · rw [pl_then]
      show 1 + max (1 + (pl a).hi) (pl b).hi + 2 ≤ 3 * (1 + max a.hi b.hi)
      omega
    · rw [pl_same]
      show 1 + max (1 + max (1 + (pl a).hi) (pl b).hi) (1 + max (1 + (pl b).hi) (pl a).hi) + 2 ≤ 3 * (1 + max a.hi b.hi)
      omega
    · rw [pl_two n1 n2]
      show 1 + max (pl a).hi (pl b).hi + 2 ≤ 3 * (1 + max a.hi b.hi)
      omega
theorem pow4 {a b : Nat} (h : a ≤ b) : 4 ^ a ≤ 4 ^ b := Nat.pow_le_pow_right (by decide) h
/-- how many words at most the plain form has -/
theorem pl_words : ∀ s : Sn, s.pl.words ≤ 2 * 4 ^ s.sames * s.words
  | .atm eq as => by
    show spwL as + 1 ≤ 2 * 4 ^ 0 * (spwL as + 1)
    omega
  | .qu _ _ s => by
    have h := pl_words s
    have p : 1 ≤ 4 ^ s.sames := Nat.pow_pos (by decide)
    show 2 + s.pl.words ≤ 2 * 4 ^ s.sames * (2 + s.words)
    rw [Nat.mul_add]
    generalize 4 ^ s.sames = k at p h ⊢
    generalize 2 * k * s.words = z at h ⊢
    omega
  | .one s => by
    have h := pl_words s
    have p : 1 ≤ 4 ^ s.sames := Nat.pow_pos (by decide)
    show 1 + s.pl.words ≤ 2 * 4 ^ s.sames * (1 + s.words)
    rw [Nat.mul_add]
    generalize 4 ^ s.sames = k at p h ⊢
    generalize 2 * k * s.words = z at h ⊢
    omega
  | .two w a b => by
    have ha := pl_words a
    have hb := pl_words b
    have p : 1 ≤ 4 ^ max a.sames b.sames := Nat.pow_pos (by decide)
    have qa : 2 * 4 ^ a.sames * a.words ≤ 2 * 4 ^ max a.sames b.sames * a.words := Nat.mul_le_mul_right _ (Nat.mul_le_mul_left _ (pow4 (Nat.le_max_left _ _)))
    have qb : 2 * 4 ^ b.sames * b.words ≤ 2 * 4 ^ max a.sames b.sames * b.words := Nat.mul_le_mul_right _ (Nat.mul_le_mul_left _ (pow4 (Nat.le_max_right _ _)))
    have ia := Nat.le_trans ha qa
    have ib := Nat.le_trans hb qb
    clear ha hb qa qb
    rcases tw w with rfl | rfl | ⟨n1, n2⟩
    · rw [pl_then]
      show 1 + ((1 + a.pl.words) + b.pl.words) ≤ 2 * 4 ^ ((if ("then" : Str) = "same" then 1 else 0) + max a.sames b.sames) * (1 + (a.words + b.words))
      rw [if_neg (show ¬ (("then" : Str) = "same") by decide +kernel), Nat.zero_add, Nat.mul_add, Nat.mul_add]
      generalize 4 ^ max a.sames b.sames = k at p ia ib ⊢
      generalize 2 * k * a.words = z1 at ia ⊢
      generalize 2 * k * b.words = z2 at ib ⊢
      omega
    · rw [pl_same]
      show 1 + ((1 + ((1 + a.pl.words) + b.pl.words)) + (1 + ((1 + b.pl.words) + a.pl.words))) ≤ 2 * 4 ^ ((if ("same" : Str) = "same" then 1 else 0) + max a.sames b.sames) * (1 + (a.words + b.words))
      rw [if_pos rfl, Nat.pow_add, Nat.pow_one, Nat.mul_add, Nat.mul_add]
      generalize 4 ^ max a.sames b.sames = k at p ia ib ⊢
      rw [show 2 * (4 * k) = 4 * (2 * k) by omega, Nat.mul_assoc 4 (2 * k) a.words, Nat.mul_assoc 4 (2 * k) b.words, Nat.mul_one]
      generalize 2 * k * a.words = z1 at ia ⊢
      generalize 2 * k * b.words = z2 at ib ⊢
      omega
    · rw [pl_two n1 n2]
      show 1 + (a.pl.words + b.pl.words) ≤ 2 * 4 ^ ((if w = "same" then 1 else 0) + max a.sames b.sames) * (1 + (a.words + b.words))
      rw [if_neg n2, Nat.zero_add, Nat.mul_add, Nat.mul_add]
      generalize 4 ^ max a.sames b.sames = k at p ia ib ⊢
      generalize 2 * k * a.words = z1 at ia ⊢
      generalize 2 * k * b.words = z2 at ib ⊢
      omega
end Sn
theorem mean_and (M : Mo) (E : En) (a b : Sn) : mean M E (.two "and" a b) = (mean M E a && mean M E b) := if_pos rfl
theorem mean_or (M : Mo) (E : En) (a b : Sn) : mean M E (.two "or" a b) = (mean M E a || mean M E b) := by
  show (if ("or" : Str) = "and" then _ else if ("or" : Str) = "or" then _ else _) = _
  rw [if_neg (by decide +kernel), if_pos rfl]
theorem mean_then (M : Mo) (E : En) (a b : Sn) : mean M E (.two "then" a b) = (!mean M E a || mean M E b) := by
  show (if ("then" : Str) = "and" then _ else if ("then" : Str) = "or" then _ else if ("then" : Str) = "then" then _ else _) = _
  rw [if_neg (by decide +kernel), if_neg (by decide +kernel), if_pos rfl]
theorem mean_same (M : Mo) (E : En) (a b : Sn) : mean M E (.two "same" a b) = (mean M E a == mean M E b) := by
  show (if ("same" : Str) = "and" then _ else if ("same" : Str) = "or" then _ else if ("same" : Str) = "then" then _ else _) = _
  rw [if_neg (by decide +kernel), if_neg (by decide +kernel), if_neg (by decide +kernel)]
theorem mean_pl (M : Mo) : ∀ (s : Sn) (E : En), s.ok = true → mean M E s.pl = mean M E s
  | .atm _ _, _, _ => rfl
  | .qu true x s, E, h => by
    show ((List.range M.size).all fun n => mean M (E.set x n) s.pl) = (List.range M.size).all fun n => mean M (E.set x n) s
    congr 1
    funext n
    exact mean_pl M s _ h
  | .qu false x s, E, h => by
    show ((List.range M.size).any fun n => mean M (E.set x n) s.pl) = (List.range M.size).any fun n => mean M (E.set x n) s
    congr 1
    funext n
    exact mean_pl M s _ h
  | .one s, E, h => by
    show (!mean M E s.pl) = !mean M E s
    rw [mean_pl M s E h]
  | .two w a b, E, h => by
    obtain ⟨h1, h2, h3⟩ := Sn.okw h
    have ia := mean_pl M a E h2
    have ib := mean_pl M b E h3
    rcases Sn.tw w with rfl | rfl | ⟨n1, n2⟩
    · rw [Sn.pl_then, mean_or, mean_then]
      show (!mean M E a.pl || mean M E b.pl) = _
      rw [ia, ib]
    · rw [Sn.pl_same, mean_and, mean_or, mean_or, mean_same]
      show ((!mean M E a.pl || mean M E b.pl) && (!mean M E b.pl || mean M E a.pl)) = _
      rw [ia, ib]
      cases mean M E a <;> cases mean M E b <;> rfl
    · rw [Sn.pl_two n1 n2]
      rcases Sn.and_or h1 n1 n2 with rfl | rfl
      · rw [mean_and, mean_and, ia, ib]
      · rw [mean_or, mean_or, ia, ib]
theorem allN {α : Type} (f : α → Bool) : ∀ l : List α, (l.all fun x => !f x) = !l.any f
  | [] => rfl
  | x :: l => by
    show (!f x && l.all fun x => !f x) = !(f x || l.any f)
    rw [allN f l]
    cases f x <;> rfl
theorem anyN {α : Type} (f : α → Bool) : ∀ l : List α, (l.any fun x => !f x) = !l.all f
  | [] => rfl
  | x :: l => by
    show (!f x || l.any fun x => !f x) = !(f x && l.all f)
    rw [anyN f l]
    cases f x <;> rfl
theorem beqT1 (b : Bool) : (b == true) = b := by cases b <;> rfl
theorem beqF1 (b : Bool) : (b == false) = !b := by cases b <;> rfl
theorem mean_inw (M : Mo) : ∀ (s : Sn) (E : En) (b : Bool), s.isPl = true → mean M E (s.inw b) = (mean M E s == b)
  | .atm eq as, E, true, _ => (beqT1 _).symm
  | .atm eq as, E, false, _ => (beqF1 _).symm
  | .qu true x s, E, true, h => by
    rw [beqT1]
    show ((List.range M.size).all fun n => mean M (E.set x n) (s.inw true)) = (List.range M.size).all fun n => mean M (E.set x n) s
    congr 1
    funext n
    rw [mean_inw M s _ true h, beqT1]
  | .qu false x s, E, true, h => by
    rw [beqT1]
    show ((List.range M.size).any fun n => mean M (E.set x n) (s.inw true)) = (List.range M.size).any fun n => mean M (E.set x n) s
    congr 1
    funext n
    rw [mean_inw M s _ true h, beqT1]
  | .qu true x s, E, false, h => by
    rw [beqF1]
    show ((List.range M.size).any fun n => mean M (E.set x n) (s.inw false)) = !(List.range M.size).all fun n => mean M (E.set x n) s
    rw [← anyN]
    congr 1
    funext n
    rw [mean_inw M s _ false h, beqF1]
  | .qu false x s, E, false, h => by
    rw [beqF1]
    show ((List.range M.size).all fun n => mean M (E.set x n) (s.inw false)) = !(List.range M.size).any fun n => mean M (E.set x n) s
    rw [← allN]
    congr 1
    funext n
    rw [mean_inw M s _ false h, beqF1]
  | .one s, E, b, h => by
    show mean M E (s.inw (!b)) = ((!mean M E s) == b)
    rw [mean_inw M s E (!b) h]
    cases mean M E s <;> cases b <;> rfl
  | .two w a c, E, b, h => by
    obtain ⟨h1, h2⟩ := Bool.and_eq_true_iff.mp (show (decide (w ∈ (["and", "or"] : List Str)) && (a.isPl && c.isPl)) = true from h)
    obtain ⟨h3, h4⟩ := Bool.and_eq_true_iff.mp h2
    have ia := mean_inw M a E b h3
    have ic := mean_inw M c E b h4
    have wd : w = "and" ∨ w = "or" := by
      rcases List.mem_cons.mp (of_decide_eq_true h1) with e | e
      · exact .inl e
      · exact .inr (List.mem_singleton.mp e)
    show mean M E (.two (if b = true then w else if w = "and" then "or" else "and") (a.inw b) (c.inw b)) = _
    cases b with
    | true =>
      rw [if_pos rfl]
      rcases wd with rfl | rfl
      · rw [mean_and, mean_and, ia, ic, beqT1, beqT1, beqT1]
      · rw [mean_or, mean_or, ia, ic, beqT1, beqT1, beqT1]
    | false =>
      rw [if_neg Bool.false_ne_true]
      rcases wd with rfl | rfl
      · rw [if_pos rfl, mean_or, mean_and, ia, ic, beqF1, beqF1, beqF1]
        cases mean M E a <;> cases mean M E c <;> rfl
      · rw [if_neg (show ¬ (("or" : Str) = "and") by decide +kernel), mean_and, mean_or, ia, ic, beqF1, beqF1, beqF1]
        cases mean M E a <;> cases mean M E c <;> rfl
end Ad

/-! Words of sentences, compared. -/
namespace Ad
open PySem PySem.Spec PySem.Calls PyProof.Rows L2
theorem wne {x y : Str} (h : x ≠ y) : V.bl (decide (V.str x = V.str y)) = .bl false := congrArg V.bl (decide_eq_false fun z => h (V.str.inj z))
theorem weq (x : Str) : V.bl (decide (V.str x = V.str x)) = .bl true := congrArg V.bl (decide_eq_true rfl)
theorem word_two {w : Str} (h : w ∈ (["and", "or", "then", "same"] : List Str)) : w ≠ "is" ∧ w ≠ "equal" ∧ w ≠ "all" ∧ w ≠ "some" := by
  rcases List.mem_cons.mp h with rfl | h
  · decide +kernel
  rcases List.mem_cons.mp h with rfl | h
  · decide +kernel
  rcases List.mem_cons.mp h with rfl | h
  · decide +kernel
  rcases List.mem_cons.mp h with rfl | h
  · decide +kernel
  cases h
theorem word_at (eq : Bool) (as : List PyData) : (decide (Sn.word (.atm eq as) = "is") || decide (Sn.word (.atm eq as) = "equal")) = true := by
  cases eq
  · show (decide (("is" : Str) = "is") || decide (("is" : Str) = "equal")) = true
    decide +kernel
  · show (decide (("equal" : Str) = "is") || decide (("equal" : Str) = "equal")) = true
    decide +kernel
theorem word_qu (al : Bool) (z : Str) (s : Sn) : (decide (Sn.word (.qu al z s) = "is") || decide (Sn.word (.qu al z s) = "equal")) = false := by
  cases al
  · show (decide (("some" : Str) = "is") || decide (("some" : Str) = "equal")) = false
    decide +kernel
  · show (decide (("all" : Str) = "is") || decide (("all" : Str) = "equal")) = false
    decide +kernel
theorem word_qu2 (al : Bool) (z : Str) (s : Sn) : (decide (Sn.word (.qu al z s) = "all") || decide (Sn.word (.qu al z s) = "some")) = true := by
  cases al
  · show (decide (("some" : Str) = "all") || decide (("some" : Str) = "some")) = true
    decide +kernel
  · show (decide (("all" : Str) = "all") || decide (("all" : Str) = "some")) = true
    decide +kernel
theorem hd_test {K : PySem.W.Frag} {σ : L2.St} {G : Hp} {i : Nat} {a : Addr} {w y : Str} {vs : List V} {f : Bool → Hp → Prop} (e : σ[i]? = some (some (.ref a))) (sq : SqT K G a (.str w :: vs)) (h : f (decide (w = y)) G) :
    tTest (tOp rEq (tOp (rIxT K) (tVar i) (tC (.int 0))) (tC (.str y))) σ G f := by
  refine ⟨.ref a, e, a, _, 0, .str w, rfl, rfl, sq, atI_nat (j := 0) rfl, rfl, decide (w = y), ?_, h⟩
  by_cases z : w = y
  · subst z
    rw [weq, decide_eq_true rfl]
  · rw [wne z, decide_eq_false z]
theorem hd_or {K : PySem.W.Frag} {σ : L2.St} {G : Hp} {i : Nat} {a : Addr} {w y z : Str} {vs : List V} {f : Bool → Hp → Prop} (e : σ[i]? = some (some (.ref a))) (sq : SqT K G a (.str w :: vs)) (h : f (decide (w = y) || decide (w = z)) G) :
    tOr (tTest (tOp rEq (tOp (rIxT K) (tVar i) (tC (.int 0))) (tC (.str y)))) (tTest (tOp rEq (tOp (rIxT K) (tVar i) (tC (.int 0))) (tC (.str z)))) σ G f := by
  refine hd_test e sq ?_
  cases q : decide (w = y) with
  | true =>
    rw [q] at h
    exact iteT h
  | false =>
    rw [q] at h
    exact iteF (hd_test e sq h)
theorem catA_run {K : PySem.W.Frag} {G : Hp} {c z : Addr} {xs ys : List V} {Q : VK} (hc : SqT K G c xs) (hz : SqT K G z ys) (ny : ys ≠ []) (few : xs.length + ys.length ≤ sizeLine) (q : ∀ r G', Same G G' → SqT K G' r (xs ++ ys) → Q (.ref r) G') : rCatA K (.ref c) (.ref z) G Q := by
  refine ⟨c, z, xs, ys, rfl, rfl, hc, hz, few, fun e => ?_, fun _ e => absurd e ny, fun _ _ p np => ?_⟩
  · subst e
    exact q z G (Same.refl _) hz
  · exact q p _ (same_new (fun b o e => e) np _) (.inl (.inl upd_same))
end Ad

/-! x in [..] of texts. -/
namespace Ad
open PySem PySem.Spec PySem.Calls PyProof.Rows L2
theorem inV_two (wd : Str) : inV (.str wd) [.str "all", .str "some"] = (decide (wd = "all") || decide (wd = "some")) := by
  by_cases h1 : wd = "all"
  · subst h1
    decide +kernel
  · by_cases h2 : wd = "some"
    · subst h2
      decide +kernel
    · rw [decide_eq_false h1, decide_eq_false h2]
      unfold inV
      rw [Bool.or_false, List.any_eq_false]
      intro y hy z
      rcases List.mem_cons.mp hy with rfl | hy
      · have e : wd = "all" := by
          first
            | exact beq_iff_eq.mp z
            | exact (beq_iff_eq.mp z).symm
        exact h1 e
      · cases List.mem_singleton.mp hy
        have e : wd = "some" := by
          first
            | exact beq_iff_eq.mp z
            | exact (beq_iff_eq.mp z).symm
        exact h2 e
theorem inV_mem (x : Str) (T : List Str) : inV (.str x) (T.map V.str) = decide (x ∈ T) := by
  by_cases h : x ∈ T
  · rw [decide_eq_true h]
    unfold inV
    refine List.any_eq_true.mpr ⟨.str x, List.mem_map.mpr ⟨x, h, rfl⟩, ?_⟩
    show (x == x) = true
    exact beq_self_eq_true x
  · rw [decide_eq_false h]
    unfold inV
    rw [List.any_eq_false]
    intro y hy z
    obtain ⟨t, ht, rfl⟩ := List.mem_map.mp hy
    have e : x = t := by
      first
        | exact beq_iff_eq.mp z
        | exact (beq_iff_eq.mp z).symm
    rw [e] at h
    exact h ht
theorem flat_texts (T : List Str) : (T.map V.str).all flatV = true := by
  rw [List.all_eq_true]
  intro y hy
  obtain ⟨t, _, rfl⟩ := List.mem_map.mp hy
  rfl
theorem go_out {b : Bool} (h : b = false) {A B : Prop} (q : B) : if b = true then A else B := by
  rw [h]
  exact iteF q
theorem go_in {b : Bool} (h : b = true) {A B : Prop} (q : A) : if b = true then A else B := by
  rw [h]
  exact iteT q
end Ad

/-! value_in. -/
namespace Ad
open PySem PySem.Spec PySem.Calls PyProof.Rows L2
abbrev sValueIn : Stmt := topS 7
theorem scValueIn : FnScope ["structure", "term", "values", "index", "part"] ["structure", "term", "values"] (defScope sValueIn) := ⟨rfl, rfl, rfl, by decide +kernel, rfl, by decide +kernel, by decide +kernel⟩
/-- a term, its structure, its values -/
structure Ask (K : PySem.W.Frag) (H : Hp) (M : Mo) (R S : List Row) (E : En) (kn : List Str) (vd : Addr) : Prop where
  mo : MoOk M R S
  en : EnOk M E kn
  val : ValAt H vd E
  names : ∀ r ∈ R ++ S, nameOk r.1 = true ∧ r.1 ≠ "yes"
  great : ∀ x ∈ kn, PyData.strOk x = true
theorem Ask.same {K : PySem.W.Frag} {H H' : Hp} (s : Same H H') {M : Mo} {R S : List Row} {E : En} {kn : List Str} {vd : Addr} (h : Ask K H M R S E kn vd) : Ask K H' M R S E kn vd := ⟨h.mo, h.en, h.val.same s, h.names, h.great⟩
theorem strOk_name {x : Str} (h : nameOk x = true) : PyData.strOk x = true := (Bool.and_eq_true_iff.mp h).1
theorem Ask.lay {K : PySem.W.Frag} {H : Hp} {M : Mo} {R S : List Row} {E : En} {kn : List Str} {vd : Addr} (h : Ask K H M R S E kn vd) {b : Bool} {d : PyData} (t : TopOk R S kn b d) (few : (partsD d).length ≤ 60) : SeqAt.shaped d = true := by
  have hR : ∀ r ∈ R, PyData.strOk r.1 = true := fun r hr => strOk_name (h.names r (List.mem_append_left _ hr)).1
  cases b with
  | false =>
    have t' : TOk R kn d := t
    have l := tok_lay hR h.great d t'
    have dp := tok_depth d t'
    unfold SeqAt.shaped
    rw [l, Bool.true_and]
    exact decide_eq_true (by omega)
  | true =>
    obtain ⟨r, ds, rfl, hr, ar, hds⟩ := (show ∃ (r : Row) (ds : List PyData), d = .tuple (.str r.1 :: ds) ∧ r ∈ S ∧ r.2.1 = ds.length ∧ TOkL R kn ds from t)
    have l := tok_layL hR h.great ds hds
    have dp := tok_depthL ds hds
    have e : (partsD (.tuple (.str r.1 :: ds))).length = 1 + (partsDL ds).length := by
      show (PyData.tuple (.str r.1 :: ds) :: partsDL ds).length = _
      rw [List.length_cons]
      omega
    unfold SeqAt.shaped
    have l2 : (PyData.tuple (.str r.1 :: ds)).canLay0 = true := by
      show (PyData.strOk r.1 && PyData.canLayAll0 ds) = true
      rw [strOk_name (h.names r (List.mem_append_right _ hr)).1, l]
      rfl
    rw [l2, Bool.true_and]
    refine decide_eq_true ?_
    show max (PyData.str r.1).depth (PyData.depthAll ds) + 1 ≤ 64
    have z : (PyData.str r.1).depth = 0 := rfl
    rw [z]
    omega
theorem cmul_small {i : Int} {n : Nat} (h : n ≤ 100) : CMul i (n : Int) := .inr ⟨by omega, by omega⟩
def yesD : PyData := .tuple [.str "yes"]
theorem not_yes {x : Str} {ds : List PyData} (h : x ≠ "yes") : PyData.eqv (.tuple (.str x :: ds)) yesD = false := by
  have e0 : PyData.eqv (.tuple (.str x :: ds)) yesD = PyData.eqvAll (.str x :: ds) [.str "yes"] := by
    unfold yesD
    rw [PyData.eqv]
  rw [e0, eqvAll_cons]
  have es : PyData.eqv (.str x) (.str "yes") = (x == "yes") := by rw [PyData.eqv]
  rw [es]
  have : (x == ("yes" : Str)) = false := beq_eq_false_iff_ne.mpr h
  rw [this]
  rfl
/-- what a tuple term is made of -/
theorem hok_tup {R S : List Row} {kn : List Str} {b : Bool} {x : PyData} {ds : List PyData} (h : TopOk R S kn b (.tuple (x :: ds))) : ∃ r ∈ R ++ S, x = .str r.1 ∧ TOkL R kn ds := by
  cases b with
  | false =>
    obtain ⟨⟨r, hr, e, _⟩, hds⟩ := (show (∃ r ∈ R, x = .str r.1 ∧ r.2.1 = ds.length) ∧ TOkL R kn ds from h)
    exact ⟨r, List.mem_append_left _ hr, e, hds⟩
  | true =>
    obtain ⟨r, ds', e, hr, _, hds⟩ := (show ∃ (r : Row) (ds' : List PyData), PyData.tuple (x :: ds) = .tuple (.str r.1 :: ds') ∧ r ∈ S ∧ r.2.1 = ds'.length ∧ TOkL R kn ds' from h)
    have e1 := PyData.tuple.inj e
    have e2 := List.cons.inj e1
    refine ⟨r, List.mem_append_right _ hr, e2.1, ?_⟩
    rw [e2.2]
    exact hds
/-- the table's value is there -/
theorem hok_at {M : Mo} {R S : List Row} {E : En} {kn : List Str} (m : MoOk M R S) (e : EnOk M E kn) {b : Bool} {r : Row} {ds : List PyData} (h : TopOk R S kn b (.tuple (.str r.1 :: ds))) : ∃ v, (M.tab r.1)[ixL M E 0 ds]? = some v ∧ evT M E (.tuple (.str r.1 :: ds)) = v := by
  have lt : ∃ q : Row, q.1 = r.1 ∧ q.2.1 = ds.length ∧ (M.tab q.1).length = M.size ^ q.2.1 ∧ TOkL R kn ds := by
    cases b with
    | false =>
      obtain ⟨⟨q, hq, e1, ar⟩, hds⟩ := (show (∃ q ∈ R, PyData.str r.1 = .str q.1 ∧ q.2.1 = ds.length) ∧ TOkL R kn ds from h)
      exact ⟨q, (PyData.str.inj e1).symm, ar, (m.thing q hq).1, hds⟩
    | true =>
      obtain ⟨q, ds', e1, hq, ar, hds⟩ := (show ∃ (q : Row) (ds' : List PyData), PyData.tuple (.str r.1 :: ds) = .tuple (.str q.1 :: ds') ∧ q ∈ S ∧ q.2.1 = ds'.length ∧ TOkL R kn ds' from h)
      have e2 := List.cons.inj (PyData.tuple.inj e1)
      rw [← e2.2] at ar hds
      exact ⟨q, (PyData.str.inj e2.1).symm, ar, (m.truth q hq).1, hds⟩
  obtain ⟨q, q1, ar, len, hds⟩ := lt
  have l := ix_lt m e ds hds 0
  rw [Nat.zero_add, Nat.one_mul, ← ar, ← len, q1] at l
  obtain ⟨v, hv⟩ : ∃ v, (M.tab r.1)[ixL M E 0 ds]? = some v := ⟨_, List.getElem?_eq_getElem l⟩
  refine ⟨v, hv, ?_⟩
  show ((M.tab r.1)[ixL M E 0 ds]?).getD .non = v
  rw [hv]
  rfl
theorem tokL_mem {R : List Row} {kn : List Str} {d : PyData} : ∀ {ds : List PyData} {i : Nat}, TOkL R kn ds → ds[i]? = some d → TOk R kn d
  | [], i, _, h => by cases h
  | e :: ds, 0, t, h => by cases h; exact t.1
  | e :: ds, i + 1, t, h => tokL_mem (i := i) t.2 h
theorem partsDL_mem {d : PyData} : ∀ {ds : List PyData} {i : Nat}, ds[i]? = some d → (partsD d).length ≤ (partsDL ds).length
  | [], i, h => by cases h
  | e :: ds, 0, h => by
    cases h
    show (partsD d).length ≤ (partsD d ++ partsDL ds).length
    rw [List.length_append]
    omega
  | e :: ds, i + 1, h => by
    have := partsDL_mem (i := i) (ds := ds) h
    show (partsD d).length ≤ (partsD e ++ partsDL ds).length
    rw [List.length_append]
    omega
section
variable {P : Program} {w : World} {K : PySem.W.Frag} {mg : Str → Option Value} {base : Heap}
def spValIn (K : PySem.W.Frag) (C : Addr) (n : Nat) : Sp := fun vs H Q _ => ∃ (o td vd : Addr) (x : V) (d : PyData) (M : Mo) (E : En) (R S : List Row) (kn : List Str) (Hb : Hp) (b : Bool), vs = [.ref o, x, .ref vd] ∧ StrI K C H o td M (R ++ S) ∧ Ask K H M R S E kn vd ∧
  Same Hb H ∧ Dp K Hb x d ∧ TopOk R S kn b d ∧ (partsD d).length ≤ n ∧ n ≤ 60 ∧ ∀ H', Same H H' → Q (evT M E d) H'
theorem ok_valin {C f yA : Addr} {fd : FuncData} {k : Nat} (F : Fun K "value_in" "value_in" sValueIn f fd) (gF : mg "value_in" = some (.ref f)) (bF : Binds K fd ["structure", "term", "values"] [])
    (m_isinstance : mg "isinstance" = none) (m_tuple : mg "tuple" = none) (gY : mg "YES" = some (.ref yA)) (hY : ∀ H, SqT K H yA [.str "yes"]) (cls : Cls K C) (na1 : NoAttr K C "size") (na2 : NoAttr K C "tables") :
    ∀ n, FnOk P w K mg base CX0 (k + n) f fd ["structure", "term", "values"] (spValIn K C n)
  | 0 => vac fun vs H Q E ⟨o, td, vd, x, d, M, E', R, S, kn, Hb, b, _, _, _, _, _, _, z, _⟩ => absurd (Nat.le_trans (partsD_pos d) z) (by decide)
  | n + 1 => by
    have IH : FnOk P w K mg base CX0 (k + n) f fd ["structure", "term", "values"] (spValIn K C n) := ok_valin F gF bF m_isinstance m_tuple gY hY cls na1 na2 n
    refine F.ok scValueIn (fun vs H Q E h => ?_) (fun cdv A outer s H vs Q E hr h => ?_)
    · obtain ⟨o, td, vd, x, d, M, E', R, S, kn, Hb, b, rfl, _⟩ := h
      rfl
    · obtain ⟨o, td, vd, x, d, M, En, R, S, kn, Hb, b, rfl, st, ask, hb, hd, hok, small, n60, q⟩ := h
      have hu := hu64 hr
      refine ⟨_, (pss_cons (ps_if (pt_not (pt_val (pe_callB call_isi (by rfl) m_isinstance (by decide +kernel) (pa_cons (pv 1) (pa_cons (pe_bltn (v := .ty "tuple") (by rfl) m_tuple (by decide +kernel) rfl) pa_nil)))))
      (pss_one (ps_ret (pe_dget (hu1 hr) (pv 2) (pv 1) (fun _ _ => rfl)))) pss_nil)
    (pss_cons (ps_if (pt_cmpR (op_eqD hu) (pv 1) (pe_glob (v := .ref yA) (by rfl) gY rfl) (nomark _))
      (pss_one (ps_ret pe_bl)) pss_nil)
    (pss_cons (ps_set (i := 3) scValueIn.nd rfl (.inl rfl) pe_int)
    (pss_cons (ps_for PassesOwn.never rfl (pi_tup (pe_slice sl_tup (pv 1) (po_some pe_int) po_none)) (pg_name (i := 4) scValueIn.nd rfl (.inl rfl))
      (pss_one (ps_set (i := 3) scValueIn.nd rfl (.inl rfl) (pe_op op_add (pe_op op_mul (pv 3) (pe_fld (pv 0) rfl)) (pe_call IH hr (by rfl) gF F.kp bF .nil pass0 (pa_cons (pv 0) (pa_cons (pv 4) (pa_cons (pv 2) pa_nil))))))))
    (pss_one (ps_ret (pe_ix ix_tup (pe_dget (hu1 hr) (pe_fld (pv 0) rfl) (pe_ix ix_tup (pv 1) pe_int (fun _ _ => rfl)) (fun _ _ => rfl)) (pv 3) (fun _ _ => rfl)))))))), ?_⟩
      have shd := ask.lay hok (by omega)
      have hdH := dp_same hb hd
      refine ⟨x, rfl, _, .ty "tuple", tyD d, .type "tuple", _, rfl, .ty "tuple", dp_ty hdH, kit_tu d, _, rfl, ?_⟩
      cases d with
      | str y =>
        cases hd
        have b0 : b = false := by
          cases b with
          | false => rfl
          | true =>
            obtain ⟨r, ds, e, _⟩ := (show ∃ (r : Row) (ds : List PyData), PyData.str y = .tuple (.str r.1 :: ds) ∧ r ∈ S ∧ r.2.1 = ds.length ∧ TOkL R kn ds from hok)
            cases e
        subst b0
        obtain ⟨m, e1, e2⟩ := ask.en y (show y ∈ kn from hok)
        obtain ⟨kvs, ek, val, _⟩ := ask.val
        refine iteT ?_
        have g := DGet.k (k := Sum.inr y) ek
        rw [val y, e1] at g
        refine ⟨.ref vd, rfl, _, rfl, vd, _, rfl, g, ?_⟩
        have ev : evT M En (.str y) = .int (m : Int) := by
          show (match En y with
            | some n => V.int (n : Int)
            | none => .non) = _
          rw [e1]
        rw [ev] at q
        exact q H fun b o e => e
      | tuple ds0 =>
        refine iteF ?_
        cases ds0 with
        | nil =>
          cases b with
          | false => exact (show False from hok).elim
          | true =>
            obtain ⟨r, ds, e, _⟩ := (show ∃ (r : Row) (ds : List PyData), PyData.tuple [] = .tuple (.str r.1 :: ds) ∧ r ∈ S ∧ r.2.1 = ds.length ∧ TOkL R kn ds from hok)
            cases PyData.tuple.inj e
        | cons z ds =>
        obtain ⟨r, hr', rfl, hds⟩ := hok_tup hok
        obtain ⟨v, hv, ev⟩ := hok_at ask.mo ask.en hok
        refine ⟨x, rfl, _, yesD, hdH, .tup (hY H) (.cons (.str _) .nil), shd, by decide +kernel, _, rfl, ?_⟩
        rw [not_yes (ask.names r hr').2]
        refine iteF ?_
        have lp : (partsD (.tuple (.str r.1 :: ds))).length = 1 + (partsDL ds).length := by
          show (PyData.tuple (.str r.1 :: ds) :: partsDL ds).length = _
          rw [List.length_cons]
          omega
        cases hd with
        | @tup a zs _ sq0 all0 =>
        cases all0 with
        | @cons v0 vs _ _ hv0 all =>
        cases hv0
        refine ⟨.ref a, rfl, 1, rfl, a, _, rfl, (TK.same hb).sq sq0, cut_args.1, fun p3 n3 => ?_⟩
        rw [cut_args.2]
        have s3 : Same H (upd H p3 (.tup vs)) := same_new (fun b o e => e) n3 _
        have e3 : (upd H p3 (.tup vs)) p3 = some (.tup vs) := upd_same
        have la := dpAll_len all
        generalize upd H p3 (.tup vs) = G1 at s3 e3
        refine ⟨p3, rfl, ⟨vs, .inl (.inl e3)⟩, for_tup (K := K) (a := p3) (xs := vs) (fun i σ G => ∃ v4 : Option V, σ = [some (.ref o), some (.ref a), some (.ref vd), some (.int ((ixL M En 0 (ds.take i) : Nat) : Int)), v4] ∧ Same H G ∧ G p3 = some (.tup vs)) ⟨none, rfl, s3, e3⟩ (fun i σ G _ ⟨_, _, _, e⟩ => .inl (.inl e)) ?_ ?_⟩
        · rintro i y σ G hy ⟨v4, rfl, sm, g3⟩
          obtain ⟨u, hu', tu⟩ := dpAll_get all hy
          obtain ⟨⟨dx, eO⟩, tab⟩ := st.same sm
          have hup := tokL_mem hds hu'
          obtain ⟨m, m1, m2⟩ := ev_ok ask.mo ask.en u hup
          have pl := partsDL_mem hu'
          refine ⟨_, rfl, .ref o, rfl, o, C, dx, _, _, rfl, eO, cls, na1, strF_size _ _, _, _, rfl, rfl, cmul_small (by have := ask.mo.few; omega), .ref o, rfl, y, rfl, .ref vd, rfl, ?_⟩
          refine ⟨o, td, vd, y, u, M, En, R, S, kn, Hb, false, rfl, st.same sm, ask.same sm, fun b o e => sm _ _ (hb _ _ e), tu, hup, by omega, by omega, fun G2 s2 => ?_⟩
          rw [m2]
          refine ⟨_, _, rfl, rfl, some y, ?_, fun b o e => s2 _ _ (sm _ _ e), s2 _ _ g3⟩
          rw [take_next hu', ixL_app]
          show _ = [some (V.ref o), some (.ref a), some (.ref vd), some (.int ((ixL M En 0 (ds.take i) * M.size + natV (evT M En u) : Nat) : Int)), some y]
          rw [m2]
          have e5 : natV (.int (m : Int)) = m := by
            show ((m : Nat) : Int).toNat = m
            omega
          rw [e5]
          have e6 : ((ixL M En 0 (ds.take i) * M.size + m : Nat) : Int) = ((ixL M En 0 (ds.take i) : Nat) : Int) * (M.size : Int) + (m : Int) := by
            rw [Int.natCast_add, Int.natCast_mul]
          rw [e6]
          rfl
        · rintro σ G ⟨v4, rfl, sm, g3⟩
          rw [la, List.take_length]
          obtain ⟨⟨dx, eO⟩, kvs, ek, tab⟩ := st.same sm
          obtain ⟨t, t1, t2⟩ := tab r hr'
          have g := DGet.k (k := Sum.inr r.1) ek
          rw [t1] at g
          refine ⟨.ref o, rfl, o, C, dx, _, _, rfl, eO, cls, na2, strF_tables _ _, .ref a, rfl, a, _, 0, .str r.1, rfl, rfl, (TK.same sm).sq ((TK.same hb).sq sq0), atI_nat (j := 0) rfl, td, _, rfl, g, _, rfl, t, _, _, v, rfl, rfl, t2, atI_nat hv, ?_⟩
          rw [ev] at q
          exact q G sm
      | none => exact (by cases b <;> first | exact (show False from hok).elim | (obtain ⟨r, ds, e, _⟩ := (show ∃ (r : Row) (ds : List PyData), PyData.none = .tuple (.str r.1 :: ds) ∧ r ∈ S ∧ r.2.1 = ds.length ∧ TOkL R kn ds from hok); cases e))
      | bool i => exact (by cases b <;> first | exact (show False from hok).elim | (obtain ⟨r, ds, e, _⟩ := (show ∃ (r : Row) (ds : List PyData), PyData.bool i = .tuple (.str r.1 :: ds) ∧ r ∈ S ∧ r.2.1 = ds.length ∧ TOkL R kn ds from hok); cases e))
      | int i => exact (by cases b <;> first | exact (show False from hok).elim | (obtain ⟨r, ds, e, _⟩ := (show ∃ (r : Row) (ds : List PyData), PyData.int i = .tuple (.str r.1 :: ds) ∧ r ∈ S ∧ r.2.1 = ds.length ∧ TOkL R kn ds from hok); cases e))
      | list i => exact (by cases b <;> first | exact (show False from hok).elim | (obtain ⟨r, ds, e, _⟩ := (show ∃ (r : Row) (ds : List PyData), PyData.list i = .tuple (.str r.1 :: ds) ∧ r ∈ S ∧ r.2.1 = ds.length ∧ TOkL R kn ds from hok); cases e))
      | dict i => exact (by cases b <;> first | exact (show False from hok).elim | (obtain ⟨r, ds, e, _⟩ := (show ∃ (r : Row) (ds : List PyData), PyData.dict i = .tuple (.str r.1 :: ds) ∧ r ∈ S ∧ r.2.1 = ds.length ∧ TOkL R kn ds from hok); cases e))
end
end Ad

/-! A dict of values with one more. -/
namespace Ad
open PySem PySem.Spec PySem.Calls PyProof.Rows L2
abbrev sLWithV : Stmt := topS 31
theorem scLWithV : FnScope ["_law_values", "_law_name", "_law_value_here", "_law_found"] ["_law_values", "_law_name", "_law_value_here"] (defScope sLWithV) := ⟨rfl, rfl, rfl, by decide +kernel, rfl, by decide +kernel, by decide +kernel⟩
theorem val_put {kvs : List (L2.Key × V)} {E : En} {x : Str} {n : Nat} (h : ∀ y, valV kvs (.inr y) = (E y).map fun n => .int ((n : Nat) : Int)) : ∀ y, valV (putK kvs (.inr x) (.int (n : Int))) (.inr y) = ((E.set x n) y).map fun n => .int ((n : Nat) : Int) := fun y => by
  rw [valV_put]
  show _ = ((if y = x then some n else E y)).map _
  by_cases e : y = x
  · subst e
    rw [if_pos rfl, if_pos rfl]
    rfl
  · rw [if_neg e, if_neg (fun z => e (Sum.inr.inj z)), h y]
section
variable {P : Program} {w : World} {K : PySem.W.Frag} {mg : Str → Option Value} {base : Heap}
/-- values with few entries: m at most -/
def ValAtN (H : Hp) (vd : Addr) (E : En) (m : Nat) : Prop := ∃ kvs, H vd = some (.dK kvs) ∧ (∀ x, valV kvs (.inr x) = (E x).map fun n => .int ((n : Nat) : Int)) ∧ kvs.length ≤ m
theorem ValAtN.same {H H' : Hp} (s : Same H H') {vd : Addr} {E : En} {m : Nat} (h : ValAtN H vd E m) : ValAtN H' vd E m := by
  obtain ⟨kvs, e, q⟩ := h
  exact ⟨kvs, s _ _ e, q⟩
theorem ValAtN.at {H : Hp} {vd : Addr} {E : En} {m : Nat} (h : ValAtN H vd E m) (hm : m ≤ 1000) : ValAt H vd E := by
  obtain ⟨kvs, e, q, l⟩ := h
  exact ⟨kvs, e, q, by omega⟩
def spLWithV : Sp := fun vs H Q _ => ∃ (vd : Addr) (E : En) (x : Str) (n m : Nat), vs = [.ref vd, .str x, .int (n : Int)] ∧ ValAtN H vd E m ∧ m ≤ 900 ∧ ∀ H' v', Same H H' → H v' = none → ValAtN H' v' (E.set x n) (m + 1) → Q (.ref v') H'
theorem ok_lwithv {f : Addr} {fd : FuncData} {k : Nat} (F : Fun K "_law_with_value" "_law_with_value" sLWithV f fd) (m_dict : mg "dict" = none) : FnOk P w K mg base CX0 (k + 1) f fd ["_law_values", "_law_name", "_law_value_here"] spLWithV := by
  refine F.ok scLWithV (fun vs H Q E h => ?_) (fun cdv A outer s H vs Q E hr h => ?_)
  · obtain ⟨vd, E', x, n, m, rfl, _⟩ := h
    rfl
  · obtain ⟨vd, En, x, n, m, rfl, ⟨kvs, ek, val, few⟩, mm, q⟩ := h
    refine ⟨_, (pss_cons (ps_set (i := 3) scLWithV.nd rfl (.inl rfl) (pe_callTy call_dictD (by rfl) m_dict (by decide +kernel) (pa_cons (pv 0) pa_nil)))
    (pss_cons (ps_dput (hu1 hr) (pv 3) (pv 1) (pv 2) rfl)
    (pss_one (ps_ret (pv 3))))), ?_⟩
    refine ⟨.ref vd, rfl, vd, kvs, rfl, .inl ek, fun p np => ?_⟩
    have sm : Same H (upd H p (.dK kvs)) := same_new (fun b o e => e) np _
    have ep : (upd H p (.dK kvs)) p = some (.dK kvs) := upd_same
    generalize upd H p (.dK kvs) = G at sm ep
    refine ⟨_, rfl, .ref p, rfl, .str x, rfl, p, _, rfl, DPut.k (k := Sum.inr x) ep (by rw [sizeLine_eq]; omega), _, rfl, ?_⟩
    refine q _ p (same_on sm np _) np ⟨_, upd_same, val_put val, ?_⟩
    have := length_putK kvs (.inr x) (.int (n : Int))
    omega
end
end Ad

/-! meaning. -/
namespace Ad
open PySem PySem.Spec PySem.Calls PyProof.Rows L2
abbrev sMeaning : Stmt := topS 9
theorem scMeaning : FnScope ["structure", "sentence", "values", "word", "left"] ["structure", "sentence", "values"] (defScope sMeaning) := ⟨rfl, rfl, rfl, by decide +kernel, rfl, by decide +kernel, by decide +kernel⟩
abbrev sMeanEach : Stmt := topS 10
theorem scMeanEach : FnScope ["structure", "sentence", "values", "word", "great", "inner", "wider", "element"] ["structure", "sentence", "values"] (defScope sMeanEach) := ⟨rfl, rfl, rfl, by decide +kernel, rfl, by decide +kernel, by decide +kernel⟩
theorem go_ne {x y : Str} (h : x ≠ y) {A B : Prop} (b : B) : if decide (V.str x = V.str y) = true then A else B := by
  rw [decide_eq_false (fun z => h (V.str.inj z))]
  exact iteF b
theorem go_eq {x : Str} {A B : Prop} (a : A) : if decide (V.str x = V.str x) = true then A else B := by
  rw [decide_eq_true rfl]
  exact iteT a
theorem dp_two {K : PySem.W.Frag} {H : Hp} {x : V} {y : Str} {d : PyData} (h : Dp K H x (.tuple [.str y, d])) : ∃ a v, x = .ref a ∧ SqT K H a [.str y, v] ∧ Dp K H v d := by
  cases h with
  | @tup a xs _ sq all =>
  cases all with
  | cons h1 all =>
  cases h1
  cases all with
  | cons h2 all =>
  cases all
  exact ⟨a, _, rfl, sq, h2⟩
theorem dp_three {K : PySem.W.Frag} {H : Hp} {x : V} {y : Str} {d e : PyData} (h : Dp K H x (.tuple [.str y, d, e])) : ∃ a v u, x = .ref a ∧ SqT K H a [.str y, v, u] ∧ Dp K H v d ∧ Dp K H u e := by
  cases h with
  | @tup a xs _ sq all =>
  cases all with
  | cons h1 all =>
  cases h1
  cases all with
  | cons h2 all =>
  cases all with
  | cons h3 all =>
  cases all
  exact ⟨a, _, _, rfl, sq, h2, h3⟩
theorem all_range {n : Nat} {f : Nat → Bool} (h : ∀ i < n, f i = true) : (List.range n).all f = true := by
  rw [List.all_eq_true]
  exact fun i hi => h i (List.mem_range.mp hi)
theorem any_range {n : Nat} {f : Nat → Bool} {i : Nat} (hi : i < n) (h : f i = true) : (List.range n).any f = true := List.any_eq_true.mpr ⟨i, List.mem_range.mpr hi, h⟩
theorem all_not {n : Nat} {f : Nat → Bool} {i : Nat} (hi : i < n) (h : f i = false) : (List.range n).all f = false := by
  cases e : (List.range n).all f with
  | false => rfl
  | true =>
    have := List.all_eq_true.mp e i (List.mem_range.mpr hi)
    rw [h] at this
    cases this
theorem any_not {n : Nat} {f : Nat → Bool} (h : ∀ i < n, f i = false) : (List.range n).any f = false := by
  cases e : (List.range n).any f with
  | false => rfl
  | true =>
    obtain ⟨i, hi, q⟩ := List.any_eq_true.mp e
    rw [h i (List.mem_range.mp hi)] at q
    cases q
/-- what a structure, its names and some values are asked with -/
structure AskS (M : Mo) (R S : List Row) (E : En) (kn : List Str) : Prop where
  mo : MoOk M R S
  en : EnOk M E kn
  names : ∀ r ∈ R ++ S, nameOk r.1 = true ∧ r.1 ≠ "yes"
  great : ∀ x ∈ kn, PyData.strOk x = true
theorem AskS.ask {K : PySem.W.Frag} {H : Hp} {M : Mo} {R S : List Row} {E : En} {kn : List Str} {vd : Addr} {m : Nat} (h : AskS M R S E kn) (v : ValAtN H vd E m) (hm : m ≤ 1000) : Ask K H M R S E kn vd := ⟨h.mo, h.en, v.at hm, h.names, h.great⟩
theorem AskS.set {M : Mo} {R S : List Row} {E : En} {kn : List Str} (h : AskS M R S E kn) {x : Str} {n : Nat} (hx : PyData.strOk x = true) (hn : n < M.size) : AskS M R S (E.set x n) (kn ++ [x]) :=
  ⟨h.mo, h.en.set hn, h.names, fun y hy => by
    rcases List.mem_append.mp hy with z | z
    · exact h.great y z
    · rw [List.mem_singleton.mp z]
      exact hx⟩
theorem wf_one {t : PyData} (h : Sn.wf (.atm false [t]) = true) : (partsD t).length ≤ 40 := by
  obtain ⟨_, h⟩ := Bool.and_eq_true_iff.mp h
  obtain ⟨_, h⟩ := Bool.and_eq_true_iff.mp h
  obtain ⟨_, h⟩ := Bool.and_eq_true_iff.mp h
  have := of_decide_eq_true h
  have e : (partsDL [t]).length = (partsD t).length := by
    show (partsD t ++ []).length = _
    rw [List.append_nil]
  omega
theorem wf_two {t u : PyData} (h : Sn.wf (.atm true [t, u]) = true) : (partsD t).length ≤ 40 ∧ (partsD u).length ≤ 40 := by
  obtain ⟨_, h⟩ := Bool.and_eq_true_iff.mp h
  obtain ⟨_, h⟩ := Bool.and_eq_true_iff.mp h
  have := of_decide_eq_true h
  have e : (partsDL [t, u]).length = (partsD t).length + (partsD u).length := by
    show (partsD t ++ (partsD u ++ [])).length = _
    rw [List.append_nil, List.length_append]
  omega
/-- a sentence that can be asked -/
structure SAsk (R S : List Row) (kn : List Str) (s : Sn) : Prop where
  ok : s.ok = true
  wf : s.wf = true
  good : Sn.good R S kn s
section
variable {P : Program} {w : World} {K : PySem.W.Frag} {mg : Str → Option Value} {base : Heap}
def spMean (K : PySem.W.Frag) (C : Addr) (n : Nat) : Sp := fun vs H Q _ => ∃ (o td vd : Addr) (x : V) (s : Sn) (M : Mo) (E : En) (R S : List Row) (kn : List Str) (Hb : Hp) (m : Nat), vs = [.ref o, x, .ref vd] ∧ StrI K C H o td M (R ++ S) ∧ AskS M R S E kn ∧ ValAtN H vd E m ∧ m + 4 * n ≤ 900 ∧
  Same Hb H ∧ Dp K Hb x s.d ∧ SAsk R S kn s ∧ s.hi ≤ n ∧ ∀ H', Same H H' → Q (.bl (mean M E s)) H'
def spMeanEach (K : PySem.W.Frag) (C : Addr) (n : Nat) : Sp := fun vs H Q _ => ∃ (o td vd : Addr) (x : V) (al : Bool) (z : Str) (s : Sn) (M : Mo) (E : En) (R S : List Row) (kn : List Str) (Hb : Hp) (m : Nat), vs = [.ref o, x, .ref vd] ∧ StrI K C H o td M (R ++ S) ∧ AskS M R S E kn ∧ ValAtN H vd E m ∧ m + 4 * n + 4 ≤ 900 ∧
  Same Hb H ∧ Dp K Hb x (Sn.d (.qu al z s)) ∧ PyData.strOk z = true ∧ SAsk R S (kn ++ [z]) s ∧ s.hi ≤ n ∧ ∀ H', Same H H' → Q (.bl (mean M E (.qu al z s))) H'
theorem ok_meaneach {C f fM : Addr} {fd fdM : FuncData} {k n : Nat} (F : Fun K "_meaning_for_each" "_meaning_for_each" sMeanEach f fd) (GM : FnOk P w K mg base CX0 k fM fdM ["structure", "sentence", "values"] (spMean K C n)) (gM : mg "meaning" = some (.ref fM)) (kM : PySem.W.keepIn K (.ref fM) = true) (bM : Binds K fdM ["structure", "sentence", "values"] [])
    (m_dict : mg "dict" = none) (m_range : mg "range" = none) (cls : Cls K C) (na1 : NoAttr K C "size") : FnOk P w K mg base CX0 (k + 1) f fd ["structure", "sentence", "values"] (spMeanEach K C n) := by
  refine F.ok scMeanEach (fun vs H Q E h => ?_) (fun cdv A outer s H vs Q E hr h => ?_)
  · obtain ⟨o, td, vd, x, al, z, s, M, E', R, S, kn, Hb, m, rfl, _⟩ := h
    rfl
  · obtain ⟨o, td, vd, x, al, z, s, M, En, R, S, kn, Hb, m, rfl, st, ask, ⟨kvs, ek, val, few⟩, mm, hb, hd, hz, sa, small, q⟩ := h
    refine ⟨_, (pss_cons (ps_asg (pv 1) (pg_tup rfl (pgs_cons (pg_name (i := 3) scMeanEach.nd rfl (.inl rfl)) (pgs_cons (pg_name (i := 4) scMeanEach.nd rfl (.inl rfl)) (pgs_cons (pg_name (i := 5) scMeanEach.nd rfl (.inl rfl)) pgs_nil)))))
    (pss_cons (ps_set (i := 6) scMeanEach.nd rfl (.inl rfl) (pe_callTy call_dictD (by rfl) m_dict (by decide +kernel) (pa_cons (pv 2) pa_nil)))
    (pss_cons (ps_for PassesOwn.never rfl (pi_range1 (by rfl) m_range (pa_cons (pe_fld (pv 0) rfl) pa_nil)) (pg_name (i := 7) scMeanEach.nd rfl (.inl rfl))
      (pss_cons (ps_dput (hu1 hr) (pv 6) (pv 4) (pv 7) rfl)
      (pss_one (ps_if (pt_cmpR op_eq (pe_call GM hr (by rfl) gM kM bM .nil pass0 (pa_cons (pv 0) (pa_cons (pv 5) (pa_cons (pv 6) pa_nil)))) (pe_cmpR op_eq (pv 3) pe_str (nomark _)) (nomark _))
        (pss_one (ps_ret (pe_cmpR op_eq (pv 3) pe_str (nomark _)))) pss_nil))))
    (pss_one (ps_ret (pe_cmpR op_eq (pv 3) pe_str (nomark _))))))), ?_⟩
    obtain ⟨a, v1, v2, rfl, sq, h1, h2⟩ := dp_three (show Dp K Hb x (.tuple [.str (Sn.word (.qu al z s)), .str z, s.d]) from hd)
    cases h1
    generalize ew : Sn.word (.qu al z s) = wd at sq
    refine ⟨.ref a, rfl, a, _, rfl, (TK.same hb).sq sq, rfl, _, _, rfl, _, _, rfl, _, _, rfl, rfl, ?_⟩
    refine ⟨.ref vd, rfl, vd, kvs, rfl, .inl ek, fun p np => ?_⟩
    have sm0 : Same H (upd H p (.dK kvs)) := same_new (fun b o e => e) np _
    have ep : (upd H p (.dK kvs)) p = some (.dK kvs) := upd_same
    generalize upd H p (.dK kvs) = G0 at sm0 ep
    obtain ⟨⟨dx, eO⟩, tab⟩ := st.same sm0
    have m3 := ask.mo.few
    have wd_some : decide (V.str wd = V.str "some") = !al := by
      rw [← ew]
      cases al with
      | true => exact decide_eq_false (fun z => absurd (V.str.inj z) (show ¬ (("all" : Str) = "some") by decide +kernel))
      | false => exact decide_eq_true rfl
    have wd_all : decide (V.str wd = V.str "all") = al := by
      rw [← ew]
      cases al with
      | true => exact decide_eq_true rfl
      | false => exact decide_eq_false (fun z => absurd (V.str.inj z) (show ¬ (("some" : Str) = "all") by decide +kernel))
    have step : ∀ i : Nat, i < M.size → mean M (En.set z i) s = !al → mean M En (.qu al z s) = !al := by
      intro i hi e
      cases al with
      | true => exact all_not hi e
      | false => exact any_range hi e
    have done : (∀ i : Nat, i < M.size → mean M (En.set z i) s = al) → mean M En (.qu al z s) = al := by
      intro e
      cases al with
      | true => exact all_range e
      | false => exact any_not e
    refine ⟨.ref o, rfl, o, C, dx, _, _, rfl, eO, cls, na1, strF_size _ _, M.size, rfl, by omega, by omega, for_range (lo := 0) (n := M.size) (fun i σ G => ∃ (v7 : Option V) (kvs' : List (L2.Key × V)), σ = [some (.ref o), some (.ref a), some (.ref vd), some (.str wd), some (.str z), some v2, some (.ref p), v7] ∧ Same H G ∧ G p = some (.dK kvs') ∧
      (∀ y, y ≠ z → valV kvs' (.inr y) = (En y).map fun n => .int ((n : Nat) : Int)) ∧ kvs'.length ≤ m + i ∧ (∀ j < i, mean M (En.set z j) s = al)) ⟨none, kvs, rfl, sm0, ep, fun y _ => val y, by omega, fun j hj => absurd hj (Nat.not_lt_zero _)⟩ ?_ ?_⟩
    · rintro i σ G hi ⟨v7, kvs', rfl, sm, gp, val', few', pre⟩
      have ei : (0 : Int) + (i : Int) = (i : Int) := Int.zero_add _
      rw [ei]
      refine ⟨_, rfl, .ref p, rfl, .str z, rfl, p, _, rfl, DPut.k (k := Sum.inr z) gp (by rw [sizeLine_eq]; omega), ?_⟩
      have sm1 : Same H (upd G p (.dK (putK kvs' (.inr z) (.int ((i : Nat) : Int))))) := same_on sm np _
      have gp1 : (upd G p (.dK (putK kvs' (.inr z) (.int ((i : Nat) : Int))))) p = some (.dK (putK kvs' (.inr z) (.int ((i : Nat) : Int)))) := upd_same
      have lk := length_putK kvs' (.inr z) (.int ((i : Nat) : Int))
      have vp : ∀ y, y ≠ z → valV (putK kvs' (.inr z) (.int ((i : Nat) : Int))) (.inr y) = (En y).map fun n => .int ((n : Nat) : Int) := fun y hy => by
        rw [valV_put, if_neg (fun e => hy (Sum.inr.inj e)), val' y hy]
      have vz : ∀ y, valV (putK kvs' (.inr z) (.int ((i : Nat) : Int))) (.inr y) = ((En.set z i) y).map fun n => .int ((n : Nat) : Int) := fun y => by
        by_cases e : y = z
        · subst e
          rw [valV_put, if_pos rfl]
          show _ = ((if y = y then some i else En y)).map _
          rw [if_pos rfl]
          rfl
        · rw [vp y e]
          show _ = ((if y = z then some i else En y)).map _
          rw [if_neg e]
      generalize putK kvs' (.inr z) (.int ((i : Nat) : Int)) = kvs2 at sm1 gp1 lk vp vz
      generalize upd G p (.dK kvs2) = G1 at sm1 gp1
      refine ⟨.ref o, rfl, v2, rfl, .ref p, rfl, o, td, p, v2, s, M, En.set z i, R, S, kn ++ [z], Hb, m + 4, rfl, st.same sm1, ask.set hz hi, ⟨kvs2, gp1, vz, by omega⟩, by omega, fun b u e => sm1 _ _ (hb _ _ e), h2, sa, small, fun G2 s2 => ?_⟩
      have sm2 : Same H G2 := fun b u e => s2 _ _ (sm1 _ _ e)
      refine ⟨_, rfl, rfl, rfl, _, rfl, ?_⟩
      rw [wd_some]
      by_cases e : mean M (En.set z i) s = !al
      · rw [e, decide_eq_true rfl]
        refine iteT ⟨_, rfl, rfl, ?_⟩
        rw [wd_some, ← step i hi e]
        exact q G2 sm2
      · rw [decide_eq_false (fun z => e (V.bl.inj z))]
        refine iteF ⟨_, kvs2, rfl, sm2, s2 _ _ gp1, vp, by omega, fun j hj => ?_⟩
        by_cases ej : j = i
        · subst ej
          cases h : mean M (En.set z j) s <;> cases al <;> first | rfl | exact absurd h e
        · exact pre j (by omega)
    · rintro σ G ⟨v7, kvs', rfl, sm, gp, val', few', pre⟩
      refine ⟨_, rfl, rfl, ?_⟩
      rw [wd_all, ← done pre]
      exact q G sm
end
end Ad

/-! Slices and sums of tuples, whole or not, told at once. -/
namespace Ad
open PySem PySem.Spec PySem.Calls PyProof.Rows L2
section
variable {K : PySem.W.Frag} {H : Hp}
theorem sqT_new {H : Hp} {p : Addr} {xs : List V} : SqT K (upd H p (.tup xs)) p xs := .inl (.inl upd_same)
theorem rSlA_of {a : Addr} {xs : List V} {lo hi : Option Int} {Q : VK} (sq : SqT K H a xs) (h : ∀ p H', Same H H' → SqT K H' p (cutV xs lo hi) → Q (.ref p) H') : rSlA K (.ref a) lo hi H Q := by
  refine ⟨a, xs, rfl, sq, fun e => h a H (fun b o e => e) ?_, fun _ p n => h p _ (same_new (fun b o e => e) n _) sqT_new⟩
  have z : cutV xs lo hi = xs := by
    unfold cutV
    rw [e.1, e.2, List.drop_zero, Nat.sub_zero, List.take_length]
  rw [z]
  exact sq
theorem rCatA_of {a b : Addr} {xs ys : List V} {Q : VK} (ha : SqT K H a xs) (hb : SqT K H b ys) (few : xs.length + ys.length ≤ sizeLine) (h : ∀ p H', Same H H' → SqT K H' p (xs ++ ys) → Q (.ref p) H') : rCatA K (.ref a) (.ref b) H Q := by
  refine ⟨a, b, xs, ys, rfl, rfl, ha, hb, few, fun e => h b H (fun b o e => e) ?_, fun _ e => h a H (fun b o e => e) ?_, fun _ _ p n => h p _ (same_new (fun b o e => e) n _) sqT_new⟩
  · subst e
    exact hb
  · subst e
    rw [List.append_nil]
    exact ha
theorem cut_one {x : V} {xs : List V} : cutV (x :: xs) none (some 1) = [x] := by
  have e3 : HT.sIx (x :: xs).length (x :: xs).length (some 1) = 1 := by
    have e2 : HT.sIx (x :: xs).length (x :: xs).length (some ((1 : Nat) : Int)) = 1 := by
      rw [HT.sIx_nat, List.length_cons]
      omega
    exact e2
  unfold cutV
  rw [e3, HT.sIx_none]
  rfl
end
end Ad

/-! A sentence's data, case by case. -/
namespace Ad
open PySem PySem.Spec PySem.Calls PyProof.Rows L2
theorem sv_test {σ : L2.St} {G : Hp} {i : Nat} {w y : Str} {f : Bool → Hp → Prop} (e : σ[i]? = some (some (.str w))) (h : f (decide (w = y)) G) :
    tTest (tOp rEq (tVar i) (tC (.str y))) σ G f := by
  refine ⟨.str w, e, rfl, decide (w = y), ?_, h⟩
  by_cases z : w = y
  · subst z
    rw [weq, decide_eq_true rfl]
  · rw [wne z, decide_eq_false z]
theorem sv_or {σ : L2.St} {G : Hp} {i : Nat} {w y z : Str} {f : Bool → Hp → Prop} (e : σ[i]? = some (some (.str w))) (h : f (decide (w = y) || decide (w = z)) G) :
    tOr (tTest (tOp rEq (tVar i) (tC (.str y)))) (tTest (tOp rEq (tVar i) (tC (.str z)))) σ G f := by
  refine sv_test e ?_
  cases q : decide (w = y) with
  | true =>
    rw [q] at h
    exact iteT h
  | false =>
    rw [q] at h
    exact iteF (sv_test e h)
theorem no_or {w y z : Str} (h1 : w ≠ y) (h2 : w ≠ z) : (decide (w = y) || decide (w = z)) = false := by
  rw [decide_eq_false h1, decide_eq_false h2]
  rfl
theorem yes_or {w y z : Str} (h : w = y ∨ w = z) : (decide (w = y) || decide (w = z)) = true := by
  rcases h with h | h
  · rw [decide_eq_true h]
    rfl
  · rw [decide_eq_true h, Bool.or_true]
theorem sns_tk {K : PySem.W.Frag} {H H' : Hp} (k : TK H H') : ∀ (ss : List Sn) (vs : List V), (∀ s ∈ ss, s.wf = true) → DpAll K H vs (ss.map Sn.d) → DpAll K H' vs (ss.map Sn.d)
  | [], vs, _, h => by
    cases h
    exact .nil
  | s :: ss, vs, w, h => by
    cases h with
    | @cons v vs _ _ h1 h2 => exact .cons (sn_tk k s v (w s List.mem_cons_self) h1) (sns_tk k ss vs (fun s' h' => w s' (List.mem_cons_of_mem _ h')) h2)
theorem Sn.word_atm' (eq : Bool) (as : List PyData) : Sn.word (.atm eq as) = "is" ∨ Sn.word (.atm eq as) = "equal" := by
  cases eq with
  | true => exact .inr rfl
  | false => exact .inl rfl
theorem qu_out (al : Bool) (z : Str) (s : Sn) : inV (.str (Sn.word (.qu al z s))) [.str "is", .str "equal"] = false := by
  cases al with
  | true => exact show inV (.str "all") [.str "is", .str "equal"] = false by decide +kernel
  | false => exact show inV (.str "some") [.str "is", .str "equal"] = false by decide +kernel
theorem qu_in (al : Bool) (z : Str) (s : Sn) : inV (.str (Sn.word (.qu al z s))) [.str "all", .str "some"] = true := by
  cases al with
  | true => exact show inV (.str "all") [.str "all", .str "some"] = true by decide +kernel
  | false => exact show inV (.str "some") [.str "all", .str "some"] = true by decide +kernel
theorem atm_in (eq : Bool) (as : List PyData) : inV (.str (Sn.word (.atm eq as))) [.str "is", .str "equal"] = true := by
  cases eq with
  | true => exact show inV (.str "equal") [.str "is", .str "equal"] = true by decide +kernel
  | false => exact show inV (.str "is") [.str "is", .str "equal"] = true by decide +kernel
theorem out_two {w x y : Str} (h1 : w ≠ x) (h2 : w ≠ y) : inV (.str w) [.str x, .str y] = false := by
  have := inV_mem w [x, y]
  rw [show [V.str x, V.str y] = ([x, y] : List Str).map V.str from rfl, this, decide_eq_false]
  intro h
  rcases List.mem_cons.mp h with z | z
  · exact h1 z
  · exact h2 (List.mem_singleton.mp z)
/-- a sentence of parts: not, and, or, then, same -/
structure PartsS (K : PySem.W.Frag) (Hb : Hp) (s : Sn) (n : Nat) (wd : Str) (ss : List Sn) (vs : List V) : Prop where
  data : F2 (fun (s : Sn) v => Dp K Hb v s.d) ss vs
  n1 : wd ≠ "is"
  n2 : wd ≠ "equal"
  n3 : wd ≠ "all"
  n4 : wd ≠ "some"
  each : ∀ s' ∈ ss, s'.ok = true ∧ s'.wf = true ∧ s'.hi ≤ n
  few : vs.length ≤ 2
  ne : vs ≠ []
  kind : (∃ s', ss = [s'] ∧ wd = "not" ∧ s = .one s') ∨ ∃ sA sB, ss = [sA, sB] ∧ s = .two wd sA sB ∧ wd ∈ (["and", "or", "then", "same"] : List Str)
theorem sn_three {K : PySem.W.Frag} {Hb : Hp} {x : V} {s : Sn} {n : Nat} (hd : Dp K Hb x s.d) (ok : s.ok = true) (wf : s.wf = true) (small : s.hi ≤ n + 1) :
    (∃ (eq : Bool) (as : List PyData) (a : Addr) (vs : List V), s = .atm eq as ∧ x = .ref a ∧ SqT K Hb a (.str (Sn.word (.atm eq as)) :: vs) ∧ DpAll K Hb vs as ∧ wfTL as = true ∧ (partsDL as).length ≤ 40 ∧ as.length ≤ 2 ∧ vs ≠ []) ∨
    (∃ (al : Bool) (z : Str) (s' : Sn) (a : Addr) (v2 : V), s = .qu al z s' ∧ x = .ref a ∧ SqT K Hb a [.str (Sn.word (.qu al z s')), .str z, v2] ∧ Dp K Hb v2 s'.d ∧ s'.ok = true ∧ s'.wf = true ∧ s'.hi ≤ n) ∨
    ∃ (wd : Str) (ss : List Sn) (vs : List V) (a : Addr), x = .ref a ∧ SqT K Hb a (.str wd :: vs) ∧ PartsS K Hb s n wd ss vs := by
  cases s with
  | atm eq as =>
    have hd' : Dp K Hb x (.tuple (.str (Sn.word (.atm eq as)) :: as)) := hd
    cases hd' with
    | @tup a zs _ sq all =>
    cases all with
    | @cons v vs _ _ hv all =>
    cases hv
    have la := dpAll_len all
    cases eq with
    | false =>
      obtain ⟨h1, h⟩ := Bool.and_eq_true_iff.mp (show (decide (as.length = 1) && (wfTL as && (isTu (as.getD 0 .none) && decide ((partsDL as).length ≤ 40)))) = true from wf)
      obtain ⟨h2, h⟩ := Bool.and_eq_true_iff.mp h
      obtain ⟨_, h4⟩ := Bool.and_eq_true_iff.mp h
      have l1 := of_decide_eq_true h1
      exact .inl ⟨false, as, a, vs, rfl, rfl, sq, all, h2, of_decide_eq_true h4, by omega, fun e => by rw [e, l1] at la; cases la⟩
    | true =>
      obtain ⟨h1, h⟩ := Bool.and_eq_true_iff.mp (show (decide (as.length = 2) && (wfTL as && decide ((partsDL as).length ≤ 40))) = true from wf)
      obtain ⟨h2, h4⟩ := Bool.and_eq_true_iff.mp h
      have l1 := of_decide_eq_true h1
      exact .inl ⟨true, as, a, vs, rfl, rfl, sq, all, h2, of_decide_eq_true h4, by omega, fun e => by rw [e, l1] at la; cases la⟩
  | qu al z s' =>
    obtain ⟨a, v1, v2, rfl, sq, h1, h2⟩ := dp_three (show Dp K Hb x (.tuple [.str (Sn.word (.qu al z s')), .str z, s'.d]) from hd)
    cases h1
    have zs : 1 + s'.hi ≤ n + 1 := small
    exact .inr (.inl ⟨al, z, s', a, v2, rfl, rfl, sq, h2, ok, wf, by omega⟩)
  | one s' =>
    obtain ⟨a, v1, rfl, sq, h1⟩ := dp_two (show Dp K Hb x (.tuple [.str "not", s'.d]) from hd)
    have zs : 1 + s'.hi ≤ n + 1 := small
    refine .inr (.inr ⟨"not", [s'], [v1], a, rfl, sq, F2.one h1, by decide +kernel, by decide +kernel, by decide +kernel, by decide +kernel, fun s2 h => ?_, by show 1 ≤ 2; decide, by simp, .inl ⟨s', rfl, rfl, rfl⟩⟩)
    cases List.mem_singleton.mp h
    exact ⟨ok, wf, by omega⟩
  | two wd sA sB =>
    obtain ⟨a, v1, v2, rfl, sq, h1, h2⟩ := dp_three (show Dp K Hb x (.tuple [.str wd, sA.d, sB.d]) from hd)
    have zs : 1 + max sA.hi sB.hi ≤ n + 1 := small
    obtain ⟨w4, okA, okB⟩ := Sn.okw ok
    obtain ⟨wfA, wfB⟩ := Bool.and_eq_true_iff.mp (show (sA.wf && sB.wf) = true from wf)
    obtain ⟨n1, n2, n3, n4⟩ := word_two w4
    refine .inr (.inr ⟨wd, [sA, sB], [v1, v2], a, rfl, sq, ⟨_, _, rfl, h1, F2.one h2⟩, n1, n2, n3, n4, fun s2 h => ?_, by show 2 ≤ 2; decide, by simp, .inr ⟨sA, sB, rfl, rfl, w4⟩⟩)
    rcases List.mem_cons.mp h with rfl | h
    · exact ⟨okA, wfA, by omega⟩
    · cases List.mem_singleton.mp h
      exact ⟨okB, wfB, by omega⟩
end Ad

/-! The sentence without then and same. -/
namespace Ad
open PySem PySem.Spec PySem.Calls PyProof.Rows L2
abbrev sPlain : Stmt := topS 11
theorem scPlain : FnScope ["sentence", "word", "parts", "part"] ["sentence"] (defScope sPlain) := ⟨rfl, rfl, rfl, by decide +kernel, rfl, by decide +kernel, by decide +kernel⟩
abbrev sThen : Stmt := topS 12
theorem scThen : FnScope ["left", "right"] ["left", "right"] (defScope sThen) := ⟨rfl, rfl, rfl, by decide +kernel, rfl, by decide +kernel, by decide +kernel⟩
section
variable {P : Program} {w : World} {K : PySem.W.Frag} {mg : Str → Option Value} {base : Heap}
def spThen (K : PySem.W.Frag) : Sp := fun vs H Q _ => ∃ (x y : V) (a b : Sn), vs = [x, y] ∧ Dp K H x a.d ∧ Dp K H y b.d ∧ ∀ H' v, Same H H' → Dp K H' v (Sn.d (.two "or" (.one a) b)) → Q v H'
theorem ok_then {f : Addr} {fd : FuncData} {k : Nat} (F : Fun K "_then" "_then" sThen f fd) : FnOk P w K mg base CX0 (k + 1) f fd ["left", "right"] (spThen K) := by
  refine F.ok scThen (fun vs H Q E h => ?_) (fun cdv A outer s H vs Q E hr h => ?_)
  · obtain ⟨x, y, a, b, rfl, _⟩ := h
    rfl
  · obtain ⟨x, y, a, b, rfl, hx, hy, q⟩ := h
    refine ⟨_, (pss_one (ps_ret (pe_tup (pa_cons pe_str (pa_cons (pe_tup (pa_cons pe_str (pa_cons (pv 0) pa_nil))) (pa_cons (pv 1) pa_nil)))))), ?_⟩
    refine ⟨x, rfl, (by show 2 ≤ sizeLine; rw [sizeLine_eq]; decide), fun t nt => ?_⟩
    have s1 : Same H (upd H t (.tup [.str "not", x])) := same_new (fun b o e => e) nt _
    have e1 : (upd H t (.tup [.str "not", x])) t = some (.tup [.str "not", x]) := upd_same
    generalize upd H t (.tup [.str "not", x]) = H1 at s1 e1
    refine ⟨y, rfl, (by show 3 ≤ sizeLine; rw [sizeLine_eq]; decide), fun u nu => ?_⟩
    have s2 : Same H1 (upd H1 u (.tup [.str "or", .ref t, y])) := same_new (fun b o e => e) nu _
    exact q _ _ (s1.trans s2) (.tup (.inl (.inl upd_same)) (.cons (.str _) (.cons (.tup (.inl (.inl (s2 _ _ e1))) (.cons (.str _) (.cons (dp_same (s1.trans s2) hx) .nil))) (.cons (dp_same (s1.trans s2) hy) .nil))))
def spPlain (K : PySem.W.Frag) (n : Nat) : Sp := fun vs H Q _ => ∃ (x : V) (s : Sn) (Hb : Hp), vs = [x] ∧ Same Hb H ∧ Dp K Hb x s.d ∧ s.ok = true ∧ s.wf = true ∧ s.hi ≤ n ∧ ∀ H' v, Same H H' → Dp K H' v s.pl.d → Q v H'
theorem ok_plain {f fT : Addr} {fd fdT : FuncData} {k : Nat} (F : Fun K "plain" "plain" sPlain f fd) (gF : mg "plain" = some (.ref f)) (bF : Binds K fd ["sentence"] [])
    (GT : FnOk P w K mg base CX0 (k + 1) fT fdT ["left", "right"] (spThen K)) (gT : mg "_then" = some (.ref fT)) (kT : PySem.W.keepIn K (.ref fT) = true) (bT : Binds K fdT ["left", "right"] []) (m_tuple : mg "tuple" = none) :
    ∀ n, FnOk P w K mg base CX0 (k + 1 + n) f fd ["sentence"] (spPlain K n)
  | 0 => vac fun vs H Q E ⟨x, s, Hb, _, _, _, _, _, z, _⟩ => absurd (Nat.le_trans s.hi_pos z) (by decide)
  | n + 1 => by
    have IH : FnOk P w K mg base CX0 (k + 1 + n) f fd ["sentence"] (spPlain K n) := ok_plain F gF bF GT gT kT bT m_tuple n
    have GT' : FnOk P w K mg base CX0 (k + 1 + n) fT fdT ["left", "right"] (spThen K) := GT.mono (Nat.le_add_right _ _)
    have hPlain : Has P w K mg base (k + 1 + n) "plain" ["sentence"] (spPlain K n) f fd := ⟨IH, gF, F.kp, bF⟩
    have hThen : Has P w K mg base (k + 1 + n) "_then" ["left", "right"] (spThen K) fT fdT := ⟨GT', gT, kT, bT⟩
    refine F.ok scPlain (fun vs H Q E h => ?_) (fun cdv A outer s H vs Q E hr h => ?_)
    · obtain ⟨x, s, Hb, rfl, _⟩ := h
      rfl
    · obtain ⟨x, s, Hb, rfl, hb, hd, ok, wf, small, q⟩ := h
      refine ⟨_, (pss_cons (ps_set (i := 1) scPlain.nd rfl (.inl rfl) (pe_ix ix_tup (pv 0) pe_int (fun _ _ => rfl)))
    (pss_cons (ps_if (PW.pt (pw_or (pt_cmpR op_eq (pv 1) pe_str (nomark _)) (pw_or1 (pt_cmpR op_eq (pv 1) pe_str (nomark _)))))
      (pss_one (ps_ret (pv 0))) pss_nil)
    (pss_cons (ps_if (PW.pt (pw_or (pt_cmpR op_eq (pv 1) pe_str (nomark _)) (pw_or1 (pt_cmpR op_eq (pv 1) pe_str (nomark _)))))
      (pss_one (ps_ret (pe_tup (pa_cons (pv 1) (pa_cons (pe_ix ix_tup (pv 0) pe_int (fun _ _ => rfl)) (pa_cons (pe_call hPlain.G hr (by rfl) hPlain.g hPlain.kp hPlain.b .nil pass0 (pa_cons (pe_ix ix_tup (pv 0) pe_int (fun _ _ => rfl)) pa_nil)) pa_nil)))))) pss_nil)
    (pss_cons (ps_set (i := 2) scPlain.nd rfl (.inl rfl) (pe_callTy call_tuple_of (by rfl) m_tuple (by decide +kernel) (pa_cons (pe_lc (own := [("part", 3)]) (g := gName 3) (tt := tYes) (te := tCall (spPlain K n) [] E0 (tCons (tVar 3) tNil)) rfl scPlain.nd (pi_tup (pe_slice sl_tup (pv 0) (po_some pe_int) po_none)) (blkOk_by (N := ["sentence", "word", "parts", "part"]) (sc := defScope sPlain) (by decide +kernel)) (fun _ _ _ _ _ => (pg_name (i := 3) scPlain.nd rfl (.inl rfl))) (fun _ _ _ _ _ => pts_nil) (fun _ _ _ _ _ => (pe_call hPlain.G hr (by rfl) hPlain.g hPlain.kp hPlain.b .nil pass0 (pa_cons (pv 3) pa_nil)))) pa_nil)))
    (pss_cons (ps_if (pt_cmpR op_eq (pv 1) pe_str (nomark _))
      (pss_one (ps_ret (pe_call hThen.G hr (by rfl) hThen.g hThen.kp hThen.b .nil pass0 (pa_cons (pe_ix ix_tup (pv 2) pe_int (fun _ _ => rfl)) (pa_cons (pe_ix ix_tup (pv 2) pe_int (fun _ _ => rfl)) pa_nil))))) pss_nil)
    (pss_cons (ps_if (pt_cmpR op_eq (pv 1) pe_str (nomark _))
      (pss_one (ps_ret (pe_tup (pa_cons pe_str (pa_cons (pe_call hThen.G hr (by rfl) hThen.g hThen.kp hThen.b .nil pass0 (pa_cons (pe_ix ix_tup (pv 2) pe_int (fun _ _ => rfl)) (pa_cons (pe_ix ix_tup (pv 2) pe_int (fun _ _ => rfl)) pa_nil))) (pa_cons (pe_call hThen.G hr (by rfl) hThen.g hThen.kp hThen.b .nil pass0 (pa_cons (pe_ix ix_tup (pv 2) pe_int (fun _ _ => rfl)) (pa_cons (pe_ix ix_tup (pv 2) pe_int (fun _ _ => rfl)) pa_nil))) pa_nil)))))) pss_nil)
    (pss_one (ps_ret (pe_op op_catA (pe_tup (pa_cons (pv 1) pa_nil)) (pv 2)))))))))), ?_⟩
      rcases sn_three hd ok wf small with ⟨eq, as, a, vs, rfl, rfl, sq, all, _⟩ | ⟨al, z, s', a, v2, rfl, rfl, sq, h2, ok', wf', hi'⟩ | ⟨wd, ss, vs, a, rfl, sq, ps⟩
      · refine ⟨.ref a, rfl, a, _, 0, _, rfl, rfl, (TK.same hb).sq sq, atI_nat (j := 0) rfl, ?_⟩
        refine sv_or (i := 1) rfl ?_
        rw [yes_or (Sn.word_atm' eq as)]
        exact iteT ⟨.ref a, rfl, q H _ (fun b o e => e) (dp_same hb hd)⟩
      · have sqH := (TK.same hb).sq sq
        refine ⟨.ref a, rfl, a, _, 0, _, rfl, rfl, sqH, atI_nat (j := 0) rfl, ?_⟩
        refine sv_or (i := 1) rfl ?_
        rw [word_qu al z s']
        refine iteF (sv_or (i := 1) rfl ?_)
        rw [word_qu2 al z s']
        refine iteT ⟨_, rfl, .ref a, rfl, a, _, 1, _, rfl, rfl, sqH, atI_nat (j := 1) rfl, .ref a, rfl, a, _, 2, v2, rfl, rfl, sqH, atI_nat (j := 2) rfl, v2, s', Hb, rfl, hb, h2, ok', wf', hi', fun H1 v1 s1 d1 => ⟨(by show 3 ≤ sizeLine; rw [sizeLine_eq]; decide), fun t nt => ?_⟩⟩
        have s2 : Same H1 (upd H1 t (.tup [.str (Sn.word (.qu al z s')), .str z, v1])) := same_new (fun b o e => e) nt _
        exact q _ _ (s1.trans s2) (.tup (.inl (.inl upd_same)) (.cons (.str _) (.cons (.str _) (.cons (dp_same s2 d1) .nil))))
      · have sqH := (TK.same hb).sq sq
        refine ⟨.ref a, rfl, a, _, 0, _, rfl, rfl, sqH, atI_nat (j := 0) rfl, ?_⟩
        refine sv_or (i := 1) rfl ?_
        rw [no_or ps.n1 ps.n2]
        refine iteF (sv_or (i := 1) rfl ?_)
        rw [no_or ps.n3 ps.n4]
        refine iteF ?_
        have lv := ps.data.len
        have few := ps.few
        refine ⟨.ref a, rfl, 1, rfl, a, _, rfl, sqH, cut_args.1, fun p3 n3 => ?_⟩
        rw [cut_args.2]
        have s3 : Same H (upd H p3 (.tup vs)) := same_new (fun b o e => e) n3 _
        have e3 : (upd H p3 (.tup vs)) p3 = some (.tup vs) := upd_same
        generalize upd H p3 (.tup vs) = G1 at s3 e3
        refine ⟨p3, rfl, ⟨vs, .inl (.inl e3)⟩, fun D nD => lc_tup (K := K) (a := p3) (xs := vs) (fun i G => ∃ acc, Same G1 G ∧ G D = some (.lst acc) ∧ DpAll K G acc (((ss.take i).map Sn.pl).map Sn.d)) ⟨[], same_new (fun b o e => e) nD _, upd_same, .nil⟩ (fun i G _ ⟨_, sm, _⟩ => (TK.same sm).sq (.inl (.inl e3))) ?_ ?_⟩
        · rintro i y G hy ⟨acc, sm, gD, ha⟩
          obtain ⟨s', hs', dy⟩ := ps.data.get hy
          obtain ⟨ok', wf', hi'⟩ := ps.each s' (List.mem_of_getElem? hs')
          have il := (List.getElem?_eq_some_iff.mp hs').1
          have la := dpAll_len ha
          rw [List.length_map, List.length_map, List.length_take] at la
          refine ⟨rfl, y, rfl, y, s', Hb, rfl, hb.trans (s3.trans sm), dy, ok', wf', hi', fun G2 v s2 d2 => ⟨acc, s2 _ _ gD, by rw [sizeLine_eq]; omega, acc ++ [v], same_on (sm.trans s2) nD _, upd_same, ?_⟩⟩
          rw [take_next hs', List.map_append, List.map_append]
          have kk : TK G2 (upd G2 D (.lst (acc ++ [v]))) := TK.lst (s2 _ _ gD) _
          have wfs : ∀ u ∈ (ss.take i).map Sn.pl, u.wf = true := fun u hu => by
            obtain ⟨u', hu', rfl⟩ := List.mem_map.mp hu
            exact Sn.pl_wf u' (ps.each u' (List.mem_of_mem_take hu')).2.1
          exact dpAll_app (sns_tk ((TK.same s2).trans kk) _ _ wfs ha) (.cons (sn_tk kk _ _ (Sn.pl_wf _ wf') d2) .nil)
        · rintro G ⟨acc, sm, gD, ha⟩
          rw [lv, List.take_length] at ha
          refine ⟨D, acc, rfl, .inl ⟨.inl (.inl gD), fun p6 n6 => ?_⟩⟩
          have s6 : Same G (upd G p6 (.tup acc)) := same_new (fun b o e => e) n6 _
          have m6 : (upd G p6 (.tup acc)) p6 = some (.tup acc) := upd_same
          have ha6 := dpAll_same s6 ha
          have s16 : Same H (upd G p6 (.tup acc)) := s3.trans (sm.trans s6)
          generalize upd G p6 (.tup acc) = G6 at s6 m6 ha6 s16
          have sq6 : SqT K G6 p6 acc := .inl (.inl m6)
          have la := dpAll_len ha6
          rw [List.length_map, List.length_map] at la
          rcases ps.kind with ⟨s', rfl, rfl, rfl⟩ | ⟨sA, sB, rfl, rfl, w4⟩
          · refine sv_test (i := 1) rfl ?_
            rw [decide_eq_false (show ¬ (("not" : Str) = "then") by decide +kernel)]
            refine iteF (sv_test (i := 1) rfl ?_)
            rw [decide_eq_false (show ¬ (("not" : Str) = "same") by decide +kernel)]
            refine iteF ⟨.str "not", rfl, (by show 1 ≤ sizeLine; decide), fun z nz => ⟨.ref p6, rfl, ?_⟩⟩
            have s7 : Same G6 (upd G6 z (.tup [.str "not"])) := same_new (fun b o e => e) nz _
            refine rCatA_of (.inl (.inl upd_same)) ((TK.same s7).sq sq6) (by rw [sizeLine_eq]; show 1 + acc.length ≤ _; omega) fun r G8 s8 sq8 => ?_
            exact q _ _ (s16.trans (s7.trans s8)) (.tup sq8 (.cons (.str _) (dpAll_same (s7.trans s8) ha6)))
          · have ha2 : DpAll K G6 acc [sA.pl.d, sB.pl.d] := ha6
            cases ha2 with
            | @cons x1 r1 _ _ d1 hr1 =>
            cases hr1 with
            | @cons x2 r2 _ _ d2 hr2 =>
            cases hr2
            rcases Sn.tw wd with rfl | rfl | ⟨n1, n2⟩
            · refine sv_test (i := 1) rfl ?_
              rw [decide_eq_true rfl]
              refine iteT ⟨.ref p6, rfl, p6, _, 0, _, rfl, rfl, sq6, atI_nat (j := 0) rfl, .ref p6, rfl, p6, _, 1, _, rfl, rfl, sq6, atI_nat (j := 1) rfl, x1, x2, sA.pl, sB.pl, rfl, d1, d2, fun G8 v s8 d8 => ?_⟩
              have := q G8 v (s16.trans s8)
              rw [Sn.pl_then] at this
              exact this d8
            · refine sv_test (i := 1) rfl ?_
              rw [decide_eq_false Sn.ns_then]
              refine iteF (sv_test (i := 1) rfl ?_)
              rw [decide_eq_true rfl]
              refine iteT ⟨.ref p6, rfl, p6, _, 0, _, rfl, rfl, sq6, atI_nat (j := 0) rfl, .ref p6, rfl, p6, _, 1, _, rfl, rfl, sq6, atI_nat (j := 1) rfl, x1, x2, sA.pl, sB.pl, rfl, d1, d2, fun G8 v8 s8 d8 => ?_⟩
              have sq8 := (TK.same s8).sq sq6
              refine ⟨.ref p6, rfl, p6, _, 1, _, rfl, rfl, sq8, atI_nat (j := 1) rfl, .ref p6, rfl, p6, _, 0, _, rfl, rfl, sq8, atI_nat (j := 0) rfl, x2, x1, sB.pl, sA.pl, rfl, dp_same s8 d2, dp_same s8 d1, fun G9 v9 s9 d9 => ⟨(by show 3 ≤ sizeLine; rw [sizeLine_eq]; decide), fun t nt => ?_⟩⟩
              have s10 : Same G9 (upd G9 t (.tup [.str "and", v8, v9])) := same_new (fun b o e => e) nt _
              have := q _ (.ref t) (s16.trans (s8.trans (s9.trans s10)))
              rw [Sn.pl_same] at this
              exact this (.tup (.inl (.inl upd_same)) (.cons (.str _) (.cons (dp_same (s9.trans s10) d8) (.cons (dp_same s10 d9) .nil))))
            · refine sv_test (i := 1) rfl ?_
              rw [decide_eq_false n1]
              refine iteF (sv_test (i := 1) rfl ?_)
              rw [decide_eq_false n2]
              refine iteF ⟨.str wd, rfl, (by show 1 ≤ sizeLine; decide), fun z nz => ⟨.ref p6, rfl, ?_⟩⟩
              have s7 : Same G6 (upd G6 z (.tup [.str wd])) := same_new (fun b o e => e) nz _
              refine rCatA_of (.inl (.inl upd_same)) ((TK.same s7).sq sq6) (by rw [sizeLine_eq]; show 1 + 2 ≤ _; omega) fun r G8 s8 sq8 => ?_
              have := q _ (.ref r) (s16.trans (s7.trans s8))
              rw [Sn.pl_two n1 n2] at this
              exact this (.tup sq8 (.cons (.str _) (dpAll_same (s7.trans s8) (.cons d1 (.cons d2 .nil)))))
end
end Ad

/-! The free great names of a sentence. -/
namespace Ad
open PySem PySem.Spec PySem.Calls PyProof.Rows L2
mutual
/-- the great names of a term -/
def glT : PyData → List Str
  | .str x => [x]
  | .tuple [] => []
  | .tuple (_ :: ds) => glL ds
  | .none => []
  | .bool _ => []
  | .int _ => []
  | .list _ => []
  | .dict _ => []
def glL : List PyData → List Str
  | [] => []
  | d :: ds => glT d ++ glL ds
end
/-- a text among parts -/
def strD : PyData → List Str
  | .str x => [x]
  | _ => []
mutual
theorem gl_parts : ∀ d : PyData, wfT d = true → (partsD d).flatMap strD = glT d
  | .str x, _ => rfl
  | .tuple [], h => by cases h
  | .tuple (x :: ds), h => by
    have h2 := (Bool.and_eq_true_iff.mp h).2
    show (PyData.tuple (x :: ds) :: partsDL ds).flatMap strD = glL ds
    rw [List.flatMap_cons, gl_partsL ds h2]
    rfl
  | .none, h => by cases h
  | .bool _, h => by cases h
  | .int _, h => by cases h
  | .list _, h => by cases h
  | .dict _, h => by cases h
theorem gl_partsL : ∀ ds : List PyData, wfTL ds = true → (partsDL ds).flatMap strD = glL ds
  | [], _ => rfl
  | d :: ds, h => by
    obtain ⟨h1, h2⟩ := Bool.and_eq_true_iff.mp h
    show (partsD d ++ partsDL ds).flatMap strD = glT d ++ glL ds
    rw [List.flatMap_append, gl_parts d h1, gl_partsL ds h2]
end
mutual
theorem gl_len : ∀ d : PyData, (glT d).length ≤ (partsD d).length
  | .str x => Nat.le_refl _
  | .tuple [] => Nat.zero_le _
  | .tuple (x :: ds) => by
    have := gl_lenL ds
    show (glL ds).length ≤ (PyData.tuple (x :: ds) :: partsDL ds).length
    rw [List.length_cons]
    omega
  | .none => Nat.zero_le _
  | .bool _ => Nat.zero_le _
  | .int _ => Nat.zero_le _
  | .list _ => Nat.zero_le _
  | .dict _ => Nat.zero_le _
theorem gl_lenL : ∀ ds : List PyData, (glL ds).length ≤ (partsDL ds).length
  | [] => Nat.le_refl _
  | d :: ds => by
    have h1 := gl_len d
    have h2 := gl_lenL ds
    show (glT d ++ glL ds).length ≤ (partsD d ++ partsDL ds).length
    rw [List.length_append, List.length_append]
    omega
end
theorem glL_app : ∀ ds es : List PyData, glL (ds ++ es) = glL ds ++ glL es
  | [], _ => rfl
  | d :: ds, es => by
    show glT d ++ glL (ds ++ es) = glT d ++ glL ds ++ glL es
    rw [glL_app, List.append_assoc]
def notIn (B : List Str) (x : Str) : Bool := decide (x ∉ B)
def Sn.frees : List Str → Sn → List Str
  | B, .atm _ as => (glL as).filter (notIn B)
  | B, .qu _ x s => Sn.frees (B ++ [x]) s
  | B, .one s => Sn.frees B s
  | B, .two _ a b => Sn.frees B a ++ Sn.frees B b
/-- the terms of an atom -/
def argsD : PyData → List PyData
  | .tuple (_ :: ds) => ds
  | _ => []
theorem frees_atoms : ∀ (s : Sn) (B : List Str), (Sn.atoms B s).flatMap (fun q => (glL (argsD q.1)).filter (notIn q.2)) = Sn.frees B s
  | .atm eq as, B => by
    show ([(Sn.d (.atm eq as), B)] : List (PyData × List Str)).flatMap _ = (glL as).filter (notIn B)
    rw [List.flatMap_cons, List.flatMap_nil, List.append_nil]
    rfl
  | .qu _ x s, B => frees_atoms s (B ++ [x])
  | .one s, B => frees_atoms s B
  | .two _ a b, B => by
    show (Sn.atoms B a ++ Sn.atoms B b).flatMap _ = Sn.frees B a ++ Sn.frees B b
    rw [List.flatMap_append, frees_atoms a B, frees_atoms b B]
theorem frees_out : ∀ (s : Sn) (B : List Str), ∀ x ∈ Sn.frees B s, x ∉ B
  | .atm _ as, B, x, h => of_decide_eq_true (List.mem_filter.mp h).2
  | .qu _ z s, B, x, h => fun hb => frees_out s (B ++ [z]) x h (List.mem_append_left _ hb)
  | .one s, B, x, h => frees_out s B x h
  | .two _ a b, B, x, h => by
    rcases List.mem_append.mp h with z | z
    · exact frees_out a B x z
    · exact frees_out b B x z
theorem frees_filter (s : Sn) (B : List Str) : (Sn.frees B s).filter (notIn B) = Sn.frees B s :=
  List.filter_eq_self.mpr fun x hx => decide_eq_true (frees_out s B x hx)
theorem frees_len : ∀ (s : Sn) (B : List Str), s.wf = true → (Sn.frees B s).length ≤ 40 * s.size
  | .atm false as, B, h => by
    obtain ⟨_, h⟩ := Bool.and_eq_true_iff.mp h
    obtain ⟨_, h⟩ := Bool.and_eq_true_iff.mp h
    obtain ⟨_, h⟩ := Bool.and_eq_true_iff.mp h
    have l := of_decide_eq_true h
    have l2 := gl_lenL as
    have l3 := List.length_filter_le (notIn B) (glL as)
    show ((glL as).filter (notIn B)).length ≤ 40 * 1
    omega
  | .atm true as, B, h => by
    obtain ⟨_, h⟩ := Bool.and_eq_true_iff.mp h
    obtain ⟨_, h⟩ := Bool.and_eq_true_iff.mp h
    have l := of_decide_eq_true h
    have l2 := gl_lenL as
    have l3 := List.length_filter_le (notIn B) (glL as)
    show ((glL as).filter (notIn B)).length ≤ 40 * 1
    omega
  | .qu _ z s, B, h => by
    have := frees_len s (B ++ [z]) h
    show (Sn.frees (B ++ [z]) s).length ≤ 40 * (1 + s.size)
    omega
  | .one s, B, h => by
    have := frees_len s B h
    show (Sn.frees B s).length ≤ 40 * (1 + s.size)
    omega
  | .two _ a b, B, h => by
    obtain ⟨h1, h2⟩ := Bool.and_eq_true_iff.mp h
    have h3 := frees_len a B h1
    have h4 := frees_len b B h2
    show (Sn.frees B a ++ Sn.frees B b).length ≤ 40 * (1 + a.size + b.size)
    rw [List.length_append]
    omega
section
variable {R S : List Row}
mutual
theorem tok_gl {kn kn' : List Str} : ∀ d : PyData, TOk R kn d → (∀ x ∈ glT d, x ∈ kn') → TOk R kn' d
  | .str x, _, h => h x (List.mem_singleton_self x)
  | .tuple [], t, _ => t
  | .tuple (x :: ds), t, h => ⟨t.1, tokL_gl ds t.2 h⟩
  | .none, t, _ => t
  | .bool _, t, _ => t
  | .int _, t, _ => t
  | .list _, t, _ => t
  | .dict _, t, _ => t
theorem tokL_gl {kn kn' : List Str} : ∀ ds : List PyData, TOkL R kn ds → (∀ x ∈ glL ds, x ∈ kn') → TOkL R kn' ds
  | [], _, _ => True.intro
  | d :: ds, t, h => ⟨tok_gl d t.1 fun x hx => h x (List.mem_append_left _ hx), tokL_gl ds t.2 fun x hx => h x (List.mem_append_right _ hx)⟩
end
mutual
theorem tok_in {kn : List Str} : ∀ d : PyData, TOk R kn d → ∀ x ∈ glT d, x ∈ kn
  | .str y, t, x, h => by
    cases List.mem_singleton.mp h
    exact t
  | .tuple [], _, x, h => by cases h
  | .tuple (z :: ds), t, x, h => tokL_in ds t.2 x h
  | .none, _, x, h => by cases h
  | .bool _, _, x, h => by cases h
  | .int _, _, x, h => by cases h
  | .list _, _, x, h => by cases h
  | .dict _, _, x, h => by cases h
theorem tokL_in {kn : List Str} : ∀ ds : List PyData, TOkL R kn ds → ∀ x ∈ glL ds, x ∈ kn
  | [], _, x, h => by cases h
  | d :: ds, t, x, h => by
    rcases List.mem_append.mp h with z | z
    · exact tok_in d t.1 x z
    · exact tokL_in ds t.2 x z
end
theorem good_gl : ∀ (s : Sn) (B kn kn' : List Str), Sn.good R S kn s → (∀ x ∈ Sn.frees B s, x ∈ kn') → Sn.good R S (kn' ++ B) s
  | .atm false as, B, kn, kn', g, h => by
    obtain ⟨r, ds, rfl, hr, ar, t⟩ := g
    refine ⟨r, ds, rfl, hr, ar, tokL_gl ds t fun x hx => ?_⟩
    by_cases hb : x ∈ B
    · exact List.mem_append_right _ hb
    · refine List.mem_append_left _ (h x (List.mem_filter.mpr ⟨?_, decide_eq_true hb⟩))
      show x ∈ glL [PyData.tuple (.str r.1 :: ds)]
      show x ∈ glL ds ++ []
      rw [List.append_nil]
      exact hx
  | .atm true as, B, kn, kn', g, h => by
    obtain ⟨t, u, rfl, ht, hu⟩ := g
    have key : ∀ x ∈ glT t ++ (glT u ++ []), x ∈ kn' ++ B := fun x hx => by
      by_cases hb : x ∈ B
      · exact List.mem_append_right _ hb
      · exact List.mem_append_left _ (h x (List.mem_filter.mpr ⟨hx, decide_eq_true hb⟩))
    exact ⟨t, u, rfl, tok_gl t ht fun x hx => key x (List.mem_append_left _ hx), tok_gl u hu fun x hx => key x (List.mem_append_right _ (List.mem_append_left _ hx))⟩
  | .qu _ z s, B, kn, kn', g, h => by
    refine ⟨g.1, ?_⟩
    have := good_gl s (B ++ [z]) (kn ++ [z]) kn' g.2 h
    rw [← List.append_assoc] at this
    exact this
  | .one s, B, kn, kn', g, h => good_gl s B kn kn' g h
  | .two _ a b, B, kn, kn', g, h => ⟨good_gl a B kn kn' g.1 fun x hx => h x (List.mem_append_left _ hx), good_gl b B kn kn' g.2 fun x hx => h x (List.mem_append_right _ hx)⟩
theorem good_in : ∀ (s : Sn) (B kn : List Str), Sn.good R S (kn ++ B) s → ∀ x ∈ Sn.frees B s, x ∈ kn
  | .atm false as, B, kn, g, x, h => by
    obtain ⟨r, ds, rfl, hr, ar, t⟩ := g
    obtain ⟨h1, h2⟩ := List.mem_filter.mp h
    have h3 : x ∈ glL ds ++ [] := h1
    rw [List.append_nil] at h3
    rcases List.mem_append.mp (tokL_in ds t x h3) with z | z
    · exact z
    · exact absurd z (of_decide_eq_true h2)
  | .atm true as, B, kn, g, x, h => by
    obtain ⟨t, u, rfl, ht, hu⟩ := g
    obtain ⟨h1, h2⟩ := List.mem_filter.mp h
    have h3 : x ∈ glT t ++ (glT u ++ []) := h1
    rw [List.append_nil] at h3
    have h4 : x ∈ kn ++ B := by
      rcases List.mem_append.mp h3 with z | z
      · exact tok_in t ht x z
      · exact tok_in u hu x z
    rcases List.mem_append.mp h4 with z | z
    · exact z
    · exact absurd z (of_decide_eq_true h2)
  | .qu _ z s, B, kn, g, x, h => by
    have g2 := g.2
    rw [List.append_assoc] at g2
    exact good_in s (B ++ [z]) kn g2 x h
  | .one s, B, kn, g, x, h => good_in s B kn g x h
  | .two _ a b, B, kn, g, x, h => by
    rcases List.mem_append.mp h with z | z
    · exact good_in a B kn g.1 x z
    · exact good_in b B kn g.2 x z
end
/-- each once, in the order of coming -/
def once : List Str → List Str → List Str
  | acc, [] => acc
  | acc, x :: xs => once (if x ∈ acc then acc else acc ++ [x]) xs
theorem once_app : ∀ (xs ys acc : List Str), once acc (xs ++ ys) = once (once acc xs) ys
  | [], _, _ => rfl
  | x :: xs, ys, acc => once_app xs ys _
theorem once_step (acc : List Str) (x : Str) : once acc [x] = if x ∈ acc then acc else acc ++ [x] := rfl
theorem once_nodup : ∀ (xs acc : List Str), acc.Nodup → (once acc xs).Nodup
  | [], acc, h => h
  | x :: xs, acc, h => by
    refine once_nodup xs _ ?_
    by_cases e : x ∈ acc
    · rw [if_pos e]
      exact h
    · rw [if_neg e]
      refine List.nodup_append.mpr ⟨h, by simp, ?_⟩
      intro a ha b hb
      rw [List.mem_singleton.mp hb]
      exact fun z => e (z ▸ ha)
theorem once_mem : ∀ (xs acc : List Str) (x : Str), x ∈ once acc xs ↔ x ∈ acc ∨ x ∈ xs
  | [], acc, x => by
    show x ∈ acc ↔ _
    simp
  | y :: xs, acc, x => by
    show x ∈ once (if y ∈ acc then acc else acc ++ [y]) xs ↔ _
    rw [once_mem xs]
    by_cases e : y ∈ acc
    · rw [if_pos e, List.mem_cons]
      refine ⟨fun h => ?_, fun h => ?_⟩
      · rcases h with h | h
        · exact .inl h
        · exact .inr (.inr h)
      · rcases h with h | h | h
        · exact .inl h
        · rw [h]
          exact .inl e
        · exact .inr h
    · rw [if_neg e, List.mem_append, List.mem_singleton, List.mem_cons]
      exact ⟨fun h => by rcases h with (h | h) | h; exact .inl h; exact .inr (.inl h); exact .inr (.inr h), fun h => by rcases h with h | h | h; exact .inl (.inl h); exact .inl (.inr h); exact .inr h⟩
theorem once_len : ∀ (xs acc : List Str), (once acc xs).length ≤ acc.length + xs.length
  | [], acc => Nat.le_refl _
  | x :: xs, acc => by
    have := once_len xs (if x ∈ acc then acc else acc ++ [x])
    show (once (if x ∈ acc then acc else acc ++ [x]) xs).length ≤ acc.length + (xs.length + 1)
    by_cases e : x ∈ acc
    · rw [if_pos e] at this ⊢
      omega
    · rw [if_neg e] at this ⊢
      rw [List.length_append, List.length_singleton] at this
      omega
end Ad

/-! The law's own great names of a term. -/
namespace Ad
open PySem PySem.Spec PySem.Calls PyProof.Rows L2
abbrev sLGreat : Stmt := topS 34
theorem scLGreat : FnScope ["_law_term", "_law_found", "_law_part"] ["_law_term"] (defScope sLGreat) := ⟨rfl, rfl, rfl, by decide +kernel, rfl, by decide +kernel, by decide +kernel⟩
theorem wf_cases {d : PyData} (h : wfT d = true) : (∃ x, d = .str x) ∨ ∃ z ds, d = .tuple (.str z :: ds) ∧ wfTL ds = true := by
  cases d with
  | str x => exact .inl ⟨x, rfl⟩
  | tuple ds0 =>
    cases ds0 with
    | nil => cases h
    | cons z ds =>
      obtain ⟨h1, h2⟩ := Bool.and_eq_true_iff.mp (show (isSt z && wfTL ds) = true from h)
      cases z with
      | str y => exact .inr ⟨y, ds, rfl, h2⟩
      | _ => cases h1
  | _ => cases h
section
variable {P : Program} {w : World} {K : PySem.W.Frag} {mg : Str → Option Value} {base : Heap}
def spLGreat (K : PySem.W.Frag) (n : Nat) : Sp := fun vs H Q _ => ∃ (x : V) (d : PyData) (Hb : Hp), vs = [x] ∧ Same Hb H ∧ Dp K Hb x d ∧ wfT d = true ∧ (partsD d).length ≤ n ∧ n ≤ 60 ∧ ∀ H' p, Same H H' → H p = none → H' p = some (.lst ((glT d).map V.str)) → Q (.ref p) H'
theorem ok_lgreat {f : Addr} {fd : FuncData} {k : Nat} (F : Fun K "_law_great" "_law_great" sLGreat f fd) (gF : mg "_law_great" = some (.ref f)) (bF : Binds K fd ["_law_term"] []) (m_isinstance : mg "isinstance" = none) (m_str : mg "str" = none) :
    ∀ n, FnOk P w K mg base CX0 (k + n) f fd ["_law_term"] (spLGreat K n)
  | 0 => vac fun vs H Q E ⟨x, d, Hb, _, _, _, _, z, _⟩ => absurd (Nat.le_trans (partsD_pos d) z) (by decide)
  | n + 1 => by
    have IH : FnOk P w K mg base CX0 (k + n) f fd ["_law_term"] (spLGreat K n) := ok_lgreat F gF bF m_isinstance m_str n
    refine F.ok scLGreat (fun vs H Q E h => ?_) (fun cdv A outer s H vs Q E hr h => ?_)
    · obtain ⟨x, d, Hb, rfl, _⟩ := h
      rfl
    · obtain ⟨x, d, Hb, rfl, hb, hd, wf, small, n60, q⟩ := h
      refine ⟨_, (pss_cons (ps_if (pt_val (pe_callB call_isi (by rfl) m_isinstance (by decide +kernel) (pa_cons (pv 0) (pa_cons (pe_bltn (v := .ty "str") (by rfl) m_str (by decide +kernel) rfl) pa_nil))))
      (pss_one (ps_ret (pe_lst (pa_cons (pv 0) pa_nil)))) pss_nil)
    (pss_cons (ps_set (i := 1) scLGreat.nd rfl (.inl rfl) (pe_lst pa_nil))
    (pss_cons (ps_for PassesOwn.never rfl (pi_tup (pe_slice sl_tup (pv 0) (po_some pe_int) po_none)) (pg_name (i := 2) scLGreat.nd rfl (.inl rfl))
      (pss_one (ps_set (i := 1) scLGreat.nd rfl (.inl rfl) (pe_op op_cat (pv 1) (pe_call IH hr (by rfl) gF F.kp bF .nil pass0 (pa_cons (pv 2) pa_nil))))))
    (pss_one (ps_ret (pv 1)))))), ?_⟩
      have hdH := dp_same hb hd
      refine ⟨x, rfl, _, .ty "str", tyD d, .type "str", _, rfl, .ty "str", dp_ty hdH, kit_st d, _, rfl, ?_⟩
      rcases wf_cases wf with ⟨y, rfl⟩ | ⟨z, ds, rfl, wfd⟩
      · cases hd
        refine iteT ?_
        exact ⟨_, rfl, (by show 1 ≤ sizeLine; decide), fun p np => q _ p (same_new (fun b o e => e) np _) np upd_same⟩
      · refine iteF ?_
        have lp : (partsD (.tuple (.str z :: ds))).length = 1 + (partsDL ds).length := by
          show (PyData.tuple (.str z :: ds) :: partsDL ds).length = _
          rw [List.length_cons]
          omega
        cases hd with
        | @tup a zs _ sq0 all0 =>
        cases all0 with
        | @cons v0 vs _ _ hv0 all =>
        cases hv0
        refine ⟨(by show 0 ≤ sizeLine; exact Nat.zero_le _), fun l0 n0 => ?_⟩
        have s0 : Same H (upd H l0 (.lst [])) := same_new (fun b o e => e) n0 _
        have e0 : (upd H l0 (.lst [])) l0 = some (.lst []) := upd_same
        generalize upd H l0 (.lst []) = H0 at s0 e0
        refine ⟨.ref a, rfl, 1, rfl, a, _, rfl, (TK.same s0).sq ((TK.same hb).sq sq0), cut_args.1, fun p3 n3 => ?_⟩
        rw [cut_args.2]
        have s3 : Same H (upd H0 p3 (.tup vs)) := same_new s0 n3 _
        have e3 : (upd H0 p3 (.tup vs)) p3 = some (.tup vs) := upd_same
        have e03 : (upd H0 p3 (.tup vs)) l0 = some (.lst []) := by rw [upd_ne (ne_of_none e0 n3)]; exact e0
        have la := dpAll_len all
        generalize upd H0 p3 (.tup vs) = G1 at s3 e3 e03
        refine ⟨p3, rfl, ⟨vs, .inl (.inl e3)⟩, for_tup (K := K) (a := p3) (xs := vs) (fun i σ G => ∃ (l : Addr) (v2 : Option V), σ = [some (.ref a), some (.ref l), v2] ∧ Same H G ∧ H l = none ∧ G p3 = some (.tup vs) ∧ G l = some (.lst ((glL (ds.take i)).map V.str))) ⟨l0, none, rfl, s3, n0, e3, e03⟩ (fun i σ G _ ⟨_, _, _, _, _, e, _⟩ => .inl (.inl e)) ?_ ?_⟩
        · rintro i y σ G hy ⟨l, v2, rfl, sm, nl, g3, gl⟩
          obtain ⟨u, hu', tu⟩ := dpAll_get all hy
          obtain ⟨wfu, pl⟩ := wfTL_mem wfd hu'
          refine ⟨.ref l, rfl, y, rfl, y, u, Hb, rfl, fun b o e => sm _ _ (hb _ _ e), tu, wfu, by omega, by omega, fun G2 p2 s2 np2 e2 => ⟨l, p2, _, _, rfl, rfl, s2 _ _ gl, e2, ?_, fun l3 n3' => ?_⟩⟩
          · have h1 := gl_lenL (ds.take i)
            have h2 := parts_take (ds := ds) i
            have h3 := gl_len u
            rw [List.length_map, List.length_map, sizeLine_eq]
            omega
          · have s5 : Same G2 (upd G2 l3 (.lst ((glL (ds.take i)).map V.str ++ (glT u).map V.str))) := same_new (fun b o e => e) n3' _
            have sH : Same H (upd G2 l3 (.lst ((glL (ds.take i)).map V.str ++ (glT u).map V.str))) := fun b o e => s5 _ _ (s2 _ _ (sm _ _ e))
            refine ⟨l3, some y, rfl, sH, none_before (show Same H G2 from fun b o e => s2 _ _ (sm _ _ e)) n3', s5 _ _ (s2 _ _ g3), ?_⟩
            rw [upd_same, take_next hu', glL_app, List.map_append]
            show _ = some (HO.lst (_ ++ (glT u ++ []).map V.str))
            rw [List.append_nil]
        · rintro σ G ⟨l, v2, rfl, sm, nl, g3, gl⟩
          rw [la, List.take_length] at gl
          exact ⟨_, rfl, q G l sm nl gl⟩
end
end Ad

/-! The law's own free great names of a sentence. -/
namespace Ad
open PySem PySem.Spec PySem.Calls PyProof.Rows L2
abbrev sLFree : Stmt := topS 35
theorem scLFree : FnScope ["_law_sentence", "_law_bound_here", "_law_found", "_law_part", "_law_some", "_law_name"] ["_law_sentence", "_law_bound_here"] (defScope sLFree) := ⟨rfl, rfl, rfl, by decide +kernel, rfl, by decide +kernel, by decide +kernel⟩
theorem inV_is (wd : Str) (h1 : wd ≠ "is") (h2 : wd ≠ "equal") : inV (.str wd) [.str "is", .str "equal"] = false := by
  have := inV_mem wd ["is", "equal"]
  rw [show [V.str "is", V.str "equal"] = (["is", "equal"] : List Str).map V.str from rfl, this, decide_eq_false]
  intro h
  rcases List.mem_cons.mp h with z | z
  · exact h1 z
  · exact h2 (List.mem_singleton.mp z)
section
variable {P : Program} {w : World} {K : PySem.W.Frag} {mg : Str → Option Value} {base : Heap}
def spLFree (K : PySem.W.Frag) (n : Nat) : Sp := fun vs H Q _ => ∃ (x : V) (bl : Addr) (s : Sn) (B : List Str) (Hb : Hp), vs = [x, .ref bl] ∧ Same Hb H ∧ Dp K Hb x s.d ∧ s.ok = true ∧ s.wf = true ∧ s.hi ≤ n ∧ s.size ≤ 2000 ∧ n ≤ 1000 ∧ H bl = some (.lst (B.map V.str)) ∧ B.length + n ≤ 2000 ∧
  ∀ H' p, Same H H' → H p = none → H' p = some (.lst ((Sn.frees B s).map V.str)) → Q (.ref p) H'
theorem ok_lfree {f fG : Addr} {fd fdG : FuncData} {k : Nat} (F : Fun K "_law_free" "_law_free" sLFree f fd) (gF : mg "_law_free" = some (.ref f)) (bF : Binds K fd ["_law_sentence", "_law_bound_here"] [])
    (GG : FnOk P w K mg base CX0 k fG fdG ["_law_term"] (spLGreat K 60)) (gG : mg "_law_great" = some (.ref fG)) (kG : PySem.W.keepIn K (.ref fG) = true) (bG : Binds K fdG ["_law_term"] []) :
    ∀ n, FnOk P w K mg base CX0 (k + n) f fd ["_law_sentence", "_law_bound_here"] (spLFree K n)
  | 0 => vac fun vs H Q E ⟨x, bl, s, B, Hb, _, _, _, _, _, z, _⟩ => absurd (Nat.le_trans s.hi_pos z) (by decide)
  | n + 1 => by
    have IH : FnOk P w K mg base CX0 (k + n) f fd ["_law_sentence", "_law_bound_here"] (spLFree K n) := ok_lfree F gF bF GG gG kG bG n
    have GG' : FnOk P w K mg base CX0 (k + n) fG fdG ["_law_term"] (spLGreat K 60) := GG.mono (Nat.le_add_right _ _)
    refine F.ok scLFree (fun vs H Q E h => ?_) (fun cdv A outer s H vs Q E hr h => ?_)
    · obtain ⟨x, bl, s, B, Hb, rfl, _⟩ := h
      rfl
    · obtain ⟨x, bl, s, B, Hb, rfl, hb, hd, ok, wf, small, big, n1000, hbl, fewB, q⟩ := h
      refine ⟨_, (pss_cons (ps_if (pt_cmpR op_in_seq (pe_ix ix_tup (pv 0) pe_int (fun _ _ => rfl)) (pe_lst (pa_cons pe_str (pa_cons pe_str pa_nil))) (by with_unfolding_all rfl))
      (pss_one (ps_ret (pe_call IH hr (by rfl) gF F.kp bF .nil pass0 (pa_cons (pe_ix ix_tup (pv 0) pe_int (fun _ _ => rfl)) (pa_cons (pe_op op_cat (pv 1) (pe_lst (pa_cons (pe_ix ix_tup (pv 0) pe_int (fun _ _ => rfl)) pa_nil))) pa_nil))))) pss_nil)
    (pss_cons (ps_set (i := 2) scLFree.nd rfl (.inl rfl) (pe_lst pa_nil))
    (pss_cons (ps_for PassesOwn.never rfl (pi_tup (pe_slice sl_tup (pv 0) (po_some pe_int) po_none)) (pg_name (i := 3) scLFree.nd rfl (.inl rfl))
      (C8.pss_cut (ps_set (i := 4) scLFree.nd rfl (.inl rfl) (pe_ifExp (pt_cmpR op_in_seq (pe_ix ix_tup (pv 0) pe_int (fun _ _ => rfl)) (pe_lst (pa_cons pe_str (pa_cons pe_str pa_nil))) (by with_unfolding_all rfl)) (pe_call GG' hr (by rfl) gG kG bG .nil pass0 (pa_cons (pv 3) pa_nil)) (pe_call IH hr (by rfl) gF F.kp bF .nil pass0 (pa_cons (pv 3) (pa_cons (pv 1) pa_nil)))))
      (pss_one (ps_set (i := 2) scLFree.nd rfl (.inl rfl) (pe_op op_cat (pv 2) (pe_lc (own := [("_law_name", 5)]) (g := gName 5) (tt := tTest (tOp (rIn K true) (tVar 5) (tVar 1))) (te := tVar 5) rfl scLFree.nd (pi_list (pv 4)) (blkOk_by (N := ["_law_sentence", "_law_bound_here", "_law_found", "_law_part", "_law_some", "_law_name"]) (sc := defScope sLFree) (by decide +kernel)) (fun _ _ _ _ _ => (pg_name (i := 5) scLFree.nd rfl (.inl rfl))) (fun _ _ _ _ _ => pts_one (pt_cmpR op_notIn_seq (pv 5) (pv 1) (by with_unfolding_all rfl))) (fun _ _ _ _ _ => (pv 5))))))))
    (pss_one (ps_ret (pv 2)))))), ?_⟩
      by_cases isq : ∃ al z s', s = .qu al z s'
      · obtain ⟨al, z, s', rfl⟩ := isq
        obtain ⟨a, v1, v2, rfl, sq, h1, h2⟩ := dp_three (show Dp K Hb x (.tuple [.str (Sn.word (.qu al z s')), .str z, s'.d]) from hd)
        cases h1
        have zs : 1 + s'.hi ≤ n + 1 := small
        have zb : 1 + s'.size ≤ 2000 := big
        have isIn : inV (.str (Sn.word (.qu al z s'))) [.str "all", .str "some"] = true := by
          cases al with
          | true => exact show inV (.str "all") [.str "all", .str "some"] = true by decide +kernel
          | false => exact show inV (.str "some") [.str "all", .str "some"] = true by decide +kernel
        have sqH := (TK.same hb).sq sq
        refine ⟨.ref a, rfl, a, _, 0, _, rfl, rfl, sqH, atI_nat (j := 0) rfl, (by show 2 ≤ sizeLine; rw [sizeLine_eq]; decide), fun l nl => ⟨l, _, rfl, .inl (.inl (.inl upd_same)), rfl, rfl, _, rfl, go_in isIn ?_⟩⟩
        have sm0 : Same H (upd H l (.lst [.str "all", .str "some"])) := same_new (fun b o e => e) nl _
        generalize upd H l (.lst [.str "all", .str "some"]) = G0 at sm0
        have sq0 := (TK.same sm0).sq sqH
        refine ⟨.ref a, rfl, a, _, 2, v2, rfl, rfl, sq0, atI_nat (j := 2) rfl, .ref bl, rfl, .ref a, rfl, a, _, 1, .str z, rfl, rfl, sq0, atI_nat (j := 1) rfl, (by show 1 ≤ sizeLine; decide), fun l1 nl1 => ?_⟩
        have sm1 : Same G0 (upd G0 l1 (.lst [.str z])) := same_new (fun b o e => e) nl1 _
        have el1 : (upd G0 l1 (.lst [.str z])) l1 = some (.lst [.str z]) := upd_same
        generalize upd G0 l1 (.lst [.str z]) = G1 at sm1 el1
        have sH1 : Same H G1 := fun b o e => sm1 _ _ (sm0 _ _ e)
        refine ⟨bl, l1, _, _, rfl, rfl, sH1 _ _ hbl, el1, by rw [List.length_map, List.length_singleton, sizeLine_eq]; omega, fun l2 nl2 => ?_⟩
        have sH2 : Same H (upd G1 l2 (.lst (B.map V.str ++ [.str z]))) := same_new sH1 nl2 _
        have el2 : (upd G1 l2 (.lst (B.map V.str ++ [.str z]))) l2 = some (.lst ((B ++ [z]).map V.str)) := by
          rw [upd_same, List.map_append]
          rfl
        generalize upd G1 l2 (.lst (B.map V.str ++ [.str z])) = G2 at sH2 el2
        refine ⟨v2, l2, s', B ++ [z], Hb, rfl, fun b o e => sH2 _ _ (hb _ _ e), h2, ok, wf, by omega, by omega, by omega, el2, by rw [List.length_append, List.length_singleton]; omega, fun H' p s1 np ep => ?_⟩
        exact q H' p (fun b o e => s1 _ _ (sH2 _ _ e)) (none_before sH2 np) ep
      · have shape : ∃ (wd : Str) (a : Addr) (vs : List V) (fs : List (List Str)) (isA : Bool), x = .ref a ∧ SqT K Hb a (.str wd :: vs) ∧ inV (.str wd) [.str "all", .str "some"] = false ∧ inV (.str wd) [.str "is", .str "equal"] = isA ∧ Sn.frees B s = fs.flatMap (fun g => g.filter (notIn B)) ∧ vs.length = fs.length ∧ fs.length ≤ 2 ∧
            ∀ (i : Nat) (y : V) (g : List Str), vs[i]? = some y → fs[i]? = some g → g.length ≤ 100000 ∧ (if isA = true then ∃ u, Dp K Hb y u ∧ wfT u = true ∧ (partsD u).length ≤ 60 ∧ g = glT u else ∃ s', Dp K Hb y (Sn.d s') ∧ s'.ok = true ∧ s'.wf = true ∧ s'.hi ≤ n ∧ s'.size ≤ 2000 ∧ g = Sn.frees B s') := by
          cases s with
          | qu al z s' => exact absurd ⟨al, z, s', rfl⟩ isq
          | atm eq as =>
            cases eq with
            | false =>
              have wf1 := wf
              obtain ⟨l1, wf2⟩ := Bool.and_eq_true_iff.mp (show (decide (as.length = 1) && (wfTL as && (isTu (as.getD 0 .none) && decide ((partsDL as).length ≤ 40)))) = true from wf)
              match as, of_decide_eq_true l1, wf1, wf2, hd with
              | [t], _, wf1, wf2, hd =>
                obtain ⟨a, v1, rfl, sq, h1⟩ := dp_two (show Dp K Hb x (.tuple [.str "is", t]) from hd)
                have wft : wfT t = true := (Bool.and_eq_true_iff.mp (Bool.and_eq_true_iff.mp wf2).1).1
                have p40 := wf_one wf1
                refine ⟨"is", a, [v1], [glT t], true, rfl, sq, by decide +kernel, by decide +kernel, ?_, rfl, (by show 1 ≤ 2; decide), fun i y g hy hg => ?_⟩
                · show (glT t ++ []).filter (notIn B) = (glT t).filter (notIn B) ++ []
                  rw [List.append_nil, List.append_nil]
                · match i, hy, hg with
                  | 0, hy, hg =>
                    cases hy
                    cases hg
                    have := gl_len t
                    exact ⟨by omega, t, h1, wft, by omega, rfl⟩
            | true =>
              have wf1 := wf
              obtain ⟨l1, wf2⟩ := Bool.and_eq_true_iff.mp (show (decide (as.length = 2) && (wfTL as && decide ((partsDL as).length ≤ 40))) = true from wf)
              match as, of_decide_eq_true l1, wf1, wf2, hd with
              | [t, u], _, wf1, wf2, hd =>
                obtain ⟨a, v1, v2, rfl, sq, h1, h2⟩ := dp_three (show Dp K Hb x (.tuple [.str "equal", t, u]) from hd)
                obtain ⟨wft, wfu'⟩ := Bool.and_eq_true_iff.mp (Bool.and_eq_true_iff.mp wf2).1
                have wfu : wfT u = true := (Bool.and_eq_true_iff.mp wfu').1
                obtain ⟨p1, p2⟩ := wf_two wf1
                refine ⟨"equal", a, [v1, v2], [glT t, glT u], true, rfl, sq, by decide +kernel, by decide +kernel, ?_, rfl, (by show 2 ≤ 2; decide), fun i y g hy hg => ?_⟩
                · show (glT t ++ (glT u ++ [])).filter (notIn B) = (glT t).filter (notIn B) ++ ((glT u).filter (notIn B) ++ [])
                  rw [List.append_nil, List.append_nil, List.filter_append]
                · match i, hy, hg with
                  | 0, hy, hg =>
                    cases hy
                    cases hg
                    have := gl_len t
                    exact ⟨by omega, t, h1, wft, by omega, rfl⟩
                  | 1, hy, hg =>
                    cases hy
                    cases hg
                    have := gl_len u
                    exact ⟨by omega, u, h2, wfu, by omega, rfl⟩
          | one s' =>
            obtain ⟨a, v1, rfl, sq, h1⟩ := dp_two (show Dp K Hb x (.tuple [.str "not", s'.d]) from hd)
            have zs : 1 + s'.hi ≤ n + 1 := small
            have zb : 1 + s'.size ≤ 2000 := big
            have fl := frees_len s' B wf
            refine ⟨"not", a, [v1], [Sn.frees B s'], false, rfl, sq, by decide +kernel, by decide +kernel, ?_, rfl, (by show 1 ≤ 2; decide), fun i y g hy hg => ?_⟩
            · show Sn.frees B s' = (Sn.frees B s').filter (notIn B) ++ []
              rw [List.append_nil, frees_filter]
            · match i, hy, hg with
              | 0, hy, hg =>
                cases hy
                cases hg
                exact ⟨by omega, s', h1, ok, wf, by omega, by omega, rfl⟩
          | two wd sA sB =>
            obtain ⟨a, v1, v2, rfl, sq, h1, h2⟩ := dp_three (show Dp K Hb x (.tuple [.str wd, sA.d, sB.d]) from hd)
            have zs : 1 + max sA.hi sB.hi ≤ n + 1 := small
            have zb : 1 + sA.size + sB.size ≤ 2000 := big
            obtain ⟨okw, okAB⟩ := Bool.and_eq_true_iff.mp (show (decide (wd ∈ (["and", "or", "then", "same"] : List Str)) && (sA.ok && sB.ok)) = true from ok)
            obtain ⟨okA, okB⟩ := Bool.and_eq_true_iff.mp okAB
            obtain ⟨wfA, wfB⟩ := Bool.and_eq_true_iff.mp (show (sA.wf && sB.wf) = true from wf)
            obtain ⟨n1, n2, n3, n4⟩ := word_two (of_decide_eq_true okw)
            have flA := frees_len sA B wfA
            have flB := frees_len sB B wfB
            refine ⟨wd, a, [v1, v2], [Sn.frees B sA, Sn.frees B sB], false, rfl, sq, ?_, inV_is wd n1 n2, ?_, rfl, (by show 2 ≤ 2; decide), fun i y g hy hg => ?_⟩
            · rw [inV_two, decide_eq_false n3, decide_eq_false n4]
              rfl
            · show Sn.frees B sA ++ Sn.frees B sB = (Sn.frees B sA).filter (notIn B) ++ ((Sn.frees B sB).filter (notIn B) ++ [])
              rw [List.append_nil, frees_filter, frees_filter]
            · match i, hy, hg with
              | 0, hy, hg =>
                cases hy
                cases hg
                exact ⟨by omega, sA, h1, okA, wfA, by omega, by omega, rfl⟩
              | 1, hy, hg =>
                cases hy
                cases hg
                exact ⟨by omega, sB, h2, okB, wfB, by omega, by omega, rfl⟩
        obtain ⟨wd, a, vs, fs, isA, rfl, sq, no, isIn, efs, lv, two, each⟩ := shape
        rw [efs] at q
        clear efs hd ok wf small big isq
        have sqH := (TK.same hb).sq sq
        refine ⟨.ref a, rfl, a, _, 0, _, rfl, rfl, sqH, atI_nat (j := 0) rfl, (by show 2 ≤ sizeLine; rw [sizeLine_eq]; decide), fun l nl => ⟨l, _, rfl, .inl (.inl (.inl upd_same)), rfl, rfl, _, rfl, go_out no ?_⟩⟩
        have sm0 : Same H (upd H l (.lst [.str "all", .str "some"])) := same_new (fun b o e => e) nl _
        generalize upd H l (.lst [.str "all", .str "some"]) = G0 at sm0
        refine ⟨Nat.zero_le _, fun l0 n0 => ?_⟩
        have s0 : Same H (upd G0 l0 (.lst [])) := same_new sm0 n0 _
        have e0 : (upd G0 l0 (.lst [])) l0 = some (.lst []) := upd_same
        have nH0 := none_before sm0 n0
        generalize upd G0 l0 (.lst []) = G1 at s0 e0
        refine ⟨.ref a, rfl, 1, rfl, a, _, rfl, (TK.same s0).sq sqH, cut_args.1, fun p3 n3 => ?_⟩
        rw [cut_args.2]
        have s3 : Same H (upd G1 p3 (.tup vs)) := same_new s0 n3 _
        have e3 : (upd G1 p3 (.tup vs)) p3 = some (.tup vs) := upd_same
        have e03 : (upd G1 p3 (.tup vs)) l0 = some (.lst []) := by rw [upd_ne (ne_of_none e0 n3)]; exact e0
        generalize upd G1 p3 (.tup vs) = G2 at s3 e3 e03
        refine ⟨p3, rfl, ⟨vs, .inl (.inl e3)⟩, for_tup (K := K) (a := p3) (xs := vs) (fun i σ G => ∃ (lf : Addr) (v3 v4 : Option V), σ = [some (.ref a), some (.ref bl), some (.ref lf), v3, v4, none] ∧ Same H G ∧ H lf = none ∧ G p3 = some (.tup vs) ∧ G lf = some (.lst (((fs.take i).flatMap (fun g => g.filter (notIn B))).map V.str))) ⟨l0, none, none, rfl, s3, nH0, e3, e03⟩ (fun i σ G _ ⟨_, _, _, _, _, _, e, _⟩ => .inl (.inl e)) ?_ ?_⟩
        · rintro i y σ G hy ⟨lf, v3, v4, rfl, sm, nlf, g3, glf⟩
          have il := (List.getElem?_eq_some_iff.mp hy).1
          obtain ⟨g, hg⟩ : ∃ g, fs[i]? = some g := ⟨_, List.getElem?_eq_getElem (by omega)⟩
          obtain ⟨gl5, wh⟩ := each i y g hy hg
          refine ⟨fun σ G4 => ∃ p4, σ = [some (.ref a), some (.ref bl), some (.ref lf), some y, some (.ref p4), none] ∧ Same G G4 ∧ G4 p4 = some (.lst (g.map V.str)), ?_, ?_⟩
          · refine ⟨.ref a, rfl, a, _, 0, _, rfl, rfl, (TK.same sm).sq sqH, atI_nat (j := 0) rfl, (by show 2 ≤ sizeLine; rw [sizeLine_eq]; decide), fun l nl => ⟨l, _, rfl, .inl (.inl (.inl upd_same)), rfl, rfl, _, rfl, ?_⟩⟩
            have s4 : Same G (upd G l (.lst [.str "is", .str "equal"])) := same_new (fun b o e => e) nl _
            generalize upd G l (.lst [.str "is", .str "equal"]) = G3 at s4
            have hb3 : Same Hb G3 := fun b o e => s4 _ _ (sm _ _ (hb _ _ e))
            cases isA with
            | true =>
              obtain ⟨u, hu, wfu, pu, rfl⟩ := (show ∃ u, Dp K Hb y u ∧ wfT u = true ∧ (partsD u).length ≤ 60 ∧ g = glT u from wh)
              refine go_in isIn ?_
              exact ⟨y, rfl, y, u, Hb, rfl, hb3, hu, wfu, pu, Nat.le_refl _, fun H' p' s' np ep => ⟨p', rfl, fun b o e => s' _ _ (s4 _ _ e), ep⟩⟩
            | false =>
              obtain ⟨s', hs', oks, wfs, szs, bgs, rfl⟩ := (show ∃ s', Dp K Hb y (Sn.d s') ∧ s'.ok = true ∧ s'.wf = true ∧ s'.hi ≤ n ∧ s'.size ≤ 2000 ∧ g = Sn.frees B s' from wh)
              refine go_out isIn ?_
              exact ⟨y, rfl, .ref bl, rfl, y, bl, s', B, Hb, rfl, hb3, hs', oks, wfs, szs, bgs, by omega, s4 _ _ (sm _ _ hbl), by omega, fun H' p' s5 np ep => ⟨p', rfl, fun b o e => s5 _ _ (s4 _ _ e), ep⟩⟩
          · rintro σ G4 ⟨p4, rfl, s4, e4⟩
            have sm4 : Same H G4 := fun b o e => s4 _ _ (sm _ _ e)
            refine ⟨.ref lf, rfl, .ref p4, rfl, p4, rfl, ⟨_, .inl (.inl e4)⟩, fun D nD => ?_⟩
            refine lc_list (K := K) (a := p4) (xs := g.map V.str) (fun j G5 => Same G4 G5 ∧ G5 D = some (.lst (((g.take j).filter (notIn B)).map V.str))) ⟨same_new (fun b o e => e) nD _, upd_same⟩ (fun j G5 _ ⟨s5, _⟩ => .inl (.inl (s5 _ _ e4))) ?_ ?_
            · rintro j z G5 hz ⟨s5, gD⟩
              rw [List.getElem?_map] at hz
              obtain ⟨nm, hnm, rfl⟩ := Option.map_eq_some_iff.mp hz
              refine ⟨rfl, _, rfl, .ref bl, rfl, bl, _, rfl, .inl (.inl (.inl (s5 _ _ (sm4 _ _ hbl)))), rfl, flat_texts _, _, rfl, ?_⟩
              have eb : (if true = true then !inV (.str nm) (B.map V.str) else inV (.str nm) (B.map V.str)) = notIn B nm := by
                rw [if_pos rfl, inV_mem]
                unfold notIn
                by_cases e : nm ∈ B
                · rw [decide_eq_true e, decide_eq_false (fun z => z e)]
                  rfl
                · rw [decide_eq_false e, decide_eq_true e]
                  rfl
              rw [eb]
              have st : (g.take (j + 1)).filter (notIn B) = (g.take j).filter (notIn B) ++ [nm].filter (notIn B) := by
                rw [take_next hnm, List.filter_append]
              have lf' := List.length_filter_le (notIn B) (g.take j)
              rw [List.length_take] at lf'
              cases en : notIn B nm with
              | true =>
                refine iteT ⟨_, rfl, _, gD, by rw [List.length_map, sizeLine_eq]; omega, same_on s5 nD _, ?_⟩
                rw [upd_same, st, List.filter_cons_of_pos en, List.map_append]
                rfl
              | false =>
                refine iteF ⟨s5, ?_⟩
                rw [st, List.filter_cons_of_neg (by rw [en]; exact Bool.false_ne_true), gD]
                show _ = some (HO.lst ((_ ++ []).map V.str))
                rw [List.append_nil]
            · rintro G5 ⟨s5, gD⟩
              rw [List.length_map, List.take_length] at gD
              have st : (fs.take (i + 1)).flatMap (fun g => g.filter (notIn B)) = (fs.take i).flatMap (fun g => g.filter (notIn B)) ++ g.filter (notIn B) := by
                rw [take_next hg, List.flatMap_append, List.flatMap_cons, List.flatMap_nil, List.append_nil]
              have sm5 : Same H G5 := fun b o e => s5 _ _ (sm4 _ _ e)
              have fl1 : ((fs.take i).flatMap (fun g => g.filter (notIn B))).length ≤ i * 100000 := by
                have key : ∀ (j : Nat), j ≤ i → ((fs.take j).flatMap (fun g => g.filter (notIn B))).length ≤ j * 100000 := by
                  intro j
                  induction j with
                  | zero => exact fun _ => Nat.zero_le _
                  | succ j ih =>
                    intro hj
                    obtain ⟨y', hy'⟩ : ∃ y', vs[j]? = some y' := ⟨_, List.getElem?_eq_getElem (by omega)⟩
                    obtain ⟨g', hg'⟩ : ∃ g', fs[j]? = some g' := ⟨_, List.getElem?_eq_getElem (by omega)⟩
                    have l5 := (each j y' g' hy' hg').1
                    have := ih (by omega)
                    have lf' := List.length_filter_le (notIn B) g'
                    rw [take_next hg', List.flatMap_append, List.flatMap_cons, List.flatMap_nil, List.append_nil, List.length_append]
                    omega
                exact key i (Nat.le_refl _)
              have lf2 := List.length_filter_le (notIn B) g
              refine ⟨lf, D, _, _, rfl, rfl, s5 _ _ (s4 _ _ glf), gD, by rw [List.length_map, List.length_map, sizeLine_eq]; omega, fun l6 n6 => ?_⟩
              have s6 : Same H (upd G5 l6 (.lst (((fs.take i).flatMap (fun g => g.filter (notIn B))).map V.str ++ (g.filter (notIn B)).map V.str))) := same_new sm5 n6 _
              refine ⟨l6, some y, some (.ref p4), rfl, s6, none_before sm5 n6, ?_, ?_⟩
              · rw [upd_ne (ne_of_none (s5 _ _ (s4 _ _ g3)) n6)]
                exact s5 _ _ (s4 _ _ g3)
              · rw [upd_same, st, List.map_append]
        · rintro σ G ⟨lf, v3, v4, rfl, sm, nlf, g3, glf⟩
          rw [lv, List.take_length] at glf
          exact ⟨_, rfl, q G lf sm nlf glf⟩
end
end Ad

/-! The law's own sentence without then and same. -/
namespace Ad
open PySem PySem.Spec PySem.Calls PyProof.Rows L2
abbrev sLPlain : Stmt := topS 37
theorem scLPlain : FnScope ["_law_sentence", "_law_kind", "_law_parts", "_law_part"] ["_law_sentence"] (defScope sLPlain) := ⟨rfl, rfl, rfl, by decide +kernel, rfl, by decide +kernel, by decide +kernel⟩
section
variable {P : Program} {w : World} {K : PySem.W.Frag} {mg : Str → Option Value} {base : Heap}
theorem ok_lplain {f : Addr} {fd : FuncData} {k : Nat} (F : Fun K "_law_plain" "_law_plain" sLPlain f fd) (gF : mg "_law_plain" = some (.ref f)) (bF : Binds K fd ["_law_sentence"] []) (m_tuple : mg "tuple" = none) :
    ∀ n, FnOk P w K mg base CX0 (k + n) f fd ["_law_sentence"] (spPlain K n)
  | 0 => vac fun vs H Q E ⟨x, s, Hb, _, _, _, _, _, z, _⟩ => absurd (Nat.le_trans s.hi_pos z) (by decide)
  | n + 1 => by
    have IH : FnOk P w K mg base CX0 (k + n) f fd ["_law_sentence"] (spPlain K n) := ok_lplain F gF bF m_tuple n
    have hLPlain : Has P w K mg base (k + n) "_law_plain" ["_law_sentence"] (spPlain K n) f fd := ⟨IH, gF, F.kp, bF⟩
    refine F.ok scLPlain (fun vs H Q E h => ?_) (fun cdv A outer s H vs Q E hr h => ?_)
    · obtain ⟨x, s, Hb, rfl, _⟩ := h
      rfl
    · obtain ⟨x, s, Hb, rfl, hb, hd, ok, wf, small, q⟩ := h
      refine ⟨_, (pss_cons (ps_set (i := 1) scLPlain.nd rfl (.inl rfl) (pe_ix ix_tup (pv 0) pe_int (fun _ _ => rfl)))
    (pss_cons (ps_if (pt_cmpR op_in_seq (pv 1) (pe_lst (pa_cons pe_str (pa_cons pe_str pa_nil))) (by with_unfolding_all rfl))
      (pss_one (ps_ret (pv 0))) pss_nil)
    (pss_cons (ps_if (pt_cmpR op_in_seq (pv 1) (pe_lst (pa_cons pe_str (pa_cons pe_str pa_nil))) (by with_unfolding_all rfl))
      (pss_one (ps_ret (pe_tup (pa_cons (pv 1) (pa_cons (pe_ix ix_tup (pv 0) pe_int (fun _ _ => rfl)) (pa_cons (pe_call hLPlain.G hr (by rfl) hLPlain.g hLPlain.kp hLPlain.b .nil pass0 (pa_cons (pe_ix ix_tup (pv 0) pe_int (fun _ _ => rfl)) pa_nil)) pa_nil)))))) pss_nil)
    (pss_cons (ps_setLc (i := 2) (own := [("_law_part", 3)]) (g := gName 3) (tt := tYes) (te := tCall (spPlain K n) [] E0 (tCons (tVar 3) tNil)) rfl scLPlain.nd rfl rfl (sw_true rfl rfl rfl (by decide +kernel)) (pi_tup (pe_slice sl_tup (pv 0) (po_some pe_int) po_none)) (blkOk_by (N := ["_law_sentence", "_law_kind", "_law_parts", "_law_part"]) (sc := defScope sLPlain) (by decide +kernel)) (fun _ _ _ _ _ => (pg_name (i := 3) scLPlain.nd rfl (.inl rfl))) (fun _ _ _ _ _ => pts_nil) (fun _ _ _ _ _ => (pe_call hLPlain.G hr (by rfl) hLPlain.g hLPlain.kp hLPlain.b .nil pass0 (pa_cons (pv 3) pa_nil))))
    (pss_cons (ps_if (pt_cmpR op_eq (pv 1) pe_str (nomark _))
      (pss_one (ps_ret (pe_tup (pa_cons pe_str (pa_cons (pe_tup (pa_cons pe_str (pa_cons (pe_ix ix_list (pv 2) pe_int (fun _ _ => rfl)) pa_nil))) (pa_cons (pe_ix ix_list (pv 2) pe_int (fun _ _ => rfl)) pa_nil)))))) pss_nil)
    (pss_cons (ps_if (pt_cmpR op_eq (pv 1) pe_str (nomark _))
      (pss_one (ps_ret (pe_tup (pa_cons pe_str (pa_cons (pe_tup (pa_cons pe_str (pa_cons (pe_tup (pa_cons pe_str (pa_cons (pe_ix ix_list (pv 2) pe_int (fun _ _ => rfl)) pa_nil))) (pa_cons (pe_ix ix_list (pv 2) pe_int (fun _ _ => rfl)) pa_nil)))) (pa_cons (pe_tup (pa_cons pe_str (pa_cons (pe_tup (pa_cons pe_str (pa_cons (pe_ix ix_list (pv 2) pe_int (fun _ _ => rfl)) pa_nil))) (pa_cons (pe_ix ix_list (pv 2) pe_int (fun _ _ => rfl)) pa_nil)))) pa_nil)))))) pss_nil)
    (pss_one (ps_ret (pe_op op_catA (pe_tup (pa_cons (pv 1) pa_nil)) (pe_callTy call_tuple_of (by rfl) m_tuple (by decide +kernel) (pa_cons (pv 2) pa_nil))))))))))), ?_⟩
      rcases sn_three hd ok wf small with ⟨eq, as, a, vs, rfl, rfl, sq, all, _⟩ | ⟨al, z, s', a, v2, rfl, rfl, sq, h2, ok', wf', hi'⟩ | ⟨wd, ss, vs, a, rfl, sq, ps⟩
      · refine ⟨.ref a, rfl, a, _, 0, _, rfl, rfl, (TK.same hb).sq sq, atI_nat (j := 0) rfl, ?_⟩
        refine ⟨_, rfl, (by show 2 ≤ sizeLine; rw [sizeLine_eq]; decide), fun l nl => ⟨l, _, rfl, .inl (.inl (.inl upd_same)), rfl, rfl, _, rfl, go_in (atm_in eq as) ?_⟩⟩
        have s0 : Same H (upd H l (.lst [.str "is", .str "equal"])) := same_new (fun b o e => e) nl _
        exact ⟨.ref a, rfl, q _ _ s0 (dp_same (hb.trans s0) hd)⟩
      · have sqH := (TK.same hb).sq sq
        refine ⟨.ref a, rfl, a, _, 0, _, rfl, rfl, sqH, atI_nat (j := 0) rfl, ?_⟩
        refine ⟨_, rfl, (by show 2 ≤ sizeLine; rw [sizeLine_eq]; decide), fun l nl => ⟨l, _, rfl, .inl (.inl (.inl upd_same)), rfl, rfl, _, rfl, go_out (qu_out al z s') ?_⟩⟩
        have s0 : Same H (upd H l (.lst [.str "is", .str "equal"])) := same_new (fun b o e => e) nl _
        generalize upd H l (.lst [.str "is", .str "equal"]) = G0 at s0
        refine ⟨_, rfl, (by show 2 ≤ sizeLine; rw [sizeLine_eq]; decide), fun l nl => ⟨l, _, rfl, .inl (.inl (.inl upd_same)), rfl, rfl, _, rfl, go_in (qu_in al z s') ?_⟩⟩
        have s01 : Same H (upd G0 l (.lst [.str "all", .str "some"])) := same_new s0 nl _
        generalize upd G0 l (.lst [.str "all", .str "some"]) = G1 at s01
        have sqG := (TK.same s01).sq sqH
        refine ⟨_, rfl, .ref a, rfl, a, _, 1, _, rfl, rfl, sqG, atI_nat (j := 1) rfl, .ref a, rfl, a, _, 2, v2, rfl, rfl, sqG, atI_nat (j := 2) rfl, v2, s', Hb, rfl, hb.trans s01, h2, ok', wf', hi', fun H1 v1 s1 d1 => ⟨(by show 3 ≤ sizeLine; rw [sizeLine_eq]; decide), fun t nt => ?_⟩⟩
        have s2 : Same H1 (upd H1 t (.tup [.str (Sn.word (.qu al z s')), .str z, v1])) := same_new (fun b o e => e) nt _
        exact q _ _ (s01.trans (s1.trans s2)) (.tup (.inl (.inl upd_same)) (.cons (.str _) (.cons (.str _) (.cons (dp_same s2 d1) .nil))))
      · have sqH := (TK.same hb).sq sq
        refine ⟨.ref a, rfl, a, _, 0, _, rfl, rfl, sqH, atI_nat (j := 0) rfl, ?_⟩
        refine ⟨_, rfl, (by show 2 ≤ sizeLine; rw [sizeLine_eq]; decide), fun l nl => ⟨l, _, rfl, .inl (.inl (.inl upd_same)), rfl, rfl, _, rfl, go_out (out_two ps.n1 ps.n2) ?_⟩⟩
        have s0 : Same H (upd H l (.lst [.str "is", .str "equal"])) := same_new (fun b o e => e) nl _
        generalize upd H l (.lst [.str "is", .str "equal"]) = G0 at s0
        refine ⟨_, rfl, (by show 2 ≤ sizeLine; rw [sizeLine_eq]; decide), fun l nl => ⟨l, _, rfl, .inl (.inl (.inl upd_same)), rfl, rfl, _, rfl, go_out (out_two ps.n3 ps.n4) ?_⟩⟩
        have s01 : Same H (upd G0 l (.lst [.str "all", .str "some"])) := same_new s0 nl _
        generalize upd G0 l (.lst [.str "all", .str "some"]) = G0' at s01
        have lv := ps.data.len
        have few := ps.few
        refine ⟨.ref a, rfl, 1, rfl, a, _, rfl, (TK.same s01).sq sqH, cut_args.1, fun p3 n3 => ?_⟩
        rw [cut_args.2]
        have s3 : Same H (upd G0' p3 (.tup vs)) := same_new s01 n3 _
        have e3 : (upd G0' p3 (.tup vs)) p3 = some (.tup vs) := upd_same
        generalize upd G0' p3 (.tup vs) = G1 at s3 e3
        refine ⟨p3, rfl, ⟨vs, .inl (.inl e3)⟩, fun D nD => lc_tup (K := K) (a := p3) (xs := vs) (fun i G => ∃ acc, Same G1 G ∧ G D = some (.lst acc) ∧ DpAll K G acc (((ss.take i).map Sn.pl).map Sn.d)) ⟨[], same_new (fun b o e => e) nD _, upd_same, .nil⟩ (fun i G _ ⟨_, sm, _⟩ => (TK.same sm).sq (.inl (.inl e3))) ?_ ?_⟩
        · rintro i y G hy ⟨acc, sm, gD, ha⟩
          obtain ⟨s', hs', dy⟩ := ps.data.get hy
          obtain ⟨ok', wf', hi'⟩ := ps.each s' (List.mem_of_getElem? hs')
          have il := (List.getElem?_eq_some_iff.mp hs').1
          have la := dpAll_len ha
          rw [List.length_map, List.length_map, List.length_take] at la
          refine ⟨rfl, y, rfl, y, s', Hb, rfl, hb.trans (s3.trans sm), dy, ok', wf', hi', fun G2 v s2 d2 => ⟨acc, s2 _ _ gD, by rw [sizeLine_eq]; omega, acc ++ [v], same_on (sm.trans s2) nD _, upd_same, ?_⟩⟩
          rw [take_next hs', List.map_append, List.map_append]
          have kk : TK G2 (upd G2 D (.lst (acc ++ [v]))) := TK.lst (s2 _ _ gD) _
          have wfs : ∀ u ∈ (ss.take i).map Sn.pl, u.wf = true := fun u hu => by
            obtain ⟨u', hu', rfl⟩ := List.mem_map.mp hu
            exact Sn.pl_wf u' (ps.each u' (List.mem_of_mem_take hu')).2.1
          exact dpAll_app (sns_tk ((TK.same s2).trans kk) _ _ wfs ha) (.cons (sn_tk kk _ _ (Sn.pl_wf _ wf') d2) .nil)
        · rintro G6 ⟨acc, sm, gD, ha6⟩
          rw [lv, List.take_length] at ha6
          have s16 : Same H G6 := s3.trans sm
          have la := dpAll_len ha6
          rw [List.length_map, List.length_map] at la
          rcases ps.kind with ⟨s', rfl, rfl, rfl⟩ | ⟨sA, sB, rfl, rfl, w4⟩
          · refine sv_test (i := 1) rfl ?_
            rw [decide_eq_false (show ¬ (("not" : Str) = "then") by decide +kernel)]
            refine iteF (sv_test (i := 1) rfl ?_)
            rw [decide_eq_false (show ¬ (("not" : Str) = "same") by decide +kernel)]
            refine iteF ⟨.str "not", rfl, (by show 1 ≤ sizeLine; decide), fun z nz => ?_⟩
            have s7 : Same G6 (upd G6 z (.tup [.str "not"])) := same_new (fun b o e => e) nz _
            have ez : (upd G6 z (.tup [.str "not"])) z = some (.tup [.str "not"]) := upd_same
            generalize upd G6 z (.tup [.str "not"]) = G7 at s7 ez
            refine ⟨.ref D, rfl, D, acc, rfl, .inl ⟨.inl (.inl (s7 _ _ gD)), fun p6 n6 => ?_⟩⟩
            have s8 : Same G7 (upd G7 p6 (.tup acc)) := same_new (fun b o e => e) n6 _
            refine rCatA_of (.inl (.inl (s8 _ _ ez))) (.inl (.inl upd_same)) (by rw [sizeLine_eq]; show 1 + acc.length ≤ _; omega) fun r G8 s9 sq9 => ?_
            exact q _ _ (s16.trans (s7.trans (s8.trans s9))) (.tup sq9 (.cons (.str _) (dpAll_same (s7.trans (s8.trans s9)) ha6)))
          · have ha2 : DpAll K G6 acc [sA.pl.d, sB.pl.d] := ha6
            cases ha2 with
            | @cons x1 r1 _ _ d1 hr1 =>
            cases hr1 with
            | @cons x2 r2 _ _ d2 hr2 =>
            cases hr2
            have sqD : ∀ {G : Hp}, Same G6 G → SqL K G D [x1, x2] := fun sm' => .inl (.inl (sm' _ _ gD))
            rcases Sn.tw wd with rfl | rfl | ⟨n1, n2⟩
            · refine sv_test (i := 1) rfl ?_
              rw [decide_eq_true rfl]
              refine iteT ⟨.ref D, rfl, D, _, 0, _, rfl, rfl, sqD (fun b o e => e), atI_nat (j := 0) rfl, (by show 2 ≤ sizeLine; rw [sizeLine_eq]; decide), fun t nt => ?_⟩
              have s1 : Same G6 (upd G6 t (.tup [.str "not", x1])) := same_new (fun b o e => e) nt _
              have e1 : (upd G6 t (.tup [.str "not", x1])) t = some (.tup [.str "not", x1]) := upd_same
              generalize upd G6 t (.tup [.str "not", x1]) = H1 at s1 e1
              refine ⟨.ref D, rfl, D, _, 1, _, rfl, rfl, sqD s1, atI_nat (j := 1) rfl, (by show 3 ≤ sizeLine; rw [sizeLine_eq]; decide), fun u nu => ?_⟩
              have s2 : Same H1 (upd H1 u (.tup [.str "or", .ref t, x2])) := same_new (fun b o e => e) nu _
              have := q _ (.ref u) (s16.trans (s1.trans s2))
              rw [Sn.pl_then] at this
              exact this (.tup (.inl (.inl upd_same)) (.cons (.str _) (.cons (.tup (.inl (.inl (s2 _ _ e1))) (.cons (.str _) (.cons (dp_same (s1.trans s2) d1) .nil))) (.cons (dp_same (s1.trans s2) d2) .nil))))
            · refine sv_test (i := 1) rfl ?_
              rw [decide_eq_false Sn.ns_then]
              refine iteF (sv_test (i := 1) rfl ?_)
              rw [decide_eq_true rfl]
              refine iteT ⟨.ref D, rfl, D, _, 0, _, rfl, rfl, sqD (fun b o e => e), atI_nat (j := 0) rfl, (by show 2 ≤ sizeLine; rw [sizeLine_eq]; decide), fun t nt => ?_⟩
              have s1 : Same G6 (upd G6 t (.tup [.str "not", x1])) := same_new (fun b o e => e) nt _
              have e1 : (upd G6 t (.tup [.str "not", x1])) t = some (.tup [.str "not", x1]) := upd_same
              generalize upd G6 t (.tup [.str "not", x1]) = H1 at s1 e1
              refine ⟨.ref D, rfl, D, _, 1, _, rfl, rfl, sqD s1, atI_nat (j := 1) rfl, (by show 3 ≤ sizeLine; rw [sizeLine_eq]; decide), fun u nu => ?_⟩
              have s2 : Same H1 (upd H1 u (.tup [.str "or", .ref t, x2])) := same_new (fun b o e => e) nu _
              have e2 : (upd H1 u (.tup [.str "or", .ref t, x2])) u = some (.tup [.str "or", .ref t, x2]) := upd_same
              generalize upd H1 u (.tup [.str "or", .ref t, x2]) = H2 at s2 e2
              have s12 := s1.trans s2
              refine ⟨.ref D, rfl, D, _, 1, _, rfl, rfl, sqD s12, atI_nat (j := 1) rfl, (by show 2 ≤ sizeLine; rw [sizeLine_eq]; decide), fun t3 nt3 => ?_⟩
              have s3' : Same H2 (upd H2 t3 (.tup [.str "not", x2])) := same_new (fun b o e => e) nt3 _
              have e3' : (upd H2 t3 (.tup [.str "not", x2])) t3 = some (.tup [.str "not", x2]) := upd_same
              generalize upd H2 t3 (.tup [.str "not", x2]) = H3 at s3' e3'
              have s13 := s12.trans s3'
              refine ⟨.ref D, rfl, D, _, 0, _, rfl, rfl, sqD s13, atI_nat (j := 0) rfl, (by show 3 ≤ sizeLine; rw [sizeLine_eq]; decide), fun u4 nu4 => ?_⟩
              have s4 : Same H3 (upd H3 u4 (.tup [.str "or", .ref t3, x1])) := same_new (fun b o e => e) nu4 _
              have e4 : (upd H3 u4 (.tup [.str "or", .ref t3, x1])) u4 = some (.tup [.str "or", .ref t3, x1]) := upd_same
              generalize upd H3 u4 (.tup [.str "or", .ref t3, x1]) = H4 at s4 e4
              refine ⟨(by show 3 ≤ sizeLine; rw [sizeLine_eq]; decide), fun r nr => ?_⟩
              have s5 : Same H4 (upd H4 r (.tup [.str "and", .ref u, .ref u4])) := same_new (fun b o e => e) nr _
              have s35 := s3'.trans (s4.trans s5)
              have s25 := s2.trans s35
              have s15 := s1.trans s25
              have := q _ (.ref r) (s16.trans s15)
              rw [Sn.pl_same] at this
              refine this (.tup (.inl (.inl upd_same)) (.cons (.str _) (.cons ?_ (.cons ?_ .nil))))
              · exact .tup (.inl (.inl (s35 _ _ e2))) (.cons (.str _) (.cons (.tup (.inl (.inl (s25 _ _ e1))) (.cons (.str _) (.cons (dp_same s15 d1) .nil))) (.cons (dp_same s15 d2) .nil)))
              · exact .tup (.inl (.inl (s5 _ _ e4))) (.cons (.str _) (.cons (.tup (.inl (.inl ((s4.trans s5) _ _ e3'))) (.cons (.str _) (.cons (dp_same s15 d2) .nil))) (.cons (dp_same s15 d1) .nil)))
            · refine sv_test (i := 1) rfl ?_
              rw [decide_eq_false n1]
              refine iteF (sv_test (i := 1) rfl ?_)
              rw [decide_eq_false n2]
              refine iteF ⟨.str wd, rfl, (by show 1 ≤ sizeLine; decide), fun z nz => ?_⟩
              have s7 : Same G6 (upd G6 z (.tup [.str wd])) := same_new (fun b o e => e) nz _
              have ez : (upd G6 z (.tup [.str wd])) z = some (.tup [.str wd]) := upd_same
              generalize upd G6 z (.tup [.str wd]) = G7 at s7 ez
              refine ⟨.ref D, rfl, D, [x1, x2], rfl, .inl ⟨.inl (.inl (s7 _ _ gD)), fun p6 n6 => ?_⟩⟩
              have s8 : Same G7 (upd G7 p6 (.tup [x1, x2])) := same_new (fun b o e => e) n6 _
              refine rCatA_of (.inl (.inl (s8 _ _ ez))) (.inl (.inl upd_same)) (by rw [sizeLine_eq]; show 1 + 2 ≤ _; omega) fun r G8 s9 sq9 => ?_
              have s79 := s7.trans (s8.trans s9)
              have := q _ (.ref r) (s16.trans s79)
              rw [Sn.pl_two n1 n2] at this
              exact this (.tup sq9 (.cons (.str _) (dpAll_same s79 (.cons d1 (.cons d2 .nil)))))
end
end Ad

/-! Own great names; which words stand ahead of which. -/
namespace Ad
open PySem PySem.Spec PySem.Calls PyProof.Rows L2
theorem ofString_inj {a b : String} (h : Str.ofString a = Str.ofString b) : a = b := by
  rw [Str.ofString_eq_toList, Str.ofString_eq_toList] at h
  have h1 : (a.toList.map Char.toNat).toArray = (b.toList.map Char.toNat).toArray := congrArg Str.cps h
  have h2 : a.toList.map Char.toNat = b.toList.map Char.toNat := congrArg Array.toList h1
  have h3 : a.toList = b.toList := (List.map_inj_right (fun x y e => Char.toNat_inj.mp e)).mp h2
  exact String.toList_inj.mp h3
/-- the m-th own great name -/
def xn (m : Nat) : Str := ("X" : Str) ++ Str.ofString (toString (m : Int))
theorem xn_inj {m n : Nat} (h : xn m = xn n) : m = n := by
  have h1 : (Str.ofString "X").cps ++ (Str.ofString (toString (m : Int))).cps = (Str.ofString "X").cps ++ (Str.ofString (toString (n : Int))).cps := congrArg Str.cps h
  have h2 := congrArg Array.toList h1
  rw [Array.toList_append, Array.toList_append] at h2
  have h3 := List.append_cancel_left h2
  have h4 : Str.ofString (toString (m : Int)) = Str.ofString (toString (n : Int)) := by
    cases h5 : Str.ofString (toString (m : Int)) with
    | mk x =>
      cases h6 : Str.ofString (toString (n : Int)) with
      | mk y =>
        rw [h5, h6] at h3
        rw [show x = y from Array.ext' h3]
  exact Nat.repr_injective (ofString_inj h4)
namespace Sn
theorem wAO {w : Str} (h : w ∈ (["and", "or"] : List Str)) : w = "and" ∨ w = "or" := by
  rcases List.mem_cons.mp h with e | e
  · exact .inl e
  · exact .inr (List.mem_singleton.mp e)
theorem isPlw {w : Str} {a b : Sn} (h : isPl (.two w a b) = true) : (w = "and" ∨ w = "or") ∧ a.isPl = true ∧ b.isPl = true := by
  obtain ⟨h1, h2⟩ := Bool.and_eq_true_iff.mp (show (decide (w ∈ (["and", "or"] : List Str)) && (a.isPl && b.isPl)) = true from h)
  exact ⟨wAO (of_decide_eq_true h1), Bool.and_eq_true_iff.mp h2⟩
/-- the word turned, or not -/
def tu (b : Bool) (w : Str) : Str := if b = true then w else if w = "and" then "or" else "and"
theorem tu_ao {w : Str} (b : Bool) (h : w = "and" ∨ w = "or") : tu b w = "and" ∨ tu b w = "or" := by
  cases b with
  | true => exact h
  | false =>
    unfold tu
    rw [if_neg Bool.false_ne_true]
    rcases h with rfl | rfl
    · exact .inr (if_pos rfl)
    · exact .inl (if_neg (by decide +kernel))
theorem mk_isPl {w : Str} {a b : Sn} (h : w = "and" ∨ w = "or") (ha : a.isPl = true) (hb : b.isPl = true) : isPl (.two w a b) = true := by
  rcases h with rfl | rfl
  · rw [isPl_and, ha, hb]
    rfl
  · rw [isPl_or, ha, hb]
    rfl
theorem isPl_ok : ∀ s : Sn, s.isPl = true → s.ok = true
  | .atm _ _, _ => rfl
  | .qu _ _ s, h => isPl_ok s h
  | .one s, h => isPl_ok s h
  | .two w a b, h => by
    obtain ⟨h1, h2, h3⟩ := isPlw h
    rcases h1 with rfl | rfl
    · rw [ok_and, isPl_ok a h2, isPl_ok b h3]
      rfl
    · rw [ok_or, isPl_ok a h2, isPl_ok b h3]
      rfl
theorem inw_isPl : ∀ (s : Sn) (b : Bool), s.isPl = true → (s.inw b).isPl = true
  | .atm _ _, true, _ => rfl
  | .atm _ _, false, _ => rfl
  | .qu _ _ s, b, h => inw_isPl s b h
  | .one s, b, h => inw_isPl s (!b) h
  | .two w a c, b, h => by
    obtain ⟨h1, h2, h3⟩ := isPlw h
    exact mk_isPl (tu_ao b h1) (inw_isPl a b h2) (inw_isPl c b h3)
theorem inw_wf : ∀ (s : Sn) (b : Bool), s.wf = true → (s.inw b).wf = true
  | .atm _ _, true, h => h
  | .atm _ _, false, h => h
  | .qu _ _ s, b, h => inw_wf s b h
  | .one s, b, h => inw_wf s (!b) h
  | .two w a c, b, h => by
    obtain ⟨h2, h3⟩ := Bool.and_eq_true_iff.mp (show (a.wf && c.wf) = true from h)
    show ((a.inw b).wf && (c.inw b).wf) = true
    rw [inw_wf a b h2, inw_wf c b h3]
    rfl
theorem inw_good {R S : List Row} : ∀ (s : Sn) (b : Bool) (kn : List Str), good R S kn s → good R S kn (s.inw b)
  | .atm false _, true, _, h => h
  | .atm true _, true, _, h => h
  | .atm false _, false, _, h => h
  | .atm true _, false, _, h => h
  | .qu _ x s, b, kn, h => ⟨h.1, inw_good s b (kn ++ [x]) h.2⟩
  | .one s, b, kn, h => inw_good s (!b) kn h
  | .two w a c, b, kn, h => ⟨inw_good a b kn h.1, inw_good c b kn h.2⟩
theorem inw_hi : ∀ (s : Sn) (b : Bool), (s.inw b).hi ≤ s.hi + 1
  | .atm _ _, true => Nat.le_succ _
  | .atm _ _, false => Nat.le_refl _
  | .qu _ _ s, b => by
    have := inw_hi s b
    show 1 + (s.inw b).hi ≤ 1 + s.hi + 1
    omega
  | .one s, b => by
    have := inw_hi s (!b)
    show (s.inw (!b)).hi ≤ 1 + s.hi + 1
    omega
  | .two w a c, b => by
    have h1 := inw_hi a b
    have h2 := inw_hi c b
    show 1 + max (a.inw b).hi (c.inw b).hi ≤ 1 + max a.hi c.hi + 1
    omega
theorem inw_size : ∀ (s : Sn) (b : Bool), (s.inw b).size ≤ 2 * s.size
  | .atm _ _, true => Nat.le_succ _
  | .atm _ _, false => Nat.le_refl _
  | .qu _ _ s, b => by
    have := inw_size s b
    show 1 + (s.inw b).size ≤ 2 * (1 + s.size)
    omega
  | .one s, b => by
    have := inw_size s (!b)
    show (s.inw (!b)).size ≤ 2 * (1 + s.size)
    omega
  | .two w a c, b => by
    have h1 := inw_size a b
    have h2 := inw_size c b
    show 1 + (a.inw b).size + (c.inw b).size ≤ 2 * (1 + a.size + c.size)
    omega
theorem sames_size : ∀ s : Sn, 2 * s.sames + 1 ≤ s.size
  | .atm _ _ => Nat.le_refl _
  | .qu _ _ s => by
    have := sames_size s
    show 2 * s.sames + 1 ≤ 1 + s.size
    omega
  | .one s => by
    have := sames_size s
    show 2 * s.sames + 1 ≤ 1 + s.size
    omega
  | .two w a b => by
    have h1 := sames_size a
    have h2 := sames_size b
    show 2 * ((if w = "same" then 1 else 0) + max a.sames b.sames) + 1 ≤ 1 + a.size + b.size
    have : (if w = "same" then 1 else 0) ≤ 1 := by
      by_cases e : w = "same"
      · rw [if_pos e]
        exact Nat.le_refl _
      · rw [if_neg e]
        exact Nat.zero_le _
    omega
/-- each word with the one ahead of it -/
def kinds : Str → Sn → List (Str × Str)
  | ah, .atm eq as => [(ah, word (.atm eq as))]
  | ah, .qu al x s => (ah, word (.qu al x s)) :: kinds (word (.qu al x s)) s
  | ah, .one s => (ah, "not") :: kinds "not" s
  | ah, .two w a b => (ah, w) :: (kinds w a ++ kinds w b)
theorem kinds_len : ∀ (s : Sn) (ah : Str), (kinds ah s).length = s.size
  | .atm _ _, _ => rfl
  | .qu al x s, ah => by
    show (kinds (word (.qu al x s)) s).length + 1 = 1 + s.size
    rw [kinds_len s, Nat.add_comm]
  | .one s, ah => by
    show (kinds "not" s).length + 1 = 1 + s.size
    rw [kinds_len s, Nat.add_comm]
  | .two w a b, ah => by
    show (kinds w a ++ kinds w b).length + 1 = 1 + a.size + b.size
    rw [List.length_append, kinds_len a, kinds_len b]
    omega
theorem word_atm (eq : Bool) (as : List PyData) : word (.atm eq as) = "is" ∨ word (.atm eq as) = "equal" := by
  cases eq with
  | true => exact .inr rfl
  | false => exact .inl rfl
theorem word_quu (al : Bool) (x : Str) (s : Sn) : word (.qu al x s) = "all" ∨ word (.qu al x s) = "some" := by
  cases al with
  | true => exact .inl rfl
  | false => exact .inr rfl
theorem kinds_pl : ∀ (s : Sn) (ah : Str), s.isPl = true → ∀ q ∈ kinds ah s, q.2 ≠ "then" ∧ q.2 ≠ "same"
  | .atm eq as, ah, _, q, hq => by
    cases List.mem_singleton.mp hq
    rcases word_atm eq as with e | e <;> (show word (.atm eq as) ≠ "then" ∧ word (.atm eq as) ≠ "same"; rw [e]; decide +kernel)
  | .qu al x s, ah, h, q, hq => by
    rcases List.mem_cons.mp hq with rfl | hq
    · rcases word_quu al x s with e | e <;> (show word (.qu al x s) ≠ "then" ∧ word (.qu al x s) ≠ "same"; rw [e]; decide +kernel)
    · exact kinds_pl s _ h q hq
  | .one s, ah, h, q, hq => by
    rcases List.mem_cons.mp hq with rfl | hq
    · show ("not" : Str) ≠ "then" ∧ ("not" : Str) ≠ "same"
      decide +kernel
    · exact kinds_pl s _ h q hq
  | .two w a b, ah, h, q, hq => by
    obtain ⟨h1, h2, h3⟩ := isPlw h
    rcases List.mem_cons.mp hq with rfl | hq
    · show w ≠ "then" ∧ w ≠ "same"
      rcases h1 with rfl | rfl <;> decide +kernel
    · rcases List.mem_append.mp hq with z | z
      · exact kinds_pl a _ h2 q z
      · exact kinds_pl b _ h3 q z
theorem not_ao {w : Str} (h : w = "and" ∨ w = "or") : w ≠ "not" := by
  rcases h with rfl | rfl <;> decide +kernel
theorem kinds_inw : ∀ (s : Sn) (b : Bool) (ah : Str), s.isPl = true → ah ≠ "not" → ∀ q ∈ kinds ah (s.inw b), q.1 = "not" → q.2 = "is" ∨ q.2 = "equal"
  | .atm eq as, true, ah, _, n, q, hq, e => by
    cases List.mem_singleton.mp (show q ∈ [(ah, word (.atm eq as))] from hq)
    exact absurd e n
  | .atm eq as, false, ah, _, n, q, hq, e => by
    rcases List.mem_cons.mp (show q ∈ (ah, ("not" : Str)) :: [(("not" : Str), word (.atm eq as))] from hq) with rfl | hq
    · exact absurd e n
    · cases List.mem_singleton.mp hq
      exact word_atm eq as
  | .qu al x s, b, ah, h, n, q, hq, e => by
    rcases List.mem_cons.mp (show q ∈ (ah, word (.qu (al == b) x (s.inw b))) :: kinds (word (.qu (al == b) x (s.inw b))) (s.inw b) from hq) with rfl | hq
    · exact absurd e n
    · refine kinds_inw s b _ h ?_ q hq e
      rcases word_quu (al == b) x (s.inw b) with z | z <;> (rw [z]; decide +kernel)
  | .one s, b, ah, h, n, q, hq, e => kinds_inw s (!b) ah h n q hq e
  | .two w a c, b, ah, h, n, q, hq, e => by
    obtain ⟨h1, h2, h3⟩ := isPlw h
    rcases List.mem_cons.mp (show q ∈ (ah, tu b w) :: (kinds (tu b w) (a.inw b) ++ kinds (tu b w) (c.inw b)) from hq) with rfl | hq
    · exact absurd e n
    · have nn := not_ao (tu_ao b h1)
      rcases List.mem_append.mp hq with z | z
      · exact kinds_inw a b _ h2 nn q z e
      · exact kinds_inw c b _ h3 nn q z e
/-- how many alls and somes -/
def qs : Sn → Nat
  | .atm _ _ => 0
  | .qu _ _ s => 1 + qs s
  | .one s => qs s
  | .two _ a b => qs a + qs b
theorem qs_size : ∀ s : Sn, s.qs + 1 ≤ s.size
  | .atm _ _ => Nat.le_refl _
  | .qu _ _ s => by
    have := qs_size s
    show 1 + s.qs + 1 ≤ 1 + s.size
    omega
  | .one s => by
    have := qs_size s
    show s.qs + 1 ≤ 1 + s.size
    omega
  | .two _ a b => by
    have h1 := qs_size a
    have h2 := qs_size b
    show a.qs + b.qs + 1 ≤ 1 + a.size + b.size
    omega
/-- the great names of alls and somes, in the order in which they begin -/
def bnd : Sn → List Str
  | .atm _ _ => []
  | .qu _ x s => x :: bnd s
  | .one s => bnd s
  | .two _ a b => bnd a ++ bnd b
theorem bnd_len : ∀ s : Sn, s.bnd.length = s.qs
  | .atm _ _ => rfl
  | .qu _ x s => by
    show s.bnd.length + 1 = 1 + s.qs
    rw [bnd_len s, Nat.add_comm]
  | .one s => bnd_len s
  | .two _ a b => by
    show (a.bnd ++ b.bnd).length = a.qs + b.qs
    rw [List.length_append, bnd_len a, bnd_len b]
end Sn
abbrev Ren := Str → Str
def Ren.set (τ : Ren) (x y : Str) : Ren := fun z => if z = x then y else τ z
mutual
/-- a term with great names exchanged -/
def swD (τ : Ren) : PyData → PyData
  | .str x => .str (τ x)
  | .tuple [] => .tuple []
  | .tuple (h :: ds) => .tuple (h :: swL τ ds)
  | .none => .none
  | .bool b => .bool b
  | .int i => .int i
  | .list ds => .list ds
  | .dict ds => .dict ds
def swL (τ : Ren) : List PyData → List PyData
  | [] => []
  | d :: ds => swD τ d :: swL τ ds
end
theorem swL_map (τ : Ren) : ∀ ds : List PyData, swL τ ds = ds.map (swD τ)
  | [] => rfl
  | d :: ds => by
    show swD τ d :: swL τ ds = swD τ d :: ds.map (swD τ)
    rw [swL_map τ ds]
mutual
theorem sw_parts (τ : Ren) : ∀ d : PyData, (partsD (swD τ d)).length = (partsD d).length
  | .str _ => rfl
  | .tuple [] => rfl
  | .tuple (h :: ds) => congrArg Nat.succ (sw_partsL τ ds)
  | .none => rfl
  | .bool _ => rfl
  | .int _ => rfl
  | .list _ => rfl
  | .dict _ => rfl
theorem sw_partsL (τ : Ren) : ∀ ds : List PyData, (partsDL (swL τ ds)).length = (partsDL ds).length
  | [] => rfl
  | d :: ds => by
    show (partsD (swD τ d) ++ partsDL (swL τ ds)).length = (partsD d ++ partsDL ds).length
    rw [List.length_append, List.length_append, sw_parts τ d, sw_partsL τ ds]
end
mutual
theorem sw_wf (τ : Ren) : ∀ d : PyData, wfT d = true → wfT (swD τ d) = true
  | .str _, h => rfl
  | .tuple [], h => h
  | .tuple (x :: ds), h => by
    obtain ⟨h1, h2⟩ := Bool.and_eq_true_iff.mp h
    have h3 := sw_wfL τ ds h2
    refine Bool.and_eq_true_iff.mpr ⟨h1, h3⟩
  | .none, h => h
  | .bool _, h => h
  | .int _, h => h
  | .list _, h => h
  | .dict _, h => h
theorem sw_wfL (τ : Ren) : ∀ ds : List PyData, wfTL ds = true → wfTL (swL τ ds) = true
  | [], _ => rfl
  | d :: ds, h => by
    obtain ⟨h1, h2⟩ := Bool.and_eq_true_iff.mp h
    exact Bool.and_eq_true_iff.mpr ⟨sw_wf τ d h1, sw_wfL τ ds h2⟩
end
theorem swL_len (τ : Ren) : ∀ ds : List PyData, (swL τ ds).length = ds.length
  | [] => rfl
  | _ :: ds => congrArg Nat.succ (swL_len τ ds)
section
variable {R S : List Row}
mutual
theorem sw_tok (τ : Ren) {kn kn' : List Str} (h : ∀ x ∈ kn, τ x ∈ kn') : ∀ d : PyData, TOk R kn d → TOk R kn' (swD τ d)
  | .str x, t => h x t
  | .tuple [], t => t
  | .tuple (x :: ds), t => by
    obtain ⟨⟨r, hr, e, ar⟩, t2⟩ := t
    exact ⟨⟨r, hr, e, by rw [swL_len]; exact ar⟩, sw_tokL τ h ds t2⟩
  | .none, t => t
  | .bool _, t => t
  | .int _, t => t
  | .list _, t => t
  | .dict _, t => t
theorem sw_tokL (τ : Ren) {kn kn' : List Str} (h : ∀ x ∈ kn, τ x ∈ kn') : ∀ ds : List PyData, TOkL R kn ds → TOkL R kn' (swL τ ds)
  | [], _ => True.intro
  | d :: ds, t => ⟨sw_tok τ h d t.1, sw_tokL τ h ds t.2⟩
end
mutual
theorem sw_ev (M : Mo) (τ : Ren) {E E' : En} {kn : List Str} (h : ∀ x ∈ kn, E' (τ x) = E x) : ∀ d : PyData, TOk R kn d → evT M E' (swD τ d) = evT M E d
  | .str x, t => by
    show (match E' (τ x) with
      | some n => V.int (n : Int)
      | none => .non) = (match E x with
      | some n => V.int (n : Int)
      | none => .non)
    rw [h x t]
  | .tuple [], t => rfl
  | .tuple (x :: ds), t => by
    show ((M.tab (nameD x))[ixL M E' 0 (swL τ ds)]?).getD .non = ((M.tab (nameD x))[ixL M E 0 ds]?).getD .non
    rw [sw_ix M τ h ds t.2 0]
  | .none, t => rfl
  | .bool _, t => rfl
  | .int _, t => rfl
  | .list _, t => rfl
  | .dict _, t => rfl
theorem sw_ix (M : Mo) (τ : Ren) {E E' : En} {kn : List Str} (h : ∀ x ∈ kn, E' (τ x) = E x) : ∀ ds : List PyData, TOkL R kn ds → ∀ p, ixL M E' p (swL τ ds) = ixL M E p ds
  | [], _, p => rfl
  | d :: ds, t, p => by
    show ixL M E' (p * M.size + natV (evT M E' (swD τ d))) (swL τ ds) = ixL M E (p * M.size + natV (evT M E d)) ds
    rw [sw_ev M τ h d t.1]
    exact sw_ix M τ h ds t.2 _
end
end
namespace Sn
/-- the sentence with great names of its own -/
def ap : Ren → Nat → Sn → Sn
  | τ, _, .atm eq as => .atm eq (swL τ as)
  | τ, m, .qu al x s => .qu al (xn (m + 1)) (ap (τ.set x (xn (m + 1))) (m + 1) s)
  | τ, m, .one s => .one (ap τ m s)
  | τ, m, .two w a b => .two w (ap τ m a) (ap τ (m + a.qs) b)
theorem ap_size : ∀ (s : Sn) (τ : Ren) (m : Nat), (ap τ m s).size = s.size
  | .atm _ _, _, _ => rfl
  | .qu _ x s, τ, m => congrArg (1 + ·) (ap_size s _ _)
  | .one s, τ, m => congrArg (1 + ·) (ap_size s _ _)
  | .two w a b, τ, m => by
    show 1 + (ap τ m a).size + (ap τ (m + a.qs) b).size = 1 + a.size + b.size
    rw [ap_size a, ap_size b]
theorem ap_hi : ∀ (s : Sn) (τ : Ren) (m : Nat), (ap τ m s).hi = s.hi
  | .atm _ _, _, _ => rfl
  | .qu _ x s, τ, m => congrArg (1 + ·) (ap_hi s _ _)
  | .one s, τ, m => congrArg (1 + ·) (ap_hi s _ _)
  | .two w a b, τ, m => by
    show 1 + max (ap τ m a).hi (ap τ (m + a.qs) b).hi = 1 + max a.hi b.hi
    rw [ap_hi a, ap_hi b]
theorem ap_ok : ∀ (s : Sn) (τ : Ren) (m : Nat), (ap τ m s).ok = s.ok
  | .atm _ _, _, _ => rfl
  | .qu _ x s, τ, m => ap_ok s _ _
  | .one s, τ, m => ap_ok s _ _
  | .two w a b, τ, m => by
    show (decide (w ∈ (["and", "or", "then", "same"] : List Str)) && ((ap τ m a).ok && (ap τ (m + a.qs) b).ok)) = (decide (w ∈ (["and", "or", "then", "same"] : List Str)) && (a.ok && b.ok))
    rw [ap_ok a, ap_ok b]
theorem ap_bnd : ∀ (s : Sn) (τ : Ren) (m : Nat), (ap τ m s).bnd = (List.range' (m + 1) s.qs).map xn
  | .atm _ _, _, _ => rfl
  | .qu _ x s, τ, m => by
    show xn (m + 1) :: (ap _ (m + 1) s).bnd = (List.range' (m + 1) (1 + s.qs)).map xn
    rw [ap_bnd s, Nat.add_comm 1 s.qs, List.range'_succ]
    rfl
  | .one s, τ, m => ap_bnd s τ m
  | .two w a b, τ, m => by
    show (ap τ m a).bnd ++ (ap τ (m + a.qs) b).bnd = (List.range' (m + 1) (a.qs + b.qs)).map xn
    rw [ap_bnd a, ap_bnd b, ← List.map_append, show m + a.qs + 1 = m + 1 + 1 * a.qs by omega, List.range'_append]
theorem isTu_sw (τ : Ren) (d : PyData) (h : isTu d = true) : isTu (swD τ d) = true := by
  cases d with
  | tuple ds => cases ds <;> exact h
  | _ => exact h
theorem ap_wf : ∀ (s : Sn) (τ : Ren) (m : Nat), s.wf = true → (ap τ m s).wf = true
  | .atm false as, τ, m, h => by
    obtain ⟨h1, h⟩ := Bool.and_eq_true_iff.mp (show (decide (as.length = 1) && (wfTL as && (isTu (as.getD 0 .none) && decide ((partsDL as).length ≤ 40)))) = true from h)
    obtain ⟨h2, h⟩ := Bool.and_eq_true_iff.mp h
    obtain ⟨h3, h4⟩ := Bool.and_eq_true_iff.mp h
    match as, of_decide_eq_true h1 with
    | [t], _ =>
      show (decide ((swL τ [t]).length = 1) && (wfTL (swL τ [t]) && (isTu (swD τ t) && decide ((partsDL (swL τ [t])).length ≤ 40)))) = true
      rw [sw_wfL τ _ h2, isTu_sw τ t h3, sw_partsL, h4]
      rfl
  | .atm true as, τ, m, h => by
    obtain ⟨h1, h⟩ := Bool.and_eq_true_iff.mp (show (decide (as.length = 2) && (wfTL as && decide ((partsDL as).length ≤ 40))) = true from h)
    obtain ⟨h2, h4⟩ := Bool.and_eq_true_iff.mp h
    show (decide ((swL τ as).length = 2) && (wfTL (swL τ as) && decide ((partsDL (swL τ as)).length ≤ 40))) = true
    rw [sw_wfL τ _ h2, swL_len, sw_partsL, h4, h1]
    rfl
  | .qu _ x s, τ, m, h => ap_wf s _ _ h
  | .one s, τ, m, h => ap_wf s _ _ h
  | .two w a b, τ, m, h => by
    obtain ⟨h2, h3⟩ := Bool.and_eq_true_iff.mp (show (a.wf && b.wf) = true from h)
    show ((ap τ m a).wf && (ap τ (m + a.qs) b).wf) = true
    rw [ap_wf a _ _ h2, ap_wf b _ _ h3]
    rfl
section
variable {R S : List Row}
theorem set_in {τ : Ren} {kn kn' : List Str} {x y : Str} (h : ∀ z ∈ kn, τ z ∈ kn') : ∀ z ∈ kn ++ [x], (τ.set x y) z ∈ kn' ++ [y] := fun z hz => by
  show (if z = x then y else τ z) ∈ kn' ++ [y]
  by_cases e : z = x
  · rw [if_pos e]
    exact List.mem_append_right _ (List.mem_singleton_self _)
  · rw [if_neg e]
    rcases List.mem_append.mp hz with hz | hz
    · exact List.mem_append_left _ (h z hz)
    · exact absurd (List.mem_singleton.mp hz) e
theorem ap_good (hx : ∀ m, PyData.strOk (xn m) = true) : ∀ (s : Sn) (τ : Ren) (m : Nat) (kn kn' : List Str), good R S kn s → (∀ x ∈ kn, τ x ∈ kn') → good R S kn' (ap τ m s)
  | .atm false as, τ, m, kn, kn', g, h => by
    obtain ⟨r, ds, rfl, hr, ar, t⟩ := g
    exact ⟨r, swL τ ds, rfl, hr, by rw [swL_len]; exact ar, sw_tokL τ h ds t⟩
  | .atm true as, τ, m, kn, kn', g, h => by
    obtain ⟨t, u, rfl, ht, hu⟩ := g
    exact ⟨_, _, rfl, sw_tok τ h t ht, sw_tok τ h u hu⟩
  | .qu _ x s, τ, m, kn, kn', g, h => ⟨hx _, ap_good hx s _ _ _ _ g.2 (set_in h)⟩
  | .one s, τ, m, kn, kn', g, h => ap_good hx s τ m kn kn' g h
  | .two w a b, τ, m, kn, kn', g, h => ⟨ap_good hx a τ m kn kn' g.1 h, ap_good hx b τ _ kn kn' g.2 h⟩
theorem mean_ap (M : Mo) : ∀ (s : Sn) (τ : Ren) (m : Nat) (E E' : En) (kn : List Str), good R S kn s → (∀ x ∈ kn, E' (τ x) = E x ∧ ∃ j, j ≤ m ∧ τ x = xn j) → mean M E' (ap τ m s) = mean M E s
  | .atm false as, τ, m, E, E', kn, g, h => by
    obtain ⟨r, ds, rfl, hr, ar, t⟩ := g
    show truV (((M.tab (nameD (.str r.1)))[ixL M E' 0 (swL τ ds)]?).getD .non) = truV (((M.tab (nameD (.str r.1)))[ixL M E 0 ds]?).getD .non)
    rw [sw_ix (R := R) M τ (fun x hx => (h x hx).1) ds t 0]
  | .atm true as, τ, m, E, E', kn, g, h => by
    obtain ⟨t, u, rfl, ht, hu⟩ := g
    show decide (evT M E' (swD τ t) = evT M E' (swD τ u)) = decide (evT M E t = evT M E u)
    rw [sw_ev (R := R) M τ (fun x hx => (h x hx).1) t ht, sw_ev (R := R) M τ (fun x hx => (h x hx).1) u hu]
  | .qu al x s, τ, m, E, E', kn, g, h => by
    have key : ∀ n, mean M (E'.set (xn (m + 1)) n) (ap (τ.set x (xn (m + 1))) (m + 1) s) = mean M (E.set x n) s := fun n => by
      refine mean_ap M s _ _ _ _ (kn ++ [x]) g.2 fun z hz => ?_
      by_cases e : z = x
      · subst e
        have e1 : (τ.set z (xn (m + 1))) z = xn (m + 1) := if_pos rfl
        rw [e1]
        refine ⟨?_, m + 1, Nat.le_refl _, rfl⟩
        show (if xn (m + 1) = xn (m + 1) then some n else E' _) = (if z = z then some n else E z)
        rw [if_pos rfl, if_pos rfl]
      · have e1 : (τ.set x (xn (m + 1))) z = τ z := if_neg e
        rw [e1]
        have hz' : z ∈ kn := by
          rcases List.mem_append.mp hz with w | w
          · exact w
          · exact absurd (List.mem_singleton.mp w) e
        obtain ⟨h1, j, h2, h3⟩ := h z hz'
        refine ⟨?_, j, Nat.le_succ_of_le h2, h3⟩
        show (if τ z = xn (m + 1) then some n else E' (τ z)) = (if z = x then some n else E z)
        rw [if_neg e, if_neg (fun w => by
          rw [h3] at w
          have := xn_inj w
          omega)]
        exact h1
    cases al with
    | true =>
      show ((List.range M.size).all fun n => mean M (E'.set (xn (m + 1)) n) (ap (τ.set x (xn (m + 1))) (m + 1) s)) = (List.range M.size).all fun n => mean M (E.set x n) s
      congr 1
      funext n
      exact key n
    | false =>
      show ((List.range M.size).any fun n => mean M (E'.set (xn (m + 1)) n) (ap (τ.set x (xn (m + 1))) (m + 1) s)) = (List.range M.size).any fun n => mean M (E.set x n) s
      congr 1
      funext n
      exact key n
  | .one s, τ, m, E, E', kn, g, h => by
    show (!mean M E' (ap τ m s)) = !mean M E s
    rw [mean_ap M s τ m E E' kn g h]
  | .two w a b, τ, m, E, E', kn, g, h => by
    have ia := mean_ap M a τ m E E' kn g.1 h
    have ib := mean_ap M b τ (m + a.qs) E E' kn g.2 fun x hx => by
      obtain ⟨h1, j, h2, h3⟩ := h x hx
      exact ⟨h1, j, by omega, h3⟩
    show (if w = "and" then mean M E' (ap τ m a) && mean M E' (ap τ (m + a.qs) b) else if w = "or" then mean M E' (ap τ m a) || mean M E' (ap τ (m + a.qs) b) else if w = "then" then !mean M E' (ap τ m a) || mean M E' (ap τ (m + a.qs) b) else mean M E' (ap τ m a) == mean M E' (ap τ (m + a.qs) b)) = _
    rw [ia, ib]
    rfl
end
end Sn
end Ad

/-! The sentence with not only just ahead of atoms; and its not so. -/
namespace Ad
open PySem PySem.Spec PySem.Calls PyProof.Rows L2
abbrev sInw : Stmt := topS 13
theorem scInw : FnScope ["sentence", "word"] ["sentence"] (defScope sInw) := ⟨rfl, rfl, rfl, by decide +kernel, rfl, by decide +kernel, by decide +kernel⟩
abbrev sTurned : Stmt := topS 14
theorem scTurned : FnScope ["sentence", "word"] ["sentence"] (defScope sTurned) := ⟨rfl, rfl, rfl, by decide +kernel, rfl, by decide +kernel, by decide +kernel⟩
theorem word_nn (eq : Bool) (as : List PyData) : Sn.word (.atm eq as) ≠ "not" ∧ Sn.word (.atm eq as) ≠ "and" ∧ Sn.word (.atm eq as) ≠ "or" ∧ Sn.word (.atm eq as) ≠ "all" ∧ Sn.word (.atm eq as) ≠ "some" := by
  rcases Sn.word_atm' eq as with e | e <;> (rw [e]; decide +kernel)
theorem word_qn (al : Bool) (z : Str) (s : Sn) : Sn.word (.qu al z s) ≠ "not" ∧ Sn.word (.qu al z s) ≠ "and" ∧ Sn.word (.qu al z s) ≠ "or" := by
  rcases Sn.word_quu al z s with e | e <;> (rw [e]; decide +kernel)
theorem two_d (w : Str) (a b : Sn) : Sn.d (.two w a b) = .tuple [.str w, a.d, b.d] := rfl
section
variable {P : Program} {w : World} {K : PySem.W.Frag} {mg : Str → Option Value} {base : Heap}
def spInw (K : PySem.W.Frag) (b : Bool) (n : Nat) : Sp := fun vs H Q _ => ∃ (x : V) (s : Sn) (Hb : Hp), vs = [x] ∧ Same Hb H ∧ Dp K Hb x s.d ∧ s.isPl = true ∧ s.wf = true ∧ s.hi ≤ n ∧ ∀ H' v, Same H H' → Dp K H' v (s.inw b).d → Q v H'
theorem ok_inw {f g : Addr} {fd gd : FuncData} {k : Nat} (F : Fun K "inwards" "inwards" sInw f fd) (gF : mg "inwards" = some (.ref f)) (bF : Binds K fd ["sentence"] [])
    (G : Fun K "_turned" "_turned" sTurned g gd) (gG : mg "_turned" = some (.ref g)) (bG : Binds K gd ["sentence"] []) :
    ∀ n, FnOk P w K mg base CX0 (k + n) f fd ["sentence"] (spInw K true n) ∧ FnOk P w K mg base CX0 (k + n) g gd ["sentence"] (spInw K false n)
  | 0 => ⟨vac fun vs H Q E ⟨x, s, Hb, _, _, _, _, _, z, _⟩ => absurd (Nat.le_trans s.hi_pos z) (by decide), vac fun vs H Q E ⟨x, s, Hb, _, _, _, _, _, z, _⟩ => absurd (Nat.le_trans s.hi_pos z) (by decide)⟩
  | n + 1 => by
    obtain ⟨I1, I2⟩ := ok_inw F gF bF G gG bG n
    have hInwards : Has P w K mg base (k + n) "inwards" ["sentence"] (spInw K true n) f fd := ⟨I1, gF, F.kp, bF⟩
    have hTurned : Has P w K mg base (k + n) "_turned" ["sentence"] (spInw K false n) g gd := ⟨I2, gG, G.kp, bG⟩
    constructor
    · refine F.ok scInw (fun vs H Q E h => ?_) (fun cdv A outer s H vs Q E hr h => ?_)
      · obtain ⟨x, s, Hb, rfl, _⟩ := h
        rfl
      · obtain ⟨x, s, Hb, rfl, hb, hd, pl, wf, small, q⟩ := h
        refine ⟨_, (pss_cons (ps_set (i := 1) scInw.nd rfl (.inl rfl) (pe_ix ix_tup (pv 0) pe_int (fun _ _ => rfl)))
    (pss_cons (ps_if (pt_cmpR op_eq (pv 1) pe_str (nomark _))
      (pss_one (ps_ret (pe_call hTurned.G hr (by rfl) hTurned.g hTurned.kp hTurned.b .nil pass0 (pa_cons (pe_ix ix_tup (pv 0) pe_int (fun _ _ => rfl)) pa_nil)))) pss_nil)
    (pss_cons (ps_if (PW.pt (pw_or (pt_cmpR op_eq (pv 1) pe_str (nomark _)) (pw_or1 (pt_cmpR op_eq (pv 1) pe_str (nomark _)))))
      (pss_one (ps_ret (pe_tup (pa_cons (pv 1) (pa_cons (pe_call hInwards.G hr (by rfl) hInwards.g hInwards.kp hInwards.b .nil pass0 (pa_cons (pe_ix ix_tup (pv 0) pe_int (fun _ _ => rfl)) pa_nil)) (pa_cons (pe_call hInwards.G hr (by rfl) hInwards.g hInwards.kp hInwards.b .nil pass0 (pa_cons (pe_ix ix_tup (pv 0) pe_int (fun _ _ => rfl)) pa_nil)) pa_nil)))))) pss_nil)
    (pss_cons (ps_if (PW.pt (pw_or (pt_cmpR op_eq (pv 1) pe_str (nomark _)) (pw_or1 (pt_cmpR op_eq (pv 1) pe_str (nomark _)))))
      (pss_one (ps_ret (pe_tup (pa_cons (pv 1) (pa_cons (pe_ix ix_tup (pv 0) pe_int (fun _ _ => rfl)) (pa_cons (pe_call hInwards.G hr (by rfl) hInwards.g hInwards.kp hInwards.b .nil pass0 (pa_cons (pe_ix ix_tup (pv 0) pe_int (fun _ _ => rfl)) pa_nil)) pa_nil)))))) pss_nil)
    (pss_one (ps_ret (pv 0))))))), ?_⟩
        have ok := Sn.isPl_ok s pl
        rcases sn_three hd ok wf small with ⟨eq, as, a, vs, rfl, rfl, sq, all, _⟩ | ⟨al, z, s', a, v2, rfl, rfl, sq, h2, ok', wf', hi'⟩ | ⟨wd, ss, vs, a, rfl, sq, ps⟩
        · obtain ⟨n1, n2, n3, n4, n5⟩ := word_nn eq as
          refine ⟨.ref a, rfl, a, _, 0, _, rfl, rfl, (TK.same hb).sq sq, atI_nat (j := 0) rfl, sv_test (i := 1) rfl ?_⟩
          rw [decide_eq_false n1]
          refine iteF (sv_or (i := 1) rfl ?_)
          rw [no_or n2 n3]
          refine iteF (sv_or (i := 1) rfl ?_)
          rw [no_or n4 n5]
          exact iteF ⟨.ref a, rfl, q H _ (fun b o e => e) (dp_same hb hd)⟩
        · have sqH := (TK.same hb).sq sq
          obtain ⟨n1, n2, n3⟩ := word_qn al z s'
          refine ⟨.ref a, rfl, a, _, 0, _, rfl, rfl, sqH, atI_nat (j := 0) rfl, sv_test (i := 1) rfl ?_⟩
          rw [decide_eq_false n1]
          refine iteF (sv_or (i := 1) rfl ?_)
          rw [no_or n2 n3]
          refine iteF (sv_or (i := 1) rfl ?_)
          rw [word_qu2 al z s']
          refine iteT ⟨_, rfl, .ref a, rfl, a, _, 1, _, rfl, rfl, sqH, atI_nat (j := 1) rfl, .ref a, rfl, a, _, 2, v2, rfl, rfl, sqH, atI_nat (j := 2) rfl, v2, s', Hb, rfl, hb, h2, pl, wf', hi', fun H1 v1 s1 d1 => ⟨(by show 3 ≤ sizeLine; rw [sizeLine_eq]; decide), fun t nt => ?_⟩⟩
          have s2 : Same H1 (upd H1 t (.tup [.str (Sn.word (.qu al z s')), .str z, v1])) := same_new (fun b o e => e) nt _
          refine q _ _ (s1.trans s2) ?_
          show Dp K _ _ (.tuple [.str (Sn.word (.qu (al == true) z (s'.inw true))), .str z, (s'.inw true).d])
          have ew : Sn.word (.qu (al == true) z (s'.inw true)) = Sn.word (.qu al z s') := by cases al <;> rfl
          rw [ew]
          exact .tup (.inl (.inl upd_same)) (.cons (.str _) (.cons (.str _) (.cons (dp_same s2 d1) .nil)))
        · have sqH := (TK.same hb).sq sq
          rcases ps.kind with ⟨s', rfl, rfl, rfl⟩ | ⟨sA, sB, rfl, rfl, w4⟩
          · obtain ⟨v1, r, rfl, d1, hr1⟩ := ps.data
            cases (show r = [] from hr1)
            obtain ⟨_, wf', hi'⟩ := ps.each s' List.mem_cons_self
            refine ⟨.ref a, rfl, a, _, 0, _, rfl, rfl, sqH, atI_nat (j := 0) rfl, sv_test (i := 1) rfl ?_⟩
            rw [decide_eq_true rfl]
            exact iteT ⟨.ref a, rfl, a, _, 1, v1, rfl, rfl, sqH, atI_nat (j := 1) rfl, v1, s', Hb, rfl, hb, d1, pl, wf', hi', q⟩
          · obtain ⟨v1, _, rfl, d1, v2, r, rfl, d2, hr2⟩ := ps.data
            cases (show r = [] from hr2)
            obtain ⟨wao, plA, plB⟩ := Sn.isPlw pl
            obtain ⟨_, wfA, hiA⟩ := ps.each sA List.mem_cons_self
            obtain ⟨_, wfB, hiB⟩ := ps.each sB (List.mem_cons_of_mem _ (List.mem_singleton_self _))
            refine ⟨.ref a, rfl, a, _, 0, _, rfl, rfl, sqH, atI_nat (j := 0) rfl, sv_test (i := 1) rfl ?_⟩
            rw [decide_eq_false (Sn.not_ao wao)]
            refine iteF (sv_or (i := 1) rfl ?_)
            rw [yes_or wao]
            refine iteT ⟨_, rfl, .ref a, rfl, a, _, 1, v1, rfl, rfl, sqH, atI_nat (j := 1) rfl, v1, sA, Hb, rfl, hb, d1, plA, wfA, hiA, fun H1 y1 s1 e1 => ?_⟩
            refine ⟨.ref a, rfl, a, _, 2, v2, rfl, rfl, (TK.same s1).sq sqH, atI_nat (j := 2) rfl, v2, sB, Hb, rfl, hb.trans s1, d2, plB, wfB, hiB, fun H2 y2 s2 e2 => ⟨(by show 3 ≤ sizeLine; rw [sizeLine_eq]; decide), fun t nt => ?_⟩⟩
            have s3 : Same H2 (upd H2 t (.tup [.str wd, y1, y2])) := same_new (fun b o e => e) nt _
            exact q _ _ (s1.trans (s2.trans s3)) (.tup (.inl (.inl upd_same)) (.cons (.str _) (.cons (dp_same (s2.trans s3) e1) (.cons (dp_same s3 e2) .nil))))
    · refine G.ok scTurned (fun vs H Q E h => ?_) (fun cdv A outer s H vs Q E hr h => ?_)
      · obtain ⟨x, s, Hb, rfl, _⟩ := h
        rfl
      · obtain ⟨x, s, Hb, rfl, hb, hd, pl, wf, small, q⟩ := h
        refine ⟨_, (pss_cons (ps_set (i := 1) scTurned.nd rfl (.inl rfl) (pe_ix ix_tup (pv 0) pe_int (fun _ _ => rfl)))
    (pss_cons (ps_if (pt_cmpR op_eq (pv 1) pe_str (nomark _))
      (pss_one (ps_ret (pe_call hInwards.G hr (by rfl) hInwards.g hInwards.kp hInwards.b .nil pass0 (pa_cons (pe_ix ix_tup (pv 0) pe_int (fun _ _ => rfl)) pa_nil)))) pss_nil)
    (pss_cons (ps_if (PW.pt (pw_or (pt_cmpR op_eq (pv 1) pe_str (nomark _)) (pw_or1 (pt_cmpR op_eq (pv 1) pe_str (nomark _)))))
      (pss_one (ps_ret (pe_tup (pa_cons (pe_ifExp (pt_cmpR op_eq (pv 1) pe_str (nomark _)) pe_str pe_str) (pa_cons (pe_call hTurned.G hr (by rfl) hTurned.g hTurned.kp hTurned.b .nil pass0 (pa_cons (pe_ix ix_tup (pv 0) pe_int (fun _ _ => rfl)) pa_nil)) (pa_cons (pe_call hTurned.G hr (by rfl) hTurned.g hTurned.kp hTurned.b .nil pass0 (pa_cons (pe_ix ix_tup (pv 0) pe_int (fun _ _ => rfl)) pa_nil)) pa_nil)))))) pss_nil)
    (pss_cons (ps_if (PW.pt (pw_or (pt_cmpR op_eq (pv 1) pe_str (nomark _)) (pw_or1 (pt_cmpR op_eq (pv 1) pe_str (nomark _)))))
      (pss_one (ps_ret (pe_tup (pa_cons (pe_ifExp (pt_cmpR op_eq (pv 1) pe_str (nomark _)) pe_str pe_str) (pa_cons (pe_ix ix_tup (pv 0) pe_int (fun _ _ => rfl)) (pa_cons (pe_call hTurned.G hr (by rfl) hTurned.g hTurned.kp hTurned.b .nil pass0 (pa_cons (pe_ix ix_tup (pv 0) pe_int (fun _ _ => rfl)) pa_nil)) pa_nil)))))) pss_nil)
    (pss_one (ps_ret (pe_tup (pa_cons pe_str (pa_cons (pv 0) pa_nil))))))))), ?_⟩
        have ok := Sn.isPl_ok s pl
        rcases sn_three hd ok wf small with ⟨eq, as, a, vs, rfl, rfl, sq, all, _⟩ | ⟨al, z, s', a, v2, rfl, rfl, sq, h2, ok', wf', hi'⟩ | ⟨wd, ss, vs, a, rfl, sq, ps⟩
        · obtain ⟨n1, n2, n3, n4, n5⟩ := word_nn eq as
          refine ⟨.ref a, rfl, a, _, 0, _, rfl, rfl, (TK.same hb).sq sq, atI_nat (j := 0) rfl, sv_test (i := 1) rfl ?_⟩
          rw [decide_eq_false n1]
          refine iteF (sv_or (i := 1) rfl ?_)
          rw [no_or n2 n3]
          refine iteF (sv_or (i := 1) rfl ?_)
          rw [no_or n4 n5]
          refine iteF ⟨.ref a, rfl, (by show 2 ≤ sizeLine; rw [sizeLine_eq]; decide), fun t nt => ?_⟩
          have s2 : Same H (upd H t (.tup [.str "not", .ref a])) := same_new (fun b o e => e) nt _
          exact q _ _ s2 (.tup (.inl (.inl upd_same)) (.cons (.str _) (.cons (dp_same (hb.trans s2) hd) .nil)))
        · have sqH := (TK.same hb).sq sq
          obtain ⟨n1, n2, n3⟩ := word_qn al z s'
          refine ⟨.ref a, rfl, a, _, 0, _, rfl, rfl, sqH, atI_nat (j := 0) rfl, sv_test (i := 1) rfl ?_⟩
          rw [decide_eq_false n1]
          refine iteF (sv_or (i := 1) rfl ?_)
          rw [no_or n2 n3]
          refine iteF (sv_or (i := 1) rfl ?_)
          rw [word_qu2 al z s']
          refine iteT (sv_test (i := 1) rfl ?_)
          have fin : ∀ (wz : Str), Sn.word (.qu (al == false) z (s'.inw false)) = wz → (∀ H1 v1, Same H H1 → Dp K H1 v1 (s'.inw false).d → 3 ≤ sizeLine ∧ ∀ t, H1 t = none → Q (.ref t) (upd H1 t (.tup [.str wz, .str z, v1]))) := fun wz ew H1 v1 s1 d1 => ⟨(by rw [sizeLine_eq]; decide), fun t nt => by
            have s2 : Same H1 (upd H1 t (.tup [.str wz, .str z, v1])) := same_new (fun b o e => e) nt _
            refine q _ _ (s1.trans s2) ?_
            show Dp K _ _ (.tuple [.str (Sn.word (.qu (al == false) z (s'.inw false))), .str z, (s'.inw false).d])
            rw [ew]
            exact .tup (.inl (.inl upd_same)) (.cons (.str _) (.cons (.str _) (.cons (dp_same s2 d1) .nil)))⟩
          cases al with
          | true =>
            rw [show decide (Sn.word (.qu true z s') = "all") = true from decide_eq_true rfl]
            exact iteT ⟨.ref a, rfl, a, _, 1, _, rfl, rfl, sqH, atI_nat (j := 1) rfl, .ref a, rfl, a, _, 2, v2, rfl, rfl, sqH, atI_nat (j := 2) rfl, v2, s', Hb, rfl, hb, h2, pl, wf', hi', fin "some" rfl⟩
          | false =>
            rw [show decide (Sn.word (.qu false z s') = "all") = false from decide_eq_false (show ¬ (("some" : Str) = "all") by decide +kernel)]
            exact iteF ⟨.ref a, rfl, a, _, 1, _, rfl, rfl, sqH, atI_nat (j := 1) rfl, .ref a, rfl, a, _, 2, v2, rfl, rfl, sqH, atI_nat (j := 2) rfl, v2, s', Hb, rfl, hb, h2, pl, wf', hi', fin "all" rfl⟩
        · have sqH := (TK.same hb).sq sq
          rcases ps.kind with ⟨s', rfl, rfl, rfl⟩ | ⟨sA, sB, rfl, rfl, w4⟩
          · obtain ⟨v1, r, rfl, d1, hr1⟩ := ps.data
            cases (show r = [] from hr1)
            obtain ⟨_, wf', hi'⟩ := ps.each s' List.mem_cons_self
            refine ⟨.ref a, rfl, a, _, 0, _, rfl, rfl, sqH, atI_nat (j := 0) rfl, sv_test (i := 1) rfl ?_⟩
            rw [decide_eq_true rfl]
            exact iteT ⟨.ref a, rfl, a, _, 1, v1, rfl, rfl, sqH, atI_nat (j := 1) rfl, v1, s', Hb, rfl, hb, d1, pl, wf', hi', q⟩
          · obtain ⟨v1, _, rfl, d1, v2, r, rfl, d2, hr2⟩ := ps.data
            cases (show r = [] from hr2)
            obtain ⟨wao, plA, plB⟩ := Sn.isPlw pl
            obtain ⟨_, wfA, hiA⟩ := ps.each sA List.mem_cons_self
            obtain ⟨_, wfB, hiB⟩ := ps.each sB (List.mem_cons_of_mem _ (List.mem_singleton_self _))
            refine ⟨.ref a, rfl, a, _, 0, _, rfl, rfl, sqH, atI_nat (j := 0) rfl, sv_test (i := 1) rfl ?_⟩
            rw [decide_eq_false (Sn.not_ao wao)]
            refine iteF (sv_or (i := 1) rfl ?_)
            rw [yes_or wao]
            refine iteT (sv_test (i := 1) rfl ?_)
            have fin : ∀ (wz : Str), Sn.tu false wd = wz → (tCall (spInw K false n) [] E0 (tCons (tOp (rIxT K) (tVar 0) (tC (.int 1))) tNil)) [some (.ref a), some (.str wd)] H (fun y1 H1 => (tCall (spInw K false n) [] E0 (tCons (tOp (rIxT K) (tVar 0) (tC (.int 2))) tNil)) [some (.ref a), some (.str wd)] H1 fun y2 H2 => 3 ≤ sizeLine ∧ ∀ t, H2 t = none → Q (.ref t) (upd H2 t (.tup [.str wz, y1, y2]))) := fun wz ew => by
              refine ⟨.ref a, rfl, a, _, 1, v1, rfl, rfl, sqH, atI_nat (j := 1) rfl, v1, sA, Hb, rfl, hb, d1, plA, wfA, hiA, fun H1 y1 s1 e1 => ?_⟩
              refine ⟨.ref a, rfl, a, _, 2, v2, rfl, rfl, (TK.same s1).sq sqH, atI_nat (j := 2) rfl, v2, sB, Hb, rfl, hb.trans s1, d2, plB, wfB, hiB, fun H2 y2 s2 e2 => ⟨(by rw [sizeLine_eq]; decide), fun t nt => ?_⟩⟩
              have s3 : Same H2 (upd H2 t (.tup [.str wz, y1, y2])) := same_new (fun b o e => e) nt _
              refine q _ _ (s1.trans (s2.trans s3)) ?_
              show Dp K _ _ (.tuple [.str (Sn.tu false wd), (sA.inw false).d, (sB.inw false).d])
              rw [ew]
              exact .tup (.inl (.inl upd_same)) (.cons (.str _) (.cons (dp_same (s2.trans s3) e1) (.cons (dp_same s3 e2) .nil)))
            rcases wao with rfl | rfl
            · rw [decide_eq_true rfl]
              exact iteT (fin "or" rfl)
            · rw [decide_eq_false (show ¬ (("or" : Str) = "and") by decide +kernel)]
              exact iteF (fin "and" rfl)
end
end Ad

/-! How many words a spoken term has: a number. -/
namespace Ad
open PySem PySem.Spec PySem.Calls PyProof.Rows L2
abbrev sLSpW : Stmt := topS 25
theorem scLSpW : FnScope ["_law_term", "_law_part"] ["_law_term"] (defScope sLSpW) := ⟨rfl, rfl, rfl, by decide +kernel, rfl, by decide +kernel, by decide +kernel⟩
theorem sum_spw : ∀ ds : List PyData, (ds.map fun d => ((spw d : Nat) : Int)).sum = ((spwL ds : Nat) : Int)
  | [] => rfl
  | d :: ds => by
    rw [List.map_cons, List.sum_cons, sum_spw ds]
    show _ = ((spw d + spwL ds : Nat) : Int)
    omega
section
variable {P : Program} {w : World} {K : PySem.W.Frag} {mg : Str → Option Value} {base : Heap}
def spLSpW (K : PySem.W.Frag) (n : Nat) : Sp := fun vs H Q _ => ∃ (x : V) (d : PyData) (Hb : Hp), vs = [x] ∧ Same Hb H ∧ Dp K Hb x d ∧ wfT d = true ∧ (partsD d).length ≤ n ∧ n ≤ 60 ∧ ∀ H', Same H H' → Q (.int ((spw d : Nat) : Int)) H'
theorem ok_lspw {f : Addr} {fd : FuncData} {k : Nat} (F : Fun K "_law_spoken_words" "_law_spoken_words" sLSpW f fd) (gF : mg "_law_spoken_words" = some (.ref f)) (bF : Binds K fd ["_law_term"] []) (m_isinstance : mg "isinstance" = none) (m_str : mg "str" = none) (m_sum : mg "sum" = none) :
    ∀ n, FnOk P w K mg base CX0 (k + n) f fd ["_law_term"] (spLSpW K n)
  | 0 => vac fun vs H Q E ⟨x, d, Hb, _, _, _, _, z, _⟩ => absurd (Nat.le_trans (partsD_pos d) z) (by decide)
  | n + 1 => by
    have IH : FnOk P w K mg base CX0 (k + n) f fd ["_law_term"] (spLSpW K n) := ok_lspw F gF bF m_isinstance m_str m_sum n
    refine F.ok scLSpW (fun vs H Q E h => ?_) (fun cdv A outer s H vs Q E hr h => ?_)
    · obtain ⟨x, d, Hb, rfl, _⟩ := h
      rfl
    · obtain ⟨x, d, Hb, rfl, hb, hd, wf, small, n60, q⟩ := h
      refine ⟨_, (pss_one (ps_ret (pe_ifExp (pt_val (pe_callB call_isi (by rfl) m_isinstance (by decide +kernel) (pa_cons (pv 0) (pa_cons (pe_bltn (v := .ty "str") (by rfl) m_str (by decide +kernel) rfl) pa_nil)))) pe_int (pe_op op_add pe_int (pe_callB (cr_sum rfl) (by rfl) m_sum (by decide +kernel) (pa_cons (pe_lc (own := [("_law_part", 1)]) (g := gName 1) (tt := tYes) (te := tCall (spLSpW K n) [] E0 (tCons (tVar 1) tNil)) rfl scLSpW.nd (pi_tup (pe_slice sl_tup (pv 0) (po_some pe_int) po_none)) (blkOk_by (N := ["_law_term", "_law_part"]) (sc := defScope sLSpW) (by decide +kernel)) (fun _ _ _ _ _ => (pg_name (i := 1) scLSpW.nd rfl (.inl rfl))) (fun _ _ _ _ _ => pts_nil) (fun _ _ _ _ _ => (pe_call IH hr (by rfl) gF F.kp bF .nil pass0 (pa_cons (pv 1) pa_nil)))) pa_nil)))))), ?_⟩
      have hdH := dp_same hb hd
      refine ⟨x, rfl, _, .ty "str", tyD d, .type "str", _, rfl, .ty "str", dp_ty hdH, kit_st d, _, rfl, ?_⟩
      rcases wf_cases wf with ⟨y, rfl⟩ | ⟨z, ds, rfl, wfd⟩
      · cases hd
        exact iteT (q _ (fun b o e => e))
      · refine iteF ?_
        have lp : (partsD (.tuple (.str z :: ds))).length = 1 + (partsDL ds).length := by
          show (PyData.tuple (.str z :: ds) :: partsDL ds).length = _
          rw [List.length_cons]
          omega
        cases hd with
        | @tup a zs _ sq0 all0 =>
        cases all0 with
        | @cons v0 vs _ _ hv0 all =>
        cases hv0
        refine ⟨.ref a, rfl, 1, rfl, a, _, rfl, (TK.same hb).sq sq0, cut_args.1, fun p3 n3 => ?_⟩
        rw [cut_args.2]
        have s3 : Same H (upd H p3 (.tup vs)) := same_new (fun b o e => e) n3 _
        have e3 : (upd H p3 (.tup vs)) p3 = some (.tup vs) := upd_same
        have la := dpAll_len all
        generalize upd H p3 (.tup vs) = G1 at s3 e3
        refine ⟨p3, rfl, ⟨vs, .inl (.inl e3)⟩, fun D nD => lc_tup (K := K) (a := p3) (xs := vs) (fun i G => Same G1 G ∧ G D = some (.lst (((ds.take i).map fun d => ((spw d : Nat) : Int)).map V.int))) ⟨same_new (fun b o e => e) nD _, upd_same⟩ (fun i G _ ⟨sm, _⟩ => (TK.same sm).sq (.inl (.inl e3))) ?_ ?_⟩
        · rintro i y G hy ⟨sm, gD⟩
          obtain ⟨u, hu', tu⟩ := dpAll_get all hy
          obtain ⟨wfu, pl⟩ := wfTL_mem wfd hu'
          have pt := parts_take (ds := ds) i
          have il := (List.getElem?_eq_some_iff.mp hu').1
          have hl := partsDL_len ds
          refine ⟨rfl, y, rfl, y, u, Hb, rfl, fun b o e => sm _ _ (s3 _ _ (hb _ _ e)), tu, wfu, by omega, by omega, fun G2 s2 => ⟨_, s2 _ _ gD, by rw [List.length_map, List.length_map, List.length_take, sizeLine_eq]; omega, same_on (sm.trans s2) nD _, ?_⟩⟩
          rw [upd_same, take_next hu', List.map_append, List.map_append]
          rfl
        · rintro G ⟨sm, gD⟩
          rw [la, List.take_length] at gD
          refine ⟨D, _, rfl, .inl (.inl gD), _, _, rfl, rfl, ?_⟩
          rw [sum_spw]
          exact q _ (s3.trans sm)
end
end Ad

/-! How many words a sentence has: a number. -/
namespace Ad
open PySem PySem.Spec PySem.Calls PyProof.Rows L2
abbrev sLWords : Stmt := topS 24
theorem scLWords : FnScope ["_law_sentence", "_law_part"] ["_law_sentence"] (defScope sLWords) := ⟨rfl, rfl, rfl, by decide +kernel, rfl, by decide +kernel, by decide +kernel⟩
/-- the shape of a sentence: a quantified one, an atom, or one of parts -/
theorem sn_shape {K : PySem.W.Frag} {Hb : Hp} {x : V} {s : Sn} {n : Nat} (hd : Dp K Hb x s.d) (ok : s.ok = true) (wf : s.wf = true) (small : s.hi ≤ n + 1) :
    (∃ (al : Bool) (z : Str) (s' : Sn) (a : Addr) (v2 : V), s = .qu al z s' ∧ x = .ref a ∧ SqT K Hb a [.str (Sn.word (.qu al z s')), .str z, v2] ∧ Dp K Hb v2 s'.d ∧ s'.ok = true ∧ s'.wf = true ∧ s'.hi ≤ n) ∨
    ∃ (wd : Str) (a : Addr) (vs : List V) (isA : Bool) (as : List PyData) (ss : List Sn), x = .ref a ∧ SqT K Hb a (.str wd :: vs) ∧ inV (.str wd) [.str "all", .str "some"] = false ∧ inV (.str wd) [.str "is", .str "equal"] = isA ∧ 1 ≤ vs.length ∧ vs.length ≤ 2 ∧ (if isA = true then as.length = vs.length ∧ s.words = spwL as + 1 ∧ s.sames = 0 else ss.length = vs.length ∧ s.words = 1 + (ss.map Sn.words).sum ∧ ∃ m ∈ ss.map Sn.sames, (∀ y ∈ ss.map Sn.sames, y ≤ m) ∧ s.sames = (if wd = "same" then 1 else 0) + m) ∧
      ∀ (i : Nat) (y : V), vs[i]? = some y → if isA = true then ∃ u, as[i]? = some u ∧ Dp K Hb y u ∧ wfT u = true ∧ (partsD u).length ≤ 60 else ∃ s', ss[i]? = some s' ∧ Dp K Hb y (Sn.d s') ∧ s'.ok = true ∧ s'.wf = true ∧ s'.hi ≤ n := by
  cases s with
  | qu al z s' =>
    obtain ⟨a, v1, v2, rfl, sq, h1, h2⟩ := dp_three (show Dp K Hb x (.tuple [.str (Sn.word (.qu al z s')), .str z, s'.d]) from hd)
    cases h1
    have zs : 1 + s'.hi ≤ n + 1 := small
    exact .inl ⟨al, z, s', a, v2, rfl, rfl, sq, h2, ok, wf, by omega⟩
  | atm eq as =>
    refine .inr ?_
    cases eq with
    | false =>
      have wf1 := wf
      obtain ⟨l1, wf2⟩ := Bool.and_eq_true_iff.mp (show (decide (as.length = 1) && (wfTL as && (isTu (as.getD 0 .none) && decide ((partsDL as).length ≤ 40)))) = true from wf)
      match as, of_decide_eq_true l1, wf1, wf2, hd with
      | [t], _, wf1, wf2, hd =>
        obtain ⟨a, v1, rfl, sq, h1⟩ := dp_two (show Dp K Hb x (.tuple [.str "is", t]) from hd)
        have wft : wfT t = true := (Bool.and_eq_true_iff.mp (Bool.and_eq_true_iff.mp wf2).1).1
        have p40 := wf_one wf1
        refine ⟨"is", a, [v1], true, [t], [], rfl, sq, by decide +kernel, by decide +kernel, (by show 1 ≤ 1; decide), (by show 1 ≤ 2; decide), ⟨rfl, rfl, rfl⟩, fun i y hy => ?_⟩
        match i, hy with
        | 0, hy =>
          cases hy
          exact ⟨t, rfl, h1, wft, by omega⟩
    | true =>
      have wf1 := wf
      obtain ⟨l1, wf2⟩ := Bool.and_eq_true_iff.mp (show (decide (as.length = 2) && (wfTL as && decide ((partsDL as).length ≤ 40))) = true from wf)
      match as, of_decide_eq_true l1, wf1, wf2, hd with
      | [t, u], _, wf1, wf2, hd =>
        obtain ⟨a, v1, v2, rfl, sq, h1, h2⟩ := dp_three (show Dp K Hb x (.tuple [.str "equal", t, u]) from hd)
        obtain ⟨wft, wfu'⟩ := Bool.and_eq_true_iff.mp (Bool.and_eq_true_iff.mp wf2).1
        have wfu : wfT u = true := (Bool.and_eq_true_iff.mp wfu').1
        obtain ⟨p1, p2⟩ := wf_two wf1
        refine ⟨"equal", a, [v1, v2], true, [t, u], [], rfl, sq, by decide +kernel, by decide +kernel, (by show 1 ≤ 2; decide), (by show 2 ≤ 2; decide), ⟨rfl, rfl, rfl⟩, fun i y hy => ?_⟩
        match i, hy with
        | 0, hy =>
          cases hy
          exact ⟨t, rfl, h1, wft, by omega⟩
        | 1, hy =>
          cases hy
          exact ⟨u, rfl, h2, wfu, by omega⟩
  | one s' =>
    obtain ⟨a, v1, rfl, sq, h1⟩ := dp_two (show Dp K Hb x (.tuple [.str "not", s'.d]) from hd)
    have zs : 1 + s'.hi ≤ n + 1 := small
    refine .inr ⟨"not", a, [v1], false, [], [s'], rfl, sq, by decide +kernel, by decide +kernel, (by show 1 ≤ 1; decide), (by show 1 ≤ 2; decide), ⟨rfl, rfl, s'.sames, List.mem_singleton_self _, fun y hy => Nat.le_of_eq (List.mem_singleton.mp hy), by rw [if_neg (show ¬ (("not" : Str) = "same") by decide +kernel), Nat.zero_add]; rfl⟩, fun i y hy => ?_⟩
    match i, hy with
    | 0, hy =>
      cases hy
      exact ⟨s', rfl, h1, ok, wf, by omega⟩
  | two wd sA sB =>
    obtain ⟨a, v1, v2, rfl, sq, h1, h2⟩ := dp_three (show Dp K Hb x (.tuple [.str wd, sA.d, sB.d]) from hd)
    have zs : 1 + max sA.hi sB.hi ≤ n + 1 := small
    obtain ⟨okw, okAB⟩ := Bool.and_eq_true_iff.mp (show (decide (wd ∈ (["and", "or", "then", "same"] : List Str)) && (sA.ok && sB.ok)) = true from ok)
    obtain ⟨okA, okB⟩ := Bool.and_eq_true_iff.mp okAB
    obtain ⟨wfA, wfB⟩ := Bool.and_eq_true_iff.mp (show (sA.wf && sB.wf) = true from wf)
    obtain ⟨n1, n2, n3, n4⟩ := word_two (of_decide_eq_true okw)
    refine .inr ⟨wd, a, [v1, v2], false, [], [sA, sB], rfl, sq, ?_, inV_is wd n1 n2, (by show 1 ≤ 2; decide), (by show 2 ≤ 2; decide), ⟨rfl, (by show 1 + (sA.words + sB.words) = 1 + (sA.words + (sB.words + 0)); omega), max sA.sames sB.sames, (by
      show max sA.sames sB.sames ∈ [sA.sames, sB.sames]
      by_cases e : sA.sames ≤ sB.sames
      · rw [Nat.max_eq_right e]
        exact List.mem_cons_of_mem _ (List.mem_singleton_self _)
      · rw [Nat.max_eq_left (by omega)]
        exact List.mem_cons_self), (fun y hy => by
      rcases List.mem_cons.mp (show y ∈ [sA.sames, sB.sames] from hy) with e | e
      · rw [e]
        exact Nat.le_max_left _ _
      · rw [List.mem_singleton.mp e]
        exact Nat.le_max_right _ _), rfl⟩, fun i y hy => ?_⟩
    · rw [inV_two, decide_eq_false n3, decide_eq_false n4]
      rfl
    · match i, hy with
      | 0, hy =>
        cases hy
        exact ⟨sA, rfl, h1, okA, wfA, by omega⟩
      | 1, hy =>
        cases hy
        exact ⟨sB, rfl, h2, okB, wfB, by omega⟩
section
variable {P : Program} {w : World} {K : PySem.W.Frag} {mg : Str → Option Value} {base : Heap}
def spLWords (K : PySem.W.Frag) (n : Nat) : Sp := fun vs H Q _ => ∃ (x : V) (s : Sn) (Hb : Hp), vs = [x] ∧ Same Hb H ∧ Dp K Hb x s.d ∧ s.ok = true ∧ s.wf = true ∧ s.hi ≤ n ∧ ∀ H', Same H H' → Q (.int ((s.words : Nat) : Int)) H'
theorem sum_words : ∀ ss : List Sn, (ss.map fun s => ((s.words : Nat) : Int)).sum = (((ss.map Sn.words).sum : Nat) : Int)
  | [] => rfl
  | s :: ss => by
    rw [List.map_cons, List.sum_cons, sum_words ss, List.map_cons, List.sum_cons]
    omega
theorem ok_lwords {f fG : Addr} {fd fdG : FuncData} {k : Nat} (F : Fun K "_law_words" "_law_words" sLWords f fd) (gF : mg "_law_words" = some (.ref f)) (bF : Binds K fd ["_law_sentence"] [])
    (GG : FnOk P w K mg base CX0 k fG fdG ["_law_term"] (spLSpW K 60)) (gG : mg "_law_spoken_words" = some (.ref fG)) (kG : PySem.W.keepIn K (.ref fG) = true) (bG : Binds K fdG ["_law_term"] []) (m_sum : mg "sum" = none) :
    ∀ n, FnOk P w K mg base CX0 (k + n) f fd ["_law_sentence"] (spLWords K n)
  | 0 => vac fun vs H Q E ⟨x, s, Hb, _, _, _, _, _, z, _⟩ => absurd (Nat.le_trans s.hi_pos z) (by decide)
  | n + 1 => by
    have IH : FnOk P w K mg base CX0 (k + n) f fd ["_law_sentence"] (spLWords K n) := ok_lwords F gF bF GG gG kG bG m_sum n
    have GG' : FnOk P w K mg base CX0 (k + n) fG fdG ["_law_term"] (spLSpW K 60) := GG.mono (Nat.le_add_right _ _)
    refine F.ok scLWords (fun vs H Q E h => ?_) (fun cdv A outer s H vs Q E hr h => ?_)
    · obtain ⟨x, s, Hb, rfl, _⟩ := h
      rfl
    · obtain ⟨x, s, Hb, rfl, hb, hd, ok, wf, small, q⟩ := h
      refine ⟨_, (pss_cons (ps_if (pt_cmpR op_in_seq (pe_ix ix_tup (pv 0) pe_int (fun _ _ => rfl)) (pe_lst (pa_cons pe_str (pa_cons pe_str pa_nil))) (by with_unfolding_all rfl))
      (pss_one (ps_ret (pe_op op_add (pe_callB (cr_sum rfl) (by rfl) m_sum (by decide +kernel) (pa_cons (pe_lc (own := [("_law_part", 1)]) (g := gName 1) (tt := tYes) (te := tCall (spLSpW K 60) [] E0 (tCons (tVar 1) tNil)) rfl scLWords.nd (pi_tup (pe_slice sl_tup (pv 0) (po_some pe_int) po_none)) (blkOk_by (N := ["_law_sentence", "_law_part"]) (sc := defScope sLWords) (by decide +kernel)) (fun _ _ _ _ _ => (pg_name (i := 1) scLWords.nd rfl (.inl rfl))) (fun _ _ _ _ _ => pts_nil) (fun _ _ _ _ _ => (pe_call GG' hr (by rfl) gG kG bG .nil pass0 (pa_cons (pv 1) pa_nil)))) pa_nil)) pe_int))) pss_nil)
    (pss_cons (ps_if (pt_cmpR op_in_seq (pe_ix ix_tup (pv 0) pe_int (fun _ _ => rfl)) (pe_lst (pa_cons pe_str (pa_cons pe_str pa_nil))) (by with_unfolding_all rfl))
      (pss_one (ps_ret (pe_op op_add pe_int (pe_call IH hr (by rfl) gF F.kp bF .nil pass0 (pa_cons (pe_ix ix_tup (pv 0) pe_int (fun _ _ => rfl)) pa_nil))))) pss_nil)
    (pss_one (ps_ret (pe_op op_add pe_int (pe_callB (cr_sum rfl) (by rfl) m_sum (by decide +kernel) (pa_cons (pe_lc (own := [("_law_part", 1)]) (g := gName 1) (tt := tYes) (te := tCall (spLWords K n) [] E0 (tCons (tVar 1) tNil)) rfl scLWords.nd (pi_tup (pe_slice sl_tup (pv 0) (po_some pe_int) po_none)) (blkOk_by (N := ["_law_sentence", "_law_part"]) (sc := defScope sLWords) (by decide +kernel)) (fun _ _ _ _ _ => (pg_name (i := 1) scLWords.nd rfl (.inl rfl))) (fun _ _ _ _ _ => pts_nil) (fun _ _ _ _ _ => (pe_call IH hr (by rfl) gF F.kp bF .nil pass0 (pa_cons (pv 1) pa_nil)))) pa_nil))))))), ?_⟩
      have step1 : ∀ {a : Addr} {wd : Str} {vs : List V} {G : Hp}, Same H G → SqT K Hb a (.str wd :: vs) → SqT K G a (.str wd :: vs) := fun sm sq => (TK.same sm).sq ((TK.same hb).sq sq)
      rcases sn_shape hd ok wf small with ⟨al, z, s', a, v2, rfl, rfl, sq, d2, ok', wf', sz⟩ | ⟨wd, a, vs, isA, as, ss, rfl, sq, no, isIn, l1, l2, tot, each⟩
      · refine ⟨.ref a, rfl, a, _, 0, _, rfl, rfl, step1 (fun b o e => e) sq, atI_nat (j := 0) rfl, (by show 2 ≤ sizeLine; rw [sizeLine_eq]; decide), fun l nl => ⟨l, _, rfl, .inl (.inl (.inl upd_same)), rfl, rfl, _, rfl, go_out (qu_out al z s') ?_⟩⟩
        have s0 : Same H (upd H l (.lst [.str "is", .str "equal"])) := same_new (fun b o e => e) nl _
        generalize upd H l (.lst [.str "is", .str "equal"]) = G0 at s0
        refine ⟨.ref a, rfl, a, _, 0, _, rfl, rfl, step1 s0 sq, atI_nat (j := 0) rfl, (by show 2 ≤ sizeLine; rw [sizeLine_eq]; decide), fun l nl => ⟨l, _, rfl, .inl (.inl (.inl upd_same)), rfl, rfl, _, rfl, go_in (qu_in al z s') ?_⟩⟩
        have s1 : Same H (upd G0 l (.lst [.str "all", .str "some"])) := same_new s0 nl _
        generalize upd G0 l (.lst [.str "all", .str "some"]) = G1 at s1
        exact ⟨.ref a, rfl, a, _, 2, _, rfl, rfl, step1 s1 sq, atI_nat (j := 2) rfl, _, s', Hb, rfl, hb.trans s1, d2, ok', wf', sz, fun G2 s2 => ⟨_, _, rfl, rfl, (by
          have e : (2 : Int) + ((s'.words : Nat) : Int) = (((Sn.qu al z s').words : Nat) : Int) := by
            show _ = ((2 + s'.words : Nat) : Int)
            omega
          have := q G2 (s1.trans s2)
          rw [← e] at this
          exact this)⟩⟩
      · refine ⟨.ref a, rfl, a, _, 0, _, rfl, rfl, step1 (fun b o e => e) sq, atI_nat (j := 0) rfl, (by show 2 ≤ sizeLine; rw [sizeLine_eq]; decide), fun l nl => ⟨l, _, rfl, .inl (.inl (.inl upd_same)), rfl, rfl, _, rfl, ?_⟩⟩
        have s0 : Same H (upd H l (.lst [.str "is", .str "equal"])) := same_new (fun b o e => e) nl _
        generalize upd H l (.lst [.str "is", .str "equal"]) = G0 at s0
        cases isA with
        | true =>
          refine go_in isIn ?_
          refine ⟨.ref a, rfl, 1, rfl, a, _, rfl, step1 s0 sq, cut_args.1, fun p3 n3 => ?_⟩
          rw [cut_args.2]
          have s3 : Same H (upd G0 p3 (.tup vs)) := same_new s0 n3 _
          have e3 : (upd G0 p3 (.tup vs)) p3 = some (.tup vs) := upd_same
          generalize upd G0 p3 (.tup vs) = G1 at s3 e3
          refine ⟨p3, rfl, ⟨vs, .inl (.inl e3)⟩, fun D nD => lc_tup (K := K) (a := p3) (xs := vs) (fun i G => Same G1 G ∧ G D = some (.lst (((as.take i).map fun d => ((spw d : Nat) : Int)).map V.int))) ⟨same_new (fun b o e => e) nD _, upd_same⟩ (fun i G _ ⟨sm, _⟩ => (TK.same sm).sq (.inl (.inl e3))) ?_ ?_⟩
          · rintro i y G hy ⟨sm, gD⟩
            obtain ⟨u, hu, tu, wfu, pl⟩ := (show ∃ u, as[i]? = some u ∧ Dp K Hb y u ∧ wfT u = true ∧ (partsD u).length ≤ 60 from each i y hy)
            have il := (List.getElem?_eq_some_iff.mp hy).1
            refine ⟨rfl, y, rfl, y, u, Hb, rfl, fun b o e => sm _ _ (s3 _ _ (hb _ _ e)), tu, wfu, pl, by decide, fun G2 s2 => ⟨_, s2 _ _ gD, by rw [List.length_map, List.length_map, List.length_take, sizeLine_eq]; omega, same_on (sm.trans s2) nD _, ?_⟩⟩
            rw [upd_same, take_next hu, List.map_append, List.map_append]
            rfl
          · rintro G ⟨sm, gD⟩
            obtain ⟨t1, t2, _⟩ := (show as.length = vs.length ∧ s.words = spwL as + 1 ∧ s.sames = 0 from tot)
            rw [← t1, List.take_length] at gD
            refine ⟨D, _, rfl, .inl (.inl gD), _, _, rfl, rfl, ?_⟩
            rw [sum_spw]
            have := q G (s3.trans sm)
            rw [t2] at this
            exact this
        | false =>
          refine go_out isIn ?_
          refine ⟨.ref a, rfl, a, _, 0, _, rfl, rfl, step1 s0 sq, atI_nat (j := 0) rfl, (by show 2 ≤ sizeLine; rw [sizeLine_eq]; decide), fun l nl => ⟨l, _, rfl, .inl (.inl (.inl upd_same)), rfl, rfl, _, rfl, go_out no ?_⟩⟩
          have s1 : Same H (upd G0 l (.lst [.str "all", .str "some"])) := same_new s0 nl _
          generalize upd G0 l (.lst [.str "all", .str "some"]) = G0' at s1
          refine ⟨.ref a, rfl, 1, rfl, a, _, rfl, step1 s1 sq, cut_args.1, fun p3 n3 => ?_⟩
          rw [cut_args.2]
          have s3 : Same H (upd G0' p3 (.tup vs)) := same_new s1 n3 _
          have e3 : (upd G0' p3 (.tup vs)) p3 = some (.tup vs) := upd_same
          generalize upd G0' p3 (.tup vs) = G1 at s3 e3
          refine ⟨p3, rfl, ⟨vs, .inl (.inl e3)⟩, fun D nD => lc_tup (K := K) (a := p3) (xs := vs) (fun i G => Same G1 G ∧ G D = some (.lst (((ss.take i).map fun s => ((s.words : Nat) : Int)).map V.int))) ⟨same_new (fun b o e => e) nD _, upd_same⟩ (fun i G _ ⟨sm, _⟩ => (TK.same sm).sq (.inl (.inl e3))) ?_ ?_⟩
          · rintro i y G hy ⟨sm, gD⟩
            obtain ⟨s', hu, tu, ok', wf', sz⟩ := (show ∃ s', ss[i]? = some s' ∧ Dp K Hb y (Sn.d s') ∧ s'.ok = true ∧ s'.wf = true ∧ s'.hi ≤ n from each i y hy)
            have il := (List.getElem?_eq_some_iff.mp hy).1
            refine ⟨rfl, y, rfl, y, s', Hb, rfl, fun b o e => sm _ _ (s3 _ _ (hb _ _ e)), tu, ok', wf', sz, fun G2 s2 => ⟨_, s2 _ _ gD, by rw [List.length_map, List.length_map, List.length_take, sizeLine_eq]; omega, same_on (sm.trans s2) nD _, ?_⟩⟩
            rw [upd_same, take_next hu, List.map_append, List.map_append]
            rfl
          · rintro G ⟨sm, gD⟩
            obtain ⟨t1, t2, _⟩ := (show ss.length = vs.length ∧ s.words = 1 + (ss.map Sn.words).sum ∧ _ from tot)
            rw [← t1, List.take_length] at gD
            refine ⟨D, _, rfl, .inl (.inl gD), _, _, rfl, rfl, ?_⟩
            rw [sum_words]
            have := q G (s3.trans sm)
            rw [t2] at this
            exact this
end
end Ad

/-! The law's own sentence with not just ahead of atoms, or its not. -/
namespace Ad
open PySem PySem.Spec PySem.Calls PyProof.Rows L2
abbrev sLInw : Stmt := topS 38
theorem scLInw : FnScope ["_law_sentence", "_law_sign", "_law_kind", "_law_turned", "_law_word", "_law_part"] ["_law_sentence", "_law_sign"] (defScope sLInw) := ⟨rfl, rfl, rfl, by decide +kernel, rfl, by decide +kernel, by decide +kernel⟩
def turnL : List (L2.Key × V) := [(.inr "all", .str "some"), (.inr "some", .str "all"), (.inr "and", .str "or"), (.inr "or", .str "and")]
/-- the word turned -/
def turn (w : Str) : Str := if w = "all" then "some" else if w = "some" then "all" else if w = "and" then "or" else "and"
theorem turn_val {w : Str} (h : w ∈ (["all", "some", "and", "or"] : List Str)) : valV (mergeK [] turnL) (.inr w) = some (.str (turn w)) := by
  rcases List.mem_cons.mp h with rfl | h
  · rfl
  rcases List.mem_cons.mp h with rfl | h
  · rfl
  rcases List.mem_cons.mp h with rfl | h
  · rfl
  cases List.mem_singleton.mp h
  rfl
section
variable {P : Program} {w : World} {K : PySem.W.Frag} {mg : Str → Option Value} {base : Heap}
def spLInw (K : PySem.W.Frag) (n : Nat) : Sp := fun vs H Q _ => ∃ (x : V) (b : Bool) (s : Sn) (Hb : Hp), vs = [x, .bl b] ∧ Same Hb H ∧ Dp K Hb x s.d ∧ s.isPl = true ∧ s.wf = true ∧ s.hi ≤ n ∧ ∀ H' v, Same H H' → Dp K H' v (s.inw b).d → Q v H'
theorem ok_linw {f : Addr} {fd : FuncData} {k : Nat} (F : Fun K "_law_inwards" "_law_inwards" sLInw f fd) (gF : mg "_law_inwards" = some (.ref f)) (bF : Binds K fd ["_law_sentence", "_law_sign"] []) (m_tuple : mg "tuple" = none) :
    ∀ n, FnOk P w K mg base CX0 (k + n) f fd ["_law_sentence", "_law_sign"] (spLInw K n)
  | 0 => vac fun vs H Q E ⟨x, b, s, Hb, _, _, _, _, _, z, _⟩ => absurd (Nat.le_trans s.hi_pos z) (by decide)
  | n + 1 => by
    have IH : FnOk P w K mg base CX0 (k + n) f fd ["_law_sentence", "_law_sign"] (spLInw K n) := ok_linw F gF bF m_tuple n
    have hLInwards : Has P w K mg base (k + n) "_law_inwards" ["_law_sentence", "_law_sign"] (spLInw K n) f fd := ⟨IH, gF, F.kp, bF⟩
    refine F.ok scLInw (fun vs H Q E h => ?_) (fun cdv A outer s H vs Q E hr h => ?_)
    · obtain ⟨x, b, s, Hb, rfl, _⟩ := h
      rfl
    · obtain ⟨x, b, s, Hb, rfl, hb, hd, pl, wf, small, q⟩ := h
      refine ⟨_, (pss_cons (ps_set (i := 2) scLInw.nd rfl (.inl rfl) (pe_ix ix_tup (pv 0) pe_int (fun _ _ => rfl)))
    (pss_cons (ps_if (pt_cmpR op_in_seq (pv 2) (pe_lst (pa_cons pe_str (pa_cons pe_str pa_nil))) (by with_unfolding_all rfl))
      (pss_one (ps_ret (pe_ifExp (pt_true (pv 1)) (pv 0) (pe_tup (pa_cons pe_str (pa_cons (pv 0) pa_nil)))))) pss_nil)
    (pss_cons (ps_if (pt_cmpR op_eq (pv 2) pe_str (nomark _))
      (pss_one (ps_ret (pe_call hLInwards.G hr (by rfl) hLInwards.g hLInwards.kp hLInwards.b .nil pass0 (pa_cons (pe_ix ix_tup (pv 0) pe_int (fun _ _ => rfl)) (pa_cons (pe_not (pv 1)) pa_nil))))) pss_nil)
    (pss_cons (ps_set (i := 3) scLInw.nd rfl (.inl rfl) (pe_disp (pps_cons pe_str pe_str (pps_cons pe_str pe_str (pps_cons pe_str pe_str (pps_cons pe_str pe_str pps_nil)))) rfl rfl (by simp) (by decide)))
    (C8.pss_cut (ps_set (i := 4) scLInw.nd rfl (.inl rfl) (pe_ifExp (pt_true (pv 1)) (pv 2) (pe_dget (hu1 hr) (pv 3) (pv 2) (fun _ _ => rfl))))
    (pss_cons (ps_if (pt_cmpR op_in_seq (pv 2) (pe_lst (pa_cons pe_str (pa_cons pe_str pa_nil))) (by with_unfolding_all rfl))
      (pss_one (ps_ret (pe_tup (pa_cons (pv 4) (pa_cons (pe_ix ix_tup (pv 0) pe_int (fun _ _ => rfl)) (pa_cons (pe_call hLInwards.G hr (by rfl) hLInwards.g hLInwards.kp hLInwards.b .nil pass0 (pa_cons (pe_ix ix_tup (pv 0) pe_int (fun _ _ => rfl)) (pa_cons (pv 1) pa_nil))) pa_nil)))))) pss_nil)
    (pss_one (ps_ret (pe_op op_catA (pe_tup (pa_cons (pv 4) pa_nil)) (pe_callTy call_tuple_of (by rfl) m_tuple (by decide +kernel) (pa_cons (pe_lc (own := [("_law_part", 5)]) (g := gName 5) (tt := tYes) (te := tCall (spLInw K n) [] E0 (tCons (tVar 5) (tCons (tVar 1) tNil))) rfl scLInw.nd (pi_tup (pe_slice sl_tup (pv 0) (po_some pe_int) po_none)) (blkOk_by (N := ["_law_sentence", "_law_sign", "_law_kind", "_law_turned", "_law_word", "_law_part"]) (sc := defScope sLInw) (by decide +kernel)) (fun _ _ _ _ _ => (pg_name (i := 5) scLInw.nd rfl (.inl rfl))) (fun _ _ _ _ _ => pts_nil) (fun _ _ _ _ _ => (pe_call hLInwards.G hr (by rfl) hLInwards.g hLInwards.kp hLInwards.b .nil pass0 (pa_cons (pv 5) (pa_cons (pv 1) pa_nil))))) pa_nil))))))))))), ?_⟩
      have ok := Sn.isPl_ok s pl
      rcases sn_three hd ok wf small with ⟨eq, as, a, vs, rfl, rfl, sq, all, _⟩ | ⟨al, z, s', a, v2, rfl, rfl, sq, h2, ok', wf', hi'⟩ | ⟨wd, ss, vs, a, rfl, sq, ps⟩
      · refine ⟨.ref a, rfl, a, _, 0, _, rfl, rfl, (TK.same hb).sq sq, atI_nat (j := 0) rfl, ?_⟩
        refine ⟨_, rfl, (by show 2 ≤ sizeLine; rw [sizeLine_eq]; decide), fun l nl => ⟨l, _, rfl, .inl (.inl (.inl upd_same)), rfl, rfl, _, rfl, go_in (atm_in eq as) ?_⟩⟩
        have s0 : Same H (upd H l (.lst [.str "is", .str "equal"])) := same_new (fun b o e => e) nl _
        generalize upd H l (.lst [.str "is", .str "equal"]) = G0 at s0
        refine ⟨.bl b, rfl, b, rfl, ?_⟩
        cases b with
        | true => exact iteT ⟨.ref a, rfl, q _ _ s0 (dp_same (hb.trans s0) hd)⟩
        | false =>
          refine iteF ⟨.ref a, rfl, (by show 2 ≤ sizeLine; rw [sizeLine_eq]; decide), fun t nt => ?_⟩
          have s2 : Same H (upd G0 t (.tup [.str "not", .ref a])) := same_new s0 nt _
          exact q _ _ s2 (.tup (.inl (.inl upd_same)) (.cons (.str _) (.cons (dp_same (hb.trans s2) hd) .nil)))
      · have sqH := (TK.same hb).sq sq
        obtain ⟨n1, n2, n3⟩ := word_qn al z s'
        refine ⟨.ref a, rfl, a, _, 0, _, rfl, rfl, sqH, atI_nat (j := 0) rfl, ?_⟩
        refine ⟨_, rfl, (by show 2 ≤ sizeLine; rw [sizeLine_eq]; decide), fun l nl => ⟨l, _, rfl, .inl (.inl (.inl upd_same)), rfl, rfl, _, rfl, go_out (qu_out al z s') ?_⟩⟩
        have s0 : Same H (upd H l (.lst [.str "is", .str "equal"])) := same_new (fun b o e => e) nl _
        generalize upd H l (.lst [.str "is", .str "equal"]) = G0 at s0
        refine sv_test (i := 2) rfl ?_
        rw [decide_eq_false n1]
        refine iteF fun d nd => ⟨upd_same, turnL, rfl, by decide, ?_⟩
        have s1 : Same H (upd (upd G0 d (.dK [])) d (.dK (mergeK [] turnL))) := same_on (same_new s0 nd _) (none_before s0 nd) _
        have ed : (upd (upd G0 d (.dK [])) d (.dK (mergeK [] turnL))) d = some (.dK (mergeK [] turnL)) := upd_same
        generalize upd (upd G0 d (.dK [])) d (.dK (mergeK [] turnL)) = G1 at s1 ed
        refine ⟨fun σ G => G = G1 ∧ σ = [some (.ref a), some (.bl b), some (.str (Sn.word (.qu al z s'))), some (.ref d), some (.str (Sn.word (.qu (al == b) z (s'.inw b)))), none], ?_, ?_⟩
        · refine ⟨.bl b, rfl, b, rfl, ?_⟩
          cases b with
          | true =>
            refine iteT ⟨_, rfl, rfl, ?_⟩
            rw [show Sn.word (.qu (al == true) z (s'.inw true)) = Sn.word (.qu al z s') from by cases al <;> rfl]
            rfl
          | false =>
            have mem : Sn.word (.qu al z s') ∈ (["all", "some", "and", "or"] : List Str) := by
              rcases Sn.word_quu al z s' with e | e <;> (rw [e]; decide +kernel)
            have g := DGet.k (k := Sum.inr (Sn.word (.qu al z s'))) ed
            rw [turn_val mem] at g
            refine iteF ⟨.ref d, rfl, _, rfl, d, _, rfl, g, rfl, ?_⟩
            rw [show Sn.word (.qu (al == false) z (s'.inw false)) = turn (Sn.word (.qu al z s')) from by cases al <;> rfl]
            rfl
        rintro σ G ⟨rfl, rfl⟩
        have sqG := (TK.same s1).sq sqH
        refine ⟨_, rfl, (by show 2 ≤ sizeLine; rw [sizeLine_eq]; decide), fun l nl => ⟨l, _, rfl, .inl (.inl (.inl upd_same)), rfl, rfl, _, rfl, go_in (qu_in al z s') ?_⟩⟩
        have s3 : Same H (upd G l (.lst [.str "all", .str "some"])) := same_new s1 nl _
        generalize upd G l (.lst [.str "all", .str "some"]) = G3 at s3
        have sq3 := (TK.same s3).sq sqH
        refine ⟨_, rfl, .ref a, rfl, a, _, 1, _, rfl, rfl, sq3, atI_nat (j := 1) rfl, .ref a, rfl, a, _, 2, v2, rfl, rfl, sq3, atI_nat (j := 2) rfl, .bl b, rfl, v2, b, s', Hb, rfl, hb.trans s3, h2, pl, wf', hi', fun H1 v1 s4 d1 => ⟨(by show 3 ≤ sizeLine; rw [sizeLine_eq]; decide), fun t nt => ?_⟩⟩
        have s5 : Same H1 (upd H1 t (.tup [.str (Sn.word (.qu (al == b) z (s'.inw b))), .str z, v1])) := same_new (fun b o e => e) nt _
        exact q _ _ (s3.trans (s4.trans s5)) (.tup (.inl (.inl upd_same)) (.cons (.str _) (.cons (.str _) (.cons (dp_same s5 d1) .nil))))
      · have sqH := (TK.same hb).sq sq
        refine ⟨.ref a, rfl, a, _, 0, _, rfl, rfl, sqH, atI_nat (j := 0) rfl, ?_⟩
        refine ⟨_, rfl, (by show 2 ≤ sizeLine; rw [sizeLine_eq]; decide), fun l nl => ⟨l, _, rfl, .inl (.inl (.inl upd_same)), rfl, rfl, _, rfl, go_out (out_two ps.n1 ps.n2) ?_⟩⟩
        have s0 : Same H (upd H l (.lst [.str "is", .str "equal"])) := same_new (fun b o e => e) nl _
        generalize upd H l (.lst [.str "is", .str "equal"]) = G0 at s0
        refine sv_test (i := 2) rfl ?_
        have n3 := ps.n3
        have n4 := ps.n4
        rcases ps.kind with ⟨s', rfl, rfl, rfl⟩ | ⟨sA, sB, rfl, rfl, w4⟩
        · obtain ⟨v1, r, rfl, d1, hr1⟩ := ps.data
          cases (show r = [] from hr1)
          obtain ⟨_, wf', hi'⟩ := ps.each s' List.mem_cons_self
          rw [decide_eq_true rfl]
          exact iteT ⟨.ref a, rfl, a, _, 1, v1, rfl, rfl, (TK.same s0).sq sqH, atI_nat (j := 1) rfl, .bl b, rfl, b, rfl, v1, !b, s', Hb, rfl, hb.trans s0, d1, pl, wf', hi', fun H' v s5 d5 => q H' v (s0.trans s5) d5⟩
        · obtain ⟨v1, _, rfl, d1, v2, r, rfl, d2, hr2⟩ := ps.data
          cases (show r = [] from hr2)
          obtain ⟨wao, plA, plB⟩ := Sn.isPlw pl
          obtain ⟨_, wfA, hiA⟩ := ps.each sA List.mem_cons_self
          obtain ⟨_, wfB, hiB⟩ := ps.each sB (List.mem_cons_of_mem _ (List.mem_singleton_self _))
          rw [decide_eq_false (Sn.not_ao wao)]
          refine iteF fun d nd => ⟨upd_same, turnL, rfl, by decide, ?_⟩
          have s1 : Same H (upd (upd G0 d (.dK [])) d (.dK (mergeK [] turnL))) := same_on (same_new s0 nd _) (none_before s0 nd) _
          have ed : (upd (upd G0 d (.dK [])) d (.dK (mergeK [] turnL))) d = some (.dK (mergeK [] turnL)) := upd_same
          generalize upd (upd G0 d (.dK [])) d (.dK (mergeK [] turnL)) = G1 at s1 ed
          refine ⟨fun σ G => G = G1 ∧ σ = [some (.ref a), some (.bl b), some (.str wd), some (.ref d), some (.str (Sn.tu b wd)), none], ?_, ?_⟩
          · refine ⟨.bl b, rfl, b, rfl, ?_⟩
            cases b with
            | true => exact iteT ⟨_, rfl, rfl, rfl⟩
            | false =>
              have mem : wd ∈ (["all", "some", "and", "or"] : List Str) := by
                rcases wao with e | e <;> (rw [e]; decide +kernel)
              have g := DGet.k (k := Sum.inr wd) ed
              rw [turn_val mem] at g
              refine iteF ⟨.ref d, rfl, _, rfl, d, _, rfl, g, rfl, ?_⟩
              rw [show Sn.tu false wd = turn wd from by rcases wao with e | e <;> (rw [e]; rfl)]
              rfl
          rintro σ G ⟨rfl, rfl⟩
          refine ⟨_, rfl, (by show 2 ≤ sizeLine; rw [sizeLine_eq]; decide), fun l nl => ⟨l, _, rfl, .inl (.inl (.inl upd_same)), rfl, rfl, _, rfl, go_out (out_two n3 n4) ?_⟩⟩
          have s3 : Same H (upd G l (.lst [.str "all", .str "some"])) := same_new s1 nl _
          generalize upd G l (.lst [.str "all", .str "some"]) = G3 at s3
          refine ⟨_, rfl, (by show 1 ≤ sizeLine; decide), fun p0 np0 => ?_⟩
          have s4 : Same H (upd G3 p0 (.tup [.str (Sn.tu b wd)])) := same_new s3 np0 _
          have m0 : SqT K (upd G3 p0 (.tup [.str (Sn.tu b wd)])) p0 [.str (Sn.tu b wd)] := .inl (.inl upd_same)
          generalize upd G3 p0 (.tup [.str (Sn.tu b wd)]) = G4 at s4 m0
          refine ⟨.ref a, rfl, 1, rfl, a, _, rfl, (TK.same s4).sq sqH, cut_args.1, fun p3 n3 => ?_⟩
          rw [cut_args.2]
          have s5 : Same H (upd G4 p3 (.tup [v1, v2])) := same_new s4 n3 _
          have m03 : SqT K (upd G4 p3 (.tup [v1, v2])) p0 [.str (Sn.tu b wd)] := (TK.same (same_new (fun b o e => e) n3 _)).sq m0
          have e3 : (upd G4 p3 (.tup [v1, v2])) p3 = some (.tup [v1, v2]) := upd_same
          generalize upd G4 p3 (.tup [v1, v2]) = G5 at s5 e3 m03
          refine ⟨p3, rfl, ⟨_, .inl (.inl e3)⟩, fun D nD => lc_tup (K := K) (a := p3) (xs := [v1, v2]) (fun i G => ∃ acc, Same G5 G ∧ G D = some (.lst acc) ∧ DpAll K G acc ((([sA, sB].take i).map (Sn.inw b)).map Sn.d)) ⟨[], same_new (fun b o e => e) nD _, upd_same, .nil⟩ (fun i G _ ⟨_, sm, _⟩ => (TK.same sm).sq (.inl (.inl e3))) ?_ ?_⟩
          · rintro i y G hy ⟨acc, sm, gD, ha⟩
            obtain ⟨u, hu, du, plu, wfu, hiu⟩ : ∃ u, [sA, sB][i]? = some u ∧ Dp K Hb y u.d ∧ u.isPl = true ∧ u.wf = true ∧ u.hi ≤ n := by
              match i, hy with
              | 0, hy =>
                cases hy
                exact ⟨sA, rfl, d1, plA, wfA, hiA⟩
              | 1, hy =>
                cases hy
                exact ⟨sB, rfl, d2, plB, wfB, hiB⟩
            have il := (List.getElem?_eq_some_iff.mp hu).1
            have la := dpAll_len ha
            rw [List.length_map, List.length_map, List.length_take] at la
            have l2 : [sA, sB].length = 2 := rfl
            refine ⟨rfl, y, rfl, .bl b, rfl, y, b, u, Hb, rfl, hb.trans (s5.trans sm), du, plu, wfu, hiu, fun G2 v s6 d6 => ⟨acc, s6 _ _ gD, by rw [sizeLine_eq]; omega, acc ++ [v], same_on (sm.trans s6) nD _, upd_same, ?_⟩⟩
            rw [take_next hu, List.map_append, List.map_append]
            have kk : TK G2 (upd G2 D (.lst (acc ++ [v]))) := TK.lst (s6 _ _ gD) _
            have wfs : ∀ u ∈ ([sA, sB].take i).map (Sn.inw b), u.wf = true := fun u hu => by
              obtain ⟨u', hu', rfl⟩ := List.mem_map.mp hu
              rcases List.mem_cons.mp (List.mem_of_mem_take hu') with e | e
              · rw [e]
                exact Sn.inw_wf _ _ wfA
              · rw [List.mem_singleton.mp e]
                exact Sn.inw_wf _ _ wfB
            exact dpAll_app (sns_tk ((TK.same s6).trans kk) _ _ wfs ha) (.cons (sn_tk kk _ _ (Sn.inw_wf _ _ wfu) d6) .nil)
          · rintro G6 ⟨acc, sm, gD, ha⟩
            have ha2 : DpAll K G6 acc [(sA.inw b).d, (sB.inw b).d] := ha
            have la := dpAll_len ha2
            refine ⟨D, acc, rfl, .inl ⟨.inl (.inl gD), fun p6 n6 => ?_⟩⟩
            have s8 : Same G6 (upd G6 p6 (.tup acc)) := same_new (fun b o e => e) n6 _
            refine rCatA_of ((TK.same (sm.trans s8)).sq m03) (.inl (.inl upd_same)) (by rw [sizeLine_eq, la]; show 1 + 2 ≤ _; omega) fun r G8 s9 sq9 => ?_
            exact q _ (.ref r) (s5.trans (sm.trans (s8.trans s9))) (.tup sq9 (.cons (.str _) (dpAll_same (s8.trans s9) ha2)))
end
end Ad

/-! A term with great names exchanged by a dict. -/
namespace Ad
open PySem PySem.Spec PySem.Calls PyProof.Rows L2
abbrev sFillD : Stmt := topS 1
theorem scFillD : FnScope ["term", "table", "part"] ["term", "table"] (defScope sFillD) := ⟨rfl, rfl, rfl, by decide +kernel, rfl, by decide +kernel, by decide +kernel⟩
/-- a dict of great names for great names -/
def TabS (H : Hp) (td : Addr) (τ : Ren) (m : Nat) : Prop := ∃ kvs, H td = some (.dK kvs) ∧ (∀ y, valV kvs (.inr y) = some (.str (τ y)) ∨ (valV kvs (.inr y) = none ∧ τ y = y)) ∧ kvs.length ≤ m
theorem TabS.same {H H' : Hp} (s : Same H H') {td : Addr} {τ : Ren} {m : Nat} (h : TabS H td τ m) : TabS H' td τ m := by
  obtain ⟨kvs, e, q⟩ := h
  exact ⟨kvs, s _ _ e, q⟩
theorem tabs_put {kvs : List (L2.Key × V)} {τ : Ren} (h : ∀ y, valV kvs (.inr y) = some (.str (τ y)) ∨ (valV kvs (.inr y) = none ∧ τ y = y)) (x z : Str) : ∀ y, valV (putK kvs (.inr x) (.str z)) (.inr y) = some (.str ((τ.set x z) y)) ∨ (valV (putK kvs (.inr x) (.str z)) (.inr y) = none ∧ (τ.set x z) y = y) := fun y => by
  rw [valV_put]
  by_cases e : y = x
  · subst e
    rw [if_pos rfl]
    refine .inl ?_
    show _ = some (V.str (if y = y then z else τ y))
    rw [if_pos rfl]
  · rw [if_neg (fun w => e (Sum.inr.inj w))]
    have e2 : (τ.set x z) y = τ y := if_neg e
    rw [e2]
    exact h y
section
variable {P : Program} {w : World} {K : PySem.W.Frag} {mg : Str → Option Value} {base : Heap}
def spFillD (K : PySem.W.Frag) (n : Nat) : Sp := fun vs H Q _ => ∃ (x : V) (td : Addr) (d : PyData) (τ : Ren) (m : Nat) (Hb : Hp), vs = [x, .ref td] ∧ Same Hb H ∧ Dp K Hb x d ∧ wfT d = true ∧ (partsD d).length ≤ n ∧ n ≤ 60 ∧ TabS H td τ m ∧ ∀ H' v, Same H H' → Dp K H' v (swD τ d) → Q v H'
/-- the parts of a term, exchanged one by one: what the walk keeps -/
theorem swL_take {τ : Ren} {ds : List PyData} {i : Nat} {u : PyData} (h : ds[i]? = some u) : swL τ (ds.take (i + 1)) = swL τ (ds.take i) ++ [swD τ u] := by
  rw [swL_map, swL_map, take_next h, List.map_append]
  rfl
theorem wfTL_take {ds : List PyData} (h : wfTL ds = true) (i : Nat) : wfTL (ds.take i) = true := by
  have key : ∀ (l : List PyData) (i : Nat), wfTL l = true → wfTL (l.take i) = true := by
    intro l
    induction l with
    | nil => intro i _; rw [List.take_nil]; rfl
    | cons d l ih =>
      intro i h
      obtain ⟨h1, h2⟩ := Bool.and_eq_true_iff.mp h
      cases i with
      | zero => rfl
      | succ i => exact Bool.and_eq_true_iff.mpr ⟨h1, ih i h2⟩
  exact key ds i h
theorem ok_filld {f : Addr} {fd : FuncData} {k : Nat} (F : Fun K "filled" "filled" sFillD f fd) (gF : mg "filled" = some (.ref f)) (bF : Binds K fd ["term", "table"] []) (m_isinstance : mg "isinstance" = none) (m_tuple : mg "tuple" = none) :
    ∀ n, FnOk P w K mg base CX0 (k + n) f fd ["term", "table"] (spFillD K n)
  | 0 => vac fun vs H Q E ⟨x, td, d, τ, m, Hb, _, _, _, _, z, _⟩ => absurd (Nat.le_trans (partsD_pos d) z) (by decide)
  | n + 1 => by
    have IH : FnOk P w K mg base CX0 (k + n) f fd ["term", "table"] (spFillD K n) := ok_filld F gF bF m_isinstance m_tuple n
    refine F.ok scFillD (fun vs H Q E h => ?_) (fun cdv A outer s H vs Q E hr h => ?_)
    · obtain ⟨x, td, d, τ, m, Hb, rfl, _⟩ := h
      rfl
    · obtain ⟨x, td, d, τ, m, Hb, rfl, hb, hd, wf, small, n60, tb, q⟩ := h
      refine ⟨_, (pss_cons (ps_if (pt_not (pt_val (pe_callB call_isi (by rfl) m_isinstance (by decide +kernel) (pa_cons (pv 0) (pa_cons (pe_bltn (v := .ty "tuple") (by rfl) m_tuple (by decide +kernel) rfl) pa_nil)))))
      (pss_one (ps_ret (pe_dget2 (hu1 hr) (pv 1) (pv 0) (pv 0) ⟨rfl, rfl, rfl, rfl⟩))) pss_nil)
    (pss_one (ps_ret (pe_op op_catA (pe_slice sl_tupA (pv 0) po_none (po_some pe_int)) (pe_callTy call_tuple_of (by rfl) m_tuple (by decide +kernel) (pa_cons (pe_lc (own := [("part", 2)]) (g := gName 2) (tt := tYes) (te := tCall (spFillD K n) [] E0 (tCons (tVar 2) (tCons (tVar 1) tNil))) rfl scFillD.nd (pi_tup (pe_slice sl_tup (pv 0) (po_some pe_int) po_none)) (blkOk_by (N := ["term", "table", "part"]) (sc := defScope sFillD) (by decide +kernel)) (fun _ _ _ _ _ => (pg_name (i := 2) scFillD.nd rfl (.inl rfl))) (fun _ _ _ _ _ => pts_nil) (fun _ _ _ _ _ => (pe_call IH hr (by rfl) gF F.kp bF .nil pass0 (pa_cons (pv 2) (pa_cons (pv 1) pa_nil))))) pa_nil)))))), ?_⟩
      have hdH := dp_same hb hd
      refine ⟨x, rfl, _, .ty "tuple", tyD d, .type "tuple", _, rfl, .ty "tuple", dp_ty hdH, kit_tu d, _, rfl, ?_⟩
      rcases wf_cases wf with ⟨y, rfl⟩ | ⟨z, ds, rfl, wfd⟩
      · cases hd
        refine iteT ?_
        obtain ⟨kvs, ek, val, few⟩ := tb
        refine ⟨.ref td, rfl, td, rfl, .inl ⟨kvs, .inl ek⟩, .str y, rfl, .str y, rfl, _, DGet.k (k := Sum.inr y) ek, ?_⟩
        rcases val y with a | ⟨a, b⟩
        · rw [a]
          exact q H _ (fun b o e => e) (.str _)
        · rw [a]
          refine q H _ (fun b o e => e) ?_
          show Dp K H (.str y) (.str (τ y))
          rw [b]
          exact .str _
      · refine iteF ?_
        have lp : (partsD (.tuple (.str z :: ds))).length = 1 + (partsDL ds).length := by
          show (PyData.tuple (.str z :: ds) :: partsDL ds).length = _
          rw [List.length_cons]
          omega
        have hl := partsDL_len ds
        cases hd with
        | @tup a zs _ sq0 all0 =>
        cases all0 with
        | @cons v0 vs _ _ hv0 all =>
        cases hv0
        refine ⟨.ref a, rfl, 1, rfl, rSlA_of ((TK.same hb).sq sq0) fun p0 H0 sm0 m0 => ?_⟩
        rw [cut_one] at m0
        refine ⟨.ref a, rfl, 1, rfl, a, _, rfl, (TK.same (hb.trans sm0)).sq sq0, cut_args.1, fun p3 n3 => ?_⟩
        rw [cut_args.2]
        have s3 : Same H (upd H0 p3 (.tup vs)) := same_new sm0 n3 _
        have m03 : SqT K (upd H0 p3 (.tup vs)) p0 [.str z] := (TK.same (same_new (fun b o e => e) n3 _)).sq m0
        have e3 : (upd H0 p3 (.tup vs)) p3 = some (.tup vs) := upd_same
        have la := dpAll_len all
        generalize upd H0 p3 (.tup vs) = G1 at s3 e3 m03
        refine ⟨p3, rfl, ⟨vs, .inl (.inl e3)⟩, fun D nD => lc_tup (K := K) (a := p3) (xs := vs) (fun i G => ∃ acc, Same G1 G ∧ G D = some (.lst acc) ∧ DpAll K G acc (swL τ (ds.take i))) ⟨[], same_new (fun b o e => e) nD _, upd_same, .nil⟩ (fun i G _ ⟨_, sm, _⟩ => (TK.same sm).sq (.inl (.inl e3))) ?_ ?_⟩
        · rintro i y G hy ⟨acc, sm, gD, ha⟩
          obtain ⟨u, hu, tu⟩ := dpAll_get all hy
          obtain ⟨wfu, pl⟩ := wfTL_mem wfd hu
          have il := (List.getElem?_eq_some_iff.mp hu).1
          have la2 := dpAll_len ha
          rw [swL_len, List.length_take] at la2
          refine ⟨rfl, y, rfl, .ref td, rfl, y, td, u, τ, m, Hb, rfl, hb.trans (s3.trans sm), tu, wfu, by omega, by omega, tb.same (s3.trans sm), fun G2 v s2 d2 => ⟨acc, s2 _ _ gD, by rw [sizeLine_eq]; omega, acc ++ [v], same_on (sm.trans s2) nD _, upd_same, ?_⟩⟩
          rw [swL_take hu]
          have kk : TK G2 (upd G2 D (.lst (acc ++ [v]))) := TK.lst (s2 _ _ gD) _
          exact dpAll_app (wf_tkL ((TK.same s2).trans kk) _ _ (sw_wfL τ _ (wfTL_take wfd i)) ha) (.cons (wf_tk kk _ _ (sw_wf τ _ wfu) d2) .nil)
        · rintro G ⟨acc, sm, gD, ha⟩
          rw [la, List.take_length] at ha
          have la2 := dpAll_len ha
          rw [swL_len] at la2
          refine ⟨D, acc, rfl, .inl ⟨.inl (.inl gD), fun p6 n6 => ?_⟩⟩
          have s6 : Same G (upd G p6 (.tup acc)) := same_new (fun b o e => e) n6 _
          refine rCatA_of ((TK.same (sm.trans s6)).sq m03) (.inl (.inl upd_same)) (by rw [sizeLine_eq]; show 1 + acc.length ≤ _; omega) fun r G8 s9 sq9 => ?_
          exact q _ _ (s3.trans (sm.trans (s6.trans s9))) (.tup sq9 (.cons (.str _) (dpAll_same (s6.trans s9) ha)))
end
end Ad

/-! {**d, k: v}, d a dict of ints and texts. -/
namespace Ds
open PySem PySem.Spec PySem.Calls PyProof.Rows L2
section
variable {prog : Program} {w : World} {K : Type} [DecidableEq K] {knd : KeyKind prog w K} {A : Around} {E : Value → Shared → Prop} {s : Shared}
theorem wp_dictPut {d : Addr} {kvs : List (K × Value)} {k : K} {key v : Value} {Q : Unit → Shared → Prop} (hkey : knd.is k key = true) (hm : s.heap.DictOf knd d kvs)
    (hQ : ∀ h', h'.DictOf knd d (stored kvs k v) → Heap.SameBut d s.heap h' → Q () { s with heap := h' })
    (hsz : kvs.length ≤ sizeLine) :
    wpAny (model prog w) A (dictPut d (knd.hash k) key v) Q E s := by
  obtain ⟨o, es, ep, ho, hc, hd, hk, hp, hn⟩ := hm
  have hes : es.size ≤ sizeLine := by
    have e1 := hp.length
    have e2 : es.toList.length = es.size := by simp
    omega
  unfold dictPut
  refine wpAny_bind (wpAny_dictFind_of hkey ho hd hk ?_)
  have hidx : (es.findIdx? fun e => knd.is k e.key) = kvs.findIdx? fun kv => decide (kv.1 = k) := by
    rw [← hp.findIdx k]; obtain ⟨l⟩ := es; simp
  cases hi : es.findIdx? fun e => knd.is k e.key with
  | some i =>
    refine wpAny_updateDict ho hd (hQ _ ⟨_, _, ep, Heap.get?_update_self _ ho (Obj.isFreed_of_dict (Obj.data_mapDict hd _)),
      hc.mapDict _, Obj.data_mapDict hd _, hk.modify _ _, ?_, ?_⟩ (Heap.SameBut.update ..))
    · rw [stored, if_pos (any_of_findIdx_some (hidx ▸ hi))]
      have hl : (es.toList.findIdx? fun e => knd.is k e.key) = some i := by rw [← hi]; obtain ⟨l⟩ := es; simp
      have := hp.modify hn hl v
      obtain ⟨l⟩ := es
      simpa using this
    · rw [stored, if_pos (any_of_findIdx_some (hidx ▸ hi)), keys_map_store]; exact hn
  | none =>
    have hnot : k ∉ kvs.map (·.1) := not_mem_of_findIdx_none (hidx ▸ hi)
    have hany : ¬ (kvs.any fun kv => decide (kv.1 = k)) = true := by
      rw [List.any_eq_true]; rintro ⟨kv, hkv, he⟩
      exact hnot (List.mem_map.mpr ⟨kv, hkv, of_decide_eq_true he⟩)
    refine wpAny_updateDictKeys (hz := hes) ho hd (hQ _ ⟨_, _, ep + 1, Heap.get?_update_self _ ho (Obj.isFreed_of_dict (Obj.data_mapDictKeys hd _)),
      hc.mapDictKeys _, Obj.data_mapDictKeys hd _, hk.push hkey _, ?_, ?_⟩ (Heap.SameBut.update ..))
    · rw [stored, if_neg hany]
      have := hp.append hkey (knd.hash k) v
      obtain ⟨l⟩ := es
      simpa using this
    · rw [stored, if_neg hany, List.map_append, List.nodup_append]
      refine ⟨hn, by simp, ?_⟩
      intro a ha b hb
      simp only [List.map_cons, List.map_nil, List.mem_singleton] at hb
      subst hb
      exact fun e => hnot (e ▸ ha)
/-- no key is an object -/
def Scal (knd : KeyKind prog w K) : Prop := ∀ k u, knd.is k u = true → ∀ a, u ≠ .ref a
theorem wp_merge (sc : Scal knd) {d o : Addr} {kvs more : List (K × Value)} {Q : Unit → Shared → Prop} (hdo : d ≠ o) (hoS : (o == sysModules) = false)
    (hd : s.heap.DictOf knd d kvs) (ho : s.heap.DictOf knd o more)
    (hQ : ∀ h', h'.DictOf knd d (merged kvs more) → Heap.SameBut d s.heap h' → Q () { s with heap := h' })
    (hsz : kvs.length + more.length ≤ sizeLine) :
    wpAny (model prog w) A (mergeMapping d (.ref o) false) Q E s := by
  obtain ⟨od, esd, epd, hod, hcd, hdd, hkd, hpd, hnd⟩ := id hd
  obtain ⟨oo, eso, epo, hoo, hco, hdo', hko, hpo, hno⟩ := id ho
  unfold mergeMapping
  refine wpAny_bind (wpAny_isInstance ho.typeIs isSubtype_dict_dict ?_)
  rw [if_pos rfl]
  refine wpAny_bind (wpAny_specialOf ho.typeIs F.slot_dict_iter.lookup ?_)
  refine wpAny_bind (wpAny_pure ?_)
  simp only [beq_self_eq_true]
  rw [if_neg (by rw [hoS]; exact Bool.false_ne_true)]
  refine wpAny_bind (wpAny_dictEntries hod hdd ?_)
  have hlen : more.length = eso.size := by rw [← hpo.length]; simp
  have loop : wpAny (model prog w) A (do
      let l ← dictEntries o
      let epoch ← dictEpoch o
      forIn (List.range l.size) PUnit.unit fun i (_ : PUnit) => (do
          let l' ← dictEntries o
          match l'[i]? with
            | some e => do
              holding [e.key, e.val] (dictPut d e.hash e.key e.val)
              let ep' ← dictEpoch o
              if (ep' != epoch) = true then do
                  (unsupported "dict.changed-during-merge" : Sem PUnit)
                  pure (ForInStep.yield PUnit.unit)
                else pure (ForInStep.yield PUnit.unit)
            | _ => do
              (unsupported "dict.changed-during-merge" : Sem PUnit)
              pure (ForInStep.yield PUnit.unit) : Sem (ForInStep PUnit))
      pure ()) Q E s := by
    refine wpAny_bind (wpAny_dictEntries hoo hdo' ?_)
    refine wpAny_bind (wpAny_dictEpoch hoo hdo' ?_)
    refine wpAny_bind ?_
    rw [List.range_eq_range']
    refine wpAny_forIn_list _
      (fun rest _ s' => ∃ h' i, s' = { s with heap := h' } ∧ rest = List.range' i (eso.size - i) ∧ i ≤ eso.size ∧ h'.DictOf knd d (merged kvs (more.take i)) ∧ h'.get? o = some oo ∧ Heap.SameBut d s.heap h')
      _ ?_ ?_ _ _ ⟨s.heap, 0, rfl, by simp, Nat.zero_le _, by simpa [merged] using hd, hoo, Heap.SameBut.refl _ _⟩
    · rintro x rest b s' ⟨h', i, rfl, hr, hi, hd', hoo', hs'⟩
      have hlt : i < eso.size := by
        rcases Nat.lt_or_ge i eso.size with h | h
        · exact h
        · rw [Nat.sub_eq_zero_of_le h] at hr; simp at hr
      obtain ⟨rfl, hrest⟩ : x = i ∧ rest = List.range' (i + 1) (eso.size - (i + 1)) := by
        have e : eso.size - i = (eso.size - (i + 1)) + 1 := by omega
        rw [e, List.range'_succ] at hr
        injection hr with h1 h2
        exact ⟨h1, h2⟩
      refine wpAny_bind (wpAny_dictEntries hoo' hdo' ?_)
      rw [Array.getElem?_eq_getElem hlt]
      obtain ⟨kv, hkv⟩ : ∃ kv, more[x]? = some kv := ⟨more[x]'(by rw [hlen]; exact hlt), List.getElem?_eq_getElem _⟩
      obtain ⟨k, v⟩ := kv
      obtain ⟨hkey, hval⟩ := hpo.get? (e := eso[x]) (by simp [hlt]) hkv
      obtain ⟨k', hkey', hhash⟩ := hko eso[x] (Array.getElem_mem hlt)
      obtain rfl : k' = k := knd.inj _ _ _ hkey' hkey
      show wpAny _ _ (holding [eso[x].key, eso[x].val] (dictPut d eso[x].hash eso[x].key eso[x].val) >>= _) _ _ _
      rw [hhash, hval]
      have hmx : (merged kvs (more.take x)).length ≤ sizeLine := by
        have e1 := merged_length_le kvs (more.take x)
        have e2 : (more.take x).length ≤ more.length := by rw [List.length_take]; omega
        omega
      refine wpAny_bind (wpAny_holding (wp_dictPut (hsz := hmx) hkey hd' fun h'' hd'' hs'' => ?_))
      have hoo'' : h''.get? o = some oo := (hs''.2 o (Ne.symm hdo)).trans hoo'
      refine wpAny_bind (wpAny_dictEpoch hoo'' hdo' ?_)
      rw [if_neg (by simp)]
      exact wpAny_pure ⟨h'', x + 1, rfl, hrest, hlt, by rw [merged_take_succ kvs more x (k', v) hkv]; exact hd'', hoo'', hs'.trans hs''⟩
    · rintro b s' ⟨h', i, rfl, hr, hi, hd', hoo', hs'⟩
      have hin : i = eso.size := by
        rcases Nat.lt_or_ge i eso.size with h | h
        · have e : eso.size - i = (eso.size - (i + 1)) + 1 := by omega
          rw [e, List.range'_succ] at hr; exact nomatch hr
        · exact Nat.le_antisymm hi h
      refine wpAny_pure (hQ h' ?_ hs')
      rw [hin, ← hlen, List.take_length] at hd'; exact hd'
  by_cases emp : esd.isEmpty = true
  · rw [if_pos emp]
    refine wpAny_bind (wpAny_dictEntries hoo hdo' ?_)
    refine wpAny_bind ?_
    rw [← Array.forIn_toList]
    refine wpAny_forIn_list _ (fun rest _ s' => s' = s ∧ ∀ e ∈ rest, e ∈ eso) _ ?_ ?_ _ _ ⟨rfl, fun e he => Array.mem_toList_iff.mp he⟩
    · rintro e rest b s' ⟨rfl, hm⟩
      obtain ⟨k', hk', _⟩ := hko e (hm e List.mem_cons_self)
      cases hkey : e.key with
      | ref a => exact absurd hkey (sc k' _ hk' a)
      | _ => exact wpAny_pure ⟨rfl, fun e he => hm e (List.mem_cons_of_mem _ he)⟩
    · rintro b s' ⟨rfl, _⟩
      exact loop
  · rw [if_neg emp]
    exact loop
theorem star_display (a k v : Sem Value) : dictDisplay [(none, a), (some k, v)] = (do
    let d ← alloc { cls := .type "dict", data := .dict #[] }
    let m ← holding [.ref d] a
    (((holding [.ref d, m] (mergeMapping d m false)).onRaise fun x => do let _ ← holding [.ref d, m, x] (runValue (.builtin "proto.let_go" {}))).tryCatch fun e => do
        if ← isInstance e (.type "AttributeError") then
          rule "dict.display.not-a-mapping"; raiseError "TypeError" s!"'{← typeNameOf m}' object is not a mapping"
        throw e).onRaise fun x => do let _ ← holding [.ref d, x] (runValue (.builtin "proto.let_go" {}))
    let sub ← holding [.ref d] (subDict [(k, v)])
    (holding [.ref d, .ref sub] (mergeMapping d (.ref sub) false)).onRaise fun x => do let _ ← holding [.ref d, x] (runValue (.builtin "proto.let_go" {}))
    pure (.ref d)) := by
  unfold dictDisplay
  simp only [List.forIn_cons, List.forIn_nil, List.isEmpty_nil, if_true, pure_bind, bind_assoc, bind_pure, List.nil_append, List.length_cons, List.length_nil, Nat.zero_add, show ((1 : Nat) == 17) = false from rfl, Bool.false_eq_true, if_false, List.isEmpty_cons]
end
/-- {**e, k: v}: e's pairs, and one more -/
def tStar (K : PySem.W.Frag) (te : TE) (tk tv : TE) : TE := fun σ H Q => ∀ p, H p = none → te σ (upd H p (.dK [])) fun x H1 => ∃ (a : Addr) (kvs : List (L2.Key × V)), x = .ref a ∧ a ≠ p ∧ H1 a = some (.dK kvs) ∧ H1 p = some (.dK []) ∧ kvs.length + 1 ≤ sizeLine ∧
  ∀ s, (upd H1 p (.dK kvs)) s = none → tPairs [(tk, tv)] σ (upd (upd H1 p (.dK kvs)) s (.dK [])) fun ps H2 => ∃ (k : L2.Key) (z : V), ps = [(kV k, z)] ∧ H2 p = some (.dK kvs) ∧ H2 s = some (.dK []) ∧ Q (.ref p) (upd (upd H2 s (.dK [(k, z)])) p (.dK (putK kvs k z)))
theorem scal_mix {P : Program} {w : World} : Scal (mixKind P w) := fun k u h a e => by
  rcases keyIs_shape (k := k) (v := u) h with ⟨_, _, _, z⟩ | ⟨_, _, _, z⟩ <;> (rw [z] at e; cases e)
section
variable {X : Cx}
theorem pe_star {e k v : Expr} {te tk tv : TE} {pos : Pos} (he : PE X e te) (hp : PPs X pos [some k] [v] [(tk, tv)]) : PE X (.Dict [none, some k] [e, v] pos) (tStar X.K te tk tv) := by
  refine ⟨fun pins s σ H Q I q => ?_⟩
  have hn := I.hok.fresh (Nat.le_refl s.heap.objs.size)
  rw [arm_eval_Dict]
  refine wpAny_bind (wpAny_standAt ?_)
  show wpAny _ _ (dictDisplay [(none, do let x ← eval e X.env; standAt pos; pure x), (some (eval k X.env), do let x ← eval v X.env; standAt pos; pure x)]) _ _ _
  rw [star_display]
  refine wpAny_bind (wpAny_alloc ?_)
  have I1 := I.laid (a := s.heap.objs.size) (o := .dK []) (h' := s.heap.push { cls := .type "dict", data := .dict #[] }) (t' := s.toks) (fun _ _ q => Heap.get?_push_of_some _ q) (Nat.le_refl _) (dk_empty s.heap I.big)
  refine wpAny_bind (wpAny_holding (wpAny_bind (thn (he.run pins _ σ _ _ I1 (q _ hn)) fun u s1 ⟨x, H1, J1, rx, a, kvs, ex, nap, ea, ep, few, q1⟩ => wpAny_bind (wpAny_standAt (wpAny_pure ?_)))))
  subst ex
  obtain rfl : u = Value.ref a := rx
  obtain ⟨_, hdA, vsA, relA, ddA⟩ := dk_of J1.hok ea
  obtain ⟨_, hdP, vs0, r0, dd0⟩ := dk_of J1.hok ep
  cases r0
  have lenA := relA.length
  have ndA : (vsA.map (·.1)).Nodup := let ⟨_, _, _, _, _, _, _, _, hn⟩ := ddA; hn
  refine wpAny_bind (wpAny_onRaise (wpAny_tryCatch (wpAny_onRaise (wpAny_holding (wp_merge scal_mix (Ne.symm nap) hdA dd0 ddA (fun h' hd' hs => ?_) (by rw [List.length_nil]; omega))))))
  rw [merged_nil_of_nodup vsA ndA] at hd'
  have he1 : ∃ q, h'.get? s.heap.objs.size = some q := let ⟨q, _, _, hq, _⟩ := hd'; ⟨q, hq⟩
  have J2 := d_write (t' := s1.toks) J1 (by rw [ep]; exact True.intro) hs he1 (dk_new (kvs := kvs) (by omega) hdP relA hd')
  have hn2 := J2.hok.fresh (Nat.le_refl h'.objs.size)
  have J3 := J2.laid (a := h'.objs.size) (o := .dK []) (h' := h'.push { cls := .type "dict", data := .dict #[] }) (t' := s1.toks) (fun _ _ q => Heap.get?_push_of_some _ q) (Nat.le_refl _) (dk_empty h' J2.big)
  refine wpAny_bind (wpAny_holding (wpAny_subDict (knd := mixKind X.prog X.w) (show (1 : Nat) ≤ 15 by decide) (thn (hp.run pins _ σ _ _ J3 (q1 _ hn2)) fun ws s2 ⟨ps, H2, J4, rel2, k', z, eps, ep2, es2, q2⟩ => ?_)))
  subst eps
  obtain ⟨rs, c, rk⟩ := carries_of (P := X.prog) (w := X.w) (kvs := [(k', z)]) rel2
  obtain ⟨_, hdS, vs5, r5, ddS⟩ := dk_of J4.hok es2
  cases r5
  refine ⟨rs, c, ddS, fun h3 dd3 hs3 => ?_⟩
  have rk2 : KV [(k', z)] (merged [] rs) := rk.merge .nil
  have he3 : ∃ q, h3.get? h'.objs.size = some q := let ⟨q, _, _, hq, _⟩ := dd3; ⟨q, hq⟩
  have J5 := d_write (t' := s2.toks + ws.length) J4 (by rw [es2]; exact True.intro) hs3 he3 (dk_new (kvs := [(k', z)]) (show (1 : Nat) ≤ sizeLine by decide) hdS rk2 dd3)
  have nps : s.heap.objs.size ≠ h'.objs.size := fun z => by
    rw [← z] at hn2
    have e : (upd H1 s.heap.objs.size (.dK kvs)) s.heap.objs.size = some (.dK kvs) := upd_same
    rw [hn2] at e
    cases e
  have ep5 : (upd H2 h'.objs.size (.dK [(k', z)])) s.heap.objs.size = some (.dK kvs) := by
    rw [upd_ne nps]
    exact ep2
  have es5 : (upd H2 h'.objs.size (.dK [(k', z)])) h'.objs.size = some (.dK [(k', z)]) := upd_same
  obtain ⟨_, hdP5, vsP, relP, ddP⟩ := dk_of J5.hok ep5
  obtain ⟨_, hdS5, vsS, relS, ddS5⟩ := dk_of J5.hok es5
  have lenP := relP.length
  have lenS := relS.length
  refine wpAny_bind (wpAny_onRaise (wpAny_holding (wp_merge scal_mix nps hdS5 ddP ddS5 (fun h4 dd4 hs4 => ?_) (by rw [← lenP, ← lenS]; exact few))))
  have he4 : ∃ q, h4.get? s.heap.objs.size = some q := let ⟨q, _, _, hq, _⟩ := dd4; ⟨q, hq⟩
  have hz : (putK kvs k' z).length ≤ sizeLine := by
    have := length_putK kvs k' z
    omega
  have J6 := d_write (t' := s2.toks + ws.length) J5 (by rw [ep5]; exact True.intro) hs4 he4 (dk_new (kvs := putK kvs k' z) hz hdP5 (relS.merge relP) dd4)
  exact wpAny_pure ⟨.ref s.heap.objs.size, _, J6, rfl, q2⟩
end
end Ds

/-! The sentence with great names of its own. -/
namespace Ad
open PySem PySem.Spec PySem.Calls PyProof.Rows L2
abbrev sAp : Stmt := topS 16
theorem scAp : FnScope ["sentence", "table", "many", "word", "great", "inner", "told", "part", "term"] ["sentence", "table", "many"] (defScope sAp) := ⟨rfl, rfl, rfl, by decide +kernel, rfl, by decide +kernel, by decide +kernel⟩
abbrev sApart : Stmt := topS 15
theorem scApart : FnScope ["sentence"] ["sentence"] (defScope sApart) := ⟨rfl, rfl, rfl, by decide +kernel, rfl, by decide +kernel, by decide +kernel⟩
theorem num_text {n : Nat} (h : n ≤ 100000) : (Str.ofString (toString (n : Int))).length ≤ 10 ∧ (n : Int).natAbs.log2 < 1920 := by
  refine ⟨toString_length_le (by omega) (by decide) (by omega), ?_⟩
  show n.log2 < 1920
  by_cases e : n = 0
  · subst e
    decide
  · have : n.log2 < 17 := (Nat.log2_lt e).mpr (by omega)
    omega
/-- sentences, one behind the other, with great names of their own -/
def apL (τ : Ren) : Nat → List Sn → List Sn
  | _, [] => []
  | m, s :: ss => Sn.ap τ m s :: apL τ (m + s.qs) ss
def qsL (ss : List Sn) : Nat := (ss.map Sn.qs).sum
theorem apL_app (τ : Ren) : ∀ (ss us : List Sn) (m : Nat), apL τ m (ss ++ us) = apL τ m ss ++ apL τ (m + qsL ss) us
  | [], us, m => rfl
  | s :: ss, us, m => by
    show Sn.ap τ m s :: apL τ (m + s.qs) (ss ++ us) = Sn.ap τ m s :: (apL τ (m + s.qs) ss ++ apL τ (m + qsL (s :: ss)) us)
    rw [apL_app τ ss us, show m + s.qs + qsL ss = m + qsL (s :: ss) from by
      show _ = m + (s.qs + qsL ss)
      omega]
theorem apL_len (τ : Ren) : ∀ (ss : List Sn) (m : Nat), (apL τ m ss).length = ss.length
  | [], _ => rfl
  | s :: ss, m => congrArg Nat.succ (apL_len τ ss _)
theorem qsL_snoc (ss : List Sn) (s : Sn) : qsL (ss ++ [s]) = qsL ss + s.qs := by
  unfold qsL
  rw [List.map_append, List.sum_append]
  show _ + (s.qs + 0) = _
  omega
theorem parts_ap {K : PySem.W.Frag} {Hb : Hp} {s : Sn} {n : Nat} {wd : Str} {ss : List Sn} {vs : List V} (ps : PartsS K Hb s n wd ss vs) (τ : Ren) (m : Nat) :
    (Sn.ap τ m s).d = .tuple (.str wd :: (apL τ m ss).map Sn.d) ∧ s.qs = qsL ss ∧ ∀ u ∈ ss, u.size + 1 ≤ s.size := by
  rcases ps.kind with ⟨s', rfl, rfl, rfl⟩ | ⟨sA, sB, rfl, rfl, _⟩
  · refine ⟨rfl, rfl, fun u hu => ?_⟩
    rw [List.mem_singleton.mp hu]
    show s'.size + 1 ≤ 1 + s'.size
    omega
  · refine ⟨rfl, ?_, fun u hu => ?_⟩
    · show sA.qs + sB.qs = sA.qs + (sB.qs + 0)
      omega
    · rcases List.mem_cons.mp hu with rfl | hu
      · show u.size + 1 ≤ 1 + u.size + sB.size
        omega
      · rw [List.mem_singleton.mp hu]
        show sB.size + 1 ≤ 1 + sA.size + sB.size
        omega
section
variable {P : Program} {w : World} {K : PySem.W.Frag} {mg : Str → Option Value} {base : Heap}
def spAp (K : PySem.W.Frag) (n : Nat) : Sp := fun vs H Q _ => ∃ (x : V) (td : Addr) (s : Sn) (τ : Ren) (m many : Nat) (Hb : Hp), vs = [x, .ref td, .int (many : Int)] ∧ Same Hb H ∧ Dp K Hb x s.d ∧ s.ok = true ∧ s.wf = true ∧ s.hi ≤ n ∧ TabS H td τ m ∧ m + n ≤ 900 ∧ many + s.size ≤ 20000 ∧
  ∀ H' r v, Same H H' → SqT K H' r [v, .int ((many + s.qs : Nat) : Int)] → Dp K H' v (Sn.ap τ many s).d → Q (.ref r) H'
theorem ok_ap {f fF : Addr} {fd fdF : FuncData} {k : Nat} (F : Fun K "_apart" "_apart" sAp f fd) (gF : mg "_apart" = some (.ref f)) (bF : Binds K fd ["sentence", "table", "many"] [])
    (GG : FnOk P w K mg base CX0 k fF fdF ["term", "table"] (spFillD K 60)) (gG : mg "filled" = some (.ref fF)) (kG : PySem.W.keepIn K (.ref fF) = true) (bG : Binds K fdF ["term", "table"] []) (m_tuple : mg "tuple" = none) (m_str : mg "str" = none) :
    ∀ n, FnOk P w K mg base CX0 (k + n) f fd ["sentence", "table", "many"] (spAp K n)
  | 0 => vac fun vs H Q E ⟨x, td, s, τ, m, many, Hb, _, _, _, _, _, z, _⟩ => absurd (Nat.le_trans s.hi_pos z) (by decide)
  | n + 1 => by
    have IH : FnOk P w K mg base CX0 (k + n) f fd ["sentence", "table", "many"] (spAp K n) := ok_ap F gF bF GG gG kG bG m_tuple m_str n
    have GG' : FnOk P w K mg base CX0 (k + n) fF fdF ["term", "table"] (spFillD K 60) := GG.mono (Nat.le_add_right _ _)
    refine F.ok scAp (fun vs H Q E h => ?_) (fun cdv A outer s H vs Q E hr h => ?_)
    · obtain ⟨x, td, s, τ, m, many, Hb, rfl, _⟩ := h
      rfl
    · obtain ⟨x, td, s, τ, m, many, Hb, rfl, hb, hd, ok, wf, small, tb, mn, big, q⟩ := h
      refine ⟨_, (pss_cons (ps_set (i := 3) scAp.nd rfl (.inl rfl) (pe_ix ix_tup (pv 0) pe_int (fun _ _ => rfl)))
    (pss_cons (ps_if (PW.pt (pw_or (pt_cmpR op_eq (pv 3) pe_str (nomark _)) (pw_or1 (pt_cmpR op_eq (pv 3) pe_str (nomark _)))))
      (pss_one (ps_ret (pe_tup (pa_cons (pe_op op_catA (pe_tup (pa_cons (pv 3) pa_nil)) (pe_callTy call_tuple_of (by rfl) m_tuple (by decide +kernel) (pa_cons (pe_lc (own := [("term", 8)]) (g := gName 8) (tt := tYes) (te := tCall (spFillD K 60) [] E0 (tCons (tVar 8) (tCons (tVar 1) tNil))) rfl scAp.nd (pi_tup (pe_slice sl_tup (pv 0) (po_some pe_int) po_none)) (blkOk_by (N := ["sentence", "table", "many", "word", "great", "inner", "told", "part", "term"]) (sc := defScope sAp) (by decide +kernel)) (fun _ _ _ _ _ => (pg_name (i := 8) scAp.nd rfl (.inl rfl))) (fun _ _ _ _ _ => pts_nil) (fun _ _ _ _ _ => (pe_call GG' hr (by rfl) gG kG bG .nil pass0 (pa_cons (pv 8) (pa_cons (pv 1) pa_nil))))) pa_nil))) (pa_cons (pv 2) pa_nil))))) pss_nil)
    (pss_cons (ps_if (PW.pt (pw_or (pt_cmpR op_eq (pv 3) pe_str (nomark _)) (pw_or1 (pt_cmpR op_eq (pv 3) pe_str (nomark _)))))
      (pss_cons (ps_set (i := 4) scAp.nd rfl (.inl rfl) (pe_op op_add_str pe_str (pe_callTy call_str_int (by rfl) m_str (by decide +kernel) (pa_cons (pe_op op_add (pv 2) pe_int) pa_nil))))
      (pss_cons (ps_asg (pe_call IH hr (by rfl) gF F.kp bF .nil pass0 (pa_cons (pe_ix ix_tup (pv 0) pe_int (fun _ _ => rfl)) (pa_cons (Ds.pe_star (pv 1) (pps_cons (pe_ix ix_tup (pv 0) pe_int (fun _ _ => rfl)) (pv 4) pps_nil)) (pa_cons (pe_op op_add (pv 2) pe_int) pa_nil)))) (pg_tup rfl (pgs_cons (pg_name (i := 5) scAp.nd rfl (.inl rfl)) (pgs_cons (pg_name (i := 2) scAp.nd rfl (.inl rfl)) pgs_nil))))
      (pss_one (ps_ret (pe_tup (pa_cons (pe_tup (pa_cons (pv 3) (pa_cons (pv 4) (pa_cons (pv 5) pa_nil)))) (pa_cons (pv 2) pa_nil))))))) pss_nil)
    (pss_cons (ps_set (i := 6) scAp.nd rfl (.inl rfl) (pe_tup (pa_cons (pv 3) pa_nil)))
    (pss_cons (ps_for PassesOwn.never rfl (pi_tup (pe_slice sl_tup (pv 0) (po_some pe_int) po_none)) (pg_name (i := 7) scAp.nd rfl (.inl rfl))
      (pss_cons (ps_asg (pe_call IH hr (by rfl) gF F.kp bF .nil pass0 (pa_cons (pv 7) (pa_cons (pv 1) (pa_cons (pv 2) pa_nil)))) (pg_tup rfl (pgs_cons (pg_name (i := 7) scAp.nd rfl (.inl rfl)) (pgs_cons (pg_name (i := 2) scAp.nd rfl (.inl rfl)) pgs_nil))))
      (pss_one (ps_set (i := 6) scAp.nd rfl (.inl rfl) (pe_op op_catA (pv 6) (pe_tup (pa_cons (pv 7) pa_nil)))))))
    (pss_one (ps_ret (pe_tup (pa_cons (pv 6) (pa_cons (pv 2) pa_nil)))))))))), ?_⟩
      have qz := Sn.qs_size s
      rcases sn_three hd ok wf small with ⟨eq, as, a, vs, rfl, rfl, sq, all, wfd, p40, l2, _⟩ | ⟨al, z, s', a, v2, rfl, rfl, sq, h2, ok', wf', hi'⟩ | ⟨wd, ss, vs, a, rfl, sq, ps⟩
      · have sqH := (TK.same hb).sq sq
        refine ⟨.ref a, rfl, a, _, 0, _, rfl, rfl, sqH, atI_nat (j := 0) rfl, sv_or (i := 3) rfl ?_⟩
        rw [yes_or (Sn.word_atm' eq as)]
        refine iteT ⟨_, rfl, (by show 1 ≤ sizeLine; decide), fun p0 np0 => ?_⟩
        have sm0 : Same H (upd H p0 (.tup [.str (Sn.word (.atm eq as))])) := same_new (fun b o e => e) np0 _
        have m0 : SqT K (upd H p0 (.tup [.str (Sn.word (.atm eq as))])) p0 [.str (Sn.word (.atm eq as))] := .inl (.inl upd_same)
        generalize upd H p0 (.tup [.str (Sn.word (.atm eq as))]) = H0 at sm0 m0
        refine ⟨.ref a, rfl, 1, rfl, a, _, rfl, (TK.same (hb.trans sm0)).sq sq, cut_args.1, fun p3 n3 => ?_⟩
        rw [cut_args.2]
        have s3 : Same H (upd H0 p3 (.tup vs)) := same_new sm0 n3 _
        have m03 : SqT K (upd H0 p3 (.tup vs)) p0 [.str (Sn.word (.atm eq as))] := (TK.same (same_new (fun b o e => e) n3 _)).sq m0
        have e3 : (upd H0 p3 (.tup vs)) p3 = some (.tup vs) := upd_same
        have la := dpAll_len all
        have hl := partsDL_len as
        generalize upd H0 p3 (.tup vs) = G1 at s3 e3 m03
        refine ⟨p3, rfl, ⟨vs, .inl (.inl e3)⟩, fun D nD => lc_tup (K := K) (a := p3) (xs := vs) (fun i G => ∃ acc, Same G1 G ∧ G D = some (.lst acc) ∧ DpAll K G acc (swL τ (as.take i))) ⟨[], same_new (fun b o e => e) nD _, upd_same, .nil⟩ (fun i G _ ⟨_, sm, _⟩ => (TK.same sm).sq (.inl (.inl e3))) ?_ ?_⟩
        · rintro i y G hy ⟨acc, sm, gD, ha⟩
          obtain ⟨u, hu, tu⟩ := dpAll_get all hy
          obtain ⟨wfu, pl⟩ := wfTL_mem wfd hu
          have il := (List.getElem?_eq_some_iff.mp hu).1
          have la2 := dpAll_len ha
          rw [swL_len, List.length_take] at la2
          refine ⟨rfl, y, rfl, .ref td, rfl, y, td, u, τ, m, Hb, rfl, hb.trans (s3.trans sm), tu, wfu, by omega, by omega, tb.same (s3.trans sm), fun G2 v s2 d2 => ⟨acc, s2 _ _ gD, by rw [sizeLine_eq]; omega, acc ++ [v], same_on (sm.trans s2) nD _, upd_same, ?_⟩⟩
          rw [swL_take hu]
          have kk : TK G2 (upd G2 D (.lst (acc ++ [v]))) := TK.lst (s2 _ _ gD) _
          exact dpAll_app (wf_tkL ((TK.same s2).trans kk) _ _ (sw_wfL τ _ (wfTL_take wfd i)) ha) (.cons (wf_tk kk _ _ (sw_wf τ _ wfu) d2) .nil)
        · rintro G ⟨acc, sm, gD, ha⟩
          rw [la, List.take_length] at ha
          have la2 := dpAll_len ha
          rw [swL_len] at la2
          refine ⟨D, acc, rfl, .inl ⟨.inl (.inl gD), fun p6 n6 => ?_⟩⟩
          have s6 : Same G (upd G p6 (.tup acc)) := same_new (fun b o e => e) n6 _
          refine rCatA_of ((TK.same (sm.trans s6)).sq m03) (.inl (.inl upd_same)) (by rw [sizeLine_eq]; show 1 + acc.length ≤ _; omega) fun r G8 s9 sq9 => ?_
          refine ⟨_, rfl, (by show 2 ≤ sizeLine; rw [sizeLine_eq]; decide), fun t nt => ?_⟩
          have s10 : Same G8 (upd G8 t (.tup [.ref r, .int (many : Int)])) := same_new (fun b o e => e) nt _
          have s810 := s6.trans (s9.trans s10)
          exact q _ t (.ref r) (s3.trans (sm.trans s810)) (.inl (.inl upd_same)) (.tup ((TK.same s10).sq sq9) (.cons (.str _) (dpAll_same s810 ha)))
      · have sqH := (TK.same hb).sq sq
        have sz1 : 1 + s'.size = (Sn.qu al z s').size := rfl
        have qz' := Sn.qs_size s'
        refine ⟨.ref a, rfl, a, _, 0, _, rfl, rfl, sqH, atI_nat (j := 0) rfl, sv_or (i := 3) rfl ?_⟩
        rw [word_qu al z s']
        refine iteF (sv_or (i := 3) rfl ?_)
        rw [word_qu2 al z s']
        have eN : (many : Int) + 1 = ((many + 1 : Nat) : Int) := rfl
        obtain ⟨t1, t2⟩ := num_text (n := many + 1) (by omega)
        refine iteT ⟨.int (many : Int), rfl, _, _, rfl, rfl, _, rfl, t2, ?_⟩
        refine ⟨_, _, rfl, rfl, (by rw [sizeLine_eq]; show 1 + (Str.ofString (toString ((many + 1 : Nat) : Int))).length ≤ _; omega), ?_⟩
        refine ⟨.ref a, rfl, a, _, 2, v2, rfl, rfl, sqH, atI_nat (j := 2) rfl, fun p np => ?_⟩
        obtain ⟨kvs, ek, val, few⟩ := tb
        have s1 : Same H (upd H p (.dK [])) := same_new (fun b o e => e) np _
        have ntp : td ≠ p := fun z => by rw [z, np] at ek; cases ek
        have ep1 : (upd H p (.dK [])) p = some (.dK []) := upd_same
        refine ⟨.ref td, rfl, td, kvs, rfl, ntp, s1 _ _ ek, ep1, by rw [sizeLine_eq]; omega, fun sb nsb => ?_⟩
        have s2 : Same H (upd (upd H p (.dK [])) p (.dK kvs)) := same_on s1 np _
        have nsbH := none_before s2 nsb
        have s3 : Same H (upd (upd (upd H p (.dK [])) p (.dK kvs)) sb (.dK [])) := same_new s2 nsb _
        have nps : p ≠ sb := fun z => by
          rw [← z] at nsb
          rw [upd_same] at nsb
          cases nsb
        have ep3 : (upd (upd (upd H p (.dK [])) p (.dK kvs)) sb (.dK [])) p = some (.dK kvs) := by
          rw [upd_ne nps]
          exact upd_same
        have es3 : (upd (upd (upd H p (.dK [])) p (.dK kvs)) sb (.dK [])) sb = some (.dK []) := upd_same
        generalize upd (upd (upd H p (.dK [])) p (.dK kvs)) sb (.dK []) = G3 at s3 ep3 es3
        refine ⟨.ref a, rfl, a, _, 1, .str z, rfl, rfl, (TK.same s3).sq sqH, atI_nat (j := 1) rfl, _, rfl, .inr z, _, rfl, ep3, es3, ?_⟩
        have s4 : Same H (upd (upd G3 sb (.dK [(Sum.inr z, .str (xn (many + 1)))])) p (.dK (putK kvs (.inr z) (.str (xn (many + 1)))))) := same_on (same_on s3 nsbH _) np _
        have tb4 : TabS (upd (upd G3 sb (.dK [(Sum.inr z, .str (xn (many + 1)))])) p (.dK (putK kvs (.inr z) (.str (xn (many + 1)))))) p (τ.set z (xn (many + 1))) (m + 1) := ⟨_, upd_same, tabs_put val z (xn (many + 1)), by have := length_putK kvs (.inr z) (.str (xn (many + 1))); omega⟩
        refine ⟨.int (many : Int), rfl, _, _, rfl, rfl, v2, p, s', τ.set z (xn (many + 1)), m + 1, many + 1, Hb, rfl, hb.trans s4, h2, ok', wf', hi', tb4, by omega, by omega, fun G5 r5 v5 s5 sq5 d5 => ?_⟩
        refine ⟨r5, _, rfl, sq5, rfl, _, _, rfl, _, _, rfl, rfl, ?_⟩
        refine ⟨_, rfl, _, rfl, _, rfl, (by show 3 ≤ sizeLine; rw [sizeLine_eq]; decide), fun t nt => ?_⟩
        have s6 : Same G5 (upd G5 t (.tup [.str (Sn.word (.qu al z s')), .str (xn (many + 1)), v5])) := same_new (fun b o e => e) nt _
        have e6 : (upd G5 t (.tup [.str (Sn.word (.qu al z s')), .str (xn (many + 1)), v5])) t = some (.tup [.str (Sn.word (.qu al z s')), .str (xn (many + 1)), v5]) := upd_same
        refine ⟨_, rfl, (by show 2 ≤ sizeLine; rw [sizeLine_eq]; decide), fun u nu => ?_⟩
        have s7 : Same (upd G5 t (.tup [.str (Sn.word (.qu al z s')), .str (xn (many + 1)), v5])) (upd (upd G5 t (.tup [.str (Sn.word (.qu al z s')), .str (xn (many + 1)), v5])) u (.tup [.ref t, .int ((many + 1 + s'.qs : Nat) : Int)])) := same_new (fun b o e => e) nu _
        refine q _ u (.ref t) (s4.trans (s5.trans (s6.trans s7))) ?_ (.tup (.inl (.inl (s7 _ _ e6))) (.cons (.str _) (.cons (.str _) (.cons (dp_same (s6.trans s7) d5) .nil))))
        have e9 : many + (Sn.qu al z s').qs = many + 1 + s'.qs := by
          show many + (1 + s'.qs) = _
          omega
        rw [e9]
        exact .inl (.inl upd_same)
      · have sqH := (TK.same hb).sq sq
        obtain ⟨ed, eqs, szs⟩ := parts_ap ps τ many
        refine ⟨.ref a, rfl, a, _, 0, _, rfl, rfl, sqH, atI_nat (j := 0) rfl, sv_or (i := 3) rfl ?_⟩
        rw [no_or ps.n1 ps.n2]
        refine iteF (sv_or (i := 3) rfl ?_)
        rw [no_or ps.n3 ps.n4]
        refine iteF ⟨_, rfl, (by show 1 ≤ sizeLine; decide), fun p0 np0 => ?_⟩
        have sm0 : Same H (upd H p0 (.tup [.str wd])) := same_new (fun b o e => e) np0 _
        have m0 : SqT K (upd H p0 (.tup [.str wd])) p0 [.str wd] := .inl (.inl upd_same)
        generalize upd H p0 (.tup [.str wd]) = H0 at sm0 m0
        refine ⟨.ref a, rfl, 1, rfl, a, _, rfl, (TK.same sm0).sq sqH, cut_args.1, fun p3 n3 => ?_⟩
        rw [cut_args.2]
        have s3 : Same H (upd H0 p3 (.tup vs)) := same_new sm0 n3 _
        have m03 : SqT K (upd H0 p3 (.tup vs)) p0 [.str wd] := (TK.same (same_new (fun b o e => e) n3 _)).sq m0
        have e3 : (upd H0 p3 (.tup vs)) p3 = some (.tup vs) := upd_same
        have lv := ps.data.len
        have few := ps.few
        generalize upd H0 p3 (.tup vs) = G1 at s3 e3 m03
        refine ⟨p3, rfl, ⟨vs, .inl (.inl e3)⟩, for_tup (K := K) (a := p3) (xs := vs) (fun i σ G => ∃ (v7 : Option V) (tp : Addr) (acc : List V), σ = [some (.ref a), some (.ref td), some (.int ((many + qsL (ss.take i) : Nat) : Int)), some (.str wd), none, none, some (.ref tp), v7, none] ∧ Same H G ∧ Same G1 G ∧ SqT K G tp (.str wd :: acc) ∧ DpAll K G acc ((apL τ many (ss.take i)).map Sn.d)) ⟨none, p0, [], rfl, s3, fun b o e => e, m03, .nil⟩ (fun i σ G _ ⟨_, _, _, _, _, s, _⟩ => .inl (.inl (s _ _ e3))) ?_ ?_⟩
        · rintro i y σ G hy ⟨v7, tp, acc, rfl, sm, s5, sqp, da⟩
          obtain ⟨s2', hs2, dy⟩ := ps.data.get hy
          obtain ⟨okS, wfS, hiS⟩ := ps.each s2' (List.mem_of_getElem? hs2)
          have zz := szs s2' (List.mem_of_getElem? hs2)
          have il := (List.getElem?_eq_some_iff.mp hs2).1
          have la2 := dpAll_len da
          rw [List.length_map, apL_len, List.length_take] at la2
          have qle : qsL (ss.take i) + s2'.size ≤ s.size := by
            rcases ps.kind with ⟨s', rfl, rfl, rfl⟩ | ⟨sA, sB, rfl, rfl, _⟩
            · have i0 : i = 0 := by
                have : i < 1 := il
                omega
              subst i0
              show 0 + s2'.size ≤ _
              omega
            · match i, hs2 with
              | 0, hs2 =>
                show 0 + s2'.size ≤ _
                omega
              | 1, hs2 =>
                cases hs2
                have := Sn.qs_size sA
                show (sA.qs + 0) + s2'.size ≤ 1 + sA.size + s2'.size
                omega
          refine ⟨y, rfl, .ref td, rfl, _, rfl, y, td, s2', τ, m, many + qsL (ss.take i), Hb, rfl, hb.trans sm, dy, okS, wfS, hiS, tb.same sm, by omega, by omega, fun G5 r5 v5 s6 sq5 d5 => ?_⟩
          refine ⟨r5, _, rfl, sq5, rfl, _, _, rfl, _, _, rfl, rfl, ?_⟩
          refine ⟨.ref tp, rfl, v5, rfl, (by show 1 ≤ sizeLine; decide), fun t nt => ?_⟩
          have s7 : Same G5 (upd G5 t (.tup [v5])) := same_new (fun b o e => e) nt _
          refine rCatA_of ((TK.same (s6.trans s7)).sq sqp) (.inl (.inl upd_same)) (by rw [sizeLine_eq]; show acc.length + 1 + 1 ≤ _; omega) fun r G8 s9 sq9 => ?_
          have e10 : many + qsL (ss.take i) + s2'.qs = many + qsL (ss.take (i + 1)) := by
            rw [take_next hs2, qsL_snoc]
            omega
          rw [e10]
          refine ⟨_, r, acc ++ [v5], rfl, sm.trans (s6.trans (s7.trans s9)), s5.trans (s6.trans (s7.trans s9)), sq9, ?_⟩
          rw [take_next hs2, apL_app, List.map_append]
          exact dpAll_app (dpAll_same (s6.trans (s7.trans s9)) da) (.cons (dp_same (s7.trans s9) d5) .nil)
        · rintro σ G ⟨v7, tp, acc, rfl, sm, s5, sqp, da⟩
          rw [lv, List.take_length] at da ⊢
          refine ⟨.ref tp, rfl, _, rfl, (by show 2 ≤ sizeLine; rw [sizeLine_eq]; decide), fun u nu => ?_⟩
          have s7 : Same G (upd G u (.tup [.ref tp, .int ((many + qsL ss : Nat) : Int)])) := same_new (fun b o e => e) nu _
          refine q _ u (.ref tp) (sm.trans s7) ?_ ?_
          · rw [eqs]
            exact .inl (.inl upd_same)
          · rw [ed]
            exact .tup ((TK.same s7).sq sqp) (.cons (.str _) (dpAll_same s7 da))
def idR : Ren := fun x => x
def spApart (K : PySem.W.Frag) (n : Nat) : Sp := fun vs H Q _ => ∃ (x : V) (s : Sn), vs = [x] ∧ Dp K H x s.d ∧ s.ok = true ∧ s.wf = true ∧ s.hi ≤ n ∧ n ≤ 900 ∧ s.size ≤ 20000 ∧ ∀ H' v, Same H H' → Dp K H' v (Sn.ap idR 0 s).d → Q v H'
theorem ok_apart {f fA : Addr} {fd fdA : FuncData} {k n : Nat} (F : Fun K "apart" "apart" sApart f fd) (hAp : Has P w K mg base k "_apart" ["sentence", "table", "many"] (spAp K n) fA fdA) : FnOk P w K mg base CX0 (k + 1) f fd ["sentence"] (spApart K n) := by
  refine F.ok scApart (fun vs H Q E h => ?_) (fun cdv A outer s H vs Q E hr h => ?_)
  · obtain ⟨x, s, rfl, _⟩ := h
    rfl
  · obtain ⟨x, s, rfl, hd, ok, wf, hi, n9, big, q⟩ := h
    refine ⟨_, (pss_one (ps_ret (pe_ix ix_tup (pe_call hAp.G hr (by rfl) hAp.g hAp.kp hAp.b .nil pass0 (pa_cons (pv 0) (pa_cons pe_dnewK (pa_cons pe_int pa_nil)))) pe_int (fun _ _ => rfl)))), ?_⟩
    refine ⟨x, rfl, fun p np => ?_⟩
    have s1 : Same H (upd H p (.dK [])) := same_new (fun b o e => e) np _
    refine ⟨x, p, s, idR, 0, 0, H, rfl, s1, hd, ok, wf, hi, ⟨[], upd_same, fun y => .inr ⟨rfl, rfl⟩, Nat.le_refl _⟩, by omega, by omega, fun H' r v s2 sq dv => ?_⟩
    exact ⟨r, _, 0, v, rfl, rfl, sq, atI_nat (j := 0) rfl, q H' v (s1.trans s2) dv⟩
end
end Ad

/-! The law's own term with great names exchanged. -/
namespace Ad
open PySem PySem.Spec PySem.Calls PyProof.Rows L2
abbrev sLSwap : Stmt := topS 39
theorem scLSwap : FnScope ["_law_term", "_law_known", "_law_part"] ["_law_term", "_law_known"] (defScope sLSwap) := ⟨rfl, rfl, rfl, by decide +kernel, rfl, by decide +kernel, by decide +kernel⟩
section
variable {P : Program} {w : World} {K : PySem.W.Frag} {mg : Str → Option Value} {base : Heap}
theorem ok_lswap {f : Addr} {fd : FuncData} {k : Nat} (F : Fun K "_law_swapped" "_law_swapped" sLSwap f fd) (gF : mg "_law_swapped" = some (.ref f)) (bF : Binds K fd ["_law_term", "_law_known"] []) (m_isinstance : mg "isinstance" = none) (m_str : mg "str" = none) (m_tuple : mg "tuple" = none) :
    ∀ n, FnOk P w K mg base CX0 (k + n) f fd ["_law_term", "_law_known"] (spFillD K n)
  | 0 => vac fun vs H Q E ⟨x, td, d, τ, m, Hb, _, _, _, _, z, _⟩ => absurd (Nat.le_trans (partsD_pos d) z) (by decide)
  | n + 1 => by
    have IH : FnOk P w K mg base CX0 (k + n) f fd ["_law_term", "_law_known"] (spFillD K n) := ok_lswap F gF bF m_isinstance m_str m_tuple n
    refine F.ok scLSwap (fun vs H Q E h => ?_) (fun cdv A outer s H vs Q E hr h => ?_)
    · obtain ⟨x, td, d, τ, m, Hb, rfl, _⟩ := h
      rfl
    · obtain ⟨x, td, d, τ, m, Hb, rfl, hb, hd, wf, small, n60, tb, q⟩ := h
      refine ⟨_, (pss_cons (ps_if (pt_val (pe_callB call_isi (by rfl) m_isinstance (by decide +kernel) (pa_cons (pv 0) (pa_cons (pe_bltn (v := .ty "str") (by rfl) m_str (by decide +kernel) rfl) pa_nil))))
      (pss_one (ps_ret (pe_dget2 (hu1 hr) (pv 1) (pv 0) (pv 0) ⟨rfl, rfl, rfl, rfl⟩))) pss_nil)
    (pss_one (ps_ret (pe_op op_catA (pe_tup (pa_cons (pe_ix ix_tup (pv 0) pe_int (fun _ _ => rfl)) pa_nil)) (pe_callTy call_tuple_of (by rfl) m_tuple (by decide +kernel) (pa_cons (pe_lc (own := [("_law_part", 2)]) (g := gName 2) (tt := tYes) (te := tCall (spFillD K n) [] E0 (tCons (tVar 2) (tCons (tVar 1) tNil))) rfl scLSwap.nd (pi_tup (pe_slice sl_tup (pv 0) (po_some pe_int) po_none)) (blkOk_by (N := ["_law_term", "_law_known", "_law_part"]) (sc := defScope sLSwap) (by decide +kernel)) (fun _ _ _ _ _ => (pg_name (i := 2) scLSwap.nd rfl (.inl rfl))) (fun _ _ _ _ _ => pts_nil) (fun _ _ _ _ _ => (pe_call IH hr (by rfl) gF F.kp bF .nil pass0 (pa_cons (pv 2) (pa_cons (pv 1) pa_nil))))) pa_nil)))))), ?_⟩
      have hdH := dp_same hb hd
      refine ⟨x, rfl, _, .ty "str", tyD d, .type "str", _, rfl, .ty "str", dp_ty hdH, kit_st d, _, rfl, ?_⟩
      rcases wf_cases wf with ⟨y, rfl⟩ | ⟨z, ds, rfl, wfd⟩
      · cases hd
        refine iteT ?_
        obtain ⟨kvs, ek, val, few⟩ := tb
        refine ⟨.ref td, rfl, td, rfl, .inl ⟨kvs, .inl ek⟩, .str y, rfl, .str y, rfl, _, DGet.k (k := Sum.inr y) ek, ?_⟩
        rcases val y with a | ⟨a, b⟩
        · rw [a]
          exact q H _ (fun b o e => e) (.str _)
        · rw [a]
          refine q H _ (fun b o e => e) ?_
          show Dp K H (.str y) (.str (τ y))
          rw [b]
          exact .str _
      · refine iteF ?_
        have lp : (partsD (.tuple (.str z :: ds))).length = 1 + (partsDL ds).length := by
          show (PyData.tuple (.str z :: ds) :: partsDL ds).length = _
          rw [List.length_cons]
          omega
        have hl := partsDL_len ds
        cases hd with
        | @tup a zs _ sq0 all0 =>
        cases all0 with
        | @cons v0 vs _ _ hv0 all =>
        cases hv0
        refine ⟨.ref a, rfl, a, _, 0, .str z, rfl, rfl, (TK.same hb).sq sq0, atI_nat (j := 0) rfl, (by show 1 ≤ sizeLine; decide), fun p0 np0 => ?_⟩
        have sm0 : Same H (upd H p0 (.tup [.str z])) := same_new (fun b o e => e) np0 _
        have m0 : SqT K (upd H p0 (.tup [.str z])) p0 [.str z] := .inl (.inl upd_same)
        generalize upd H p0 (.tup [.str z]) = H0 at sm0 m0
        refine ⟨.ref a, rfl, 1, rfl, a, _, rfl, (TK.same (hb.trans sm0)).sq sq0, cut_args.1, fun p3 n3 => ?_⟩
        rw [cut_args.2]
        have s3 : Same H (upd H0 p3 (.tup vs)) := same_new sm0 n3 _
        have m03 : SqT K (upd H0 p3 (.tup vs)) p0 [.str z] := (TK.same (same_new (fun b o e => e) n3 _)).sq m0
        have e3 : (upd H0 p3 (.tup vs)) p3 = some (.tup vs) := upd_same
        have la := dpAll_len all
        generalize upd H0 p3 (.tup vs) = G1 at s3 e3 m03
        refine ⟨p3, rfl, ⟨vs, .inl (.inl e3)⟩, fun D nD => lc_tup (K := K) (a := p3) (xs := vs) (fun i G => ∃ acc, Same G1 G ∧ G D = some (.lst acc) ∧ DpAll K G acc (swL τ (ds.take i))) ⟨[], same_new (fun b o e => e) nD _, upd_same, .nil⟩ (fun i G _ ⟨_, sm, _⟩ => (TK.same sm).sq (.inl (.inl e3))) ?_ ?_⟩
        · rintro i y G hy ⟨acc, sm, gD, ha⟩
          obtain ⟨u, hu, tu⟩ := dpAll_get all hy
          obtain ⟨wfu, pl⟩ := wfTL_mem wfd hu
          have il := (List.getElem?_eq_some_iff.mp hu).1
          have la2 := dpAll_len ha
          rw [swL_len, List.length_take] at la2
          refine ⟨rfl, y, rfl, .ref td, rfl, y, td, u, τ, m, Hb, rfl, hb.trans (s3.trans sm), tu, wfu, by omega, by omega, tb.same (s3.trans sm), fun G2 v s2 d2 => ⟨acc, s2 _ _ gD, by rw [sizeLine_eq]; omega, acc ++ [v], same_on (sm.trans s2) nD _, upd_same, ?_⟩⟩
          rw [swL_take hu]
          have kk : TK G2 (upd G2 D (.lst (acc ++ [v]))) := TK.lst (s2 _ _ gD) _
          exact dpAll_app (wf_tkL ((TK.same s2).trans kk) _ _ (sw_wfL τ _ (wfTL_take wfd i)) ha) (.cons (wf_tk kk _ _ (sw_wf τ _ wfu) d2) .nil)
        · rintro G ⟨acc, sm, gD, ha⟩
          rw [la, List.take_length] at ha
          have la2 := dpAll_len ha
          rw [swL_len] at la2
          refine ⟨D, acc, rfl, .inl ⟨.inl (.inl gD), fun p6 n6 => ?_⟩⟩
          have s6 : Same G (upd G p6 (.tup acc)) := same_new (fun b o e => e) n6 _
          refine rCatA_of ((TK.same (sm.trans s6)).sq m03) (.inl (.inl upd_same)) (by rw [sizeLine_eq]; show 1 + acc.length ≤ _; omega) fun r G8 s9 sq9 => ?_
          exact q _ _ (s3.trans (sm.trans (s6.trans s9))) (.tup sq9 (.cons (.str _) (dpAll_same (s6.trans s9) ha)))
end
end Ad

/-! The law's own sentence with great names of its own; a row counts them. -/
namespace Ad
open PySem PySem.Spec PySem.Calls PyProof.Rows L2
abbrev sLApart : Stmt := topS 40
theorem scLApart : FnScope ["_law_sentence", "_law_known", "_law_counter", "_law_kind", "_law_name", "_law_part"] ["_law_sentence", "_law_known", "_law_counter"] (defScope sLApart) := ⟨rfl, rfl, rfl, by decide +kernel, rfl, by decide +kernel, by decide +kernel⟩
theorem lst_tk {lc : Addr} {xs : List V} {H H' : Hp} (b : Pn.But lc H H') (e : H lc = some (.lst xs)) : TK H H' := fun c ys => by
  have n : ∀ {o : HO}, (∀ l, o ≠ .lst l) → H c = some o → c ≠ lc := fun {o} hn h z => by
    rw [z, e] at h
    cases h
    exact hn _ rfl
  exact ⟨fun h => b _ _ (n (fun l z => by cases z) h) h, fun o h => b _ _ (n (fun l z => by cases z) h) h⟩
theorem TabS.but {lc : Addr} {xs : List V} {H H' : Hp} (b : Pn.But lc H H') (e : H lc = some (.lst xs)) {td : Addr} {τ : Ren} {m : Nat} (h : TabS H td τ m) : TabS H' td τ m := by
  obtain ⟨kvs, ek, q⟩ := h
  refine ⟨kvs, b _ _ (fun z => ?_) ek, q⟩
  rw [z, e] at ek
  cases ek
section
variable {P : Program} {w : World} {K : PySem.W.Frag} {mg : Str → Option Value} {base : Heap}
def spLWithS : Sp := fun vs H Q _ => ∃ (vd : Addr) (τ : Ren) (x y : Str) (m : Nat), vs = [.ref vd, .str x, .str y] ∧ TabS H vd τ m ∧ m ≤ 900 ∧ ∀ H' v', Same H H' → H v' = none → TabS H' v' (τ.set x y) (m + 1) → Q (.ref v') H'
theorem ok_lwiths {f : Addr} {fd : FuncData} {k : Nat} (F : Fun K "_law_with_value" "_law_with_value" sLWithV f fd) (m_dict : mg "dict" = none) : FnOk P w K mg base CX0 (k + 1) f fd ["_law_values", "_law_name", "_law_value_here"] spLWithS := by
  refine F.ok scLWithV (fun vs H Q E h => ?_) (fun cdv A outer s H vs Q E hr h => ?_)
  · obtain ⟨vd, τ, x, y, m, rfl, _⟩ := h
    rfl
  · obtain ⟨vd, τ, x, y, m, rfl, ⟨kvs, ek, val, few⟩, mm, q⟩ := h
    refine ⟨_, (pss_cons (ps_set (i := 3) scLWithV.nd rfl (.inl rfl) (pe_callTy call_dictD (by rfl) m_dict (by decide +kernel) (pa_cons (pv 0) pa_nil)))
    (pss_cons (ps_dput (hu1 hr) (pv 3) (pv 1) (pv 2) rfl)
    (pss_one (ps_ret (pv 3))))), ?_⟩
    refine ⟨.ref vd, rfl, vd, kvs, rfl, .inl ek, fun p np => ?_⟩
    have sm : Same H (upd H p (.dK kvs)) := same_new (fun b o e => e) np _
    have ep : (upd H p (.dK kvs)) p = some (.dK kvs) := upd_same
    generalize upd H p (.dK kvs) = G at sm ep
    refine ⟨_, rfl, .ref p, rfl, .str x, rfl, p, _, rfl, DPut.k (k := Sum.inr x) ep (by rw [sizeLine_eq]; omega), _, rfl, ?_⟩
    refine q _ p (same_on sm np _) np ⟨_, upd_same, tabs_put val x y, ?_⟩
    have := length_putK kvs (.inr x) (.str y)
    omega
def spLApart (K : PySem.W.Frag) (n : Nat) : Sp := fun vs H Q _ => ∃ (x : V) (td lc : Addr) (s : Sn) (τ : Ren) (m many : Nat), vs = [x, .ref td, .ref lc] ∧ Dp K H x s.d ∧ s.ok = true ∧ s.wf = true ∧ s.hi ≤ n ∧ TabS H td τ m ∧ m + n ≤ 900 ∧ many + s.size ≤ 20000 ∧ H lc = some (.lst [.int (many : Int)]) ∧
  ∀ H' v, Pn.But lc H H' → H' lc = some (.lst [.int ((many + s.qs : Nat) : Int)]) → Dp K H' v (Sn.ap τ many s).d → Q v H'
theorem ok_lapart {f fS fW : Addr} {fd fdS fdW : FuncData} {k : Nat} (F : Fun K "_law_apart" "_law_apart" sLApart f fd) (gF : mg "_law_apart" = some (.ref f)) (bF : Binds K fd ["_law_sentence", "_law_known", "_law_counter"] [])
    (GS : FnOk P w K mg base CX0 k fS fdS ["_law_term", "_law_known"] (spFillD K 60)) (gS : mg "_law_swapped" = some (.ref fS)) (kS : PySem.W.keepIn K (.ref fS) = true) (bS : Binds K fdS ["_law_term", "_law_known"] [])
    (GW : FnOk P w K mg base CX0 k fW fdW ["_law_values", "_law_name", "_law_value_here"] spLWithS) (gW : mg "_law_with_value" = some (.ref fW)) (kW : PySem.W.keepIn K (.ref fW) = true) (bW : Binds K fdW ["_law_values", "_law_name", "_law_value_here"] []) (m_tuple : mg "tuple" = none) (m_str : mg "str" = none) :
    ∀ n, FnOk P w K mg base CX0 (k + n) f fd ["_law_sentence", "_law_known", "_law_counter"] (spLApart K n)
  | 0 => vac fun vs H Q E ⟨x, td, lc, s, τ, m, many, _, _, _, _, z, _⟩ => absurd (Nat.le_trans s.hi_pos z) (by decide)
  | n + 1 => by
    have IH : FnOk P w K mg base CX0 (k + n) f fd ["_law_sentence", "_law_known", "_law_counter"] (spLApart K n) := ok_lapart F gF bF GS gS kS bS GW gW kW bW m_tuple m_str n
    have hLSwapped : Has P w K mg base (k + n) "_law_swapped" ["_law_term", "_law_known"] (spFillD K 60) fS fdS := ⟨GS.mono (Nat.le_add_right _ _), gS, kS, bS⟩
    have hLWithValue : Has P w K mg base (k + n) "_law_with_value" ["_law_values", "_law_name", "_law_value_here"] spLWithS fW fdW := ⟨GW.mono (Nat.le_add_right _ _), gW, kW, bW⟩
    have hLApart : Has P w K mg base (k + n) "_law_apart" ["_law_sentence", "_law_known", "_law_counter"] (spLApart K n) f fd := ⟨IH, gF, F.kp, bF⟩
    refine F.ok scLApart (fun vs H Q E h => ?_) (fun cdv A outer s H vs Q E hr h => ?_)
    · obtain ⟨x, td, lc, s, τ, m, many, rfl, _⟩ := h
      rfl
    · obtain ⟨x, td, lc, s, τ, m, many, rfl, hd, ok, wf, small, tb, mn, big, hlc, q⟩ := h
      refine ⟨_, (pss_cons (ps_set (i := 3) scLApart.nd rfl (.inl rfl) (pe_ix ix_tup (pv 0) pe_int (fun _ _ => rfl)))
    (pss_cons (ps_if (pt_cmpR op_in_seq (pv 3) (pe_lst (pa_cons pe_str (pa_cons pe_str pa_nil))) (by with_unfolding_all rfl))
      (pss_one (ps_ret (pe_op op_catA (pe_tup (pa_cons (pv 3) pa_nil)) (pe_callTy call_tuple_of (by rfl) m_tuple (by decide +kernel) (pa_cons (pe_lc (own := [("_law_part", 5)]) (g := gName 5) (tt := tYes) (te := tCall (spFillD K 60) [] E0 (tCons (tVar 5) (tCons (tVar 1) tNil))) rfl scLApart.nd (pi_tup (pe_slice sl_tup (pv 0) (po_some pe_int) po_none)) (blkOk_by (N := ["_law_sentence", "_law_known", "_law_counter", "_law_kind", "_law_name", "_law_part"]) (sc := defScope sLApart) (by decide +kernel)) (fun _ _ _ _ _ => (pg_name (i := 5) scLApart.nd rfl (.inl rfl))) (fun _ _ _ _ _ => pts_nil) (fun _ _ _ _ _ => (pe_call hLSwapped.G hr (by rfl) hLSwapped.g hLSwapped.kp hLSwapped.b .nil pass0 (pa_cons (pv 5) (pa_cons (pv 1) pa_nil))))) pa_nil))))) pss_nil)
    (pss_cons (ps_if (pt_cmpR op_in_seq (pv 3) (pe_lst (pa_cons pe_str (pa_cons pe_str pa_nil))) (by with_unfolding_all rfl))
      (pss_cons (ps_asg (pe_op op_add (pe_ix ix_list (pv 2) pe_int (fun _ _ => rfl)) pe_int) (pg_sub (pv 2) pe_int set_list))
      (pss_cons (ps_set (i := 4) scLApart.nd rfl (.inl rfl) (pe_op op_add_str pe_str (pe_callTy call_str_int (by rfl) m_str (by decide +kernel) (pa_cons (pe_ix ix_list (pv 2) pe_int (fun _ _ => rfl)) pa_nil))))
      (pss_one (ps_ret (pe_tup (pa_cons (pv 3) (pa_cons (pv 4) (pa_cons (pe_call hLApart.G hr (by rfl) hLApart.g hLApart.kp hLApart.b .nil pass0 (pa_cons (pe_ix ix_tup (pv 0) pe_int (fun _ _ => rfl)) (pa_cons (pe_call hLWithValue.G hr (by rfl) hLWithValue.g hLWithValue.kp hLWithValue.b .nil pass0 (pa_cons (pv 1) (pa_cons (pe_ix ix_tup (pv 0) pe_int (fun _ _ => rfl)) (pa_cons (pv 4) pa_nil)))) (pa_cons (pv 2) pa_nil)))) pa_nil)))))))) pss_nil)
    (pss_one (ps_ret (pe_op op_catA (pe_tup (pa_cons (pv 3) pa_nil)) (pe_callTy call_tuple_of (by rfl) m_tuple (by decide +kernel) (pa_cons (pe_lc (own := [("_law_part", 5)]) (g := gName 5) (tt := tYes) (te := tCall (spLApart K n) [] E0 (tCons (tVar 5) (tCons (tVar 1) (tCons (tVar 2) tNil)))) rfl scLApart.nd (pi_tup (pe_slice sl_tup (pv 0) (po_some pe_int) po_none)) (blkOk_by (N := ["_law_sentence", "_law_known", "_law_counter", "_law_kind", "_law_name", "_law_part"]) (sc := defScope sLApart) (by decide +kernel)) (fun _ _ _ _ _ => (pg_name (i := 5) scLApart.nd rfl (.inl rfl))) (fun _ _ _ _ _ => pts_nil) (fun _ _ _ _ _ => (pe_call hLApart.G hr (by rfl) hLApart.g hLApart.kp hLApart.b .nil pass0 (pa_cons (pv 5) (pa_cons (pv 1) (pa_cons (pv 2) pa_nil)))))) pa_nil)))))))), ?_⟩
      have qz := Sn.qs_size s
      rcases sn_three hd ok wf small with ⟨eq, as, a, vs, rfl, rfl, sq, all, wfd, p40, l2, _⟩ | ⟨al, z, s', a, v2, rfl, rfl, sq, h2, ok', wf', hi'⟩ | ⟨wd, ss, vs, a, rfl, sq, ps⟩
      · refine ⟨.ref a, rfl, a, _, 0, _, rfl, rfl, sq, atI_nat (j := 0) rfl, ?_⟩
        refine ⟨_, rfl, (by show 2 ≤ sizeLine; rw [sizeLine_eq]; decide), fun l nl => ⟨l, _, rfl, .inl (.inl (.inl upd_same)), rfl, rfl, _, rfl, go_in (atm_in eq as) ?_⟩⟩
        have s0 : Same H (upd H l (.lst [.str "is", .str "equal"])) := same_new (fun b o e => e) nl _
        generalize upd H l (.lst [.str "is", .str "equal"]) = G0 at s0
        refine ⟨_, rfl, (by show 1 ≤ sizeLine; decide), fun p0 np0 => ?_⟩
        have sm0 : Same H (upd G0 p0 (.tup [.str (Sn.word (.atm eq as))])) := same_new s0 np0 _
        have m0 : SqT K (upd G0 p0 (.tup [.str (Sn.word (.atm eq as))])) p0 [.str (Sn.word (.atm eq as))] := .inl (.inl upd_same)
        generalize upd G0 p0 (.tup [.str (Sn.word (.atm eq as))]) = H0 at sm0 m0
        refine ⟨.ref a, rfl, 1, rfl, a, _, rfl, (TK.same sm0).sq sq, cut_args.1, fun p3 n3 => ?_⟩
        rw [cut_args.2]
        have s3 : Same H (upd H0 p3 (.tup vs)) := same_new sm0 n3 _
        have m03 : SqT K (upd H0 p3 (.tup vs)) p0 [.str (Sn.word (.atm eq as))] := (TK.same (same_new (fun b o e => e) n3 _)).sq m0
        have e3 : (upd H0 p3 (.tup vs)) p3 = some (.tup vs) := upd_same
        have la := dpAll_len all
        have hl := partsDL_len as
        generalize upd H0 p3 (.tup vs) = G1 at s3 e3 m03
        refine ⟨p3, rfl, ⟨vs, .inl (.inl e3)⟩, fun D nD => lc_tup (K := K) (a := p3) (xs := vs) (fun i G => ∃ acc, Same G1 G ∧ G D = some (.lst acc) ∧ DpAll K G acc (swL τ (as.take i))) ⟨[], same_new (fun b o e => e) nD _, upd_same, .nil⟩ (fun i G _ ⟨_, sm, _⟩ => (TK.same sm).sq (.inl (.inl e3))) ?_ ?_⟩
        · rintro i y G hy ⟨acc, sm, gD, ha⟩
          obtain ⟨u, hu, tu⟩ := dpAll_get all hy
          obtain ⟨wfu, pl⟩ := wfTL_mem wfd hu
          have il := (List.getElem?_eq_some_iff.mp hu).1
          have la2 := dpAll_len ha
          rw [swL_len, List.length_take] at la2
          refine ⟨rfl, y, rfl, .ref td, rfl, y, td, u, τ, m, H, rfl, s3.trans sm, tu, wfu, by omega, by omega, tb.same (s3.trans sm), fun G2 v s2 d2 => ⟨acc, s2 _ _ gD, by rw [sizeLine_eq]; omega, acc ++ [v], same_on (sm.trans s2) nD _, upd_same, ?_⟩⟩
          rw [swL_take hu]
          have kk : TK G2 (upd G2 D (.lst (acc ++ [v]))) := TK.lst (s2 _ _ gD) _
          exact dpAll_app (wf_tkL ((TK.same s2).trans kk) _ _ (sw_wfL τ _ (wfTL_take wfd i)) ha) (.cons (wf_tk kk _ _ (sw_wf τ _ wfu) d2) .nil)
        · rintro G ⟨acc, sm, gD, ha⟩
          rw [la, List.take_length] at ha
          have la2 := dpAll_len ha
          rw [swL_len] at la2
          refine ⟨D, acc, rfl, .inl ⟨.inl (.inl gD), fun p6 n6 => ?_⟩⟩
          have s6 : Same G (upd G p6 (.tup acc)) := same_new (fun b o e => e) n6 _
          refine rCatA_of ((TK.same (sm.trans s6)).sq m03) (.inl (.inl upd_same)) (by rw [sizeLine_eq]; show 1 + acc.length ≤ _; omega) fun r G8 s9 sq9 => ?_
          have sall := s3.trans (sm.trans (s6.trans s9))
          exact q _ (.ref r) (Pn.But.of sall) (sall _ _ hlc) (.tup sq9 (.cons (.str _) (dpAll_same (s6.trans s9) ha)))
      · have sz1 : 1 + s'.size = (Sn.qu al z s').size := rfl
        have qz' := Sn.qs_size s'
        refine ⟨.ref a, rfl, a, _, 0, _, rfl, rfl, sq, atI_nat (j := 0) rfl, ?_⟩
        refine ⟨_, rfl, (by show 2 ≤ sizeLine; rw [sizeLine_eq]; decide), fun l nl => ⟨l, _, rfl, .inl (.inl (.inl upd_same)), rfl, rfl, _, rfl, go_out (qu_out al z s') ?_⟩⟩
        have s0 : Same H (upd H l (.lst [.str "is", .str "equal"])) := same_new (fun b o e => e) nl _
        generalize upd H l (.lst [.str "is", .str "equal"]) = G0 at s0
        refine ⟨_, rfl, (by show 2 ≤ sizeLine; rw [sizeLine_eq]; decide), fun l nl => ⟨l, _, rfl, .inl (.inl (.inl upd_same)), rfl, rfl, _, rfl, go_in (qu_in al z s') ?_⟩⟩
        have s1 : Same H (upd G0 l (.lst [.str "all", .str "some"])) := same_new s0 nl _
        generalize upd G0 l (.lst [.str "all", .str "some"]) = G1 at s1
        have lc1 := s1 _ _ hlc
        refine ⟨.ref lc, rfl, lc, _, 0, .int (many : Int), rfl, rfl, .inl (.inl lc1), atI_nat (j := 0) rfl, _, _, rfl, rfl, .ref lc, rfl, lc, [.int (many : Int)], 0, 0, rfl, rfl, lc1, rfl, ?_⟩
        have b2 : Pn.But lc H (upd G1 lc (.lst [.int ((many + 1 : Nat) : Int)])) := fun b o nb e => by
          rw [upd_ne nb]
          exact s1 _ _ e
        have e2 : (upd G1 lc (.lst [.int ((many + 1 : Nat) : Int)])) lc = some (.lst [.int ((many + 1 : Nat) : Int)]) := upd_same
        have k2 := lst_tk b2 hlc
        have tb2 := tb.but b2 hlc
        have h22 := sn_tk k2 s' v2 wf' h2
        have sq2 := k2.sq sq
        show (fun G => _) (upd G1 lc (.lst [.int ((many + 1 : Nat) : Int)]))
        generalize upd G1 lc (.lst [.int ((many + 1 : Nat) : Int)]) = G2 at b2 e2 k2 tb2 h22 sq2
        obtain ⟨t1, t2⟩ := num_text (n := many + 1) (by omega)
        refine ⟨.ref lc, rfl, lc, _, 0, _, rfl, rfl, .inl (.inl e2), atI_nat (j := 0) rfl, _, rfl, t2, ?_⟩
        refine ⟨_, _, rfl, rfl, (by rw [sizeLine_eq]; show 1 + (Str.ofString (toString ((many + 1 : Nat) : Int))).length ≤ _; omega), ?_⟩
        refine ⟨_, rfl, _, rfl, .ref a, rfl, a, _, 2, v2, rfl, rfl, sq2, atI_nat (j := 2) rfl, .ref td, rfl, .ref a, rfl, a, _, 1, .str z, rfl, rfl, sq2, atI_nat (j := 1) rfl, _, rfl, td, τ, z, xn (many + 1), m, rfl, tb2, by omega, fun G3 v' s3 nv' tb3 => ?_⟩
        have e3 := s3 _ _ e2
        refine ⟨.ref lc, rfl, v2, v', lc, s', τ.set z (xn (many + 1)), m + 1, many + 1, rfl, dp_same s3 h22, ok', wf', hi', tb3, by omega, by omega, e3, fun G4 v4 b4 e4 d4 => ⟨(by show 3 ≤ sizeLine; rw [sizeLine_eq]; decide), fun t nt => ?_⟩⟩
        have s5 : Same G4 (upd G4 t (.tup [.str (Sn.word (.qu al z s')), .str (xn (many + 1)), v4])) := same_new (fun b o e => e) nt _
        refine q _ (.ref t) ((b2.trans (Pn.But.of s3)).trans (b4.trans (Pn.But.of s5))) ?_ (.tup (.inl (.inl upd_same)) (.cons (.str _) (.cons (.str _) (.cons (dp_same s5 d4) .nil))))
        have e9 : many + (Sn.qu al z s').qs = many + 1 + s'.qs := by
          show many + (1 + s'.qs) = _
          omega
        rw [e9]
        exact s5 _ _ e4
      · obtain ⟨ed, eqs, szs⟩ := parts_ap ps τ many
        refine ⟨.ref a, rfl, a, _, 0, _, rfl, rfl, sq, atI_nat (j := 0) rfl, ?_⟩
        refine ⟨_, rfl, (by show 2 ≤ sizeLine; rw [sizeLine_eq]; decide), fun l nl => ⟨l, _, rfl, .inl (.inl (.inl upd_same)), rfl, rfl, _, rfl, go_out (out_two ps.n1 ps.n2) ?_⟩⟩
        have s0 : Same H (upd H l (.lst [.str "is", .str "equal"])) := same_new (fun b o e => e) nl _
        generalize upd H l (.lst [.str "is", .str "equal"]) = G0 at s0
        refine ⟨_, rfl, (by show 2 ≤ sizeLine; rw [sizeLine_eq]; decide), fun l nl => ⟨l, _, rfl, .inl (.inl (.inl upd_same)), rfl, rfl, _, rfl, go_out (out_two ps.n3 ps.n4) ?_⟩⟩
        have s1 : Same H (upd G0 l (.lst [.str "all", .str "some"])) := same_new s0 nl _
        generalize upd G0 l (.lst [.str "all", .str "some"]) = G0' at s1
        refine ⟨_, rfl, (by show 1 ≤ sizeLine; decide), fun p0 np0 => ?_⟩
        have sm0 : Same H (upd G0' p0 (.tup [.str wd])) := same_new s1 np0 _
        have m0 : SqT K (upd G0' p0 (.tup [.str wd])) p0 [.str wd] := .inl (.inl upd_same)
        generalize upd G0' p0 (.tup [.str wd]) = H0 at sm0 m0
        refine ⟨.ref a, rfl, 1, rfl, a, _, rfl, (TK.same sm0).sq sq, cut_args.1, fun p3 n3 => ?_⟩
        rw [cut_args.2]
        have s3 : Same H (upd H0 p3 (.tup vs)) := same_new sm0 n3 _
        have m03 : SqT K (upd H0 p3 (.tup vs)) p0 [.str wd] := (TK.same (same_new (fun b o e => e) n3 _)).sq m0
        have e3 : SqT K (upd H0 p3 (.tup vs)) p3 vs := .inl (.inl upd_same)
        have lv := ps.data.len
        have few := ps.few
        generalize upd H0 p3 (.tup vs) = G1 at s3 e3 m03
        have lc3 := s3 _ _ hlc
        refine ⟨p3, rfl, ⟨vs, e3⟩, fun D nD => lc_tup (K := K) (a := p3) (xs := vs) (fun i G => ∃ acc, Pn.But lc G1 G ∧ D ≠ lc ∧ G lc = some (.lst [.int ((many + qsL (ss.take i) : Nat) : Int)]) ∧ G D = some (.lst acc) ∧ DpAll K G acc ((apL τ many (ss.take i)).map Sn.d)) ⟨[], Pn.But.of (same_new (fun b o e => e) nD _), (fun z => by rw [z, lc3] at nD; cases nD), (same_new (fun b o e => e) nD _) _ _ lc3, upd_same, .nil⟩ (fun i G _ ⟨_, b, _⟩ => (lst_tk b lc3).sq e3) ?_ ?_⟩
        · rintro i y G hy ⟨acc, b5, Dlc, glc, gD, da⟩
          obtain ⟨s2', hs2, dy⟩ := ps.data.get hy
          obtain ⟨okS, wfS, hiS⟩ := ps.each s2' (List.mem_of_getElem? hs2)
          have zz := szs s2' (List.mem_of_getElem? hs2)
          have il := (List.getElem?_eq_some_iff.mp hs2).1
          have la2 := dpAll_len da
          rw [List.length_map, apL_len, List.length_take] at la2
          have qle : qsL (ss.take i) + s2'.size ≤ s.size := by
            rcases ps.kind with ⟨s', rfl, rfl, rfl⟩ | ⟨sA, sB, rfl, rfl, _⟩
            · have i0 : i = 0 := by
                have : i < 1 := il
                omega
              subst i0
              show 0 + s2'.size ≤ _
              omega
            · match i, hs2 with
              | 0, hs2 =>
                show 0 + s2'.size ≤ _
                omega
              | 1, hs2 =>
                cases hs2
                have := Sn.qs_size sA
                show (sA.qs + 0) + s2'.size ≤ 1 + sA.size + s2'.size
                omega
          have k15 := lst_tk b5 lc3
          have kHG := (TK.same s3).trans k15
          have bHG : Pn.But lc H G := (Pn.But.of s3).trans b5
          refine ⟨rfl, y, rfl, .ref td, rfl, .ref lc, rfl, y, td, lc, s2', τ, m, many + qsL (ss.take i), rfl, sn_tk kHG s2' y wfS dy, okS, wfS, hiS, tb.but bHG hlc, by omega, by omega, glc, fun G2 v b6 e6 d6 => ⟨acc, b6 _ _ Dlc gD, by rw [sizeLine_eq]; omega, acc ++ [v], ?_, Dlc, ?_, upd_same, ?_⟩⟩
          · intro b o nb e
            have nbD : b ≠ D := fun z => by rw [z, nD] at e; cases e
            rw [upd_ne nbD]
            exact b6 _ _ nb (b5 _ _ nb e)
          · rw [upd_ne Dlc.symm, e6, take_next hs2, qsL_snoc, Nat.add_assoc]
          · have wfs : ∀ u ∈ apL τ many (ss.take i), u.wf = true := by
              have key : ∀ (l : List Sn) (j : Nat), (∀ u ∈ l, u.wf = true) → ∀ u ∈ apL τ j l, u.wf = true := by
                intro l
                induction l with
                | nil => intro j _ u hu; cases hu
                | cons s l ih =>
                  intro j h u hu
                  rcases List.mem_cons.mp hu with rfl | hu
                  · exact Sn.ap_wf _ _ _ (h s List.mem_cons_self)
                  · exact ih _ (fun u hu => h u (List.mem_cons_of_mem _ hu)) u hu
              exact key _ _ fun u hu => (ps.each u (List.mem_of_mem_take hu)).2.1
            have gD2 := b6 _ _ Dlc gD
            have kk : TK G2 (upd G2 D (.lst (acc ++ [v]))) := TK.lst gD2 _
            rw [take_next hs2, apL_app, List.map_append]
            exact dpAll_app (sns_tk ((lst_tk b6 glc).trans kk) _ _ wfs da) (.cons (sn_tk kk _ _ (Sn.ap_wf _ _ _ wfS) d6) .nil)
        · rintro G ⟨acc, b5, Dlc, glc, gD, da⟩
          rw [lv, List.take_length] at da glc
          have la2 := dpAll_len da
          rw [List.length_map, apL_len] at la2
          refine ⟨D, acc, rfl, .inl ⟨.inl (.inl gD), fun p6 n6 => ?_⟩⟩
          have s6 : Same G (upd G p6 (.tup acc)) := same_new (fun b o e => e) n6 _
          have m5 := (lst_tk b5 lc3).sq m03
          refine rCatA_of ((TK.same s6).sq m5) (.inl (.inl upd_same)) (by rw [sizeLine_eq]; show 1 + acc.length ≤ _; omega) fun r G8 s9 sq9 => ?_
          have s69 := s6.trans s9
          refine q _ (.ref r) (((Pn.But.of s3).trans b5).trans (Pn.But.of s69)) ?_ ?_
          · rw [eqs]
            exact s69 _ _ glc
          · rw [ed]
            exact .tup sq9 (.cons (.str _) (dpAll_same s69 da))
end
end Ad

/-! All pairs of a word and the one ahead of it; the great names that alls and somes bind. -/
namespace Ad
open PySem PySem.Spec PySem.Calls PyProof.Rows L2
abbrev sLKinds : Stmt := topS 41
theorem scLKinds : FnScope ["_law_sentence", "_law_ahead", "_law_found", "_law_part"] ["_law_sentence", "_law_ahead"] (defScope sLKinds) := ⟨rfl, rfl, rfl, by decide +kernel, rfl, by decide +kernel, by decide +kernel⟩
/-- a pair of words in the heap -/
def KdP (K : PySem.W.Frag) (H : Hp) (q : Str × Str) (v : V) : Prop := ∃ a, v = .ref a ∧ SqT K H a [.str q.1, .str q.2]
theorem KdP.mono {K : PySem.W.Frag} {H H' : Hp} (k : TK H H') (q : Str × Str) (v : V) (h : KdP K H q v) : KdP K H' q v := by
  obtain ⟨a, e, s⟩ := h
  exact ⟨a, e, k.sq s⟩
theorem cut_two' {x y : V} {xs : List V} : ¬ (HT.sIx (x :: y :: xs).length 0 (some 2) = 0 ∧ HT.sIx (x :: y :: xs).length (x :: y :: xs).length none = (x :: y :: xs).length) ∧ cutV (x :: y :: xs) (some 2) none = xs := by
  have e2 : HT.sIx (x :: y :: xs).length 0 (some ((2 : Nat) : Int)) = 2 := by
    rw [HT.sIx_nat, List.length_cons, List.length_cons]
    omega
  have e3 : HT.sIx (x :: y :: xs).length 0 (some 2) = 2 := e2
  constructor
  · rw [e3]
    omega
  · unfold cutV
    rw [e3, HT.sIx_none]
    show (xs.take ((x :: y :: xs).length - 2)) = xs
    rw [List.length_cons, List.length_cons]
    exact List.take_of_length_le (by omega)
section
variable {P : Program} {w : World} {K : PySem.W.Frag} {mg : Str → Option Value} {base : Heap}
def spLKinds (K : PySem.W.Frag) (n : Nat) : Sp := fun vs H Q _ => ∃ (x : V) (ah : Str) (s : Sn) (Hb : Hp), vs = [x, .str ah] ∧ Same Hb H ∧ Dp K Hb x s.d ∧ s.ok = true ∧ s.wf = true ∧ s.hi ≤ n ∧ s.size ≤ 10000 ∧ ∀ H' p xs, Same H H' → H p = none → H' p = some (.lst xs) → F2 (KdP K H') (s.kinds ah) xs → Q (.ref p) H'
theorem ok_lkinds {f : Addr} {fd : FuncData} {k : Nat} (F : Fun K "_law_kinds" "_law_kinds" sLKinds f fd) (gF : mg "_law_kinds" = some (.ref f)) (bF : Binds K fd ["_law_sentence", "_law_ahead"] []) :
    ∀ n, FnOk P w K mg base CX0 (k + n) f fd ["_law_sentence", "_law_ahead"] (spLKinds K n)
  | 0 => vac fun vs H Q E ⟨x, ah, s, Hb, _, _, _, _, _, z, _⟩ => absurd (Nat.le_trans s.hi_pos z) (by decide)
  | n + 1 => by
    have IH : FnOk P w K mg base CX0 (k + n) f fd ["_law_sentence", "_law_ahead"] (spLKinds K n) := ok_lkinds F gF bF n
    refine F.ok scLKinds (fun vs H Q E h => ?_) (fun cdv A outer s H vs Q E hr h => ?_)
    · obtain ⟨x, ah, s, Hb, rfl, _⟩ := h
      rfl
    · obtain ⟨x, ah, s, Hb, rfl, hb, hd, ok, wf, small, big, q⟩ := h
      refine ⟨_, (pss_cons (ps_if (pt_cmpR op_in_seq (pe_ix ix_tup (pv 0) pe_int (fun _ _ => rfl)) (pe_lst (pa_cons pe_str (pa_cons pe_str pa_nil))) (by with_unfolding_all rfl))
      (pss_one (ps_ret (pe_lst (pa_cons (pe_tup (pa_cons (pv 1) (pa_cons (pe_ix ix_tup (pv 0) pe_int (fun _ _ => rfl)) pa_nil))) pa_nil)))) pss_nil)
    (pss_cons (ps_set (i := 2) scLKinds.nd rfl (.inl rfl) (pe_lst (pa_cons (pe_tup (pa_cons (pv 1) (pa_cons (pe_ix ix_tup (pv 0) pe_int (fun _ _ => rfl)) pa_nil))) pa_nil)))
    (pss_cons (ps_for PassesOwn.never rfl (pi_tup (pe_ifExp (pt_cmpR op_in_seq (pe_ix ix_tup (pv 0) pe_int (fun _ _ => rfl)) (pe_lst (pa_cons pe_str (pa_cons pe_str pa_nil))) (by with_unfolding_all rfl)) (pe_slice sl_tup (pv 0) (po_some pe_int) po_none) (pe_slice sl_tup (pv 0) (po_some pe_int) po_none))) (pg_name (i := 3) scLKinds.nd rfl (.inl rfl))
      (pss_one (ps_set (i := 2) scLKinds.nd rfl (.inl rfl) (pe_op op_cat (pv 2) (pe_call IH hr (by rfl) gF F.kp bF .nil pass0 (pa_cons (pv 3) (pa_cons (pe_ix ix_tup (pv 0) pe_int (fun _ _ => rfl)) pa_nil)))))))
    (pss_one (ps_ret (pv 2)))))), ?_⟩
      have kl := Sn.kinds_len s ah
      rcases sn_three hd ok wf small with ⟨eq, as, a, vs, rfl, rfl, sq, all, _⟩ | ⟨al, z, s', a, v2, rfl, rfl, sq, h2, ok', wf', hi'⟩ | ⟨wd, ss, vs, a, rfl, sq, ps⟩
      · have sqH := (TK.same hb).sq sq
        refine ⟨.ref a, rfl, a, _, 0, _, rfl, rfl, sqH, atI_nat (j := 0) rfl, (by show 2 ≤ sizeLine; rw [sizeLine_eq]; decide), fun l nl => ⟨l, _, rfl, .inl (.inl (.inl upd_same)), rfl, rfl, _, rfl, go_in (atm_in eq as) ?_⟩⟩
        have s0 : Same H (upd H l (.lst [.str "is", .str "equal"])) := same_new (fun b o e => e) nl _
        generalize upd H l (.lst [.str "is", .str "equal"]) = G0 at s0
        refine ⟨_, rfl, .ref a, rfl, a, _, 0, _, rfl, rfl, (TK.same s0).sq sqH, atI_nat (j := 0) rfl, (by show 2 ≤ sizeLine; rw [sizeLine_eq]; decide), fun t nt => ?_⟩
        have s1 : Same H (upd G0 t (.tup [.str ah, .str (Sn.word (.atm eq as))])) := same_new s0 nt _
        have e1 : (upd G0 t (.tup [.str ah, .str (Sn.word (.atm eq as))])) t = some (.tup [.str ah, .str (Sn.word (.atm eq as))]) := upd_same
        generalize upd G0 t (.tup [.str ah, .str (Sn.word (.atm eq as))]) = G1 at s1 e1
        refine ⟨(by show 1 ≤ sizeLine; decide), fun r nr => ?_⟩
        have s2 : Same G1 (upd G1 r (.lst [.ref t])) := same_new (fun b o e => e) nr _
        exact q _ r [.ref t] (s1.trans s2) (none_before s1 nr) upd_same (F2.one ⟨t, rfl, .inl (.inl (s2 _ _ e1))⟩)
      · have sqH := (TK.same hb).sq sq
        refine ⟨.ref a, rfl, a, _, 0, _, rfl, rfl, sqH, atI_nat (j := 0) rfl, (by show 2 ≤ sizeLine; rw [sizeLine_eq]; decide), fun l nl => ⟨l, _, rfl, .inl (.inl (.inl upd_same)), rfl, rfl, _, rfl, go_out (qu_out al z s') ?_⟩⟩
        have s0 : Same H (upd H l (.lst [.str "is", .str "equal"])) := same_new (fun b o e => e) nl _
        generalize upd H l (.lst [.str "is", .str "equal"]) = G0 at s0
        refine ⟨_, rfl, .ref a, rfl, a, _, 0, _, rfl, rfl, (TK.same s0).sq sqH, atI_nat (j := 0) rfl, (by show 2 ≤ sizeLine; rw [sizeLine_eq]; decide), fun t nt => ?_⟩
        have s1 : Same H (upd G0 t (.tup [.str ah, .str (Sn.word (.qu al z s'))])) := same_new s0 nt _
        have e1 : (upd G0 t (.tup [.str ah, .str (Sn.word (.qu al z s'))])) t = some (.tup [.str ah, .str (Sn.word (.qu al z s'))]) := upd_same
        generalize upd G0 t (.tup [.str ah, .str (Sn.word (.qu al z s'))]) = G1 at s1 e1
        refine ⟨(by show 1 ≤ sizeLine; decide), fun lf nlf => ?_⟩
        have s2 : Same G1 (upd G1 lf (.lst [.ref t])) := same_new (fun b o e => e) nlf _
        have e2 : (upd G1 lf (.lst [.ref t])) lf = some (.lst [.ref t]) := upd_same
        have nlfH := none_before s1 nlf
        have s12 := s1.trans s2
        have e12 := s2 _ _ e1
        generalize upd G1 lf (.lst [.ref t]) = G2 at s2 e2 s12 e12
        refine ⟨.ref a, rfl, a, _, 0, _, rfl, rfl, (TK.same s12).sq sqH, atI_nat (j := 0) rfl, (by show 2 ≤ sizeLine; rw [sizeLine_eq]; decide), fun l nl => ⟨l, _, rfl, .inl (.inl (.inl upd_same)), rfl, rfl, _, rfl, go_in (qu_in al z s') ?_⟩⟩
        have s3 : Same G2 (upd G2 l (.lst [.str "all", .str "some"])) := same_new (fun b o e => e) nl _
        have s13 := s12.trans s3
        have e13 := s3 _ _ e12
        have e23 := s3 _ _ e2
        generalize upd G2 l (.lst [.str "all", .str "some"]) = G3 at s3 s13 e13 e23
        refine ⟨.ref a, rfl, 2, rfl, a, _, rfl, (TK.same s13).sq sqH, cut_two'.1, fun p3 n3 => ?_⟩
        rw [cut_two'.2]
        have s4 : Same G3 (upd G3 p3 (.tup [v2])) := same_new (fun b o e => e) n3 _
        have e3 : (upd G3 p3 (.tup [v2])) p3 = some (.tup [v2]) := upd_same
        have s14 := s13.trans s4
        have e14 := s4 _ _ e13
        have e24 := s4 _ _ e23
        generalize upd G3 p3 (.tup [v2]) = G4 at s4 e3 s14 e14 e24
        have kq : Sn.kinds ah (.qu al z s') = (ah, Sn.word (.qu al z s')) :: ([s']).flatMap (Sn.kinds (Sn.word (.qu al z s'))) := by
          show _ :: Sn.kinds _ s' = _ :: (Sn.kinds _ s' ++ [])
          rw [List.append_nil]
        refine ⟨p3, rfl, ⟨_, .inl (.inl e3)⟩, for_tup (K := K) (a := p3) (xs := [v2]) (fun i σ G => ∃ (lf : Addr) (v3 : Option V) (acc : List V), σ = [some (.ref a), some (.str ah), some (.ref lf), v3] ∧ Same H G ∧ Same G4 G ∧ H lf = none ∧ G lf = some (.lst acc) ∧ F2 (KdP K G) ((ah, Sn.word (.qu al z s')) :: (([s']).take i).flatMap (Sn.kinds (Sn.word (.qu al z s')))) acc) ⟨lf, none, [.ref t], rfl, s14, fun b o e => e, nlfH, e24, F2.one ⟨t, rfl, .inl (.inl e14)⟩⟩ (fun i σ G _ ⟨_, _, _, _, _, s, _⟩ => .inl (.inl (s _ _ e3))) ?_ ?_⟩
        · rintro i y σ G hy ⟨lf, v3, acc, rfl, sm, s5, nlf, glf, fa⟩
          have il : i < 1 := (List.getElem?_eq_some_iff.mp hy).1
          obtain ⟨s2', hs2, dy, okS, wfS, hiS⟩ : ∃ s2', [s'][i]? = some s2' ∧ Dp K Hb y s2'.d ∧ s2'.ok = true ∧ s2'.wf = true ∧ s2'.hi ≤ n := by
            match i, hy with
            | 0, hy =>
              cases hy
              exact ⟨s', rfl, h2, ok', wf', hi'⟩
          have tot := congrArg List.length kq
          rw [Sn.kinds_len, List.length_cons] at tot
          have pre1 : ((([s']).take (i + 1)).flatMap (Sn.kinds (Sn.word (.qu al z s')))).length ≤ (([s']).flatMap (Sn.kinds (Sn.word (.qu al z s')))).length := by
            have e : ([s']).flatMap (Sn.kinds (Sn.word (.qu al z s'))) = (([s']).take (i + 1)).flatMap (Sn.kinds (Sn.word (.qu al z s'))) ++ (([s']).drop (i + 1)).flatMap (Sn.kinds (Sn.word (.qu al z s'))) := by rw [← List.flatMap_append, List.take_append_drop]
            rw [e, List.length_append]
            omega
          have st : (([s']).take (i + 1)).flatMap (Sn.kinds (Sn.word (.qu al z s'))) = (([s']).take i).flatMap (Sn.kinds (Sn.word (.qu al z s'))) ++ Sn.kinds (Sn.word (.qu al z s')) s2' := by
            rw [take_next hs2, List.flatMap_append, List.flatMap_cons, List.flatMap_nil, List.append_nil]
          rw [st, List.length_append] at pre1
          have lf1 := fa.len
          rw [List.length_cons] at lf1
          have k2 := fun w => Sn.kinds_len s2' w
          rw [k2] at pre1
          refine ⟨.ref lf, rfl, y, rfl, .ref a, rfl, a, _, 0, _, rfl, rfl, (TK.same sm).sq sqH, atI_nat (j := 0) rfl, y, Sn.word (.qu al z s'), s2', Hb, rfl, hb.trans sm, dy, okS, wfS, hiS, by omega, fun G5 p5 xs5 sm5 n5 e5 f5 => ?_⟩
          have l5 := f5.len
          rw [k2] at l5
          refine ⟨lf, p5, _, _, rfl, rfl, sm5 _ _ glf, e5, by rw [sizeLine_eq]; omega, fun l6 n6 => ?_⟩
          have s6 : Same G5 (upd G5 l6 (.lst (acc ++ xs5))) := same_new (fun b o e => e) n6 _
          refine ⟨l6, some y, acc ++ xs5, rfl, sm.trans (sm5.trans s6), s5.trans (sm5.trans s6), none_before (sm.trans sm5) n6, upd_same, ?_⟩
          rw [st, ← List.cons_append]
          exact F2.app (fa.mono (KdP.mono (TK.same (sm5.trans s6)))) (f5.mono (KdP.mono (TK.same s6)))
        · rintro σ G ⟨lf, v3, acc, rfl, sm, s5, nlf, glf, fa⟩
          rw [show (([s']).take ([v2]).length) = [s'] from rfl, ← kq] at fa
          exact ⟨_, rfl, q G lf acc sm nlf glf fa⟩
      · have sqH := (TK.same hb).sq sq
        refine ⟨.ref a, rfl, a, _, 0, _, rfl, rfl, sqH, atI_nat (j := 0) rfl, (by show 2 ≤ sizeLine; rw [sizeLine_eq]; decide), fun l nl => ⟨l, _, rfl, .inl (.inl (.inl upd_same)), rfl, rfl, _, rfl, go_out (out_two ps.n1 ps.n2) ?_⟩⟩
        have s0 : Same H (upd H l (.lst [.str "is", .str "equal"])) := same_new (fun b o e => e) nl _
        generalize upd H l (.lst [.str "is", .str "equal"]) = G0 at s0
        refine ⟨_, rfl, .ref a, rfl, a, _, 0, _, rfl, rfl, (TK.same s0).sq sqH, atI_nat (j := 0) rfl, (by show 2 ≤ sizeLine; rw [sizeLine_eq]; decide), fun t nt => ?_⟩
        have s1 : Same H (upd G0 t (.tup [.str ah, .str (wd)])) := same_new s0 nt _
        have e1 : (upd G0 t (.tup [.str ah, .str (wd)])) t = some (.tup [.str ah, .str (wd)]) := upd_same
        generalize upd G0 t (.tup [.str ah, .str (wd)]) = G1 at s1 e1
        refine ⟨(by show 1 ≤ sizeLine; decide), fun lf nlf => ?_⟩
        have s2 : Same G1 (upd G1 lf (.lst [.ref t])) := same_new (fun b o e => e) nlf _
        have e2 : (upd G1 lf (.lst [.ref t])) lf = some (.lst [.ref t]) := upd_same
        have nlfH := none_before s1 nlf
        have s12 := s1.trans s2
        have e12 := s2 _ _ e1
        generalize upd G1 lf (.lst [.ref t]) = G2 at s2 e2 s12 e12
        refine ⟨.ref a, rfl, a, _, 0, _, rfl, rfl, (TK.same s12).sq sqH, atI_nat (j := 0) rfl, (by show 2 ≤ sizeLine; rw [sizeLine_eq]; decide), fun l nl => ⟨l, _, rfl, .inl (.inl (.inl upd_same)), rfl, rfl, _, rfl, go_out (out_two ps.n3 ps.n4) ?_⟩⟩
        have s3 : Same G2 (upd G2 l (.lst [.str "all", .str "some"])) := same_new (fun b o e => e) nl _
        have s13 := s12.trans s3
        have e13 := s3 _ _ e12
        have e23 := s3 _ _ e2
        generalize upd G2 l (.lst [.str "all", .str "some"]) = G3 at s3 s13 e13 e23
        refine ⟨.ref a, rfl, 1, rfl, a, _, rfl, (TK.same s13).sq sqH, cut_args.1, fun p3 n3 => ?_⟩
        rw [cut_args.2]
        have s4 : Same G3 (upd G3 p3 (.tup vs)) := same_new (fun b o e => e) n3 _
        have e3 : (upd G3 p3 (.tup vs)) p3 = some (.tup vs) := upd_same
        have s14 := s13.trans s4
        have e14 := s4 _ _ e13
        have e24 := s4 _ _ e23
        generalize upd G3 p3 (.tup vs) = G4 at s4 e3 s14 e14 e24
        have kq : Sn.kinds ah s = (ah, wd) :: (ss).flatMap (Sn.kinds (wd)) := by
          rcases ps.kind with ⟨s', rfl, rfl, rfl⟩ | ⟨sA, sB, rfl, rfl, _⟩
          · show _ :: Sn.kinds _ s' = _ :: (Sn.kinds _ s' ++ [])
            rw [List.append_nil]
          · show _ :: (Sn.kinds _ sA ++ Sn.kinds _ sB) = _ :: (Sn.kinds _ sA ++ (Sn.kinds _ sB ++ []))
            rw [List.append_nil]
        refine ⟨p3, rfl, ⟨_, .inl (.inl e3)⟩, for_tup (K := K) (a := p3) (xs := vs) (fun i σ G => ∃ (lf : Addr) (v3 : Option V) (acc : List V), σ = [some (.ref a), some (.str ah), some (.ref lf), v3] ∧ Same H G ∧ Same G4 G ∧ H lf = none ∧ G lf = some (.lst acc) ∧ F2 (KdP K G) ((ah, wd) :: ((ss).take i).flatMap (Sn.kinds (wd))) acc) ⟨lf, none, [.ref t], rfl, s14, fun b o e => e, nlfH, e24, F2.one ⟨t, rfl, .inl (.inl e14)⟩⟩ (fun i σ G _ ⟨_, _, _, _, _, s, _⟩ => .inl (.inl (s _ _ e3))) ?_ ?_⟩
        · rintro i y σ G hy ⟨lf, v3, acc, rfl, sm, s5, nlf, glf, fa⟩
          obtain ⟨s2', hs2, dy⟩ := ps.data.get hy
          obtain ⟨okS, wfS, hiS⟩ := ps.each s2' (List.mem_of_getElem? hs2)
          have tot := congrArg List.length kq
          rw [Sn.kinds_len, List.length_cons] at tot
          have pre1 : (((ss).take (i + 1)).flatMap (Sn.kinds (wd))).length ≤ ((ss).flatMap (Sn.kinds (wd))).length := by
            have e : (ss).flatMap (Sn.kinds (wd)) = ((ss).take (i + 1)).flatMap (Sn.kinds (wd)) ++ ((ss).drop (i + 1)).flatMap (Sn.kinds (wd)) := by rw [← List.flatMap_append, List.take_append_drop]
            rw [e, List.length_append]
            omega
          have st : ((ss).take (i + 1)).flatMap (Sn.kinds (wd)) = ((ss).take i).flatMap (Sn.kinds (wd)) ++ Sn.kinds (wd) s2' := by
            rw [take_next hs2, List.flatMap_append, List.flatMap_cons, List.flatMap_nil, List.append_nil]
          rw [st, List.length_append] at pre1
          have lf1 := fa.len
          rw [List.length_cons] at lf1
          have k2 := fun w => Sn.kinds_len s2' w
          rw [k2] at pre1
          refine ⟨.ref lf, rfl, y, rfl, .ref a, rfl, a, _, 0, _, rfl, rfl, (TK.same sm).sq sqH, atI_nat (j := 0) rfl, y, wd, s2', Hb, rfl, hb.trans sm, dy, okS, wfS, hiS, by omega, fun G5 p5 xs5 sm5 n5 e5 f5 => ?_⟩
          have l5 := f5.len
          rw [k2] at l5
          refine ⟨lf, p5, _, _, rfl, rfl, sm5 _ _ glf, e5, by rw [sizeLine_eq]; omega, fun l6 n6 => ?_⟩
          have s6 : Same G5 (upd G5 l6 (.lst (acc ++ xs5))) := same_new (fun b o e => e) n6 _
          refine ⟨l6, some y, acc ++ xs5, rfl, sm.trans (sm5.trans s6), s5.trans (sm5.trans s6), none_before (sm.trans sm5) n6, upd_same, ?_⟩
          rw [st, ← List.cons_append]
          exact F2.app (fa.mono (KdP.mono (TK.same (sm5.trans s6)))) (f5.mono (KdP.mono (TK.same s6)))
        · rintro σ G ⟨lf, v3, acc, rfl, sm, s5, nlf, glf, fa⟩
          rw [show ((ss).take (vs).length) = ss from by rw [ps.data.len, List.take_length], ← kq] at fa
          exact ⟨_, rfl, q G lf acc sm nlf glf fa⟩
end
end Ad

/-! The great names that alls and somes bind, in the order in which they begin. -/
namespace Ad
open PySem PySem.Spec PySem.Calls PyProof.Rows L2
abbrev sLBound : Stmt := topS 42
theorem scLBound : FnScope ["_law_sentence", "_law_found", "_law_part"] ["_law_sentence"] (defScope sLBound) := ⟨rfl, rfl, rfl, by decide +kernel, rfl, by decide +kernel, by decide +kernel⟩
section
variable {P : Program} {w : World} {K : PySem.W.Frag} {mg : Str → Option Value} {base : Heap}
def spLBound (K : PySem.W.Frag) (n : Nat) : Sp := fun vs H Q _ => ∃ (x : V) (s : Sn) (Hb : Hp), vs = [x] ∧ Same Hb H ∧ Dp K Hb x s.d ∧ s.ok = true ∧ s.wf = true ∧ s.hi ≤ n ∧ s.size ≤ 10000 ∧ ∀ H' p, Same H H' → H p = none → H' p = some (.lst (s.bnd.map V.str)) → Q (.ref p) H'
theorem ok_lbound {f : Addr} {fd : FuncData} {k : Nat} (F : Fun K "_law_bound" "_law_bound" sLBound f fd) (gF : mg "_law_bound" = some (.ref f)) (bF : Binds K fd ["_law_sentence"] []) :
    ∀ n, FnOk P w K mg base CX0 (k + n) f fd ["_law_sentence"] (spLBound K n)
  | 0 => vac fun vs H Q E ⟨x, s, Hb, _, _, _, _, _, z, _⟩ => absurd (Nat.le_trans s.hi_pos z) (by decide)
  | n + 1 => by
    have IH : FnOk P w K mg base CX0 (k + n) f fd ["_law_sentence"] (spLBound K n) := ok_lbound F gF bF n
    refine F.ok scLBound (fun vs H Q E h => ?_) (fun cdv A outer s H vs Q E hr h => ?_)
    · obtain ⟨x, s, Hb, rfl, _⟩ := h
      rfl
    · obtain ⟨x, s, Hb, rfl, hb, hd, ok, wf, small, big, q⟩ := h
      refine ⟨_, (pss_cons (ps_if (pt_cmpR op_in_seq (pe_ix ix_tup (pv 0) pe_int (fun _ _ => rfl)) (pe_lst (pa_cons pe_str (pa_cons pe_str pa_nil))) (by with_unfolding_all rfl))
      (pss_one (ps_ret (pe_lst pa_nil))) pss_nil)
    (pss_cons (ps_if (pt_cmpR op_in_seq (pe_ix ix_tup (pv 0) pe_int (fun _ _ => rfl)) (pe_lst (pa_cons pe_str (pa_cons pe_str pa_nil))) (by with_unfolding_all rfl))
      (pss_one (ps_ret (pe_op op_cat (pe_lst (pa_cons (pe_ix ix_tup (pv 0) pe_int (fun _ _ => rfl)) pa_nil)) (pe_call IH hr (by rfl) gF F.kp bF .nil pass0 (pa_cons (pe_ix ix_tup (pv 0) pe_int (fun _ _ => rfl)) pa_nil))))) pss_nil)
    (pss_cons (ps_set (i := 1) scLBound.nd rfl (.inl rfl) (pe_lst pa_nil))
    (pss_cons (ps_for PassesOwn.never rfl (pi_tup (pe_slice sl_tup (pv 0) (po_some pe_int) po_none)) (pg_name (i := 2) scLBound.nd rfl (.inl rfl))
      (pss_one (ps_set (i := 1) scLBound.nd rfl (.inl rfl) (pe_op op_cat (pv 1) (pe_call IH hr (by rfl) gF F.kp bF .nil pass0 (pa_cons (pv 2) pa_nil))))))
    (pss_one (ps_ret (pv 1))))))), ?_⟩
      have qsz := Sn.qs_size s
      have bl := Sn.bnd_len s
      rcases sn_three hd ok wf small with ⟨eq, as, a, vs, rfl, rfl, sq, all, _⟩ | ⟨al, z, s', a, v2, rfl, rfl, sq, h2, ok', wf', hi'⟩ | ⟨wd, ss, vs, a, rfl, sq, ps⟩
      · have sqH := (TK.same hb).sq sq
        refine ⟨.ref a, rfl, a, _, 0, _, rfl, rfl, sqH, atI_nat (j := 0) rfl, (by show 2 ≤ sizeLine; rw [sizeLine_eq]; decide), fun l nl => ⟨l, _, rfl, .inl (.inl (.inl upd_same)), rfl, rfl, _, rfl, go_in (atm_in eq as) ?_⟩⟩
        have s0 : Same H (upd H l (.lst [.str "is", .str "equal"])) := same_new (fun b o e => e) nl _
        refine ⟨Nat.zero_le _, fun r nr => ?_⟩
        exact q _ r (same_new s0 nr _) (none_before s0 nr) upd_same
      · have sqH := (TK.same hb).sq sq
        refine ⟨.ref a, rfl, a, _, 0, _, rfl, rfl, sqH, atI_nat (j := 0) rfl, (by show 2 ≤ sizeLine; rw [sizeLine_eq]; decide), fun l nl => ⟨l, _, rfl, .inl (.inl (.inl upd_same)), rfl, rfl, _, rfl, go_out (qu_out al z s') ?_⟩⟩
        have s0 : Same H (upd H l (.lst [.str "is", .str "equal"])) := same_new (fun b o e => e) nl _
        generalize upd H l (.lst [.str "is", .str "equal"]) = G0 at s0
        refine ⟨.ref a, rfl, a, _, 0, _, rfl, rfl, (TK.same s0).sq sqH, atI_nat (j := 0) rfl, (by show 2 ≤ sizeLine; rw [sizeLine_eq]; decide), fun l nl => ⟨l, _, rfl, .inl (.inl (.inl upd_same)), rfl, rfl, _, rfl, go_in (qu_in al z s') ?_⟩⟩
        have s1 : Same H (upd G0 l (.lst [.str "all", .str "some"])) := same_new s0 nl _
        generalize upd G0 l (.lst [.str "all", .str "some"]) = G1 at s1
        refine ⟨.ref a, rfl, a, _, 1, _, rfl, rfl, (TK.same s1).sq sqH, atI_nat (j := 1) rfl, (by show 1 ≤ sizeLine; decide), fun t nt => ?_⟩
        have s2 : Same H (upd G1 t (.lst [.str z])) := same_new s1 nt _
        have e2 : (upd G1 t (.lst [.str z])) t = some (.lst [.str z]) := upd_same
        generalize upd G1 t (.lst [.str z]) = G2 at s2 e2
        have sz1 : 1 + s'.size ≤ 10000 := big
        refine ⟨.ref a, rfl, a, _, 2, v2, rfl, rfl, (TK.same s2).sq sqH, atI_nat (j := 2) rfl, v2, s', Hb, rfl, hb.trans s2, h2, ok', wf', hi', by omega, fun G3 p3 s3 n3 e3 => ?_⟩
        have bl2 := Sn.bnd_len s'
        have qs2 := Sn.qs_size s'
        refine ⟨t, p3, _, _, rfl, rfl, s3 _ _ e2, e3, by rw [List.length_map, sizeLine_eq]; show 1 + _ ≤ _; omega, fun r nr => ?_⟩
        exact q _ r (same_new (s2.trans s3) nr _) (none_before (s2.trans s3) nr) upd_same
      · have sqH := (TK.same hb).sq sq
        refine ⟨.ref a, rfl, a, _, 0, _, rfl, rfl, sqH, atI_nat (j := 0) rfl, (by show 2 ≤ sizeLine; rw [sizeLine_eq]; decide), fun l nl => ⟨l, _, rfl, .inl (.inl (.inl upd_same)), rfl, rfl, _, rfl, go_out (out_two ps.n1 ps.n2) ?_⟩⟩
        have s0 : Same H (upd H l (.lst [.str "is", .str "equal"])) := same_new (fun b o e => e) nl _
        generalize upd H l (.lst [.str "is", .str "equal"]) = G0 at s0
        refine ⟨.ref a, rfl, a, _, 0, _, rfl, rfl, (TK.same s0).sq sqH, atI_nat (j := 0) rfl, (by show 2 ≤ sizeLine; rw [sizeLine_eq]; decide), fun l nl => ⟨l, _, rfl, .inl (.inl (.inl upd_same)), rfl, rfl, _, rfl, go_out (out_two ps.n3 ps.n4) ?_⟩⟩
        have s1 : Same H (upd G0 l (.lst [.str "all", .str "some"])) := same_new s0 nl _
        generalize upd G0 l (.lst [.str "all", .str "some"]) = G1 at s1
        refine ⟨Nat.zero_le _, fun lf nlf => ?_⟩
        have s2 : Same H (upd G1 lf (.lst [])) := same_new s1 nlf _
        have e2 : (upd G1 lf (.lst [])) lf = some (.lst []) := upd_same
        have nlfH := none_before s1 nlf
        generalize upd G1 lf (.lst []) = G2 at s2 e2
        refine ⟨.ref a, rfl, 1, rfl, a, _, rfl, (TK.same s2).sq sqH, cut_args.1, fun p3 n3 => ?_⟩
        rw [cut_args.2]
        have s14 : Same H (upd G2 p3 (.tup vs)) := same_new s2 n3 _
        have e3 : (upd G2 p3 (.tup vs)) p3 = some (.tup vs) := upd_same
        have e24 : (upd G2 p3 (.tup vs)) lf = some (.lst []) := by rw [upd_ne (ne_of_none e2 n3)]; exact e2
        generalize upd G2 p3 (.tup vs) = G4 at e3 s14 e24
        have kq : s.bnd = ss.flatMap Sn.bnd := by
          rcases ps.kind with ⟨s', rfl, rfl, rfl⟩ | ⟨sA, sB, rfl, rfl, _⟩
          · show Sn.bnd s' = Sn.bnd s' ++ []
            rw [List.append_nil]
          · show Sn.bnd sA ++ Sn.bnd sB = Sn.bnd sA ++ (Sn.bnd sB ++ [])
            rw [List.append_nil]
        have szs : ∀ u ∈ ss, u.size ≤ s.size := by
          rcases ps.kind with ⟨s', rfl, rfl, rfl⟩ | ⟨sA, sB, rfl, rfl, _⟩
          · intro u hu
            rw [List.mem_singleton.mp hu]
            show s'.size ≤ 1 + s'.size
            omega
          · intro u hu
            rcases List.mem_cons.mp hu with rfl | hu
            · show u.size ≤ 1 + u.size + sB.size
              omega
            · rw [List.mem_singleton.mp hu]
              show sB.size ≤ 1 + sA.size + sB.size
              omega
        refine ⟨p3, rfl, ⟨_, .inl (.inl e3)⟩, for_tup (K := K) (a := p3) (xs := vs) (fun i σ G => ∃ (lf : Addr) (v3 : Option V), σ = [some (.ref a), some (.ref lf), v3] ∧ Same H G ∧ Same G4 G ∧ H lf = none ∧ G lf = some (.lst (((ss.take i).flatMap Sn.bnd).map V.str))) ⟨lf, none, rfl, s14, fun b o e => e, nlfH, e24⟩ (fun i σ G _ ⟨_, _, _, _, s, _⟩ => .inl (.inl (s _ _ e3))) ?_ ?_⟩
        · rintro i y σ G hy ⟨lf, v3, rfl, sm, s5, nlf, glf⟩
          obtain ⟨s2', hs2, dy⟩ := ps.data.get hy
          obtain ⟨okS, wfS, hiS⟩ := ps.each s2' (List.mem_of_getElem? hs2)
          have sle := szs s2' (List.mem_of_getElem? hs2)
          have st : (ss.take (i + 1)).flatMap Sn.bnd = (ss.take i).flatMap Sn.bnd ++ Sn.bnd s2' := by
            rw [take_next hs2, List.flatMap_append, List.flatMap_cons, List.flatMap_nil, List.append_nil]
          have pre1 : ((ss.take (i + 1)).flatMap Sn.bnd).length ≤ s.bnd.length := by
            have e : ss.flatMap Sn.bnd = (ss.take (i + 1)).flatMap Sn.bnd ++ (ss.drop (i + 1)).flatMap Sn.bnd := by rw [← List.flatMap_append, List.take_append_drop]
            rw [kq, e, List.length_append]
            omega
          rw [st, List.length_append] at pre1
          refine ⟨.ref lf, rfl, y, rfl, y, s2', Hb, rfl, hb.trans sm, dy, okS, wfS, hiS, by omega, fun G5 p5 sm5 n5 e5 => ?_⟩
          refine ⟨lf, p5, _, _, rfl, rfl, sm5 _ _ glf, e5, by rw [List.length_map, List.length_map, sizeLine_eq]; omega, fun l6 n6 => ?_⟩
          refine ⟨l6, some y, rfl, same_new (sm.trans sm5) n6 _, same_new (s5.trans sm5) n6 _, none_before (sm.trans sm5) n6, ?_⟩
          rw [upd_same, st, List.map_append]
        · rintro σ G ⟨lf, v3, rfl, sm, s5, nlf, glf⟩
          rw [ps.data.len, List.take_length, ← kq] at glf
          exact ⟨_, rfl, q G lf sm nlf glf⟩
end
end Ad

/-! meaning, case by case. -/
namespace Ad
open PySem PySem.Spec PySem.Calls PyProof.Rows L2
theorem tAnd0 {A : Bool} : (if A = true then true else false) = A := by cases A <;> rfl
theorem go_ors {x y z : Str} (h : x = y ∨ x = z) {A B : Prop} (a : A) : if decide (V.str x = V.str y) = true then A else if decide (V.str x = V.str z) = true then A else B := by
  by_cases e : x = y
  · subst e
    exact go_eq a
  · rcases h with h | h
    · exact absurd h e
    · subst h
      exact go_ne e (go_eq a)
section
variable {P : Program} {w : World} {K : PySem.W.Frag} {mg : Str → Option Value} {base : Heap}
theorem ok_meaning {C f fV fE : Addr} {fd fdV fdE : FuncData} {k : Nat} (F : Fun K "meaning" "meaning" sMeaning f fd) (gF : mg "meaning" = some (.ref f)) (bF : Binds K fd ["structure", "sentence", "values"] [])
    (GV : FnOk P w K mg base CX0 k fV fdV ["structure", "term", "values"] (spValIn K C 60)) (gV : mg "value_in" = some (.ref fV)) (kV : PySem.W.keepIn K (.ref fV) = true) (bV : Binds K fdV ["structure", "term", "values"] [])
    (FE : Fun K "_meaning_for_each" "_meaning_for_each" sMeanEach fE fdE) (gE : mg "_meaning_for_each" = some (.ref fE)) (bE : Binds K fdE ["structure", "sentence", "values"] [])
    (m_dict : mg "dict" = none) (m_range : mg "range" = none) (cls : Cls K C) (na1 : NoAttr K C "size") :
    ∀ n, FnOk P w K mg base CX0 (k + 2 * n) f fd ["structure", "sentence", "values"] (spMean K C n)
  | 0 => vac fun vs H Q E ⟨o, td, vd, x, s, M, E', R, S, kn, Hb, m, _, _, _, _, _, _, _, _, z, _⟩ => absurd (Nat.le_trans s.hi_pos z) (by decide)
  | n + 1 => by
    have IH0 : FnOk P w K mg base CX0 (k + 2 * n) f fd ["structure", "sentence", "values"] (spMean K C n) := ok_meaning F gF bF GV gV kV bV FE gE bE m_dict m_range cls na1 n
    have GE : FnOk P w K mg base CX0 (k + 2 * n + 1) fE fdE ["structure", "sentence", "values"] (spMeanEach K C n) := ok_meaneach FE IH0 gF F.kp bF m_dict m_range cls na1
    have IH : FnOk P w K mg base CX0 (k + 2 * n + 1) f fd ["structure", "sentence", "values"] (spMean K C n) := IH0.mono (Nat.le_succ _)
    have GV' : FnOk P w K mg base CX0 (k + 2 * n + 1) fV fdV ["structure", "term", "values"] (spValIn K C 60) := GV.mono (by omega)
    show FnOk P w K mg base CX0 (k + 2 * n + 1 + 1) f fd ["structure", "sentence", "values"] (spMean K C (n + 1))
    refine F.ok scMeaning (fun vs H Q E h => ?_) (fun cdv A outer s H vs Q E hr h => ?_)
    · obtain ⟨o, td, vd, x, s, M, E', R, S, kn, Hb, m, rfl, _⟩ := h
      rfl
    · obtain ⟨o, td, vd, x, s, M, En, R, S, kn, Hb, m, rfl, st, ask, val, mm, hb, hd, sa, small, q⟩ := h
      refine ⟨_, (pss_cons (ps_set (i := 3) scMeaning.nd rfl (.inl rfl) (pe_ix ix_tup (pv 1) pe_int (fun _ _ => rfl)))
    (pss_cons (ps_if (pt_cmpR op_eq (pv 3) pe_str (nomark _))
      (pss_one (ps_ret (pe_call GV' hr (by rfl) gV kV bV .nil pass0 (pa_cons (pv 0) (pa_cons (pe_ix ix_tup (pv 1) pe_int (fun _ _ => rfl)) (pa_cons (pv 2) pa_nil)))))) pss_nil)
    (pss_cons (ps_if (pt_cmpR op_eq (pv 3) pe_str (nomark _))
      (pss_one (ps_ret (pe_cmpR op_eq (pe_call GV' hr (by rfl) gV kV bV .nil pass0 (pa_cons (pv 0) (pa_cons (pe_ix ix_tup (pv 1) pe_int (fun _ _ => rfl)) (pa_cons (pv 2) pa_nil)))) (pe_call GV' hr (by rfl) gV kV bV .nil pass0 (pa_cons (pv 0) (pa_cons (pe_ix ix_tup (pv 1) pe_int (fun _ _ => rfl)) (pa_cons (pv 2) pa_nil)))) (nomark _)))) pss_nil)
    (pss_cons (ps_if (pt_cmpR op_eq (pv 3) pe_str (nomark _))
      (pss_one (ps_ret (pe_not (pe_call IH hr (by rfl) gF F.kp bF .nil pass0 (pa_cons (pv 0) (pa_cons (pe_ix ix_tup (pv 1) pe_int (fun _ _ => rfl)) (pa_cons (pv 2) pa_nil))))))) pss_nil)
    (pss_cons (ps_if (PW.pt (pw_or (pt_cmpR op_eq (pv 3) pe_str (nomark _)) (pw_or1 (pt_cmpR op_eq (pv 3) pe_str (nomark _)))))
      (pss_one (ps_ret (pe_call GE hr (by rfl) gE FE.kp bE .nil pass0 (pa_cons (pv 0) (pa_cons (pv 1) (pa_cons (pv 2) pa_nil)))))) pss_nil)
    (pss_cons (ps_set (i := 4) scMeaning.nd rfl (.inl rfl) (pe_call IH hr (by rfl) gF F.kp bF .nil pass0 (pa_cons (pv 0) (pa_cons (pe_ix ix_tup (pv 1) pe_int (fun _ _ => rfl)) (pa_cons (pv 2) pa_nil)))))
    (pss_cons (ps_if (PW.pt (pw_or (pt_cmpR op_eq (pv 3) pe_str (nomark _)) (pw_or1 (pt_cmpR op_eq (pv 3) pe_str (nomark _)))))
      (pss_one (ps_ret (pe_ifExp (pt_true (pv 4)) (pe_call IH hr (by rfl) gF F.kp bF .nil pass0 (pa_cons (pv 0) (pa_cons (pe_ix ix_tup (pv 1) pe_int (fun _ _ => rfl)) (pa_cons (pv 2) pa_nil)))) (pe_cmpR op_eq (pv 3) pe_str (nomark _))))) pss_nil)
    (pss_cons (ps_if (pt_cmpR op_eq (pv 3) pe_str (nomark _))
      (pss_one (ps_ret (pe_or (pv 4) (pe_one (pe_call IH hr (by rfl) gF F.kp bF .nil pass0 (pa_cons (pv 0) (pa_cons (pe_ix ix_tup (pv 1) pe_int (fun _ _ => rfl)) (pa_cons (pv 2) pa_nil)))))))) pss_nil)
    (pss_one (ps_ret (pe_cmpR op_eq (pv 4) (pe_call IH hr (by rfl) gF F.kp bF .nil pass0 (pa_cons (pv 0) (pa_cons (pe_ix ix_tup (pv 1) pe_int (fun _ _ => rfl)) (pa_cons (pv 2) pa_nil)))) (nomark _)))))))))))), ?_⟩
      cases s with
      | atm eq as =>
        cases eq with
        | false =>
          obtain ⟨r, ds, rfl, hr', ar, hds⟩ := sa.good
          have hok : TopOk R S kn true (.tuple (.str r.1 :: ds)) := ⟨r, ds, rfl, hr', ar, hds⟩
          have p40 := wf_one sa.wf
          obtain ⟨a, v1, rfl, sq, h1⟩ := dp_two (show Dp K Hb x (.tuple [.str "is", .tuple (.str r.1 :: ds)]) from hd)
          have sqH := (TK.same hb).sq sq
          refine ⟨.ref a, rfl, a, _, 0, _, rfl, rfl, sqH, atI_nat (j := 0) rfl, .str "is", rfl, rfl, _, rfl, go_eq ?_⟩
          refine ⟨.ref o, rfl, .ref a, rfl, a, _, 1, v1, rfl, rfl, sqH, atI_nat (j := 1) rfl, .ref vd, rfl, o, td, vd, v1, _, M, En, R, S, kn, Hb, true, rfl, st, ask.ask val (by omega), hb, h1, hok, by omega, Nat.le_refl _, fun H' s' => ?_⟩
          obtain ⟨b, eb⟩ := ev_truth ask.mo ask.en hok
          rw [eb]
          have e2 : mean M En (.atm false [.tuple (.str r.1 :: ds)]) = b := by
            show truV (evT M En (.tuple (.str r.1 :: ds))) = b
            rw [eb]
            rfl
          rw [← e2]
          exact q H' s'
        | true =>
          obtain ⟨t, u, rfl, ht, hu⟩ := sa.good
          obtain ⟨p1, p2⟩ := wf_two sa.wf
          obtain ⟨a, v1, v2, rfl, sq, h1, h2⟩ := dp_three (show Dp K Hb x (.tuple [.str "equal", t, u]) from hd)
          have sqH := (TK.same hb).sq sq
          obtain ⟨n1, l1, e1⟩ := ev_ok ask.mo ask.en t ht
          obtain ⟨n2, l2, e2⟩ := ev_ok ask.mo ask.en u hu
          refine ⟨.ref a, rfl, a, _, 0, _, rfl, rfl, sqH, atI_nat (j := 0) rfl, .str "equal", rfl, rfl, _, rfl, go_ne (by decide +kernel) (?_)⟩
          refine ⟨.str "equal", rfl, rfl, _, rfl, go_eq ?_⟩
          refine ⟨.ref o, rfl, .ref a, rfl, a, _, 1, v1, rfl, rfl, sqH, atI_nat (j := 1) rfl, .ref vd, rfl, o, td, vd, v1, t, M, En, R, S, kn, Hb, false, rfl, st, ask.ask val (by omega), hb, h1, ht, by omega, Nat.le_refl _, fun H1 s1 => ?_⟩
          refine ⟨.ref o, rfl, .ref a, rfl, a, _, 2, v2, rfl, rfl, (TK.same s1).sq sqH, atI_nat (j := 2) rfl, .ref vd, rfl, o, td, vd, v2, u, M, En, R, S, kn, Hb, false, rfl, st.same s1, (ask.ask val (by omega)).same s1, fun b u e => s1 _ _ (hb _ _ e), h2, hu, by omega, Nat.le_refl _, fun H2 s2 => ?_⟩
          rw [e1, e2]
          refine ⟨rfl, ?_⟩
          have e3 : mean M En (.atm true [t, u]) = decide (V.int (n1 : Int) = V.int (n2 : Int)) := by
            show decide (evT M En t = evT M En u) = _
            rw [e1, e2]
          rw [← e3]
          exact q H2 fun b u e => s2 _ _ (s1 _ _ e)
      | one s =>
        obtain ⟨a, v1, rfl, sq, h1⟩ := dp_two (show Dp K Hb x (.tuple [.str "not", s.d]) from hd)
        have sqH := (TK.same hb).sq sq
        have zs : 1 + s.hi ≤ n + 1 := small
        refine ⟨.ref a, rfl, a, _, 0, _, rfl, rfl, sqH, atI_nat (j := 0) rfl, .str "not", rfl, rfl, _, rfl, go_ne (by decide +kernel) (?_)⟩
        refine ⟨.str "not", rfl, rfl, _, rfl, go_ne (by decide +kernel) (?_)⟩
        refine ⟨.str "not", rfl, rfl, _, rfl, go_eq ?_⟩
        refine ⟨.ref o, rfl, .ref a, rfl, a, _, 1, v1, rfl, rfl, sqH, atI_nat (j := 1) rfl, .ref vd, rfl, o, td, vd, v1, s, M, En, R, S, kn, Hb, m, rfl, st, ask, val, by omega, hb, h1, ⟨sa.ok, sa.wf, sa.good⟩, by omega, fun H' s' => ⟨_, rfl, ?_⟩⟩
        exact q H' s'
      | qu al z s =>
        have hd' : Dp K Hb x (.tuple [.str (Sn.word (.qu al z s)), .str z, s.d]) := hd
        obtain ⟨a, v1, v2, rfl, sq, h1, h2⟩ := dp_three hd'
        have sqH := (TK.same hb).sq sq
        have zs : 1 + s.hi ≤ n + 1 := small
        obtain ⟨gz, gs⟩ := sa.good
        have wne : Sn.word (.qu al z s) ≠ "is" ∧ Sn.word (.qu al z s) ≠ "equal" ∧ Sn.word (.qu al z s) ≠ "not" ∧ (Sn.word (.qu al z s) = "all" ∨ Sn.word (.qu al z s) = "some") := by
          cases al with
          | true => exact ⟨(show ¬ (("all" : Str) = "is") by decide +kernel), (show ¬ (("all" : Str) = "equal") by decide +kernel), (show ¬ (("all" : Str) = "not") by decide +kernel), .inl rfl⟩
          | false => exact ⟨(show ¬ (("some" : Str) = "is") by decide +kernel), (show ¬ (("some" : Str) = "equal") by decide +kernel), (show ¬ (("some" : Str) = "not") by decide +kernel), .inr rfl⟩
        refine ⟨.ref a, rfl, a, _, 0, _, rfl, rfl, sqH, atI_nat (j := 0) rfl, .str _, rfl, rfl, _, rfl, go_ne wne.1 (?_)⟩
        refine ⟨.str _, rfl, rfl, _, rfl, go_ne wne.2.1 (?_)⟩
        refine ⟨.str _, rfl, rfl, _, rfl, go_ne wne.2.2.1 (?_)⟩
        cases al with
        | true =>
          refine ⟨.str "all", rfl, rfl, _, rfl, go_eq ?_⟩
          refine iteT ?_
          exact ⟨.ref o, rfl, .ref a, rfl, .ref vd, rfl, o, td, vd, .ref a, true, z, s, M, En, R, S, kn, Hb, m, rfl, st, ask, val, by omega, hb, hd', gz, ⟨sa.ok, sa.wf, gs⟩, by omega, q⟩
        | false =>
          refine ⟨.str "some", rfl, rfl, _, rfl, go_ne (by decide +kernel) ?_⟩
          refine ⟨.str "some", rfl, rfl, _, rfl, go_eq ?_⟩
          exact ⟨.ref o, rfl, .ref a, rfl, .ref vd, rfl, o, td, vd, .ref a, false, z, s, M, En, R, S, kn, Hb, m, rfl, st, ask, val, by omega, hb, hd', gz, ⟨sa.ok, sa.wf, gs⟩, by omega, q⟩
      | two wd sA sB =>
        obtain ⟨a, v1, v2, rfl, sq, h1, h2⟩ := dp_three (show Dp K Hb x (.tuple [.str wd, sA.d, sB.d]) from hd)
        have sqH := (TK.same hb).sq sq
        have zs : 1 + max sA.hi sB.hi ≤ n + 1 := small
        obtain ⟨okw, okAB⟩ := Bool.and_eq_true_iff.mp (show (decide (wd ∈ (["and", "or", "then", "same"] : List Str)) && (sA.ok && sB.ok)) = true from sa.ok)
        obtain ⟨okA, okB⟩ := Bool.and_eq_true_iff.mp okAB
        obtain ⟨wfA, wfB⟩ := Bool.and_eq_true_iff.mp (show (sA.wf && sB.wf) = true from sa.wf)
        obtain ⟨gA, gB⟩ := sa.good
        have wd4 := of_decide_eq_true okw
        have nw : wd ≠ "not" := by
          rcases List.mem_cons.mp wd4 with rfl | h
          · decide +kernel
          rcases List.mem_cons.mp h with rfl | h
          · decide +kernel
          rcases List.mem_cons.mp h with rfl | h
          · decide +kernel
          cases List.mem_singleton.mp h
          decide +kernel
        obtain ⟨n1, n2, n3, n4⟩ := word_two wd4
        refine ⟨.ref a, rfl, a, _, 0, _, rfl, rfl, sqH, atI_nat (j := 0) rfl, .str wd, rfl, rfl, _, rfl, go_ne n1 (?_)⟩
        refine ⟨.str wd, rfl, rfl, _, rfl, go_ne n2 (?_)⟩
        refine ⟨.str wd, rfl, rfl, _, rfl, go_ne nw (?_)⟩
        refine ⟨.str wd, rfl, rfl, _, rfl, go_ne n3 ?_⟩
        refine ⟨.str wd, rfl, rfl, _, rfl, go_ne n4 ?_⟩
        refine ⟨.ref o, rfl, .ref a, rfl, a, _, 1, v1, rfl, rfl, sqH, atI_nat (j := 1) rfl, .ref vd, rfl, o, td, vd, v1, sA, M, En, R, S, kn, Hb, m, rfl, st, ask, val, by omega, hb, h1, ⟨okA, wfA, gA⟩, by omega, fun H1 s1 => ?_⟩
        have hb1 : Same Hb H1 := fun b u e => s1 _ _ (hb _ _ e)
        have right : ∀ (Q' : VK), (∀ H2, Same H1 H2 → Q' (.bl (mean M En sB)) H2) → spMean K C n [.ref o, v2, .ref vd] H1 Q' (fun _ _ _ => False) := fun Q' h => ⟨o, td, vd, v2, sB, M, En, R, S, kn, Hb, m, rfl, st.same s1, ask, val.same s1, by omega, hb1, h2, ⟨okB, wfB, gB⟩, by omega, h⟩
        have q1 : ∀ H2, Same H1 H2 → Q (.bl (mean M En (.two wd sA sB))) H2 := fun H2 s2 => q H2 fun b u e => s2 _ _ (s1 _ _ e)
        have sqH1 := (TK.same s1).sq sqH
        have nAN : ("and" : Str) ≠ "then" := by decide +kernel
        have nON : ("or" : Str) ≠ "and" := by decide +kernel
        have nOT : ("or" : Str) ≠ "then" := by decide +kernel
        have nTA : ("then" : Str) ≠ "and" := by decide +kernel
        have nTO : ("then" : Str) ≠ "or" := by decide +kernel
        have nSA : ("same" : Str) ≠ "and" := by decide +kernel
        have nST' : ("same" : Str) ≠ "then" := by decide +kernel
        have nSO : ("same" : Str) ≠ "or" := by decide +kernel
        rcases List.mem_cons.mp wd4 with rfl | h
        · have eM : mean M En (.two "and" sA sB) = (mean M En sA && mean M En sB) := if_pos rfl
          rw [eM] at q1
          refine ⟨.str "and", rfl, rfl, _, rfl, go_eq ?_⟩
          refine iteT ?_
          refine ⟨_, rfl, mean M En sA, rfl, ?_⟩
          cases eA : mean M En sA with
          | true =>
            rw [eA, Bool.true_and] at q1
            refine iteT ?_
            exact ⟨.ref o, rfl, .ref a, rfl, a, _, 2, v2, rfl, rfl, sqH1, atI_nat (j := 2) rfl, .ref vd, rfl, right _ q1⟩
          | false =>
            rw [eA, Bool.false_and] at q1
            refine iteF ?_
            refine ⟨.str "and", rfl, rfl, ?_⟩
            rw [decide_eq_false (fun z => nAN (V.str.inj z))]
            exact q1 H1 fun b u e => e
        rcases List.mem_cons.mp h with rfl | h
        · have eM : mean M En (.two "or" sA sB) = (mean M En sA || mean M En sB) := (if_neg nON).trans (if_pos rfl)
          rw [eM] at q1
          refine ⟨.str "or", rfl, rfl, _, rfl, go_ne nON ?_⟩
          refine ⟨.str "or", rfl, rfl, _, rfl, go_ne nOT ?_⟩
          refine ⟨.str "or", rfl, rfl, _, rfl, go_eq ?_⟩
          refine ⟨_, rfl, mean M En sA, rfl, ?_⟩
          cases eA : mean M En sA with
          | true =>
            rw [eA, Bool.true_or] at q1
            exact iteT (q1 H1 fun b u e => e)
          | false =>
            rw [eA, Bool.false_or] at q1
            refine iteF ?_
            exact ⟨.ref o, rfl, .ref a, rfl, a, _, 2, v2, rfl, rfl, sqH1, atI_nat (j := 2) rfl, .ref vd, rfl, right _ q1⟩
        rcases List.mem_cons.mp h with rfl | h
        · have eM : mean M En (.two "then" sA sB) = (!mean M En sA || mean M En sB) := (if_neg nTA).trans ((if_neg nTO).trans (if_pos rfl))
          rw [eM] at q1
          refine ⟨.str "then", rfl, rfl, _, rfl, go_ne nTA ?_⟩
          refine ⟨.str "then", rfl, rfl, _, rfl, go_eq ?_⟩
          refine ⟨_, rfl, mean M En sA, rfl, ?_⟩
          cases eA : mean M En sA with
          | true =>
            rw [eA, Bool.not_true, Bool.false_or] at q1
            refine iteT ?_
            exact ⟨.ref o, rfl, .ref a, rfl, a, _, 2, v2, rfl, rfl, sqH1, atI_nat (j := 2) rfl, .ref vd, rfl, right _ q1⟩
          | false =>
            rw [eA, Bool.not_false, Bool.true_or] at q1
            refine iteF ?_
            refine ⟨.str "then", rfl, rfl, ?_⟩
            rw [decide_eq_true rfl]
            exact q1 H1 fun b u e => e
        cases List.mem_singleton.mp h
        have eM : mean M En (.two "same" sA sB) = (mean M En sA == mean M En sB) := (if_neg nSA).trans ((if_neg nSO).trans (if_neg nST'))
        rw [eM] at q1
        refine ⟨.str "same", rfl, rfl, _, rfl, go_ne nSA ?_⟩
        refine ⟨.str "same", rfl, rfl, _, rfl, go_ne nST' ?_⟩
        refine ⟨.str "same", rfl, rfl, _, rfl, go_ne nSO ?_⟩
        refine ⟨_, rfl, .ref o, rfl, .ref a, rfl, a, _, 2, v2, rfl, rfl, sqH1, atI_nat (j := 2) rfl, .ref vd, rfl, ?_⟩
        refine ⟨o, td, vd, v2, sB, M, En, R, S, kn, Hb, m, rfl, st.same s1, ask, val.same s1, by omega, hb1, h2, ⟨okB, wfB, gB⟩, by omega, fun H2 s2 => ?_⟩
        refine ⟨rfl, ?_⟩
        have e5 : decide (V.bl (mean M En sA) = V.bl (mean M En sB)) = (mean M En sA == mean M En sB) := by
          cases mean M En sA <;> cases mean M En sB <;> decide +kernel
        rw [e5]
        exact q1 H2 s2
end
end Ad

/-! The law's own value of a term. -/
namespace Ad
open PySem PySem.Spec PySem.Calls PyProof.Rows L2
abbrev sLValue : Stmt := topS 30
theorem scLValue : FnScope ["_law_size", "_law_tables", "_law_term", "_law_values", "_law_place", "_law_part"] ["_law_size", "_law_tables", "_law_term", "_law_values"] (defScope sLValue) := ⟨rfl, rfl, rfl, by decide +kernel, rfl, by decide +kernel, by decide +kernel⟩
theorem kitSI {K : PySem.W.Frag} : PySem.W.kitAny K (.type "str") [.type "str", .type "int"] = some true := kitAny_cons (b := true) (kit_ty (by decide +kernel)) (fun z => nomatch z) fun _ => rfl
theorem kitTSI {K : PySem.W.Frag} : PySem.W.kitAny K (.type "tuple") [.type "str", .type "int"] = some false :=
  kitAny_cons (b := false) (kit_ty (by decide +kernel)) (fun _ => kitAny_cons (b := false) (kit_ty (by decide +kernel)) (fun _ => rfl) (fun z => nomatch z)) (fun z => nomatch z)
theorem hok_shape {R S : List Row} {kn : List Str} {b : Bool} {d : PyData} (h : TopOk R S kn b d) : (∃ x, d = .str x ∧ b = false) ∨ ∃ r ∈ R ++ S, ∃ ds, d = .tuple (.str r.1 :: ds) ∧ TOkL R kn ds := by
  cases b with
  | true =>
    obtain ⟨r, ds, rfl, hr, ar, hds⟩ := (show ∃ (r : Row) (ds : List PyData), d = .tuple (.str r.1 :: ds) ∧ r ∈ S ∧ r.2.1 = ds.length ∧ TOkL R kn ds from h)
    exact .inr ⟨r, List.mem_append_right _ hr, ds, rfl, hds⟩
  | false =>
    have t : TOk R kn d := h
    cases d with
    | str x => exact .inl ⟨x, rfl, rfl⟩
    | tuple ds0 =>
      cases ds0 with
      | nil => exact t.elim
      | cons z ds =>
        obtain ⟨⟨r, hr, rfl, ar⟩, hds⟩ := (show (∃ r ∈ R, z = .str r.1 ∧ r.2.1 = ds.length) ∧ TOkL R kn ds from t)
        exact .inr ⟨r, List.mem_append_left _ hr, ds, rfl, hds⟩
    | _ => exact t.elim
section
variable {P : Program} {w : World} {K : PySem.W.Frag} {mg : Str → Option Value} {base : Heap}
def spLValue (K : PySem.W.Frag) (n : Nat) : Sp := fun vs H Q _ => ∃ (td vd : Addr) (x : V) (d : PyData) (M : Mo) (E : En) (R S : List Row) (kn : List Str) (Hb : Hp) (b : Bool), vs = [.int (M.size : Int), .ref td, x, .ref vd] ∧ TabAt K H M (R ++ S) td ∧ Ask K H M R S E kn vd ∧
  Same Hb H ∧ Dp K Hb x d ∧ TopOk R S kn b d ∧ (partsD d).length ≤ n ∧ n ≤ 60 ∧ ∀ H', Same H H' → Q (evT M E d) H'
theorem ok_lvalue {f : Addr} {fd : FuncData} {k : Nat} (F : Fun K "_law_value" "_law_value" sLValue f fd) (gF : mg "_law_value" = some (.ref f)) (bF : Binds K fd ["_law_size", "_law_tables", "_law_term", "_law_values"] [])
    (m_isinstance : mg "isinstance" = none) (m_str : mg "str" = none) (m_int : mg "int" = none) :
    ∀ n, FnOk P w K mg base CX0 (k + n) f fd ["_law_size", "_law_tables", "_law_term", "_law_values"] (spLValue K n)
  | 0 => vac fun vs H Q E ⟨td, vd, x, d, M, E', R, S, kn, Hb, b, _, _, _, _, _, _, z, _⟩ => absurd (Nat.le_trans (partsD_pos d) z) (by decide)
  | n + 1 => by
    have IH : FnOk P w K mg base CX0 (k + n) f fd ["_law_size", "_law_tables", "_law_term", "_law_values"] (spLValue K n) := ok_lvalue F gF bF m_isinstance m_str m_int n
    refine F.ok scLValue (fun vs H Q E h => ?_) (fun cdv A outer s H vs Q E hr h => ?_)
    · obtain ⟨td, vd, x, d, M, E', R, S, kn, Hb, b, rfl, _⟩ := h
      rfl
    · obtain ⟨td, vd, x, d, M, En, R, S, kn, Hb, b, rfl, tab, ask, hb, hd, hok, small, n60, q⟩ := h
      have hu := hu64 hr
      refine ⟨_, (pss_cons (ps_if (pt_val (pe_callB call_isiT (by rfl) m_isinstance (by decide +kernel) (pa_cons (pv 2) (pa_cons (pe_tup (pa_cons (pe_bltn (v := .ty "str") (by rfl) m_str (by decide +kernel) rfl) (pa_cons (pe_bltn (v := .ty "int") (by rfl) m_int (by decide +kernel) rfl) pa_nil))) pa_nil))))
      (pss_one (ps_ret (pe_dget (hu1 hr) (pv 3) (pv 2) (fun _ _ => rfl)))) pss_nil)
    (pss_cons (ps_set (i := 4) scLValue.nd rfl (.inl rfl) pe_int)
    (pss_cons (ps_for PassesOwn.never rfl (pi_tup (pe_slice sl_tup (pv 2) (po_some pe_int) po_none)) (pg_name (i := 5) scLValue.nd rfl (.inl rfl))
      (pss_one (ps_set (i := 4) scLValue.nd rfl (.inl rfl) (pe_op op_add (pe_op op_mul (pv 4) (pv 0)) (pe_call IH hr (by rfl) gF F.kp bF .nil pass0 (pa_cons (pv 0) (pa_cons (pv 1) (pa_cons (pv 5) (pa_cons (pv 3) pa_nil)))))))))
    (pss_one (ps_ret (pe_ix ix_tup (pe_dget (hu1 hr) (pv 1) (pe_ix ix_tup (pv 2) pe_int (fun _ _ => rfl)) (fun _ _ => rfl)) (pv 4) (fun _ _ => rfl))))))), ?_⟩
      have hdH := dp_same hb hd
      rcases hok_shape hok with ⟨y, rfl, rfl⟩ | ⟨r, hr', ds, rfl, hds⟩
      · cases hd
        obtain ⟨m, e1, e2⟩ := ask.en y (show y ∈ kn from hok)
        obtain ⟨kvs, ek, val, _⟩ := ask.val
        refine ⟨.str y, rfl, (by show 2 ≤ sizeLine; decide), fun tp ntp => ⟨.str y, tp, _, .type "str", _, true, rfl, upd_same, .cons (.ty "str") (.cons (.ty "int") .nil), .base (.str y), kitSI, true, rfl, iteT ?_⟩⟩
        have sT : Same H (upd H tp (.tup [.ty "str", .ty "int"])) := same_new (fun b o e => e) ntp _
        have g := DGet.k (k := Sum.inr y) (sT _ _ ek)
        rw [val y, e1] at g
        refine ⟨.ref vd, rfl, _, rfl, vd, _, rfl, g, ?_⟩
        have ev : evT M En (.str y) = .int (m : Int) := by
          show (match En y with
            | some n => V.int (n : Int)
            | none => .non) = _
          rw [e1]
        rw [ev] at q
        exact q _ sT
      · obtain ⟨v, hv, ev⟩ := hok_at ask.mo ask.en hok
        have lp : (partsD (.tuple (.str r.1 :: ds))).length = 1 + (partsDL ds).length := by
          show (PyData.tuple (.str r.1 :: ds) :: partsDL ds).length = _
          rw [List.length_cons]
          omega
        cases hd with
        | @tup a zs _ sq0 all0 =>
        cases all0 with
        | @cons v0 vs _ _ hv0 all =>
        cases hv0
        refine ⟨.ref a, rfl, (by show 2 ≤ sizeLine; decide), fun tp ntp => ⟨.ref a, tp, _, .type "tuple", _, false, rfl, upd_same, .cons (.ty "str") (.cons (.ty "int") .nil), sq_ty ((TK.same (same_new hb ntp _)).sq sq0), kitTSI, false, rfl, iteF ?_⟩⟩
        have sT : Same H (upd H tp (.tup [.ty "str", .ty "int"])) := same_new (fun b o e => e) ntp _
        generalize upd H tp (.tup [.ty "str", .ty "int"]) = HT at sT
        refine ⟨.ref a, rfl, 1, rfl, a, _, rfl, (TK.same sT).sq ((TK.same hb).sq sq0), cut_args.1, fun p3 n3 => ?_⟩
        rw [cut_args.2]
        have s3 : Same H (upd HT p3 (.tup vs)) := same_new sT n3 _
        have e3 : (upd HT p3 (.tup vs)) p3 = some (.tup vs) := upd_same
        have la := dpAll_len all
        generalize upd HT p3 (.tup vs) = G1 at s3 e3
        refine ⟨p3, rfl, ⟨vs, .inl (.inl e3)⟩, for_tup (K := K) (a := p3) (xs := vs) (fun i σ G => ∃ v5 : Option V, σ = [some (.int (M.size : Int)), some (.ref td), some (.ref a), some (.ref vd), some (.int ((ixL M En 0 (ds.take i) : Nat) : Int)), v5] ∧ Same H G ∧ G p3 = some (.tup vs)) ⟨none, rfl, s3, e3⟩ (fun i σ G _ ⟨_, _, _, e⟩ => .inl (.inl e)) ?_ ?_⟩
        · rintro i y σ G hy ⟨v5, rfl, sm, g3⟩
          obtain ⟨u, hu', tu⟩ := dpAll_get all hy
          have hup := tokL_mem hds hu'
          obtain ⟨m, m1, m2⟩ := ev_ok ask.mo ask.en u hup
          have pl := partsDL_mem hu'
          refine ⟨_, rfl, _, rfl, _, _, rfl, rfl, cmul_small (by have := ask.mo.few; omega), _, rfl, .ref td, rfl, y, rfl, .ref vd, rfl, ?_⟩
          refine ⟨td, vd, y, u, M, En, R, S, kn, Hb, false, rfl, tab.same sm, ask.same sm, fun b o e => sm _ _ (hb _ _ e), tu, hup, by omega, by omega, fun G2 s2 => ?_⟩
          rw [m2]
          refine ⟨_, _, rfl, rfl, some y, ?_, fun b o e => s2 _ _ (sm _ _ e), s2 _ _ g3⟩
          rw [take_next hu', ixL_app]
          show _ = [some (V.int (M.size : Int)), some (.ref td), some (.ref a), some (.ref vd), some (.int ((ixL M En 0 (ds.take i) * M.size + natV (evT M En u) : Nat) : Int)), some y]
          rw [m2]
          have e5 : natV (.int (m : Int)) = m := by
            show ((m : Nat) : Int).toNat = m
            omega
          rw [e5]
          have e6 : ((ixL M En 0 (ds.take i) * M.size + m : Nat) : Int) = ((ixL M En 0 (ds.take i) : Nat) : Int) * (M.size : Int) + (m : Int) := by
            rw [Int.natCast_add, Int.natCast_mul]
          rw [e6]
          rfl
        · rintro σ G ⟨v5, rfl, sm, g3⟩
          rw [la, List.take_length]
          obtain ⟨kvs, ek, tb⟩ := tab.same sm
          obtain ⟨t, t1, t2⟩ := tb r hr'
          have g := DGet.k (k := Sum.inr r.1) ek
          rw [t1] at g
          refine ⟨.ref td, rfl, .ref a, rfl, a, _, 0, .str r.1, rfl, rfl, (TK.same sm).sq ((TK.same hb).sq sq0), atI_nat (j := 0) rfl, td, _, rfl, g, _, rfl, t, _, _, v, rfl, rfl, t2, atI_nat hv, ?_⟩
          rw [ev] at q
          exact q G sm
end
end Ad

/-! max and min of two bools. -/
namespace Mb
open PySem PySem.Spec PySem.Calls PyProof.Rows L2
theorem bools_gt {prog : Program} {w : World} {A : Around} {P : Nat → Value → Prop} (val : Nat → Bool) (hval : ∀ i v, P i v → v = .bool (val i)) :
    CmpOf prog w A .Gt P (fun i j => decide (b2i (val i) > b2i (val j))) := fun i j vi vj s Q E hi hj h => by
  rw [hval i vi hi, hval j vj hj]
  exact richCompare_gives (op := .Gt) (typeIs_bool' s _) (typeIs_bool' s _) F.slot_bool_gt F.entry_int_gt (F.args_int_gt_2 _ _) (gives_int_gt_bools _ _) (fun x => nomatch x) h
theorem bools_lt {prog : Program} {w : World} {A : Around} {P : Nat → Value → Prop} (val : Nat → Bool) (hval : ∀ i v, P i v → v = .bool (val i)) :
    CmpOf prog w A .Lt P (fun i j => decide (b2i (val i) < b2i (val j))) := fun i j vi vj s Q E hi hj h => by
  rw [hval i vi hi, hval j vj hj]
  exact richCompare_gives (op := .Lt) (typeIs_bool' s _) (typeIs_bool' s _) F.slot_bool_lt F.entry_int_lt (F.args_int_lt_2 _ _) (gives_int_lt_bools _ _) (fun x => nomatch x) h
def two (p q : Bool) (i : Nat) : Bool := if i = 0 then p else q
theorem two_at {p q : Bool} {i : Nat} {v : Value} (h : (#[Value.bool p, Value.bool q] : Array Value)[i]? = some v) : v = .bool (two p q i) := by
  match i, h with
  | 0, h =>
    have : some (Value.bool p) = some v := h
    exact (Option.some.inj this).symm
  | 1, h =>
    have : some (Value.bool q) = some v := h
    exact (Option.some.inj this).symm
  | i + 2, h =>
    have z : (#[Value.bool p, Value.bool q] : Array Value)[i + 2]? = none := Array.getElem?_eq_none (by show 2 ≤ i + 2; omega)
    rw [z] at h
    cases h
section
variable {prog : Program} {w : World} {A : Around} {E : Value → Shared → Prop} {s : Shared}
theorem max_two_bools {p q : Bool} {Q : Value → Shared → Prop} (hh : A.handled = none)
    (h : ∀ h' tk, (∀ c o, s.heap.get? c = some o → h'.get? c = some o) → Q (.bool (p || q)) { s with heap := h', toks := tk }) :
    wpAny (model prog w) A (call (.builtin "max") [.bool p, .bool q]) Q E s := by
  have hT : (s.heap.push { cls := .type "tuple", data := .seq #[.bool p, .bool q] }).IsTuple s.heap.objs.size #[.bool p, .bool q] := ⟨_, Heap.get?_push_size _ rfl, rfl, 0, rfl⟩
  refine call_max_two (wpAny_pyIter_tuple hT ?_)
  have hsz : (s.heap.push { cls := .type "tuple", data := .seq #[.bool p, .bool q] }).objs.size = s.heap.objs.size + 1 := Heap.size_push ..
  refine ⟨_, [_, s.heap.objs.size], [_], _, _, _, _, rfl, Walks.tuple (A := A.in1) hh _ s.heap.objs.size (by rw [hsz]; exact Nat.ne_of_lt (Nat.lt_succ_self _)) #[.bool p, .bool q],
    ⟨⟨_, Heap.get?_push_size _ rfl, rfl, rfl⟩, hT.push _⟩, fun c hc => ?_, (by show 0 < 2; decide), bools_gt (two p q) (fun _ _ => two_at), fun v h' tk hP hk => ?_⟩
  · show c < ((s.heap.push _).push _).objs.size
    rw [Heap.size_push, hsz]
    rcases List.mem_cons.mp hc with rfl | hc
    · rw [hsz]; exact Nat.lt_succ_self _
    · rcases List.mem_cons.mp hc with rfl | hc
      · exact Nat.lt_succ_of_lt (Nat.lt_succ_self _)
      · cases hc
  · have hold : ∀ c o, s.heap.get? c = some o → h'.get? c = some o := fun c o e => by
      refine hk c o (fun hm => ?_) (Heap.get?_push_of_some _ (Heap.get?_push_of_some _ e))
      rcases List.mem_cons.mp hm with e1 | hm
      · have := Heap.lt_size e; rw [e1, hsz] at this; exact Nat.lt_irrefl _ (Nat.lt_of_succ_lt this)
      · cases hm
    have hv : v = .bool (p || q) := by
      have hP' : (#[Value.bool p, Value.bool q] : Array Value)[argBest (fun i j => decide (b2i (two p q i) > b2i (two p q j))) 1]? = some v := hP
      rw [two_at hP']
      cases p <;> cases q <;> decide +kernel
    rw [hv]
    exact h h' tk hold
theorem min_two_bools {p q : Bool} {Q : Value → Shared → Prop} (hh : A.handled = none)
    (h : ∀ h' tk, (∀ c o, s.heap.get? c = some o → h'.get? c = some o) → Q (.bool (p && q)) { s with heap := h', toks := tk }) :
    wpAny (model prog w) A (call (.builtin "min") [.bool p, .bool q]) Q E s := by
  have hT : (s.heap.push { cls := .type "tuple", data := .seq #[.bool p, .bool q] }).IsTuple s.heap.objs.size #[.bool p, .bool q] := ⟨_, Heap.get?_push_size _ rfl, rfl, 0, rfl⟩
  refine call_min_two (wpAny_pyIter_tuple hT ?_)
  have hsz : (s.heap.push { cls := .type "tuple", data := .seq #[.bool p, .bool q] }).objs.size = s.heap.objs.size + 1 := Heap.size_push ..
  refine ⟨_, [_, s.heap.objs.size], [_], _, _, _, _, rfl, Walks.tuple (A := A.in1) hh _ s.heap.objs.size (by rw [hsz]; exact Nat.ne_of_lt (Nat.lt_succ_self _)) #[.bool p, .bool q],
    ⟨⟨_, Heap.get?_push_size _ rfl, rfl, rfl⟩, hT.push _⟩, fun c hc => ?_, (by show 0 < 2; decide), bools_lt (two p q) (fun _ _ => two_at), fun v h' tk hP hk => ?_⟩
  · show c < ((s.heap.push _).push _).objs.size
    rw [Heap.size_push, hsz]
    rcases List.mem_cons.mp hc with rfl | hc
    · rw [hsz]; exact Nat.lt_succ_self _
    · rcases List.mem_cons.mp hc with rfl | hc
      · exact Nat.lt_succ_of_lt (Nat.lt_succ_self _)
      · cases hc
  · have hold : ∀ c o, s.heap.get? c = some o → h'.get? c = some o := fun c o e => by
      refine hk c o (fun hm => ?_) (Heap.get?_push_of_some _ (Heap.get?_push_of_some _ e))
      rcases List.mem_cons.mp hm with e1 | hm
      · have := Heap.lt_size e; rw [e1, hsz] at this; exact Nat.lt_irrefl _ (Nat.lt_of_succ_lt this)
      · cases hm
    have hv : v = .bool (p && q) := by
      have hP' : (#[Value.bool p, Value.bool q] : Array Value)[argBest (fun i j => decide (b2i (two p q i) < b2i (two p q j))) 1]? = some v := hP
      rw [two_at hP']
      cases p <;> cases q <;> decide +kernel
    rw [hv]
    exact h h' tk hold
end
section
variable {X : Cx}
def rMaxB : List V → Hp → VK → Prop := fun xs H Q => ∃ p q, xs = [.bl p, .bl q] ∧ Q (.bl (p || q)) H
def rMinB : List V → Hp → VK → Prop := fun xs H Q => ∃ p q, xs = [.bl p, .bl q] ∧ Q (.bl (p && q)) H
theorem cr_maxB (hc : X.calm = true) : CallR X (.builtin "max") rMaxB := by
  intro pins s σ H xs us Q I r h
  obtain ⟨i, j, rfl, q⟩ := h
  obtain ⟨u, w', rfl, r1, r2⟩ := vals2 r
  cases r1
  cases r2
  exact max_two_bools (I.ok.hd hc) fun h' tk k => ⟨.bl (i || j), H, I.kept k, rfl, q⟩
theorem cr_minB (hc : X.calm = true) : CallR X (.builtin "min") rMinB := by
  intro pins s σ H xs us Q I r h
  obtain ⟨i, j, rfl, q⟩ := h
  obtain ⟨u, w', rfl, r1, r2⟩ := vals2 r
  cases r1
  cases r2
  exact min_two_bools (I.ok.hd hc) fun h' tk k => ⟨.bl (i && j), H, I.kept k, rfl, q⟩
end
end Mb

/-! The law's own meaning. -/
namespace Ad
open PySem PySem.Spec PySem.Calls PyProof.Rows L2
abbrev sLMean : Stmt := topS 32
theorem scLMean : FnScope ["_law_size", "_law_tables", "_law_sentence", "_law_values", "_law_kind", "_law_value_here", "_law_one", "_law_two", "_law_part"] ["_law_size", "_law_tables", "_law_sentence", "_law_values"] (defScope sLMean) := ⟨rfl, rfl, rfl, by decide +kernel, rfl, by decide +kernel, by decide +kernel⟩
section
variable {P : Program} {w : World} {K : PySem.W.Frag} {mg : Str → Option Value} {base : Heap}
def spLMean (K : PySem.W.Frag) (n : Nat) : Sp := fun vs H Q _ => ∃ (td vd : Addr) (x : V) (s : Sn) (M : Mo) (E : En) (R S : List Row) (kn : List Str) (Hb : Hp) (m : Nat), vs = [.int (M.size : Int), .ref td, x, .ref vd] ∧ TabAt K H M (R ++ S) td ∧ AskS M R S E kn ∧ ValAtN H vd E m ∧ m + 4 * n ≤ 900 ∧
  Same Hb H ∧ Dp K Hb x s.d ∧ SAsk R S kn s ∧ s.hi ≤ n ∧ ∀ H', Same H H' → Q (.bl (mean M E s)) H'
theorem ok_lmean {f fV fW : Addr} {fd fdV fdW : FuncData} {k : Nat} (F : Fun K "_law_meaning" "_law_meaning" sLMean f fd) (gF : mg "_law_meaning" = some (.ref f)) (bF : Binds K fd ["_law_size", "_law_tables", "_law_sentence", "_law_values"] [])
    (GV : FnOk P w K mg base CX0 k fV fdV ["_law_size", "_law_tables", "_law_term", "_law_values"] (spLValue K 60)) (gV : mg "_law_value" = some (.ref fV)) (kV : PySem.W.keepIn K (.ref fV) = true) (bV : Binds K fdV ["_law_size", "_law_tables", "_law_term", "_law_values"] [])
    (GW : FnOk P w K mg base CX0 k fW fdW ["_law_values", "_law_name", "_law_value_here"] spLWithV) (gW : mg "_law_with_value" = some (.ref fW)) (kW : PySem.W.keepIn K (.ref fW) = true) (bW : Binds K fdW ["_law_values", "_law_name", "_law_value_here"] [])
    (m_range : mg "range" = none) (m_min : mg "min" = none) (m_max : mg "max" = none) :
    ∀ n, FnOk P w K mg base CX0 (k + n) f fd ["_law_size", "_law_tables", "_law_sentence", "_law_values"] (spLMean K n)
  | 0 => vac fun vs H Q E ⟨td, vd, x, s, M, E', R, S, kn, Hb, m, _, _, _, _, _, _, _, _, z, _⟩ => absurd (Nat.le_trans s.hi_pos z) (by decide)
  | n + 1 => by
    have IH : FnOk P w K mg base CX0 (k + n) f fd ["_law_size", "_law_tables", "_law_sentence", "_law_values"] (spLMean K n) := ok_lmean F gF bF GV gV kV bV GW gW kW bW m_range m_min m_max n
    have GV' : FnOk P w K mg base CX0 (k + n) fV fdV ["_law_size", "_law_tables", "_law_term", "_law_values"] (spLValue K 60) := GV.mono (by omega)
    have GW' : FnOk P w K mg base CX0 (k + n) fW fdW ["_law_values", "_law_name", "_law_value_here"] spLWithV := GW.mono (by omega)
    show FnOk P w K mg base CX0 (k + n + 1) f fd ["_law_size", "_law_tables", "_law_sentence", "_law_values"] (spLMean K (n + 1))
    refine F.ok scLMean (fun vs H Q E h => ?_) (fun cdv A outer s H vs Q E hr h => ?_)
    · obtain ⟨td, vd, x, s, M, E', R, S, kn, Hb, m, rfl, _⟩ := h
      rfl
    · obtain ⟨td, vd, x, s, M, En, R, S, kn, Hb, m, rfl, tab, ask, val, mm, hb, hd, sa, small, q⟩ := h
      refine ⟨_, (pss_cons (ps_set (i := 4) scLMean.nd rfl (.inl rfl) (pe_ix ix_tup (pv 2) pe_int (fun _ _ => rfl)))
    (pss_cons (ps_if (pt_cmpR op_eq (pv 4) pe_str (nomark _))
      (pss_one (ps_ret (pe_call GV' hr (by rfl) gV kV bV .nil pass0 (pa_cons (pv 0) (pa_cons (pv 1) (pa_cons (pe_ix ix_tup (pv 2) pe_int (fun _ _ => rfl)) (pa_cons (pv 3) pa_nil))))))) pss_nil)
    (pss_cons (ps_if (pt_cmpR op_eq (pv 4) pe_str (nomark _))
      (pss_one (ps_ret (pe_cmpR op_eq (pe_call GV' hr (by rfl) gV kV bV .nil pass0 (pa_cons (pv 0) (pa_cons (pv 1) (pa_cons (pe_ix ix_tup (pv 2) pe_int (fun _ _ => rfl)) (pa_cons (pv 3) pa_nil))))) (pe_call GV' hr (by rfl) gV kV bV .nil pass0 (pa_cons (pv 0) (pa_cons (pv 1) (pa_cons (pe_ix ix_tup (pv 2) pe_int (fun _ _ => rfl)) (pa_cons (pv 3) pa_nil))))) (nomark _)))) pss_nil)
    (pss_cons (ps_if (pt_cmpR op_eq (pv 4) pe_str (nomark _))
      (pss_one (ps_ret (pe_not (pe_call IH hr (by rfl) gF F.kp bF .nil pass0 (pa_cons (pv 0) (pa_cons (pv 1) (pa_cons (pe_ix ix_tup (pv 2) pe_int (fun _ _ => rfl)) (pa_cons (pv 3) pa_nil)))))))) pss_nil)
    (pss_cons (ps_if (pt_cmpR op_in_seq (pv 4) (pe_lst (pa_cons pe_str (pa_cons pe_str pa_nil))) (by with_unfolding_all rfl))
      (pss_cons (ps_for PassesOwn.never rfl (pi_range1 (by rfl) m_range (pa_cons (pv 0) pa_nil)) (pg_name (i := 5) scLMean.nd rfl (.inl rfl))
        (pss_one (ps_if (pt_cmpR op_eq (pe_call IH hr (by rfl) gF F.kp bF .nil pass0 (pa_cons (pv 0) (pa_cons (pv 1) (pa_cons (pe_ix ix_tup (pv 2) pe_int (fun _ _ => rfl)) (pa_cons (pe_call GW' hr (by rfl) gW kW bW .nil pass0 (pa_cons (pv 3) (pa_cons (pe_ix ix_tup (pv 2) pe_int (fun _ _ => rfl)) (pa_cons (pv 5) pa_nil)))) pa_nil))))) (pe_cmpR op_eq (pv 4) pe_str (nomark _)) (nomark _))
          (pss_one (ps_ret (pe_cmpR op_eq (pv 4) pe_str (nomark _)))) pss_nil)))
      (pss_one (ps_ret (pe_cmpR op_eq (pv 4) pe_str (nomark _))))) pss_nil)
    (pss_cons (ps_asg (pe_lc (own := [("_law_part", 8)]) (g := gName 8) (tt := tYes) (te := tCall (spLMean K n) [] E0 (tCons (tVar 0) (tCons (tVar 1) (tCons (tVar 8) (tCons (tVar 3) tNil))))) rfl scLMean.nd (pi_tup (pe_slice sl_tup (pv 2) (po_some pe_int) po_none)) (blkOk_by (N := ["_law_size", "_law_tables", "_law_sentence", "_law_values", "_law_kind", "_law_value_here", "_law_one", "_law_two", "_law_part"]) (sc := defScope sLMean) (by decide +kernel)) (fun _ _ _ _ _ => (pg_name (i := 8) scLMean.nd rfl (.inl rfl))) (fun _ _ _ _ _ => pts_nil) (fun _ _ _ _ _ => (pe_call IH hr (by rfl) gF F.kp bF .nil pass0 (pa_cons (pv 0) (pa_cons (pv 1) (pa_cons (pv 8) (pa_cons (pv 3) pa_nil))))))) (pg_lst rfl (pgs_cons (pg_name (i := 6) scLMean.nd rfl (.inl rfl)) (pgs_cons (pg_name (i := 7) scLMean.nd rfl (.inl rfl)) pgs_nil))))
    (pss_cons (ps_if (pt_cmpR op_eq (pv 4) pe_str (nomark _))
      (pss_one (ps_ret (pe_cmpR op_eq (pv 6) (pv 7) (nomark _)))) pss_nil)
    (pss_cons (ps_if (pt_cmpR op_eq (pv 4) pe_str (nomark _))
      (pss_one (ps_ret (pe_or (pv 7) (pe_one (pe_not (pv 6)))))) pss_nil)
    (pss_one (ps_ret (pe_ifExp (pt_cmpR op_eq (pv 4) pe_str (nomark _)) (pe_callB (Mb.cr_minB rfl) (by rfl) m_min (by decide +kernel) (pa_cons (pv 6) (pa_cons (pv 7) pa_nil))) (pe_callB (Mb.cr_maxB rfl) (by rfl) m_max (by decide +kernel) (pa_cons (pv 6) (pa_cons (pv 7) pa_nil)))))))))))))), ?_⟩
      cases s with
      | atm eq as =>
        cases eq with
        | false =>
          obtain ⟨r, ds, rfl, hr', ar, hds⟩ := sa.good
          have hok : TopOk R S kn true (.tuple (.str r.1 :: ds)) := ⟨r, ds, rfl, hr', ar, hds⟩
          have p40 := wf_one sa.wf
          obtain ⟨a, v1, rfl, sq, h1⟩ := dp_two (show Dp K Hb x (.tuple [.str "is", .tuple (.str r.1 :: ds)]) from hd)
          have sqH := (TK.same hb).sq sq
          refine ⟨.ref a, rfl, a, _, 0, _, rfl, rfl, sqH, atI_nat (j := 0) rfl, .str "is", rfl, rfl, _, rfl, go_eq ?_⟩
          refine ⟨_, rfl, .ref td, rfl, .ref a, rfl, a, _, 1, v1, rfl, rfl, sqH, atI_nat (j := 1) rfl, .ref vd, rfl, td, vd, v1, _, M, En, R, S, kn, Hb, true, rfl, tab, ask.ask val (by omega), hb, h1, hok, by omega, Nat.le_refl _, fun H' s' => ?_⟩
          obtain ⟨b, eb⟩ := ev_truth ask.mo ask.en hok
          rw [eb]
          have e2 : mean M En (.atm false [.tuple (.str r.1 :: ds)]) = b := by
            show truV (evT M En (.tuple (.str r.1 :: ds))) = b
            rw [eb]
            rfl
          rw [← e2]
          exact q H' s'
        | true =>
          obtain ⟨t, u, rfl, ht, hu⟩ := sa.good
          obtain ⟨p1, p2⟩ := wf_two sa.wf
          obtain ⟨a, v1, v2, rfl, sq, h1, h2⟩ := dp_three (show Dp K Hb x (.tuple [.str "equal", t, u]) from hd)
          have sqH := (TK.same hb).sq sq
          obtain ⟨n1, l1, e1⟩ := ev_ok ask.mo ask.en t ht
          obtain ⟨n2, l2, e2⟩ := ev_ok ask.mo ask.en u hu
          refine ⟨.ref a, rfl, a, _, 0, _, rfl, rfl, sqH, atI_nat (j := 0) rfl, .str "equal", rfl, rfl, _, rfl, go_ne (by decide +kernel) (?_)⟩
          refine ⟨.str "equal", rfl, rfl, _, rfl, go_eq ?_⟩
          refine ⟨_, rfl, .ref td, rfl, .ref a, rfl, a, _, 1, v1, rfl, rfl, sqH, atI_nat (j := 1) rfl, .ref vd, rfl, td, vd, v1, t, M, En, R, S, kn, Hb, false, rfl, tab, ask.ask val (by omega), hb, h1, ht, by omega, Nat.le_refl _, fun H1 s1 => ?_⟩
          refine ⟨_, rfl, .ref td, rfl, .ref a, rfl, a, _, 2, v2, rfl, rfl, (TK.same s1).sq sqH, atI_nat (j := 2) rfl, .ref vd, rfl, td, vd, v2, u, M, En, R, S, kn, Hb, false, rfl, tab.same s1, (ask.ask val (by omega)).same s1, fun b u e => s1 _ _ (hb _ _ e), h2, hu, by omega, Nat.le_refl _, fun H2 s2 => ?_⟩
          rw [e1, e2]
          refine ⟨rfl, ?_⟩
          have e3 : mean M En (.atm true [t, u]) = decide (V.int (n1 : Int) = V.int (n2 : Int)) := by
            show decide (evT M En t = evT M En u) = _
            rw [e1, e2]
          rw [← e3]
          exact q H2 fun b u e => s2 _ _ (s1 _ _ e)
      | one s =>
        obtain ⟨a, v1, rfl, sq, h1⟩ := dp_two (show Dp K Hb x (.tuple [.str "not", s.d]) from hd)
        have sqH := (TK.same hb).sq sq
        have zs : 1 + s.hi ≤ n + 1 := small
        refine ⟨.ref a, rfl, a, _, 0, _, rfl, rfl, sqH, atI_nat (j := 0) rfl, .str "not", rfl, rfl, _, rfl, go_ne (by decide +kernel) (?_)⟩
        refine ⟨.str "not", rfl, rfl, _, rfl, go_ne (by decide +kernel) (?_)⟩
        refine ⟨.str "not", rfl, rfl, _, rfl, go_eq ?_⟩
        refine ⟨_, rfl, .ref td, rfl, .ref a, rfl, a, _, 1, v1, rfl, rfl, sqH, atI_nat (j := 1) rfl, .ref vd, rfl, td, vd, v1, s, M, En, R, S, kn, Hb, m, rfl, tab, ask, val, by omega, hb, h1, ⟨sa.ok, sa.wf, sa.good⟩, by omega, fun H' s' => ⟨_, rfl, ?_⟩⟩
        exact q H' s'
      | qu al z s =>
        have hd' : Dp K Hb x (.tuple [.str (Sn.word (.qu al z s)), .str z, s.d]) := hd
        obtain ⟨a, v1, v2, rfl, sq, h1, h2⟩ := dp_three hd'
        cases h1
        have sqH := (TK.same hb).sq sq
        have zs : 1 + s.hi ≤ n + 1 := small
        obtain ⟨gz, gs⟩ := sa.good
        have wne : Sn.word (.qu al z s) ≠ "is" ∧ Sn.word (.qu al z s) ≠ "equal" ∧ Sn.word (.qu al z s) ≠ "not" ∧ inV (.str (Sn.word (.qu al z s))) [.str "all", .str "some"] = true := by
          cases al with
          | true => exact ⟨(show ¬ (("all" : Str) = "is") by decide +kernel), (show ¬ (("all" : Str) = "equal") by decide +kernel), (show ¬ (("all" : Str) = "not") by decide +kernel), show inV (.str "all") [.str "all", .str "some"] = true by decide +kernel⟩
          | false => exact ⟨(show ¬ (("some" : Str) = "is") by decide +kernel), (show ¬ (("some" : Str) = "equal") by decide +kernel), (show ¬ (("some" : Str) = "not") by decide +kernel), show inV (.str "some") [.str "all", .str "some"] = true by decide +kernel⟩
        have wd_some : decide (V.str (Sn.word (.qu al z s)) = V.str "some") = !al := by
          cases al with
          | true => exact decide_eq_false (fun z => absurd (V.str.inj z) (show ¬ (("all" : Str) = "some") by decide +kernel))
          | false => exact decide_eq_true rfl
        have wd_all : decide (V.str (Sn.word (.qu al z s)) = V.str "all") = al := by
          cases al with
          | true => exact decide_eq_true rfl
          | false => exact decide_eq_false (fun z => absurd (V.str.inj z) (show ¬ (("some" : Str) = "all") by decide +kernel))
        have step : ∀ i : Nat, i < M.size → mean M (En.set z i) s = !al → mean M En (.qu al z s) = !al := by
          intro i hi e
          cases al with
          | true => exact all_not hi e
          | false => exact any_range hi e
        have done : (∀ i : Nat, i < M.size → mean M (En.set z i) s = al) → mean M En (.qu al z s) = al := by
          intro e
          cases al with
          | true => exact all_range e
          | false => exact any_not e
        generalize Sn.word (.qu al z s) = wd at sq sqH wne wd_some wd_all
        have m3 := ask.mo.few
        refine ⟨.ref a, rfl, a, _, 0, _, rfl, rfl, sqH, atI_nat (j := 0) rfl, .str _, rfl, rfl, _, rfl, go_ne wne.1 (?_)⟩
        refine ⟨.str _, rfl, rfl, _, rfl, go_ne wne.2.1 (?_)⟩
        refine ⟨.str _, rfl, rfl, _, rfl, go_ne wne.2.2.1 (?_)⟩
        refine ⟨.str _, rfl, (by show 2 ≤ sizeLine; rw [sizeLine_eq]; decide), fun l nl => ⟨l, _, rfl, .inl (.inl (.inl upd_same)), rfl, rfl, inV (.str wd) [.str "all", .str "some"], rfl, go_in wne.2.2.2 ?_⟩⟩
        have sm0 : Same H (upd H l (.lst [.str "all", .str "some"])) := same_new (fun b o e => e) nl _
        generalize upd H l (.lst [.str "all", .str "some"]) = G0 at sm0
        refine ⟨_, rfl, (M.size : Int), rfl, by omega, by omega, for_range (lo := 0) (n := M.size) (fun i σ G => ∃ (v5 : Option V), σ = [some (.int (M.size : Int)), some (.ref td), some (.ref a), some (.ref vd), some (.str wd), v5, none, none, none] ∧ Same H G ∧ (∀ j < i, mean M (En.set z j) s = al)) ⟨none, rfl, sm0, fun j hj => absurd hj (Nat.not_lt_zero _)⟩ ?_ ?_⟩
        · rintro i σ G hi ⟨v5, rfl, sm, pre⟩
          have ei : (0 : Int) + (i : Int) = (i : Int) := Int.zero_add _
          rw [ei]
          have sqG := (TK.same sm).sq sqH
          refine ⟨_, rfl, .ref td, rfl, .ref a, rfl, a, _, 2, v2, rfl, rfl, sqG, atI_nat (j := 2) rfl, .ref vd, rfl, .ref a, rfl, a, _, 1, .str z, rfl, rfl, sqG, atI_nat (j := 1) rfl, _, rfl, vd, En, z, i, m, rfl, val.same sm, by omega, fun G1 v' s1 nv' val' => ?_⟩
          have sm1 : Same H G1 := fun b u e => s1 _ _ (sm _ _ e)
          refine ⟨td, v', v2, s, M, En.set z i, R, S, kn ++ [z], Hb, m + 1, rfl, tab.same sm1, ask.set gz hi, val', by omega, fun b u e => sm1 _ _ (hb _ _ e), h2, ⟨sa.ok, sa.wf, gs⟩, by omega, fun G2 s2 => ?_⟩
          have sm2 : Same H G2 := fun b u e => s2 _ _ (sm1 _ _ e)
          refine ⟨_, rfl, rfl, rfl, _, rfl, ?_⟩
          rw [wd_some]
          by_cases e : mean M (En.set z i) s = !al
          · rw [e, decide_eq_true rfl]
            refine iteT ⟨_, rfl, rfl, ?_⟩
            rw [wd_some, ← step i hi e]
            exact q G2 sm2
          · rw [decide_eq_false (fun z => e (V.bl.inj z))]
            refine iteF ⟨_, rfl, sm2, fun j hj => ?_⟩
            by_cases ej : j = i
            · subst ej
              cases h : mean M (En.set z j) s <;> cases al <;> first | rfl | exact absurd h e
            · exact pre j (by omega)
        · rintro σ G ⟨v5, rfl, sm, pre⟩
          refine ⟨_, rfl, rfl, ?_⟩
          rw [wd_all, ← done pre]
          exact q G sm
      | two wd sA sB =>
        obtain ⟨a, v1, v2, rfl, sq, h1, h2⟩ := dp_three (show Dp K Hb x (.tuple [.str wd, sA.d, sB.d]) from hd)
        have sqH := (TK.same hb).sq sq
        have zs : 1 + max sA.hi sB.hi ≤ n + 1 := small
        obtain ⟨okw, okAB⟩ := Bool.and_eq_true_iff.mp (show (decide (wd ∈ (["and", "or", "then", "same"] : List Str)) && (sA.ok && sB.ok)) = true from sa.ok)
        obtain ⟨okA, okB⟩ := Bool.and_eq_true_iff.mp okAB
        obtain ⟨wfA, wfB⟩ := Bool.and_eq_true_iff.mp (show (sA.wf && sB.wf) = true from sa.wf)
        obtain ⟨gA, gB⟩ := sa.good
        have wd4 := of_decide_eq_true okw
        have nw : wd ≠ "not" := by
          rcases List.mem_cons.mp wd4 with rfl | h
          · decide +kernel
          rcases List.mem_cons.mp h with rfl | h
          · decide +kernel
          rcases List.mem_cons.mp h with rfl | h
          · decide +kernel
          cases List.mem_singleton.mp h
          decide +kernel
        obtain ⟨n1, n2, n3, n4⟩ := word_two wd4
        have noIn : inV (.str wd) [.str "all", .str "some"] = false := by
          rw [inV_two, decide_eq_false n3, decide_eq_false n4]
          rfl
        refine ⟨.ref a, rfl, a, _, 0, _, rfl, rfl, sqH, atI_nat (j := 0) rfl, .str wd, rfl, rfl, _, rfl, go_ne n1 (?_)⟩
        refine ⟨.str wd, rfl, rfl, _, rfl, go_ne n2 (?_)⟩
        refine ⟨.str wd, rfl, rfl, _, rfl, go_ne nw (?_)⟩
        refine ⟨.str _, rfl, (by show 2 ≤ sizeLine; rw [sizeLine_eq]; decide), fun l nl => ⟨l, _, rfl, .inl (.inl (.inl upd_same)), rfl, rfl, inV (.str wd) [.str "all", .str "some"], rfl, go_out noIn ?_⟩⟩
        have sm0 : Same H (upd H l (.lst [.str "all", .str "some"])) := same_new (fun b o e => e) nl _
        generalize upd H l (.lst [.str "all", .str "some"]) = G0 at sm0
        refine ⟨.ref a, rfl, 1, rfl, a, _, rfl, (TK.same sm0).sq sqH, cut_args.1, fun p3 n3' => ⟨p3, rfl, ⟨_, .inl (.inl upd_same)⟩, fun D nD => ?_⟩⟩
        rw [cut_args.2] at nD ⊢
        have s3 : Same H (upd G0 p3 (.tup [v1, v2])) := same_new sm0 n3' _
        have e3 : (upd G0 p3 (.tup [v1, v2])) p3 = some (.tup [v1, v2]) := upd_same
        generalize upd G0 p3 (.tup [v1, v2]) = G1 at nD s3 e3 ⊢
        let bs : List Bool := [mean M En sA, mean M En sB]
        refine lc_tup (K := K) (a := p3) (xs := [v1, v2]) (fun i G => ∃ acc, Same G1 G ∧ G D = some (.lst acc) ∧ acc = (bs.take i).map V.bl) ⟨[], same_new (fun b o e => e) nD _, upd_same, rfl⟩ (fun i G _ ⟨_, sm, _⟩ => .inl (.inl (sm _ _ e3))) ?_ ?_
        · rintro i y G hy ⟨acc, sm, gD, rfl⟩
          have smH : Same H G := fun b u e => sm _ _ (s3 _ _ e)
          have hi : i < 2 := (List.getElem?_eq_some_iff.mp hy).1
          have put : ∀ (sX : Sn) (b : Bool), bs[i]? = some b → mean M En sX = b → Dp K Hb y sX.d → SAsk R S kn sX → sX.hi ≤ n → _ := fun sX b eb em hy' sx hs => (show (tCall (spLMean K n) [] E0 (tCons (tVar 0) (tCons (tVar 1) (tCons (tVar 8) (tCons (tVar 3) tNil))))) [some (.int (M.size : Int)), some (.ref td), some (.ref a), some (.ref vd), some (.str wd), none, none, none, some y] G (fun y H4 => ∃ acc', H4 D = some (.lst acc') ∧ acc'.length < sizeLine ∧ ∃ acc, Same G1 (upd H4 D (.lst (acc' ++ [y]))) ∧ (upd H4 D (.lst (acc' ++ [y]))) D = some (.lst acc) ∧ acc = (bs.take (i + 1)).map V.bl) from
            ⟨_, rfl, .ref td, rfl, y, rfl, .ref vd, rfl, td, vd, y, sX, M, En, R, S, kn, Hb, m, rfl, tab.same smH, ask, val.same smH, by omega, fun b u e => smH _ _ (hb _ _ e), hy', sx, hs, fun G2 s2 => ⟨_, s2 _ _ gD, by rw [List.length_map, List.length_take, sizeLine_eq]; omega, _, same_on (show Same G1 G2 from fun b u e => s2 _ _ (sm _ _ e)) nD _, upd_same, by rw [take_next eb, List.map_append, em]; rfl⟩⟩)
          match i, hy, hi, put with
          | 0, hy, _, put =>
            cases hy
            exact ⟨rfl, put sA _ rfl rfl h1 ⟨okA, wfA, gA⟩ (by omega)⟩
          | 1, hy, _, put =>
            cases hy
            exact ⟨rfl, put sB _ rfl rfl h2 ⟨okB, wfB, gB⟩ (by omega)⟩
        · rintro G ⟨acc, sm, gD, rfl⟩
          have smH : Same H G := fun b u e => sm _ _ (s3 _ _ e)
          have eb : (bs.take 2).map V.bl = [.bl (mean M En sA), .bl (mean M En sB)] := rfl
          rw [show ([v1, v2] : List V).length = 2 from rfl, eb] at gD
          refine ⟨D, _, rfl, .inl (.inl gD), rfl, _, _, rfl, _, _, rfl, rfl, ?_⟩
          have nAN : ("and" : Str) ≠ "then" := by decide +kernel
          have nAS : ("and" : Str) ≠ "same" := by decide +kernel
          have nON : ("or" : Str) ≠ "and" := by decide +kernel
          have nOT : ("or" : Str) ≠ "then" := by decide +kernel
          have nOS : ("or" : Str) ≠ "same" := by decide +kernel
          have nTA : ("then" : Str) ≠ "and" := by decide +kernel
          have nTO : ("then" : Str) ≠ "or" := by decide +kernel
          have nTS : ("then" : Str) ≠ "same" := by decide +kernel
          have nSA : ("same" : Str) ≠ "and" := by decide +kernel
          have nST' : ("same" : Str) ≠ "then" := by decide +kernel
          have nSO : ("same" : Str) ≠ "or" := by decide +kernel
          have q1 := q G smH
          rcases List.mem_cons.mp wd4 with rfl | h
          · have eM : mean M En (.two "and" sA sB) = (mean M En sA && mean M En sB) := if_pos rfl
            rw [eM] at q1
            refine ⟨.str "and", rfl, rfl, _, rfl, go_ne nAS ?_⟩
            refine ⟨.str "and", rfl, rfl, _, rfl, go_ne nAN ?_⟩
            refine ⟨.str "and", rfl, rfl, _, rfl, go_eq ?_⟩
            exact ⟨_, rfl, _, rfl, _, _, rfl, q1⟩
          rcases List.mem_cons.mp h with rfl | h
          · have eM : mean M En (.two "or" sA sB) = (mean M En sA || mean M En sB) := (if_neg nON).trans (if_pos rfl)
            rw [eM] at q1
            refine ⟨.str "or", rfl, rfl, _, rfl, go_ne nOS ?_⟩
            refine ⟨.str "or", rfl, rfl, _, rfl, go_ne nOT ?_⟩
            refine ⟨.str "or", rfl, rfl, _, rfl, go_ne nON ?_⟩
            exact ⟨_, rfl, _, rfl, _, _, rfl, q1⟩
          rcases List.mem_cons.mp h with rfl | h
          · have eM : mean M En (.two "then" sA sB) = (!mean M En sA || mean M En sB) := (if_neg nTA).trans ((if_neg nTO).trans (if_pos rfl))
            rw [eM] at q1
            refine ⟨.str "then", rfl, rfl, _, rfl, go_ne nTS ?_⟩
            refine ⟨.str "then", rfl, rfl, _, rfl, go_eq ?_⟩
            refine ⟨_, rfl, mean M En sB, rfl, ?_⟩
            cases eB : mean M En sB with
            | true =>
              rw [eB, Bool.or_true] at q1
              exact iteT q1
            | false =>
              rw [eB, Bool.or_false] at q1
              exact iteF ⟨_, rfl, _, rfl, q1⟩
          cases List.mem_singleton.mp h
          have eM : mean M En (.two "same" sA sB) = (mean M En sA == mean M En sB) := (if_neg nSA).trans ((if_neg nSO).trans (if_neg nST'))
          rw [eM] at q1
          refine ⟨.str "same", rfl, rfl, _, rfl, go_eq ?_⟩
          refine ⟨_, rfl, _, rfl, rfl, ?_⟩
          have e5 : decide (V.bl (mean M En sA) = V.bl (mean M En sB)) = (mean M En sA == mean M En sB) := by
            cases mean M En sA <;> cases mean M En sB <;> decide +kernel
          rw [e5]
          exact q1
end
end Ad

/-! Each once. -/
namespace Ad
open PySem PySem.Spec PySem.Calls PyProof.Rows L2
abbrev sLOnce : Stmt := topS 36
theorem scLOnce : FnScope ["_law_some", "_law_found", "_law_one"] ["_law_some"] (defScope sLOnce) := ⟨rfl, rfl, rfl, by decide +kernel, rfl, by decide +kernel, by decide +kernel⟩
section
variable {P : Program} {w : World} {K : PySem.W.Frag} {mg : Str → Option Value} {base : Heap}
def spLOnce (K : PySem.W.Frag) : Sp := fun vs H Q _ => ∃ (l : Addr) (xs : List Str), vs = [.ref l] ∧ H l = some (.lst (xs.map V.str)) ∧ xs.length ≤ 100000 ∧ ∀ H' p, Same H H' → SqT K H' p ((once [] xs).map V.str) → Q (.ref p) H'
theorem ok_lonce {f : Addr} {fd : FuncData} {k : Nat} (F : Fun K "_law_once" "_law_once" sLOnce f fd) (m_tuple : mg "tuple" = none) : FnOk P w K mg base CX0 (k + 1) f fd ["_law_some"] (spLOnce K) := by
  refine F.ok scLOnce (fun vs H Q E h => ?_) (fun cdv A outer s H vs Q E hr h => ?_)
  · obtain ⟨l, xs, rfl, _⟩ := h
    rfl
  · obtain ⟨l, xs, rfl, hl, few, q⟩ := h
    refine ⟨_, (pss_cons (ps_set (i := 1) scLOnce.nd rfl (.inl rfl) (pe_lst pa_nil))
    (pss_cons (ps_for PassesOwn.never rfl (pi_list (pv 0)) (pg_name (i := 2) scLOnce.nd rfl (.inl rfl))
      (pss_one (ps_if (pt_cmpR op_notIn_seq (pv 2) (pv 1) (by with_unfolding_all rfl))
        (pss_one (ps_expr (pe_bm PySem.F.plainAttrs_list PySem.F.slot_list_append PySem.F.type_list_append mt_append (pv 1) (pa_cons (pv 2) pa_nil)))) pss_nil)))
    (pss_one (ps_ret (pe_callTy call_tuple_of (by rfl) m_tuple (by decide +kernel) (pa_cons (pv 1) pa_nil)))))), ?_⟩
    refine ⟨Nat.zero_le _, fun p np => ?_⟩
    have sm0 : Same H (upd H p (.lst [])) := same_new (fun b o e => e) np _
    have ep : (upd H p (.lst [])) p = some (.lst []) := upd_same
    have hl0 := sm0 _ _ hl
    have plne : p ≠ l := fun z => by rw [z, hl] at np; cases np
    generalize upd H p (.lst []) = H0 at sm0 ep hl0
    refine ⟨.ref l, rfl, l, rfl, ⟨_, .inl (.inl hl0)⟩, for_list (K := K) (a := l) (xs := xs.map V.str) (fun i σ G => ∃ v2 : Option V, σ = [some (.ref l), some (.ref p), v2] ∧ Same H G ∧ G p = some (.lst ((once [] (xs.take i)).map V.str))) ⟨none, rfl, sm0, ep⟩ (fun i σ G _ ⟨_, _, sm, _⟩ => .inl (.inl (sm _ _ hl))) ?_ ?_⟩
    · rintro i y σ G hy ⟨v2, rfl, sm, gp⟩
      rw [List.getElem?_map] at hy
      obtain ⟨x, hx, rfl⟩ := Option.map_eq_some_iff.mp hy
      refine ⟨_, rfl, .ref p, rfl, p, _, rfl, .inl (.inl (.inl gp)), rfl, flat_texts _, _, rfl, ?_⟩
      have st : once [] (xs.take (i + 1)) = if x ∈ once [] (xs.take i) then once [] (xs.take i) else once [] (xs.take i) ++ [x] := by
        rw [take_next hx, once_app]
        rfl
      have eb : (if true = true then !inV (.str x) ((once [] (xs.take i)).map V.str) else inV (.str x) ((once [] (xs.take i)).map V.str)) = !decide (x ∈ once [] (xs.take i)) := by
        rw [if_pos rfl, inV_mem]
      rw [eb]
      have ll := once_len (xs.take i) []
      rw [List.length_nil, List.length_take] at ll
      by_cases e : x ∈ once [] (xs.take i)
      · rw [decide_eq_true e]
        refine iteF ⟨_, rfl, sm, ?_⟩
        rw [st, if_pos e]
        exact gp
      · rw [decide_eq_false e]
        refine iteT ?_
        refine ⟨.ref p, rfl, .inl ⟨rfl, _, .inl (.inl gp)⟩, .str x, rfl, p, _, .str x, rfl, rfl, gp, by rw [List.length_map, sizeLine_eq]; omega, ?_⟩
        refine ⟨_, rfl, same_on sm np _, ?_⟩
        rw [upd_same, st, if_neg e, List.map_append]
        rfl
    · rintro σ G ⟨v2, rfl, sm, gp⟩
      rw [List.length_map, List.take_length] at gp
      refine ⟨.ref p, rfl, p, _, rfl, .inl ⟨.inl (.inl gp), fun t nt => ?_⟩⟩
      exact q _ t (same_new sm nt _) (.inl (.inl upd_same))
end
end Ad

/-! repr of a dict with texts as keys, and numbers, bools, or tuples of these as values. -/
namespace Ad
open PySem PySem.Spec PySem.Calls PyProof.Rows L2
def scB : PyData → Bool
  | .int i => decide (0 ≤ i) && decide (i < 64)
  | .bool _ => true
  | _ => false
def flB : PyData → Bool
  | .tuple ds => ds.all scB && decide (ds.length ≤ 100)
  | d => scB d
theorem sc_text {d : PyData} (h : scB d = true) : d.showable = true ∧ d.shown.length ≤ 5 := by
  cases d with
  | int i =>
    obtain ⟨h1, h2⟩ := Bool.and_eq_true_iff.mp h
    obtain ⟨s1, s2⟩ := small_text i (of_decide_eq_true h1) (of_decide_eq_true h2)
    refine ⟨decide_eq_true s2, ?_⟩
    show (toString i : Str).length ≤ 5
    omega
  | bool b =>
    refine ⟨rfl, ?_⟩
    cases b <;> decide
  | _ => cases h
theorem sc_all : ∀ {ds : List PyData}, ds.all scB = true → PyData.showableAll ds = true ∧ piled (PyData.shownAll ds) ≤ 7 * ds.length
  | [], _ => ⟨rfl, Nat.zero_le _⟩
  | d :: ds, h => by
    have h' : (scB d && ds.all scB) = true := h
    obtain ⟨h1, h2⟩ := Bool.and_eq_true_iff.mp h'
    obtain ⟨a1, a2⟩ := sc_text h1
    obtain ⟨b1, b2⟩ := sc_all h2
    refine ⟨?_, ?_⟩
    · show (d.showable && PyData.showableAll ds) = true
      rw [a1, b1]
      rfl
    · have e : piled (PyData.shownAll (d :: ds)) = (d.shown.length + 2) + piled (PyData.shownAll ds) := piled_cons _ _
      rw [e, List.length_cons]
      omega
theorem fl_text {d : PyData} (h : flB d = true) : d.showable = true ∧ d.shown.length ≤ 703 := by
  have one : scB d = true → d.showable = true ∧ d.shown.length ≤ 703 := fun h => by
    obtain ⟨a, b⟩ := sc_text h
    exact ⟨a, by omega⟩
  cases d with
  | tuple ds =>
    obtain ⟨h1, h2⟩ := Bool.and_eq_true_iff.mp h
    obtain ⟨a, b⟩ := sc_all h1
    have l := tuple_piled (PyData.shownAll ds)
    have n := of_decide_eq_true h2
    refine ⟨a, ?_⟩
    show (tupleText (PyData.shownAll ds)).length ≤ 703
    omega
  | _ => exact one h
theorem fl_depth {d : PyData} (h : flB d = true) : d.depth ≤ 2 := by
  have sc : ∀ d : PyData, scB d = true → d.depth = 0 := fun d h => by cases d <;> first | rfl | cases h
  cases d with
  | tuple ds =>
    obtain ⟨h1, h2⟩ := Bool.and_eq_true_iff.mp h
    have : PyData.depthAll ds = 0 := by
      clear h h2
      induction ds with
      | nil => simp [PyData.depthAll]
      | cons d ds ih =>
        have h' : (scB d && ds.all scB) = true := h1
        obtain ⟨h3, h4⟩ := Bool.and_eq_true_iff.mp h'
        have e : PyData.depthAll (d :: ds) = max d.depth (PyData.depthAll ds) := by simp [PyData.depthAll]
        rw [e, sc d h3, ih h4]
        rfl
    have e : (PyData.tuple ds).depth = PyData.depthAll ds + 1 := by simp [PyData.depth]
    omega
  | int i => exact Nat.le_trans (Nat.le_of_eq (sc (.int i) h)) (Nat.zero_le _)
  | bool i => exact Nat.le_trans (Nat.le_of_eq (sc (.bool i) h)) (Nat.zero_le _)
  | _ => cases h
mutual
theorem fl_reads {h : Heap} : ∀ {d : PyData} {u : Value} {as : List Addr}, Reads h u d as → flB d = true → as = []
  | .int _, _, _, .int .., _ => rfl
  | .bool _, _, _, .bool .., _ => rfl
  | .tuple ds, _, _, .tuple _ _ _ r, f => sc_reads r (Bool.and_eq_true_iff.mp f).1
  | .none, _, _, _, f => by cases f
  | .str _, _, _, _, f => by cases f
  | .list _, _, _, _, f => by cases f
  | .dict _, _, _, _, f => by cases f
theorem sc_reads {h : Heap} : ∀ {ds : List PyData} {us : List Value} {as : List Addr}, ReadsAll h us ds as → ds.all scB = true → as = []
  | [], _, _, .nil, _ => rfl
  | d :: ds, _, _, .cons r rs, f => by
    have f' : (scB d && ds.all scB) = true := f
    obtain ⟨f1, f2⟩ := Bool.and_eq_true_iff.mp f'
    have e2 := sc_reads rs f2
    subst e2
    cases d with
    | int i => cases r; rfl
    | bool b => cases r; rfl
    | _ => cases f1
end
/-- a dict of texts to flat data -/
def dicD (ds : List (Str × PyData)) : PyData := .dict (ds.map fun p => (.str p.1, p.2))
structure DicOk (ds : List (Str × PyData)) : Prop where
  keys : ∀ p ∈ ds, nameOk p.1 = true
  vals : ∀ p ∈ ds, flB p.2 = true
  few : ds.length ≤ 100
def DicV (K : PySem.W.Frag) (H : Hp) (kvs : List (L2.Key × V)) (ds : List (Str × PyData)) : Prop := F2 (fun (p : Str × PyData) (q : L2.Key × V) => q.1 = .inr p.1 ∧ Dp K H q.2 p.2) ds kvs
theorem dicD_text : ∀ {ds : List (Str × PyData)}, DicOk ds → (dicD ds).showable = true ∧ (dicD ds).shown.length ≤ sizeLine ∧ (dicD ds).depth ≤ 5 := by
  intro ds ok
  have key : ∀ ds : List (Str × PyData), (∀ p ∈ ds, nameOk p.1 = true) → (∀ p ∈ ds, flB p.2 = true) → PyData.showableKv (ds.map fun p => (.str p.1, p.2)) = true ∧ ((PyData.shownKv (ds.map fun p => (.str p.1, p.2))).map (·.length)).sum ≤ 720 * ds.length ∧ (PyData.shownKv (ds.map fun p => ((.str p.1 : PyData), p.2))).length = ds.length ∧ PyData.depthKv (ds.map fun p => (.str p.1, p.2)) ≤ 2 := by
    intro ds
    induction ds with
    | nil => exact fun _ _ => ⟨rfl, Nat.zero_le _, rfl, by simp [PyData.depthKv]⟩
    | cons p ds ih =>
      intro h1 h2
      obtain ⟨i1, i2, i3, i4⟩ := ih (fun q hq => h1 q (List.mem_cons_of_mem _ hq)) fun q hq => h2 q (List.mem_cons_of_mem _ hq)
      obtain ⟨a, b⟩ := fl_text (h2 p List.mem_cons_self)
      have n := nameOk_short (h1 p List.mem_cons_self)
      refine ⟨?_, ?_, ?_, ?_⟩
      · show (true && p.2.showable && PyData.showableKv _) = true
        rw [a, i1]
        rfl
      · show (PyData.shown (.str p.1) ++ ": " ++ p.2.shown).length + ((PyData.shownKv _).map (·.length)).sum ≤ 720 * (ds.length + 1)
        rw [strLen_append, strLen_append]
        have e : ((": " : String) : Str).length = 2 := rfl
        omega
      · show (PyData.shownKv (ds.map _)).length + 1 = ds.length + 1
        omega
      · have e : PyData.depthKv ((PyData.str p.1, p.2) :: (ds.map fun p => ((.str p.1 : PyData), p.2))) = max (max (PyData.str p.1).depth p.2.depth) (PyData.depthKv (ds.map fun p => ((.str p.1 : PyData), p.2))) := by
          first
            | simp [PyData.depthKv]
            | simp [PyData.depthKv, Nat.max_assoc]
        have d0 : (PyData.str p.1).depth = 0 := by simp [PyData.depth]
        have d2 := fl_depth (h2 p List.mem_cons_self)
        show PyData.depthKv ((PyData.str p.1, p.2) :: (ds.map fun p => ((.str p.1 : PyData), p.2))) ≤ 2
        omega
  obtain ⟨k1, k2, k3, k4⟩ := key ds ok.keys ok.vals
  refine ⟨k1, ?_, ?_⟩
  · have l := dictText_len_le (PyData.shownKv (ds.map fun p => ((.str p.1 : PyData), p.2)))
    have f := ok.few
    show (dictText (PyData.shownKv (ds.map fun p => ((.str p.1 : PyData), p.2)))).length ≤ sizeLine
    rw [sizeLine_eq]
    omega
  · have e : (dicD ds).depth = PyData.depthKv (ds.map fun p => ((.str p.1 : PyData), p.2)) + 1 := by
      unfold dicD
      simp [PyData.depth]
    omega
section
variable {X : Cx} {pins : List (Addr × Obj)} {σ : L2.St} {H : Hp} {s : Shared}
theorem dic_reads (I : Inv X pins σ H s) : ∀ {ds : List (Str × PyData)} {kvs : List (L2.Key × V)} {vs : List (L2.Key × Value)} {l : List DictEntry}, DicV X.K H kvs ds → (∀ p ∈ ds, flB p.2 = true) → KV kvs vs → Pairs (mixKind X.prog X.w) l vs →
    ReadsAll s.heap (l.map (·.key)) (ds.map fun p => .str p.1) [] ∧ ReadsAll s.heap (l.map (·.val)) (ds.map (·.2)) []
  | [], kvs, vs, l, h, _, kv, pr => by
    cases (show kvs = [] from h)
    cases kv
    cases pr
    exact ⟨.nil, .nil⟩
  | p :: ds, _, vs, l, ⟨q, qs, rfl, hq, hr⟩, fl, kv, pr => by
    cases kv with
    | @cons _ r _ rs hr1 hrs =>
      obtain ⟨k, u⟩ := r
      obtain ⟨e1, e2⟩ := hr1
      cases pr with
      | @cons en kv' es' kvs' hk hv ht =>
        obtain ⟨a, b⟩ := dic_reads I hr (fun q hq => fl q (List.mem_cons_of_mem _ hq)) hrs ht
        have hv' : en.val = u := hv
        have ek : k = .inr p.1 := by
          have z : q.1 = k := e1
          rw [← z]
          exact hq.1
        subst ek
        obtain ⟨as, rd⟩ := Dp.reads I p.2 q.2 u hq.2 e2
        have e0 := fl_reads rd (fl p List.mem_cons_self)
        subst e0
        obtain ⟨_, _, z, _⟩ | ⟨x', t, e3, e4⟩ := keyIs_shape (k := .inr p.1) (v := en.key) hk
        · cases z
        · cases e3
          refine ⟨?_, ?_⟩
          · show ReadsAll s.heap (en.key :: es'.map (·.key)) (.str p.1 :: ds.map fun p => .str p.1) []
            rw [e4]
            exact ReadsAll.cons (as := []) (bs := []) (.str p.1 t) a
          · show ReadsAll s.heap (en.val :: es'.map (·.val)) (p.2 :: ds.map (·.2)) []
            rw [hv']
            exact ReadsAll.cons (as := []) (bs := []) rd b
def rReprDic (K : PySem.W.Frag) : List V → Hp → VK → Prop := fun xs H Q => ∃ (a : Addr) (kvs : List (L2.Key × V)) (ds : List (Str × PyData)), xs = [.ref a] ∧ H a = some (.dK kvs) ∧ DicV K H kvs ds ∧ DicOk ds ∧ Q (.str (dicD ds).shown) H
/-- repr(d), where no repr is under way -/
theorem call_reprDic (gd : X.A.guards = some []) (hu : X.A.units + 64 < cLine) : CallR X (.builtin "repr") (rReprDic X.K) := by
  intro pins s σ H xs us Q J rel ask
  obtain ⟨a, kvs, ds, rfl, ha, dv, ok, q⟩ := ask
  match us, rel with
  | [u], .cons r .nil =>
    obtain rfl : u = Value.ref a := r
    obtain ⟨_, ns, vs, kv, o, es, ep, h1, h2, h3, _, h5, _⟩ := dk_of J.hok ha
    obtain ⟨l⟩ := es
    obtain ⟨ra, rb⟩ := dic_reads J dv ok.vals kv h5
    obtain ⟨t1, t2, t3⟩ := dicD_text ok
    have rd : Reads s.heap (.ref a) (dicD ds) [a] := by
      refine Reads.dict (as := []) (bs := []) h1 h2.1 h3 ?_ ?_
      · rw [List.map_map]
        exact ra
      · rw [List.map_map]
        exact rb
    refine repr_of_reads' rd t1 (fun _ m => ?_) gd (by omega) (fun _ _ z => z) (fun h' u tk kp => ⟨.str _, H, J.kept (t' := tk) kp, ⟨_, rfl⟩, q⟩) t2
    rw [List.mem_singleton.mp m] at ns
    simp at ns
end
end Ad

/-! Drawn orders and tables of a drawn structure. -/
namespace Ad
open PySem PySem.Spec PySem.Calls PyProof.Rows L2
/-- rows that were drawn, for sentences -/
structure GenS (R S : List Row) : Prop where
  r : ROk R
  s : SOk S
  nd : ((R ++ S).map (·.1)).Nodup
  names : ∀ r ∈ R ++ S, nameOk r.1 = true ∧ r.1 ≠ "yes" ∧ r.2.1 ≤ 2
  few : R.length + S.length ≤ 10
theorem gens_ok {B D : List Pr} {R S : List Row} (hB : B ∈ thingsB) (hD : D ∈ truthsB) (mR : Mixed B R) (mS : Mixed D S) : GenS R S := by
  have pR := mR.perm
  have pS := mS.perm
  have h : (thingsB.all fun B => B.all (fun r => nameOk r.1 && (decide (r.1 ≠ "yes") && decide (r.2 ≤ 2))) && decide (B.length ≤ 5)) = true := by decide +kernel
  have h1 := List.all_eq_true.mp h B hB
  rw [Bool.and_eq_true] at h1
  obtain ⟨h2, h4⟩ := h1
  have k : (truthsB.all fun B => B.all (fun r => nameOk r.1 && (decide (r.1 ≠ "yes") && decide (r.2 ≤ 2))) && !B.isEmpty && decide (B.length ≤ 5)) = true := by decide +kernel
  have k1 := List.all_eq_true.mp k D hD
  rw [Bool.and_eq_true, Bool.and_eq_true] at k1
  obtain ⟨⟨k2, k3⟩, k4⟩ := k1
  have lR := pR.length_eq
  have lS := pS.length_eq
  rw [List.length_map] at lR lS
  have m4 := of_decide_eq_true h4
  have n4 := of_decide_eq_true k4
  have nm : ∀ r ∈ R ++ S, nameOk r.1 = true ∧ r.1 ≠ "yes" ∧ r.2.1 ≤ 2 := fun r hr => by
    have z2 : (nameOk r.1 && (decide (r.1 ≠ "yes") && decide (r.2.1 ≤ 2))) = true := by
      rcases List.mem_append.mp hr with e | e
      · exact List.all_eq_true.mp h2 _ (pR.mem_iff.mp (List.mem_map.mpr ⟨r, e, rfl⟩))
      · exact List.all_eq_true.mp k2 _ (pS.mem_iff.mp (List.mem_map.mpr ⟨r, e, rfl⟩))
    obtain ⟨a, b⟩ := Bool.and_eq_true_iff.mp z2
    obtain ⟨b, c⟩ := Bool.and_eq_true_iff.mp b
    exact ⟨a, of_decide_eq_true b, of_decide_eq_true c⟩
  refine ⟨mixed_ok hB mR, ⟨fun e => ?_, by omega, fun r hr => ?_⟩, ?_, nm, by omega⟩
  · rw [e] at lS
    have : D = [] := List.length_eq_zero_iff.mp lS.symm
    rw [this] at k3
    cases k3
  · have := (nm r (List.mem_append_right _ hr)).2.2
    omega
  · have n : (thingsB.all fun B => truthsB.all fun D => decide (((B ++ D).map (·.1)).Nodup)) = true := by decide +kernel
    have n1 := of_decide_eq_true (List.all_eq_true.mp (List.all_eq_true.mp n B hB) D hD)
    have pp : ((R ++ S).map (·.1)).Perm ((B ++ D).map (·.1)) := by
      have e : (R ++ S).map (·.1) = ((R ++ S).map fun r => (r.1, r.2.1)).map (·.1) := by rw [List.map_map]; rfl
      rw [e, List.map_append]
      exact (pR.append pS).map _
    exact pp.nodup_iff.mpr n1
/-- a name with its row of values -/
abbrev Tb := Str × List V
def ThRow (n : Nat) (r : Row) (t : Tb) : Prop := t.1 = r.1 ∧ t.2.length = n ^ r.2.1 ∧ ∀ v ∈ t.2, ∃ m : Nat, m < n ∧ v = .int (m : Int)
def TrRow (n : Nat) (r : Row) (t : Tb) : Prop := t.1 = r.1 ∧ t.2.length = n ^ r.2.1 ∧ ∀ v ∈ t.2, ∃ b, v = .bl b
def TblV (K : PySem.W.Frag) (H : Hp) (ts : List Tb) (kvs : List (L2.Key × V)) : Prop := F2 (fun (t : Tb) (q : L2.Key × V) => q.1 = .inr t.1 ∧ ∃ a, q.2 = .ref a ∧ SqT K H a t.2) ts kvs
theorem TblV.mono {K : PySem.W.Frag} {H H' : Hp} (k : TK H H') {ts : List Tb} {kvs : List (L2.Key × V)} (h : TblV K H ts kvs) : TblV K H' ts kvs := F2.mono (fun t q ⟨e, a, e2, s⟩ => ⟨e, a, e2, k.sq s⟩) h
theorem TblV.keys {K : PySem.W.Frag} {H : Hp} : ∀ {ts : List Tb} {kvs : List (L2.Key × V)}, TblV K H ts kvs → kvs.map (·.1) = ts.map fun t => Sum.inr t.1
  | [], kvs, h => by
    cases (show kvs = [] from h)
    rfl
  | t :: ts, _, ⟨q, qs, rfl, ⟨e, _⟩, hr⟩ => by
    rw [List.map_cons, List.map_cons, e, TblV.keys hr]
theorem TblV.put {K : PySem.W.Frag} {H : Hp} {ts : List Tb} {kvs : List (L2.Key × V)} (h : TblV K H ts kvs) {t : Tb} {a : Addr} (new : t.1 ∉ ts.map (·.1)) (s : SqT K H a t.2) : TblV K H (ts ++ [t]) (putK kvs (.inr t.1) (.ref a)) := by
  have out : valV kvs (.inr t.1) = none := valV_out fun z => by
    rw [h.keys] at z
    obtain ⟨u, hu, e⟩ := List.mem_map.mp z
    exact new (List.mem_map.mpr ⟨u, hu, Sum.inr.inj e⟩)
  rw [putK_new _ out]
  exact F2.app h (F2.one ⟨rfl, a, rfl, s⟩)
theorem TblV.val {K : PySem.W.Frag} {H : Hp} : ∀ {ts : List Tb} {kvs : List (L2.Key × V)}, TblV K H ts kvs → ∀ (x : Str) (vs : List V), ts.lookup x = some vs → ∃ a, valV kvs (.inr x) = some (.ref a) ∧ SqT K H a vs
  | [], _, _, x, vs, h => by cases h
  | t :: ts, _, ⟨q, qs, rfl, ⟨e, a, e2, s⟩, hr⟩, x, vs, h => by
    by_cases z : x = t.1
    · subst z
      rw [show (t :: ts).lookup t.1 = some t.2 from by
        obtain ⟨t1, t2⟩ := t
        rw [List.lookup_cons_self]] at h
      cases h
      refine ⟨a, ?_, s⟩
      rw [valV_pos e, e2]
    · rw [show (t :: ts).lookup x = ts.lookup x from by
        obtain ⟨t1, t2⟩ := t
        rw [List.lookup_cons, show (x == t1) = false from by
          rw [beq_eq_false_iff_ne]
          exact z]] at h
      obtain ⟨a', e', s'⟩ := TblV.val hr x vs h
      refine ⟨a', ?_, s'⟩
      rw [valV_neg (fun w => z (by rw [e] at w; exact (Sum.inr.inj w).symm))]
      exact e'
def moOf (n : Nat) (ts : List Tb) : Mo := ⟨n, fun x => (ts.lookup x).getD []⟩
theorem lookup_row {n : Nat} {Rl : Nat → Row → Tb → Prop} (key : ∀ r t, Rl n r t → t.1 = r.1) : ∀ {R : List Row} {ts : List Tb}, F2 (Rl n) R ts → (R.map (·.1)).Nodup → ∀ r ∈ R, ∃ vs, (∀ more, (ts ++ more).lookup r.1 = some vs) ∧ Rl n r (r.1, vs)
  | [], _, _, _, r, hr => by cases hr
  | r0 :: R, _, ⟨t, ts, rfl, h0, h1⟩, nd, r, hr => by
    have e0 := key _ _ h0
    obtain ⟨t1, t2⟩ := t
    cases (show t1 = r0.1 from e0)
    rcases List.mem_cons.mp hr with rfl | hr
    · refine ⟨t2, fun more => ?_, h0⟩
      show ((r.1, t2) :: (ts ++ more)).lookup r.1 = some t2
      rw [List.lookup_cons_self]
    · have nd' := List.nodup_cons.mp (show (r0.1 :: R.map (·.1)).Nodup from nd)
      obtain ⟨vs, hv, h⟩ := lookup_row key h1 nd'.2 r hr
      refine ⟨vs, fun more => ?_, h⟩
      show ((r0.1, t2) :: (ts ++ more)).lookup r.1 = some vs
      rw [List.lookup_cons, show (r.1 == r0.1) = false from by
        rw [beq_eq_false_iff_ne]
        exact fun z => nd'.1 (z ▸ List.mem_map.mpr ⟨r, hr, rfl⟩)]
      exact hv more
theorem lookup_skip {n : Nat} {Rl : Nat → Row → Tb → Prop} (key : ∀ r t, Rl n r t → t.1 = r.1) (x : Str) (us : List Tb) : ∀ {R : List Row} {ts : List Tb}, F2 (Rl n) R ts → x ∉ R.map (·.1) → (ts ++ us).lookup x = us.lookup x
  | [], ts, h, _ => by
    cases (show ts = [] from h)
    rfl
  | r0 :: R, _, ⟨t, ts, rfl, h0, h1⟩, out => by
    have e0 := key _ _ h0
    obtain ⟨t1, t2⟩ := t
    cases (show t1 = r0.1 from e0)
    show ((r0.1, t2) :: (ts ++ us)).lookup x = _
    rw [List.lookup_cons, show (x == r0.1) = false from by
      rw [beq_eq_false_iff_ne]
      exact fun z => out (z ▸ List.mem_cons_self)]
    exact lookup_skip key x us h1 fun z => out (List.mem_cons_of_mem _ z)
structure Tabs (n : Nat) (R S : List Row) (ts us : List Tb) : Prop where
  things : F2 (ThRow n) R ts
  truths : F2 (TrRow n) S us
theorem Tabs.at {n : Nat} {R S : List Row} {ts us : List Tb} (h : Tabs n R S ts us) (nd : ((R ++ S).map (·.1)).Nodup) :
    (∀ r ∈ R, ∃ vs, (ts ++ us).lookup r.1 = some vs ∧ ThRow n r (r.1, vs)) ∧ ∀ r ∈ S, ∃ vs, (ts ++ us).lookup r.1 = some vs ∧ TrRow n r (r.1, vs) := by
  rw [List.map_append] at nd
  obtain ⟨n1, n2, n3⟩ := List.nodup_append.mp nd
  refine ⟨fun r hr => ?_, fun r hr => ?_⟩
  · obtain ⟨vs, e, q⟩ := lookup_row (Rl := ThRow) (fun _ _ h => h.1) h.things n1 r hr
    exact ⟨vs, e us, q⟩
  · obtain ⟨vs, e, q⟩ := lookup_row (Rl := TrRow) (fun _ _ h => h.1) h.truths n2 r hr
    refine ⟨vs, ?_, q⟩
    rw [lookup_skip (Rl := ThRow) (fun _ _ h => h.1) r.1 us h.things fun z => n3 r.1 z r.1 (List.mem_map.mpr ⟨r, hr, rfl⟩) rfl]
    have := e []
    rw [List.append_nil] at this
    exact this
theorem Tabs.mo {n : Nat} {R S : List Row} {ts us : List Tb} (h : Tabs n R S ts us) (nd : ((R ++ S).map (·.1)).Nodup) (n1 : 1 ≤ n) (n3 : n ≤ 3) : MoOk (moOf n (ts ++ us)) R S := by
  obtain ⟨a, b⟩ := h.at nd
  refine ⟨n1, n3, fun r hr => ?_, fun r hr => ?_⟩
  · obtain ⟨vs, e, q⟩ := a r hr
    show ((((ts ++ us).lookup r.1).getD []).length = n ^ r.2.1 ∧ ∀ v ∈ ((ts ++ us).lookup r.1).getD [], ∃ m : Nat, m < n ∧ v = .int (m : Int))
    rw [e]
    exact q.2
  · obtain ⟨vs, e, q⟩ := b r hr
    show ((((ts ++ us).lookup r.1).getD []).length = n ^ r.2.1 ∧ ∀ v ∈ ((ts ++ us).lookup r.1).getD [], ∃ b, v = .bl b)
    rw [e]
    exact q.2
theorem Tabs.tabAt {K : PySem.W.Frag} {H : Hp} {n : Nat} {R S : List Row} {ts us : List Tb} (h : Tabs n R S ts us) (nd : ((R ++ S).map (·.1)).Nodup) {td : Addr} {kvs : List (L2.Key × V)} (e : H td = some (.dK kvs)) (v : TblV K H (ts ++ us) kvs) : TabAt K H (moOf n (ts ++ us)) (R ++ S) td := by
  obtain ⟨a, b⟩ := h.at nd
  refine ⟨kvs, e, fun r hr => ?_⟩
  have key : ∃ vs, (ts ++ us).lookup r.1 = some vs := by
    rcases List.mem_append.mp hr with z | z
    · obtain ⟨vs, e, _⟩ := a r z
      exact ⟨vs, e⟩
    · obtain ⟨vs, e, _⟩ := b r z
      exact ⟨vs, e⟩
  obtain ⟨vs, ev⟩ := key
  obtain ⟨t, e1, e2⟩ := v.val r.1 vs ev
  refine ⟨t, e1, ?_⟩
  show SqT K H t (((ts ++ us).lookup r.1).getD [])
  rw [ev]
  exact e2
/-! as data -/
def scD : V → PyData
  | .int i => .int i
  | .bl b => .bool b
  | _ => .none
def flatB (n : Nat) (v : V) : Prop := (∃ m : Nat, m < n ∧ v = .int (m : Int)) ∨ ∃ b, v = .bl b
theorem flat_dp {K : PySem.W.Frag} {H : Hp} {n : Nat} : ∀ {vs : List V}, (∀ v ∈ vs, flatB n v) → DpAll K H vs (vs.map scD)
  | [], _ => .nil
  | v :: vs, h => by
    refine .cons ?_ (flat_dp fun u hu => h u (List.mem_cons_of_mem _ hu))
    rcases h v List.mem_cons_self with ⟨m, _, rfl⟩ | ⟨b, rfl⟩
    · exact .int _
    · exact .bl _
theorem flat_sc {n : Nat} (hn : n ≤ 64) {v : V} (h : flatB n v) : scB (scD v) = true := by
  rcases h with ⟨m, hm, rfl⟩ | ⟨b, rfl⟩
  · show (decide (0 ≤ (m : Int)) && decide ((m : Int) < 64)) = true
    rw [decide_eq_true (by omega), decide_eq_true (by omega)]
    rfl
  · rfl
def tabD (ts : List Tb) : List (Str × PyData) := ts.map fun t => (t.1, .tuple (t.2.map scD))
theorem tab_dic {K : PySem.W.Frag} {H : Hp} {n : Nat} : ∀ {ts : List Tb} {kvs : List (L2.Key × V)}, TblV K H ts kvs → (∀ t ∈ ts, ∀ v ∈ t.2, flatB n v) → DicV K H kvs (tabD ts)
  | [], kvs, h, _ => by
    cases (show kvs = [] from h)
    exact rfl
  | t :: ts, _, ⟨q, qs, rfl, ⟨e, a, e2, s⟩, hr⟩, fl => by
    refine ⟨q, qs, rfl, ⟨e, ?_⟩, tab_dic hr fun u hu => fl u (List.mem_cons_of_mem _ hu)⟩
    rw [e2]
    exact .tup s (flat_dp (fl t List.mem_cons_self))
theorem F2.right {α β : Type} {R : α → β → Prop} {y : β} : ∀ {xs : List α} {ys : List β}, F2 R xs ys → y ∈ ys → ∃ x ∈ xs, R x y
  | [], ys, h, hy => by
    cases (show ys = [] from h)
    cases hy
  | x :: xs, _, ⟨z, zs, rfl, h1, h2⟩, hy => by
    rcases List.mem_cons.mp hy with rfl | hy
    · exact ⟨x, List.mem_cons_self, h1⟩
    · obtain ⟨u, hu, q⟩ := F2.right h2 hy
      exact ⟨u, List.mem_cons_of_mem _ hu, q⟩
theorem Tabs.flat {n : Nat} {R S : List Row} {ts us : List Tb} (h : Tabs n R S ts us) : ∀ t ∈ ts ++ us, ∀ v ∈ t.2, flatB n v := fun t ht v hv => by
  rcases List.mem_append.mp ht with z | z
  · obtain ⟨r, _, q⟩ := F2.right h.things z
    exact .inl (q.2.2 v hv)
  · obtain ⟨r, _, q⟩ := F2.right h.truths z
    exact .inr (q.2.2 v hv)
theorem Tabs.dicOk {n : Nat} {R S : List Row} {ts us : List Tb} (h : Tabs n R S ts us) (g : GenS R S) (n3 : n ≤ 3) : DicOk (tabD (ts ++ us)) := by
  have fl := h.flat
  have l1 := h.things.len
  have l2 := h.truths.len
  have fw := g.few
  have key : ∀ t ∈ ts ++ us, nameOk t.1 = true ∧ t.2.length ≤ 9 := fun t ht => by
    have pw : ∀ k, k ≤ 2 → n ^ k ≤ 9 := fun k hk => by
      have := Nat.pow_le_pow_left n3 k
      have : 3 ^ k ≤ 3 ^ 2 := Nat.pow_le_pow_right (by decide) hk
      omega
    rcases List.mem_append.mp ht with z | z
    · obtain ⟨r, hr, q⟩ := F2.right h.things z
      obtain ⟨n1, n2, n3⟩ := g.names r (List.mem_append_left _ hr)
      rw [q.1, q.2.1]
      exact ⟨n1, pw _ n3⟩
    · obtain ⟨r, hr, q⟩ := F2.right h.truths z
      obtain ⟨n1, n2, n3⟩ := g.names r (List.mem_append_right _ hr)
      rw [q.1, q.2.1]
      exact ⟨n1, pw _ n3⟩
  refine ⟨fun p hp => ?_, fun p hp => ?_, ?_⟩
  · obtain ⟨t, ht, rfl⟩ := List.mem_map.mp hp
    exact (key t ht).1
  · obtain ⟨t, ht, rfl⟩ := List.mem_map.mp hp
    show ((t.2.map scD).all scB && decide ((t.2.map scD).length ≤ 100)) = true
    rw [List.length_map, decide_eq_true (by have := (key t ht).2; omega), Bool.and_true]
    refine List.all_eq_true.mpr fun d hd => ?_
    obtain ⟨v, hv, rfl⟩ := List.mem_map.mp hd
    exact flat_sc (by omega) (fl t ht v hv)
  · unfold tabD
    rw [List.length_map, List.length_append]
    omega
end Ad

/-! A size to the power of an arity. -/
namespace Ad
open PySem PySem.Spec PySem.Calls PyProof.Rows L2
abbrev sLMany : Stmt := topS 29
theorem scLMany : FnScope ["_law_size", "_law_arity", "_law_found", "_law_k"] ["_law_size", "_law_arity"] (defScope sLMany) := ⟨rfl, rfl, rfl, by decide +kernel, rfl, by decide +kernel, by decide +kernel⟩
theorem cmul_few {i : Int} {n : Nat} (h : n ≤ 100) : CMul i (n : Int) := .inr ⟨by omega, by omega⟩
section
variable {P : Program} {w : World} {K : PySem.W.Frag} {mg : Str → Option Value} {base : Heap}
def spLMany : Sp := fun vs H Q _ => ∃ (s a : Nat), vs = [.int (s : Int), .int (a : Int)] ∧ s ≤ 3 ∧ a ≤ 3 ∧ Q (.int ((s ^ a : Nat) : Int)) H
theorem ok_lmany {f : Addr} {fd : FuncData} {k : Nat} (F : Fun K "_law_many" "_law_many" sLMany f fd) (m_range : mg "range" = none) : FnOk P w K mg base CX0 (k + 1) f fd ["_law_size", "_law_arity"] spLMany := by
  refine F.ok scLMany (fun vs H Q E h => ?_) (fun cdv A outer s H vs Q E hr h => ?_)
  · obtain ⟨s, a, rfl, _⟩ := h
    rfl
  · obtain ⟨s, a, rfl, s3, a3, q⟩ := h
    refine ⟨_, (pss_cons (ps_set (i := 2) scLMany.nd rfl (.inl rfl) pe_int)
    (pss_cons (ps_for PassesOwn.never rfl (pi_range1 (by rfl) m_range (pa_cons (pv 1) pa_nil)) (pg_name (i := 3) scLMany.nd rfl (.inl rfl))
      (pss_one (ps_set (i := 2) scLMany.nd rfl (.inl rfl) (pe_op op_mul (pv 2) (pv 0)))))
    (pss_one (ps_ret (pv 2))))), ?_⟩
    refine ⟨.int (a : Int), rfl, _, rfl, by omega, by omega, ?_⟩
    refine for_range (fun i σ G => ∃ (v3 : Option V), σ = [some (.int (s : Int)), some (.int (a : Int)), some (.int ((s ^ i : Nat) : Int)), v3] ∧ G = H) ⟨none, rfl, rfl⟩ ?_ ?_
    · rintro i σ G hi ⟨v3, rfl, rfl⟩
      have e : ((s ^ (i + 1) : Nat) : Int) = ((s ^ i : Nat) : Int) * (s : Int) := by rw [Nat.pow_succ, Int.natCast_mul]
      refine ⟨_, rfl, _, rfl, _, _, rfl, rfl, cmul_few (by omega), some (.int (0 + (i : Int))), ?_, rfl⟩
      rw [e]
      rfl
    · rintro σ G ⟨v3, rfl, rfl⟩
      exact ⟨_, rfl, q⟩
end
end Ad

/-! A drawn table for each name. -/
namespace Ad
open PySem PySem.Spec PySem.Calls PyProof.Rows L2
abbrev sLTables : Stmt := topS 28
theorem scLTables : FnScope ["_law_pen_here", "_law_rows", "_law_size", "_law_tables", "_law_name", "_law_arity", "_law_weight", "_law_k"] ["_law_pen_here", "_law_rows", "_law_size"] (defScope sLTables) := ⟨rfl, rfl, rfl, by decide +kernel, rfl, by decide +kernel, by decide +kernel⟩
section
variable {P : Program} {w : World} {K : PySem.W.Frag} {mg : Str → Option Value} {base : Heap}
def spLTables (K : PySem.W.Frag) : Sp := fun vs H Q _ => ∃ (p l ra : Addr) (ns : List Int) (c n : Nat) (R S : List Row), vs = [.ref p, .ref ra, .int (n : Int)] ∧ Pn.Pen H p l ns c ∧ ns.length ≤ 1000 ∧ c + 1000 ≤ 1000000000 ∧ OrdAt K H ra R S ∧ GenS R S ∧ 1 ≤ n ∧ n ≤ 3 ∧
  ∀ (ts us : List Tb) (td : Addr) (kvs : List (L2.Key × V)) H' c', H' td = some (.dK kvs) → td ≠ p → TblV K H' (ts ++ us) kvs → Tabs n R S ts us → c' ≤ c + 1000 → Pn.Pen H' p l ns c' → Pn.But p H H' → Q (.ref td) H'
theorem ok_ltables {f f1 f2 : Addr} {fd d1 d2 : FuncData} {k : Nat} (F : Fun K "_law_drawn_tables" "_law_drawn_tables" sLTables f fd)
    (hLDraw : Has P w K mg base k "_law_draw" ["_law_pen_here", "_law_many_here"] Pn.spDraw f1 d1) (hLMany : Has P w K mg base k "_law_many" ["_law_size", "_law_arity"] spLMany f2 d2)
    (m_range : mg "range" = none) (m_tuple : mg "tuple" = none) : FnOk P w K mg base CX0 (k + 1) f fd ["_law_pen_here", "_law_rows", "_law_size"] (spLTables K) := by
  refine F.ok scLTables (fun vs H Q E h => ?_) (fun cdv A outer s H vs Q E hr h => ?_)
  · obtain ⟨p, l, ra, ns, c, n, R, S, rfl, _⟩ := h
    rfl
  · obtain ⟨p, l, ra, ns, c, n, R, S, rfl, hP, hlen, hc, hO, gs, n1, n3, q⟩ := h
    refine ⟨_, (pss_cons (ps_set (i := 3) scLTables.nd rfl (.inl rfl) pe_dnewK)
    (pss_cons (ps_for PassesOwn.never rfl (pi_tup (pe_ix ix_tup (pv 1) pe_int (fun _ _ => rfl))) (pg_tup rfl (pgs_cons (pg_name (i := 4) scLTables.nd rfl (.inl rfl)) (pgs_cons (pg_name (i := 5) scLTables.nd rfl (.inl rfl)) (pgs_cons (pg_name (i := 6) scLTables.nd rfl (.inl rfl)) pgs_nil))))
      (pss_one (ps_dput (hu1 hr) (pv 3) (pv 4) (pe_callTy call_tuple_of (by rfl) m_tuple (by decide +kernel) (pa_cons (pe_lc (own := [("_law_k", 7)]) (g := gName 7) (tt := tYes) (te := tCall Pn.spDraw [] E0 (tCons (tVar 0) (tCons (tVar 2) tNil))) rfl scLTables.nd (pi_range1 (by rfl) m_range (pa_cons (pe_call hLMany.G hr (by rfl) hLMany.g hLMany.kp hLMany.b .nil pass0 (pa_cons (pv 2) (pa_cons (pv 5) pa_nil))) pa_nil)) (blkOk_by (N := ["_law_pen_here", "_law_rows", "_law_size", "_law_tables", "_law_name", "_law_arity", "_law_weight", "_law_k"]) (sc := defScope sLTables) (by decide +kernel)) (fun _ _ _ _ _ => (pg_name (i := 7) scLTables.nd rfl (.inl rfl))) (fun _ _ _ _ _ => pts_nil) (fun _ _ _ _ _ => (pe_call hLDraw.G hr (by rfl) hLDraw.g hLDraw.kp hLDraw.b .nil pass0 (pa_cons (pv 0) (pa_cons (pv 2) pa_nil))))) pa_nil)) rfl)))
    (pss_cons (ps_for PassesOwn.never rfl (pi_tup (pe_ix ix_tup (pv 1) pe_int (fun _ _ => rfl))) (pg_tup rfl (pgs_cons (pg_name (i := 4) scLTables.nd rfl (.inl rfl)) (pgs_cons (pg_name (i := 5) scLTables.nd rfl (.inl rfl)) (pgs_cons (pg_name (i := 6) scLTables.nd rfl (.inl rfl)) pgs_nil))))
      (pss_one (ps_dput (hu1 hr) (pv 3) (pv 4) (pe_callTy call_tuple_of (by rfl) m_tuple (by decide +kernel) (pa_cons (pe_lc (own := [("_law_k", 7)]) (g := gName 7) (tt := tYes) (te := tOp rEq (tCall Pn.spDraw [] E0 (tCons (tVar 0) (tCons (tC (.int 2)) tNil))) (tC (.int 1))) rfl scLTables.nd (pi_range1 (by rfl) m_range (pa_cons (pe_call hLMany.G hr (by rfl) hLMany.g hLMany.kp hLMany.b .nil pass0 (pa_cons (pv 2) (pa_cons (pv 5) pa_nil))) pa_nil)) (blkOk_by (N := ["_law_pen_here", "_law_rows", "_law_size", "_law_tables", "_law_name", "_law_arity", "_law_weight", "_law_k"]) (sc := defScope sLTables) (by decide +kernel)) (fun _ _ _ _ _ => (pg_name (i := 7) scLTables.nd rfl (.inl rfl))) (fun _ _ _ _ _ => pts_nil) (fun _ _ _ _ _ => (pe_cmpR op_eq (pe_call hLDraw.G hr (by rfl) hLDraw.g hLDraw.kp hLDraw.b .nil pass0 (pa_cons (pv 0) (pa_cons pe_int pa_nil))) pe_int (nomark _)))) pa_nil)) rfl)))
    (pss_one (ps_ret (pv 3)))))), ?_⟩
    obtain ⟨b1, b2, vs1, vs2, q0, q1, q2, f1, f2⟩ := hO
    have nd := gs.nd
    have fewR := gs.few
    have l1 := f1.len
    have l2 := f2.len
    have hp0 : ∃ kvs, H p = some (.dK kvs) := by
      obtain ⟨⟨_, _, _, e, _⟩, _⟩ := hP
      exact ⟨_, e⟩
    intro td ntd
    have tdp : td ≠ p := fun z => by
      obtain ⟨_, e⟩ := hp0
      rw [z, e] at ntd
      cases ntd
    have s0 : Same H (upd H td (.dK [])) := same_new (fun b o e => e) ntd _
    have e0 : (upd H td (.dK [])) td = some (.dK []) := upd_same
    have P0 := pen_same hP s0
    generalize upd H td (.dK []) = H0 at s0 e0 P0
    have pw : ∀ r ∈ R ++ S, n ^ r.2.1 ≤ 9 := fun r hr => by
      have := (gs.names r hr).2.2
      have := Nat.pow_le_pow_left n3 r.2.1
      have : 3 ^ r.2.1 ≤ 3 ^ 2 := Nat.pow_le_pow_right (by decide) ‹_›
      omega
    -- the things
    refine ⟨.ref ra, rfl, ra, _, 0, .ref b1, rfl, rfl, (TK.same s0).sq q0, atI_nat (j := 0) rfl, b1, rfl, ⟨vs1, (TK.same s0).sq q1⟩, for_tup (K := K) (a := b1) (xs := vs1) (fun i σ G => ∃ (v4 v5 v6 : Option V) (ts : List Tb) (kvs : List (L2.Key × V)) (c1 : Nat), σ = [some (.ref p), some (.ref ra), some (.int (n : Int)), some (.ref td), v4, v5, v6, none] ∧ Pn.Pen G p l ns c1 ∧ c1 ≤ c + i * 10 ∧ Pn.But p H G ∧ TK H G ∧ G td = some (.dK kvs) ∧ TblV K G ts kvs ∧ F2 (ThRow n) (R.take i) ts) ⟨none, none, none, [], [], c, rfl, P0, by omega, Pn.But.of s0, TK.same s0, e0, rfl, rfl⟩ (fun i σ G _ ⟨_, _, _, _, _, _, _, _, _, _, k, _⟩ => k.sq q1) ?_ ?_⟩
    · rintro i y σ G hy ⟨v4, v5, v6, ts, kvs, c1, rfl, P1, hc1, bu1, k1, gtd, tv, fr⟩
      obtain ⟨r, hr', b, rfl, sb⟩ := f1.get hy
      have il := (List.getElem?_eq_some_iff.mp hr').1
      have rm : r ∈ R := List.mem_of_getElem? hr'
      have p9 := pw r (List.mem_append_left _ rm)
      have a2 := (gs.names r (List.mem_append_left _ rm)).2.2
      have lts := fr.len
      rw [List.length_take] at lts
      have lkv : kvs.length = ts.length := by
        have := congrArg List.length tv.keys
        rw [List.length_map, List.length_map] at this
        exact this
      have new : r.1 ∉ ts.map (·.1) := fun z => by
        obtain ⟨t, ht, e⟩ := List.mem_map.mp z
        obtain ⟨r2, hr2, qr⟩ := F2.right fr ht
        have ndR : (R.map (·.1)).Nodup := by
          rw [List.map_append] at nd
          exact (List.nodup_append.mp nd).1
        have e2 : (R.take (i + 1)).map (·.1) = (R.take i).map (·.1) ++ [r.1] := by rw [take_next hr', List.map_append]; rfl
        have nd2 : ((R.take (i + 1)).map (·.1)).Nodup := ndR.sublist ((List.take_sublist _ _).map _)
        rw [e2] at nd2
        exact (List.nodup_append.mp nd2).2.2 r.1 (List.mem_map.mpr ⟨r2, hr2, by rw [← qr.1]; exact e⟩) r.1 (List.mem_singleton_self _) rfl
      refine ⟨b, _, rfl, k1.sq sb, rfl, _, _, rfl, _, _, rfl, _, _, rfl, rfl, ?_⟩
      refine ⟨.int (n : Int), rfl, .int (r.2.1 : Int), rfl, n, r.2.1, rfl, n3, by omega, _, rfl, by omega, by omega, fun D nD => ?_⟩
      have pD : D ≠ p := fun z => by
        obtain ⟨⟨_, _, _, e, _⟩, _⟩ := P1
        rw [z, e] at nD
        cases nD
      have Dtd : D ≠ td := fun z => by rw [z, gtd] at nD; cases nD
      have P1' := pen_same P1 (same_new (fun b o e => e) nD (.lst []))
      refine lc_range (lo := 0) (n := (((n ^ r.2.1 : Nat) : Int)).toNat) (fun j G5 => ∃ (acc : List V) (c5 : Nat), Pn.But p G G5 ∧ G5 D = some (.lst acc) ∧ acc.length = j ∧ Pn.Pen G5 p l ns c5 ∧ c5 ≤ c1 + j ∧ ∀ v ∈ acc, ∃ m : Nat, m < n ∧ v = .int (m : Int)) ⟨[], c1, Pn.But.of (same_new (fun b o e => e) nD _), upd_same, rfl, P1', by omega, fun t ht => nomatch ht⟩ ?_ ?_
      · rintro j G5 hj ⟨acc, c5, b5, gD, la, P5, hc5, hv⟩
        refine ⟨rfl, .ref p, rfl, .int (n : Int), rfl, p, l, ns, c5, (n : Int), rfl, P5, hlen, by omega, by omega, by omega, fun m G6 m0 m1 P6 b6 => ⟨acc, b6 _ _ pD gD, by rw [sizeLine_eq]; omega, acc ++ [.int m], c5 + 1, ?_, upd_same, by rw [List.length_append, la]; rfl, ?_, by omega, ?_⟩⟩
        · intro b o nb e
          have nbD : b ≠ D := fun z => by rw [z, nD] at e; cases e
          rw [upd_ne nbD]
          exact b6 _ _ nb (b5 _ _ nb e)
        · obtain ⟨⟨a1, a2, a3, a4, a5⟩, a6⟩ := P6
          have lD : l ≠ D := fun z => by
            have e := P1.ls
            rw [z, nD] at e
            cases e
          exact ⟨⟨a1, a2, a3, by rw [upd_ne pD.symm]; exact a4, a5⟩, by rw [upd_ne lD]; exact a6⟩
        · intro v hv'
          rcases List.mem_append.mp hv' with z | z
          · exact hv v z
          · rw [List.mem_singleton.mp z]
            exact ⟨m.toNat, by omega, by rw [show ((m.toNat : Nat) : Int) = m by omega]⟩
      · rintro G5 ⟨acc, c5, b5, gD, la, P5, hc5, hv⟩
        have k5 := pen_tk P1 b5
        refine ⟨D, acc, rfl, .inl ⟨.inl (.inl gD), fun p6 n6 => ?_⟩⟩
        have s6 : Same G5 (upd G5 p6 (.tup acc)) := same_new (fun b o e => e) n6 _
        have m6 : (upd G5 p6 (.tup acc)) p6 = some (.tup acc) := upd_same
        have P6 := pen_same P5 s6
        have gtd6 := s6 _ _ (b5 _ _ tdp gtd)
        have tv6 := (tv.mono k5).mono (TK.same s6)
        have bu6 := (bu1.trans b5).trans (Pn.But.of s6)
        have k6 := (k1.trans k5).trans (TK.same s6)
        generalize upd G5 p6 (.tup acc) = G6 at s6 m6 P6 gtd6 tv6 bu6 k6
        have kA : TK G6 (upd G6 td (.dK (putK kvs (.inr r.1) (.ref p6)))) := dk_tk gtd6 _
        have lacc : acc.length = n ^ r.2.1 := by omega
        refine ⟨.ref td, rfl, .str r.1, rfl, td, _, rfl, DPut.k (k := Sum.inr r.1) gtd6 (by rw [sizeLine_eq]; omega), _, _, _, ts ++ [(r.1, acc)], _, c5, rfl, pen_on hP ntd P6 _, by omega, but_on bu6 ntd _, k6.trans kA, upd_same, TblV.put (tv6.mono kA) (t := (r.1, acc)) new (kA.sq (.inl (.inl m6))), ?_⟩
        rw [take_next hr']
        exact F2.app fr (F2.one ⟨rfl, lacc, hv⟩)
    · rintro σ G ⟨v4, v5, v6, ts, kvs, c1, rfl, P1, hc1, bu1, k1, gtd, tv, fr⟩
      rw [l1, List.take_length] at fr
      rw [l1] at hc1
      have tbl0 : F2 (ThRow n) R ts := fr
      have ndS : (S.map (·.1)).Nodup ∧ ∀ x ∈ R.map (·.1), x ∉ S.map (·.1) := by
        rw [List.map_append] at nd
        obtain ⟨_, a, b⟩ := List.nodup_append.mp nd
        exact ⟨a, fun x h1 h2 => b x h1 x h2 rfl⟩
      have ltsR := fr.len
      refine ⟨.ref ra, rfl, ra, _, 1, .ref b2, rfl, rfl, k1.sq q0, atI_nat (j := 1) rfl, b2, rfl, ⟨vs2, k1.sq q2⟩, for_tup (K := K) (a := b2) (xs := vs2) (fun i σ G => ∃ (v4 v5 v6 : Option V) (us : List Tb) (kvs : List (L2.Key × V)) (c1 : Nat), σ = [some (.ref p), some (.ref ra), some (.int (n : Int)), some (.ref td), v4, v5, v6, none] ∧ Pn.Pen G p l ns c1 ∧ c1 ≤ c + R.length * 10 + i * 10 ∧ Pn.But p H G ∧ TK H G ∧ G td = some (.dK kvs) ∧ TblV K G (ts ++ us) kvs ∧ F2 (TrRow n) (S.take i) us) ⟨v4, v5, v6, [], kvs, c1, rfl, P1, by omega, bu1, k1, gtd, by rw [List.append_nil]; exact tv, rfl⟩ (fun i σ G _ ⟨_, _, _, _, _, _, _, _, _, _, k, _⟩ => k.sq q2) ?_ ?_⟩
      · clear hc1 P1 bu1 k1 gtd tv kvs c1 v4 v5 v6
        rintro i y σ G hy ⟨v4, v5, v6, us, kvs, c1, rfl, P1, hc1, bu1, k1, gtd, tv, fr⟩
        obtain ⟨r, hr', b, rfl, sb⟩ := f2.get hy
        have il := (List.getElem?_eq_some_iff.mp hr').1
        have rm : r ∈ S := List.mem_of_getElem? hr'
        have p9 := pw r (List.mem_append_right _ rm)
        have a2 := (gs.names r (List.mem_append_right _ rm)).2.2
        have lts := fr.len
        rw [List.length_take] at lts
        have lkv : kvs.length = ts.length + us.length := by
          have := congrArg List.length tv.keys
          rw [List.length_map, List.length_map, List.length_append] at this
          exact this
        have new : r.1 ∉ (ts ++ us).map (·.1) := fun z => by
          obtain ⟨t, ht, e⟩ := List.mem_map.mp z
          rcases List.mem_append.mp ht with ht | ht
          · obtain ⟨r2, hr2, qr⟩ := F2.right tbl0 ht
            exact ndS.2 r.1 (List.mem_map.mpr ⟨r2, hr2, by rw [← qr.1]; exact e⟩) (List.mem_map.mpr ⟨r, rm, rfl⟩)
          · obtain ⟨r2, hr2, qr⟩ := F2.right fr ht
            have e2 : (S.take (i + 1)).map (·.1) = (S.take i).map (·.1) ++ [r.1] := by rw [take_next hr', List.map_append]; rfl
            have nd2 : ((S.take (i + 1)).map (·.1)).Nodup := ndS.1.sublist ((List.take_sublist _ _).map _)
            rw [e2] at nd2
            exact (List.nodup_append.mp nd2).2.2 r.1 (List.mem_map.mpr ⟨r2, hr2, by rw [← qr.1]; exact e⟩) r.1 (List.mem_singleton_self _) rfl
        refine ⟨b, _, rfl, k1.sq sb, rfl, _, _, rfl, _, _, rfl, _, _, rfl, rfl, ?_⟩
        refine ⟨.int (n : Int), rfl, .int (r.2.1 : Int), rfl, n, r.2.1, rfl, n3, by omega, _, rfl, by omega, by omega, fun D nD => ?_⟩
        have pD : D ≠ p := fun z => by
          obtain ⟨⟨_, _, _, e, _⟩, _⟩ := P1
          rw [z, e] at nD
          cases nD
        have Dtd : D ≠ td := fun z => by rw [z, gtd] at nD; cases nD
        have P1' := pen_same P1 (same_new (fun b o e => e) nD (.lst []))
        refine lc_range (lo := 0) (n := (((n ^ r.2.1 : Nat) : Int)).toNat) (fun j G5 => ∃ (acc : List V) (c5 : Nat), Pn.But p G G5 ∧ G5 D = some (.lst acc) ∧ acc.length = j ∧ Pn.Pen G5 p l ns c5 ∧ c5 ≤ c1 + j ∧ ∀ v ∈ acc, ∃ b, v = .bl b) ⟨[], c1, Pn.But.of (same_new (fun b o e => e) nD _), upd_same, rfl, P1', by omega, fun t ht => nomatch ht⟩ ?_ ?_
        · rintro j G5 hj ⟨acc, c5, b5, gD, la, P5, hc5, hv⟩
          refine ⟨rfl, .ref p, rfl, p, l, ns, c5, 2, rfl, P5, hlen, by omega, by decide, by decide, fun m G6 m0 m1 P6 b6 => ⟨rfl, acc, b6 _ _ pD gD, by rw [sizeLine_eq]; omega, acc ++ [.bl (decide (V.int m = V.int 1))], c5 + 1, ?_, upd_same, by rw [List.length_append, la]; rfl, ?_, by omega, ?_⟩⟩
          · intro b o nb e
            have nbD : b ≠ D := fun z => by rw [z, nD] at e; cases e
            rw [upd_ne nbD]
            exact b6 _ _ nb (b5 _ _ nb e)
          · obtain ⟨⟨a1, a2, a3, a4, a5⟩, a6⟩ := P6
            have lD : l ≠ D := fun z => by
              have e := P1.ls
              rw [z, nD] at e
              cases e
            exact ⟨⟨a1, a2, a3, by rw [upd_ne pD.symm]; exact a4, a5⟩, by rw [upd_ne lD]; exact a6⟩
          · intro v hv'
            rcases List.mem_append.mp hv' with z | z
            · exact hv v z
            · exact ⟨_, List.mem_singleton.mp z⟩
        · rintro G5 ⟨acc, c5, b5, gD, la, P5, hc5, hv⟩
          have k5 := pen_tk P1 b5
          refine ⟨D, acc, rfl, .inl ⟨.inl (.inl gD), fun p6 n6 => ?_⟩⟩
          have s6 : Same G5 (upd G5 p6 (.tup acc)) := same_new (fun b o e => e) n6 _
          have m6 : (upd G5 p6 (.tup acc)) p6 = some (.tup acc) := upd_same
          have P6 := pen_same P5 s6
          have gtd6 := s6 _ _ (b5 _ _ tdp gtd)
          have tv6 := (tv.mono k5).mono (TK.same s6)
          have bu6 := (bu1.trans b5).trans (Pn.But.of s6)
          have k6 := (k1.trans k5).trans (TK.same s6)
          generalize upd G5 p6 (.tup acc) = G6 at s6 m6 P6 gtd6 tv6 bu6 k6
          have kA : TK G6 (upd G6 td (.dK (putK kvs (.inr r.1) (.ref p6)))) := dk_tk gtd6 _
          have lacc : acc.length = n ^ r.2.1 := by omega
          refine ⟨.ref td, rfl, .str r.1, rfl, td, _, rfl, DPut.k (k := Sum.inr r.1) gtd6 (by rw [sizeLine_eq]; omega), _, _, _, us ++ [(r.1, acc)], _, c5, rfl, pen_on hP ntd P6 _, by omega, but_on bu6 ntd _, k6.trans kA, upd_same, ?_, ?_⟩
          · rw [← List.append_assoc]
            exact TblV.put (tv6.mono kA) (t := (r.1, acc)) new (kA.sq (.inl (.inl m6)))
          · rw [take_next hr']
            exact F2.app fr (F2.one ⟨rfl, lacc, hv⟩)
      · clear hc1 P1 bu1 k1 gtd tv kvs c1 v4 v5 v6
        rintro σ G ⟨v4, v5, v6, us, kvs, c1, rfl, P1, hc1, bu1, k1, gtd, tv, fr⟩
        rw [l2, List.take_length] at fr
        rw [l2] at hc1
        exact ⟨.ref td, rfl, q ts us td kvs G c1 gtd tdp tv ⟨tbl0, fr⟩ (by omega) P1 bu1⟩
end
end Ad

/-! All rows of so many values. -/
namespace Ad
open PySem PySem.Spec PySem.Calls PyProof.Rows L2
abbrev sLRows : Stmt := topS 33
theorem scLRows : FnScope ["_law_size", "_law_many_here", "_law_found", "_law_k", "_law_longer", "_law_row", "_law_value_here"] ["_law_size", "_law_many_here"] (defScope sLRows) := ⟨rfl, rfl, rfl, by decide +kernel, rfl, by decide +kernel, by decide +kernel⟩
def natI (n : Nat) : V := .int (n : Int)
/-- a row of m values below n -/
def RwV (K : PySem.W.Frag) (H : Hp) (m n : Nat) (v : V) : Prop := ∃ (a : Addr) (ys : List Nat), v = .ref a ∧ SqT K H a (ys.map natI) ∧ ys.length = m ∧ ∀ y ∈ ys, y < n
theorem RwV.mono {K : PySem.W.Frag} {H H' : Hp} (k : TK H H') {m n : Nat} {v : V} (h : RwV K H m n v) : RwV K H' m n v := by
  obtain ⟨a, ys, e, s, q⟩ := h
  exact ⟨a, ys, e, k.sq s, q⟩
section
variable {P : Program} {w : World} {K : PySem.W.Frag} {mg : Str → Option Value} {base : Heap}
def spLRows (K : PySem.W.Frag) : Sp := fun vs H Q _ => ∃ (n m : Nat), vs = [.int (n : Int), .int (m : Int)] ∧ 1 ≤ n ∧ n ≤ 3 ∧ m ≤ 4 ∧ ∀ H' p xs, Same H H' → H p = none → H' p = some (.lst xs) → (∀ v ∈ xs, RwV K H' m n v) → xs.length ≤ 81 → Q (.ref p) H'
theorem ok_lrows {f : Addr} {fd : FuncData} {k : Nat} (F : Fun K "_law_value_rows" "_law_value_rows" sLRows f fd) (m_range : mg "range" = none) : FnOk P w K mg base CX0 (k + 1) f fd ["_law_size", "_law_many_here"] (spLRows K) := by
  refine F.ok scLRows (fun vs H Q E h => ?_) (fun cdv A outer s H vs Q E hr h => ?_)
  · obtain ⟨n, m, rfl, _⟩ := h
    rfl
  · obtain ⟨n, m, rfl, n1, n3, m4, q⟩ := h
    refine ⟨_, (pss_cons (ps_set (i := 2) scLRows.nd rfl (.inl rfl) (pe_lst (pa_cons (pe_tup pa_nil) pa_nil)))
    (pss_cons (ps_for PassesOwn.never rfl (pi_range1 (by rfl) m_range (pa_cons (pv 1) pa_nil)) (pg_name (i := 3) scLRows.nd rfl (.inl rfl))
      (pss_cons (ps_set (i := 4) scLRows.nd rfl (.inl rfl) (pe_lst pa_nil))
      (pss_cons (ps_for PassesOwn.never rfl (pi_list (pv 2)) (pg_name (i := 5) scLRows.nd rfl (.inr rfl))
        (pss_one (ps_set (i := 4) scLRows.nd rfl (.inl rfl) (pe_op op_cat (pv 4) (pe_lc (own := [("_law_value_here", 6)]) (g := gName 6) (tt := tYes) (te := tOp (rCatA K) (tVar 5) (tTup (tCons (tVar 6) tNil))) rfl scLRows.nd (pi_range1 (by rfl) m_range (pa_cons (pv 0) pa_nil)) (blkOk_by (N := ["_law_size", "_law_many_here", "_law_found", "_law_k", "_law_longer", "_law_row", "_law_value_here"]) (sc := defScope sLRows) (by decide +kernel)) (fun _ _ _ _ _ => (pg_name (i := 6) scLRows.nd rfl (.inl rfl))) (fun _ _ _ _ _ => pts_nil) (fun _ _ _ _ _ => (pe_op op_catA (pv 5) (pe_tup (pa_cons (pv 6) pa_nil)))))))))
      (pss_one (ps_set (i := 2) scLRows.nd rfl (.inl rfl) (pv 4))))))
    (pss_one (ps_ret (pv 2))))), ?_⟩
    refine ⟨Nat.zero_le _, fun z nz => ⟨by show 1 ≤ sizeLine; decide, fun l0 nl0 => ?_⟩⟩
    have sz : Same H (upd H z (.tup [])) := same_new (fun b o e => e) nz _
    have ez : (upd H z (.tup [])) z = some (.tup []) := upd_same
    have nl0H := none_before sz nl0
    have s0 : Same H (upd (upd H z (.tup [])) l0 (.lst [.ref z])) := same_new sz nl0 _
    have ez0 : (upd (upd H z (.tup [])) l0 (.lst [.ref z])) z = some (.tup []) := by
      rw [upd_ne (ne_of_none ez nl0)]
      exact ez
    have el0 : (upd (upd H z (.tup [])) l0 (.lst [.ref z])) l0 = some (.lst [.ref z]) := upd_same
    generalize upd (upd H z (.tup [])) l0 (.lst [.ref z]) = G0 at s0 ez0 el0
    refine ⟨.int (m : Int), rfl, _, rfl, by omega, by omega, ?_⟩
    have pw : ∀ i, i ≤ 4 → n ^ i ≤ 81 := fun i hi => by
      have h1 := Nat.pow_le_pow_left n3 i
      have h2 : 3 ^ i ≤ 3 ^ 4 := Nat.pow_le_pow_right (by decide) hi
      omega
    refine for_range (lo := 0) (n := ((m : Int)).toNat) (fun i σ G => ∃ (v3 v4 v5 : Option V) (lf : Addr) (xs : List V), σ = [some (.int (n : Int)), some (.int (m : Int)), some (.ref lf), v3, v4, v5, none] ∧ Same H G ∧ H lf = none ∧ G lf = some (.lst xs) ∧ (∀ v ∈ xs, RwV K G i n v) ∧ xs.length = n ^ i) ⟨none, none, none, l0, [.ref z], rfl, s0, nl0H, el0, fun v hv => by
      rw [List.mem_singleton.mp hv]
      exact ⟨z, [], rfl, .inl (.inl ez0), rfl, fun y hy => nomatch hy⟩, rfl⟩ ?_ ?_
    · rintro i σ G hi ⟨v3, v4, v5, lf, xs, rfl, sm, nlf, glf, hx, lx⟩
      have hi' : i < m := by omega
      have p1 := pw (i + 1) (by omega)
      rw [Nat.pow_succ] at p1
      refine ⟨Nat.zero_le _, fun ll nll => ?_⟩
      have s1 : Same G (upd G ll (.lst [])) := same_new (fun b o e => e) nll _
      have nllH := none_before sm nll
      have ell : (upd G ll (.lst [])) ll = some (.lst []) := upd_same
      generalize upd G ll (.lst []) = G1 at s1 ell
      have sm1 := sm.trans s1
      have glf1 := s1 _ _ glf
      refine ⟨.ref lf, rfl, lf, rfl, ⟨xs, .inl (.inl glf1)⟩, for_list (K := K) (a := lf) (xs := xs) (fun j σ G2 => ∃ (v5 : Option V) (la : Addr) (acc : List V), σ = [some (.int (n : Int)), some (.int (m : Int)), some (.ref lf), some (.int (0 + (i : Int))), some (.ref la), v5, none] ∧ Same G1 G2 ∧ H la = none ∧ G2 la = some (.lst acc) ∧ (∀ v ∈ acc, RwV K G2 (i + 1) n v) ∧ acc.length = j * n) ⟨v5, ll, [], rfl, fun b o e => e, nllH, ell, (fun v hv => by cases hv), (Nat.zero_mul n).symm⟩ (fun j σ G2 _ ⟨_, _, _, _, s, _⟩ => .inl (.inl (s _ _ glf1))) ?_ ?_⟩
      · rintro j y σ G2 hy ⟨v5', la, acc, rfl, s2, nla, gla, hacc, lacc⟩
        obtain ⟨ra, ys, rfl, sqr, lys, lt⟩ := hx y (List.mem_of_getElem? hy)
        have jl := (List.getElem?_eq_some_iff.mp hy).1
        have sq2 := (TK.same (s1.trans s2)).sq sqr
        have jn : (j + 1) * n ≤ n ^ i * n := Nat.mul_le_mul_right _ (by omega)
        rw [Nat.succ_mul] at jn
        refine ⟨.ref la, rfl, .int (n : Int), rfl, _, rfl, by omega, by omega, fun D nD => ?_⟩
        refine lc_range (lo := 0) (n := ((n : Int)).toNat) (fun t G3 => ∃ (acc2 : List V), Same G2 G3 ∧ G3 D = some (.lst acc2) ∧ (∀ v ∈ acc2, RwV K G3 (i + 1) n v) ∧ acc2.length = t) ⟨[], same_new (fun b o e => e) nD _, upd_same, (fun v hv => by cases hv), rfl⟩ ?_ ?_
        · rintro t G3 ht ⟨acc2, s3, gD, h2, l2⟩
          refine ⟨rfl, .ref ra, rfl, .int (0 + (t : Int)), rfl, by show 1 ≤ sizeLine; decide, fun z1 nz1 => ?_⟩
          have s4 : Same G3 (upd G3 z1 (.tup [.int (0 + (t : Int))])) := same_new (fun b o e => e) nz1 _
          refine rCatA_of ((TK.same (s3.trans s4)).sq sq2) (.inl (.inl upd_same)) (by rw [List.length_map, lys, sizeLine_eq]; show i + 1 ≤ _; omega) fun p4 G5 s5 sq5 => ?_
          have g5 := s5 _ _ (s4 _ _ gD)
          have s35 := (s3.trans s4).trans s5
          refine ⟨acc2, g5, by rw [sizeLine_eq]; omega, acc2 ++ [.ref p4], same_on s35 nD _, upd_same, fun v hv => ?_, by rw [List.length_append, l2]; rfl⟩
          have kA : TK G5 (upd G5 D (.lst (acc2 ++ [.ref p4]))) := TK.lst g5 _
          rcases List.mem_append.mp hv with h | h
          · exact ((h2 v h).mono (TK.same (s4.trans s5))).mono kA
          · rw [List.mem_singleton.mp h]
            refine ⟨p4, ys ++ [t], rfl, kA.sq ?_, by rw [List.length_append, lys]; rfl, fun y hy => ?_⟩
            · rw [List.map_append]
              rw [show (0 + (t : Int)) = (t : Int) from Int.zero_add _] at sq5
              exact sq5
            · rcases List.mem_append.mp hy with h | h
              · exact lt y h
              · rw [List.mem_singleton.mp h]
                omega
        · rintro G3 ⟨acc2, s3, gD, h2, l2⟩
          have gla3 := s3 _ _ gla
          refine ⟨la, D, _, _, rfl, rfl, gla3, gD, by rw [sizeLine_eq]; omega, fun l6 n6 => ?_⟩
          have s6 : Same G3 (upd G3 l6 (.lst (acc ++ acc2))) := same_new (fun b o e => e) n6 _
          refine ⟨_, l6, acc ++ acc2, rfl, (s2.trans s3).trans s6, none_before (sm1.trans (s2.trans s3)) n6, upd_same, fun v hv => ?_, by rw [List.length_append, lacc, l2, Nat.succ_mul]; omega⟩
          rcases List.mem_append.mp hv with h | h
          · exact ((hacc v h).mono (TK.same s3)).mono (TK.same s6)
          · exact (h2 v h).mono (TK.same s6)
      · rintro σ G2 ⟨v5', la, acc, rfl, s2, nla, gla, hacc, lacc⟩
        refine ⟨.ref la, rfl, _, _, _, la, acc, rfl, sm1.trans s2, nla, gla, hacc, ?_⟩
        rw [lacc, lx, Nat.pow_succ]
    · rintro σ G ⟨v3, v4, v5, lf, xs, rfl, sm, nlf, glf, hx, lx⟩
      have em : ((m : Int)).toNat = m := by omega
      rw [em] at hx lx
      exact ⟨.ref lf, rfl, q G lf xs sm nlf glf hx (by have := pw m m4; omega)⟩
end
end Ad

/-! What is no list is kept as it is. -/
namespace Ad
open PySem PySem.Spec PySem.Calls PyProof.Rows L2
abbrev sKept : Stmt := topS 3
theorem scKept : FnScope ["value"] ["value"] (defScope sKept) := ⟨rfl, rfl, rfl, by decide +kernel, rfl, by decide +kernel, by decide +kernel⟩
section
variable {P : Program} {w : World} {K : PySem.W.Frag} {mg : Str → Option Value} {base : Heap}
def spKept (K : PySem.W.Frag) : Sp := fun vs H Q _ => ∃ (x : V) (t : Value), vs = [x] ∧ TyX K H x t ∧ PySem.W.kitOne K t (.type "list") = some false ∧ Q x H
theorem ok_kept {f : Addr} {fd : FuncData} {k : Nat} (F : Fun K "kept" "kept" sKept f fd) (m_isinstance : mg "isinstance" = none) (m_list : mg "list" = none) (m_tuple : mg "tuple" = none) : FnOk P w K mg base CX0 (k + 1) f fd ["value"] (spKept K) := by
  refine F.ok scKept (fun vs H Q E h => ?_) (fun cdv A outer s H vs Q E hr h => ?_)
  · obtain ⟨x, t, rfl, _⟩ := h
    rfl
  · obtain ⟨x, t, rfl, ty, kt, q⟩ := h
    refine ⟨_, (pss_cons (ps_if (pt_val (pe_callB call_isi (by rfl) m_isinstance (by decide +kernel) (pa_cons (pv 0) (pa_cons (pe_bltn (v := .ty "list") (by rfl) m_list (by decide +kernel) rfl) pa_nil))))
      (pss_one (ps_ret (pe_callTy call_tuple_of (by rfl) m_tuple (by decide +kernel) (pa_cons (pv 0) pa_nil)))) pss_nil)
    (pss_one (ps_ret (pv 0)))), ?_⟩
    refine ⟨x, rfl, _, .ty "list", t, .type "list", _, rfl, .ty "list", ty, kt, _, rfl, ?_⟩
    exact iteF ⟨x, rfl, q⟩
end
end Ad

/-! A Structure is made. -/
namespace Ad
open PySem PySem.Spec PySem.Calls PyProof.Rows L2
abbrev sStInit : Stmt := inClass (topS 6) 0
theorem scStInit : FnScope ["self", "size", "tables"] ["self", "size", "tables"] (defScope sStInit) := ⟨rfl, rfl, rfl, by decide +kernel, rfl, by decide +kernel, by decide +kernel⟩
section
variable {P : Program} {w : World} {K : PySem.W.Frag} {mg : Str → Option Value} {base : Heap}
def spStInit (K : PySem.W.Frag) (C : Addr) : Sp := fun vs H Q _ => ∃ (o td dx : Addr) (n : Nat) (kvs : List (L2.Key × V)), vs = [.ref o, .int (n : Int), .ref td] ∧ H o = some (.ins C dx []) ∧ H td = some (.dK kvs) ∧
  ∀ H', Pn.But o H H' → H' o = some (.ins C dx (strF n td)) → Q .non H'
theorem ok_stinit {C f fK : Addr} {fd fdK : FuncData} {k : Nat} (F : Fun K "__init__" "Structure.__init__" sStInit f fd) (hKept : Has P w K mg base k "kept" ["value"] (spKept K) fK fdK)
    (cls : Cls K C) (na1 : NoAttr K C "size") (na2 : NoAttr K C "tables") : FnOk P w K mg base CX0 (k + 1) f fd ["self", "size", "tables"] (spStInit K C) := by
  refine F.ok scStInit (fun vs H Q E h => ?_) (fun cdv A outer s H vs Q E hr h => ?_)
  · obtain ⟨o, td, dx, n, kvs, rfl, _⟩ := h
    rfl
  · obtain ⟨o, td, dx, n, kvs, rfl, ho, ht, q⟩ := h
    refine ⟨_, (pss_cons (ps_fld (pv 0) (pe_call hKept.G hr (by rfl) hKept.g hKept.kp hKept.b .nil pass0 (pa_cons (pv 1) pa_nil)) rfl)
    (pss_one (ps_fld (pv 0) (pe_call hKept.G hr (by rfl) hKept.g hKept.kp hKept.b .nil pass0 (pa_cons (pv 2) pa_nil)) rfl))), ?_⟩
    have ot : o ≠ td := fun z => by
      rw [z, ht] at ho
      cases ho
    refine ⟨.int (n : Int), rfl, .int (n : Int), .type "int", rfl, .base (.int _), kit_ty (a := "int") (b := "list") (r := false) (by decide +kernel), ?_⟩
    refine ⟨.ref o, rfl, o, C, dx, _, rfl, ho, cls, na1, (by show 0 < 1000; omega), ?_⟩
    have h1 : (upd H o (.ins C dx (putF "size" (.int (n : Int)) []))) o = some (.ins C dx (putF "size" (.int (n : Int)) [])) := upd_same
    have t1 : (upd H o (.ins C dx (putF "size" (.int (n : Int)) []))) td = some (.dK kvs) := by rw [upd_ne ot.symm]; exact ht
    have b1 : Pn.But o H (upd H o (.ins C dx (putF "size" (.int (n : Int)) []))) := fun b x nb e => by rw [upd_ne nb]; exact e
    generalize upd H o (.ins C dx (putF "size" (.int (n : Int)) [])) = H1 at h1 t1 b1
    refine ⟨.ref td, rfl, .ref td, .type "dict", rfl, .base (.dK t1), kit_ty (a := "dict") (b := "list") (r := false) (by decide +kernel), ?_⟩
    refine ⟨.ref o, rfl, o, C, dx, _, rfl, h1, cls, na2, (by show 1 < 1000; omega), ?_⟩
    exact q _ (b1.trans fun b x nb e => by rw [upd_ne nb]; exact e) upd_same
end
end Ad

/-! Values of great names, as a dict. -/
namespace Ad
open PySem PySem.Spec PySem.Calls PyProof.Rows L2
abbrev Zs := List (Str × Nat)
def vkK (zs : Zs) : List (L2.Key × V) := zs.map fun z => (.inr z.1, natI z.2)
def vkE (zs : Zs) : En := fun x => zs.lookup x
def vkD (zs : Zs) : List (Str × PyData) := zs.map fun z => (z.1, .int (z.2 : Int))
theorem vk_val (x : Str) : ∀ zs : Zs, valV (vkK zs) (.inr x) = (vkE zs x).map fun n => .int ((n : Nat) : Int)
  | [] => rfl
  | (y, n) :: zs => by
    show valV ((Sum.inr y, natI n) :: vkK zs) (.inr x) = (((y, n) :: zs).lookup x).map _
    by_cases e : x = y
    · subst e
      rw [valV_pos rfl, List.lookup_cons_self]
      rfl
    · rw [valV_neg (fun z => e (Sum.inr.inj z).symm), vk_val x zs, List.lookup_cons, show (x == y) = false from by
        rw [beq_eq_false_iff_ne]
        exact e]
      rfl
theorem vk_at {H : Hp} {p : Addr} {zs : Zs} {m : Nat} (e : H p = some (.dK (vkK zs))) (l : zs.length ≤ m) : ValAtN H p (vkE zs) m := ⟨_, e, fun x => vk_val x zs, by
  unfold vkK
  rw [List.length_map]
  exact l⟩
theorem vk_zip : ∀ (N : List Str) (ys : List Nat), (N.map Sum.inr).zip (ys.map natI) = vkK (N.zip ys)
  | [], _ => rfl
  | _ :: _, [] => rfl
  | x :: N, y :: ys => by
    show (Sum.inr x, natI y) :: (N.map Sum.inr).zip (ys.map natI) = (Sum.inr x, natI y) :: vkK (N.zip ys)
    rw [vk_zip N ys]
theorem vk_keys (zs : Zs) : (vkK zs).map (·.1) = (zs.map (·.1)).map Sum.inr := by
  unfold vkK
  rw [List.map_map, List.map_map]
  rfl
theorem nodup_inr : ∀ {N : List Str}, N.Nodup → (N.map (Sum.inr (α := Int))).Nodup
  | [], _ => List.nodup_nil
  | x :: N, h => by
    obtain ⟨h1, h2⟩ := List.nodup_cons.mp h
    refine List.nodup_cons.mpr ⟨fun z => ?_, nodup_inr h2⟩
    obtain ⟨y, hy, e⟩ := List.mem_map.mp z
    exact h1 (Sum.inr.inj e ▸ hy)
theorem vk_merge {zs : Zs} (nd : (zs.map (·.1)).Nodup) : mergeK [] (vkK zs) = vkK zs := by
  have := merge_all (vkK zs) [] (by
    rw [List.nil_append, vk_keys]
    exact nodup_inr nd)
  rw [List.nil_append] at this
  exact this
theorem zip_keys : ∀ (N : List Str) (ys : List Nat), N.length = ys.length → (N.zip ys).map (·.1) = N
  | [], _, _ => rfl
  | _ :: _, [], h => by cases h
  | x :: N, y :: ys, h => by
    show x :: (N.zip ys).map (·.1) = x :: N
    rw [zip_keys N ys (Nat.succ.inj h)]
theorem vk_put {zs : Zs} {x : Str} {n : Nat} (new : x ∉ zs.map (·.1)) : putK (vkK zs) (.inr x) (natI n) = vkK (zs ++ [(x, n)]) := by
  rw [putK_new _ (valV_out fun z => by
    rw [vk_keys] at z
    obtain ⟨y, hy, e⟩ := List.mem_map.mp z
    exact new (Sum.inr.inj e ▸ hy))]
  unfold vkK
  rw [List.map_append]
  rfl
theorem vk_en {M : Mo} : ∀ (N : List Str) (ys : List Nat) (more : Zs), N.length = ys.length → (∀ y ∈ ys, y < M.size) → EnOk M (vkE (N.zip ys ++ more)) N
  | [], _, _, _, _ => fun x hx => by cases hx
  | _ :: _, [], _, h, _ => by cases h
  | x :: N, y :: ys, more, h, lt => fun z hz => by
    show ∃ n, (((x, y) :: (N.zip ys ++ more)).lookup z) = some n ∧ n < M.size
    by_cases e : z = x
    · subst e
      rw [List.lookup_cons_self]
      exact ⟨y, rfl, lt y List.mem_cons_self⟩
    · rw [List.lookup_cons, show (z == x) = false from by
        rw [beq_eq_false_iff_ne]
        exact e]
      rcases List.mem_cons.mp hz with w | hz
      · exact absurd w e
      · exact vk_en N ys more (Nat.succ.inj h) (fun y hy => lt y (List.mem_cons_of_mem _ hy)) z hz
theorem vk_dic {K : PySem.W.Frag} {H : Hp} : ∀ zs : Zs, DicV K H (vkK zs) (vkD zs)
  | [] => rfl
  | z :: zs => ⟨_, _, rfl, ⟨rfl, .int _⟩, vk_dic zs⟩
theorem vk_dicOk {zs : Zs} (h : ∀ z ∈ zs, nameOk z.1 = true ∧ z.2 < 64) (l : zs.length ≤ 100) : DicOk (vkD zs) := by
  refine ⟨fun p hp => ?_, fun p hp => ?_, by unfold vkD; rw [List.length_map]; exact l⟩
  · obtain ⟨z, hz, rfl⟩ := List.mem_map.mp hp
    exact (h z hz).1
  · obtain ⟨z, hz, rfl⟩ := List.mem_map.mp hp
    have := (h z hz).2
    show (decide (0 ≤ (z.2 : Int)) && decide ((z.2 : Int) < 64)) = true
    rw [decide_eq_true (by omega), decide_eq_true (by omega)]
    rfl
theorem nodup_fit {α : Type} [DecidableEq α] : ∀ {xs ys : List α}, xs.Nodup → (∀ x ∈ xs, x ∈ ys) → xs.length ≤ ys.length
  | [], _, _, _ => Nat.zero_le _
  | x :: xs, ys, nd, h => by
    obtain ⟨n1, n2⟩ := List.nodup_cons.mp nd
    have hx := h x List.mem_cons_self
    have := nodup_fit (ys := ys.erase x) n2 fun y hy => (List.mem_erase_of_ne (fun (e : y = x) => n1 (e ▸ hy))).mpr (h y (List.mem_cons_of_mem _ hy))
    rw [List.length_erase_of_mem hx] at this
    have : 0 < ys.length := List.length_pos_of_mem hx
    rw [List.length_cons]
    omega
theorem xyz_nameOk {x : Str} (h : x ∈ xyz) : nameOk x = true ∧ x ≠ "W" ∧ x ≠ "X7" := by
  have k : (xyz.all fun x => nameOk x && (decide (x ≠ "W") && decide (x ≠ "X7"))) = true := by decide +kernel
  have := List.all_eq_true.mp k x h
  obtain ⟨a, b⟩ := Bool.and_eq_true_iff.mp this
  obtain ⟨b, c⟩ := Bool.and_eq_true_iff.mp b
  exact ⟨a, of_decide_eq_true b, of_decide_eq_true c⟩
theorem names_tup {kn : List Str} (h : ∀ x ∈ kn, x ∈ xyz) : SeqAt.shaped (.tuple (kn.map .str)) = true := by
  unfold SeqAt.shaped
  rw [Bool.and_eq_true]
  refine ⟨xyz_lay kn h, decide_eq_true ?_⟩
  have := xyz_depth kn
  show PyData.depthAll (kn.map .str) + 1 ≤ 64
  omega
theorem names_dp {K : PySem.W.Frag} {H : Hp} : ∀ kn : List Str, DpAll K H (kn.map V.str) (kn.map .str)
  | [] => .nil
  | _ :: kn => .cons (.str _) (names_dp kn)
theorem names_nil (kn : List Str) : PyData.eqv (.tuple (kn.map .str)) (.tuple []) = kn.isEmpty := by
  have e0 : ∀ as bs : List PyData, PyData.eqv (.tuple as) (.tuple bs) = PyData.eqvAll as bs := fun as bs => by rw [PyData.eqv]
  rw [e0]
  cases kn with
  | nil => rw [List.map_nil, PyData.eqvAll]; rfl
  | cons p ps => rw [List.map_cons, PyData.eqvAll]; rfl
/-- what a sentence asks for: its free great names, each once -/
structure FreeN (kn N : List Str) : Prop where
  nd : N.Nodup
  sub : ∀ x ∈ N, x ∈ kn
  few : N.length ≤ 4
theorem free_n {R S : List Row} {kn : List Str} {s : Sn} (kx : ∀ x ∈ kn, x ∈ xyz) (g : Sn.good R S kn s) : FreeN kn (once [] (Sn.frees [] s)) := by
  have nd := once_nodup (Sn.frees [] s) [] List.nodup_nil
  have sub : ∀ x ∈ once [] (Sn.frees [] s), x ∈ kn := fun x hx => by
    rcases (once_mem (Sn.frees [] s) [] x).mp hx with z | z
    · cases z
    · exact good_in s [] kn (by rw [List.append_nil]; exact g) x z
  exact ⟨nd, sub, nodup_fit nd fun x hx => kx x (sub x hx)⟩
theorem ask_n {R S : List Row} {kn : List Str} {s : Sn} (g : Sn.good R S kn s) : Sn.good R S (once [] (Sn.frees [] s)) s := by
  have := good_gl s [] kn (once [] (Sn.frees [] s)) g fun x hx => (once_mem (Sn.frees [] s) [] x).mpr (.inr hx)
  rw [List.append_nil] at this
  exact this
end Ad

/-! dict(zip(t, u)) of two tuples of one length. -/
namespace Dz
open PySem PySem.Spec PySem.Calls PyProof.Rows L2 RZ Zl
theorem zipT {prog : Program} {w : World} (z TI TO i1 i2 l1 l2 : Addr) (D : ZipApart z TI TO i1 i2 l1 l2) (xs ys : Array Value) (len : xs.size = ys.size) :
    PairArg prog w "zip" z [z, TI, TO, i1, i2, l1, l2] [z, TO, i1, i2] xs.size (fun i k v => xs[i]? = some k ∧ ys[i]? = some v)
      (fun h => IsZip h z TI TO .none ∧ IsPair h TI (.ref i1) (.ref i2) ∧ (∃ a b, IsPair h TO a b) ∧ h.IsTupleIter i1 l1 0 ∧ h.IsTupleIter i2 l2 0 ∧ h.IsTuple l1 xs ∧ h.IsTuple l2 ys) where
  type := fun s ok => ⟨_, ok.1, rfl⟩
  notDict := by decide
  keep := fun h h' ok hk => by
    obtain ⟨hz, hTI, ⟨a, b, hTO⟩, h1, h2, hl1, hl2⟩ := ok
    exact ⟨hk _ _ hz, hk _ _ hTI, ⟨a, b, hk _ _ hTO⟩, h1.at fun o e => hk _ o e, h2.at fun o e => hk _ o e, hl1.at fun o e => hk _ o e, hl2.at fun o e => hk _ o e⟩
  there := fun h ok b hb => by
    obtain ⟨hz, hTI, ⟨a, c, hTO⟩, ⟨o1, h1, _⟩, ⟨o2, h2, _⟩, ⟨o3, hl1, _⟩, ⟨o4, hl2, _⟩⟩ := ok
    simp only [List.mem_cons, List.not_mem_nil, or_false] at hb
    rcases hb with rfl | rfl | rfl | rfl | rfl | rfl | rfl
    all_goals first | exact ⟨_, hz⟩ | exact ⟨_, hTI⟩ | exact ⟨_, hTO⟩ | exact ⟨_, h1⟩ | exact ⟨_, h2⟩ | exact ⟨_, hl1⟩ | exact ⟨_, hl2⟩
  sub := fun b hb => by simp at hb ⊢; rcases hb with rfl | rfl | rfl | rfl <;> simp
  noKeys := fun A s Q E hA ok h => getAttrOr_miss_zip ok.1 rfl rfl rfl zip_no_keys (by decide +kernel) hA h
  iter := fun A s d Q E hA ok hd hdf h => by
    obtain ⟨hz, hTI, ⟨a, b, hTO⟩, h1, h2, hl1, hl2⟩ := ok
    simp only [List.mem_cons, List.not_mem_nil, or_false, not_or] at hdf
    obtain ⟨dz, dTI, dTO, di1, di2, dl1, dl2⟩ := hdf
    refine wpAny_pyIter_zip hz (h z [z, TO, i1, i2] (fun i h => IsPair h TI (.ref i1) (.ref i2) ∧ h.IsTupleIter i1 l1 i ∧ h.IsTupleIter i2 l2 i ∧ h.IsTuple l1 xs ∧ h.IsTuple l2 ys ∧
      ((IsZip h z TI TO .none ∧ ∃ a b, IsPair h TO a b) ∨ ∃ T f oT, IsZ h z TI TO (rawInt (T : Nat)) f ∧ h.get? T = some oT ∧ T ≠ z ∧ T ≠ i1 ∧ T ≠ i2 ∧ T ≠ d)) s.heap s.toks ?_
      ⟨hTI, h1, h2, hl1, hl2, .inl ⟨hz, a, b, hTO⟩⟩ (fun _ _ e => e) fun b hb => .inl hb)
    exact {
      off := fun hm => by
        simp only [List.mem_cons, List.not_mem_nil, or_false] at hm
        rcases hm with e | e | e | e
        · exact dz e
        · exact dTO e
        · exact di1 e
        · exact di2 e
      frame := fun i h₁ h₂ st hk => by
        obtain ⟨hTI, h1, h2, hl1, hl2, hz⟩ := st
        refine ⟨hk _ _ (Ne.symm dTI) hTI, h1.at fun o e => hk _ o (Ne.symm di1) e, h2.at fun o e => hk _ o (Ne.symm di2) e, hl1.at fun o e => hk _ o (Ne.symm dl1) e, hl2.at fun o e => hk _ o (Ne.symm dl2) e, ?_⟩
        rcases hz with ⟨hz, a, b, hTO⟩ | ⟨T, f, oT, hz, hT, r1, r2, r3, r4⟩
        · exact .inl ⟨hk _ _ (Ne.symm dz) hz, a, b, hk _ _ (Ne.symm dTO) hTO⟩
        · exact .inr ⟨T, f, oT, hk _ _ (Ne.symm dz) hz, hk _ _ r4 hT, r1, r2, r3, r4⟩
      item := fun i s₁ Q₁ E₁ hi st hds hQ => by
        obtain ⟨hTI, h1, h2, hl1, hl2, hz⟩ := st
        have ex := Array.getElem?_eq_getElem hi
        have ey := Array.getElem?_eq_getElem (show i < ys.size by omega)
        have lt : ∀ {c o}, s₁.heap.get? c = some o → s₁.heap.objs.size ≠ c := fun e => Nat.ne_of_gt (Heap.lt_size e)
        have n1 : s₁.heap.objs.size ≠ i1 := let ⟨_, e, _⟩ := h1; lt e
        have n2 : s₁.heap.objs.size ≠ i2 := let ⟨_, e, _⟩ := h2; lt e
        rcases hz with ⟨hz, a, b, hTO⟩ | ⟨T, f, oT, hz, hT, r1, r2, r3, r4⟩
        · refine pyNext_zipT_item D hz hTI hTO h1 h2 hl1 hl2 ex ey fun h' a1 a2 a3 a4 a5 a6 hk => ?_
          exact hQ s₁.heap.objs.size _ _ h' s₁.toks ⟨ex, ey⟩ (.inl ⟨_, a5, rfl, _, rfl⟩)
            ⟨hk _ _ D.TIz D.TITO D.TIi1 D.TIi2 hTI, a3, a4, hl1.at fun o e => hk _ o D.l1z D.l1TO D.l1i1 D.l1i2 e, hl2.at fun o e => hk _ o D.l2z D.l2TO D.l2i1 D.l2i2 e,
              .inr ⟨s₁.heap.objs.size, false, _, a1, a5, lt hz, n1, n2, Nat.ne_of_gt hds⟩⟩
            fun c o hc e => hk c o (fun x => hc (by simp [x])) (fun x => hc (by simp [x])) (fun x => hc (by simp [x])) (fun x => hc (by simp [x])) e
        · refine pyNext2_item D hz hT hTI h1 h2 hl1 hl2 ex ey fun h' a1 a3 a4 a5 a6 hk => ?_
          exact hQ s₁.heap.objs.size _ _ h' s₁.toks ⟨ex, ey⟩ (.inl ⟨_, a5, rfl, _, rfl⟩)
            ⟨hk _ _ D.TIz D.TIi1 D.TIi2 hTI, a3, a4, hl1.at fun o e => hk _ o D.l1z D.l1i1 D.l1i2 e, hl2.at fun o e => hk _ o D.l2z D.l2i1 D.l2i2 e,
              .inr ⟨T, true, oT, a1, hk _ _ r1 r2 r3 hT, r1, r2, r3, r4⟩⟩
            fun c o hc e => hk c o (fun x => hc (by simp [x])) (fun x => hc (by simp [x])) (fun x => hc (by simp [x])) e
      done := fun s₁ Q₁ E₁ st hQ => by
        obtain ⟨hTI, h1, h2, hl1, hl2, hz⟩ := st
        have hend : xs[xs.size]? = none := Array.getElem?_eq_none (Nat.le_refl _)
        rcases hz with ⟨hz, a, b, hTO⟩ | ⟨T, f, oT, hz, hT, r1, r2, r3, r4⟩
        · exact pyNext_zipT_end hA D hz hTI hTO h1 h2 hl1 hl2 (.inl hend) fun h' hk => hQ h' s₁.toks fun c o hc e => hk c o (fun x => hc (by simp [x])) (fun x => hc (by simp [x])) (fun x => hc (by simp [x])) (fun x => hc (by simp [x])) e
        · exact pyNext2_end hA D hz hT hTI h1 hl1 hend fun h' hk => hQ h' s₁.toks fun c o hc e => hk c o (fun x => hc (by simp [x])) (fun x => hc (by simp [x])) e }
theorem kv_zip : ∀ (ks : List L2.Key) {ys : List V} {us : List Value}, Vals ys us → KV (ks.zip ys) (ks.zip us)
  | [], _, _, _ => by simp only [List.zip_nil_left]; exact .nil
  | _ :: _, _, _, .nil => by simp only [List.zip_nil_right]; exact .nil
  | k :: ks, _, _, .cons r rs => .cons ⟨rfl, r⟩ (kv_zip ks rs)
theorem key_at {P : Program} {w : World} : ∀ {ks : List L2.Key} {us : List Value} (i : Nat) (u : Value), Vals (ks.map kV) us → us[i]? = some u → ∃ k, ks[i]? = some k ∧ (mixKind P w).is k u = true := by
  intro ks us i u r e
  have l := r.length
  rw [List.length_map] at l
  have lt := (List.getElem?_eq_some_iff.mp e).1
  obtain ⟨k, hk⟩ : ∃ k, ks[i]? = some k := ⟨_, List.getElem?_eq_getElem (by omega)⟩
  have hx : (ks.map kV)[i]? = some (kV k) := by rw [List.getElem?_map, hk]; rfl
  obtain ⟨u', hu, ru⟩ := r.get hx
  rw [e] at hu
  cases hu
  exact ⟨k, hk, kV_is ru⟩
def tDictZip (K : PySem.W.Frag) (ta : TA) : TE := fun σ H Q => ta σ H fun vs H1 => ∃ (a b : Addr) (ks : List L2.Key) (ys : List V), vs = [.ref a, .ref b] ∧ SqT K H1 a (ks.map kV) ∧ SqT K H1 b ys ∧ ks.length = ys.length ∧
  ∀ p, H1 p = none → Q (.ref p) (upd H1 p (.dK (mergeK [] (ks.zip ys))))
section
variable {X : Cx}
theorem pe_dictZip {e1 e2 : Expr} {ta : TA} {p p2 pos pos2 : Pos} (ha : PA X [e1, e2] ta) (hgl : Gl X "dict") (hml : X.mg "dict" = none) (hgz : Gl X "zip") (hmz : X.mg "zip" = none) (calm : X.calm = true)
    (hs : starEach [e1, e2] X.env = (false, eval e1 X.env) :: starEach [e2] X.env := by rfl) (hpl : (backTo pos2 (starEach [e2] X.env)).any (·.1) = false := by rfl)
    (he : starEach [.Call (.Name "zip" p2) [e1, e2] [] pos2] X.env = (false, eval (.Call (.Name "zip" p2) [e1, e2] [] pos2) X.env) :: starEach [] X.env := by rfl) :
    PE X (.Call (.Name "dict" p) [.Call (.Name "zip" p2) [e1, e2] [] pos2] [] pos) (tDictZip X.K ta) := by
  refine ⟨fun pins s σ H Q I h => ?_⟩
  refine wpAny_Call_Name_kw (ld_blt I hgl hml (u := .type "dict") (by first | rfl | decide +kernel) ?_)
  refine PyProof.Rows.callWith_type1 ?_ he rfl
  rw [he]
  show wpAny _ _ (spliced ((false, eval _ X.env) :: backTo pos (starEach [] X.env))) _ _ s
  refine Calls.spliced_cons ?_
  refine wpAny_Call_Name_kw (ld_blt I hgz hmz PyProof.Rows.boot_zip (PyProof.Rows.callWith_type1 (thn (ha.run pos2 pins s σ H _ I h) fun us s1 ⟨vs, H1, I1, r1, q1⟩ => ?_) hs hpl))
  obtain ⟨a, b, ks, ys, ex, sa, sb, len, q⟩ := q1
  subst ex
  cases r1 with
  | cons r rr =>
    cases rr with
    | cons r' rr =>
      cases rr
      cases r
      cases r'
      obtain ⟨its, rv, p1, few⟩ := I1.tuple sa
      obtain ⟨its2, rv2, p2, _⟩ := I1.tuple sb
      have la : a < s1.heap.objs.size := p1.lt
      have lb : b < s1.heap.objs.size := p2.lt
      have n1 := rv.length
      rw [List.length_map] at n1 few
      have n2 := rv2.length
      refine call_zipT p1 p2 fun h' hz hTI hTO h1 h2 hsz hk => ?_
      refine Calls.spliced_nil ?_
      have keep1 : ∀ c o, s1.heap.get? c = some o → h'.get? c = some o := hk
      have D := PySem.W.ktu_apart s1.heap.objs.size a b la lb
      have t1 : h'.IsTuple a its.toArray := by
        obtain ⟨o, e, r⟩ := id p1
        exact ⟨o, hk _ _ e, r⟩
      have t2 : h'.IsTuple b its2.toArray := by
        obtain ⟨o, e, r⟩ := id p2
        exact ⟨o, hk _ _ e, r⟩
      refine call_dict_pairs (knd := mixKind X.prog X.w) (kvs := ks.zip its2) (zipT (prog := X.prog) (w := X.w) _ _ _ _ _ _ _ D its.toArray its2.toArray (by simp only [List.size_toArray]; omega)) (I.ok.hd calm) ⟨hz, hTI, ⟨_, _, hTO⟩, h1, h2, t1, t2⟩ ⟨?_, ?_⟩ (by simp only [List.size_toArray]; omega) fun h3 tk hd' hkk => ?_
      · rw [List.length_zip]
        simp only [List.size_toArray]
        omega
      · rintro i key v ⟨e1, e2⟩
        rw [List.getElem?_toArray] at e1 e2
        obtain ⟨k, hk', is⟩ := key_at (P := X.prog) (w := X.w) i key rv e1
        exact ⟨k, by rw [List.getElem?_zip_eq_some]; exact ⟨hk', e2⟩, is⟩
      · have kall : ∀ c o, s1.heap.get? c = some o → h3.get? c = some o := fun c o e => by
          have lt := Heap.lt_size e
          refine hkk c o (fun hm => ?_) (hk c o e)
          simp only [List.mem_cons, List.not_mem_nil, or_false] at hm
          rcases hm with z | z | z | z <;> rw [z] at lt <;> first | exact Nat.lt_irrefl _ lt | exact absurd lt (Nat.not_lt.mpr (Nat.le_add_right _ _))
        have I2 : Inv X pins σ H1 { s1 with heap := h' } := I1.kept (t' := s1.toks) hk
        have hm : (h'.objs.size == sysModules) = false := beq_eq_false_iff_ne.mpr (Nat.ne_of_gt I2.big)
        have rel : KV (ks.zip ys) (ks.zip its2) := kv_zip ks rv2
        have short : (mergeK [] (ks.zip ys)).length ≤ sizeLine := by
          refine Nat.le_trans (length_mergeK (ks.zip ys) []) ?_
          rw [List.length_nil, Nat.zero_add, List.length_zip]
          omega
        refine ⟨.ref h'.objs.size, upd H1 h'.objs.size (.dK (mergeK [] (ks.zip ys))), I1.laid (t' := tk) kall (by show s1.heap.objs.size ≤ h'.objs.size; omega) (show ObjOk X.prog X.w _ _ _ (.dK (mergeK [] (ks.zip ys))) from ⟨short, hm, merged [] (ks.zip its2), KV.merge rel .nil, hd'⟩), rfl, q _ (I2.hok.fresh (Nat.le_refl _))⟩
end
end Dz

/-! Whether two sentences have one meaning in drawn structures. -/
namespace Ad
open PySem PySem.Spec PySem.Calls PyProof.Rows L2
abbrev sLStays : Stmt := topS 43
theorem scLStays : FnScope ["_law_pen_here", "_law_rows", "_law_one", "_law_other", "_law_lap", "_law_size", "_law_tables", "_law_names", "_law_made", "_law_row", "_law_values"] ["_law_pen_here", "_law_rows", "_law_one", "_law_other"] (defScope sLStays) := ⟨rfl, rfl, rfl, by decide +kernel, rfl, by decide +kernel, by decide +kernel⟩
/-- two sentences of one meaning, asked for the names of the first -/
structure OneMean (R S : List Row) (N : List Str) (s1 s2 : Sn) (n : Nat) : Prop where
  names : N = once [] (Sn.frees [] s1)
  few : N.length ≤ 4
  great : ∀ x ∈ N, PyData.strOk x = true
  a1 : SAsk R S N s1
  a2 : SAsk R S N s2
  h1 : s1.hi ≤ n
  h2 : s2.hi ≤ n
  size : s1.size ≤ 2000
  mean : ∀ M E, mean M E s1 = mean M E s2
/-- what stays through the turns -/
structure Ls (K : PySem.W.Frag) (C p l ra td o : Addr) (ns : List Int) (R S : List Row) (ts us : List Tb) (n c : Nat) (G : Hp) : Prop where
  pen : Pn.Pen G p l ns c
  rows : OrdAt K G ra R S
  str : StrI K C G o td (moOf n (ts ++ us)) (R ++ S)
  op : o ≠ p
  tp : td ≠ p
section
variable {K : PySem.W.Frag} {C p l ra td o : Addr} {ns : List Int} {R S : List Row} {ts us : List Tb} {n c c' : Nat} {G G' : Hp}
theorem tab_but' {M : Mo} {T : List Row} {q : Addr} (b : Pn.But p G G') (k : TK G G') (np : q ≠ p) (h : TabAt K G M T q) : TabAt K G' M T q := by
  obtain ⟨kvs, e, h⟩ := h
  refine ⟨kvs, b _ _ np e, fun r hr => ?_⟩
  obtain ⟨t, e1, e2⟩ := h r hr
  exact ⟨t, e1, k.sq e2⟩
theorem Ls.but (L : Ls K C p l ra td o ns R S ts us n c G) (b : Pn.But p G G') (P : Pn.Pen G' p l ns c') : Ls K C p l ra td o ns R S ts us n c' G' := by
  have k := pen_tk L.pen b
  obtain ⟨⟨dx, eo⟩, t2⟩ := L.str
  exact ⟨P, L.rows.mono k, ⟨⟨dx, b _ _ L.op eo⟩, tab_but' b k L.tp t2⟩, L.op, L.tp⟩
theorem Ls.same (L : Ls K C p l ra td o ns R S ts us n c G) (s : Same G G') : Ls K C p l ra td o ns R S ts us n c G' := L.but (Pn.But.of s) (pen_same L.pen s)
end
section
variable {P : Program} {w : World} {K : PySem.W.Frag} {mg : Str → Option Value} {base : Heap}
def spLStays (K : PySem.W.Frag) (n : Nat) : Sp := fun vs H Q _ => ∃ (p l ra : Addr) (x1 x2 : V) (ns : List Int) (c : Nat) (R S : List Row) (N : List Str) (s1 s2 : Sn), vs = [.ref p, .ref ra, x1, x2] ∧ Pn.Pen H p l ns c ∧ ns.length ≤ 1000 ∧ c + 4000 ≤ 1000000000 ∧ OrdAt K H ra R S ∧ GenS R S ∧
  Dp K H x1 s1.d ∧ Dp K H x2 s2.d ∧ OneMean R S N s1 s2 n ∧ ∀ H' c', c' ≤ c + 4000 → Pn.Pen H' p l ns c' → Pn.But p H H' → Q (.bl true) H'
theorem ok_lstays {C f : Addr} {fd : FuncData} {k n : Nat} (F : Fun K "_law_stays" "_law_stays" sLStays f fd) (n16 : n ≤ 40)
    {f2 f5 f8 f9 fa fb fc fO : Addr} {d2 d5 d8 d9 da db dc dO : FuncData}
    (hLDraw : Has P w K mg base (k + 1) "_law_draw" ["_law_pen_here", "_law_many_here"] Pn.spDraw f2 d2) (hLDrawnTables : Has P w K mg base (k + 1) "_law_drawn_tables" ["_law_pen_here", "_law_rows", "_law_size"] (spLTables K) f5 d5)
    (hLFree : Has P w K mg base (k + 1) "_law_free" ["_law_sentence", "_law_bound_here"] (spLFree K n) f8 d8) (hLOnce : Has P w K mg base (k + 1) "_law_once" ["_law_some"] (spLOnce K) f9 d9)
    (hLValueRows : Has P w K mg base (k + 1) "_law_value_rows" ["_law_size", "_law_many_here"] (spLRows K) fa da) (hMeaning : Has P w K mg base (k + 1) "meaning" ["structure", "sentence", "values"] (spMean K C n) fb db)
    (hLMeaning : Has P w K mg base (k + 1) "_law_meaning" ["_law_size", "_law_tables", "_law_sentence", "_law_values"] (spLMean K n) fc dc)
    (M : L2.Mk K C fO) (GO : FnOk P w K mg base CX0 k fO dO ["self", "size", "tables"] (spStInit K C)) (gO : mg "Structure" = some (.ref C)) (bO : Binds K dO ["self", "size", "tables"] [])
    (m_range : mg "range" = none) (m_dict : mg "dict" = none) (m_zip : mg "zip" = none) (m_len : mg "len" = none) : FnOk P w K mg base CX0 (k + 2) f fd ["_law_pen_here", "_law_rows", "_law_one", "_law_other"] (spLStays K n) := by
  refine F.ok scLStays (fun vs H Q E h => ?_) (fun cdv A outer s H vs Q E hr h => ?_)
  · obtain ⟨p, l, ra, x1, x2, ns, c, R, S, N, s1, s2, rfl, _⟩ := h
    rfl
  · obtain ⟨p, l, ra, x1, x2, ns, c, R, S, N, s1, s2, rfl, hP, hlen, hc, hO, gs, dx1, dx2, om, q⟩ := h
    refine ⟨_, (pss_cons (ps_for PassesOwn.never rfl (pi_range1 (by rfl) m_range (pa_cons pe_int pa_nil)) (pg_name (i := 4) scLStays.nd rfl (.inl rfl))
      (C8.pss_cut (ps_set (i := 5) scLStays.nd rfl (.inl rfl) (pe_op op_add pe_int (pe_call hLDraw.G hr (by rfl) hLDraw.g hLDraw.kp hLDraw.b .nil pass0 (pa_cons (pv 0) (pa_cons pe_int pa_nil)))))
      (pss_cons (ps_par (i := 6) (j := 7) (by rfl) scLStays.nd rfl rfl (by decide) rfl rfl (pa_cons (pe_call hLDrawnTables.G hr (by rfl) hLDrawnTables.g hLDrawnTables.kp hLDrawnTables.b .nil pass0 (pa_cons (pv 0) (pa_cons (pv 1) (pa_cons (pv 5) pa_nil)))) (pa_cons (pe_call hLOnce.G hr (by rfl) hLOnce.g hLOnce.kp hLOnce.b .nil pass0 (pa_cons (pe_call hLFree.G hr (by rfl) hLFree.g hLFree.kp hLFree.b .nil pass0 (pa_cons (pv 2) (pa_cons (pe_lst pa_nil) pa_nil))) pa_nil)) pa_nil)) (by rfl))
      (pss_cons (ps_set (i := 8) scLStays.nd rfl (.inl rfl) (pe_make M GO (hr.mono (Nat.le_refl _)) (by rfl) gO bO .nil pass0 (pa_cons (pv 5) (pa_cons (pv 6) pa_nil))))
      (pss_one (ps_for PassesOwn.never rfl (pi_list (pe_call hLValueRows.G hr (by rfl) hLValueRows.g hLValueRows.kp hLValueRows.b .nil pass0 (pa_cons (pv 5) (pa_cons (pe_callB call_len_seq (by rfl) m_len PySem.boot_len (pa_cons (pv 7) pa_nil)) pa_nil)))) (pg_name (i := 9) scLStays.nd rfl (.inl rfl))
        (pss_cons (ps_set (i := 10) scLStays.nd rfl (.inl rfl) (Dz.pe_dictZip (pa_cons (pv 7) (pa_cons (pv 9) pa_nil)) (by rfl) m_dict (by rfl) m_zip rfl))
        (pss_cons (ps_if (pt_cmpR op_ne (pe_call hLMeaning.G hr (by rfl) hLMeaning.g hLMeaning.kp hLMeaning.b .nil pass0 (pa_cons (pv 5) (pa_cons (pv 6) (pa_cons (pv 2) (pa_cons (pv 10) pa_nil))))) (pe_call hLMeaning.G hr (by rfl) hLMeaning.g hLMeaning.kp hLMeaning.b .nil pass0 (pa_cons (pv 5) (pa_cons (pv 6) (pa_cons (pv 3) (pa_cons (pv 10) pa_nil))))) (nomark _))
          (pss_one (ps_ret pe_bl)) pss_nil)
        (pss_one (ps_if (pt_cmpR op_ne (pe_call hMeaning.G hr (by rfl) hMeaning.g hMeaning.kp hMeaning.b .nil pass0 (pa_cons (pv 8) (pa_cons (pv 2) (pa_cons (pv 10) pa_nil)))) (pe_call hMeaning.G hr (by rfl) hMeaning.g hMeaning.kp hMeaning.b .nil pass0 (pa_cons (pv 8) (pa_cons (pv 3) (pa_cons (pv 10) pa_nil)))) (nomark _))
          (pss_one (ps_ret pe_bl)) pss_nil))))))))))
    (pss_one (ps_ret pe_bl))), ?_⟩
    refine ⟨3, rfl, by decide, by decide, for_range (lo := 0) (n := 3) (fun i σ G => ∃ (v4 v5 v6 v7 v8 v9 va : Option V) (c1 : Nat), σ = [some (.ref p), some (.ref ra), some x1, some x2, v4, v5, v6, v7, v8, v9, va] ∧ c1 ≤ c + i * 1001 ∧ Pn.Pen G p l ns c1 ∧ Pn.But p H G)
      ⟨none, none, none, none, none, none, none, c, rfl, by omega, hP, fun b o nb e => e⟩ ?_ ?_⟩
    · rintro i σ G hi ⟨v4, v5, v6, v7, v8, v9, va, c1, rfl, hc1, P1, b1⟩
      refine ⟨fun σ G => ∃ (sz c2 : Nat), σ = [some (.ref p), some (.ref ra), some x1, some x2, some (.int (0 + (i : Int))), some (.int (sz : Int)), v6, v7, v8, v9, va] ∧ c2 ≤ c1 + 1 ∧ Pn.Pen G p l ns c2 ∧ Pn.But p H G ∧ 1 ≤ sz ∧ sz ≤ 3, ?_, ?_⟩
      · refine ⟨.ref p, rfl, p, l, ns, c1, 3, rfl, P1, hlen, by omega, by decide, by decide, fun z G2 z0 z1 P2 b2 => ⟨_, _, rfl, rfl, ?_⟩⟩
        obtain ⟨sz, n1, n3, en⟩ : ∃ sz : Nat, 1 ≤ sz ∧ sz ≤ 3 ∧ 1 + z = (sz : Int) := ⟨(1 + z).toNat, by omega, by omega, by omega⟩
        exact ⟨sz, c1 + 1, by rw [← en]; rfl, by omega, P2, b1.trans b2, n1, n3⟩
      clear P1 b1 G v4 v5
      rintro σ G ⟨sz, c2, rfl, hc2, P2, b2, n1, n3⟩
      have k2 := pen_tk hP b2
      refine ⟨.ref p, rfl, .ref ra, rfl, .int (sz : Int), rfl, p, l, ra, ns, c2, sz, R, S, rfl, P2, hlen, by omega, hO.mono k2, gs, n1, n3, fun ts us td kvs G3 c3 etd tdp tv tb hc3 P3 b3 => ?_⟩
      have b23 := b2.trans b3
      have k3 := pen_tk hP b23
      have d1 := sn_tk k3 s1 x1 om.a1.wf dx1
      have d2 := sn_tk k3 s2 x2 om.a2.wf dx2
      have mo := tb.mo gs.nd n1 n3
      refine ⟨x1, rfl, Nat.zero_le _, fun bl nbl => ?_⟩
      have sb : Same G3 (upd G3 bl (.lst [])) := same_new (fun b o e => e) nbl _
      have fl := frees_len s1 [] om.a1.wf
      have sz1 := om.size
      refine ⟨x1, bl, s1, [], G3, rfl, sb, d1, om.a1.ok, om.a1.wf, om.h1, om.size, by omega, upd_same, by show 0 + n ≤ 2000; omega, fun G4 fp s4 nfp efp => ?_⟩
      refine ⟨fp, Sn.frees [] s1, rfl, efp, by omega, fun G5 np s5 sqn => ⟨_, _, rfl, ?_⟩⟩
      rw [← om.names] at sqn
      have s35 : Same G3 G5 := sb.trans (s4.trans s5)
      have P5 := pen_same P3 s35
      have b25 := b23.trans (Pn.But.of s35)
      have etd5 := s35 _ _ etd
      have tv5 := tv.mono (TK.same s35)
      have d15 := dp_same s35 d1
      have d25 := dp_same s35 d2
      -- the structure
      refine ⟨.int (sz : Int), rfl, .ref td, rfl, ?_⟩
      intro o dx no ndx nod
      have no' : (upd G5 dx (.own o)) o = none := by rw [upd_ne nod.symm]; exact no
      have sN : Same G5 (upd (upd G5 dx (.own o)) o (.ins C dx [])) := same_new (same_new (fun b o e => e) ndx _) no' _
      have eo : (upd (upd G5 dx (.own o)) o (.ins C dx [])) o = some (.ins C dx []) := upd_same
      generalize upd (upd G5 dx (.own o)) o (.ins C dx []) = G6 at sN eo
      refine ⟨o, td, dx, sz, kvs, rfl, eo, sN _ _ etd5, fun G7 b7 eo7 => ⟨rfl, ?_⟩⟩
      have s57 : Same G5 G7 := fun b u e => b7 _ _ (ne_of_none e no) (sN _ _ e)
      have k57 := TK.same s57
      have tv7 := tv5.mono k57
      have etd7 := s57 _ _ etd5
      have st7 : StrI K C G7 o td (moOf sz (ts ++ us)) (R ++ S) := ⟨⟨dx, eo7⟩, tb.tabAt gs.nd etd7 tv7⟩
      have d17 := dp_same s57 d15
      have d27 := dp_same s57 d25
      have P7 := pen_same P5 s57
      have b27 := b25.trans (Pn.But.of s57)
      have sqn7 := k57.sq sqn
      clear sN eo no no' ndx nod b7 eo7 s57 k57 tv7 G6 tv5 etd5 d15 d25 sqn P5 b25 s35 s4 s5 sb nbl nfp efp d1 d2 P3 b3 b23 k3 tv etd tdp P2 b2 k2
      have NL : (N.map V.str).length = N.length := List.length_map ..
      have few4 := om.few
      refine ⟨.int (sz : Int), rfl, .ref np, rfl, np, _, rfl, .inr sqn7, sz, N.length, by rw [NL]; rfl, n1, n3, few4, fun G8 rp xs s8 nrp erp hx lx => ⟨rp, rfl, ⟨xs, .inl (.inl erp)⟩, ?_⟩⟩
      have ask : ∀ zs : Zs, EnOk (moOf sz (ts ++ us)) (vkE zs) N → AskS (moOf sz (ts ++ us)) R S (vkE zs) N := fun zs h => ⟨mo, h, fun r hr => ⟨(gs.names r hr).1, (gs.names r hr).2.1⟩, om.great⟩
      have nd : N.Nodup := by
        rw [om.names]
        exact once_nodup _ _ List.nodup_nil
      refine for_list (K := K) (a := rp) (xs := xs) (fun j σ G => ∃ (v9 va : Option V), σ = [some (.ref p), some (.ref ra), some x1, some x2, some (.int (0 + (i : Int))), some (.int (sz : Int)), some (.ref td), some (.ref np), some (.ref o), v9, va] ∧ Same G8 G) ⟨v9, va, rfl, fun b o e => e⟩ (fun j σ G _ ⟨_, _, _, s⟩ => .inl (.inl (s _ _ erp))) ?_ ?_
      · clear v9 va
        rintro j y σ G hy ⟨v9, va, rfl, sm⟩
        have s7G := s8.trans sm
        obtain ⟨ra2, ys, rfl, sqy, ly, lt⟩ := (hx y (List.mem_of_getElem? hy)).mono (TK.same sm)
        have keysN : (N.map Sum.inr).map kV = N.map V.str := by
          rw [List.map_map]
          rfl
        have zk := zip_keys N ys ly.symm
        refine ⟨.ref np, rfl, .ref ra2, rfl, np, ra2, N.map Sum.inr, ys.map natI, rfl, by rw [keysN]; exact (TK.same s7G).sq sqn7, sqy, by rw [List.length_map, List.length_map, ly], fun vd nvd => ?_⟩
        rw [vk_zip, vk_merge (by rw [zk]; exact nd)]
        have s9 : Same G (upd G vd (.dK (vkK (N.zip ys)))) := same_new (fun b o e => e) nvd _
        have evd : (upd G vd (.dK (vkK (N.zip ys)))) vd = some (.dK (vkK (N.zip ys))) := upd_same
        generalize upd G vd (.dK (vkK (N.zip ys))) = G9 at s9 evd
        have s79 := s7G.trans s9
        have en := vk_en (M := moOf sz (ts ++ us)) N ys [] ly.symm lt
        rw [List.append_nil] at en
        have lz : (N.zip ys).length ≤ 4 := by
          rw [List.length_zip]
          omega
        have hm : ∀ {G' : Hp}, Same G9 G' → ValAtN G' vd (vkE (N.zip ys)) 4 := fun s' => vk_at (s' _ _ evd) lz
        refine ⟨.int (sz : Int), rfl, .ref td, rfl, x1, rfl, .ref vd, rfl, td, vd, x1, s1, moOf sz (ts ++ us), vkE (N.zip ys), R, S, N, G7, 4, rfl, st7.2.same s79, ask _ en, hm (fun b o e => e), by omega, s79, d17, om.a1, om.h1, fun Ga sa => ?_⟩
        refine ⟨.int (sz : Int), rfl, .ref td, rfl, x2, rfl, .ref vd, rfl, td, vd, x2, s2, moOf sz (ts ++ us), vkE (N.zip ys), R, S, N, G7, 4, rfl, st7.2.same (s79.trans sa), ask _ en, hm sa, by omega, s79.trans sa, d27, om.a2, om.h2, fun Gb sb => ⟨rfl, _, rfl, ?_⟩⟩
        rw [om.mean, decide_eq_true rfl]
        refine iteF ?_
        have s7b := s79.trans (sa.trans sb)
        refine ⟨.ref o, rfl, x1, rfl, .ref vd, rfl, o, td, vd, x1, s1, moOf sz (ts ++ us), vkE (N.zip ys), R, S, N, G7, 4, rfl, st7.same s7b, ask _ en, hm (sa.trans sb), by omega, s7b, d17, om.a1, om.h1, fun Gc sc => ?_⟩
        refine ⟨.ref o, rfl, x2, rfl, .ref vd, rfl, o, td, vd, x2, s2, moOf sz (ts ++ us), vkE (N.zip ys), R, S, N, G7, 4, rfl, st7.same (s7b.trans sc), ask _ en, hm (sa.trans (sb.trans sc)), by omega, s7b.trans sc, d27, om.a2, om.h2, fun Gd sd => ⟨rfl, _, rfl, ?_⟩⟩
        rw [om.mean, decide_eq_true rfl]
        exact iteF ⟨_, _, rfl, sm.trans (s9.trans (sa.trans (sb.trans (sc.trans sd))))⟩
      · rintro σ G ⟨v9', va', rfl, sm⟩
        exact ⟨_, _, _, _, _, v9', va', c3, rfl, by omega, pen_same P7 (s8.trans sm), b27.trans (Pn.But.of (s8.trans sm))⟩
    · rintro σ G ⟨v4, v5, v6, v7, v8, v9, va, c1, rfl, hc1, P1, b1⟩
      exact q G c1 (by omega) P1 b1
end
end Ad

/-! How deep sames stand in one another: a number. -/
namespace Ad
open PySem PySem.Spec PySem.Calls PyProof.Rows L2
abbrev sLSames : Stmt := topS 26
theorem scLSames : FnScope ["_law_sentence", "_law_parts", "_law_part"] ["_law_sentence"] (defScope sLSames) := ⟨rfl, rfl, rfl, by decide +kernel, rfl, by decide +kernel, by decide +kernel⟩
theorem cut_two {x y : V} {xs : List V} : ¬ (HT.sIx (x :: y :: xs).length 0 (some 2) = 0 ∧ HT.sIx (x :: y :: xs).length (x :: y :: xs).length none = (x :: y :: xs).length) ∧ cutV (x :: y :: xs) (some 2) none = xs := by
  have e2 : HT.sIx (x :: y :: xs).length 0 (some ((2 : Nat) : Int)) = 2 := by
    rw [HT.sIx_nat, List.length_cons, List.length_cons]
    omega
  have e3 : HT.sIx (x :: y :: xs).length 0 (some 2) = 2 := e2
  constructor
  · rw [e3]
    omega
  · unfold cutV
    rw [e3, HT.sIx_none]
    show (xs.take ((x :: y :: xs).length - 2)) = xs
    rw [List.length_cons, List.length_cons]
    exact List.take_of_length_le (by omega)
theorem max_in : ∀ ns : List Int, 0 < ns.length → ∃ m ∈ ns, ∀ y ∈ ns, y ≤ m
  | [x], _ => ⟨x, List.mem_singleton_self x, fun y hy => by rw [List.mem_singleton.mp hy]; exact Int.le_refl _⟩
  | x :: y :: ns, _ => by
    obtain ⟨m, m1, m2⟩ := max_in (y :: ns) (Nat.succ_pos _)
    by_cases e : x ≤ m
    · exact ⟨m, List.mem_cons_of_mem _ m1, fun z hz => by
        rcases List.mem_cons.mp hz with rfl | hz
        · exact e
        · exact m2 z hz⟩
    · refine ⟨x, List.mem_cons_self, fun z hz => ?_⟩
      rcases List.mem_cons.mp hz with rfl | hz
      · exact Int.le_refl _
      · have := m2 z hz
        omega
section
variable {P : Program} {w : World} {K : PySem.W.Frag} {mg : Str → Option Value} {base : Heap}
def spLSames (K : PySem.W.Frag) (n : Nat) : Sp := fun vs H Q _ => ∃ (x : V) (s : Sn) (Hb : Hp), vs = [x] ∧ Same Hb H ∧ Dp K Hb x s.d ∧ s.ok = true ∧ s.wf = true ∧ s.hi ≤ n ∧ ∀ H', Same H H' → Q (.int ((s.sames : Nat) : Int)) H'
theorem ok_lsames {f : Addr} {fd : FuncData} {k : Nat} (F : Fun K "_law_sames" "_law_sames" sLSames f fd) (gF : mg "_law_sames" = some (.ref f)) (bF : Binds K fd ["_law_sentence"] []) (m_max : mg "max" = none) (m_int : mg "int" = none) :
    ∀ n, FnOk P w K mg base CX0 (k + n) f fd ["_law_sentence"] (spLSames K n)
  | 0 => vac fun vs H Q E ⟨x, s, Hb, _, _, _, _, _, z, _⟩ => absurd (Nat.le_trans s.hi_pos z) (by decide)
  | n + 1 => by
    have IH : FnOk P w K mg base CX0 (k + n) f fd ["_law_sentence"] (spLSames K n) := ok_lsames F gF bF m_max m_int n
    refine F.ok scLSames (fun vs H Q E h => ?_) (fun cdv A outer s H vs Q E hr h => ?_)
    · obtain ⟨x, s, Hb, rfl, _⟩ := h
      rfl
    · obtain ⟨x, s, Hb, rfl, hb, hd, ok, wf, small, q⟩ := h
      refine ⟨_, (pss_cons (ps_if (pt_cmpR op_in_seq (pe_ix ix_tup (pv 0) pe_int (fun _ _ => rfl)) (pe_lst (pa_cons pe_str (pa_cons pe_str pa_nil))) (by with_unfolding_all rfl))
      (pss_one (ps_ret pe_int)) pss_nil)
    (pss_cons (ps_set (i := 1) scLSames.nd rfl (.inl rfl) (pe_ifExp (pt_cmpR op_in_seq (pe_ix ix_tup (pv 0) pe_int (fun _ _ => rfl)) (pe_lst (pa_cons pe_str (pa_cons pe_str pa_nil))) (by with_unfolding_all rfl)) (pe_slice sl_tup (pv 0) (po_some pe_int) po_none) (pe_slice sl_tup (pv 0) (po_some pe_int) po_none)))
    (pss_one (ps_ret (pe_op op_add (pe_callTy call_int1 (by rfl) m_int (by decide +kernel) (pa_cons (pe_cmpR op_eq (pe_ix ix_tup (pv 0) pe_int (fun _ _ => rfl)) pe_str (nomark _)) pa_nil))
      (pe_callB (cr_max rfl) (by rfl) m_max (by decide +kernel) (pa_cons (pe_lc (own := [("_law_part", 2)]) (g := gName 2) (tt := tYes) (te := tCall (spLSames K n) [] E0 (tCons (tVar 2) tNil)) rfl scLSames.nd (pi_tup (pv 1)) (blkOk_by (N := ["_law_sentence", "_law_parts", "_law_part"]) (sc := defScope sLSames) (by decide +kernel)) (fun _ _ _ _ _ => (pg_name (i := 2) scLSames.nd rfl (.inl rfl))) (fun _ _ _ _ _ => pts_nil) (fun _ _ _ _ _ => (pe_call IH hr (by rfl) gF F.kp bF .nil pass0 (pa_cons (pv 2) pa_nil)))) pa_nil))))))), ?_⟩
      have step1 : ∀ {a : Addr} {wd : Str} {vs : List V} {G : Hp}, Same H G → SqT K Hb a (.str wd :: vs) → SqT K G a (.str wd :: vs) := fun sm sq => (TK.same sm).sq ((TK.same hb).sq sq)
      rcases sn_shape hd ok wf small with ⟨al, z, s', a, v2, rfl, rfl, sq, d2, ok', wf', sz⟩ | ⟨wd, a, vs, isA, as, ss, rfl, sq, no, isIn, l1, l2, tot, each⟩
      · refine ⟨.ref a, rfl, a, _, 0, _, rfl, rfl, step1 (fun b o e => e) sq, atI_nat (j := 0) rfl, (by show 2 ≤ sizeLine; rw [sizeLine_eq]; decide), fun l nl => ⟨l, _, rfl, .inl (.inl (.inl upd_same)), rfl, rfl, _, rfl, go_out (qu_out al z s') ?_⟩⟩
        have s0 : Same H (upd H l (.lst [.str "is", .str "equal"])) := same_new (fun b o e => e) nl _
        generalize upd H l (.lst [.str "is", .str "equal"]) = G0 at s0
        refine ⟨.ref a, rfl, a, _, 0, _, rfl, rfl, step1 s0 sq, atI_nat (j := 0) rfl, (by show 2 ≤ sizeLine; rw [sizeLine_eq]; decide), fun l nl => ⟨l, _, rfl, .inl (.inl (.inl upd_same)), rfl, rfl, _, rfl, go_in (qu_in al z s') ?_⟩⟩
        have s1 : Same H (upd G0 l (.lst [.str "all", .str "some"])) := same_new s0 nl _
        generalize upd G0 l (.lst [.str "all", .str "some"]) = G1 at s1
        refine ⟨.ref a, rfl, 2, rfl, a, _, rfl, step1 s1 sq, cut_two.1, fun p3 n3 => ?_⟩
        rw [cut_two.2]
        have s3 : Same H (upd G1 p3 (.tup [v2])) := same_new s1 n3 _
        have e3 : (upd G1 p3 (.tup [v2])) p3 = some (.tup [v2]) := upd_same
        generalize upd G1 p3 (.tup [v2]) = G2 at s3 e3
        refine ⟨.ref a, rfl, a, _, 0, _, rfl, rfl, step1 s3 sq, atI_nat (j := 0) rfl, rfl, .inr ⟨_, rfl, ?_⟩⟩
        refine ⟨.ref p3, rfl, p3, rfl, ⟨[v2], .inl (.inl e3)⟩, fun D nD => lc_tup (K := K) (a := p3) (xs := [v2]) (fun i G => Same G2 G ∧ G D = some (.lst ((([s'].take i).map fun s => ((s.sames : Nat) : Int)).map V.int))) ⟨same_new (fun b o e => e) nD _, upd_same⟩ (fun i G _ ⟨sm, _⟩ => (TK.same sm).sq (.inl (.inl e3))) ?_ ?_⟩
        · rintro i y G hy ⟨sm, gD⟩
          have il : i < 1 := (List.getElem?_eq_some_iff.mp hy).1
          match i, hy with
          | 0, hy =>
            cases hy
            refine ⟨rfl, v2, rfl, v2, s', Hb, rfl, fun b o e => sm _ _ (s3 _ _ (hb _ _ e)), d2, ok', wf', sz, fun G3 sm3 => ⟨_, sm3 _ _ gD, Nat.zero_lt_of_lt (show 0 < sizeLine by rw [sizeLine_eq]; decide), same_on (sm.trans sm3) nD _, ?_⟩⟩
            rw [upd_same]
            rfl
        · rintro G ⟨sm, gD⟩
          refine ⟨D, _, rfl, .inl (.inl gD), Nat.one_pos, fun m hm _ => ⟨_, _, rfl, rfl, ?_⟩⟩
          rw [List.mem_singleton.mp hm]
          have wne2 : decide (V.str (Sn.word (.qu al z s')) = V.str "same") = false := by
            refine decide_eq_false fun e => ?_
            cases al with
            | true => exact absurd (V.str.inj e) (show ¬ (("all" : Str) = "same") by decide +kernel)
            | false => exact absurd (V.str.inj e) (show ¬ (("some" : Str) = "same") by decide +kernel)
          rw [wne2]
          have e : (0 : Int) + ((s'.sames : Nat) : Int) = (((Sn.qu al z s').sames : Nat) : Int) := Int.zero_add _
          have := q G (s3.trans sm)
          rw [← e] at this
          exact this
      · refine ⟨.ref a, rfl, a, _, 0, _, rfl, rfl, step1 (fun b o e => e) sq, atI_nat (j := 0) rfl, (by show 2 ≤ sizeLine; rw [sizeLine_eq]; decide), fun l nl => ⟨l, _, rfl, .inl (.inl (.inl upd_same)), rfl, rfl, _, rfl, ?_⟩⟩
        have s0 : Same H (upd H l (.lst [.str "is", .str "equal"])) := same_new (fun b o e => e) nl _
        generalize upd H l (.lst [.str "is", .str "equal"]) = G0 at s0
        cases isA with
        | true =>
          refine go_in isIn ?_
          have := q _ s0
          rw [(show as.length = vs.length ∧ s.words = spwL as + 1 ∧ s.sames = 0 from tot).2.2] at this
          exact this
        | false =>
          refine go_out isIn ?_
          refine ⟨.ref a, rfl, a, _, 0, _, rfl, rfl, step1 s0 sq, atI_nat (j := 0) rfl, (by show 2 ≤ sizeLine; rw [sizeLine_eq]; decide), fun l nl => ⟨l, _, rfl, .inl (.inl (.inl upd_same)), rfl, rfl, _, rfl, go_out no ?_⟩⟩
          have s1 : Same H (upd G0 l (.lst [.str "all", .str "some"])) := same_new s0 nl _
          generalize upd G0 l (.lst [.str "all", .str "some"]) = G0' at s1
          refine ⟨.ref a, rfl, 1, rfl, a, _, rfl, step1 s1 sq, cut_args.1, fun p3 n3 => ?_⟩
          rw [cut_args.2]
          have s3 : Same H (upd G0' p3 (.tup vs)) := same_new s1 n3 _
          have e3 : (upd G0' p3 (.tup vs)) p3 = some (.tup vs) := upd_same
          generalize upd G0' p3 (.tup vs) = G1 at s3 e3
          refine ⟨.ref a, rfl, a, _, 0, _, rfl, rfl, step1 s3 sq, atI_nat (j := 0) rfl, rfl, .inr ⟨_, rfl, ?_⟩⟩
          refine ⟨.ref p3, rfl, p3, rfl, ⟨vs, .inl (.inl e3)⟩, fun D nD => lc_tup (K := K) (a := p3) (xs := vs) (fun i G => Same G1 G ∧ G D = some (.lst (((ss.take i).map fun s => ((s.sames : Nat) : Int)).map V.int))) ⟨same_new (fun b o e => e) nD _, upd_same⟩ (fun i G _ ⟨sm, _⟩ => (TK.same sm).sq (.inl (.inl e3))) ?_ ?_⟩
          · rintro i y G hy ⟨sm, gD⟩
            obtain ⟨s', hu, tu, ok', wf', sz⟩ := (show ∃ s', ss[i]? = some s' ∧ Dp K Hb y (Sn.d s') ∧ s'.ok = true ∧ s'.wf = true ∧ s'.hi ≤ n from each i y hy)
            have il := (List.getElem?_eq_some_iff.mp hy).1
            refine ⟨rfl, y, rfl, y, s', Hb, rfl, fun b o e => sm _ _ (s3 _ _ (hb _ _ e)), tu, ok', wf', sz, fun G2 s2 => ⟨_, s2 _ _ gD, by rw [List.length_map, List.length_map, List.length_take, sizeLine_eq]; omega, same_on (sm.trans s2) nD _, ?_⟩⟩
            rw [upd_same, take_next hu, List.map_append, List.map_append]
            rfl
          · rintro G ⟨sm, gD⟩
            obtain ⟨t1, _, m0, hm0, le0, es⟩ := (show ss.length = vs.length ∧ s.words = 1 + (ss.map Sn.words).sum ∧ ∃ m ∈ ss.map Sn.sames, (∀ y ∈ ss.map Sn.sames, y ≤ m) ∧ s.sames = (if wd = "same" then 1 else 0) + m from tot)
            rw [← t1, List.take_length] at gD
            refine ⟨D, _, rfl, .inl (.inl gD), by rw [List.length_map]; omega, fun m hm le => ⟨_, _, rfl, rfl, ?_⟩⟩
            obtain ⟨sm', hsm, rfl⟩ := List.mem_map.mp hm
            have l1' := le0 _ (List.mem_map.mpr ⟨sm', hsm, rfl⟩)
            obtain ⟨s0', hs0, e0⟩ := List.mem_map.mp hm0
            have l2' := le _ (List.mem_map.mpr ⟨s0', hs0, rfl⟩)
            have em : sm'.sames = m0 := by omega
            rw [em]
            have := q G (s3.trans sm)
            rw [es] at this
            by_cases e : wd = "same"
            · subst e
              rw [if_pos rfl] at this
              rw [decide_eq_true (show V.str "same" = V.str "same" from rfl)]
              rw [show (((1 + m0 : Nat)) : Int) = 1 + (m0 : Int) by omega] at this
              exact this
            · rw [if_neg e] at this
              rw [decide_eq_false (show ¬ (V.str wd = V.str "same") from fun z => e (V.str.inj z))]
              rw [show (((0 + m0 : Nat)) : Int) = 0 + (m0 : Int) by omega] at this
              exact this
end
end Ad

/-! A drawn sentence within the sizes. -/
namespace Ad
open PySem PySem.Spec PySem.Calls PyProof.Rows L2
abbrev sLASent : Stmt := topS 27
theorem scLASent : FnScope ["_law_pen_here", "_law_rows", "_law_known", "_law_lap", "_law_found"] ["_law_pen_here", "_law_rows", "_law_known"] (defScope sLASent) := ⟨rfl, rfl, rfl, by decide +kernel, rfl, by decide +kernel, by decide +kernel⟩
theorem sns_mono : ∀ {a b : Nat}, a ≤ b → sns a ≤ sns b
  | 0, b, _ => sns_pos b
  | a + 1, 0, h => absurd h (Nat.not_succ_le_zero _)
  | a + 1, b + 1, h => by
    have := sns_mono (Nat.le_of_succ_le_succ h)
    show 1 + 2 * sns a ≤ 1 + 2 * sns b
    omega
theorem sdn_mono : ∀ {a b : Nat}, a ≤ b → sdn a ≤ sdn b
  | 0, b, _ => sdn_pos b
  | a + 1, 0, h => absurd h (Nat.not_succ_le_zero _)
  | a + 1, b + 1, h => by
    have := sdn_mono (Nat.le_of_succ_le_succ h)
    show 40 + 2 * sdn a ≤ 40 + 2 * sdn b
    omega
/-- within the sizes -/
def Fit (s : Sn) : Prop := (s.words ≤ 24 ∧ s.sames ≤ 2) ∨ s.size ≤ 3
section
variable {P : Program} {w : World} {K : PySem.W.Frag} {mg : Str → Option Value} {base : Heap}
def spLASent (K : PySem.W.Frag) : Sp := fun vs H Q _ => ∃ (p l ra kl : Addr) (ns : List Int) (c : Nat) (kn : List Str) (R S : List Row), vs = [.ref p, .ref ra, .ref kl] ∧ Pn.Pen H p l ns c ∧ ns.length ≤ 1000 ∧ c + 20000 ≤ 1000000000 ∧ OrdAt K H ra R S ∧ ROk R ∧ SOk S ∧
  H kl = some (.lst (kn.map V.str)) ∧ (∀ x ∈ kn, x ∈ xyz) ∧ kn.length ≤ 40 ∧ kl ≠ p ∧ ∀ s v H' c', Dp K H' v s.d → DSn R S kn 4 s → Fit s → c' ≤ c + 20000 → Pn.Pen H' p l ns c' → Pn.But p H H' → Q v H'
theorem DSn.up {R S : List Row} {kn : List Str} {a b : Nat} {s : Sn} (h : DSn R S kn a s) (le : a ≤ b) : DSn R S kn b s := ⟨h.ok, h.wf, Nat.le_trans h.size (sns_mono le), Nat.le_trans h.hi (Nat.succ_le_succ le), h.names, h.good⟩
theorem ok_lasent {f f1 f2 f3 f4 : Addr} {fd d1 d2 d3 d4 : FuncData} {k : Nat} (F : Fun K "_law_a_sentence" "_law_a_sentence" sLASent f fd)
    (hLDraw : Has P w K mg base k "_law_draw" ["_law_pen_here", "_law_many_here"] Pn.spDraw f1 d1) (hLDrawnSentence : Has P w K mg base k "_law_drawn_sentence" ["_law_pen_here", "_law_rows", "_law_deep", "_law_known"] (spDS K 5) f2 d2)
    (hLWords : Has P w K mg base k "_law_words" ["_law_sentence"] (spLWords K 5) f3 d3) (hLSames : Has P w K mg base k "_law_sames" ["_law_sentence"] (spLSames K 5) f4 d4)
    (m_range : mg "range" = none) : FnOk P w K mg base CX0 (k + 1) f fd ["_law_pen_here", "_law_rows", "_law_known"] (spLASent K) := by
  refine F.ok scLASent (fun vs H Q E h => ?_) (fun cdv A outer s H vs Q E hr h => ?_)
  · obtain ⟨p, l, ra, kl, ns, c, kn, R, S, rfl, _⟩ := h
    rfl
  · obtain ⟨p, l, ra, kl, ns, c, kn, R, S, rfl, hP, hlen, hc, hO, okR, okS, hK, kx, kfew, klp, q⟩ := h
    refine ⟨_, (pss_cons (ps_for PassesOwn.never rfl (pi_range1 (by rfl) m_range (pa_cons pe_int pa_nil)) (pg_name (i := 3) scLASent.nd rfl (.inl rfl))
      (pss_cons (ps_set (i := 4) scLASent.nd rfl (.inl rfl) (pe_call hLDrawnSentence.G hr (by rfl) hLDrawnSentence.g hLDrawnSentence.kp hLDrawnSentence.b .nil pass0 (pa_cons (pv 0) (pa_cons (pv 1) (pa_cons (pe_op op_add pe_int (pe_call hLDraw.G hr (by rfl) hLDraw.g hLDraw.kp hLDraw.b .nil pass0 (pa_cons (pv 0) (pa_cons pe_int pa_nil)))) (pa_cons (pv 2) pa_nil))))))
      (pss_one (ps_if (PW.pt (pw_and (pt_cmpR op_le (pe_call hLWords.G hr (by rfl) hLWords.g hLWords.kp hLWords.b .nil pass0 (pa_cons (pv 4) pa_nil)) pe_int (nomark _)) (pw_and1 (pt_cmpR op_le (pe_call hLSames.G hr (by rfl) hLSames.g hLSames.kp hLSames.b .nil pass0 (pa_cons (pv 4) pa_nil)) pe_int (nomark _)))))
        (pss_one (ps_ret (pv 4))) pss_nil))))
    (pss_one (ps_ret (pe_call hLDrawnSentence.G hr (by rfl) hLDrawnSentence.g hLDrawnSentence.kp hLDrawnSentence.b .nil pass0 (pa_cons (pv 0) (pa_cons (pv 1) (pa_cons pe_int (pa_cons (pv 2) pa_nil)))))))), ?_⟩
    have e4 : sdn 4 = 1240 := rfl
    have e31 : sns 4 = 31 := rfl
    refine ⟨_, rfl, by omega, by omega, ?_⟩
    refine for_range (lo := 0) (n := 12) (fun i σ G => ∃ (v3 v4 : Option V) (c1 : Nat), σ = [some (.ref p), some (.ref ra), some (.ref kl), v3, v4] ∧ Pn.Pen G p l ns c1 ∧ c1 ≤ c + i * 1241 ∧ Pn.But p H G) ⟨none, none, c, rfl, hP, by omega, fun b o nb e => e⟩ ?_ ?_
    · rintro i σ G hi ⟨v3, v4, c1, rfl, P1, hc1, b1⟩
      refine ⟨.ref p, rfl, .ref ra, rfl, .ref p, rfl, p, l, ns, c1, 3, rfl, P1, hlen, by omega, by decide, by decide, fun m G2 m0 m1 P2 b2 => ⟨_, _, rfl, rfl, .ref kl, rfl, ?_⟩⟩
      obtain ⟨e, rfl⟩ : ∃ e : Nat, m = (e : Int) := ⟨m.toNat, by omega⟩
      have ed : sdn (2 + e) ≤ sdn 4 := sdn_mono (by omega)
      have b12 := b1.trans b2
      have kG2 := b12 _ _ klp hK
      have arg : (V.int (2 + (e : Int))) = .int ((2 + e : Nat) : Int) := by
        rw [Int.natCast_add]
        rfl
      refine ⟨p, l, ra, kl, ns, c1 + 1, 2 + e, kn, R, S, by rw [← arg]; rfl, P2, hlen, by omega, hO.mono (pen_tk hP b12), okR, okS, by omega, kG2, kx, by omega, klp, fun s v G3 c3 dv ds hc3 P3 b3 => ?_⟩
      have b13 := b12.trans b3
      have sz : s.hi ≤ 5 := Nat.le_trans ds.hi (by omega)
      refine ⟨v, rfl, v, s, G3, rfl, fun b o e => e, dv, ds.ok, ds.wf, sz, fun G4 s4 => ⟨_, _, rfl, rfl, _, rfl, ?_⟩⟩
      have P4 := pen_same P3 s4
      have b14 := b13.trans (Pn.But.of s4)
      have st : c3 ≤ c + (i + 1) * 1241 := by omega
      have rest : ∃ (v3' v4' : Option V) (c1 : Nat), [some (.ref p), some (.ref ra), some (.ref kl), some (.int (0 + (i : Int))), some v] = [some (.ref p), some (.ref ra), some (.ref kl), v3', v4'] ∧ Pn.Pen G4 p l ns c1 ∧ c1 ≤ c + (i + 1) * 1241 ∧ Pn.But p H G4 := ⟨_, _, c3, rfl, P4, st, b14⟩
      refine ite2 (fun w1 => ?_) (fun _ => ?_)
      · refine ⟨v, rfl, v, s, G3, rfl, s4, dv, ds.ok, ds.wf, sz, fun G5 s5 => ⟨_, _, rfl, rfl, _, rfl, ?_⟩⟩
        have P5 := pen_same P4 s5
        have b15 := b14.trans (Pn.But.of s5)
        refine ite2 (fun w2 => ?_) (fun _ => ?_)
        · have h1 : ((s.words : Nat) : Int) ≤ 24 := of_decide_eq_true w1
          have h2 : ((s.sames : Nat) : Int) ≤ 2 := of_decide_eq_true w2
          exact ⟨v, rfl, q s v G5 c3 (dp_same (s4.trans s5) dv) (ds.up (by omega)) (.inl ⟨by omega, by omega⟩) (by omega) P5 b15⟩
        · exact ⟨_, _, c3, rfl, P5, st, b15⟩
      · exact rest
    · rintro σ G ⟨v3, v4, c1, rfl, P1, hc1, b1⟩
      exact ⟨.ref p, rfl, .ref ra, rfl, .ref kl, rfl, p, l, ra, kl, ns, c1, 1, kn, R, S, rfl, P1, hlen, by have : sdn 1 = 120 := rfl; omega, hO.mono (pen_tk hP b1), okR, okS, by decide, b1 _ _ klp hK, kx, by omega, klp, fun s v G3 c3 dv ds hc3 P3 b3 => q s v G3 c3 dv (ds.up (by decide)) (.inr ds.size) (by have : sdn 1 = 120 := rfl; omega) P3 (b1.trans b3)⟩
end
end Ad

/-! Sentences as comparable data; how large their plain forms are. -/
namespace Ad
open PySem PySem.Spec PySem.Calls PyProof.Rows L2
theorem strOk_of (s : String) : PyData.strOk (Str.ofString s) = true := by
  show ((Str.ofString s).cps.all fun c => decide (c < 0x110000)) = true
  rw [Str.ofString_eq_toList]
  show ((s.toList.map Char.toNat).toArray.all fun c => decide (c < 0x110000)) = true
  rw [List.all_toArray, List.all_map]
  refine List.all_eq_true.mpr fun c _ => decide_eq_true ?_
  have := c.valid
  rcases this with h | ⟨_, h⟩
  · have h' : c.toNat < 0xd800 := h
    show c.toNat < 0x110000
    omega
  · exact h
theorem strOk_xn (m : Nat) : PyData.strOk (xn m) = true := by
  have h1 := strOk_of "X"
  have h2 := strOk_of (toString (m : Int))
  show (((Str.ofString "X").cps ++ (Str.ofString (toString (m : Int))).cps).all fun c => decide (c < 0x110000)) = true
  rw [Array.all_append]
  exact Bool.and_eq_true_iff.mpr ⟨h1, h2⟩
mutual
theorem wf_depth : ∀ d : PyData, wfT d = true → d.depth ≤ (partsD d).length
  | .str x, _ => Nat.zero_le _
  | .tuple [], h => by cases h
  | .tuple (x :: ds), h => by
    obtain ⟨h1, h2⟩ := Bool.and_eq_true_iff.mp h
    have ih := wf_depthL ds h2
    have z : x.depth = 0 := by cases x <;> first | rfl | cases h1
    show max x.depth (PyData.depthAll ds) + 1 ≤ (PyData.tuple (x :: ds) :: partsDL ds).length
    rw [z, List.length_cons]
    omega
  | .none, h => by cases h
  | .bool _, h => by cases h
  | .int _, h => by cases h
  | .list _, h => by cases h
  | .dict _, h => by cases h
theorem wf_depthL : ∀ ds : List PyData, wfTL ds = true → PyData.depthAll ds ≤ (partsDL ds).length
  | [], _ => Nat.zero_le _
  | d :: ds, h => by
    obtain ⟨a, b⟩ := Bool.and_eq_true_iff.mp h
    have h1 := wf_depth d a
    have h2 := wf_depthL ds b
    show max d.depth (PyData.depthAll ds) ≤ (partsD d ++ partsDL ds).length
    rw [List.length_append]
    omega
end
mutual
theorem spw_parts : ∀ d : PyData, spw d = (partsD d).length
  | .str x => rfl
  | .tuple [] => rfl
  | .tuple (x :: ds) => by
    show 1 + spwL ds = (PyData.tuple (x :: ds) :: partsDL ds).length
    rw [List.length_cons, spwL_parts ds, Nat.add_comm]
  | .none => rfl
  | .bool _ => rfl
  | .int _ => rfl
  | .list _ => rfl
  | .dict _ => rfl
theorem spwL_parts : ∀ ds : List PyData, spwL ds = (partsDL ds).length
  | [] => rfl
  | d :: ds => by
    show spw d + spwL ds = (partsD d ++ partsDL ds).length
    rw [List.length_append, spw_parts d, spwL_parts ds]
end
theorem atm_wf {eq : Bool} {as : List PyData} (h : Sn.wf (.atm eq as) = true) : wfTL as = true ∧ (partsDL as).length ≤ 40 := by
  cases eq with
  | false =>
    obtain ⟨_, h⟩ := Bool.and_eq_true_iff.mp (show (decide (as.length = 1) && (wfTL as && (isTu (as.getD 0 .none) && decide ((partsDL as).length ≤ 40)))) = true from h)
    obtain ⟨h1, h⟩ := Bool.and_eq_true_iff.mp h
    exact ⟨h1, of_decide_eq_true (Bool.and_eq_true_iff.mp h).2⟩
  | true =>
    obtain ⟨_, h⟩ := Bool.and_eq_true_iff.mp (show (decide (as.length = 2) && (wfTL as && decide ((partsDL as).length ≤ 40))) = true from h)
    exact ⟨(Bool.and_eq_true_iff.mp h).1, of_decide_eq_true (Bool.and_eq_true_iff.mp h).2⟩
namespace Sn
theorem words_size : ∀ s : Sn, s.wf = true → s.words ≤ 41 * s.size
  | .atm eq as, h => by
    have := (atm_wf h).2
    show spwL as + 1 ≤ 41 * 1
    rw [spwL_parts]
    omega
  | .qu _ _ s, h => by
    have := words_size s h
    show 2 + s.words ≤ 41 * (1 + s.size)
    omega
  | .one s, h => by
    have := words_size s h
    show 1 + s.words ≤ 41 * (1 + s.size)
    omega
  | .two _ a b, h => by
    obtain ⟨h1, h2⟩ := Bool.and_eq_true_iff.mp (show (a.wf && b.wf) = true from h)
    have ha := words_size a h1
    have hb := words_size b h2
    show 1 + (a.words + b.words) ≤ 41 * (1 + a.size + b.size)
    omega
theorem depth_le : ∀ s : Sn, s.wf = true → s.d.depth ≤ s.hi + 41
  | .atm eq as, h => by
    obtain ⟨h1, h2⟩ := atm_wf h
    have := wf_depthL as h1
    show max (PyData.str (word (.atm eq as))).depth (PyData.depthAll as) + 1 ≤ 1 + 41
    have z : (PyData.str (word (.atm eq as))).depth = 0 := rfl
    omega
  | .qu al x s, h => by
    have := depth_le s h
    show max (PyData.str (word (.qu al x s))).depth (max (PyData.str x).depth (max s.d.depth 0)) + 1 ≤ 1 + s.hi + 41
    have z : (PyData.str (word (.qu al x s))).depth = 0 := rfl
    have z2 : (PyData.str x).depth = 0 := rfl
    omega
  | .one s, h => by
    have := depth_le s h
    show max (PyData.str "not").depth (max s.d.depth 0) + 1 ≤ 1 + s.hi + 41
    have z : (PyData.str "not").depth = 0 := rfl
    omega
  | .two w a b, h => by
    obtain ⟨h1, h2⟩ := Bool.and_eq_true_iff.mp (show (a.wf && b.wf) = true from h)
    have ha := depth_le a h1
    have hb := depth_le b h2
    show max (PyData.str w).depth (max a.d.depth (max b.d.depth 0)) + 1 ≤ 1 + max a.hi b.hi + 41
    have z : (PyData.str w).depth = 0 := rfl
    omega
section
variable {R S : List Row}
theorem lay (hN : ∀ r ∈ R ++ S, PyData.strOk r.1 = true) : ∀ (s : Sn) (kn : List Str), good R S kn s → s.ok = true → (∀ x ∈ kn, PyData.strOk x = true) → s.d.canLay0 = true
  | .atm false as, kn, g, _, hk => by
    obtain ⟨r, ds, rfl, hr, ar, t⟩ := g
    have h1 := tok_layL (fun r hr => hN r (List.mem_append_left _ hr)) hk ds t
    show (PyData.strOk "is" && ((PyData.strOk r.1 && PyData.canLayAll0 ds) && true)) = true
    rw [h1, hN r (List.mem_append_right _ hr), show PyData.strOk "is" = true from by decide +kernel]
    rfl
  | .atm true as, kn, g, _, hk => by
    obtain ⟨t, u, rfl, ht, hu⟩ := g
    have h1 := tok_lay (fun r hr => hN r (List.mem_append_left _ hr)) hk t ht
    have h2 := tok_lay (fun r hr => hN r (List.mem_append_left _ hr)) hk u hu
    show (PyData.strOk "equal" && (t.canLay0 && (u.canLay0 && true))) = true
    rw [h1, h2, show PyData.strOk "equal" = true from by decide +kernel]
    rfl
  | .qu al x s, kn, g, o, hk => by
    have h1 := lay hN s (kn ++ [x]) g.2 o fun y hy => by
      rcases List.mem_append.mp hy with z | z
      · exact hk y z
      · rw [List.mem_singleton.mp z]
        exact g.1
    show (PyData.strOk (word (.qu al x s)) && (PyData.strOk x && (s.d.canLay0 && true))) = true
    rw [h1, g.1, show PyData.strOk (word (.qu al x s)) = true from by
      rcases word_quu al x s with e | e <;> (rw [e]; decide +kernel)]
    rfl
  | .one s, kn, g, o, hk => by
    have h1 := lay hN s kn g o hk
    show (PyData.strOk "not" && (s.d.canLay0 && true)) = true
    rw [h1, show PyData.strOk "not" = true from by decide +kernel]
    rfl
  | .two w a b, kn, g, o, hk => by
    obtain ⟨h3, oa, ob⟩ := okw o
    have h1 := lay hN a kn g.1 oa hk
    have h2 := lay hN b kn g.2 ob hk
    show (PyData.strOk w && (a.d.canLay0 && (b.d.canLay0 && true))) = true
    have h4 : PyData.strOk w = true := by
      have k : ((["and", "or", "then", "same"] : List Str).all PyData.strOk) = true := by decide +kernel
      exact List.all_eq_true.mp k w h3
    rw [h1, h2, h4]
    rfl
theorem shaped (hN : ∀ r ∈ R ++ S, PyData.strOk r.1 = true) {s : Sn} {kn : List Str} (g : good R S kn s) (o : s.ok = true) (w : s.wf = true) (hk : ∀ x ∈ kn, PyData.strOk x = true) (hi : s.hi ≤ 20) : SeqAt.shaped s.d = true := by
  have h1 := lay hN s kn g o hk
  have h2 := depth_le s w
  cases s with
  | atm eq as => exact Bool.and_eq_true_iff.mpr ⟨h1, decide_eq_true (show PyData.depth _ ≤ 64 by omega)⟩
  | qu al x s => exact Bool.and_eq_true_iff.mpr ⟨h1, decide_eq_true (show PyData.depth _ ≤ 64 by omega)⟩
  | one s => exact Bool.and_eq_true_iff.mpr ⟨h1, decide_eq_true (show PyData.depth _ ≤ 64 by omega)⟩
  | two w a b => exact Bool.and_eq_true_iff.mpr ⟨h1, decide_eq_true (show PyData.depth _ ≤ 64 by omega)⟩
end
theorem fit_pl {s : Sn} (f : Fit s) (w : s.wf = true) : s.pl.size ≤ 1000 := by
  have h1 := pl_words s
  have h2 := size_words s.pl
  rcases f with ⟨a, b⟩ | a
  · have p : 4 ^ s.sames ≤ 4 ^ 2 := pow4 b
    have : 2 * 4 ^ s.sames * s.words ≤ 2 * 4 ^ 2 * 24 := Nat.mul_le_mul (Nat.mul_le_mul_left _ p) a
    omega
  · have h3 := sames_size s
    have h4 := words_size s w
    have p : 4 ^ s.sames ≤ 4 ^ 1 := pow4 (by omega)
    have : 2 * 4 ^ s.sames * s.words ≤ 2 * 4 ^ 1 * 123 := Nat.mul_le_mul (Nat.mul_le_mul_left _ p) (by omega)
    omega
end Sn
theorem strs_lay : ∀ kn : List Str, (∀ x ∈ kn, PyData.strOk x = true) → PyData.canLayAll0 (kn.map .str) = true
  | [], _ => rfl
  | x :: kn, h => by
    show (PyData.strOk x && PyData.canLayAll0 (kn.map .str)) = true
    rw [strs_lay kn fun y hy => h y (List.mem_cons_of_mem _ hy), h x List.mem_cons_self]
    rfl
theorem strs_shaped {kn : List Str} (h : ∀ x ∈ kn, PyData.strOk x = true) : SeqAt.shaped (.list (kn.map .str)) = true := by
  unfold SeqAt.shaped
  rw [Bool.and_eq_true]
  refine ⟨strs_lay kn h, decide_eq_true ?_⟩
  have := xyz_depth kn
  show PyData.depthAll (kn.map .str) + 1 ≤ 64
  omega
end Ad

/-! The end of a law of such a def where some defs grow tables of code objects. -/
namespace Ad
open PySem PySem.Spec PySem.Calls PyProof.Rows L2 GxR
abbrev oList (us : List Value) : Obj := { cls := .type "list", data := .seq us.toArray }
abbrev oTab : Obj := { cls := .none, data := .fields #[] }
/-- an abstract heap over h: the list of us at a, locked (or not told), and empty tables -/
structure First (h : Heap) (K : PySem.W.Frag) (a : Addr) (us : List Value) (ns : List Int) (Ts : List Addr) (H : Hp) : Prop where
  told : ∀ b u, H b = some u → (b = a ∧ u = .frz (oList us) (.lst (ns.map V.int))) ∨ (b ∈ Ts ∧ u = .tbl #[])
  tabs : ∀ b ∈ Ts, H b = some (.tbl #[])
  offK : ∀ b u, H b = some u → K.lookup b = none
section
variable {h : Heap} {K : PySem.W.Frag} {a : Addr} {us : List Value} {ns : List Int} {Ts : List Addr} {H : Hp}
/-- an object that is neither is not tracked -/
theorem First.off (F : First h K a us ns Ts H) (ha : h.get? a = some (oList us)) (ht : ∀ b ∈ Ts, h.get? b = some oTab) {b : Addr} {o : Obj} (e : h.get? b = some o) (n1 : o ≠ oList us) (n2 : o ≠ oTab) : H b = none := by
  cases q : H b with
  | none => rfl
  | some u =>
    rcases F.told b u q with ⟨z, _⟩ | ⟨z, _⟩
    · rw [z, ha] at e
      exact absurd (Option.some.inj e).symm n1
    · rw [ht b z] at e
      exact absurd (Option.some.inj e).symm n2
theorem First.offC (F : First h K a us ns Ts H) (ha : h.get? a = some (oList us)) (ht : ∀ b ∈ Ts, h.get? b = some oTab) {b : Addr} {o : Obj} (e : h.get? b = some o) (n1 : o.cls ≠ .type "list") (n2 : o.cls ≠ .none) : H b = none :=
  F.off ha ht e (fun z => n1 (by rw [z])) fun z => n2 (by rw [z])
theorem First.dict (F : First h K a us ns Ts H) (ha : h.get? a = some (oList us)) (ht : ∀ b ∈ Ts, h.get? b = some oTab) {b : Addr} {m : Str → Option Value} (e : h.Ns b m) : (hidT h H).Ns b m := by
  obtain ⟨o, es, ep, e, d, r⟩ := e
  refine ⟨o, es, ep, hidT_get e (F.off ha ht e (fun z => ?_) fun z => ?_), d, r⟩
  · rw [z] at d
    cases d
  · rw [z] at d
    cases d
end
theorem lawGT {P : Program} {w : World} {K : PySem.W.Frag} {mg mb : Str → Option Value} {CX : CXT} {k : Nat} {fa a : Addr} {cs : List (Addr × Addr)} {fd : FuncData} {x : Str} {sp : Sp} {s : Shared} {us : List Value} {ns : List Int}
    (inK : K.In s.heap) (gl : s.heap.Ns mainGlobals mg) (bl : s.heap.Ns builtinsNs mb) (boot : ∀ x : Str, x ≠ "__name__" → mb x = bootBuiltins x) (lim : s.heap.NoLimit) (quiet : s.gens = #[])
    (tabs : ∀ p ∈ cs, s.heap.get? p.2 = some oTab) (off : ∀ p ∈ cs, K.lookup p.2 = none) (codes : ∀ p ∈ cs, PySem.W.CodeHd s.heap p.1 p.2)
    (top : ∃ (bm : Addr) (ob : Obj), mg "__builtins__" = some (.ref bm) ∧ bm ≠ builtinsNs ∧ s.heap.get? bm = some ob ∧ ob.cls = .type "module" ∧ ob.dict = some builtinsNs ∧ ob.data = .plain)
    (script : s.heap.get? a = some (oList us)) (nums : IntsAre us ns) (few : ns.length ≤ sizeLine) (room : Room k callerA)
    (F : ∀ base : Heap, K.In base → base.Ns mainGlobals mg → (∀ p ∈ cs, TabB base mg p.1 p.2) → FnG P w K mg base CX k fa fd [x] sp) (binds : ∀ (s : Shared) (u : Value), BindsTo s fd ⟨[u], []⟩ [(x, u)])
    (ask : ∀ H : Hp, (∀ p ∈ cs, H p.2 = some (.tbl #[])) → SqL K H a (ns.map V.int) → sp [.ref a] H (fun v _ => v = .bl true) fun _ _ _ => False) (noX : ∀ H e s', CX [] H s (fun _ _ _ => False) e s' → False) :
    codeAny (model P w) callerA (.call (.ref fa) ⟨[.ref a], []⟩) (fun r s' => r = .ok (.ret (.bool true)) ∧ OldK s.heap s'.heap ∧ s'.os = s.os ∧ AllBare s'.gens) s := by
  have rel := vals_ints nums
  have len := nums.length
  have ht : ∀ b ∈ cs.map (·.2), s.heap.get? b = some oTab := by
    intro b hb
    obtain ⟨p, hp, rfl⟩ := List.mem_map.mp hb
    exact tabs p hp
  have aOut : a ∉ cs.map (·.2) := fun z => by
    have e := ht a z
    rw [script] at e
    cases e
  have gone : ∀ {q : Prop} (b : Addr), b ∈ ([] : List Addr) → q := fun {q} b hb => absurd hb (by simp)
  have main : ∀ H : Hp, First s.heap K a us ns (cs.map (·.2)) H → SqL K H a (ns.map V.int) →
      codeAny (model P w) callerA (.call (.ref fa) ⟨[.ref a], []⟩) (fun r s' => r = .ok (.ret (.bool true)) ∧ OldK s.heap s'.heap ∧ s'.os = s.os ∧ AllBare s'.gens) s := by
    intro H D seq
    have ok : HOk P w H s.heap := by
      intro b u e
      rcases D.told b u e with ⟨rfl, rfl⟩ | ⟨z, rfl⟩
      · exact ⟨script, by rw [List.length_map]; exact few, us, _, rel, script⟩
      · exact ht b z
    have kin : K.In (hidT s.heap H) := by
      intro b o e
      refine hidT_get (inK b o e) ?_
      cases q : H b with
      | none => rfl
      | some u =>
        rw [D.offK b u q] at e
        cases e
    have tb : ∀ p ∈ cs, TabB (hidT s.heap H) mg p.1 p.2 := by
      intro p hp
      constructor
      · obtain ⟨o, vs, file, tf, flags, tg, inF, text, tt, e, c, r⟩ := codes p hp
        exact ⟨o, vs, file, tf, flags, tg, inF, text, tt, hidT_get e (D.offC script ht e (by rw [c]; decide) (by rw [c]; intro z; cases z)), c, r⟩
      · obtain ⟨bm, ob, b1, b2, b3, b4, b5, b6⟩ := top
        refine ⟨bm, ob, b1, b2, fun z => ?_, fun z => ?_, hidT_get b3 (D.offC script ht b3 (by rw [b4]; decide) (by rw [b4]; intro z; cases z)), b4, b5, b6⟩
        · obtain ⟨o, es, ep, e, d, _⟩ := gl
          rw [z, e] at b3
          cases b3
          rw [d] at b6
          cases b6
        · rw [z, tabs p hp] at b3
          cases b3
          cases b4
      · intro z
        obtain ⟨o, es, ep, e, d, _⟩ := gl
        rw [z, tabs p hp] at e
        cases e
        cases d
    have mod : L2.Mod K mg (hidT s.heap H) := by
      obtain ⟨mc, l1, l2⟩ := lim
      exact ⟨kin, D.dict script ht gl, ⟨mb, D.dict script ht bl, boot⟩, mc, D.dict script ht l1, l2⟩
    have env : Env0 P w K mg (hidT s.heap H) callerA [] s H := ⟨rfl, mod, fun b o e => of_hidT e, Nat.le_of_eq (hidT_size _ _), trivial, fun b hb => gone b hb, ok, .of_eq quiet⟩
    have run := (F _ kin (D.dict script ht gl) tb).run callerA [] s H ⟨[.ref a], []⟩ [.ref a] [.ref a] _ _ rfl room env (binds s (.ref a)) (.cons rfl .nil) (ask H (fun p hp => D.tabs _ (List.mem_map.mpr ⟨p, hp, rfl⟩)) seq)
    refine codeAny_mono run fun r s' back => ?_
    match r, back with
    | .error e, back => exact (noX H e s' back).elim
    | .ok .next, back => exact False.elim back
    | .ok .brk, back => exact False.elim back
    | .ok .cont, back => exact False.elim back
    | .ok (.ret u), ⟨v, H', os, bare, un, ok', rv, (q : v = .bl true)⟩ =>
      subst q
      obtain rfl : u = Value.bool true := rv
      have stays : ∀ b o, b ∉ cs.map (·.2) → s.heap.get? b = some o → s'.heap.get? b = some o := by
        intro b o nb e
        cases q : H b with
        | none => exact un.keep b o e q (fun z => gone b z) (by simp)
        | some u =>
          rcases D.told b u q with ⟨rfl, rfl⟩ | ⟨z, _⟩
          · have e2 := (ok' b _ (un.frzs b _ _ q)).1
            rw [script] at e
            cases e
            exact e2
          · exact absurd z nb
      have grew : ∀ b ∈ cs.map (·.2), ∃ more : Array Value, s'.heap.get? b = some { cls := .none, data := .fields more } := by
        intro b hb
        obtain ⟨more, z⟩ := un.tbls b #[] (D.tabs b hb)
        exact ⟨_, ok' b _ z⟩
      refine ⟨rfl, ⟨fun b o e => ?_, fun b o e => ?_⟩, os, bare⟩
      · by_cases hb : b ∈ cs.map (·.2)
        · obtain ⟨more, z⟩ := grew b hb
          obtain ⟨p, hp, rfl⟩ := List.mem_map.mp hb
          rw [tabs p hp] at e
          cases e
          refine .inr (.inl ⟨((codes p hp).tab (tabs p hp)).isCodeTable, rfl, #[], more, rfl, ?_⟩)
          rw [Array.empty_append]
          exact z
        · exact .inl (stays b o hb e)
      · by_cases hb : b ∈ cs.map (·.2)
        · obtain ⟨more, z⟩ := grew b hb
          exact ⟨_, z⟩
        · exact ⟨o, stays b o hb e⟩
  have offT : ∀ b ∈ cs.map (·.2), K.lookup b = none := by
    intro b hb
    obtain ⟨p, hp, rfl⟩ := List.mem_map.mp hb
    exact off p hp
  by_cases look : K.lookup a = none
  · refine main (fun b => if b ∈ cs.map (·.2) then some (.tbl #[]) else if b = a then some (.frz (oList us) (.lst (ns.map V.int))) else none) ⟨fun b u e => ?_, fun b hb => if_pos hb, fun b u e => ?_⟩ (.inl (.inr ⟨oList us, (if_neg aOut).trans (if_pos rfl)⟩))
    all_goals
      by_cases hb : b ∈ cs.map (·.2)
      · have e' := (if_pos hb).symm.trans e
        first
          | exact .inr ⟨hb, (Option.some.inj e').symm⟩
          | exact offT b hb
      · have e1 := (if_neg hb).symm.trans e
        by_cases hc : b = a
        · have e' := (if_pos hc).symm.trans e1
          first
            | exact .inl ⟨hc, (Option.some.inj e').symm⟩
            | exact hc ▸ look
        · exact nomatch (if_neg hc).symm.trans e1
  · obtain ⟨o, e⟩ := Option.ne_none_iff_exists'.mp look
    have e2 := inK a o e
    rw [script] at e2
    cases e2
    refine main (fun b => if b ∈ cs.map (·.2) then some (.tbl #[]) else none) ⟨fun b u e => ?_, fun b hb => if_pos hb, fun b u e => ?_⟩ (.inr ⟨_, us.toArray, _, e, rfl, rfl, rfl, ?_, by simpa using rel⟩)
    · by_cases hb : b ∈ cs.map (·.2)
      · exact .inr ⟨hb, (Option.some.inj ((if_pos hb).symm.trans e)).symm⟩
      · exact nomatch (if_neg hb).symm.trans e
    · by_cases hb : b ∈ cs.map (·.2)
      · exact offT b hb
      · exact nomatch (if_neg hb).symm.trans e
    · rw [List.size_toArray, len]
      exact few
/-- what is known of the law at the head's heap -/
def LawGAt (l : PySem.W.OpenLaw) (w : World) (K : PySem.W.Frag) (CX : CXT) (k n : Nat) (x : Str) (mg : Str → Option Value) (fa : Addr) (h : Heap) : Prop :=
  ∃ (fd : FuncData) (cs : List (Addr × Addr)) (sp : Sp), (∀ p ∈ cs, h.get? p.2 = some oTab) ∧ (∀ p ∈ cs, K.lookup p.2 = none) ∧ (∀ p ∈ cs, PySem.W.CodeHd h p.1 p.2) ∧ (∀ (s : Shared) (u : Value), BindsTo s fd ⟨[u], []⟩ [(x, u)]) ∧
    (∀ (H : Hp) (a : Addr) (ns : List Int), ns.length ≤ n → (∀ p ∈ cs, H p.2 = some (.tbl #[])) → SqL K H a (ns.map V.int) → sp [.ref a] H (fun v _ => v = .bl true) fun _ _ _ => False) ∧
    ∀ base : Heap, K.In base → base.Ns mainGlobals mg → (∀ p ∈ cs, TabB base mg p.1 p.2) → FnG l.prog w K mg base CX k fa fd [x] sp
theorem walkGT {l : PySem.W.OpenLaw} {n k : Nat} {q : Program} {loose : List Str} {XP : (Str → Option Value) → Heap → Prop} {YP : World → Heap → Prop} {d : DefRec} {CX : World → CXT} {x : Str}
    (most : l.most = some n) (short : n ≤ sizeLine) (plain : d.params.defaults = []) (room : Room k callerA)
    (F : ∀ (w : World) (mg : Str → Option Value) (fa : Addr) (h : Heap), YP w h → h.Ns mainGlobals mg → mg d.name = some (.ref fa) → ∃ K : PySem.W.Frag, K.In h ∧ LawGAt l w K (CX w) k n x mg fa h)
    (noX : ∀ (w : World) (H : Hp) (s : Shared) (e : Value) (s' : Shared), CX w [] H s (fun _ _ _ => False) e s' → False) : PySem.W.WalkO q loose XP YP l.row.toRowW d [] (fun f vs => PySem.call f vs) := by
  refine Att.attach_callB most plain fun w s0 s mg mb fa o pm cd doc a us ns G Y ho hd hcd hmg list nums few bits quiet => ?_
  obtain ⟨K, inK, fd, cs, sp, t1, t2, t3, b, ask, prom⟩ := F w mg fa _ Y G.T.g hmg
  exact lawGT inK G.T.g G.T.b G.T.builtins G.T.nolimit quiet t1 t2 t3 G.T.bmain list nums (Nat.le_trans few short) room prom b (fun H => ask H a ns few) fun H e s' => noX w H s e s'
end Ad

/-! The law keeps its word. -/
namespace Ad
open PySem PySem.Spec PySem.Calls PyProof.Rows L2
abbrev sLaw : Stmt := topS 44
theorem scLaw : FnScope ["_law_script", "_law_pen_here", "_law_lap", "_law_rows", "_law_sentence", "_law_first", "_law_bound_here", "_law_turn", "_law_second", "_law_one", "_law_third", "_law_ahead", "_law_word", "_law_k"] ["_law_script"] (defScope sLaw) := ⟨rfl, rfl, rfl, by decide +kernel, rfl, by decide +kernel, by decide +kernel⟩
theorem two_of {α : Type} {x1 x2 y : α} {j : Nat} (h : [x1, x2][j]? = some y) : y = x1 ∨ y = x2 := by
  rcases List.mem_cons.mp (List.mem_of_getElem? h) with e | e
  · exact .inl e
  · exact .inr (List.mem_singleton.mp e)
def knownL : List (List Str) := [[], [], ["X"], ["Z", "Y"]]
theorem known_ok {kn : List Str} (h : kn ∈ knownL) : (∀ x ∈ kn, x ∈ xyz) ∧ kn.length ≤ 2 := by
  have k : (knownL.all fun kn => (kn.all fun x => xyz.contains x) && decide (kn.length ≤ 2)) = true := by decide +kernel
  obtain ⟨a, b⟩ := Bool.and_eq_true_iff.mp (List.all_eq_true.mp k kn h)
  exact ⟨fun x hx => List.contains_iff_mem.mp (List.all_eq_true.mp a x hx), of_decide_eq_true b⟩
theorem one_mean {R S : List Row} {kn : List Str} {s1 s2 : Sn} (f : FreeN kn (once [] (Sn.frees [] s1))) (hk : ∀ x ∈ kn, PyData.strOk x = true) (g1 : Sn.good R S kn s1) (o1 : s1.ok = true) (w1 : s1.wf = true) (o2 : s2.ok = true) (w2 : s2.wf = true)
    (g2 : Sn.good R S (once [] (Sn.frees [] s1)) s2) (h1 : s1.hi ≤ 16) (h2 : s2.hi ≤ 16) (z : s1.size ≤ 2000) (m : ∀ M E, mean M E s1 = mean M E s2) : OneMean R S (once [] (Sn.frees [] s1)) s1 s2 16 :=
  ⟨rfl, f.few, fun x hx => hk x (f.sub x hx), ⟨o1, w1, ask_n g1⟩, ⟨o2, w2, g2⟩, h1, h2, z, m⟩
section
variable {P : Program} {w : World} {K : PySem.W.Frag} {mg : Str → Option Value} {base : Heap}
def spLaw (K : PySem.W.Frag) : Sp := fun vs H Q _ => ∃ (a : Addr) (ns : List Int), vs = [.ref a] ∧ SqL K H a (ns.map V.int) ∧ ns.length ≤ 63 ∧ ∀ H', Q (.bl true) H'
theorem ok_law {f : Addr} {fd : FuncData} {k : Nat} (F : Fun K "law" "law" sLaw f fd)
    {f1 f3 f4 f5 f6 f7 f8 f9 fa fb fc fe ff fg fh fi : Addr} {d1 d3 d4 d5 d6 d7 d8 d9 da db dc de df dg dh di : FuncData}
    (hLPen : Has P w K mg base (k + 1) "_law_pen" ["_law_script"] (Pn.spPen K) f1 d1) (hLPick : Has P w K mg base (k + 1) "_law_pick" ["_law_pen_here", "_law_some"] (Pn.spPick K) f3 d3)
    (hLDrawnOrder : Has P w K mg base (k + 1) "_law_drawn_order" ["_law_pen_here"] (spOrder K) f4 d4) (hLASentence : Has P w K mg base (k + 1) "_law_a_sentence" ["_law_pen_here", "_law_rows", "_law_known"] (spLASent K) f5 d5)
    (hPlain : Has P w K mg base (k + 1) "plain" ["sentence"] (spPlain K 5) f6 d6) (hLPlain : Has P w K mg base (k + 1) "_law_plain" ["_law_sentence"] (spPlain K 5) f7 d7)
    (hLStays : Has P w K mg base (k + 1) "_law_stays" ["_law_pen_here", "_law_rows", "_law_one", "_law_other"] (spLStays K 16) f8 d8) (hLKinds : Has P w K mg base (k + 1) "_law_kinds" ["_law_sentence", "_law_ahead"] (spLKinds K 16) f9 d9)
    (hLSames : Has P w K mg base (k + 1) "_law_sames" ["_law_sentence"] (spLSames K 5) fa da) (hLWords : Has P w K mg base (k + 1) "_law_words" ["_law_sentence"] (spLWords K 16) fb db)
    (hInwards : Has P w K mg base (k + 1) "inwards" ["sentence"] (spInw K true 16) fc dc) (hLInwards : Has P w K mg base (k + 1) "_law_inwards" ["_law_sentence", "_law_sign"] (spLInw K 16) fe de)
    (hLFree : Has P w K mg base (k + 1) "_law_free" ["_law_sentence", "_law_bound_here"] (spLFree K 16) ff df) (hApart : Has P w K mg base (k + 1) "apart" ["sentence"] (spApart K 16) fg dg)
    (hLApart : Has P w K mg base (k + 1) "_law_apart" ["_law_sentence", "_law_known", "_law_counter"] (spLApart K 16) fh dh) (hLBound : Has P w K mg base (k + 1) "_law_bound" ["_law_sentence"] (spLBound K 16) fi di)
    (m_range : mg "range" = none) (m_len : mg "len" = none) (m_str : mg "str" = none) : FnOk P w K mg base CX0 (k + 2) f fd ["_law_script"] (spLaw K) := by
  refine F.ok scLaw (fun vs H Q E h => ?_) (fun cdv A outer s H vs Q E hr h => ?_)
  · obtain ⟨a, ns, rfl, _⟩ := h
    rfl
  · obtain ⟨a, ns, rfl, hS, few, q⟩ := h
    refine ⟨_, (pss_cons (ps_set (i := 1) scLaw.nd rfl (.inl rfl) (pe_call hLPen.G hr (by rfl) hLPen.g hLPen.kp hLPen.b .nil pass0 (pa_cons (pv 0) pa_nil)))
    (pss_cons (ps_for PassesOwn.never rfl (pi_range1 (by rfl) m_range (pa_cons pe_int pa_nil)) (pg_name (i := 2) scLaw.nd rfl (.inl rfl))
      (pss_cons (ps_set (i := 3) scLaw.nd rfl (.inl rfl) (pe_call hLDrawnOrder.G hr (by rfl) hLDrawnOrder.g hLDrawnOrder.kp hLDrawnOrder.b .nil pass0 (pa_cons (pv 1) pa_nil)))
      (pss_cons (ps_set (i := 4) scLaw.nd rfl (.inl rfl) (pe_call hLASentence.G hr (by rfl) hLASentence.g hLASentence.kp hLASentence.b .nil pass0 (pa_cons (pv 1) (pa_cons (pv 3) (pa_cons (pe_call hLPick.G hr (by rfl) hLPick.g hLPick.kp hLPick.b .nil pass0 (pa_cons (pv 1) (pa_cons (pe_lst (pa_cons (pe_lst pa_nil) (pa_cons (pe_lst pa_nil) (pa_cons (pe_lst (pa_cons pe_str pa_nil)) (pa_cons (pe_lst (pa_cons pe_str (pa_cons pe_str pa_nil))) pa_nil))))) pa_nil))) pa_nil)))))
      (pss_cons (ps_set (i := 5) scLaw.nd rfl (.inl rfl) (pe_call hPlain.G hr (by rfl) hPlain.g hPlain.kp hPlain.b .nil pass0 (pa_cons (pv 4) pa_nil)))
      (pss_cons (ps_if (PW.pt (pw_or (pt_cmpR (op_neD (hu64 hr)) (pv 5) (pe_call hLPlain.G hr (by rfl) hLPlain.g hLPlain.kp hLPlain.b .nil pass0 (pa_cons (pv 4) pa_nil)) (nomark _)) (pw_or1 (pt_not (pt_val (pe_call hLStays.G hr (by rfl) hLStays.g hLStays.kp hLStays.b .nil pass0 (pa_cons (pv 1) (pa_cons (pv 3) (pa_cons (pv 4) (pa_cons (pv 5) pa_nil))))))))))
        (pss_one (ps_ret pe_bl)) pss_nil)
      (pss_cons (ps_if (pt_cmpR (op_neD (hu64 hr)) (pe_lc (own := [("_law_ahead", 11), ("_law_word", 12)]) (g := gTup K 2 (gCons (gName 11) (gCons (gName 12) gNil))) (tt := tTest (tOp (rIn K false) (tVar 12) (tLst (tCons (tC (.str "then")) (tCons (tC (.str "same")) tNil))))) (te := tC (.int 1)) rfl scLaw.nd (pi_list (pe_call hLKinds.G hr (by rfl) hLKinds.g hLKinds.kp hLKinds.b .nil pass0 (pa_cons (pv 5) (pa_cons pe_str pa_nil)))) (blkOk_by (N := ["_law_script", "_law_pen_here", "_law_lap", "_law_rows", "_law_sentence", "_law_first", "_law_bound_here", "_law_turn", "_law_second", "_law_one", "_law_third", "_law_ahead", "_law_word", "_law_k"]) (sc := defScope sLaw) (by decide +kernel)) (fun _ _ _ _ _ => (pg_tup rfl (pgs_cons (pg_name (i := 11) scLaw.nd rfl (.inl rfl)) (pgs_cons (pg_name (i := 12) scLaw.nd rfl (.inl rfl)) pgs_nil)))) (fun _ _ _ _ _ => pts_one (pt_cmpR op_in_seq (pv 12) (pe_lst (pa_cons pe_str (pa_cons pe_str pa_nil))) (by with_unfolding_all rfl))) (fun _ _ _ _ _ => pe_int)) (pe_lst pa_nil) (nomark _))
        (pss_one (ps_ret pe_bl)) pss_nil)
      (pss_cons (ps_set (i := 6) scLaw.nd rfl (.inl rfl) pe_int)
      (pss_cons (ps_for PassesOwn.never rfl (pi_range1 (by rfl) m_range (pa_cons (pe_call hLSames.G hr (by rfl) hLSames.g hLSames.kp hLSames.b .nil pass0 (pa_cons (pv 4) pa_nil)) pa_nil)) (pg_name (i := 7) scLaw.nd rfl (.inl rfl))
        (pss_one (ps_set (i := 6) scLaw.nd rfl (.inl rfl) (pe_op op_mul (pv 6) pe_int))))
      (pss_cons (ps_if (pt_cmpR op_gt (pe_call hLWords.G hr (by rfl) hLWords.g hLWords.kp hLWords.b .nil pass0 (pa_cons (pv 5) pa_nil)) (pe_op op_mul (pv 6) (pe_call hLWords.G hr (by rfl) hLWords.g hLWords.kp hLWords.b .nil pass0 (pa_cons (pv 4) pa_nil))) (nomark _))
        (pss_one (ps_ret pe_bl)) pss_nil)
      (pss_cons (ps_set (i := 8) scLaw.nd rfl (.inl rfl) (pe_call hInwards.G hr (by rfl) hInwards.g hInwards.kp hInwards.b .nil pass0 (pa_cons (pv 5) pa_nil)))
      (pss_cons (ps_if (PW.pt (pw_or (pt_cmpR (op_neD (hu64 hr)) (pv 8) (pe_call hLInwards.G hr (by rfl) hLInwards.g hLInwards.kp hLInwards.b .nil pass0 (pa_cons (pv 5) (pa_cons pe_bl pa_nil))) (nomark _)) (pw_or1 (pt_not (pt_val (pe_call hLStays.G hr (by rfl) hLStays.g hLStays.kp hLStays.b .nil pass0 (pa_cons (pv 1) (pa_cons (pv 3) (pa_cons (pv 5) (pa_cons (pv 8) pa_nil))))))))))
        (pss_one (ps_ret pe_bl)) pss_nil)
      (pss_cons (ps_if (pt_cmpR (op_neD (hu64 hr)) (pe_lc (own := [("_law_ahead", 11), ("_law_word", 12)]) (g := gTup K 2 (gCons (gName 11) (gCons (gName 12) gNil))) (tt := tAnd (tTest (tOp rEq (tVar 11) (tC (.str "not")))) (tTest (tOp (rIn K true) (tVar 12) (tLst (tCons (tC (.str "is")) (tCons (tC (.str "equal")) tNil)))))) (te := tC (.int 1)) rfl scLaw.nd (pi_list (pe_call hLKinds.G hr (by rfl) hLKinds.g hLKinds.kp hLKinds.b .nil pass0 (pa_cons (pv 8) (pa_cons pe_str pa_nil)))) (blkOk_by (N := ["_law_script", "_law_pen_here", "_law_lap", "_law_rows", "_law_sentence", "_law_first", "_law_bound_here", "_law_turn", "_law_second", "_law_one", "_law_third", "_law_ahead", "_law_word", "_law_k"]) (sc := defScope sLaw) (by decide +kernel)) (fun _ _ _ _ _ => (pg_tup rfl (pgs_cons (pg_name (i := 11) scLaw.nd rfl (.inl rfl)) (pgs_cons (pg_name (i := 12) scLaw.nd rfl (.inl rfl)) pgs_nil)))) (fun _ _ _ _ _ => pts_one (PW.pt (pw_and (pt_cmpR op_eq (pv 11) pe_str (nomark _)) (pw_and1 (pt_cmpR op_notIn_seq (pv 12) (pe_lst (pa_cons pe_str (pa_cons pe_str pa_nil))) (by with_unfolding_all rfl)))))) (fun _ _ _ _ _ => pe_int)) (pe_lst pa_nil) (nomark _))
        (pss_one (ps_ret pe_bl)) pss_nil)
      (pss_cons (ps_if (pt_cmpR (op_neD (hu64 hr)) (pe_call hLFree.G hr (by rfl) hLFree.g hLFree.kp hLFree.b .nil pass0 (pa_cons (pv 4) (pa_cons (pe_lst pa_nil) pa_nil))) (pe_lst pa_nil) (nomark _))
        (pss_one ps_continue) pss_nil)
      (pss_one (ps_for PassesOwn.never rfl (pi_list (pe_lst (pa_cons (pv 4) (pa_cons (pv 8) pa_nil)))) (pg_name (i := 9) scLaw.nd rfl (.inl rfl))
        (pss_cons (ps_set (i := 10) scLaw.nd rfl (.inl rfl) (pe_call hApart.G hr (by rfl) hApart.g hApart.kp hApart.b .nil pass0 (pa_cons (pv 9) pa_nil)))
        (pss_cons (ps_if (PW.pt (pw_or (pt_cmpR (op_neD (hu64 hr)) (pv 10) (pe_call hLApart.G hr (by rfl) hLApart.g hLApart.kp hLApart.b .nil pass0 (pa_cons (pv 9) (pa_cons pe_dnewK (pa_cons (pe_lst (pa_cons pe_int pa_nil)) pa_nil)))) (nomark _)) (pw_or1 (pt_not (pt_val (pe_call hLStays.G hr (by rfl) hLStays.g hLStays.kp hLStays.b .nil pass0 (pa_cons (pv 1) (pa_cons (pv 3) (pa_cons (pv 9) (pa_cons (pv 10) pa_nil))))))))))
          (pss_one (ps_ret pe_bl)) pss_nil)
        (pss_one (ps_if (pt_cmpR (op_neD (hu64 hr)) (pe_call hLBound.G hr (by rfl) hLBound.g hLBound.kp hLBound.b .nil pass0 (pa_cons (pv 10) pa_nil)) (pe_lc (own := [("_law_k", 13)]) (g := gName 13) (tt := tYes) rfl scLaw.nd (pi_range1 (by rfl) m_range (pa_cons (pe_callB call_len_seq (by rfl) m_len PySem.boot_len (pa_cons (pe_call hLBound.G hr (by rfl) hLBound.g hLBound.kp hLBound.b .nil pass0 (pa_cons (pv 10) pa_nil)) pa_nil)) pa_nil)) (blkOk_by (N := ["_law_script", "_law_pen_here", "_law_lap", "_law_rows", "_law_sentence", "_law_first", "_law_bound_here", "_law_turn", "_law_second", "_law_one", "_law_third", "_law_ahead", "_law_word", "_law_k"]) (sc := defScope sLaw) (by decide +kernel)) (fun _ _ _ _ _ => (pg_name (i := 13) scLaw.nd rfl (.inl rfl))) (fun _ _ _ _ _ => pts_nil) (fun _ _ _ _ _ => (pe_op op_add_str pe_str (pe_callTy call_str_int (by rfl) m_str (by decide +kernel) (pa_cons (pe_op op_add (pv 13) pe_int) pa_nil))))) (nomark _))
          (pss_one (ps_ret pe_bl)) pss_nil)))))))))))))))))))
    (pss_one (ps_ret pe_bl)))), ?_⟩
    refine ⟨.ref a, rfl, a, ns, rfl, hS, few, fun H1 p l sm1 np nl hP => ?_⟩
    refine ⟨4, rfl, by decide, by decide, for_range (lo := 0) (n := 4) (fun i σ G => ∃ (v2 v3 v4 v5 v6 v7 v8 v9 va : Option V) (c : Nat), σ = [some (.ref a), some (.ref p), v2, v3, v4, v5, v6, v7, v8, v9, va, none, none, none] ∧ c ≤ i * 100000 ∧ Pn.Pen G p l ns c)
      ⟨none, none, none, none, none, none, none, none, none, 0, rfl, Nat.zero_le _, hP⟩ ?_ ?_⟩
    · clear hP nl np sm1
      rintro i σ G hi ⟨v2, v3, v4, v5, v6, v7, v8, v9, va, c, rfl, hc, hP⟩
      refine ⟨.ref p, rfl, p, l, ns, c, rfl, hP, by omega, by omega, fun ra R S B D G0 c0 hO hB hD mR mS hc0 P0 b0 => ?_⟩
      have gs := gens_ok hB hD mR mS
      clear hP b0 hB hD mR mS
      -- the known names
      refine ⟨.ref p, rfl, .ref ra, rfl, .ref p, rfl, Nat.zero_le _, fun k1 m1 => ?_⟩
      have s1 : Same G0 (upd G0 k1 (.lst [])) := same_new (fun b o e => e) m1 _
      have f1 : (upd G0 k1 (.lst [])) k1 = some (.lst []) := upd_same
      generalize upd G0 k1 (.lst []) = G1 at s1 f1
      refine ⟨Nat.zero_le _, fun k2 m2 => ?_⟩
      have s2 : Same G1 (upd G1 k2 (.lst [])) := same_new (fun b o e => e) m2 _
      have f2 : (upd G1 k2 (.lst [])) k2 = some (.lst []) := upd_same
      generalize upd G1 k2 (.lst []) = G2 at s2 f2
      refine ⟨(by show 1 ≤ sizeLine; decide), fun k3 m3 => ?_⟩
      have s3 : Same G2 (upd G2 k3 (.lst [.str "X"])) := same_new (fun b o e => e) m3 _
      have f3 : (upd G2 k3 (.lst [.str "X"])) k3 = some (.lst [.str "X"]) := upd_same
      generalize upd G2 k3 (.lst [.str "X"]) = G3 at s3 f3
      refine ⟨(by show 2 ≤ sizeLine; rw [sizeLine_eq]; decide), fun k4 m4 => ?_⟩
      have s4 : Same G3 (upd G3 k4 (.lst [.str "Z", .str "Y"])) := same_new (fun b o e => e) m4 _
      have f4 : (upd G3 k4 (.lst [.str "Z", .str "Y"])) k4 = some (.lst [.str "Z", .str "Y"]) := upd_same
      generalize upd G3 k4 (.lst [.str "Z", .str "Y"]) = G4 at s4 f4
      refine ⟨(by show 4 ≤ sizeLine; rw [sizeLine_eq]; decide), fun kl ml => ?_⟩
      have s6 : Same G4 (upd G4 kl (.lst [.ref k1, .ref k2, .ref k3, .ref k4])) := same_new (fun b o e => e) ml _
      have f6 : (upd G4 kl (.lst [.ref k1, .ref k2, .ref k3, .ref k4])) kl = some (.lst [.ref k1, .ref k2, .ref k3, .ref k4]) := upd_same
      generalize upd G4 kl (.lst [.ref k1, .ref k2, .ref k3, .ref k4]) = G6 at s6 f6
      have sAll := s1.trans (s2.trans (s3.trans (s4.trans s6)))
      have P6 := pen_same P0 sAll
      have notp : ∀ {q : Addr} {xs : List V}, G6 q = some (.lst xs) → q ≠ p := fun e z => by
        obtain ⟨⟨_, _, _, ep, _⟩, _⟩ := P6
        rw [z, ep] at e
        cases e
      have g4 := s6 _ _ f4
      have g3 := s6 _ _ (s4 _ _ f3)
      have g2 := s6 _ _ (s4 _ _ (s3 _ _ f2))
      have g1 := s6 _ _ (s4 _ _ (s3 _ _ (s2 _ _ f1)))
      refine ⟨p, l, kl, ns, c0, [.ref k1, .ref k2, .ref k3, .ref k4], rfl, P6, by omega, by omega, .inl (.inl (.inl f6)), (by simp), (by show 4 ≤ 1000000; decide), notp f6, fun x G7 hx P7 b7 => ?_⟩
      have hO7 := (hO.mono (TK.same sAll)).mono (pen_tk P6 b7)
      obtain ⟨ka, kn, rfl, hkn, hK, kap⟩ : ∃ (ka : Addr) (kn : List Str), x = .ref ka ∧ kn ∈ knownL ∧ G7 ka = some (.lst (kn.map V.str)) ∧ ka ≠ p := by
        rcases List.mem_cons.mp hx with rfl | hx
        · exact ⟨k1, [], rfl, by decide, b7 _ _ (notp g1) g1, notp g1⟩
        rcases List.mem_cons.mp hx with rfl | hx
        · exact ⟨k2, [], rfl, by decide, b7 _ _ (notp g2) g2, notp g2⟩
        rcases List.mem_cons.mp hx with rfl | hx
        · exact ⟨k3, ["X"], rfl, by decide +kernel, b7 _ _ (notp g3) g3, notp g3⟩
        cases List.mem_singleton.mp hx
        exact ⟨k4, ["Z", "Y"], rfl, by decide +kernel, b7 _ _ (notp g4) g4, notp g4⟩
      clear hO P6 b7 notp g1 g2 g3 g4 f1 f2 f3 f4 f6 s1 s2 s3 s4 s6 m1 m2 m3 m4 ml hx sAll P0
      clear G0 G1 G2 G3 G4 G6 k1 k2 k3 k4 kl
      obtain ⟨kx, k2⟩ := known_ok hkn
      have kk : ∀ x ∈ kn, PyData.strOk x = true := fun x hx => xyz_strOk (kx x hx)
      have hN : ∀ r ∈ R ++ S, PyData.strOk r.1 = true := fun r hr => nameOk_lay (gs.names r hr).1
      -- the sentence and its plain form
      refine ⟨p, l, ra, ka, ns, c0 + 1, kn, R, S, rfl, P7, by omega, by omega, hO7, gs.r, gs.s, hK, kx, by omega, kap, fun s v G c2 dv ds fit hc2 P2 b2 => ?_⟩
      have hO2 := hO7.mono (pen_tk P7 b2)
      clear hO7 P7 b2 hK kap hkn G7
      have hi5 : s.hi ≤ 5 := ds.hi
      have sz31 : s.size ≤ 31 := ds.size
      have ok := ds.ok
      have wf := ds.wf
      have pok := Sn.pl_ok s ok
      have pwf := Sn.pl_wf s wf
      have pis := Sn.pl_isPl s ok
      have pgd := Sn.pl_good s kn ds.good
      have phi := Sn.pl_hi s
      have psz := Sn.fit_pl fit wf
      have qok := Sn.isPl_ok _ (Sn.inw_isPl s.pl true pis)
      have qwf := Sn.inw_wf s.pl true pwf
      have qgd := Sn.inw_good s.pl true kn pgd
      have qhi := Sn.inw_hi s.pl true
      have qsz := Sn.inw_size s.pl true
      refine ⟨v, rfl, v, s, G, rfl, (fun b o e => e), dv, ok, wf, hi5, fun G1 v1 s1 d1 => ?_⟩
      have sh1 := Sn.shaped hN pgd pok pwf kk (by omega)
      refine ⟨v1, rfl, v, rfl, v, s, G, rfl, s1, dv, ok, wf, hi5, fun G2 y2 s2 d2 => ⟨s.pl.d, s.pl.d, dp_same s2 d1, d2, sh1, sh1, _, rfl, ?_⟩⟩
      rw [eqv_one sh1]
      have s12 := s1.trans s2
      have P3 := pen_same P2 s12
      have om1 := one_mean (s2 := s.pl) (free_n kx ds.good) kk ds.good ok wf pok pwf (Sn.pl_good _ _ (ask_n ds.good)) (by omega) (by omega) (by omega) (fun M E => (mean_pl M s E ok).symm)
      refine iteF ⟨.ref p, rfl, .ref ra, rfl, v, rfl, v1, rfl, p, l, ra, v, v1, ns, c2, R, S, _, s, s.pl, rfl, P3, by omega, by omega, hO2.mono (TK.same s12), gs, dp_same s12 dv, dp_same s2 d1, om1, fun G3 c3 hc3 P4 b4 => ⟨_, rfl, iteF ?_⟩⟩
      have k14 := pen_tk P3 b4
      have dv3 := sn_tk k14 s v wf (dp_same s12 dv)
      have d13 := sn_tk k14 s.pl v1 pwf (dp_same s2 d1)
      have hO3 := (hO2.mono (TK.same s12)).mono k14
      clear P3 P2 b4 k14 d1 d2 dv s1 s2 s12 hO2 G G1 G2
      -- no then, no same
      refine ⟨v1, rfl, v1, "", s.pl, G3, rfl, (fun b o e => e), d13, pok, pwf, by omega, by omega, fun G4 kp xs s4 n4 e4 f4 => ⟨kp, rfl, ⟨xs, .inl (.inl e4)⟩, fun D nD => lc_list (K := K) (a := kp) (xs := xs) (fun j G => Same G4 G ∧ G D = some (.lst [])) ⟨same_new (fun b o e => e) nD _, upd_same⟩ (fun j G _ ⟨sm, _⟩ => .inl (.inl (sm _ _ e4))) ?_ ?_⟩⟩
      · rintro j y G hy ⟨sm, gD⟩
        obtain ⟨qq, hq, b, rfl, sb⟩ := f4.get hy
        obtain ⟨w1, w2⟩ := Sn.kinds_pl s.pl "" pis qq (List.mem_of_getElem? hq)
        refine ⟨b, _, rfl, (TK.same sm).sq sb, rfl, _, _, rfl, _, _, rfl, rfl, rfl, ?_⟩
        refine ⟨_, rfl, (by show 2 ≤ sizeLine; rw [sizeLine_eq]; decide), fun l' nl' => ⟨l', _, rfl, .inl (.inl (.inl upd_same)), rfl, rfl, _, rfl, go_out (out_two w1 w2) ⟨same_new sm nl' _, ?_⟩⟩⟩
        rw [upd_ne (ne_of_none gD nl')]
        exact gD
      rintro G5 ⟨sm5, gD⟩
      have s35 := s4.trans sm5
      refine ⟨Nat.zero_le _, fun e5 ne5 => ?_⟩
      have s36 : Same G3 (upd G5 e5 (.lst [])) := same_new s35 ne5 _
      refine ⟨.list [], .list [], .lst (.inl (.inl ((same_new (fun b o e => e) ne5 _) _ _ gD))) .nil, .lst (.inl (.inl upd_same)) .nil, by decide +kernel, by decide +kernel, _, rfl, ?_⟩
      rw [show PyData.eqv (.list []) (.list []) = true from by decide +kernel]
      refine iteF ?_
      generalize upd G5 e5 (.lst []) = G6 at s36
      clear s4 n4 e4 f4 sm5 gD s35 ne5 nD G4 G5
      -- the sizes
      have sm7 := Sn.sames_size s
      refine ⟨v, rfl, v, s, G3, rfl, s36, dv3, ok, wf, hi5, fun G7 s7 => ⟨_, rfl, by omega, by omega, ?_⟩⟩
      refine for_range (lo := 0) (n := ((s.sames : Nat) : Int).toNat) (fun j σ G => ∃ v7 : Option V, σ = [some (.ref a), some (.ref p), some (.int (0 + (i : Int))), some (.ref ra), some v, some v1, some (.int ((2 * 4 ^ j : Nat) : Int)), v7, v8, v9, va, none, none, none] ∧ Same G3 G) ⟨v7, rfl, s36.trans s7⟩ ?_ ?_
      · rintro j σ G hj ⟨v7, rfl, sm⟩
        have e : ((2 * 4 ^ (j + 1) : Nat) : Int) = ((2 * 4 ^ j : Nat) : Int) * 4 := by
          rw [Nat.pow_succ, ← Nat.mul_assoc, Int.natCast_mul]
          rfl
        refine ⟨_, rfl, _, _, rfl, rfl, .inr ⟨by decide, by decide⟩, some (.int (0 + (j : Int))), ?_, sm⟩
        rw [e]
        rfl
      clear s36 s7 G6 G7 v7
      rintro σ G ⟨v7, rfl, sm⟩
      refine ⟨v1, rfl, v1, s.pl, G3, rfl, sm, d13, pok, pwf, by omega, fun Ga sa => ?_⟩
      have w42 := Sn.words_size s wf
      refine ⟨_, rfl, v, rfl, v, s, G3, rfl, sm.trans sa, dv3, ok, wf, by omega, fun Gb sb => ⟨_, _, rfl, rfl, .inr ⟨by omega, by omega⟩, _, _, rfl, rfl, _, rfl, ?_⟩⟩
      have hw := Sn.pl_words s
      have en : ((s.sames : Nat) : Int).toNat = s.sames := by omega
      rw [en]
      refine ite2 (fun h => absurd (of_decide_eq_true h) ?_) (fun _ => ?_)
      · show ¬ (((s.pl.words : Nat) : Int) > ((2 * 4 ^ s.sames : Nat) : Int) * ((s.words : Nat) : Int))
        rw [← Int.natCast_mul]
        omega
      have s3b := sm.trans (sa.trans sb)
      clear sm sa sb G Ga
      -- inwards
      refine ⟨v1, rfl, v1, s.pl, G3, rfl, s3b, d13, pis, pwf, by omega, fun Gc v8 s8 d8 => ?_⟩
      have sh2 := Sn.shaped hN qgd qok qwf kk (by omega)
      refine ⟨v8, rfl, v1, rfl, v1, true, s.pl, G3, rfl, s3b.trans s8, d13, pis, pwf, by omega, fun Gd y9 s9 d9 => ⟨(s.pl.inw true).d, (s.pl.inw true).d, dp_same s9 d8, d9, sh2, sh2, _, rfl, ?_⟩⟩
      rw [eqv_one sh2]
      have s3d := s3b.trans (s8.trans s9)
      have P5 := pen_same P4 s3d
      have om2 := one_mean (s2 := s.pl.inw true) (free_n kx pgd) kk pgd pok pwf qok qwf (Sn.inw_good _ _ _ (ask_n pgd)) (by omega) (by omega) (by omega) (fun M E => by rw [mean_inw M s.pl E true pis, beqT1])
      refine iteF ⟨.ref p, rfl, .ref ra, rfl, v1, rfl, v8, rfl, p, l, ra, v1, v8, ns, c3, R, S, _, s.pl, s.pl.inw true, rfl, P5, by omega, by omega, hO3.mono (TK.same s3d), gs, dp_same s3d d13, dp_same s9 d8, om2, fun G4 c4 hc4 P6 b6 => ⟨_, rfl, iteF ?_⟩⟩
      have k6 := pen_tk P5 b6
      have dv4 := sn_tk k6 s v wf (dp_same s3d dv3)
      have d84 := sn_tk k6 _ v8 qwf (dp_same s9 d8)
      have hO4 := (hO3.mono (TK.same s3d)).mono k6
      clear P4 P5 b6 k6 d13 d8 d9 dv3 s3b s8 s9 s3d hO3 om1 om2 G3 Gb Gc Gd
      -- not just ahead of atoms
      refine ⟨v8, rfl, v8, "", s.pl.inw true, G4, rfl, (fun b o e => e), d84, qok, qwf, by omega, by omega, fun G5 kp xs s5 n5 e5 f5 => ⟨kp, rfl, ⟨xs, .inl (.inl e5)⟩, fun D nD => lc_list (K := K) (a := kp) (xs := xs) (fun j G => Same G5 G ∧ G D = some (.lst [])) ⟨same_new (fun b o e => e) nD _, upd_same⟩ (fun j G _ ⟨sm, _⟩ => .inl (.inl (sm _ _ e5))) ?_ ?_⟩⟩
      · rintro j y G hy ⟨sm, gD⟩
        obtain ⟨qq, hq, b, rfl, sb⟩ := f5.get hy
        have wk := Sn.kinds_inw s.pl true "" pis (by decide +kernel) qq (List.mem_of_getElem? hq)
        refine ⟨b, _, rfl, (TK.same sm).sq sb, rfl, _, _, rfl, _, _, rfl, rfl, rfl, ?_⟩
        obtain ⟨q1, q2⟩ := qq
        by_cases e : q1 = "not"
        · subst e
          refine ⟨_, rfl, rfl, _, rfl, go_eq ?_⟩
          refine ⟨_, rfl, (by show 2 ≤ sizeLine; rw [sizeLine_eq]; decide), fun l' nl' => ⟨l', _, rfl, .inl (.inl (.inl upd_same)), rfl, rfl, _, rfl, ?_⟩⟩
          have eb : (if true = true then !inV (.str q2) [.str "is", .str "equal"] else inV (.str q2) [.str "is", .str "equal"]) = false := by
            rw [if_pos rfl]
            rcases wk rfl with z | z <;> (rw [show q2 = _ from z]; decide +kernel)
          rw [eb]
          refine iteF ⟨same_new sm nl' _, ?_⟩
          rw [upd_ne (ne_of_none gD nl')]
          exact gD
        · exact ⟨_, rfl, rfl, _, rfl, go_ne e ⟨sm, gD⟩⟩
      rintro G6 ⟨sm6, gD⟩
      refine ⟨Nat.zero_le _, fun e6 ne6 => ?_⟩
      have s46 : Same G4 (upd G6 e6 (.lst [])) := same_new (s5.trans sm6) ne6 _
      refine ⟨.list [], .list [], .lst (.inl (.inl ((same_new (fun b o e => e) ne6 _) _ _ gD))) .nil, .lst (.inl (.inl upd_same)) .nil, by decide +kernel, by decide +kernel, _, rfl, ?_⟩
      rw [show PyData.eqv (.list []) (.list []) = true from by decide +kernel]
      refine iteF ?_
      generalize upd G6 e6 (.lst []) = G7 at s46
      clear s5 n5 e5 f5 sm6 gD ne6 nD G5 G6
      -- closed or not
      have inx : ∀ x ∈ Sn.frees [] s, x ∈ xyz := fun x hx => kx x (good_in s [] kn (by rw [List.append_nil]; exact ds.good) x hx)
      refine ⟨v, rfl, Nat.zero_le _, fun bl nbl => ?_⟩
      have s47 : Same G4 (upd G7 bl (.lst [])) := same_new s46 nbl _
      have fl := frees_len s [] wf
      refine ⟨v, bl, s, [], G4, rfl, s47, dv4, ok, wf, by omega, by omega, by decide, upd_same, by decide, fun G8 fp s8 nfp efp => ?_⟩
      refine ⟨Nat.zero_le _, fun e8 ne8 => ?_⟩
      have s48 : Same G4 (upd G8 e8 (.lst [])) := same_new (s47.trans s8) ne8 _
      refine ⟨.list ((Sn.frees [] s).map .str), .list [], .lst (.inl (.inl ((same_new (fun b o e => e) ne8 _) _ _ efp))) (strs_dp _), .lst (.inl (.inl upd_same)) .nil, xyz_shaped inx, by decide +kernel, _, rfl, ?_⟩
      rw [strs_nil]
      generalize upd G8 e8 (.lst []) = G9 at s48
      have P9 := pen_same P6 s48
      cases cl : Sn.frees [] s with
      | cons x xs => exact iteT ⟨_, _, _, _, _, _, _, v9, va, c4, rfl, by omega, P9⟩
      | nil =>
        refine iteF ?_
        have good0 : Sn.good R S [] s := by
          have := ask_n ds.good
          rw [cl] at this
          exact this
        have good2 : Sn.good R S [] (s.pl.inw true) := Sn.inw_good _ _ _ (Sn.pl_good _ _ good0)
        refine ⟨v, rfl, v8, rfl, (by show 2 ≤ sizeLine; rw [sizeLine_eq]; decide), fun lst nlst => ?_⟩
        have s4A : Same G4 (upd G9 lst (.lst [v, v8])) := same_new s48 nlst _
        have elst : (upd G9 lst (.lst [v, v8])) lst = some (.lst [v, v8]) := upd_same
        have PA := pen_same P9 (same_new (fun b o e => e) nlst (.lst [v, v8]))
        have dvA : Dp K (upd G9 lst (.lst [v, v8])) v s.d := dp_same s4A dv4
        have d8A : Dp K (upd G9 lst (.lst [v, v8])) v8 (s.pl.inw true).d := dp_same s4A d84
        have hOA := hO4.mono (TK.same s4A)
        generalize upd G9 lst (.lst [v, v8]) = GA at s4A elst PA dvA d8A hOA
        have lstp : lst ≠ p := fun z => by
          obtain ⟨⟨_, _, _, ep, _⟩, _⟩ := PA
          rw [z, ep] at elst
          cases elst
        clear s48 s47 s46 s8 nfp efp nbl ne8 nlst P9 dv4 d84 hO4 P6 G9 G8 G7 s4A G4
        refine ⟨lst, rfl, ⟨[v, v8], .inl (.inl elst)⟩, for_list (K := K) (a := lst) (xs := [v, v8]) (fun j σ G => ∃ (v9 va : Option V) (cj : Nat), σ = [some (.ref a), some (.ref p), some (.int (0 + (i : Int))), some (.ref ra), some v, some v1, some (.int ((2 * 4 ^ s.sames : Nat) : Int)), v7, some v8, v9, va, none, none, none] ∧ cj ≤ c4 + j * 4000 ∧ Pn.Pen G p l ns cj ∧ Pn.But p GA G) ⟨v9, va, c4, rfl, by omega, PA, fun b o nb e => e⟩ (fun j σ G _ ⟨_, _, _, _, _, _, b⟩ => .inl (.inl (b _ _ lstp elst))) ?_ ?_⟩
        · clear v9 va
          rintro j y σ G hy ⟨v9, va, cj, rfl, hcj, PG, bG⟩
          have kG := pen_tk PA bG
          have jl : j < 2 := (List.getElem?_eq_some_iff.mp hy).1
          obtain ⟨one, dy, ook, owf, ohi, osz, ogd⟩ : ∃ one : Sn, Dp K G y one.d ∧ one.ok = true ∧ one.wf = true ∧ one.hi ≤ 16 ∧ one.size ≤ 2000 ∧ Sn.good R S [] one := by
            rcases two_of hy with e | e
            · rw [e]
              exact ⟨s, sn_tk kG s v wf dvA, ok, wf, by omega, by omega, good0⟩
            · rw [e]
              exact ⟨s.pl.inw true, sn_tk kG _ v8 qwf d8A, qok, qwf, by omega, by omega, good2⟩
          have agd : ∀ kn', Sn.good R S kn' (Sn.ap idR 0 one) := fun kn' => Sn.ap_good strOk_xn one idR 0 [] kn' ogd fun x hx => by cases hx
          have aok : (Sn.ap idR 0 one).ok = true := by rw [Sn.ap_ok]; exact ook
          have awf := Sn.ap_wf one idR 0 owf
          have ahi : (Sn.ap idR 0 one).hi ≤ 16 := by rw [Sn.ap_hi]; exact ohi
          have asz : (Sn.ap idR 0 one).size ≤ 2000 := by rw [Sn.ap_size]; exact osz
          have sh3 := Sn.shaped hN (agd []) aok awf (fun x hx => by cases hx) (by omega)
          refine ⟨y, rfl, y, one, rfl, dy, ook, owf, ohi, by decide, by omega, fun Ga v3 sa da => ?_⟩
          refine ⟨v3, rfl, y, rfl, fun td ntd => ?_⟩
          have s1 : Same Ga (upd Ga td (.dK [])) := same_new (fun b o e => e) ntd _
          have etd : (upd Ga td (.dK [])) td = some (.dK []) := upd_same
          generalize upd Ga td (.dK []) = Gt at s1 etd
          refine ⟨(by show 1 ≤ sizeLine; decide), fun lc nlc => ?_⟩
          have s2 : Same Gt (upd Gt lc (.lst [.int 0])) := same_new (fun b o e => e) nlc _
          have elc : (upd Gt lc (.lst [.int 0])) lc = some (.lst [.int ((0 : Nat) : Int)]) := upd_same
          have sG2 := sa.trans (s1.trans s2)
          have etd2 := s2 _ _ etd
          generalize upd Gt lc (.lst [.int 0]) = Gl at s2 elc sG2 etd2
          refine ⟨y, td, lc, one, idR, 0, 0, rfl, dp_same sG2 dy, ook, owf, ohi, ⟨[], etd2, fun y => .inr ⟨rfl, rfl⟩, Nat.le_refl _⟩, by decide, by omega, elc, fun Gb vb bb eb db => ?_⟩
          have kb := lst_tk bb elc
          have d3b := sn_tk kb _ v3 awf (dp_same (s1.trans s2) da)
          have dyb := sn_tk kb _ y owf (dp_same sG2 dy)
          have nG : ∀ {c : Addr} {o : HO}, G c = some o → c ≠ lc := fun e z => by
            have := s1 _ _ (sa _ _ e)
            rw [z, nlc] at this
            cases this
          have Pb : Pn.Pen Gb p l ns cj := by
            obtain ⟨⟨a1, a2, a3, a4, a5⟩, a6⟩ := PG
            exact ⟨⟨a1, a2, a3, bb _ _ (nG a4) (sG2 _ _ a4), a5⟩, bb _ _ (nG a6) (sG2 _ _ a6)⟩
          have bAb : Pn.But p GA Gb := fun c o nc e => bb _ _ (nG (bG _ _ nc e)) (sG2 _ _ (bG _ _ nc e))
          have hOb := hOA.mono (pen_tk PA bAb)
          refine ⟨(Sn.ap idR 0 one).d, (Sn.ap idR 0 one).d, d3b, db, sh3, sh3, _, rfl, ?_⟩
          rw [eqv_one sh3]
          have om3 := one_mean (s2 := Sn.ap idR 0 one) (free_n (kn := []) (fun x hx => by cases hx) ogd) (fun x hx => by cases hx) ogd ook owf aok awf (agd _) (by omega) (by omega) (by omega) (fun M E => (Sn.mean_ap M one idR 0 E E [] ogd fun x hx => by cases hx).symm)
          refine iteF ⟨.ref p, rfl, .ref ra, rfl, y, rfl, v3, rfl, p, l, ra, y, v3, ns, cj, R, S, _, one, Sn.ap idR 0 one, rfl, Pb, by omega, by omega, hOb, gs, dyb, d3b, om3, fun Gc cc hcc Pc bc => ⟨_, rfl, iteF ?_⟩⟩
          have kc := pen_tk Pb bc
          have d3c := sn_tk kc _ v3 awf d3b
          have bAc := bAb.trans bc
          -- the great names
          have ebd := Sn.ap_bnd one idR 0
          have bl := Sn.bnd_len (Sn.ap idR 0 one)
          have qz := Sn.qs_size (Sn.ap idR 0 one)
          have lb : (Sn.ap idR 0 one).bnd.length = one.qs := by rw [ebd, List.length_map, List.length_range']
          refine ⟨v3, rfl, v3, Sn.ap idR 0 one, Gc, rfl, (fun b o e => e), d3c, aok, awf, ahi, by omega, fun Gd bp sd nbp ebp => ?_⟩
          refine ⟨v3, rfl, v3, Sn.ap idR 0 one, Gc, rfl, sd, d3c, aok, awf, ahi, by omega, fun Ge bp2 se nbp2 ebp2 => ?_⟩
          refine ⟨bp2, _, rfl, .inl (.inl (.inl ebp2)), _, rfl, by omega, by rw [List.length_map]; omega, fun D nD => ?_⟩
          have nlen : ((((Sn.ap idR 0 one).bnd.map V.str).length : Nat) : Int).toNat = one.qs := by
            rw [List.length_map, lb]
            omega
          refine lc_range (lo := 0) (n := ((((Sn.ap idR 0 one).bnd.map V.str).length : Nat) : Int).toNat) (fun k G5 => Same Ge G5 ∧ G5 D = some (.lst (((List.range' 1 k).map xn).map V.str))) ⟨same_new (fun b o e => e) nD _, upd_same⟩ ?_ ?_
          · rintro k G5 hk ⟨s5, gD⟩
            rw [nlen] at hk
            obtain ⟨t1, t2⟩ := num_text (n := k + 1) (by omega)
            have ek : (0 + (k : Int)) + 1 = ((k + 1 : Nat) : Int) := by omega
            refine ⟨rfl, _, rfl, _, _, rfl, rfl, ((k + 1 : Nat) : Int), by rw [← ek], t2, _, _, rfl, rfl, (by rw [sizeLine_eq]; show 1 + (Str.ofString (toString ((k + 1 : Nat) : Int))).length ≤ _; omega), _, gD, by rw [List.length_map, List.length_map, List.length_range', sizeLine_eq]; omega, same_on s5 nD _, ?_⟩
            rw [upd_same, List.range'_concat, List.map_append, List.map_append, show 1 + 1 * k = k + 1 by omega]
            rfl
          · rintro G5 ⟨s5, gD⟩
            rw [nlen] at gD
            have sd5 := sd.trans (se.trans s5)
            have e1 : (1 : Nat) = 0 + 1 := rfl
            refine ⟨.list ((Sn.ap idR 0 one).bnd.map .str), .list ((Sn.ap idR 0 one).bnd.map .str), .lst (.inl (.inl ((se.trans s5) _ _ ebp))) (strs_dp _), .lst (.inl (.inl (by rw [gD, ebd]))) (strs_dp _), strs_shaped ?_, strs_shaped ?_, _, rfl, ?_⟩
            · rw [ebd]
              intro x hx
              obtain ⟨m, _, rfl⟩ := List.mem_map.mp hx
              exact strOk_xn m
            · rw [ebd]
              intro x hx
              obtain ⟨m, _, rfl⟩ := List.mem_map.mp hx
              exact strOk_xn m
            · rw [eqv_one (strs_shaped (by
                rw [ebd]
                intro x hx
                obtain ⟨m, _, rfl⟩ := List.mem_map.mp hx
                exact strOk_xn m))]
              exact iteF ⟨_, _, cc, rfl, by omega, pen_same Pc sd5, bAc.trans (Pn.But.of sd5)⟩
        · rintro σ G ⟨v9, va, cj, rfl, hcj, PG, bG⟩
          exact ⟨_, _, _, _, _, _, _, v9, va, cj, rfl, by have : [v, v8].length = 2 := rfl; omega, PG⟩
    · rintro σ G ⟨v2, v3, v4, v5, v6, v7, v8, v9, va, c, rfl, hc, hP⟩
      exact q _
end
end Ad

/-! The head: what the top leaves, by one run. -/
namespace Ad
open PySem PySem.Spec PyProof.Rows L2 GxR
def dd (i : Nat) (x : Str) : He.DefD := ⟨(x, none), x, x, defArgs (topS i), defBody (topS i), defScope (topS i), [], []⟩
def ddO : He.DefD := ⟨("Structure", some "__init__"), "__init__", "Structure.__init__", defArgs sStInit, defBody sStInit, defScope sStInit, [], []⟩
def fnL : List He.DefD := [dd 1 "filled", dd 3 "kept", dd 7 "value_in", dd 9 "meaning", dd 10 "_meaning_for_each", dd 11 "plain", dd 12 "_then", dd 13 "inwards", dd 14 "_turned", dd 15 "apart", dd 16 "_apart", dd 18 "_law_pen", dd 19 "_law_draw", dd 20 "_law_pick", dd 21 "_law_drawn_order", dd 22 "_law_drawn_spoken", dd 23 "_law_drawn_sentence", dd 24 "_law_words", dd 25 "_law_spoken_words", dd 26 "_law_sames", dd 27 "_law_a_sentence", dd 28 "_law_drawn_tables", dd 29 "_law_many", dd 30 "_law_value", dd 31 "_law_with_value", dd 32 "_law_meaning", dd 33 "_law_value_rows", dd 34 "_law_great", dd 35 "_law_free", dd 36 "_law_once", dd 37 "_law_plain", dd 38 "_law_inwards", dd 39 "_law_swapped", dd 40 "_law_apart", dd 41 "_law_kinds", dd 42 "_law_bound", dd 43 "_law_stays", dd 44 "law", ddO]
def faL : List He.Fa := [.glo "filled", .glo "kept", .glo "value_in", .glo "meaning", .glo "_meaning_for_each", .glo "plain", .glo "_then", .glo "inwards", .glo "_turned", .glo "apart", .glo "_apart", .glo "_law_pen", .glo "_law_draw", .glo "_law_pick", .glo "_law_drawn_order", .glo "_law_drawn_spoken", .glo "_law_drawn_sentence", .glo "_law_words", .glo "_law_spoken_words", .glo "_law_sames", .glo "_law_a_sentence", .glo "_law_drawn_tables", .glo "_law_many", .glo "_law_value", .glo "_law_with_value", .glo "_law_meaning", .glo "_law_value_rows", .glo "_law_great", .glo "_law_free", .glo "_law_once", .glo "_law_plain", .glo "_law_inwards", .glo "_law_swapped", .glo "_law_apart", .glo "_law_kinds", .glo "_law_bound", .glo "_law_stays", .glo "law", .free "isinstance", .free "int", .free "bool", .free "list", .free "tuple", .free "len", .free "str", .free "range", .free "dict", .free "zip", .free "sum", .free "min", .free "max", .glo "Structure", .glo "YES", .cls "Structure", .mkr "Structure", .noat "Structure" "size", .noat "Structure" "tables"]
def tfL : List He.Defn := []
abbrev looseL : List PySem.Str := "filled" :: "kept" :: "YES" :: "Structure" :: "value_in" :: "meaning" :: "_meaning_for_each" :: "plain" :: "_then" :: "inwards" :: "_turned" :: "apart" :: "_apart" :: "_law_pen" :: "_law_draw" :: "_law_pick" :: "_law_drawn_order" :: "_law_drawn_spoken" :: "_law_drawn_sentence" :: "_law_words" :: "_law_spoken_words" :: "_law_sames" :: "_law_a_sentence" :: "_law_drawn_tables" :: "_law_many" :: "_law_value" :: "_law_with_value" :: "_law_meaning" :: "_law_value_rows" :: "_law_great" :: "_law_free" :: "_law_once" :: "_law_plain" :: "_law_inwards" :: "_law_swapped" :: "_law_apart" :: "_law_kinds" :: "_law_bound" :: "_law_stays" :: []
abbrev exL : PySem.W.Frag → Bool := fun K => He.tupB K "YES" [.str "yes"]
abbrev RL : PySem.W.OpenRow := PySem.W.OpenLaw.row PySem.Challenge.rw_downtoground_k26_whole_plain_forms
abbrev hkL : PySem.W.Hook := He.hookX 5 faL fnL [] tfL exL
def obL (s : PySem.W.SharedT) : He.AlX := He.obsX 5 faL fnL [] tfL exL (HandSHeadRun.getT s)
theorem obL_eq (s : PySem.W.SharedT) : obL s = hkL.obs s.abs := He.obsX_eq (HandSHeadRun.getT_eq s)
theorem runL (w : World) : HandSHeadRun.RunEq RL (PySem.W.view RL.prog [44]) hkL obL 6000 Ad.looseL w := by
  intro os
  kernel_rfl
end Ad

/-! What the head tells, put together. -/
namespace Ad
open PySem PySem.Spec PyProof.Rows L2 GxR
theorem fun_of {K : PySem.W.Frag} {x q : Str} {st : Stmt} {f : Addr} {fd : FuncData} (F : FunD K x q (defArgs st) (defBody st) (defScope st) [] [] f fd) : Fun K x q st f fd := by
  obtain ⟨oc, od, dV, kV, doc, pm, an, cdv, ct, osl, e, lk, code, dfl, _⟩ := F.ex
  rcases dfl with ⟨_, rfl⟩ | ⟨z, _⟩
  · exact ⟨⟨oc, od, kV, doc, pm, an, cdv, ct, osl, e, lk, code⟩, F.kp⟩
  · exact absurd rfl z
theorem funC_of {K : PySem.W.Frag} {x q : Str} {st : Stmt} {p : He.Defn} {fd : FuncData} (F : FunD K x q (defArgs st) (defBody st) (defScope st) [] [] (He.fAd K p) fd) : FunC K x q st (He.fAd K p) (.ref (He.codeOf K p)) fd := by
  obtain ⟨oc, od, dV, kV, doc, pm, an, cdv, ct, osl, e, lk, code, dfl, _⟩ := F.ex
  rcases dfl with ⟨_, rfl⟩ | ⟨z, _⟩
  · obtain ⟨c, rfl⟩ := He.codeIn_ref code
    have e2 : He.codeOf K p = c := He.codeOf_eq lk (by rw [e]; first | done | rfl)
    rw [e2]
    exact ⟨⟨oc, od, kV, doc, pm, an, ct, osl, e, lk, code⟩, F.kp⟩
  · exact absurd rfl z
section
variable {w : World} {K : PySem.W.Frag} {h : Heap} {mg : Str → Option Value} {f : Addr}
theorem facts (X : K.In h) (G : h.Ns mainGlobals mg) (hfa : mg ("law" : Str) = some (.ref f)) (c : He.SaysX faL fnL [] tfL exL w h K) : LawGAt PySem.Challenge.rw_downtoground_k26_whole_plain_forms w K CX0 104 63 "_law_script" mg f h := by
  have cd := c.t.d
  obtain ⟨d1, E1⟩ : ∃ fd, FunD K "filled" "filled" (defArgs (topS 1)) (defBody (topS 1)) (defScope (topS 1)) [] [] (He.fAd K ("filled", none)) fd := cd.def_ 0 (d := dd 1 "filled") rfl
  have F1 := fun_of E1
  have g1 : mg "filled" = some (.ref (He.fAd K ("filled", none))) := He.glo_ok X G (cd.fact 0 (f := .glo "filled") rfl)
  have b1 : Binds K d1 ["term", "table"] [] := (fun_of E1).binds fun _ _ _ _ _ _ us hl => match us, hl with | [_, _], _ => rfl
  obtain ⟨d3, E3⟩ : ∃ fd, FunD K "kept" "kept" (defArgs (topS 3)) (defBody (topS 3)) (defScope (topS 3)) [] [] (He.fAd K ("kept", none)) fd := cd.def_ 1 (d := dd 3 "kept") rfl
  have F3 := fun_of E3
  have g3 : mg "kept" = some (.ref (He.fAd K ("kept", none))) := He.glo_ok X G (cd.fact 1 (f := .glo "kept") rfl)
  have b3 : Binds K d3 ["value"] [] := (fun_of E3).binds fun _ _ _ _ _ _ us hl => match us, hl with | [_], _ => rfl
  obtain ⟨d7, E7⟩ : ∃ fd, FunD K "value_in" "value_in" (defArgs (topS 7)) (defBody (topS 7)) (defScope (topS 7)) [] [] (He.fAd K ("value_in", none)) fd := cd.def_ 2 (d := dd 7 "value_in") rfl
  have F7 := fun_of E7
  have g7 : mg "value_in" = some (.ref (He.fAd K ("value_in", none))) := He.glo_ok X G (cd.fact 2 (f := .glo "value_in") rfl)
  have b7 : Binds K d7 ["structure", "term", "values"] [] := (fun_of E7).binds fun _ _ _ _ _ _ us hl => match us, hl with | [_, _, _], _ => rfl
  obtain ⟨d9, E9⟩ : ∃ fd, FunD K "meaning" "meaning" (defArgs (topS 9)) (defBody (topS 9)) (defScope (topS 9)) [] [] (He.fAd K ("meaning", none)) fd := cd.def_ 3 (d := dd 9 "meaning") rfl
  have F9 := fun_of E9
  have g9 : mg "meaning" = some (.ref (He.fAd K ("meaning", none))) := He.glo_ok X G (cd.fact 3 (f := .glo "meaning") rfl)
  have b9 : Binds K d9 ["structure", "sentence", "values"] [] := (fun_of E9).binds fun _ _ _ _ _ _ us hl => match us, hl with | [_, _, _], _ => rfl
  obtain ⟨d10, E10⟩ : ∃ fd, FunD K "_meaning_for_each" "_meaning_for_each" (defArgs (topS 10)) (defBody (topS 10)) (defScope (topS 10)) [] [] (He.fAd K ("_meaning_for_each", none)) fd := cd.def_ 4 (d := dd 10 "_meaning_for_each") rfl
  have F10 := fun_of E10
  have g10 : mg "_meaning_for_each" = some (.ref (He.fAd K ("_meaning_for_each", none))) := He.glo_ok X G (cd.fact 4 (f := .glo "_meaning_for_each") rfl)
  have b10 : Binds K d10 ["structure", "sentence", "values"] [] := (fun_of E10).binds fun _ _ _ _ _ _ us hl => match us, hl with | [_, _, _], _ => rfl
  obtain ⟨d11, E11⟩ : ∃ fd, FunD K "plain" "plain" (defArgs (topS 11)) (defBody (topS 11)) (defScope (topS 11)) [] [] (He.fAd K ("plain", none)) fd := cd.def_ 5 (d := dd 11 "plain") rfl
  have F11 := fun_of E11
  have g11 : mg "plain" = some (.ref (He.fAd K ("plain", none))) := He.glo_ok X G (cd.fact 5 (f := .glo "plain") rfl)
  have b11 : Binds K d11 ["sentence"] [] := (fun_of E11).binds fun _ _ _ _ _ _ us hl => match us, hl with | [_], _ => rfl
  obtain ⟨d12, E12⟩ : ∃ fd, FunD K "_then" "_then" (defArgs (topS 12)) (defBody (topS 12)) (defScope (topS 12)) [] [] (He.fAd K ("_then", none)) fd := cd.def_ 6 (d := dd 12 "_then") rfl
  have F12 := fun_of E12
  have g12 : mg "_then" = some (.ref (He.fAd K ("_then", none))) := He.glo_ok X G (cd.fact 6 (f := .glo "_then") rfl)
  have b12 : Binds K d12 ["left", "right"] [] := (fun_of E12).binds fun _ _ _ _ _ _ us hl => match us, hl with | [_, _], _ => rfl
  obtain ⟨d13, E13⟩ : ∃ fd, FunD K "inwards" "inwards" (defArgs (topS 13)) (defBody (topS 13)) (defScope (topS 13)) [] [] (He.fAd K ("inwards", none)) fd := cd.def_ 7 (d := dd 13 "inwards") rfl
  have F13 := fun_of E13
  have g13 : mg "inwards" = some (.ref (He.fAd K ("inwards", none))) := He.glo_ok X G (cd.fact 7 (f := .glo "inwards") rfl)
  have b13 : Binds K d13 ["sentence"] [] := (fun_of E13).binds fun _ _ _ _ _ _ us hl => match us, hl with | [_], _ => rfl
  obtain ⟨d14, E14⟩ : ∃ fd, FunD K "_turned" "_turned" (defArgs (topS 14)) (defBody (topS 14)) (defScope (topS 14)) [] [] (He.fAd K ("_turned", none)) fd := cd.def_ 8 (d := dd 14 "_turned") rfl
  have F14 := fun_of E14
  have g14 : mg "_turned" = some (.ref (He.fAd K ("_turned", none))) := He.glo_ok X G (cd.fact 8 (f := .glo "_turned") rfl)
  have b14 : Binds K d14 ["sentence"] [] := (fun_of E14).binds fun _ _ _ _ _ _ us hl => match us, hl with | [_], _ => rfl
  obtain ⟨d15, E15⟩ : ∃ fd, FunD K "apart" "apart" (defArgs (topS 15)) (defBody (topS 15)) (defScope (topS 15)) [] [] (He.fAd K ("apart", none)) fd := cd.def_ 9 (d := dd 15 "apart") rfl
  have F15 := fun_of E15
  have g15 : mg "apart" = some (.ref (He.fAd K ("apart", none))) := He.glo_ok X G (cd.fact 9 (f := .glo "apart") rfl)
  have b15 : Binds K d15 ["sentence"] [] := (fun_of E15).binds fun _ _ _ _ _ _ us hl => match us, hl with | [_], _ => rfl
  obtain ⟨d16, E16⟩ : ∃ fd, FunD K "_apart" "_apart" (defArgs (topS 16)) (defBody (topS 16)) (defScope (topS 16)) [] [] (He.fAd K ("_apart", none)) fd := cd.def_ 10 (d := dd 16 "_apart") rfl
  have F16 := fun_of E16
  have g16 : mg "_apart" = some (.ref (He.fAd K ("_apart", none))) := He.glo_ok X G (cd.fact 10 (f := .glo "_apart") rfl)
  have b16 : Binds K d16 ["sentence", "table", "many"] [] := (fun_of E16).binds fun _ _ _ _ _ _ us hl => match us, hl with | [_, _, _], _ => rfl
  obtain ⟨d18, E18⟩ : ∃ fd, FunD K "_law_pen" "_law_pen" (defArgs (topS 18)) (defBody (topS 18)) (defScope (topS 18)) [] [] (He.fAd K ("_law_pen", none)) fd := cd.def_ 11 (d := dd 18 "_law_pen") rfl
  have F18 := fun_of E18
  have g18 : mg "_law_pen" = some (.ref (He.fAd K ("_law_pen", none))) := He.glo_ok X G (cd.fact 11 (f := .glo "_law_pen") rfl)
  have b18 : Binds K d18 ["_law_script"] [] := (fun_of E18).binds fun _ _ _ _ _ _ us hl => match us, hl with | [_], _ => rfl
  obtain ⟨d19, E19⟩ : ∃ fd, FunD K "_law_draw" "_law_draw" (defArgs (topS 19)) (defBody (topS 19)) (defScope (topS 19)) [] [] (He.fAd K ("_law_draw", none)) fd := cd.def_ 12 (d := dd 19 "_law_draw") rfl
  have F19 := fun_of E19
  have g19 : mg "_law_draw" = some (.ref (He.fAd K ("_law_draw", none))) := He.glo_ok X G (cd.fact 12 (f := .glo "_law_draw") rfl)
  have b19 : Binds K d19 ["_law_pen_here", "_law_many_here"] [] := (fun_of E19).binds fun _ _ _ _ _ _ us hl => match us, hl with | [_, _], _ => rfl
  obtain ⟨d20, E20⟩ : ∃ fd, FunD K "_law_pick" "_law_pick" (defArgs (topS 20)) (defBody (topS 20)) (defScope (topS 20)) [] [] (He.fAd K ("_law_pick", none)) fd := cd.def_ 13 (d := dd 20 "_law_pick") rfl
  have F20 := fun_of E20
  have g20 : mg "_law_pick" = some (.ref (He.fAd K ("_law_pick", none))) := He.glo_ok X G (cd.fact 13 (f := .glo "_law_pick") rfl)
  have b20 : Binds K d20 ["_law_pen_here", "_law_some"] [] := (fun_of E20).binds fun _ _ _ _ _ _ us hl => match us, hl with | [_, _], _ => rfl
  obtain ⟨d21, E21⟩ : ∃ fd, FunD K "_law_drawn_order" "_law_drawn_order" (defArgs (topS 21)) (defBody (topS 21)) (defScope (topS 21)) [] [] (He.fAd K ("_law_drawn_order", none)) fd := cd.def_ 14 (d := dd 21 "_law_drawn_order") rfl
  have F21 := fun_of E21
  have g21 : mg "_law_drawn_order" = some (.ref (He.fAd K ("_law_drawn_order", none))) := He.glo_ok X G (cd.fact 14 (f := .glo "_law_drawn_order") rfl)
  have b21 : Binds K d21 ["_law_pen_here"] [] := (fun_of E21).binds fun _ _ _ _ _ _ us hl => match us, hl with | [_], _ => rfl
  obtain ⟨d22, E22⟩ : ∃ fd, FunD K "_law_drawn_spoken" "_law_drawn_spoken" (defArgs (topS 22)) (defBody (topS 22)) (defScope (topS 22)) [] [] (He.fAd K ("_law_drawn_spoken", none)) fd := cd.def_ 15 (d := dd 22 "_law_drawn_spoken") rfl
  have F22 := fun_of E22
  have g22 : mg "_law_drawn_spoken" = some (.ref (He.fAd K ("_law_drawn_spoken", none))) := He.glo_ok X G (cd.fact 15 (f := .glo "_law_drawn_spoken") rfl)
  have b22 : Binds K d22 ["_law_pen_here", "_law_rows", "_law_deep", "_law_known"] [] := (fun_of E22).binds fun _ _ _ _ _ _ us hl => match us, hl with | [_, _, _, _], _ => rfl
  obtain ⟨d23, E23⟩ : ∃ fd, FunD K "_law_drawn_sentence" "_law_drawn_sentence" (defArgs (topS 23)) (defBody (topS 23)) (defScope (topS 23)) [] [] (He.fAd K ("_law_drawn_sentence", none)) fd := cd.def_ 16 (d := dd 23 "_law_drawn_sentence") rfl
  have F23 := fun_of E23
  have g23 : mg "_law_drawn_sentence" = some (.ref (He.fAd K ("_law_drawn_sentence", none))) := He.glo_ok X G (cd.fact 16 (f := .glo "_law_drawn_sentence") rfl)
  have b23 : Binds K d23 ["_law_pen_here", "_law_rows", "_law_deep", "_law_known"] [] := (fun_of E23).binds fun _ _ _ _ _ _ us hl => match us, hl with | [_, _, _, _], _ => rfl
  obtain ⟨d24, E24⟩ : ∃ fd, FunD K "_law_words" "_law_words" (defArgs (topS 24)) (defBody (topS 24)) (defScope (topS 24)) [] [] (He.fAd K ("_law_words", none)) fd := cd.def_ 17 (d := dd 24 "_law_words") rfl
  have F24 := fun_of E24
  have g24 : mg "_law_words" = some (.ref (He.fAd K ("_law_words", none))) := He.glo_ok X G (cd.fact 17 (f := .glo "_law_words") rfl)
  have b24 : Binds K d24 ["_law_sentence"] [] := (fun_of E24).binds fun _ _ _ _ _ _ us hl => match us, hl with | [_], _ => rfl
  obtain ⟨d25, E25⟩ : ∃ fd, FunD K "_law_spoken_words" "_law_spoken_words" (defArgs (topS 25)) (defBody (topS 25)) (defScope (topS 25)) [] [] (He.fAd K ("_law_spoken_words", none)) fd := cd.def_ 18 (d := dd 25 "_law_spoken_words") rfl
  have F25 := fun_of E25
  have g25 : mg "_law_spoken_words" = some (.ref (He.fAd K ("_law_spoken_words", none))) := He.glo_ok X G (cd.fact 18 (f := .glo "_law_spoken_words") rfl)
  have b25 : Binds K d25 ["_law_term"] [] := (fun_of E25).binds fun _ _ _ _ _ _ us hl => match us, hl with | [_], _ => rfl
  obtain ⟨d26, E26⟩ : ∃ fd, FunD K "_law_sames" "_law_sames" (defArgs (topS 26)) (defBody (topS 26)) (defScope (topS 26)) [] [] (He.fAd K ("_law_sames", none)) fd := cd.def_ 19 (d := dd 26 "_law_sames") rfl
  have F26 := fun_of E26
  have g26 : mg "_law_sames" = some (.ref (He.fAd K ("_law_sames", none))) := He.glo_ok X G (cd.fact 19 (f := .glo "_law_sames") rfl)
  have b26 : Binds K d26 ["_law_sentence"] [] := (fun_of E26).binds fun _ _ _ _ _ _ us hl => match us, hl with | [_], _ => rfl
  obtain ⟨d27, E27⟩ : ∃ fd, FunD K "_law_a_sentence" "_law_a_sentence" (defArgs (topS 27)) (defBody (topS 27)) (defScope (topS 27)) [] [] (He.fAd K ("_law_a_sentence", none)) fd := cd.def_ 20 (d := dd 27 "_law_a_sentence") rfl
  have F27 := fun_of E27
  have g27 : mg "_law_a_sentence" = some (.ref (He.fAd K ("_law_a_sentence", none))) := He.glo_ok X G (cd.fact 20 (f := .glo "_law_a_sentence") rfl)
  have b27 : Binds K d27 ["_law_pen_here", "_law_rows", "_law_known"] [] := (fun_of E27).binds fun _ _ _ _ _ _ us hl => match us, hl with | [_, _, _], _ => rfl
  obtain ⟨d28, E28⟩ : ∃ fd, FunD K "_law_drawn_tables" "_law_drawn_tables" (defArgs (topS 28)) (defBody (topS 28)) (defScope (topS 28)) [] [] (He.fAd K ("_law_drawn_tables", none)) fd := cd.def_ 21 (d := dd 28 "_law_drawn_tables") rfl
  have F28 := fun_of E28
  have g28 : mg "_law_drawn_tables" = some (.ref (He.fAd K ("_law_drawn_tables", none))) := He.glo_ok X G (cd.fact 21 (f := .glo "_law_drawn_tables") rfl)
  have b28 : Binds K d28 ["_law_pen_here", "_law_rows", "_law_size"] [] := (fun_of E28).binds fun _ _ _ _ _ _ us hl => match us, hl with | [_, _, _], _ => rfl
  obtain ⟨d29, E29⟩ : ∃ fd, FunD K "_law_many" "_law_many" (defArgs (topS 29)) (defBody (topS 29)) (defScope (topS 29)) [] [] (He.fAd K ("_law_many", none)) fd := cd.def_ 22 (d := dd 29 "_law_many") rfl
  have F29 := fun_of E29
  have g29 : mg "_law_many" = some (.ref (He.fAd K ("_law_many", none))) := He.glo_ok X G (cd.fact 22 (f := .glo "_law_many") rfl)
  have b29 : Binds K d29 ["_law_size", "_law_arity"] [] := (fun_of E29).binds fun _ _ _ _ _ _ us hl => match us, hl with | [_, _], _ => rfl
  obtain ⟨d30, E30⟩ : ∃ fd, FunD K "_law_value" "_law_value" (defArgs (topS 30)) (defBody (topS 30)) (defScope (topS 30)) [] [] (He.fAd K ("_law_value", none)) fd := cd.def_ 23 (d := dd 30 "_law_value") rfl
  have F30 := fun_of E30
  have g30 : mg "_law_value" = some (.ref (He.fAd K ("_law_value", none))) := He.glo_ok X G (cd.fact 23 (f := .glo "_law_value") rfl)
  have b30 : Binds K d30 ["_law_size", "_law_tables", "_law_term", "_law_values"] [] := (fun_of E30).binds fun _ _ _ _ _ _ us hl => match us, hl with | [_, _, _, _], _ => rfl
  obtain ⟨d31, E31⟩ : ∃ fd, FunD K "_law_with_value" "_law_with_value" (defArgs (topS 31)) (defBody (topS 31)) (defScope (topS 31)) [] [] (He.fAd K ("_law_with_value", none)) fd := cd.def_ 24 (d := dd 31 "_law_with_value") rfl
  have F31 := fun_of E31
  have g31 : mg "_law_with_value" = some (.ref (He.fAd K ("_law_with_value", none))) := He.glo_ok X G (cd.fact 24 (f := .glo "_law_with_value") rfl)
  have b31 : Binds K d31 ["_law_values", "_law_name", "_law_value_here"] [] := (fun_of E31).binds fun _ _ _ _ _ _ us hl => match us, hl with | [_, _, _], _ => rfl
  obtain ⟨d32, E32⟩ : ∃ fd, FunD K "_law_meaning" "_law_meaning" (defArgs (topS 32)) (defBody (topS 32)) (defScope (topS 32)) [] [] (He.fAd K ("_law_meaning", none)) fd := cd.def_ 25 (d := dd 32 "_law_meaning") rfl
  have F32 := fun_of E32
  have g32 : mg "_law_meaning" = some (.ref (He.fAd K ("_law_meaning", none))) := He.glo_ok X G (cd.fact 25 (f := .glo "_law_meaning") rfl)
  have b32 : Binds K d32 ["_law_size", "_law_tables", "_law_sentence", "_law_values"] [] := (fun_of E32).binds fun _ _ _ _ _ _ us hl => match us, hl with | [_, _, _, _], _ => rfl
  obtain ⟨d33, E33⟩ : ∃ fd, FunD K "_law_value_rows" "_law_value_rows" (defArgs (topS 33)) (defBody (topS 33)) (defScope (topS 33)) [] [] (He.fAd K ("_law_value_rows", none)) fd := cd.def_ 26 (d := dd 33 "_law_value_rows") rfl
  have F33 := fun_of E33
  have g33 : mg "_law_value_rows" = some (.ref (He.fAd K ("_law_value_rows", none))) := He.glo_ok X G (cd.fact 26 (f := .glo "_law_value_rows") rfl)
  have b33 : Binds K d33 ["_law_size", "_law_many_here"] [] := (fun_of E33).binds fun _ _ _ _ _ _ us hl => match us, hl with | [_, _], _ => rfl
  obtain ⟨d34, E34⟩ : ∃ fd, FunD K "_law_great" "_law_great" (defArgs (topS 34)) (defBody (topS 34)) (defScope (topS 34)) [] [] (He.fAd K ("_law_great", none)) fd := cd.def_ 27 (d := dd 34 "_law_great") rfl
  have F34 := fun_of E34
  have g34 : mg "_law_great" = some (.ref (He.fAd K ("_law_great", none))) := He.glo_ok X G (cd.fact 27 (f := .glo "_law_great") rfl)
  have b34 : Binds K d34 ["_law_term"] [] := (fun_of E34).binds fun _ _ _ _ _ _ us hl => match us, hl with | [_], _ => rfl
  obtain ⟨d35, E35⟩ : ∃ fd, FunD K "_law_free" "_law_free" (defArgs (topS 35)) (defBody (topS 35)) (defScope (topS 35)) [] [] (He.fAd K ("_law_free", none)) fd := cd.def_ 28 (d := dd 35 "_law_free") rfl
  have F35 := fun_of E35
  have g35 : mg "_law_free" = some (.ref (He.fAd K ("_law_free", none))) := He.glo_ok X G (cd.fact 28 (f := .glo "_law_free") rfl)
  have b35 : Binds K d35 ["_law_sentence", "_law_bound_here"] [] := (fun_of E35).binds fun _ _ _ _ _ _ us hl => match us, hl with | [_, _], _ => rfl
  obtain ⟨d36, E36⟩ : ∃ fd, FunD K "_law_once" "_law_once" (defArgs (topS 36)) (defBody (topS 36)) (defScope (topS 36)) [] [] (He.fAd K ("_law_once", none)) fd := cd.def_ 29 (d := dd 36 "_law_once") rfl
  have F36 := fun_of E36
  have g36 : mg "_law_once" = some (.ref (He.fAd K ("_law_once", none))) := He.glo_ok X G (cd.fact 29 (f := .glo "_law_once") rfl)
  have b36 : Binds K d36 ["_law_some"] [] := (fun_of E36).binds fun _ _ _ _ _ _ us hl => match us, hl with | [_], _ => rfl
  obtain ⟨d37, E37⟩ : ∃ fd, FunD K "_law_plain" "_law_plain" (defArgs (topS 37)) (defBody (topS 37)) (defScope (topS 37)) [] [] (He.fAd K ("_law_plain", none)) fd := cd.def_ 30 (d := dd 37 "_law_plain") rfl
  have F37 := fun_of E37
  have g37 : mg "_law_plain" = some (.ref (He.fAd K ("_law_plain", none))) := He.glo_ok X G (cd.fact 30 (f := .glo "_law_plain") rfl)
  have b37 : Binds K d37 ["_law_sentence"] [] := (fun_of E37).binds fun _ _ _ _ _ _ us hl => match us, hl with | [_], _ => rfl
  obtain ⟨d38, E38⟩ : ∃ fd, FunD K "_law_inwards" "_law_inwards" (defArgs (topS 38)) (defBody (topS 38)) (defScope (topS 38)) [] [] (He.fAd K ("_law_inwards", none)) fd := cd.def_ 31 (d := dd 38 "_law_inwards") rfl
  have F38 := fun_of E38
  have g38 : mg "_law_inwards" = some (.ref (He.fAd K ("_law_inwards", none))) := He.glo_ok X G (cd.fact 31 (f := .glo "_law_inwards") rfl)
  have b38 : Binds K d38 ["_law_sentence", "_law_sign"] [] := (fun_of E38).binds fun _ _ _ _ _ _ us hl => match us, hl with | [_, _], _ => rfl
  obtain ⟨d39, E39⟩ : ∃ fd, FunD K "_law_swapped" "_law_swapped" (defArgs (topS 39)) (defBody (topS 39)) (defScope (topS 39)) [] [] (He.fAd K ("_law_swapped", none)) fd := cd.def_ 32 (d := dd 39 "_law_swapped") rfl
  have F39 := fun_of E39
  have g39 : mg "_law_swapped" = some (.ref (He.fAd K ("_law_swapped", none))) := He.glo_ok X G (cd.fact 32 (f := .glo "_law_swapped") rfl)
  have b39 : Binds K d39 ["_law_term", "_law_known"] [] := (fun_of E39).binds fun _ _ _ _ _ _ us hl => match us, hl with | [_, _], _ => rfl
  obtain ⟨d40, E40⟩ : ∃ fd, FunD K "_law_apart" "_law_apart" (defArgs (topS 40)) (defBody (topS 40)) (defScope (topS 40)) [] [] (He.fAd K ("_law_apart", none)) fd := cd.def_ 33 (d := dd 40 "_law_apart") rfl
  have F40 := fun_of E40
  have g40 : mg "_law_apart" = some (.ref (He.fAd K ("_law_apart", none))) := He.glo_ok X G (cd.fact 33 (f := .glo "_law_apart") rfl)
  have b40 : Binds K d40 ["_law_sentence", "_law_known", "_law_counter"] [] := (fun_of E40).binds fun _ _ _ _ _ _ us hl => match us, hl with | [_, _, _], _ => rfl
  obtain ⟨d41, E41⟩ : ∃ fd, FunD K "_law_kinds" "_law_kinds" (defArgs (topS 41)) (defBody (topS 41)) (defScope (topS 41)) [] [] (He.fAd K ("_law_kinds", none)) fd := cd.def_ 34 (d := dd 41 "_law_kinds") rfl
  have F41 := fun_of E41
  have g41 : mg "_law_kinds" = some (.ref (He.fAd K ("_law_kinds", none))) := He.glo_ok X G (cd.fact 34 (f := .glo "_law_kinds") rfl)
  have b41 : Binds K d41 ["_law_sentence", "_law_ahead"] [] := (fun_of E41).binds fun _ _ _ _ _ _ us hl => match us, hl with | [_, _], _ => rfl
  obtain ⟨d42, E42⟩ : ∃ fd, FunD K "_law_bound" "_law_bound" (defArgs (topS 42)) (defBody (topS 42)) (defScope (topS 42)) [] [] (He.fAd K ("_law_bound", none)) fd := cd.def_ 35 (d := dd 42 "_law_bound") rfl
  have F42 := fun_of E42
  have g42 : mg "_law_bound" = some (.ref (He.fAd K ("_law_bound", none))) := He.glo_ok X G (cd.fact 35 (f := .glo "_law_bound") rfl)
  have b42 : Binds K d42 ["_law_sentence"] [] := (fun_of E42).binds fun _ _ _ _ _ _ us hl => match us, hl with | [_], _ => rfl
  obtain ⟨d43, E43⟩ : ∃ fd, FunD K "_law_stays" "_law_stays" (defArgs (topS 43)) (defBody (topS 43)) (defScope (topS 43)) [] [] (He.fAd K ("_law_stays", none)) fd := cd.def_ 36 (d := dd 43 "_law_stays") rfl
  have F43 := fun_of E43
  have g43 : mg "_law_stays" = some (.ref (He.fAd K ("_law_stays", none))) := He.glo_ok X G (cd.fact 36 (f := .glo "_law_stays") rfl)
  have b43 : Binds K d43 ["_law_pen_here", "_law_rows", "_law_one", "_law_other"] [] := (fun_of E43).binds fun _ _ _ _ _ _ us hl => match us, hl with | [_, _, _, _], _ => rfl
  obtain ⟨d44, E44⟩ : ∃ fd, FunD K "law" "law" (defArgs (topS 44)) (defBody (topS 44)) (defScope (topS 44)) [] [] (He.fAd K ("law", none)) fd := cd.def_ 37 (d := dd 44 "law") rfl
  have F44 := fun_of E44
  have g44 : mg "law" = some (.ref (He.fAd K ("law", none))) := He.glo_ok X G (cd.fact 37 (f := .glo "law") rfl)
  have b44 : Binds K d44 ["_law_script"] [] := (fun_of E44).binds fun _ _ _ _ _ _ us hl => match us, hl with | [_], _ => rfl
  obtain ⟨dO, EO⟩ : ∃ fd, FunD K "__init__" "Structure.__init__" (defArgs sStInit) (defBody sStInit) (defScope sStInit) [] [] (He.fAd K ("Structure", some "__init__")) fd := cd.def_ 38 (d := ddO) rfl
  have FO := fun_of EO
  have bO : Binds K dO ["self", "size", "tables"] [] := (fun_of EO).binds fun _ _ _ _ _ _ us hl => match us, hl with | [_, _, _], _ => rfl
  have m_isinstance : mg "isinstance" = none := He.free_ok X G (cd.fact 38 (f := .free "isinstance") rfl)
  have m_int : mg "int" = none := He.free_ok X G (cd.fact 39 (f := .free "int") rfl)
  have m_bool : mg "bool" = none := He.free_ok X G (cd.fact 40 (f := .free "bool") rfl)
  have m_list : mg "list" = none := He.free_ok X G (cd.fact 41 (f := .free "list") rfl)
  have m_tuple : mg "tuple" = none := He.free_ok X G (cd.fact 42 (f := .free "tuple") rfl)
  have m_len : mg "len" = none := He.free_ok X G (cd.fact 43 (f := .free "len") rfl)
  have m_str : mg "str" = none := He.free_ok X G (cd.fact 44 (f := .free "str") rfl)
  have m_range : mg "range" = none := He.free_ok X G (cd.fact 45 (f := .free "range") rfl)
  have m_dict : mg "dict" = none := He.free_ok X G (cd.fact 46 (f := .free "dict") rfl)
  have m_zip : mg "zip" = none := He.free_ok X G (cd.fact 47 (f := .free "zip") rfl)
  have m_sum : mg "sum" = none := He.free_ok X G (cd.fact 48 (f := .free "sum") rfl)
  have m_min : mg "min" = none := He.free_ok X G (cd.fact 49 (f := .free "min") rfl)
  have m_max : mg "max" = none := He.free_ok X G (cd.fact 50 (f := .free "max") rfl)
  have gStructure : mg "Structure" = some (.ref (He.ga K "Structure")) := He.glo_ok X G (cd.fact 51 (f := .glo "Structure") rfl)
  have gYES : mg "YES" = some (.ref (He.ga K "YES")) := He.glo_ok X G (cd.fact 52 (f := .glo "YES") rfl)
  have cls : Cls K (He.ga K "Structure") := He.cls_ok (cd.fact 53 (f := .cls "Structure") rfl)
  have MO : L2.Mk K (He.ga K "Structure") (He.fAd K ("Structure", some "__init__")) := He.mkr_ok (cd.fact 54 (f := .mkr "Structure") rfl)
  have na1 : NoAttr K (He.ga K "Structure") "size" := He.noat_ok (cd.fact 55 (f := .noat "Structure" "size") rfl)
  have na2 : NoAttr K (He.ga K "Structure") "tables" := He.noat_ok (cd.fact 56 (f := .noat "Structure" "tables") rfl)
  have law0 : f = He.fAd K ("law", none) := by
    have e := hfa.symm.trans g44
    cases e
    rfl
  subst law0
  have hY : ∀ H : Hp, SqT K H (He.ga K "YES") [.str "yes"] := fun H => He.tupB_ok c.more H
  refine ⟨d44, [], spLaw K, ?_, ?_, ?_, ?_, ?_, ?_⟩
  · intro p hp
    cases hp
  · intro p hp
    cases hp
  · intro p hp
    cases hp
  · exact fun s v => FunD.bindsA (ps := ["_law_script"]) E44 (fun _ _ _ _ _ _ us hl => match us, hl with | [_], _ => rfl) s [v] rfl
  · intro H a ns few tabs seq
    exact ⟨a, ns, rfl, seq, few, fun _ => rfl⟩
  · intro base inB nsB tb
    have GDr : FnOk PySem.Challenge.rw_downtoground_k26_whole_plain_forms.prog w K mg base CX0 1 _ d19 ["_law_pen_here", "_law_many_here"] Pn.spDraw := Pn.ok_draw F19 m_int m_len
    have GPi : FnOk PySem.Challenge.rw_downtoground_k26_whole_plain_forms.prog w K mg base CX0 2 _ d20 ["_law_pen_here", "_law_some"] (Pn.spPick K) := Pn.ok_pick F20 GDr g19 F19.kp b19 m_len
    have GPt : FnOk PySem.Challenge.rw_downtoground_k26_whole_plain_forms.prog w K mg base CX0 2 _ d20 ["_law_pen_here", "_law_some"] (spPickT K) := ok_pickT F20 GDr g19 F19.kp b19 m_len
    have GPe : FnOk PySem.Challenge.rw_downtoground_k26_whole_plain_forms.prog w K mg base CX0 1 _ d18 ["_law_script"] (Pn.spPen K) := Pn.ok_pen (k := 0) F18 m_int m_list
    have GOr : FnOk PySem.Challenge.rw_downtoground_k26_whole_plain_forms.prog w K mg base CX0 3 _ d21 ["_law_pen_here"] (spOrder K) := ok_order F21 (GDr.mono (by decide : 1 ≤ 2)) g19 F19.kp b19 GPi g20 F20.kp b20 m_tuple m_range m_list m_len
    have GMa : FnOk PySem.Challenge.rw_downtoground_k26_whole_plain_forms.prog w K mg base CX0 1 _ d29 ["_law_size", "_law_arity"] spLMany := ok_lmany (k := 0) F29 m_range
    have GTa : FnOk PySem.Challenge.rw_downtoground_k26_whole_plain_forms.prog w K mg base CX0 2 _ d28 ["_law_pen_here", "_law_rows", "_law_size"] (spLTables K) := ok_ltables (k := 1) F28 ⟨GDr.mono (by decide), g19, F19.kp, b19⟩ ⟨GMa.mono (by decide), g29, F29.kp, b29⟩ m_range m_tuple
    have GSp : FnOk PySem.Challenge.rw_downtoground_k26_whole_plain_forms.prog w K mg base CX0 7 _ d22 ["_law_pen_here", "_law_rows", "_law_deep", "_law_known"] (spDrawnSp K 5) := ok_drawnsp (k := 2) F22 g22 b22 (GDr.mono (by decide : 1 ≤ 2)) g19 F19.kp b19 GPi g20 F20.kp b20 m_tuple m_range 5
    have GDs : FnOk PySem.Challenge.rw_downtoground_k26_whole_plain_forms.prog w K mg base CX0 12 _ d23 ["_law_pen_here", "_law_rows", "_law_deep", "_law_known"] (spDS K 5) := ok_ds (k := 7) F23 g23 b23 ⟨GDr.mono (by decide), g19, F19.kp, b19⟩ ⟨GPi.mono (by decide), g20, F20.kp, b20⟩ ⟨GPt.mono (by decide), g20, F20.kp, b20⟩ ⟨GSp.mono (by decide), g22, F22.kp, b22⟩ m_tuple m_range 5
    have GSw : FnOk PySem.Challenge.rw_downtoground_k26_whole_plain_forms.prog w K mg base CX0 60 _ d25 ["_law_term"] (spLSpW K 60) := (ok_lspw (k := 0) F25 g25 b25 m_isinstance m_str m_sum 60).mono (by decide)
    have GW5 : FnOk PySem.Challenge.rw_downtoground_k26_whole_plain_forms.prog w K mg base CX0 65 _ d24 ["_law_sentence"] (spLWords K 5) := ok_lwords (k := 60) F24 g24 b24 GSw g25 F25.kp b25 m_sum 5
    have GWo : FnOk PySem.Challenge.rw_downtoground_k26_whole_plain_forms.prog w K mg base CX0 76 _ d24 ["_law_sentence"] (spLWords K 16) := ok_lwords (k := 60) F24 g24 b24 GSw g25 F25.kp b25 m_sum 16
    have GSa : FnOk PySem.Challenge.rw_downtoground_k26_whole_plain_forms.prog w K mg base CX0 5 _ d26 ["_law_sentence"] (spLSames K 5) := (ok_lsames (k := 0) F26 g26 b26 m_max m_int 5).mono (by decide)
    have GAS : FnOk PySem.Challenge.rw_downtoground_k26_whole_plain_forms.prog w K mg base CX0 92 _ d27 ["_law_pen_here", "_law_rows", "_law_known"] (spLASent K) := ok_lasent (k := 91) F27 ⟨GDr.mono (by decide), g19, F19.kp, b19⟩ ⟨GDs.mono (by decide), g23, F23.kp, b23⟩ ⟨GW5.mono (by decide), g24, F24.kp, b24⟩ ⟨GSa.mono (by decide), g26, F26.kp, b26⟩ m_range
    have GLG : FnOk PySem.Challenge.rw_downtoground_k26_whole_plain_forms.prog w K mg base CX0 60 _ d34 ["_law_term"] (spLGreat K 60) := (ok_lgreat (k := 0) F34 g34 b34 m_isinstance m_str 60).mono (by decide)
    have GLF : FnOk PySem.Challenge.rw_downtoground_k26_whole_plain_forms.prog w K mg base CX0 76 _ d35 ["_law_sentence", "_law_bound_here"] (spLFree K 16) := ok_lfree (k := 60) F35 g35 b35 GLG g34 F34.kp b34 16
    have GLO : FnOk PySem.Challenge.rw_downtoground_k26_whole_plain_forms.prog w K mg base CX0 1 _ d36 ["_law_some"] (spLOnce K) := ok_lonce (k := 0) F36 m_tuple
    have GLR : FnOk PySem.Challenge.rw_downtoground_k26_whole_plain_forms.prog w K mg base CX0 1 _ d33 ["_law_size", "_law_many_here"] (spLRows K) := ok_lrows (k := 0) F33 m_range
    have GVi : FnOk PySem.Challenge.rw_downtoground_k26_whole_plain_forms.prog w K mg base CX0 60 _ d7 ["structure", "term", "values"] (spValIn K (He.ga K "Structure") 60) := (ok_valin (k := 0) F7 g7 b7 m_isinstance m_tuple gYES hY cls na1 na2 60).mono (by decide)
    have GMe : FnOk PySem.Challenge.rw_downtoground_k26_whole_plain_forms.prog w K mg base CX0 92 _ d9 ["structure", "sentence", "values"] (spMean K (He.ga K "Structure") 16) := ok_meaning (k := 60) F9 g9 b9 GVi g7 F7.kp b7 F10 g10 b10 m_dict m_range cls na1 16
    have GLV : FnOk PySem.Challenge.rw_downtoground_k26_whole_plain_forms.prog w K mg base CX0 60 _ d30 ["_law_size", "_law_tables", "_law_term", "_law_values"] (spLValue K 60) := (ok_lvalue (k := 0) F30 g30 b30 m_isinstance m_str m_int 60).mono (by decide)
    have GWV : FnOk PySem.Challenge.rw_downtoground_k26_whole_plain_forms.prog w K mg base CX0 1 _ d31 ["_law_values", "_law_name", "_law_value_here"] spLWithV := ok_lwithv (k := 0) F31 m_dict
    have GLM : FnOk PySem.Challenge.rw_downtoground_k26_whole_plain_forms.prog w K mg base CX0 76 _ d32 ["_law_size", "_law_tables", "_law_sentence", "_law_values"] (spLMean K 16) := ok_lmean (k := 60) F32 g32 b32 GLV g30 F30.kp b30 (GWV.mono (by decide)) g31 F31.kp b31 m_range m_min m_max 16
    have GKe : FnOk PySem.Challenge.rw_downtoground_k26_whole_plain_forms.prog w K mg base CX0 1 _ d3 ["value"] (spKept K) := ok_kept (k := 0) F3 m_isinstance m_list m_tuple
    have GO : FnOk PySem.Challenge.rw_downtoground_k26_whole_plain_forms.prog w K mg base CX0 2 _ dO ["self", "size", "tables"] (spStInit K (He.ga K "Structure")) := ok_stinit (k := 1) FO ⟨GKe.mono (by decide), g3, F3.kp, b3⟩ cls na1 na2
    have GSt : FnOk PySem.Challenge.rw_downtoground_k26_whole_plain_forms.prog w K mg base CX0 93 _ d43 ["_law_pen_here", "_law_rows", "_law_one", "_law_other"] (spLStays K 16) := ok_lstays (k := 91) (n := 16) F43 (by decide) ⟨GDr.mono (by decide), g19, F19.kp, b19⟩ ⟨GTa.mono (by decide), g28, F28.kp, b28⟩ ⟨GLF.mono (by decide), g35, F35.kp, b35⟩ ⟨GLO.mono (by decide), g36, F36.kp, b36⟩ ⟨GLR.mono (by decide), g33, F33.kp, b33⟩ ⟨GMe.mono (by decide), g9, F9.kp, b9⟩ ⟨GLM.mono (by decide), g32, F32.kp, b32⟩ MO (GO.mono (by decide)) gStructure bO m_range m_dict m_zip m_len
    have GTh : FnOk PySem.Challenge.rw_downtoground_k26_whole_plain_forms.prog w K mg base CX0 1 _ d12 ["left", "right"] (spThen K) := ok_then (k := 0) F12
    have GPl : FnOk PySem.Challenge.rw_downtoground_k26_whole_plain_forms.prog w K mg base CX0 6 _ d11 ["sentence"] (spPlain K 5) := ok_plain (k := 0) F11 g11 b11 GTh g12 F12.kp b12 m_tuple 5
    have GLP : FnOk PySem.Challenge.rw_downtoground_k26_whole_plain_forms.prog w K mg base CX0 5 _ d37 ["_law_sentence"] (spPlain K 5) := (ok_lplain (k := 0) F37 g37 b37 m_tuple 5).mono (by decide)
    have GIn : FnOk PySem.Challenge.rw_downtoground_k26_whole_plain_forms.prog w K mg base CX0 16 _ d13 ["sentence"] (spInw K true 16) := ((ok_inw (k := 0) F13 g13 b13 F14 g14 b14 16).1).mono (by decide)
    have GLI : FnOk PySem.Challenge.rw_downtoground_k26_whole_plain_forms.prog w K mg base CX0 16 _ d38 ["_law_sentence", "_law_sign"] (spLInw K 16) := (ok_linw (k := 0) F38 g38 b38 m_tuple 16).mono (by decide)
    have GFi : FnOk PySem.Challenge.rw_downtoground_k26_whole_plain_forms.prog w K mg base CX0 60 _ d1 ["term", "table"] (spFillD K 60) := (ok_filld (k := 0) F1 g1 b1 m_isinstance m_tuple 60).mono (by decide)
    have GA1 : FnOk PySem.Challenge.rw_downtoground_k26_whole_plain_forms.prog w K mg base CX0 76 _ d16 ["sentence", "table", "many"] (spAp K 16) := ok_ap (k := 60) F16 g16 b16 GFi g1 F1.kp b1 m_tuple m_str 16
    have GAp : FnOk PySem.Challenge.rw_downtoground_k26_whole_plain_forms.prog w K mg base CX0 77 _ d15 ["sentence"] (spApart K 16) := ok_apart (k := 76) (n := 16) F15 ⟨GA1.mono (by decide), g16, F16.kp, b16⟩
    have GLS : FnOk PySem.Challenge.rw_downtoground_k26_whole_plain_forms.prog w K mg base CX0 60 _ d39 ["_law_term", "_law_known"] (spFillD K 60) := (ok_lswap (k := 0) F39 g39 b39 m_isinstance m_str m_tuple 60).mono (by decide)
    have GWS : FnOk PySem.Challenge.rw_downtoground_k26_whole_plain_forms.prog w K mg base CX0 1 _ d31 ["_law_values", "_law_name", "_law_value_here"] spLWithS := ok_lwiths (k := 0) F31 m_dict
    have GLA : FnOk PySem.Challenge.rw_downtoground_k26_whole_plain_forms.prog w K mg base CX0 76 _ d40 ["_law_sentence", "_law_known", "_law_counter"] (spLApart K 16) := ok_lapart (k := 60) F40 g40 b40 GLS g39 F39.kp b39 (GWS.mono (by decide)) g31 F31.kp b31 m_tuple m_str 16
    have GLK : FnOk PySem.Challenge.rw_downtoground_k26_whole_plain_forms.prog w K mg base CX0 16 _ d41 ["_law_sentence", "_law_ahead"] (spLKinds K 16) := (ok_lkinds (k := 0) F41 g41 b41 16).mono (by decide)
    have GLB : FnOk PySem.Challenge.rw_downtoground_k26_whole_plain_forms.prog w K mg base CX0 16 _ d42 ["_law_sentence"] (spLBound K 16) := (ok_lbound (k := 0) F42 g42 b42 16).mono (by decide)
    exact FnG.of (ok_law (k := 102) F44 ⟨GPe.mono (by decide), g18, F18.kp, b18⟩ ⟨GPi.mono (by decide), g20, F20.kp, b20⟩ ⟨GOr.mono (by decide), g21, F21.kp, b21⟩ ⟨GAS.mono (by decide), g27, F27.kp, b27⟩ ⟨GPl.mono (by decide), g11, F11.kp, b11⟩ ⟨GLP.mono (by decide), g37, F37.kp, b37⟩ ⟨GSt.mono (by decide), g43, F43.kp, b43⟩ ⟨GLK.mono (by decide), g41, F41.kp, b41⟩ ⟨GSa.mono (by decide), g26, F26.kp, b26⟩ ⟨GWo.mono (by decide), g24, F24.kp, b24⟩ ⟨GIn.mono (by decide), g13, F13.kp, b13⟩ ⟨GLI.mono (by decide), g38, F38.kp, b38⟩ ⟨GLF.mono (by decide), g35, F35.kp, b35⟩ ⟨GAp.mono (by decide), g15, F15.kp, b15⟩ ⟨GLA.mono (by decide), g40, F40.kp, b40⟩ ⟨GLB.mono (by decide), g42, F42.kp, b42⟩ m_range m_len m_str)
end
end Ad

open PySem PySem.W PySem.Calls PyProof.Rows
theorem PySem.Challenge.cw_downtoground_k26_whole_plain_forms_holds : PySem.Challenge.rw_downtoground_k26_whole_plain_forms.Holds := by
  w_on
  o_law
  refine HandSHeadRun.head_any (r := OpenLaw.row PySem.Challenge.rw_downtoground_k26_whole_plain_forms) (q := view (OpenLaw.row PySem.Challenge.rw_downtoground_k26_whole_plain_forms).prog [44]) (H := Ad.hkL) (ob := Ad.obL) (M := 6000) (loose := Ad.looseL)
    (d := HandSHeadRun.topDef (OpenLaw.row PySem.Challenge.rw_downtoground_k26_whole_plain_forms).prog 44) (kwd := []) Ad.obL_eq (by kernel_rfl) (fun s => by kernel_rfl) Ad.runL (by kernel_rfl) (by kernel_rfl) (by kernel_rfl) (by rfl) (by first | assumption | decide +kernel) (by decide +kernel) ⟨rfl, rfl, rfl, rfl, rfl, by decide +kernel⟩ ?hw ?hc
  case hw => w_witness2
  case hc =>
    refine Ad.walkGT (l := PySem.Challenge.rw_downtoground_k26_whole_plain_forms) (n := 63) (k := 104) (x := "_law_script") (CX := fun _ => L2.CX0) rfl (by decide) (by kernel_rfl) ⟨rfl, by decide, by decide⟩ ?F (fun _ _ _ _ _ z => z)
    intro w mg fa h ⟨K, KX, c⟩ G named
    have e : (HandSHeadRun.topDef (OpenLaw.row PySem.Challenge.rw_downtoground_k26_whole_plain_forms).prog 44).name = ("law" : PySem.Str) := by kernel_rfl
    rw [e] at named
    exact ⟨K, KX, Ad.facts KX G named c⟩

