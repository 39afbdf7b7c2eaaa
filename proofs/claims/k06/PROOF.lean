import PyProof.Rows.All
import Wide.All
import OpenK.AllK
import Wide.FinOn
import HandS.ForMost
import HandS.More
import HandS.Style
import HandS.TupAny
import HandS.IsInst
import HandS.Codes
import HandS.Exc
import HandS.Ends
import PyProof.P3Eq
import PyProof.ReprReads
import PyProof.TupleIter
import HandS.GenList
import HandS.AnyAll
import PyProof.GenComp
import PyProof.TupleOfGen
import HandS.Conv
import HandS.WordsDict
import HandS.EndTab
import HandS.Head0
import HandS.Head1
import HandS.Head2
import HandS.HeadEnd
import HandS.HeadHook1
import HandS.HeadHook2
import HandS.HeadHook3
import HandS.HeadHook4
import PySem.Challenge.RW_downtoground_k06_whole_putting_in
set_option Elab.async false
set_option linter.all false
set_option maxRecDepth 100000
set_option maxHeartbeats 0
/-! A tuple's tail from behind: t[:0:-1]. -/
namespace Ad
open PySem PySem.Spec PySem.Calls PyProof.Rows L2
section
variable {prog : Program} {w : World} {A : Around} {E : Value → Shared → Prop} {s : Shared}
theorem adj_back {n : Nat} (h : 1 ≤ n) : Builtin.Slice.sliceAdjust none (some 0) (-1) (n : Int) = ((n : Int) - 1, 0) := by
  unfold Builtin.Slice.sliceAdjust
  have h1 : ((-1 : Int) < 0) := by decide
  have h0 : ¬ ((0 : Int) < 0) := by decide
  simp only [h1, h0, if_true, if_false]
  congr 1
  omega
theorem places_back (n : Nat) : Builtin.Slice.slicePlaces ((n : Int) - 1) 0 (-1) = n - 1 := by
  unfold Builtin.Slice.slicePlaces
  have h1 : ¬ ((-1 : Int) > 0) := by decide
  have h2 : (- (-1 : Int)) = 1 := by decide
  simp only [h1, if_false, h2, Int.ediv_one]
  split <;> omega
theorem pick_back (xs : Array Value) : ((List.range (xs.size - 1)).filterMap fun (k : Nat) => xs[(((xs.size : Int) - 1) + (k : Int) * (-1)).toNat]?).toArray = (xs.toList.drop 1).reverse.toArray := by
  congr 1
  obtain ⟨l⟩ := xs
  simp only [List.size_toArray]
  have key : ∀ m, m ≤ l.length - 1 → (List.range m).filterMap (fun (k : Nat) => (l.toArray)[(((l.length : Int) - 1) + (k : Int) * (-1)).toNat]?) = (l.drop (l.length - m)).reverse := by
    intro m
    induction m with
    | zero =>
      intro _
      rw [List.range_zero, List.filterMap_nil, Nat.sub_zero, List.drop_length, List.reverse_nil]
    | succ m ih =>
      intro hm
      rw [List.range_succ, List.filterMap_append, ih (by omega), List.filterMap_cons, List.filterMap_nil]
      have e : (((l.length : Int) - 1) + (m : Int) * (-1)).toNat = l.length - (m + 1) := by omega
      rw [e]
      have hlt : l.length - (m + 1) < l.length := by omega
      rw [List.getElem?_toArray, List.getElem?_eq_getElem hlt]
      have d : l.drop (l.length - (m + 1)) = l[l.length - (m + 1)] :: l.drop (l.length - m) := by
        rw [List.drop_eq_getElem_cons hlt]
        congr 2
        omega
      rw [d, List.reverse_cons]
  have k1 := key (l.length - 1) (Nat.le_refl _)
  rw [k1]
  by_cases h : l.length = 0
  · have : l = [] := List.length_eq_zero_iff.mp h
    subst this
    rfl
  · congr 2
    omega
theorem applied_back {sl : Addr} {vu vs : Value} {n : Nat} {Q : Int × Int × Nat → Shared → Prop} (here : s.heap.IsSliceOf sl .none vu vs) (pu : IsPart vu (some 0)) (ps : IsPart vs (some (-1))) (hn : 1 ≤ n)
    (h : Q ((n : Int) - 1, -1, n - 1) s) : wpAny (model prog w) A (Builtin.Slice.sliceApplied (.ref sl) (pure (n : Int))) Q E s := by
  obtain ⟨ob, at', _, dat⟩ := id here
  unfold Builtin.Slice.sliceApplied Builtin.Slice.sliceFields
  refine wpAny_bind (wpAny_bind ?_)
  refine wpAny_field at' dat (x := .none) rfl (wpAny_bind ?_)
  refine wpAny_field at' dat (x := vu) rfl (wpAny_bind ?_)
  refine wpAny_field at' dat (x := vs) rfl (wpAny_pure ?_)
  refine wpAny_bind (HT.slicePart_ ps ?_)
  show wpAny _ _ (if ((-1 : Int) == 0) = true then _ else _) _ _ s
  rw [if_neg (by decide)]
  refine wpAny_bind (slicePart_none (wpAny_bind ?_))
  refine HT.slicePart_ pu (wpAny_bind (wpAny_pure ?_))
  show wpAny _ _ (match Builtin.Slice.sliceAdjust none (some 0) (-1) (n : Int) with | (lo, hi) => pure (lo, (-1 : Int), Builtin.Slice.slicePlaces lo hi (-1))) _ _ s
  rw [adj_back hn]
  show wpAny _ _ (pure ((n : Int) - 1, (-1 : Int), Builtin.Slice.slicePlaces ((n : Int) - 1) 0 (-1))) _ _ s
  rw [places_back]
  exact wpAny_pure h
theorem item_back {t sl : Addr} {items : Array Value} {vu vs : Value} {Q : Value → Shared → Prop} (ht : IsTup s.heap t items) (here : s.heap.IsSliceOf sl .none vu vs) (pu : IsPart vu (some 0)) (ps : IsPart vs (some (-1))) (hn : 1 ≤ items.size)
    (h : Q (.ref s.heap.objs.size) { s with heap := s.heap.push { cls := .type "tuple", data := .seq (items.toList.drop 1).reverse.toArray } }) (hsz : items.size ≤ sizeLine) :
    wpAny (model prog w) A (getItem (.ref t) (.ref sl)) Q E s := by
  have fits : sizeOk (.seq (items.toList.drop 1).reverse.toArray) := by
    show (items.toList.drop 1).reverse.toArray.size ≤ sizeLine
    rw [List.size_toArray, List.length_reverse, List.length_drop, Array.length_toList]
    omega
  obtain ⟨ob, at', cl, _⟩ := id here
  have isSl : s.TypeIs (.ref sl) "slice" := ⟨ob, at', cl⟩
  unfold getItem
  try (with_reducible refine wpAny_holding ?_)
  first
    | refine wpAny_bind (wpAny_pure ?_)
    | skip
  refine wpAny_bind (wpAny_sequenceKey ht.typeIs (by decide) ?_)
  refine wpAny_bind (wpAny_callSpecial?_slot (name := Str.ofString "__getitem__") ht.typeIs slot_tuple_getitem ?_)
  refine wpAny_call_entry slot_tuple_getitem ht.typeIs entry_tuple_getitem ?_ (args_tuple_getitem _ _)
  show wpAny _ _ (Builtin.Tuple.tupleItemsOf (.ref t) >>= _) _ _ s
  refine wpAny_bind (tupleItemsOf_ ht (wpAny_bind (wpAny_typeOf isSl ?_)))
  rw [if_pos (by decide)]
  refine wpAny_bind (applied_back here pu ps hn ?_)
  have not1 : ¬ ((((items.size : Int) - 1) == 0 && (-1 : Int) == 1 && (items.size - 1) == items.size) = true) := by
    intro q
    rw [Bool.and_eq_true, Bool.and_eq_true] at q
    exact absurd q.1.2 (by decide)
  show wpAny _ _ (if (((items.size : Int) - 1) == 0 && (-1 : Int) == 1 && (items.size - 1) == items.size) = true then _ else _) _ _ s
  rw [if_neg not1]
  rw [pick_back]
  first
    | exact wpAny_bind (wpAny_bind (m := Builtin.Tuple.tupleExact _) (wpAny_newObj_type (wpAny_pure ⟨_, rfl, wpAny_pure h⟩) fits))
    | exact wpAny_bind (wpAny_bind (m := Builtin.Tuple.tupleExact _) (wpAny_newObj_type (wpAny_pure (wpAny_pure ⟨_, rfl, wpAny_pure h⟩)) fits))
    | exact wpAny_bind (m := Builtin.Tuple.tupleExact _) (wpAny_newObj_type (wpAny_bind (wpAny_pure (wpAny_pure ⟨_, rfl, wpAny_pure h⟩))) fits)
    | exact wpAny_bind (m := Builtin.Tuple.tupleExact _) (wpAny_newObj_type (wpAny_pure ⟨_, rfl, wpAny_pure h⟩) fits)
end
section
variable {X : Cx}
/-- t[:0:-1], t a tuple that is not empty -/
def tBack (K : PySem.W.Frag) (te : TE) : TE := fun σ H Q => te σ H fun x G => ∃ a xs, x = .ref a ∧ SqT K G a xs ∧ 1 ≤ xs.length ∧ ∀ p, G p = none → Q (.ref p) (upd G p (.tup (xs.drop 1).reverse))
theorem pe_back {e : Expr} {te : TE} {k k0 : Nat} {p0 p1 p2 p3 pos : Pos} (he : PE X e te) :
    PE X (.Subscript e (.Slice none (some (.Constant (.int 0) k0 p0)) (some (.UnaryOp .USub (.Constant (.int 1) k p1) p2)) p3) pos) (tBack X.K te) := by
  constructor
  intro pins s0 σ H Q J ask
  refine Subscript_ (thn (he.run pins s0 σ H _ J ask) fun v s1 back => ?_)
  obtain ⟨x, G, J1, rx, a, xs, rfl, hx, hne, q⟩ := back
  cases rx
  have up : PO X (some (.Constant (.int 0) k0 p0)) (tPart (tC (.int 0))) := po_some pe_int
  have st : PO X (some (.UnaryOp .USub (.Constant (.int 1) k p1) p2)) (tPart (tUn (rU fun i => .int (-i)) (tC (.int 1)))) := po_some (pe_un un_neg pe_int)
  refine wpAny_Slice (thn (po_none.run pins s1 σ G (fun o G2 => o = none ∧ G2 = G) J1 ⟨rfl, rfl⟩) fun vl s2 r2 => ?_)
  obtain ⟨l, G2, J2, pl, rfl, rfl⟩ := r2
  refine thn (up.run pins s2 σ G2 (fun o G3 => o = some 0 ∧ G3 = G2) J2 ⟨0, rfl, rfl, rfl⟩) fun vu s3 r3 => ?_
  obtain ⟨u, G3, J3, pu, rfl, rfl⟩ := r3
  refine thn (st.run pins s3 σ G3 (fun o G4 => o = some (-1) ∧ G4 = G3) J3 ⟨1, rfl, -1, rfl, rfl, rfl⟩) fun vs s4 r4 => ?_
  obtain ⟨o, G4, J4, ps, rfl, rfl⟩ := r4
  cases pl
  have J5 : Inv X pins σ G4 { s4 with heap := s4.heap.push { cls := .type "slice", data := .fields #[.none, vu, vs] } } := J4.kept (t' := s4.toks) fun b ob z => Heap.get?_push_of_some _ z
  obtain ⟨its, r, ht, hz⟩ := J5.tuple hx
  have len := r.length
  show wpAny (model X.prog X.w) X.A (subscriptTail e (.Slice none (some (.Constant (.int 0) k0 p0)) (some (.UnaryOp .USub (.Constant (.int 1) k p1) p2)) p3) (.ref a) (.ref s4.heap.objs.size)) (EP X pins σ Q) X.xe _
  refine tail_any (ops := [.ref a, .ref s4.heap.objs.size]) ht.typeIs slot_tuple_getitem.lookup ?_ (by with_unfolding_all rfl)
  refine item_back ht (Heap.IsSliceOf.new _ .none vu vs) pu ps (by rw [List.size_toArray]; omega) ?_ (by rw [List.size_toArray]; omega)
  refine ⟨.ref _, _, J5.laid (t' := s4.toks) (o := .tup (xs.drop 1).reverse) (fun b ob z => Heap.get?_push_of_some _ z) (Nat.le_refl _) ?_, rfl, q _ (J5.hok.fresh (Nat.le_refl _))⟩
  refine ⟨by rw [List.length_reverse, List.length_drop]; omega, _, (r.drop 1).reverse, IsTup.new _ _⟩
end
end Ad

/-! Defs that are called where no repr is under way; repr of data; the end of a law of such a def. -/
namespace Ad
open PySem PySem.Spec PySem.Calls PyProof.Rows L2
theorem deeper_guards {A : Around} {env : Env} (h : A.guards = some []) : (A.deeper env).guards = some [] := by
  first
    | exact h
    | (show (A.deeper env).guards = _; simp [Around.deeper, h])
    | (obtain ⟨a, b, c, d, e⟩ := A; cases h; rfl)
/-- a def's promise, kept wherever no repr is under way -/
structure FnG (P : Program) (w : World) (K : PySem.W.Frag) (mg : Str → Option Value) (base : Heap) (CX : CXT) (k : Nat) (f : Addr) (fd : FuncData) (ps : List Str) (sp : Sp) : Prop where
  len : ∀ vs H Q E, sp vs H Q E → vs.length = ps.length
  run : ∀ (A : Around) (outer : List Env) (s : Shared) (H : Hp) (args : Args) (us : List Value) (vs : List V) (Q : VK) (E : XK), A.guards = some [] → Room k A → Env0 P w K mg base A outer s H → BindsTo s fd args (ps.zip us) → Vals vs us → sp vs H Q E →
    codeAny (model P w) A (.call (.ref f) args) (CR CX outer P w H s Q E) s
/-- a def of the text, its code object told -/
structure FunC (K : PySem.W.Frag) (x qual : Str) (st : Stmt) (f : Addr) (cdv : Value) (fd : FuncData) : Prop where
  ex : ∃ (oc : Value) (od : Option Addr) (kV doc pm : Value) (an : Option Addr) (ct : Value) (osl : Array (Option Value)),
    fd = PySem.W.fnOf x qual (defArgs st) (defBody st) (defScope st) .none kV doc pm an cdv ct ∧ K.lookup f = some ⟨oc, od, .func fd, osl⟩ ∧ PySem.W.codeIn K cdv qual = true
  kp : PySem.W.keepIn K (.ref f) = true
theorem FunC.fun {K : PySem.W.Frag} {x qual : Str} {st : Stmt} {f : Addr} {cdv : Value} {fd : FuncData} (F : FunC K x qual st f cdv fd) : Fun K x qual st f fd := by
  obtain ⟨⟨oc, od, kV, doc, pm, an, ct, osl, h⟩, k⟩ := F
  exact ⟨⟨oc, od, kV, doc, pm, an, cdv, ct, osl, h⟩, k⟩
theorem fng_ofC {CX : CXT} {P : Program} {w : World} {K : PySem.W.Frag} {mg : Str → Option Value} {base : Heap} {k : Nat} {x qual : Str} {st : Stmt} {f : Addr} {cdv : Value} {fd : FuncData} {N ps : List Str} {sp : Sp} (F : FunC K x qual st f cdv fd) (S : FnScope N ps (defScope st))
    (len : ∀ vs H Q E, sp vs H Q E → vs.length = ps.length)
    (body : ∀ (A : Around) (outer : List Env) (s : Shared) (H : Hp) (vs : List V) (Q : VK) (E : XK), A.guards = some [] → Room k (A.deeper (envOfC qual (defScope st) s.heap.objs.size f cdv)) → sp vs H Q E →
      ∃ t, PSs (cxOf CX P w K mg base N qual (defScope st) f cdv A outer s H E) (defBody st) t ∧ t { nx := fun _ H' => Q .non H', rt := Q } (start N vs) H) : FnG P w K mg base CX (k + 1) f fd ps sp := by
  obtain ⟨oc, od, kV, doc, pm, an, ct, osl, rfl, look, code⟩ := F.ex
  constructor
  · exact len
  · intro A outer s H args us vs Q E gd room e0 binds rel asked
    have many := len _ _ _ _ asked
    have kin : K.In s.heap := e0.mod.kin.keeps fun b o e => (e0.bs b o e).1
    have lim : s.heap.NoLimit := e0.mod.nolimit.keeps fun b o e => (e0.bs b o e).1
    have kinds : ∀ y ∈ ps.zip us, (defScope st).names.lookup y.1 = some .local ∨ ((defScope st).names.lookup y.1 = some .cell ∧ ((cellsFrom (s.heap.objs.size + 1) (defScope st).names []).lookup y.1).isSome = true) := by
      rintro ⟨n, v⟩ hy
      rcases S.par n (List.of_mem_zip hy).1 with q | q
      · exact .inl q
      · exact .inr ⟨q, PySem.W.cellsFrom_some _ _ _ (.inl q)⟩
    refine codeAny_call_function room.depth (kin _ _ look) rfl S.co S.gen rfl (PySem.W.codeRec_of kin code) (binds _ _ _ _ ?_)
    refine wpAny_newFunctionEnv_cells S.kind kinds fun env he s1 ready => ?_
    subst he
    refine ⟨lim.keeps ready.toInCall.keep, codeAny_func ?_⟩
    obtain ⟨t, ht, hq⟩ := body A outer s H vs Q E gd (room.deeper _) asked
    have J : Inv (cxOf CX P w K mg base N qual (defScope st) f cdv A outer s H E) [] (start N vs) H s1 := inv_start S room.hd e0 many rel ready
    refine wpAny_mono (ht.run [] s1 (start N vs) H _ J hq) (fun fl s' hs => ?_) fun e s' hs => hs
    have fin : ∀ {σ' : L2.St} {H' : Hp} {v : V} {u : Value}, Inv (cxOf CX P w K mg base N qual (defScope st) f cdv A outer s H E) [] σ' H' s' → RelV v u → Q v H' → CE outer P w H s Q u s' := by
      intro σ' H' v u J' rv q
      exact ⟨v, H', J'.os, J'.bare, J'.base, J'.hok, rv, q⟩
    match fl, hs with
    | .ret u, ⟨v, σ', H', J', rv, q⟩ => exact fin J' rv q
    | .next, ⟨σ', H', J', q⟩ => exact fin (v := V.non) (u := Value.none) J' rfl q
    | .brk, ⟨_, _, _, q⟩ => exact False.elim q
    | .cont, ⟨_, _, _, q⟩ => exact False.elim q
theorem fng_of {CX : CXT} {P : Program} {w : World} {K : PySem.W.Frag} {mg : Str → Option Value} {base : Heap} {k : Nat} {x qual : Str} {st : Stmt} {f : Addr} {fd : FuncData} {N ps : List Str} {sp : Sp} (F : Fun K x qual st f fd) (S : FnScope N ps (defScope st))
    (len : ∀ vs H Q E, sp vs H Q E → vs.length = ps.length)
    (body : ∀ (cdv : Value) (A : Around) (outer : List Env) (s : Shared) (H : Hp) (vs : List V) (Q : VK) (E : XK), A.guards = some [] → Room k (A.deeper (envOfC qual (defScope st) s.heap.objs.size f cdv)) → sp vs H Q E →
      ∃ t, PSs (cxOf CX P w K mg base N qual (defScope st) f cdv A outer s H E) (defBody st) t ∧ t { nx := fun _ H' => Q .non H', rt := Q } (start N vs) H) : FnG P w K mg base CX (k + 1) f fd ps sp := by
  obtain ⟨⟨oc, od, kV, doc, pm, an, cdv, ct, osl, h⟩, kp⟩ := F
  exact fng_ofC (F := ⟨⟨oc, od, kV, doc, pm, an, ct, osl, h⟩, kp⟩) S len (body cdv)
/-- a def that keeps its promise everywhere -/
theorem FnG.of {CX : CXT} {P : Program} {w : World} {K : PySem.W.Frag} {mg : Str → Option Value} {base : Heap} {k : Nat} {f : Addr} {fd : FuncData} {ps : List Str} {sp : Sp} (F : FnOk P w K mg base CX k f fd ps sp) : FnG P w K mg base CX k f fd ps sp :=
  ⟨F.len, fun A outer s H args us vs Q E _ => F.run A outer s H args us vs Q E⟩
section
variable {X : Cx} {CX : CXT} {k : Nat} {f : Addr} {fd : FuncData} {ps : List Str} {sp : Sp} {E : XK} {x : Str} {p pos : Pos} {e : Expr} {es : List Expr} {t : TA}
/-- f(e, ..) of such a def, where no repr is under way -/
theorem pe_callG (F : FnG X.prog X.w X.K X.mg X.base CX k f fd ps sp) (gd : X.A.guards = some []) (hr : Room k X.A) (hg : Gl X x) (hm : X.mg x = some (.ref f)) (hk : PySem.W.keepIn X.K (.ref f) = true) (hb : Binds X.K fd ps []) (hx : Passes CX X E)
    (pa : PA X (e :: es) t) (hdb : (x == ("__debug__" : Str)) = false := by decide) (hst : starEach (e :: es) X.env = (false, eval e X.env) :: starEach es X.env := by rfl) (hpl : (backTo pos (starEach es X.env)).any (·.1) = false := by rfl) :
    PE X (.Call (.Name x p) (e :: es) [] pos) (tCall sp [] E t) := by
  constructor
  intro pins s σ H Q J ask
  refine wpAny_Call_Name_kw (ld_glob J hg hm ?_ hdb)
  refine PySem.W.callWith_K (h₀ := X.base) J.ok.mod.kin hk (thn (pa.run pos pins s σ H _ (J.tok _) ask) fun us s1 back => ?_) hst hpl
  obtain ⟨vs, G, J1, rel, q⟩ := back
  refine ⟨J1.kIn, ?_⟩
  have q' : sp vs G Q E := by
    have z : sp (vs ++ []) G Q E := q
    rw [List.append_nil] at z
    exact z
  have many : us.length = ps.length := by
    rw [← rel.length]
    exact F.len _ _ _ _ q'
  have b := hb s1 us J1.kIn (by rw [List.append_nil]; exact many)
  rw [List.append_nil] at b
  refine wpAny_call (codeAny_mono (F.run X.A X.stack s1 G ⟨us, []⟩ us vs Q E gd hr J1.env0 b rel q') fun r s' back => ?_)
  match r, back with
  | .error er, back => exact hx pins σ G s1 er s' J1 back
  | .ok (.ret u), back => exact J1.after back
  | .ok .next, back => exact False.elim back
  | .ok .brk, back => exact False.elim back
  | .ok .cont, back => exact False.elim back
/-- repr(x) of data, where no repr is under way -/
theorem call_reprD (gd : X.A.guards = some []) (hu : X.A.units + 64 < cLine) : CallR X (.builtin "repr") (fun xs H Q => ∃ (v : V) (d : PyData), xs = [v] ∧ Dp X.K H v d ∧ d.showable = true ∧ d.hasDict = false ∧ d.depth ≤ 60 ∧ d.shown.length ≤ sizeLine ∧ Q (.str d.shown) H) := by
  intro pins s σ H xs us Q J rel ask
  obtain ⟨v, d, rfl, hd, show', plain, deep, fits, q⟩ := ask
  match us, rel with
  | [u], .cons r .nil =>
    obtain ⟨as, reads⟩ := Dp.reads J d v u hd r
    cases reads with
    | none => exact P.repr_of_none ⟨.str _, H, J.tok _, ⟨_, rfl⟩, q⟩
    | bool b =>
      refine P.repr_of_bool ⟨.str _, H, J.tok _, ⟨_, rfl⟩, ?_⟩
      cases b <;> exact q
    | int i tk => exact P.repr_of_int (of_decide_eq_true show') ⟨.str _, H, J.tok _, ⟨_, rfl⟩, q⟩
    | str z tk => exact P.repr_of_str ⟨.str _, H, J.tok _, ⟨_, rfl⟩, q⟩ fits
    | list h1 h2 h3 h4 => exact repr_of_reads' (Reads.list h1 h2 h3 h4) show' (PyData.noDict_hsm plain) gd (by omega) (fun _ _ z => z) (fun h' u tk kp => ⟨.str _, H, J.kept (t' := tk) kp, ⟨_, rfl⟩, q⟩) fits
    | tuple h1 h2 h3 h4 => exact repr_of_reads' (Reads.tuple h1 h2 h3 h4) show' (PyData.noDict_hsm plain) gd (by omega) (fun _ _ z => z) (fun h' u tk kp => ⟨.str _, H, J.kept (t' := tk) kp, ⟨_, rfl⟩, q⟩) fits
    | dict h1 h2 h3 h4 h5 => cases plain
end
/-- the call of a law by such a def, from the state behind the top -/
theorem lawG {P : Program} {w : World} {K : PySem.W.Frag} {mg mb : Str → Option Value} {CX : CXT} {k : Nat} {fa a : Addr} {fd : FuncData} {x : Str} {sp : Sp} {s : Shared} {vs : List Value} {ns : List Int}
    (kin : K.In s.heap) (gl : s.heap.Ns mainGlobals mg) (bl : s.heap.Ns builtinsNs mb) (same : ∀ x : Str, x ≠ "__name__" → mb x = bootBuiltins x) (lim : s.heap.NoLimit) (gens : s.gens = #[])
    (at' : s.heap.get? a = some { cls := .type "list", data := .seq vs.toArray }) (nums : IntsAre vs ns) (few : ns.length ≤ sizeLine) (room : Room k callerA)
    (F : ∀ base : Heap, K.In base → base.Ns mainGlobals mg → FnG P w K mg base CX k fa fd [x] sp) (bind : ∀ (s : Shared) (u : Value), BindsTo s fd ⟨[u], []⟩ [(x, u)])
    (asked : ∀ H : Hp, Only H → SqL K H a (ns.map V.int) → sp [.ref a] H (fun v _ => v = .bl true) fun _ _ _ => False) (noExc : ∀ H e s', CX [] H s (fun _ _ _ => False) e s' → False) :
    codeAny (model P w) callerA (.call (.ref fa) ⟨[.ref a], []⟩) (fun r s' => r = .ok (.ret (.bool true)) ∧ OldK s.heap s'.heap ∧ s'.os = s.os ∧ AllBare s'.gens) s := by
  have rel := vals_ints nums
  have many := nums.length
  have from' : ∀ H : Hp, Only H → SqL K H a (ns.map V.int) → HOk P w H s.heap → (∀ b, H b ≠ none → b = a) → (H a ≠ none → K.lookup a = none) →
      codeAny (model P w) callerA (.call (.ref fa) ⟨[.ref a], []⟩) (fun r s' => r = .ok (.ret (.bool true)) ∧ OldK s.heap s'.heap ∧ s'.os = s.os ∧ AllBare s'.gens) s := by
    intro H only seq ok onlyA notK
    have hid : ∀ {b : Addr} {o : Obj}, s.heap.get? b = some o → H b = none → (hidT s.heap H).get? b = some o := by
      intro b o e n
      exact hidT_get e n
    have dict0 : ∀ {b : Addr} {o : Obj} {es : Array DictEntry} {ep : Nat}, s.heap.get? b = some o → o.data = .dict es ep → H b = none := by
      intro b o es ep e d
      cases q : H b with
      | none => rfl
      | some u =>
        obtain rfl : b = a := onlyA b (by rw [q]; exact Option.some_ne_none u)
        rw [at'] at e
        cases e
        exact nomatch (show Data.seq vs.toArray _ = Data.dict es ep from d)
    have ns' : ∀ {b : Addr} {m : Str → Option Value}, s.heap.Ns b m → (hidT s.heap H).Ns b m := by
      rintro b m ⟨o, es, ep, e, d, r⟩
      exact ⟨o, es, ep, hid e (dict0 e d), d, r⟩
    have kin' : K.In (hidT s.heap H) := by
      intro b o e
      refine hid (kin b o e) ?_
      cases q : H b with
      | none => rfl
      | some u =>
        obtain rfl : b = a := onlyA b (by rw [q]; exact Option.some_ne_none u)
        rw [notK (by rw [q]; exact Option.some_ne_none u)] at e
        cases e
    have mod : Mod K mg (hidT s.heap H) := by
      refine ⟨kin', ns' gl, ⟨mb, ns' bl, same⟩, ?_⟩
      obtain ⟨mc, h1, h2⟩ := lim
      exact ⟨mc, ns' h1, h2⟩
    have none' : ∀ {q : Prop} (b : Addr), b ∈ ([] : List Addr) → q := fun {q} b hb => absurd hb (by simp)
    have env : Env0 P w K mg (hidT s.heap H) callerA [] s H := ⟨rfl, mod, fun b o e => of_hidT e, Nat.le_of_eq (hidT_size _ _), trivial, fun b hb => none' b hb, ok, .of_eq gens⟩
    have run := (F _ kin' (ns' gl)).run callerA [] s H ⟨[.ref a], []⟩ [.ref a] [.ref a] _ _ rfl room env (bind s (.ref a)) (.cons rfl .nil) (asked H only seq)
    refine codeAny_mono run fun r s' back => ?_
    match r, back with
    | .error e, back => exact (noExc H e s' back).elim
    | .ok .next, back => exact False.elim back
    | .ok .brk, back => exact False.elim back
    | .ok .cont, back => exact False.elim back
    | .ok (.ret u), ⟨v, H', os, bare, un, ok', rv, (q : v = .bl true)⟩ =>
      subst q
      obtain rfl : u = Value.bool true := rv
      refine ⟨rfl, OldK.of_keep fun b o e => ?_, os, bare⟩
      cases q : H b with
      | none => exact un.keep b o e q (fun z => none' b z) (by simp)
      | some u =>
        rcases only b with z | ⟨ob, xs, z⟩
        · rw [q] at z
          cases z
        · obtain ⟨e1, _⟩ := ok b _ z
          obtain ⟨e2, _⟩ := ok' b _ (un.frzs b ob _ z)
          rw [e] at e1
          cases e1
          exact e2
  cases look : K.lookup a with
  | some o =>
    have e := kin a o look
    rw [at'] at e
    cases e
    refine from' (fun _ => none) (fun _ => .inl rfl) (.inr ⟨_, vs.toArray, _, look, rfl, rfl, rfl, ?_, by simpa using rel⟩) ?_ (fun b z => absurd rfl z) fun z => absurd rfl z
    · rw [List.size_toArray, many]
      exact few
    · intro b u z
      exact nomatch (show (none : Option HO) = some u from z)
  | none =>
    refine from' (fun b => if b = a then some (.frz { cls := .type "list", data := .seq vs.toArray } (.lst (ns.map V.int))) else none) (fun b => ?_) (.inl (.inr ⟨{ cls := .type "list", data := .seq vs.toArray }, if_pos rfl⟩)) (fun b u z => ?_) (fun b z => ?_) fun _ => look
    all_goals by_cases hb : b = a
    · exact .inr ⟨_, _, if_pos hb⟩
    · exact .inl (if_neg hb)
    · cases (if_pos hb).symm.trans z
      subst hb
      refine ⟨at', ?_, vs, _, rel, at'⟩
      rw [List.length_map]
      exact few
    · cases (if_neg hb).symm.trans z
    · exact hb
    · exact absurd (if_neg hb) z
/-- the head's goal from such a law's promise -/
theorem walkG {l : PySem.W.OpenLaw} {n k : Nat} {q : Program} {loose : List Str} {XP : (Str → Option Value) → Heap → Prop} {YP : World → Heap → Prop} {d : DefRec} {K : Params → PySem.W.Frag} {CX : World → CXT} {sp : World → Sp} {x : Str}
    (hn : l.most = some n) (hn2 : n ≤ sizeLine) (hdf : d.params.defaults = []) (room : Room k callerA) (hY : ∀ (w : World) (h : Heap), YP w h → (K w.params).In h)
    (F : ∀ (w : World) (mg : Str → Option Value) (fa : Addr) (h : Heap), (K w.params).In h → h.Ns mainGlobals mg → mg d.name = some (.ref fa) →
      ∃ fd : FuncData, (∀ (s : Shared) (u : Value), BindsTo s fd ⟨[u], []⟩ [(x, u)]) ∧ ∀ base : Heap, (K w.params).In base → base.Ns mainGlobals mg → FnG l.prog w (K w.params) mg base (CX w) k fa fd [x] (sp w))
    (asked : ∀ (w : World) (H : Hp) (a : Addr) (ns : List Int), ns.length ≤ n → Only H → SqL (K w.params) H a (ns.map V.int) → sp w [.ref a] H (fun v _ => v = .bl true) fun _ _ _ => False)
    (noExc : ∀ (w : World) (H : Hp) (s : Shared) (e : Value) (s' : Shared), CX w [] H s (fun _ _ _ => False) e s' → False) :
    PySem.W.WalkO q loose XP YP l.row.toRowW d [] (fun f vs => PySem.call f vs) := by
  refine Att.attach_call hn hdf ?_
  intro w s0 s1 mg mb fa o pm cd doc a vs ns G Y ho hd hcd hmg hobj nums short gens
  have kin := hY w _ Y
  obtain ⟨fd, binds, prom⟩ := F w mg fa _ kin G.T.g hmg
  exact lawG kin G.T.g G.T.b G.T.builtins G.T.nolimit gens hobj nums (Nat.le_trans short hn2) room prom binds (fun H only seq => asked w H a ns short only seq) fun H e s' => noExc w H s1 e s'
end Ad

/-! xs.extend(t) of a tuple. -/
namespace Ad
open PySem PySem.Spec PySem.Calls PyProof.Rows L2
section
variable {X : Cx}
/-- xs.extend(t), t a tuple that may carry more than its items -/
theorem ext_tuple (l : Addr) (items : Array Value) (n : Nat) (b : Addr) (zs : Array Value) (m : Nat) (dd : Option Addr) (sl : Array (Option Value)) (notLong : ¬(!items.isEmpty && Builtin.List.listTooLong (items.size + zs.size)) = true) (short : items.size ≤ sizeLine) (both : items.size + zs.size ≤ sizeLine + 1) :
    Meets (Builtin.«list.extend» ⟨[.ref l, .ref b], []⟩) (fun _ R s => s.heap.get? l = some { cls := .type "list", dict := none, data := .seq items n, slots := #[] } ∧ s.heap.get? b = some { cls := .type "tuple", dict := dd, data := .seq zs m, slots := sl } ∧
      R (.ok (.ret Value.none)) { s with heap := s.heap.update l (Obj.mapSeq fun x => x ++ zs), toks := s.toks }) :=
  .of_wp fun prog w A R s h => by
    obtain ⟨hp, g, d, tk, os⟩ := s
    obtain ⟨hl, hb, h⟩ := h
    have f1 := AutoSeq1.idx_int
    have f2 := AutoSeq1.sub_tuple_tuple
    have f3 := AutoSeq1.sub_list_list
    have f4 := AutoSeq1.sub_tuple_list
    have f5 := AutoSeq1.sub_list_tuple
    have size2 : (items ++ zs).size ≤ sizeLine + 1 := by rw [Array.size_append]; exact both
    wp_walk using (wpAny_updateSeq hl rfl (hz := short) (_hz' := size2)), AutoSeq1.wpAny_loadPart' hl, AutoSeq1.wpAny_loadPart' hb
    exact ⟨_, rfl, h⟩
/-- xs.extend(t), t a tuple -/
def rExtT (K : PySem.W.Frag) : V → List V → Hp → VK → Prop := fun x vs H Q => ∃ l b xs zs, x = .ref l ∧ vs = [.ref b] ∧ H l = some (.lst xs) ∧ SqT K H b zs ∧ xs.length + zs.length ≤ sizeLine ∧ Q .non (upd H l (.lst (xs ++ zs)))
theorem mt_extT : MtM X "list.extend" (rExtT X.K) := by
  intro pins s σ H x vs v us Q I rx rv h
  obtain ⟨l, b, xs, zs, rfl, rfl, hH, hB, hz, q⟩ := h
  cases rx
  obtain ⟨u, rfl, ru⟩ := rv.one
  cases ru
  obtain ⟨z, its, n, r, hl, e⟩ := I.lstM hH
  obtain ⟨its2, r2, ⟨⟨cls, dd, data, sl⟩, ho, hcl, n2, hd⟩, _⟩ := I.tuple hB
  simp only at hcl hd
  subst hcl hd
  have hl2 := r2.length
  have short : its.toArray.size + its2.toArray.size ≤ sizeLine := by rw [List.size_toArray, List.size_toArray]; omega
  have notLong : ¬ (!its.toArray.isEmpty && Builtin.List.listTooLong (its.toArray.size + its2.toArray.size)) = true := by
    rw [notLongL short, Bool.and_false]
    exact Bool.false_ne_true
  refine call_meets F.slot_list_extend ⟨_, e, rfl⟩ F.entry_list_extend (F.args_list_extend_2 _ _) (ext_tuple l its.toArray n b its2.toArray n2 dd sl notLong (by rw [List.size_toArray]; omega) (by omega)) ⟨e, ho, ?_⟩
  refine ⟨.non, _, I.lset (its' := its ++ its2) hH e (by simp) (r.append r2) ?_, rfl, q⟩
  rw [List.length_append]
  omega
end
end Ad

/-! Terms: a variable's number, or a name with arguments; where they stand. -/
namespace Ad
open PySem PySem.Spec PySem.Calls PyProof.Rows L2
/-- a name whose text is short -/
def nameOk (x : Str) : Bool := PyData.strOk x && decide ((PyData.shown (.str x)).length ≤ 10)
theorem nameOk_lay {x : Str} (h : nameOk x = true) : PyData.strOk x = true := (Bool.and_eq_true_iff.mp h).1
theorem nameOk_short {x : Str} (h : nameOk x = true) : (PyData.shown (.str x)).length ≤ 10 := of_decide_eq_true (Bool.and_eq_true_iff.mp h).2
inductive T where
  | v (i : Int)
  | f (x : Str) (ts : List T)
namespace T
mutual
def d : T → PyData
  | .v i => .int i
  | .f x ts => .tuple (.str x :: ds ts)
def ds : List T → List PyData
  | [] => []
  | t :: ts => d t :: ds ts
end
mutual
/-- all that stands in a term -/
def parts : T → List T
  | .v i => [.v i]
  | .f x ts => .f x ts :: partsL ts
def partsL : List T → List T
  | [] => []
  | t :: ts => parts t ++ partsL ts
end
mutual
def size : T → Nat
  | .v _ => 1
  | .f _ ts => 1 + sizeL ts
def sizeL : List T → Nat
  | [] => 0
  | t :: ts => size t + sizeL ts
end
mutual
def dep : T → Nat
  | .v _ => 0
  | .f _ ts => 1 + depL ts
def depL : List T → Nat
  | [] => 0
  | t :: ts => max (dep t) (depL ts)
end
mutual
/-- the variables, as often as they stand there -/
def vars : T → List Int
  | .v i => [i]
  | .f _ ts => varsL ts
def varsL : List T → List Int
  | [] => []
  | t :: ts => vars t ++ varsL ts
end
mutual
/-- all names can be laid -/
def named : T → Bool
  | .v _ => true
  | .f x ts => nameOk x && namedL ts
def namedL : List T → Bool
  | [] => true
  | t :: ts => named t && namedL ts
end
mutual
theorem parts_len : ∀ t : T, t.parts.length = t.size
  | .v _ => rfl
  | .f x ts => by
    show (partsL ts).length + 1 = 1 + sizeL ts
    rw [partsL_len ts]
    omega
theorem partsL_len : ∀ ts : List T, (partsL ts).length = sizeL ts
  | [] => rfl
  | t :: ts => by
    show (parts t ++ partsL ts).length = size t + sizeL ts
    rw [List.length_append, parts_len t, partsL_len ts]
end
theorem size_pos : ∀ t : T, 1 ≤ t.size
  | .v _ => Nat.le_refl _
  | .f _ _ => Nat.le_add_right _ _
mutual
theorem dep_size : ∀ t : T, t.dep ≤ t.size
  | .v _ => Nat.zero_le _
  | .f x ts => by
    show 1 + depL ts ≤ 1 + sizeL ts
    have h := depL_size ts
    omega
theorem depL_size : ∀ ts : List T, depL ts ≤ sizeL ts
  | [] => Nat.le_refl _
  | t :: ts => by
    show max (dep t) (depL ts) ≤ size t + sizeL ts
    have h1 := dep_size t
    have h2 := depL_size ts
    omega
end
mutual
theorem d_depth : ∀ t : T, t.d.depth = t.dep
  | .v _ => rfl
  | .f x ts => by
    show max 0 (PyData.depthAll (ds ts)) + 1 = 1 + depL ts
    rw [ds_depth ts]
    omega
theorem ds_depth : ∀ ts : List T, PyData.depthAll (ds ts) = depL ts
  | [] => rfl
  | t :: ts => by
    show max (PyData.depth (d t)) (PyData.depthAll (ds ts)) = max (dep t) (depL ts)
    rw [d_depth t, ds_depth ts]
end
mutual
theorem d_lay : ∀ t : T, t.named = true → t.d.canLay0 = true
  | .v _, _ => rfl
  | .f x ts, h => by
    have h' : (nameOk x && namedL ts) = true := h
    rw [Bool.and_eq_true] at h'
    show (PyData.strOk x && PyData.canLayAll0 (ds ts)) = true
    rw [nameOk_lay h'.1, ds_lay ts h'.2]
    rfl
theorem ds_lay : ∀ ts : List T, namedL ts = true → PyData.canLayAll0 (ds ts) = true
  | [], _ => rfl
  | t :: ts, h => by
    have h' : (named t && namedL ts) = true := h
    rw [Bool.and_eq_true] at h'
    show (PyData.canLay0 (d t) && PyData.canLayAll0 (ds ts)) = true
    rw [d_lay t h'.1, ds_lay ts h'.2]
    rfl
end
theorem shaped {t : T} (h : t.named = true) (small : t.dep ≤ 64) : SeqAt.shaped t.d = true := by
  unfold SeqAt.shaped
  rw [d_lay t h, d_depth t]
  exact decide_eq_true small
theorem ds_map : ∀ ts : List T, ds ts = ts.map d
  | [] => rfl
  | t :: ts => by
    show d t :: ds ts = _
    rw [ds_map ts]
    rfl
theorem partsL_append : ∀ (as bs : List T), partsL (as ++ bs) = partsL as ++ partsL bs
  | [], _ => rfl
  | t :: ts, bs => by
    show parts t ++ partsL (ts ++ bs) = parts t ++ partsL ts ++ partsL bs
    rw [partsL_append ts bs, List.append_assoc]
theorem sizeL_append : ∀ (as bs : List T), sizeL (as ++ bs) = sizeL as + sizeL bs
  | [], _ => (Nat.zero_add _).symm
  | t :: ts, bs => by
    show size t + sizeL (ts ++ bs) = size t + sizeL ts + sizeL bs
    rw [sizeL_append ts bs, Nat.add_assoc]
theorem sizeL_reverse : ∀ ts : List T, sizeL ts.reverse = sizeL ts
  | [] => rfl
  | t :: ts => by
    rw [List.reverse_cons, sizeL_append, sizeL_reverse ts]
    show sizeL ts + (size t + 0) = size t + sizeL ts
    omega
theorem size_mem {t : T} {ts : List T} (h : t ∈ ts) : t.size ≤ sizeL ts := by
  induction ts with
  | nil => cases h
  | cons u us ih =>
    show t.size ≤ size u + sizeL us
    rcases List.mem_cons.mp h with e | e
    · rw [e]; omega
    · have := ih e; omega
theorem len_sizeL : ∀ ts : List T, ts.length ≤ sizeL ts
  | [] => Nat.le_refl _
  | t :: ts => by
    show ts.length + 1 ≤ size t + sizeL ts
    have h1 := size_pos t
    have h2 := len_sizeL ts
    omega
theorem dep_mem {t : T} {ts : List T} (h : t ∈ ts) : t.dep ≤ depL ts := by
  induction ts with
  | nil => cases h
  | cons u us ih =>
    show t.dep ≤ max (dep u) (depL us)
    rcases List.mem_cons.mp h with e | e
    · rw [e]; omega
    · have := ih e; omega
theorem named_mem {t : T} {ts : List T} (h : t ∈ ts) (n : namedL ts = true) : t.named = true := by
  induction ts with
  | nil => cases h
  | cons u us ih =>
    have n' : (named u && namedL us) = true := n
    rw [Bool.and_eq_true] at n'
    rcases List.mem_cons.mp h with e | e
    · rw [e]; exact n'.1
    · exact ih e n'.2
end T
/-- tuples stay -/
def TK (H H' : Hp) : Prop := ∀ b xs, (H b = some (.tup xs) → H' b = some (.tup xs)) ∧ (∀ o, H b = some (.frz o (.tup xs)) → H' b = some (.frz o (.tup xs)))
theorem TK.refl (H : Hp) : TK H H := fun _ _ => ⟨id, fun _ => id⟩
theorem TK.trans {H H1 H2 : Hp} (a : TK H H1) (b : TK H1 H2) : TK H H2 := fun c xs => ⟨fun e => (b c xs).1 ((a c xs).1 e), fun o e => (b c xs).2 o ((a c xs).2 o e)⟩
theorem TK.same {H H' : Hp} (s : Same H H') : TK H H' := fun b _ => ⟨s b _, fun _ => s b _⟩
theorem TK.lst {H : Hp} {p : Addr} {ys : List V} (h : H p = some (.lst ys)) (o : HO) : TK H (upd H p o) := fun b xs => by
  refine ⟨fun e => ?_, fun u e => ?_⟩
  · have n : b ≠ p := fun z => by rw [z, h] at e; cases e
    rw [upd_ne n]; exact e
  · have n : b ≠ p := fun z => by rw [z, h] at e; cases e
    rw [upd_ne n]; exact e
theorem TK.new {H : Hp} {p : Addr} (h : H p = none) (o : HO) : TK H (upd H p o) := fun b xs => by
  refine ⟨fun e => ?_, fun u e => ?_⟩
  · have n : b ≠ p := fun z => by rw [z, h] at e; cases e
    rw [upd_ne n]; exact e
  · have n : b ≠ p := fun z => by rw [z, h] at e; cases e
    rw [upd_ne n]; exact e
section
variable {K : PySem.W.Frag} {H H' : Hp}
theorem TK.sq (k : TK H H') {a : Addr} {xs : List V} (h : SqT K H a xs) : SqT K H' a xs := by
  rcases h with (h | ⟨o, h⟩) | h
  · exact .inl (.inl ((k a xs).1 h))
  · exact .inl (.inr ⟨o, (k a xs).2 o h⟩)
  · exact .inr h
mutual
/-- a value is a term -/
def Tm (K : PySem.W.Frag) (H : Hp) : T → V → Prop
  | .v i, x => x = .int i
  | .f n ts, x => ∃ a xs, x = .ref a ∧ SqT K H a (.str n :: xs) ∧ Tms K H ts xs
def Tms (K : PySem.W.Frag) (H : Hp) : List T → List V → Prop
  | [], xs => xs = []
  | t :: ts, xs => ∃ y ys, xs = y :: ys ∧ Tm K H t y ∧ Tms K H ts ys
end
mutual
theorem Tm.mono (k : TK H H') : ∀ (t : T) (x : V), Tm K H t x → Tm K H' t x
  | .v _, _, h => h
  | .f n ts, x, h => by
    obtain ⟨a, xs, e, sq, all⟩ := h
    exact ⟨a, xs, e, k.sq sq, Tms.mono k ts xs all⟩
theorem Tms.mono (k : TK H H') : ∀ (ts : List T) (xs : List V), Tms K H ts xs → Tms K H' ts xs
  | [], _, h => h
  | t :: ts, xs, h => by
    obtain ⟨y, ys, e, one, all⟩ := h
    exact ⟨y, ys, e, Tm.mono k t y one, Tms.mono k ts ys all⟩
end
mutual
theorem Tm.dp : ∀ (t : T) (x : V), Tm K H t x → Dp K H x t.d
  | .v i, x, h => by
    cases (show x = .int i from h)
    exact .int i
  | .f n ts, x, h => by
    obtain ⟨a, xs, rfl, sq, all⟩ := h
    exact .tup sq (.cons (.str n) (Tms.dp ts xs all))
theorem Tms.dp : ∀ (ts : List T) (xs : List V), Tms K H ts xs → DpAll K H xs (T.ds ts)
  | [], xs, h => by
    cases (show xs = [] from h)
    exact .nil
  | t :: ts, xs, h => by
    obtain ⟨y, ys, rfl, one, all⟩ := h
    exact .cons (Tm.dp t y one) (Tms.dp ts ys all)
end
theorem Tms.len : ∀ {ts : List T} {xs : List V}, Tms K H ts xs → xs.length = ts.length
  | [], xs, h => by
    cases (show xs = [] from h)
    rfl
  | t :: ts, xs, h => by
    obtain ⟨y, ys, rfl, _, all⟩ := h
    rw [List.length_cons, List.length_cons, Tms.len all]
theorem Tms.app : ∀ {as : List T} {xs : List V} {bs : List T} {ys : List V}, Tms K H as xs → Tms K H bs ys → Tms K H (as ++ bs) (xs ++ ys)
  | [], xs, _, _, h, k => by
    cases (show xs = [] from h)
    exact k
  | t :: ts, xs, _, _, h, k => by
    obtain ⟨y, zs, rfl, one, all⟩ := h
    exact ⟨y, _, rfl, one, Tms.app all k⟩
theorem Tms.one {t : T} {x : V} (h : Tm K H t x) : Tms K H [t] [x] := ⟨x, [], rfl, h, rfl⟩
theorem Tms.rev : ∀ {ts : List T} {xs : List V}, Tms K H ts xs → Tms K H ts.reverse xs.reverse
  | [], xs, h => by
    cases (show xs = [] from h)
    exact rfl
  | t :: ts, xs, h => by
    obtain ⟨y, ys, rfl, one, all⟩ := h
    rw [List.reverse_cons, List.reverse_cons]
    exact Tms.app (Tms.rev all) (Tms.one one)
theorem Tms.get : ∀ {ts : List T} {xs : List V} {i : Nat} {x : V}, Tms K H ts xs → xs[i]? = some x → ∃ t, ts[i]? = some t ∧ Tm K H t x
  | [], xs, i, x, h, e => by
    cases (show xs = [] from h)
    cases e
  | t :: ts, xs, i, x, h, e => by
    obtain ⟨y, ys, rfl, one, all⟩ := h
    cases i with
    | zero =>
      cases e
      exact ⟨t, rfl, one⟩
    | succ i => exact Tms.get (ts := ts) (xs := ys) (i := i) all e
theorem Tms.get' : ∀ {ts : List T} {xs : List V} {i : Nat} {t : T}, Tms K H ts xs → ts[i]? = some t → ∃ x, xs[i]? = some x ∧ Tm K H t x
  | [], xs, i, x, h, e => by cases e
  | t :: ts, xs, i, x, h, e => by
    obtain ⟨y, ys, rfl, one, all⟩ := h
    cases i with
    | zero =>
      cases e
      exact ⟨y, rfl, one⟩
    | succ i => exact Tms.get' (ts := ts) (xs := ys) (i := i) all e
/-- the last of them -/
theorem Tms.last : ∀ {ts : List T} {xs : List V}, Tms K H ts xs → ts ≠ [] → ∃ us u ys y, ts = us ++ [u] ∧ xs = ys ++ [y] ∧ Tms K H us ys ∧ Tm K H u y
  | [], _, _, n => absurd rfl n
  | [t], xs, h, _ => by
    obtain ⟨y, ys, rfl, one, all⟩ := h
    cases (show ys = [] from all)
    exact ⟨[], t, [], y, rfl, rfl, rfl, one⟩
  | t :: u :: ts, xs, h, _ => by
    obtain ⟨y, ys, rfl, one, all⟩ := h
    obtain ⟨us, w, zs, z, e1, e2, a, b⟩ := Tms.last (ts := u :: ts) all (by simp)
    exact ⟨t :: us, w, y :: zs, z, by rw [e1]; rfl, by rw [e2]; rfl, ⟨y, zs, rfl, one, a⟩, b⟩
end
end Ad

/-! What stands in a term. -/
namespace Ad
open PySem PySem.Spec PySem.Calls PyProof.Rows L2
theorem sq_ty {K : PySem.W.Frag} {H : Hp} {a : Addr} {xs : List V} (h : SqT K H a xs) : TyX K H (.ref a) (.type "tuple") := by
  rcases h with (h | ⟨o, h⟩) | h
  · exact .base (.tup h)
  · exact .fTuple h
  · obtain ⟨o, _, _, e, c, _⟩ := h
    exact .kTuple e c
theorem tm_tuple {K : PySem.W.Frag} {H : Hp} {n : Str} {ts : List T} {x : V} (h : Tm K H (.f n ts) x) : TyX K H x (.type "tuple") := by
  obtain ⟨a, xs, rfl, sq, _⟩ := h
  exact sq_ty sq
theorem kitTT {K : PySem.W.Frag} : PySem.W.kitOne K (.type "tuple") (.type "tuple") = some true := kit_ty (by decide +kernel)
theorem kitIT {K : PySem.W.Frag} : PySem.W.kitOne K (.type "int") (.type "tuple") = some false := kit_ty (by decide +kernel)
theorem kitTI {K : PySem.W.Frag} : PySem.W.kitOne K (.type "tuple") (.type "int") = some false := kit_ty (by decide +kernel)
theorem kitII {K : PySem.W.Frag} : PySem.W.kitOne K (.type "int") (.type "int") = some true := kit_ty (by decide +kernel)
def lenAt (H : Hp) (p : Addr) : Nat := match H p with
  | some (.lst xs) => xs.length
  | _ => 0
theorem lenAt_of {H : Hp} {p : Addr} {xs : List V} (h : H p = some (.lst xs)) : lenAt H p = xs.length := by
  unfold lenAt
  rw [h]
theorem same_on {H H' : Hp} {p : Addr} (s : Same H H') (n : H p = none) (o : HO) : Same H (upd H' p o) := fun b u e => by
  rw [upd_ne (ne_of_none e n)]
  exact s b u e
/-- the truth of a value, as a test -/
def tTrue (K : PySem.W.Frag) (te : TE) : TT := fun σ H Q => te σ H fun x G => ∃ b, TruV K x G b ∧ Q b G
theorem pt_true {X : Cx} {e : Expr} {te : TE} (he : PE X e te) (plain : ∀ whole, isTrue e X.env whole = (do let v ← whole; standAt e.pos; holding [v] (truthy v)) := by intro _; rfl) : PT X e (tTrue X.K te) := pt_truth he plain
/-- a while by a word and a measure -/
theorem while_m {c : TT} {tb : TS} {D : Ends} {σ : L2.St} {H : Hp} (Pv : L2.St → Hp → Prop) (μ : L2.St → Hp → Nat) (start : Pv σ H)
    (turn : ∀ σ H, Pv σ H → c σ H fun b G => if b = true then tb { D with nx := fun σ' H' => Pv σ' H' ∧ μ σ' H' < μ σ H, ct := fun σ' H' => Pv σ' H' ∧ μ σ' H' < μ σ H, bk := D.nx } σ G else D.nx σ G) (mono : ∀ σ H Q Q', (∀ b G, Q b G → Q' b G) → c σ H Q → c σ H Q') :
    ∃ W : Nat → L2.St → Hp → Prop, (∃ m, W m σ H) ∧ ∀ m σ H, W m σ H → c σ H fun b G => if b = true then ∃ N : L2.St → Hp → Prop, (∀ σ' H', N σ' H' → ∃ m', m' < m ∧ W m' σ' H') ∧ tb { D with nx := N, ct := N, bk := D.nx } σ G else D.nx σ G :=
  while_by Pv μ start turn mono
theorem mono_true {K : PySem.W.Frag} {te : TE} (m : ∀ σ H (Q Q' : VK), (∀ v G, Q v G → Q' v G) → te σ H Q → te σ H Q') : ∀ σ H (Q Q' : Bool → Hp → Prop), (∀ b G, Q b G → Q' b G) → tTrue K te σ H Q → tTrue K te σ H Q' := fun σ H Q Q' imp h => m σ H _ _ (fun v G ⟨b, t, q⟩ => ⟨b, t, imp _ _ q⟩) h
theorem mono_var {i : Nat} : ∀ σ H (Q Q' : VK), (∀ v G, Q v G → Q' v G) → tVar i σ H Q → tVar i σ H Q' := fun _ _ _ _ imp ⟨v, e, q⟩ => ⟨v, e, imp _ _ q⟩
end Ad

/-! Paths; places_of. -/
namespace Ad
open PySem PySem.Spec PySem.Calls PyProof.Rows L2
/-- two lists, item by item -/
def F2 {α β : Type} (R : α → β → Prop) : List α → List β → Prop
  | [], ys => ys = []
  | x :: xs, ys => ∃ y zs, ys = y :: zs ∧ R x y ∧ F2 R xs zs
section
variable {α β : Type} {R S : α → β → Prop}
theorem F2.mono (imp : ∀ a b, R a b → S a b) : ∀ {xs : List α} {ys : List β}, F2 R xs ys → F2 S xs ys
  | [], _, h => h
  | x :: xs, _, h => by
    obtain ⟨y, zs, rfl, r, t⟩ := h
    exact ⟨y, zs, rfl, imp _ _ r, F2.mono imp t⟩
theorem F2.len : ∀ {xs : List α} {ys : List β}, F2 R xs ys → ys.length = xs.length
  | [], ys, h => by
    cases (show ys = [] from h)
    rfl
  | x :: xs, _, h => by
    obtain ⟨y, zs, rfl, r, t⟩ := h
    rw [List.length_cons, List.length_cons, F2.len t]
theorem F2.app : ∀ {xs xs' : List α} {ys ys' : List β}, F2 R xs ys → F2 R xs' ys' → F2 R (xs ++ xs') (ys ++ ys')
  | [], _, ys, _, h, k => by
    cases (show ys = [] from h)
    exact k
  | x :: xs, _, _, _, h, k => by
    obtain ⟨y, zs, rfl, r, t⟩ := h
    exact ⟨y, _, rfl, r, F2.app t k⟩
theorem F2.one {a : α} {b : β} (h : R a b) : F2 R [a] [b] := ⟨b, [], rfl, h, rfl⟩
theorem F2.last : ∀ {xs : List α} {ys : List β}, F2 R xs ys → xs ≠ [] → ∃ us u zs z, xs = us ++ [u] ∧ ys = zs ++ [z] ∧ F2 R us zs ∧ R u z
  | [], _, _, n => absurd rfl n
  | [x], ys, h, _ => by
    obtain ⟨y, zs, rfl, r, t⟩ := h
    cases (show zs = [] from t)
    exact ⟨[], x, [], y, rfl, rfl, rfl, r⟩
  | x :: x2 :: xs, ys, h, _ => by
    obtain ⟨y, zs, rfl, r, t⟩ := h
    obtain ⟨us, u, qs, q, e1, e2, a, b⟩ := F2.last (xs := x2 :: xs) t (by simp)
    exact ⟨x :: us, u, y :: qs, q, by rw [e1]; rfl, by rw [e2]; rfl, ⟨y, qs, rfl, r, a⟩, b⟩
theorem F2.get : ∀ {xs : List α} {ys : List β} {i : Nat} {y : β}, F2 R xs ys → ys[i]? = some y → ∃ x, xs[i]? = some x ∧ R x y
  | [], ys, i, y, h, e => by
    cases (show ys = [] from h)
    cases e
  | x :: xs, ys, i, y, h, e => by
    obtain ⟨z, zs, rfl, r, t⟩ := h
    cases i with
    | zero =>
      cases e
      exact ⟨x, rfl, r⟩
    | succ i => exact F2.get (xs := xs) (ys := zs) (i := i) t e
theorem F2.get' : ∀ {xs : List α} {ys : List β} {i : Nat} {x : α}, F2 R xs ys → xs[i]? = some x → ∃ y, ys[i]? = some y ∧ R x y
  | [], ys, i, x, h, e => by cases e
  | x :: xs, ys, i, y, h, e => by
    obtain ⟨z, zs, rfl, r, t⟩ := h
    cases i with
    | zero =>
      cases e
      exact ⟨z, rfl, r⟩
    | succ i => exact F2.get' (xs := xs) (ys := zs) (i := i) t e
theorem F2.mem : ∀ {xs : List α} {ys : List β} {y : β}, F2 R xs ys → y ∈ ys → ∃ x, x ∈ xs ∧ R x y := fun h m => by
  obtain ⟨i, hi, rfl⟩ := List.mem_iff_getElem.mp m
  obtain ⟨x, e, r⟩ := h.get (List.getElem?_eq_getElem hi)
  exact ⟨x, List.mem_of_getElem? e, r⟩
end
end Ad

/-! at, put_at. -/
namespace Ad
open PySem PySem.Spec PySem.Calls PyProof.Rows L2
def iD (ns : List Int) : PyData := .tuple (ns.map .int)
theorem int_lay : ∀ ns : List Int, PyData.canLayAll0 (ns.map .int) = true
  | [] => rfl
  | n :: ns => by
    show (true && PyData.canLayAll0 (ns.map .int)) = true
    rw [int_lay ns]
    rfl
theorem int_depth : ∀ ns : List Int, PyData.depthAll (ns.map .int) = 0
  | [] => rfl
  | n :: ns => by
    show max 0 (PyData.depthAll (ns.map .int)) = 0
    rw [int_depth ns]
    rfl
theorem iD_shaped (ns : List Int) : SeqAt.shaped (iD ns) = true := by
  unfold SeqAt.shaped
  have h1 : (iD ns).canLay0 = true := int_lay ns
  have h2 : (iD ns).depth = 1 := by
    show PyData.depthAll (ns.map .int) + 1 = 1
    rw [int_depth]
  rw [h1, h2]
  rfl
theorem ints_dp {K : PySem.W.Frag} {H : Hp} : ∀ ns : List Int, DpAll K H (ns.map V.int) (ns.map .int)
  | [] => .nil
  | n :: ns => .cons (.int n) (ints_dp ns)
theorem iD_dp {K : PySem.W.Frag} {H : Hp} {a : Addr} {ns : List Int} (h : SqT K H a (ns.map V.int)) : Dp K H (.ref a) (iD ns) := .tup h (ints_dp ns)
theorem iD_nil (ns : List Int) : PyData.eqv (iD ns) (iD []) = ns.isEmpty := by
  cases ns <;> first | rfl | (simp [iD, PyData.eqv, PyData.eqvAll])
theorem hu1 {k : Nat} {A : Around} (hr : Room k A) : A.units + 1 < cLine := by
  have := hr.un
  omega
theorem hu64 {k : Nat} {A : Around} (hr : Room k A) : A.units + 64 < cLine := by
  have := hr.un
  omega
section
variable {P : Program} {w : World} {K : PySem.W.Frag} {mg : Str → Option Value} {base : Heap}
theorem same_new {H H' : Hp} {p : Addr} (s : Same H H') (n : H' p = none) (o : HO) : Same H (upd H' p o) := fun b u e => by
  rw [upd_ne (ne_of_none (s b u e) n)]
  exact s b u e
theorem vac {k : Nat} {f : Addr} {fd : FuncData} {ps : List Str} {sp : Sp} (no : ∀ vs H Q E, ¬ sp vs H Q E) : FnOk P w K mg base CX0 k f fd ps sp :=
  ⟨fun vs H Q E h => absurd h (no vs H Q E), fun A outer s H args us vs Q E _ _ _ _ h => absurd h (no vs H Q E)⟩
end
end Ad

/-! The law's own going: is it a variable, size, variables. -/
namespace Ad
open PySem PySem.Spec PySem.Calls PyProof.Rows L2
namespace T
mutual
theorem v_parts (j : Int) : ∀ t : T, .v j ∈ parts t ↔ j ∈ vars t
  | .v i => by
    show T.v j ∈ [T.v i] ↔ j ∈ [i]
    rw [List.mem_singleton, List.mem_singleton]
    exact ⟨fun e => T.v.inj e, fun e => congrArg T.v e⟩
  | .f x ts => by
    show T.v j ∈ T.f x ts :: partsL ts ↔ j ∈ varsL ts
    rw [List.mem_cons, ← v_partsL j ts]
    exact ⟨fun h => h.elim (fun e => nomatch e) id, .inr⟩
theorem v_partsL (j : Int) : ∀ ts : List T, .v j ∈ partsL ts ↔ j ∈ varsL ts
  | [] => ⟨(fun h => nomatch h), (fun h => nomatch h)⟩
  | t :: ts => by
    show T.v j ∈ parts t ++ partsL ts ↔ j ∈ vars t ++ varsL ts
    rw [List.mem_append, List.mem_append, v_parts j t, v_partsL j ts]
end
mutual
theorem vars_len : ∀ t : T, t.vars.length ≤ t.size
  | .v _ => Nat.le_refl _
  | .f x ts => by
    show (varsL ts).length ≤ 1 + sizeL ts
    have := varsL_len ts
    omega
theorem varsL_len : ∀ ts : List T, (varsL ts).length ≤ sizeL ts
  | [] => Nat.le_refl _
  | t :: ts => by
    show (vars t ++ varsL ts).length ≤ size t + sizeL ts
    have h1 := vars_len t
    have h2 := varsL_len ts
    rw [List.length_append]
    omega
end
end T
def T.isV : T → Bool
  | .v _ => true
  | .f _ _ => false
def spIsVar (K : PySem.W.Frag) : Sp := fun vs H Q _ => ∃ (t : T) (x : V), vs = [x] ∧ Tm K H t x ∧ Q (.bl t.isV) H
theorem cut_args {x : V} {xs : List V} : ¬ (HT.sIx (x :: xs).length 0 (some 1) = 0 ∧ HT.sIx (x :: xs).length (x :: xs).length none = (x :: xs).length) ∧ cutV (x :: xs) (some 1) none = xs := by
  have e2 : HT.sIx (x :: xs).length 0 (some ((1 : Nat) : Int)) = 1 := by
    rw [HT.sIx_nat, List.length_cons]
    omega
  have e3 : HT.sIx (x :: xs).length 0 (some 1) = 1 := e2
  constructor
  · rw [e3]
    omega
  · unfold cutV
    rw [e3, HT.sIx_none]
    show xs.take _ = _
    rw [List.take_of_length_le]
    rw [List.length_cons]
    omega
theorem sum_sizes : ∀ ts : List T, (ts.map fun t => (t.size : Int)).sum = (T.sizeL ts : Int)
  | [] => rfl
  | t :: ts => by
    rw [List.map_cons, List.sum_cons, sum_sizes ts]
    show (t.size : Int) + (T.sizeL ts : Int) = ((t.size + T.sizeL ts : Nat) : Int)
    omega
section
variable {P : Program} {w : World} {K : PySem.W.Frag} {mg : Str → Option Value} {base : Heap}
theorem T.varsL_append : ∀ (as bs : List T), T.varsL (as ++ bs) = T.varsL as ++ T.varsL bs
  | [], _ => rfl
  | t :: ts, bs => by
    show T.vars t ++ T.varsL (ts ++ bs) = T.vars t ++ T.varsL ts ++ T.varsL bs
    rw [T.varsL_append ts bs, List.append_assoc]
theorem T.varsL_take (ts : List T) (i : Nat) : (T.varsL (ts.take i)).length ≤ T.sizeL ts := by
  have h1 := T.varsL_len (ts.take i)
  have h2 := T.sizeL_append (ts.take i) (ts.drop i)
  rw [List.take_append_drop] at h2
  omega
end
end Ad

namespace Ad
open PySem PySem.Spec PySem.Calls PyProof.Rows L2
def topS (i : Nat) : Stmt := PySem.Challenge.pw_downtoground_k06_whole_putting_in.main.body.getD i (.Pass ⟨0, 0, 0, 0⟩)
end Ad

/-! The pen of a law: its cells, its draws, its picks. -/
namespace Pn
open PySem PySem.Spec PyProof.Rows L2
abbrev sPen : Stmt := Ad.topS 9
abbrev sDraw : Stmt := Ad.topS 10
abbrev sPick : Stmt := Ad.topS 11
theorem scPen : FnScope ["_law_script", "_law_fold", "_law_cell"] ["_law_script"] (defScope sPen) := ⟨rfl, rfl, rfl, by decide +kernel, rfl, by decide +kernel, by decide +kernel⟩
theorem scDraw : FnScope ["_law_pen_here", "_law_many", "_law_cell", "_law_digit", "_law_blend"] ["_law_pen_here", "_law_many"] (defScope sDraw) := ⟨rfl, rfl, rfl, by decide +kernel, rfl, by decide +kernel, by decide +kernel⟩
theorem scPick : FnScope ["_law_pen_here", "_law_some"] ["_law_pen_here", "_law_some"] (defScope sPick) := ⟨rfl, rfl, rfl, by decide +kernel, rfl, by decide +kernel, by decide +kernel⟩
/-! ### the pen's dict -/
abbrev kC : Key := .inr "cells"
abbrev kA : Key := .inr "at"
abbrev kD : Key := .inr "digits"
abbrev kN : Key := .inr "count"
abbrev kF : Key := .inr "fold"
theorem nCA : ¬ (kC = kA) := by decide +kernel
theorem nCD : ¬ (kC = kD) := by decide +kernel
theorem nCN : ¬ (kC = kN) := by decide +kernel
theorem nCF : ¬ (kC = kF) := by decide +kernel
theorem nAD : ¬ (kA = kD) := by decide +kernel
theorem nAN : ¬ (kA = kN) := by decide +kernel
theorem nAF : ¬ (kA = kF) := by decide +kernel
theorem nDN : ¬ (kD = kN) := by decide +kernel
theorem nDF : ¬ (kD = kF) := by decide +kernel
theorem nNF : ¬ (kN = kF) := by decide +kernel
def penK (l : Addr) (a d n f : Int) : List (Key × V) := [(kC, .ref l), (kA, .int a), (kD, .int d), (kN, .int n), (kF, .int f)]
section
variable (l : Addr) (a d n f x : Int)
theorem getC : valV (penK l a d n f) kC = some (.ref l) := valV_pos rfl
theorem getA : valV (penK l a d n f) kA = some (.int a) := by
  unfold penK; rw [valV_neg nCA, valV_pos rfl]
theorem getD : valV (penK l a d n f) kD = some (.int d) := by
  unfold penK; rw [valV_neg nCD, valV_neg nAD, valV_pos rfl]
theorem getN : valV (penK l a d n f) kN = some (.int n) := by
  unfold penK; rw [valV_neg nCN, valV_neg nAN, valV_neg nDN, valV_pos rfl]
theorem getF : valV (penK l a d n f) kF = some (.int f) := by
  unfold penK; rw [valV_neg nCF, valV_neg nAF, valV_neg nDF, valV_neg nNF, valV_pos rfl]
theorem put_is {kvs : List (Key × V)} {k : Key} {v : V} (h : valV kvs k = some v) (y : V) : putK kvs k y = kvs.map fun kv => if kv.1 = k then (kv.1, y) else kv := by
  unfold putK
  rw [valV_any, h]
  rfl
theorem putA : putK (penK l a d n f) kA (.int x) = penK l x d n f := by
  rw [put_is (getA l a d n f)]
  show [_, _, _, _, _] = _
  dsimp only
  rw [if_neg nCA, if_pos rfl, if_neg (Ne.symm nAD), if_neg (Ne.symm nAN), if_neg (Ne.symm nAF)]
  rfl
theorem putD : putK (penK l a d n f) kD (.int x) = penK l a x n f := by
  rw [put_is (getD l a d n f)]
  show [_, _, _, _, _] = _
  dsimp only
  rw [if_neg nCD, if_neg nAD, if_pos rfl, if_neg (Ne.symm nDN), if_neg (Ne.symm nDF)]
  rfl
theorem putN : putK (penK l a d n f) kN (.int x) = penK l a d x f := by
  rw [put_is (getN l a d n f)]
  show [_, _, _, _, _] = _
  dsimp only
  rw [if_neg nCN, if_neg nAN, if_neg nDN, if_pos rfl, if_neg (Ne.symm nNF)]
  rfl
theorem putF' : putK (penK l a d n f) kF (.int x) = penK l a d n x := by
  rw [put_is (getF l a d n f)]
  show [_, _, _, _, _] = _
  dsimp only
  rw [if_neg nCF, if_neg nAF, if_neg nDF, if_neg nNF, if_pos rfl]
  rfl
theorem merge_pen : mergeK [] [(kC, .ref l), (kA, .int a), (kD, .int d), (kN, .int n), (kF, .int f)] = penK l a d n f := by
  unfold mergeK penK
  simp only [List.foldl_cons, List.foldl_nil]
  rw [putK_new (kvs := []) (k := kC) _ rfl]
  rw [putK_new (k := kA) _ (by rw [List.nil_append, valV_neg nCA]; rfl)]
  rw [putK_new (k := kD) _ (by rw [List.nil_append, List.cons_append, valV_neg nCD, List.nil_append, valV_neg nAD]; rfl)]
  rw [putK_new (k := kN) _ (by simp only [List.nil_append, List.cons_append]; rw [valV_neg nCN, valV_neg nAN, valV_neg nDN]; rfl)]
  rw [putK_new (k := kF) _ (by simp only [List.nil_append, List.cons_append]; rw [valV_neg nCF, valV_neg nAF, valV_neg nDF, valV_neg nNF]; rfl)]
  rfl
end
/-- a pen stands at p, its cells at l, so many draws done -/
structure Pen (H : Hp) (p l : Addr) (ns : List Int) (c : Nat) : Prop where
  ex : ∃ (a : Nat) (d f : Int), H p = some (.dK (penK l (a : Int) d (c : Int) f)) ∧ a ≤ ns.length ∧ 0 ≤ d ∧ 0 ≤ f ∧ f < 2147483648
  ls : H l = some (.lst (ns.map V.int))
theorem pen_ne {H : Hp} {p l : Addr} {ns : List Int} {c : Nat} (h : Pen H p l ns c) : p ≠ l := by
  obtain ⟨⟨a, d, f, e, _⟩, q⟩ := h
  exact ne_of e q (by intro z; cases z)
/-- all but the pen's dict stays -/
def But (p : Addr) (H H' : Hp) : Prop := ∀ b o, b ≠ p → H b = some o → H' b = some o
theorem But.refl (p : Addr) (H : Hp) : But p H H := fun _ _ _ h => h
theorem But.trans {p : Addr} {H H1 H2 : Hp} (a : But p H H1) (b : But p H1 H2) : But p H H2 := fun c o n h => b c o n (a c o n h)
theorem But.upd {p : Addr} (H : Hp) (o : HO) : But p H (L2.upd H p o) := fun b u n h => by rw [upd_ne n]; exact h
theorem But.of {p : Addr} {H H' : Hp} (s : Same H H') : But p H H' := fun b o _ h => s b o h
theorem same_upd {H : Hp} {p : Addr} {o : HO} (h : H p = none) : Same H (L2.upd H p o) := fun b x e => by
  rw [upd_ne (ne_of_none e h)]
  exact e
section
variable {P : Program} {w : World} {K : PySem.W.Frag} {mg : Str → Option Value} {base : Heap}
def spPen (K : PySem.W.Frag) : Sp := fun vs H Q _ => ∃ (a : Addr) (ns : List Int), vs = [.ref a] ∧ SqL K H a (ns.map V.int) ∧ ns.length ≤ 63 ∧
  ∀ H' p l, Same H H' → H p = none → H l = none → Pen H' p l ns 0 → Q (.ref p) H'
theorem ok_pen {f : Addr} {fd : FuncData} {k : Nat} (F : Fun K "_law_pen" "_law_pen" sPen f fd) (mi : mg "int" = none) (ml : mg "list" = none) : FnOk P w K mg base CX0 (k + 1) f fd ["_law_script"] (spPen K) := by
  refine F.ok scPen (fun vs H Q E h => ?_) (fun cdv A outer s H vs Q E hr h => ?_)
  · obtain ⟨a, ns, rfl, _⟩ := h
    rfl
  · obtain ⟨a, ns, rfl, hS, hlen, q⟩ := h
    refine ⟨_, pss_cons (ps_set (i := 1) scPen.nd rfl (.inl rfl) pe_int)
      (pss_cons (ps_for PassesOwn.never rfl (pi_list (pv 0)) (pg_name (i := 2) scPen.nd rfl (.inl rfl))
        (pss_one (ps_set (i := 1) scPen.nd rfl (.inl rfl) (pe_op op_mod (pe_callTy call_int1 (by rfl) mi (by decide +kernel) (pa_cons (pe_op op_add (pe_op op_mul (pv 1) pe_int) (pv 2)) pa_nil)) pe_int))))
      (pss_one (ps_ret (pe_disp (pps_cons pe_str (pe_callTy call_list_of (by rfl) ml (by decide +kernel) (pa_cons (pv 0) pa_nil))
        (pps_cons pe_str pe_int (pps_cons pe_str pe_int (pps_cons pe_str pe_int (pps_cons pe_str (pv 1) pps_nil))))) (by rfl) (by rfl) (fun z => by cases z) (by decide))))), ?_⟩
    refine ⟨.ref a, rfl, a, rfl, ⟨_, hS⟩, for_list (K := K) (a := a) (xs := ns.map V.int) (fun i σ H2 => ∃ (g : Int) (v : Option V), σ = [some (.ref a), some (.int g), v] ∧ H2 = H ∧ 0 ≤ g ∧ g < 1000000007)
      ⟨0, none, rfl, rfl, by decide, by decide⟩ (fun i σ H2 _ ⟨_, _, _, e, _⟩ => by rw [e]; exact hS) ?_ ?_⟩
    · rintro i y σ H2 hi ⟨g, v, rfl, rfl, g0, g1⟩
      obtain ⟨z, rfl⟩ : ∃ z, y = V.int z := by
        rw [List.getElem?_map] at hi
        cases e : ns[i]? with
        | none =>
          rw [e] at hi
          cases hi
        | some z =>
          rw [e] at hi
          exact ⟨z, (Option.some.inj hi).symm⟩
      refine ⟨.int g, rfl, _, _, rfl, rfl, .inr ⟨by decide, by decide⟩, .int z, rfl, _, _, rfl, rfl, .inl ⟨_, rfl, _, _, rfl, rfl, (by show (0 : Int) < 1000000007; decide), ?_⟩⟩
      exact ⟨(g * 47 + z) % 1000000007, some (.int z), rfl, rfl, Int.emod_nonneg _ (by decide), Int.emod_lt_of_pos _ (by decide)⟩
    · rintro σ H2 ⟨g, v, rfl, rfl, g0, g1⟩
      intro p hp
      refine ⟨.ref a, rfl, a, _, rfl, .inl ((same_upd hp).seq hS), fun l hl => ?_⟩
      have nlp : l ≠ p := fun e => by
        rw [e, upd_same] at hl
        cases hl
      have hl0 : H2 l = none := by rw [upd_ne nlp] at hl; exact hl
      refine ⟨.int g, rfl, by rw [upd_ne nlp.symm, upd_same], [(kC, .ref l), (kA, .int 0), (kD, .int 0), (kN, .int 0), (kF, .int g)], rfl, (by show 5 ≤ 15; decide), ?_⟩
      rw [merge_pen]
      refine q _ p l ?_ hp hl0 ⟨⟨0, 0, g, upd_same, Nat.zero_le _, by decide, g0, by omega⟩, ?_⟩
      · intro b o e
        have b1 : b ≠ p := ne_of_none e hp
        have b2 : b ≠ l := ne_of_none e hl0
        rw [upd_ne b1, upd_ne b2, upd_ne b1]
        exact e
      · rw [upd_ne nlp, upd_same]
end
end Pn

namespace Pn
open PySem PySem.Spec PyProof.Rows L2
theorem pget {H : Hp} {p : Addr} {kvs : List (Key × V)} {k : Key} {v : V} (e : H p = some (.dK kvs)) (h : valV kvs k = some v) : DGet H p (kV k) (some v) := by
  have q : DGet H p (kV k) (valV kvs k) := DGet.k e
  rw [h] at q
  exact q
theorem pput {H : Hp} {p : Addr} {kvs kvs' : List (Key × V)} {k : Key} {v : V} (e : H p = some (.dK kvs)) (hl : kvs.length < sizeLine) (h : putK kvs k v = kvs') : DPut H p (kV k) v (L2.upd H p (.dK kvs')) := by
  have q : DPut H p (kV k) v (L2.upd H p (.dK (putK kvs k v))) := DPut.k e hl
  rw [h] at q
  exact q
theorem penl (l : Addr) (a d n f : Int) : (penK l a d n f).length < sizeLine := by
  show 5 < sizeLine
  decide
theorem pow17 {b : Int} (h0 : 0 ≤ b) : 0 ≤ b ^ (17 : Int).toNat := Int.pow_nonneg h0
section
variable {P : Program} {w : World} {K : PySem.W.Frag} {mg : Str → Option Value} {base : Heap}
def spDraw : Sp := fun vs H Q _ => ∃ (p l : Addr) (ns : List Int) (c : Nat) (m : Int), vs = [.ref p, .int m] ∧ Pen H p l ns c ∧ ns.length ≤ 1000 ∧ c ≤ 1000000000 ∧ 1 ≤ m ∧ m ≤ 1000000 ∧
  ∀ r H', 0 ≤ r → r < m → Pen H' p l ns (c + 1) → But p H H' → Q (.int r) H'
theorem ok_draw {f : Addr} {fd : FuncData} {k : Nat} (F : Fun K "_law_draw" "_law_draw" sDraw f fd) (mi : mg "int" = none) (ml : mg "len" = none) : FnOk P w K mg base CX0 (k + 1) f fd ["_law_pen_here", "_law_many"] spDraw := by
  refine F.ok scDraw (fun vs H Q E h => ?_) (fun cdv A outer s H vs Q E hr h => ?_)
  · obtain ⟨p, l, ns, c, m, rfl, _⟩ := h
    rfl
  · obtain ⟨p, l, ns, c, m, rfl, hP, hlen, hc, m1, m2, q⟩ := h
    have hu := hu_of hr
    have npl : p ≠ l := pen_ne hP
    obtain ⟨⟨a, d, f0, e, ha, hd, hf, hf2⟩, hl⟩ := hP
    refine ⟨_, pss_cons (ps_dput hu (pv 0) pe_str (pe_op op_add (pe_dget hu (pv 0) pe_str (fun _ _ => rfl)) pe_int) rfl)
      (C8.pss_cut (ps_if (pw_and (pt_cmpR op_eq (pe_dget hu (pv 0) pe_str (fun _ _ => rfl)) pe_int (nomark _)) (pw_and1 (pt_cmpR op_lt (pe_dget hu (pv 0) pe_str (fun _ _ => rfl)) (pe_callB call_len_seq (by rfl) ml PySem.boot_len (pa_cons (pe_dget hu (pv 0) pe_str (fun _ _ => rfl)) pa_nil)) (nomark _)))).pt
        (pss_cons (ps_set (i := 2) scDraw.nd rfl (.inl rfl) (pe_ix ix_list (pe_dget hu (pv 0) pe_str (fun _ _ => rfl)) (pe_dget hu (pv 0) pe_str (fun _ _ => rfl)) (fun _ _ => rfl)))
        (pss_cons (ps_dput hu (pv 0) pe_str (pe_op op_add (pe_dget hu (pv 0) pe_str (fun _ _ => rfl)) pe_int) rfl)
        (pss_one (ps_if (pt_cmpR op_ge (pv 2) (pe_op op_pow pe_int pe_int) (nomark _))
          (pss_one (ps_dput hu (pv 0) pe_str (pe_op op_sub (pv 2) (pe_op op_pow pe_int pe_int)) rfl))
          (pss_one (ps_dput hu (pv 0) pe_str (pe_op op_mod (pe_callTy call_int1 (by rfl) mi (by decide +kernel) (pa_cons (pe_op op_add (pe_op op_mul (pe_dget hu (pv 0) pe_str (fun _ _ => rfl)) pe_int) (pv 2)) pa_nil)) pe_int) rfl))))))
        pss_nil)
      (pss_cons (ps_if (pt_cmpR op_gt (pe_dget hu (pv 0) pe_str (fun _ _ => rfl)) pe_int (nomark _))
        (pss_cons (ps_set (i := 3) scDraw.nd rfl (.inl rfl) (pe_op op_mod (pe_callTy call_int1 (by rfl) mi (by decide +kernel) (pa_cons (pe_dget hu (pv 0) pe_str (fun _ _ => rfl)) pa_nil)) (pv 1)))
        (pss_cons (ps_dput hu (pv 0) pe_str (pe_op op_fdiv (pe_dget hu (pv 0) pe_str (fun _ _ => rfl)) (pv 1)) rfl)
        (pss_one (ps_ret (pv 3)))))
        pss_nil)
      (pss_cons (ps_set (i := 4) scDraw.nd rfl (.inl rfl) (pe_op op_add (pe_op op_add (pe_dget hu (pv 0) pe_str (fun _ _ => rfl)) (pe_op op_mul (pe_dget hu (pv 0) pe_str (fun _ _ => rfl)) pe_int)) pe_int))
      (pss_one (ps_ret (pe_op op_mod (pe_op op_fdiv (pe_callTy call_int1 (by rfl) mi (by decide +kernel) (pa_cons (pe_op op_mod (pe_op op_pow (pv 4) pe_int) pe_int) pa_nil)) pe_int) (pv 1))))))), ?_⟩
    -- count
    refine ⟨.ref p, rfl, p, _, rfl, pget e (getN ..), _, _, rfl, rfl, .ref p, rfl, p, _, rfl, pput e (penl ..) (putN ..), ?_⟩
    have e1 : (L2.upd H p (.dK (penK l (a : Int) d ((c : Int) + 1) f0))) p = some (.dK (penK l (a : Int) d ((c : Int) + 1) f0)) := upd_same
    have l1 : (L2.upd H p (.dK (penK l (a : Int) d ((c : Int) + 1) f0))) l = some (.lst (ns.map V.int)) := by rw [upd_ne npl.symm]; exact hl
    have b1 : But p H (L2.upd H p (.dK (penK l (a : Int) d ((c : Int) + 1) f0))) := But.upd _ _
    generalize L2.upd H p (.dK (penK l (a : Int) d ((c : Int) + 1) f0)) = H1 at e1 l1 b1
    -- the cell
    refine ⟨fun σ H' => ∃ (v2 : Option V) (a : Nat) (d f : Int), σ = [some (.ref p), some (.int m), v2, none, none] ∧ H' p = some (.dK (penK l (a : Int) d ((c : Int) + 1) f)) ∧ a ≤ ns.length ∧ 0 ≤ d ∧ 0 ≤ f ∧ f < 2147483648 ∧ H' l = some (.lst (ns.map V.int)) ∧ But p H H', ?_, ?_⟩
    · refine ⟨.ref p, rfl, p, _, rfl, pget e1 (getD ..), rfl, _, rfl, ?_⟩
      refine ite2 (fun hd0 => ?_) (fun _ => ?_)
      · refine ⟨.ref p, rfl, p, _, rfl, pget e1 (getA ..), .ref p, rfl, p, _, rfl, pget e1 (getC ..), l, _, rfl, .inl (.inl (.inl l1)), _, _, rfl, rfl, _, rfl, ?_⟩
        refine ite2 (fun hlt => ?_) (fun _ => ?_)
        · have hlt' : (a : Int) < ((ns.map V.int).length : Int) := of_decide_eq_true hlt
          have hlt2 : a < ns.length := by
            rw [List.length_map] at hlt'
            omega
          have hz : (ns.map V.int)[a]? = some (.int ns[a]) := by
            rw [List.getElem?_map, List.getElem?_eq_getElem hlt2]
            rfl
          refine ⟨.ref p, rfl, p, _, rfl, pget e1 (getC ..), .ref p, rfl, p, _, rfl, pget e1 (getA ..), l, _, _, _, rfl, rfl, .inl (.inl l1), atI_nat hz, ?_⟩
          refine ⟨.ref p, rfl, p, _, rfl, pget e1 (getA ..), _, _, rfl, rfl, .ref p, rfl, p, _, rfl, pput e1 (penl ..) (putA ..), ?_⟩
          have e2 : (L2.upd H1 p (.dK (penK l ((a : Int) + 1) d ((c : Int) + 1) f0))) p = some (.dK (penK l ((a + 1 : Nat) : Int) d ((c : Int) + 1) f0)) := upd_same
          have l2 : (L2.upd H1 p (.dK (penK l ((a : Int) + 1) d ((c : Int) + 1) f0))) l = some (.lst (ns.map V.int)) := by rw [upd_ne npl.symm]; exact l1
          have b2 : But p H (L2.upd H1 p (.dK (penK l ((a : Int) + 1) d ((c : Int) + 1) f0))) := b1.trans (But.upd _ _)
          generalize L2.upd H1 p (.dK (penK l ((a : Int) + 1) d ((c : Int) + 1) f0)) = H2 at e2 l2 b2
          refine ⟨.int ns[a], rfl, _, _, rfl, rfl, ⟨by decide, by decide, by decide⟩, _, _, rfl, rfl, _, rfl, ?_⟩
          refine ite2 (fun hbig => ?_) (fun _ => ?_)
          · have hb : (10 : Int) ^ (18 : Int).toNat ≤ ns[a] := of_decide_eq_true hbig
            refine ⟨.int ns[a], rfl, _, _, rfl, rfl, ⟨by decide, by decide, by decide⟩, _, _, rfl, rfl, .ref p, rfl, p, _, rfl, pput e2 (penl ..) (putD ..), ?_⟩
            exact ⟨_, a + 1, _, f0, rfl, upd_same, hlt2, by omega, hf, hf2, by rw [upd_ne npl.symm]; exact l2, b2.trans (But.upd _ _)⟩
          · refine ⟨.ref p, rfl, p, _, rfl, pget e2 (getF ..), _, _, rfl, rfl, .inr ⟨by decide, by decide⟩, .int ns[a], rfl, _, _, rfl, rfl, .inl ⟨_, rfl, _, _, rfl, rfl, (by show (0 : Int) < 2147483587; decide), .ref p, rfl, p, _, rfl, pput e2 (penl ..) (putF' ..), ?_⟩⟩
            refine ⟨_, a + 1, d, _, rfl, upd_same, hlt2, hd, Int.emod_nonneg _ (by decide), Int.lt_trans (Int.emod_lt_of_pos _ (by decide)) (by decide), by rw [upd_ne npl.symm]; exact l2, b2.trans (But.upd _ _)⟩
        · exact ⟨none, a, d, f0, rfl, e1, ha, hd, hf, hf2, l1, b1⟩
      · refine iteF ?_
        exact ⟨none, a, d, f0, rfl, e1, ha, hd, hf, hf2, l1, b1⟩
    · rintro σ' H2 ⟨v2, a, d, f0, rfl, e2, ha, hd, hf, hf2, l2, b2⟩
      refine ⟨.ref p, rfl, p, _, rfl, pget e2 (getD ..), _, _, rfl, rfl, _, rfl, ?_⟩
      refine ite2 (fun _ => ?_) (fun _ => ?_)
      · refine ⟨.ref p, rfl, p, _, rfl, pget e2 (getD ..), .inl ⟨_, rfl, .int m, rfl, _, _, rfl, rfl, (by show 0 < m; omega), ?_⟩⟩
        refine ⟨.ref p, rfl, p, _, rfl, pget e2 (getD ..), .int m, rfl, _, _, rfl, rfl, ⟨(by omega), (by omega)⟩, .ref p, rfl, p, _, rfl, pput e2 (penl ..) (putD ..), ?_⟩
        refine ⟨.int (d % m), rfl, ?_⟩
        refine q _ _ (Int.emod_nonneg _ (by omega)) (Int.emod_lt_of_pos _ (by omega)) ⟨⟨a, d / m, f0, upd_same, ha, Int.ediv_nonneg hd (by omega), hf, hf2⟩, by rw [upd_ne npl.symm]; exact l2⟩ (b2.trans (But.upd _ _))
      · refine ⟨.ref p, rfl, p, _, rfl, pget e2 (getF ..), .ref p, rfl, p, _, rfl, pget e2 (getN ..), _, _, rfl, rfl, .inr ⟨by decide, by decide⟩, _, _, rfl, rfl, _, _, rfl, rfl, ?_⟩
        refine ⟨.int (f0 + ((c : Int) + 1) * 7907 + 43), rfl, _, _, rfl, rfl, ⟨by decide, by decide, by omega⟩, _, _, rfl, rfl, (by show (0 : Int) < 2305843009213693951; decide), .inl ⟨_, rfl, _, _, rfl, rfl, ⟨by decide, by decide⟩, .int m, rfl, _, _, rfl, rfl, (by show 0 < m; omega), ?_⟩⟩
        exact q _ _ (Int.emod_nonneg _ (by omega)) (Int.emod_lt_of_pos _ (by omega)) ⟨⟨a, d, f0, e2, ha, hd, hf, hf2⟩, l2⟩ b2
def spPick (K : PySem.W.Frag) : Sp := fun vs H Q _ => ∃ (p l s : Addr) (ns : List Int) (c : Nat) (xs : List V), vs = [.ref p, .ref s] ∧ Pen H p l ns c ∧ ns.length ≤ 1000 ∧ c ≤ 1000000000 ∧ (SqL K H s xs ∨ SqT K H s xs) ∧ xs ≠ [] ∧ xs.length ≤ 1000000 ∧ s ≠ p ∧
  ∀ x H', x ∈ xs → Pen H' p l ns (c + 1) → But p H H' → Q x H'
theorem But.sq {H H' : Hp} {p s : Addr} {xs : List V} (b : But p H H') (n : s ≠ p) (h : SqL K H s xs) : SqL K H' s xs := by
  rcases h with (h | ⟨o, h⟩) | h
  · exact .inl (.inl (b _ _ n h))
  · exact .inl (.inr ⟨o, b _ _ n h⟩)
  · exact .inr h
end
end Pn

namespace Pn
open PySem PySem.Spec PyProof.Rows L2
theorem ix_or {X : Cx} : IxR X (fun x y H Q => rIxL X.K x y H Q ∨ rIxT X.K x y H Q) := ix_list.or ix_tup
section
variable {P : Program} {w : World} {K : PySem.W.Frag} {mg : Str → Option Value} {base : Heap}
theorem ok_pick {f fD : Addr} {fd fdD : FuncData} {k : Nat} (F : Fun K "_law_pick" "_law_pick" sPick f fd) (G : FnOk P w K mg base CX0 (k + 1) fD fdD ["_law_pen_here", "_law_many"] spDraw) (gD : mg "_law_draw" = some (.ref fD)) (kD : PySem.W.keepIn K (.ref fD) = true) (bD : Binds K fdD ["_law_pen_here", "_law_many"] [])
    (ml : mg "len" = none) : FnOk P w K mg base CX0 (k + 2) f fd ["_law_pen_here", "_law_some"] (spPick K) := by
  refine F.ok scPick (fun vs H Q E h => ?_) (fun cdv A outer s H vs Q E hr h => ?_)
  · obtain ⟨p, l, s, ns, c, xs, rfl, _⟩ := h
    rfl
  · obtain ⟨p, l, s, ns, c, xs, rfl, hP, hlen, hc, hS, hne, hx, hsp, q⟩ := h
    refine ⟨_, pss_one (ps_ret (pe_ix ix_or (pv 1) (pe_call G hr (by rfl) gD kD bD .nil pass0 (pa_cons (pv 0) (pa_cons (pe_callB call_len_seq (by rfl) ml PySem.boot_len (pa_cons (pv 1) pa_nil)) pa_nil))) (fun _ _ => rfl))), ?_⟩
    have hpos : 1 ≤ xs.length := by
      cases xs with
      | nil => exact absurd rfl hne
      | cons x r => rw [List.length_cons]; omega
    refine ⟨.ref s, rfl, .ref p, rfl, .ref s, rfl, s, xs, rfl, hS, p, l, ns, c, _, rfl, hP, hlen, hc, by omega, by omega, fun r H' r0 r1 hP' b' => ?_⟩
    obtain ⟨j, rfl⟩ : ∃ j : Nat, r = (j : Int) := ⟨r.toNat, by omega⟩
    have hj : j < xs.length := by omega
    have hg : xs[j]? = some xs[j] := List.getElem?_eq_getElem hj
    rcases hS with hS | hS
    · exact .inl ⟨s, xs, _, _, rfl, rfl, b'.sq hsp hS, atI_nat hg, q _ _ (List.getElem_mem hj) hP' b'⟩
    · refine .inr ⟨s, xs, _, _, rfl, rfl, ?_, atI_nat hg, q _ _ (List.getElem_mem hj) hP' b'⟩
      rcases hS with (h | ⟨o, h⟩) | h
      · exact .inl (.inl (b' _ _ hsp h))
      · exact .inl (.inr ⟨o, b' _ _ hsp h⟩)
      · exact .inr h
end
end Pn

/-! Drawn terms. -/
namespace Ad
open PySem PySem.Spec PySem.Calls PyProof.Rows L2
/-- a row: name, number of arguments, weight -/
abbrev Row := Str × Nat × Int
def RowV (K : PySem.W.Frag) (H : Hp) (r : Row) (v : V) : Prop := ∃ b, v = .ref b ∧ SqT K H b [.str r.1, .int (r.2.1 : Int), .int r.2.2]
def RowsAt (K : PySem.W.Frag) (H : Hp) (a : Addr) (R : List Row) : Prop := ∃ b y vs, SqT K H a [.ref b, y] ∧ SqT K H b vs ∧ F2 (RowV K H) R vs
theorem RowV.mono {K : PySem.W.Frag} {H H' : Hp} (k : TK H H') (r : Row) (v : V) (h : RowV K H r v) : RowV K H' r v := by
  obtain ⟨b, e, s⟩ := h
  exact ⟨b, e, k.sq s⟩
theorem RowsAt.mono {K : PySem.W.Frag} {H H' : Hp} (k : TK H H') {a : Addr} {R : List Row} (h : RowsAt K H a R) : RowsAt K H' a R := by
  obtain ⟨b, y, vs, s1, s2, f⟩ := h
  exact ⟨b, y, vs, k.sq s1, k.sq s2, f.mono (RowV.mono k)⟩
/-- rows to draw from: names that can be laid, at most three arguments, one without any -/
structure ROk (R : List Row) : Prop where
  names : ∀ r ∈ R, nameOk r.1 = true ∧ r.2.1 ≤ 3
  const : ∃ (j : Nat) (r : Row), R[j]? = some r ∧ r.2.1 = 0
  few : R.length ≤ 1000
def sz : Nat → Nat
  | 0 => 1
  | d + 1 => 1 + 3 * sz d
def dn : Nat → Nat
  | 0 => 2
  | d + 1 => 2 + 3 * dn d
theorem two_dn : ∀ d, 2 ≤ dn d
  | 0 => Nat.le_refl _
  | _ + 1 => Nat.le_add_right _ _
theorem one_sz : ∀ d, 1 ≤ sz d
  | 0 => Nat.le_refl _
  | _ + 1 => Nat.le_add_right _ _
namespace Kb
mutual
/-- all names with their arities stand in the rows -/
def Wf (rk : List Row) : T → Prop
  | .v _ => True
  | .f x ts => (∃ r ∈ rk, r.1 = x ∧ r.2.1 = ts.length) ∧ WfL rk ts
def WfL (rk : List Row) : List T → Prop
  | [] => True
  | t :: ts => Wf rk t ∧ WfL rk ts
end
theorem wfL_of {rk : List Row} : ∀ {ts : List T}, (∀ t ∈ ts, Wf rk t) → WfL rk ts
  | [], _ => True.intro
  | t :: ts, h => ⟨h t (List.mem_cons_self ..), wfL_of fun u hu => h u (List.mem_cons_of_mem _ hu)⟩
mutual
theorem Wf.mono {rk rl : List Row} (h : ∀ r ∈ rk, r ∈ rl) : ∀ {t : T}, Wf rk t → Wf rl t
  | .v _, _ => True.intro
  | .f x ts, ⟨⟨r, hr, e⟩, k⟩ => ⟨⟨r, h r hr, e⟩, WfL.mono h k⟩
theorem WfL.mono {rk rl : List Row} (h : ∀ r ∈ rk, r ∈ rl) : ∀ {ts : List T}, WfL rk ts → WfL rl ts
  | [], _ => True.intro
  | t :: ts, ⟨a, b⟩ => ⟨Wf.mono h a, WfL.mono h b⟩
end
end Kb
/-- a drawn term of a depth, its variables below a number -/
structure DT (R : List Row) (deep : Nat) (nv : Int) (t : T) : Prop where
  named : t.named = true
  dep : t.dep ≤ deep + 1
  size : t.size ≤ sz deep
  vars : ∀ j ∈ t.vars, 0 ≤ j ∧ j < nv
  wf : Kb.Wf R t
theorem pen_tk {H H' : Hp} {p l : Addr} {ns : List Int} {c : Nat} (P : Pn.Pen H p l ns c) (b : Pn.But p H H') : TK H H' := by
  obtain ⟨⟨a, d, f, e, _⟩, _⟩ := P
  intro q xs
  refine ⟨fun h => b _ _ (fun z => ?_) h, fun o h => b _ _ (fun z => ?_) h⟩
  · rw [z, e] at h
    cases h
  · rw [z, e] at h
    cases h
theorem pen_same {H H' : Hp} {p l : Addr} {ns : List Int} {c : Nat} (P : Pn.Pen H p l ns c) (s : Same H H') : Pn.Pen H' p l ns c := by
  obtain ⟨⟨a, d, f, e, r⟩, h⟩ := P
  exact ⟨⟨a, d, f, s _ _ e, r⟩, s _ _ h⟩
def spDrawn (K : PySem.W.Frag) (n : Nat) : Sp := fun vs H Q _ => ∃ (p l ra : Addr) (ns : List Int) (c deep : Nat) (nv : Int) (R : List Row), vs = [.ref p, .ref ra, .int (deep : Int), .int nv] ∧ Pn.Pen H p l ns c ∧ ns.length ≤ 1000 ∧ c + dn deep ≤ 1000000000 ∧ RowsAt K H ra R ∧ ROk R ∧
  deep < n ∧ 0 ≤ nv ∧ nv ≤ 1000 ∧ ∀ t v H' c', Tm K H' t v → DT R deep nv t → c' ≤ c + dn deep → Pn.Pen H' p l ns c' → Pn.But p H H' → Q v H'
end Ad

/-! dict(t) of a tuple of pairs. -/
namespace Dt
open PySem PySem.Spec PySem.Calls PyProof.Rows L2
theorem tuple_keys_none : typeLookup (.type "tuple") "keys" = pure none := am_miss_of_fast (by first | decide +kernel | rfl)
section
variable {prog : Program} {w : World} {A : Around} {E : Value → Shared → Prop}
/-- a tuple has no attribute 'keys' -/
theorem no_keys {s : Shared} {a : Addr} {o : Obj} {xs : Array Value} {k : Nat} {Q : Option Value → Shared → Prop} (hx : s.heap.get? a = some o) (hc : o.cls = .type "tuple") (hdat : o.data = .seq xs k) (hd : o.dict = none) (hA : A.handled = none)
    (h : ∀ h' tk, (∀ b ob, s.heap.get? b = some ob → h'.get? b = some ob) → Q none { s with heap := h', toks := tk }) : wpAny (model prog w) A (getAttr? (.ref a) "keys") Q E s := by
  obtain ⟨c, dct, dat, sl⟩ := o
  simp only at hc hdat hd
  subst hc hdat hd
  obtain ⟨hp, g, d, tk, os⟩ := s
  have isT : ∀ tk', (⟨hp, g, d, tk', os⟩ : Shared).TypeIs (.ref a) "tuple" := fun _ => ⟨_, hx, rfl⟩
  have g1 := tuple_keys_none
  have g2 : (["__module__", "__name__", "__qualname__", "__doc__", "__annotations__"] : List Str).contains "keys" = false := by decide +kernel
  have g3 : ("keys" : Str).length + 100 ≤ sizeLine := by first | size_fits | decide +kernel
  have g4 := sub_AttributeError
  have g5 := PySem.F.slot_tuple_getattribute.lookup
  have g6 := PySem.F.slot_tuple_getattribute.bind (.ref a)
  have g7 := am_tuple_getattr_none
  unfold getAttr? getAttrBy? getAttrBy
  repeat (any_goals (first | assumption | exact isT _ | ((with_reducible show wpAny _ _ (call (Value.builtin "tuple.__getattribute__") _ _) _ _ _); refine call_meets PySem.F.slot_tuple_getattribute (isT _) am_entry_tuple_getattribute (PySem.F.args_tuple_getattribute_2 _ _) (meets_getattribute_miss_tuple a xs k sl "keys" _ g1 g2 g3) ⟨hx, hA, fun h' tk' e hx' => ?_⟩) | wp_step))
  obtain ⟨t', u', he⟩ := hx'.there
  show wpAny _ _ (getattributeRaised _ _ _ _ _ _ _) _ _ _
  unfold getattributeRaised
  repeat (any_goals (first | assumption | wp_step))
  all_goals first | exact h _ _ hx'.keeps | (dsimp only; repeat (any_goals (first | assumption | exact h _ _ hx'.keeps | wp_step)))
theorem walk {R : Result → Shared → Prop} {S I l : Addr} {items : Array Value} {res : Value} (hh : A.handled = none) (lI : l ≠ I) (sI : S ≠ I) (sl : S ≠ l) :
    ∀ (rest : List (L2.Key × Value)) (i : Nat) (acc : List (L2.Key × Value)) (ix : Int) (t : Tok) (s : Shared), items.size = i + rest.length → acc.length + rest.length ≤ sizeLine →
      (∀ (j : Nat) (q : L2.Key × Value), rest[j]? = some q → ∃ (b : Addr) (u : Value), items[i + j]? = some (.ref b) ∧ b ≠ S ∧ b ≠ I ∧ IsTup s.heap b #[u, q.2] ∧ keyIs q.1 u = true) →
      s.heap.IsTupleIter I l i → s.heap.IsTuple l items → s.heap.DictOf (mixKind prog w) S acc →
      (∀ h' tk, h'.DictOf (mixKind prog w) S (merged acc rest) → (∀ b o, b ≠ S → b ≠ I → s.heap.get? b = some o → h'.get? b = some o) → R (.ok (.ret res)) { s with heap := h', toks := tk }) →
      codeAny (model prog w) A (.builtin "dict.update.loop" ⟨[.ref S, .ref I, .int ix t, res], []⟩) R s
  | [], i, acc, ix, t, s, hsz, hln, ht, hit, hl, hm, hR => by
    refine codeAny_builtin ud_entry ?_
    rw [Around.under_plainId ud_plain _]
    show wpAny _ A.in1 (pyNext (.ref I) >>= _) _ _ s
    refine wpAny_bind (wpAny_pyNext_tuple_end (A := A.in1) hh hit hl (by first | exact Array.getElem?_eq_none (Nat.le_of_eq hsz) | (simp at hsz; simp; omega)) fun h' he => ?_)
    show wpAny _ A.in1 (Builtin.Dict.addKeywords S [] >>= _) _ _ _
    refine wpAny_bind (wpAny_pure (wpAny_pure ?_))
    exact hR h' s.toks (hm.extBut he sI) fun b o _ hb e => he b o hb e
  | q :: rest, i, acc, ix, t, s, hsz, hln, ht, hit, hl, hm, hR => by
    obtain ⟨b, u, hb, hbS, hbI, htup, hk⟩ := ht 0 q rfl
    rw [List.length_cons] at hsz hln
    refine codeAny_builtin ud_entry ?_
    rw [Around.under_plainId ud_plain _]
    show wpAny _ A.in1 (pyNext (.ref I) >>= _) _ _ s
    refine wpAny_bind (wpAny_pyNext_tuple_item (x := .ref b) hit hl (by simpa using hb) fun h1 hit1 hs1 => ?_)
    have tup1 : IsTup h1 b #[u, q.2] := htup.extBut hs1.extBut hbI
    have hl1 : h1.IsTuple l items := by
      obtain ⟨o, e, r⟩ := id hl
      exact ⟨o, hs1.extBut l o lI e, r⟩
    have hm1 : h1.DictOf (mixKind prog w) S acc := hm.extBut hs1.extBut sI
    obtain ⟨o, ho, hc, n, hd⟩ := id tup1
    show wpAny _ A.in1 (holding [Value.ref b] _ >>= _) _ _ _
    refine wpAny_bind (wpAny_holding (wpAny_bind (wpAny_tryCatch ?_)))
    unfold Builtin.Dict.pairItems
    refine wpAny_bind (wpAny_typeOf (T := "tuple") ⟨o, ho, hc⟩ ?_)
    rw [if_pos (by first | decide | rfl | simp)]
    refine wpAny_bind (wpAny_seqItems ho hd (wpAny_pure ?_))
    show wpAny _ A.in1 (holding [u, q.2] (dictSet S u q.2)) _ _ _
    refine wpAny_holding (wpAny_dictSet_pairs (knd := mixKind prog w) (k := q.1) hk hm1 (fun h2 hm2 hs2 => ?_) (by omega))
    refine wpAny_pure ⟨plainId_quiet ud_plain _, walk (items := items) hh lI sI sl rest (i + 1) (stored acc q.1 q.2) (ix + 1) 0 _ (show items.size = i + 1 + rest.length by omega) ?_ (fun j q' e => ?_) ?_ ?_ hm2 fun h' tk hd' k => ?_⟩
    · have z := stored_length_le acc q.1 q.2
      omega
    · obtain ⟨b', u', hb', hbS', hbI', htup', hk'⟩ := ht (j + 1) q' (by simpa using e)
      refine ⟨b', u', ?_, hbS', hbI', (htup'.extBut hs1.extBut hbI').extBut hs2.extBut hbS', hk'⟩
      rw [show i + 1 + j = i + (j + 1) by omega]
      exact hb'
    · exact hit1.at fun o' e => hs2.extBut I o' (Ne.symm sI) e
    · obtain ⟨o', e, r⟩ := id hl1
      exact ⟨o', hs2.extBut l o' (Ne.symm sl) e, r⟩
    · exact hR h' tk hd' fun c oc h3 h4 e => k c oc h3 h4 (hs2.extBut c oc h3 (hs1.extBut c oc h4 e))
theorem new_dict {s : Shared} {l : Addr} {ol : Obj} {items : Array Value} {n : Nat} {prs : List (L2.Key × Value)} {Q : Value → Shared → Prop} (hh : A.handled = none) (hl : s.heap.get? l = some ol) (hc : ol.cls = .type "tuple") (hd : ol.dict = none)
    (hdat : ol.data = .seq items n) (hsz : items.size = prs.length) (hln : prs.length ≤ sizeLine)
    (ht : ∀ (j : Nat) (q : L2.Key × Value), prs[j]? = some q → ∃ (b : Addr) (u : Value), items[j]? = some (.ref b) ∧ IsTup s.heap b #[u, q.2] ∧ keyIs q.1 u = true)
    (h : ∀ h' tk, h'.DictOf (mixKind prog w) s.heap.objs.size (merged [] prs) → (∀ b o, s.heap.get? b = some o → h'.get? b = some o) → Q (.ref s.heap.objs.size) { s with heap := h', toks := tk }) :
    wpAny (model prog w) A (call (.type "dict") [.ref l]) Q E s := by
  refine callType_codes (Q₁ := fun v sA => v = .ref s.heap.objs.size ∧ sA = { s with heap := s.heap.push { cls := .type "dict", data := .dict #[] } }) PySem.F.kt_called_dict (PySem.F.kt_typeCall_dict_1 _) PySem.F.entry_dict_init (kt_code_dict_new _ ⟨rfl, rfl⟩) ?_
  rintro v sA ⟨rfl, rfl⟩
  have made : (s.heap.push { cls := .type "dict", data := .dict #[] }).DictOf (mixKind prog w) s.heap.objs.size [] := Heap.DictOf.new s.heap
  have k0 : ∀ b o, s.heap.get? b = some o → (s.heap.push { cls := .type "dict", data := .dict #[] }).get? b = some o := fun b o e => Heap.get?_push_of_some _ e
  refine ⟨made.typeIs, PySem.F.args_dict_init_2 _ _, ?_⟩
  unfold Builtin.«dict.__init__»
  refine wpAny_bind ?_
  unfold Builtin.Dict.selfAndRest
  refine wpAny_bind (wpAny_notOrdered_dict made.typeIs ?_)
  show wpAny _ _ (pure (s.heap.objs.size, [Value.ref l])) _ _ _
  refine wpAny_pure ?_
  show wpAny _ _ (Builtin.Dict.updateFrom "dict.__init__" s.heap.objs.size (.ref l) [] .none) _ _ _
  unfold Builtin.Dict.updateFrom
  refine wpAny_bind (wpAny_typeOf (T := "tuple") ⟨ol, k0 _ _ hl, hc⟩ ?_)
  rw [if_pos (by first | decide | rfl | simp)]
  refine wpAny_bind (no_keys (k0 _ _ hl) hc hdat hd hh fun h1 tk1 hk1 => ?_)
  rw [if_pos (show (none : Option Value).isNone = true from rfl)]
  refine wpAny_bind (wpAny_rule ?_)
  have hl1 : h1.IsTuple l items := ⟨ol, hk1 _ _ (k0 _ _ hl), hc, n, hdat⟩
  have hS1 : s.heap.objs.size < h1.objs.size := by
    have e : (s.heap.push { cls := .type "dict", data := .dict #[] }).get? s.heap.objs.size = some { cls := .type "dict", data := .dict #[] } := Heap.get?_push_size _ rfl
    exact Heap.lt_size (hk1 _ _ e)
  refine wpAny_bind (wpAny_pyIter_tuple hl1 ?_)
  have k2 : ∀ b o, h1.get? b = some o → (h1.push { cls := .type "tuple_iterator", data := .fields #[.ref l, .int 0 0] }).get? b = some o := fun b o e => Heap.get?_push_of_some _ e
  have low : l < s.heap.objs.size := Heap.lt_size hl
  have key := walk (prog := prog) (w := w) (A := A.in1) (R := wants (fun r sB => r = .none ∧ Q (.ref s.heap.objs.size) sB) E) (S := s.heap.objs.size) (I := h1.objs.size) (l := l) (items := items) (res := Value.none) hh
    (Nat.ne_of_lt (Nat.lt_trans low hS1)) (Nat.ne_of_lt hS1) (Nat.ne_of_gt low) prs 0 [] 0 0
    { s with heap := h1.push { cls := .type "tuple_iterator", data := .fields #[.ref l, .int 0 0] }, toks := tk1 } (by rw [hsz, Nat.zero_add]) (by rw [List.length_nil, Nat.zero_add]; exact hln)
    (fun j q e => by
      obtain ⟨b, u, e1, e2, e3⟩ := ht j q e
      have hb : b < s.heap.objs.size := e2.lt
      exact ⟨b, u, by rw [Nat.zero_add]; exact e1, Nat.ne_of_lt hb, Nat.ne_of_lt (Nat.lt_trans hb hS1), e2.keeps fun c o z => k2 _ _ (hk1 _ _ (k0 _ _ z)), e3⟩)
    ⟨_, Heap.get?_push_size _ rfl, rfl, rfl⟩ (by
      obtain ⟨o', e, r⟩ := id hl1
      exact ⟨o', k2 _ _ e, r⟩) ((made.at fun o e => hk1 _ _ e).at fun o e => k2 _ _ e)
    (fun h' tk hd' k => ⟨rfl, h h' tk hd' fun b o e => k b o (Nat.ne_of_lt (Heap.lt_size e)) (Nat.ne_of_lt (Nat.lt_trans (Heap.lt_size e) hS1)) (k2 _ _ (hk1 _ _ (k0 _ _ e)))⟩)
  first
    | exact wpAny_pure ⟨plainId_quiet ud_plain _, key⟩
    | exact wpAny_bind (wpAny_pure (wpAny_pure ⟨plainId_quiet ud_plain _, key⟩))
end
/-- a tuple whose object is known: it bears no dict of its own -/
def Tup0 (H : Hp) (a : Addr) (xs : List V) : Prop := ∃ o : Obj, H a = some (.frz o (.tup xs)) ∧ o.dict = none
theorem Tup0.sq {K : PySem.W.Frag} {H : Hp} {a : Addr} {xs : List V} (h : Tup0 H a xs) : SqT K H a xs := by
  obtain ⟨o, e, _⟩ := h
  exact .inl (.inr ⟨o, e⟩)
section
variable {X : Cx}
/-- dict(t), t a tuple of pairs -/
theorem call_dictT (calm : X.calm = true) : CallR X (.type "dict") (fun xs H Q => ∃ (a : Addr) (ps : List Addr) (kvs : List (L2.Key × V)), xs = [.ref a] ∧ Tup0 H a (ps.map V.ref) ∧ Paired (fun p kv => SqT X.K H p [kV kv.1, kv.2]) ps kvs ∧
    ∀ p, H p = none → Q (.ref p) (upd H p (.dK (mergeK [] kvs)))) := by
  intro pins s σ H xs us Q I r q
  obtain ⟨a, ps, kvs, rfl, ⟨o, e, hd⟩, hp, q⟩ := q
  rw [Vals.ref1 r]
  obtain ⟨ho, hz, its, rv, ⟨o', ho', hc, n, hdat⟩⟩ := (show ObjOk X.prog X.w H s.heap a (.frz o (.tup (ps.map V.ref))) from I.hok a _ e)
  rw [ho] at ho'
  cases ho'
  have ei := refs_at rv
  subst ei
  rw [List.length_map] at hz
  obtain ⟨prs, rel, hl, hpr⟩ := pairs_of I hp
  refine new_dict (prs := prs) (I.ok.hd calm) ho hc hd hdat (by simp [hl]) (by rw [hl]; exact hz) (fun j q' e => ?_) fun h' tk hd' k => ?_
  · obtain ⟨b, u, e1, e2, e3⟩ := hpr j q' e
    exact ⟨b, u, by simp [e1], e2, e3⟩
  · have hm : (s.heap.objs.size == sysModules) = false := beq_eq_false_iff_ne.mpr (Nat.ne_of_gt I.big)
    have short : (mergeK [] kvs).length ≤ sizeLine := by
      refine Nat.le_trans (length_mergeK kvs []) ?_
      rw [List.length_nil, Nat.zero_add, rel.length, hl]
      exact hz
    exact ⟨.ref s.heap.objs.size, upd H s.heap.objs.size (.dK (mergeK [] kvs)), I.laid (t' := tk) k (Nat.le_refl _) (show ObjOk X.prog X.w _ _ _ (.dK (mergeK [] kvs)) from ⟨short, hm, merged [] prs, KV.merge rel .nil, hd'⟩), rfl, q _ (I.hok.fresh (Nat.le_refl _))⟩
/-- (a, b, ..), its object known -/
def tTup0 (t : TA) : TE := fun σ H Q => t σ H fun xs G => xs.length ≤ sizeLine ∧ ∀ p o, G p = none → o.dict = none → Q (.ref p) (upd G p (.frz o (.tup xs)))
theorem pe_tup0 {es : List Expr} {t : TA} {x1 : Nat} {pos : Pos} (h : PA X es t) : PE X (.Tuple es x1 pos) (tTup0 t) := by
  refine ⟨fun pins s σ H Q I hq => ?_⟩
  refine wpAny_Tuple_spliced (thn (h.run pos pins s σ H _ I hq) fun us s1 ⟨xs, H1, I1, r, z, q⟩ => ⟨by rw [← r.length]; exact z, ?_⟩)
  refine ⟨.ref s1.heap.objs.size, _, I1.laid (t' := s1.toks) (o := .frz { cls := .type "tuple", data := .seq us.toArray } (.tup xs)) (fun b u e => Heap.get?_push_of_some _ e) (Nat.le_refl _) ?_, rfl, q _ _ (I1.hok.fresh (Nat.le_refl _)) rfl⟩
  exact ⟨Heap.get?_push_size _ rfl, z, us, r, ⟨_, Heap.get?_push_size _ rfl, rfl, _, rfl⟩⟩
/-- tuple(xs) of a list, its object known -/
theorem call_tuple0 : CallR X (.type "tuple") (fun xs H Q => ∃ p ys, xs = [.ref p] ∧ SqL X.K H p ys ∧ ∀ q o, H q = none → o.dict = none → Q (.ref q) (upd H q (.frz o (.tup ys)))) := by
  intro pins s σ H xs us Q I r h
  obtain ⟨p, ys, rfl, hq, q⟩ := h
  rw [Vals.ref1 r]
  obtain ⟨its, r', pl, hz⟩ := I.list hq
  have len := r'.length
  refine call_tuple_list pl.isList (fun h' kp => ?_) (by simp only [List.size_toArray] <;> omega)
  have I1 : Inv X pins σ H { s with heap := h' } := I.kept (t' := s.toks) kp
  refine ⟨.ref h'.objs.size, _, I1.laid (t' := s.toks) (o := .frz { cls := .type "tuple", data := .seq its.toArray } (.tup ys)) (fun b o e => Heap.get?_push_of_some _ e) (Nat.le_refl _) ?_, rfl, q _ _ (I1.hok.fresh (Nat.le_refl _)) rfl⟩
  exact ⟨Heap.get?_push_size _ rfl, hz, its, r', IsTup.new _ _⟩
end
end Dt

/-! Substitutions. -/
namespace Ad
open PySem PySem.Spec PySem.Calls PyProof.Rows L2
abbrev Sb := List (Int × T)
namespace Sb
def look : Sb → Int → Option T
  | [], _ => none
  | (j, t) :: r, i => if j = i then some t else look r i
def put (tb : Sb) (i : Int) (t : T) : Sb := if (look tb i).isSome = true then tb.map (fun e => if e.1 = i then (e.1, t) else e) else tb ++ [(i, t)]
/-- what a variable becomes -/
def asg (tb : Sb) (i : Int) : T := (look tb i).getD (.v i)
theorem look_app (tb : Sb) (i : Int) (t : T) (j : Int) : look (tb ++ [(i, t)]) j = match look tb j with
    | some u => some u
    | none => if i = j then some t else none := by
  induction tb with
  | nil => rfl
  | cons e r ih =>
    obtain ⟨k, u⟩ := e
    show (if k = j then some u else look (r ++ [(i, t)]) j) = match (if k = j then some u else look r j) with | some u => some u | none => _
    by_cases h : k = j
    · rw [if_pos h, if_pos h]
    · rw [if_neg h, if_neg h, ih]
theorem look_map (tb : Sb) (i : Int) (t : T) (j : Int) : look (tb.map (fun e => if e.1 = i then (e.1, t) else e)) j = if i = j ∧ (look tb j).isSome = true then some t else look tb j := by
  induction tb with
  | nil =>
    rw [if_neg (by intro h; cases h.2)]
    rfl
  | cons e r ih =>
    obtain ⟨k, u⟩ := e
    show look ((if k = i then (k, t) else (k, u)) :: _) j = _
    by_cases h : k = i
    · rw [if_pos h]
      show (if k = j then some t else look (r.map _) j) = if i = j ∧ (if k = j then some u else look r j).isSome = true then some t else (if k = j then some u else look r j)
      by_cases hj : k = j
      · rw [if_pos hj, if_pos hj, if_pos ⟨h.symm.trans hj, rfl⟩]
      · have ne : ¬ i = j := fun z => hj (h.trans z)
        rw [if_neg hj, if_neg hj, ih]
    · rw [if_neg h]
      show (if k = j then some u else look (r.map _) j) = if i = j ∧ (if k = j then some u else look r j).isSome = true then some t else (if k = j then some u else look r j)
      by_cases hj : k = j
      · rw [if_pos hj, if_pos hj, if_neg (fun z => h (hj.trans z.1.symm))]
      · rw [if_neg hj, if_neg hj, ih]
theorem look_put (tb : Sb) (i : Int) (t : T) (j : Int) : look (put tb i t) j = if i = j then some t else look tb j := by
  unfold put
  by_cases h : (look tb i).isSome = true
  · rw [if_pos h, look_map]
    by_cases e : i = j
    · subst e
      rw [if_pos ⟨rfl, h⟩, if_pos rfl]
    · rw [if_neg (fun z => e z.1), if_neg e]
  · rw [if_neg h, look_app]
    by_cases e : i = j
    · subst e
      rw [if_pos rfl]
      cases z : look tb i with
      | none =>
        show some t = if i = i then some t else none
        exact (if_pos rfl).symm
      | some u =>
        rw [z] at h
        exact absurd rfl h
    · rw [if_neg e, if_neg e]
      cases look tb j <;> rfl
theorem look_key (tb : Sb) (i : Int) : (look tb i).isSome = true ↔ i ∈ tb.map (·.1) := by
  induction tb with
  | nil => exact ⟨(fun h => nomatch h), (fun h => nomatch h)⟩
  | cons e r ih =>
    obtain ⟨k, u⟩ := e
    show (if k = i then some u else look r i).isSome = true ↔ i ∈ k :: r.map (·.1)
    by_cases h : k = i
    · rw [if_pos h]
      exact ⟨fun _ => h ▸ List.mem_cons_self, fun _ => rfl⟩
    · rw [if_neg h, ih, List.mem_cons]
      exact ⟨.inr, fun z => z.elim (fun y => absurd y.symm h) id⟩
theorem keys_put (tb : Sb) (i : Int) (t : T) : (put tb i t).map (·.1) = if i ∈ tb.map (·.1) then tb.map (·.1) else tb.map (·.1) ++ [i] := by
  unfold put
  by_cases h : (look tb i).isSome = true
  · rw [if_pos h, if_pos ((look_key tb i).1 h), List.map_map]
    refine List.map_congr_left fun e _ => ?_
    show (if e.1 = i then (e.1, t) else e).1 = e.1
    split <;> rfl
  · rw [if_neg h, if_neg (fun z => h ((look_key tb i).2 z)), List.map_append]
    rfl
theorem nodup_put {tb : Sb} (h : (tb.map (·.1)).Nodup) (i : Int) (t : T) : ((put tb i t).map (·.1)).Nodup := by
  rw [keys_put]
  split
  · exact h
  · rename_i z
    rw [List.nodup_append]
    exact ⟨h, List.nodup_cons.mpr ⟨(fun y => nomatch y), List.nodup_nil⟩, fun a ha b hb e => z (by rw [List.mem_singleton.mp hb] at e; exact e ▸ ha)⟩
theorem len_put (tb : Sb) (i : Int) (t : T) : (put tb i t).length ≤ tb.length + 1 := by
  unfold put
  split
  · rw [List.length_map]
    exact Nat.le_succ _
  · rw [List.length_append]
    exact Nat.le_refl _
theorem mem_look {tb : Sb} (h : (tb.map (·.1)).Nodup) {i : Int} {t : T} : (i, t) ∈ tb ↔ look tb i = some t := by
  induction tb with
  | nil => exact ⟨(fun h => nomatch h), (fun h => nomatch h)⟩
  | cons e r ih =>
    obtain ⟨k, u⟩ := e
    obtain ⟨h1, h2⟩ := List.nodup_cons.mp h
    show _ ↔ (if k = i then some u else look r i) = some t
    by_cases z : k = i
    · rw [if_pos z, List.mem_cons]
      subst z
      constructor
      · rintro (y | y)
        · cases y
          rfl
        · exact absurd (List.mem_map.mpr ⟨_, y, rfl⟩) h1
      · intro y
        cases y
        exact .inl rfl
    · rw [if_neg z, List.mem_cons, ← ih h2]
      exact ⟨fun y => y.elim (fun x => absurd (congrArg Prod.fst x).symm z) id, .inr⟩
theorem look_mem {tb : Sb} {i : Int} {t : T} (h : look tb i = some t) : (i, t) ∈ tb := by
  induction tb with
  | nil => cases h
  | cons e r ih =>
    obtain ⟨k, u⟩ := e
    have h' : (if k = i then some u else look r i) = some t := h
    by_cases z : k = i
    · rw [if_pos z] at h'
      cases h'
      subst z
      exact List.mem_cons_self
    · rw [if_neg z] at h'
      exact List.mem_cons_of_mem _ (ih h')
end Sb
namespace T
mutual
def fill (s : Int → T) : T → T
  | .v i => s i
  | .f x ts => .f x (fillL s ts)
def fillL (s : Int → T) : List T → List T
  | [] => []
  | t :: ts => fill s t :: fillL s ts
end
theorem fillL_map (s : Int → T) : ∀ ts : List T, fillL s ts = ts.map (fill s)
  | [] => rfl
  | t :: ts => congrArg (fill s t :: ·) (fillL_map s ts)
mutual
theorem fill_fill (s r : Int → T) : ∀ t : T, fill r (fill s t) = fill (fun i => fill r (s i)) t
  | .v i => rfl
  | .f x ts => congrArg (T.f x) (fillL_fill s r ts)
theorem fillL_fill (s r : Int → T) : ∀ ts : List T, fillL r (fillL s ts) = fillL (fun i => fill r (s i)) ts
  | [] => rfl
  | t :: ts => by
    show fill r (fill s t) :: fillL r (fillL s ts) = _
    rw [fill_fill s r t, fillL_fill s r ts]
    rfl
end
mutual
theorem fill_congr {s r : Int → T} : ∀ t : T, (∀ j ∈ t.vars, s j = r j) → fill s t = fill r t
  | .v i, h => h i List.mem_cons_self
  | .f x ts, h => congrArg (T.f x) (fillL_congr ts h)
theorem fillL_congr {s r : Int → T} : ∀ ts : List T, (∀ j ∈ varsL ts, s j = r j) → fillL s ts = fillL r ts
  | [], _ => rfl
  | t :: ts, h => by
    show fill s t :: fillL s ts = _
    rw [fill_congr t fun j hj => h j (List.mem_append_left _ hj), fillL_congr ts fun j hj => h j (List.mem_append_right _ hj)]
    rfl
end
mutual
theorem fill_size {s : Int → T} {M : Nat} (one : 1 ≤ M) : ∀ t : T, (∀ j ∈ t.vars, (s j).size ≤ M) → (fill s t).size ≤ t.size * M
  | .v i, h => by
    have := h i List.mem_cons_self
    show (s i).size ≤ 1 * M
    omega
  | .f x ts, h => by
    have := fillL_size one ts h
    show 1 + sizeL (fillL s ts) ≤ (1 + sizeL ts) * M
    rw [Nat.add_mul]
    omega
theorem fillL_size {s : Int → T} {M : Nat} (one : 1 ≤ M) : ∀ ts : List T, (∀ j ∈ varsL ts, (s j).size ≤ M) → sizeL (fillL s ts) ≤ sizeL ts * M
  | [], _ => Nat.zero_le _
  | t :: ts, h => by
    have h1 := fill_size one t fun j hj => h j (List.mem_append_left _ hj)
    have h2 := fillL_size one ts fun j hj => h j (List.mem_append_right _ hj)
    show size (fill s t) + sizeL (fillL s ts) ≤ (size t + sizeL ts) * M
    rw [Nat.add_mul]
    omega
end
mutual
theorem fill_dep {s : Int → T} {D : Nat} : ∀ t : T, (∀ j ∈ t.vars, (s j).dep ≤ D) → (fill s t).dep ≤ t.dep + D
  | .v i, h => by
    have := h i List.mem_cons_self
    show (s i).dep ≤ 0 + D
    omega
  | .f x ts, h => by
    have := fillL_dep ts h
    show 1 + depL (fillL s ts) ≤ 1 + depL ts + D
    omega
theorem fillL_dep {s : Int → T} {D : Nat} : ∀ ts : List T, (∀ j ∈ varsL ts, (s j).dep ≤ D) → depL (fillL s ts) ≤ depL ts + D
  | [], _ => Nat.zero_le _
  | t :: ts, h => by
    have h1 := fill_dep t fun j hj => h j (List.mem_append_left _ hj)
    have h2 := fillL_dep ts fun j hj => h j (List.mem_append_right _ hj)
    show max (dep (fill s t)) (depL (fillL s ts)) ≤ max (dep t) (depL ts) + D
    omega
end
mutual
theorem fill_named {s : Int → T} : ∀ t : T, t.named = true → (∀ j ∈ t.vars, (s j).named = true) → (fill s t).named = true
  | .v i, _, h => h i List.mem_cons_self
  | .f x ts, n, h => by
    have n' : (nameOk x && namedL ts) = true := n
    rw [Bool.and_eq_true] at n'
    show (nameOk x && namedL (fillL s ts)) = true
    rw [n'.1, fillL_named ts n'.2 h]
    rfl
theorem fillL_named {s : Int → T} : ∀ ts : List T, namedL ts = true → (∀ j ∈ varsL ts, (s j).named = true) → namedL (fillL s ts) = true
  | [], _, _ => rfl
  | t :: ts, n, h => by
    have n' : (named t && namedL ts) = true := n
    rw [Bool.and_eq_true] at n'
    show (named (fill s t) && namedL (fillL s ts)) = true
    rw [fill_named t n'.1 fun j hj => h j (List.mem_append_left _ hj), fillL_named ts n'.2 fun j hj => h j (List.mem_append_right _ hj)]
    rfl
end
def isVar (i : Int) : T → Bool
  | .v j => decide (j = i)
  | .f _ _ => false
theorem isVar_iff {i : Int} {t : T} : isVar i t = true ↔ t = .v i := by
  cases t with
  | v j =>
    show decide (j = i) = true ↔ _
    rw [decide_eq_true_eq]
    exact ⟨fun e => congrArg T.v e, fun e => T.v.inj e⟩
  | f x ts => exact ⟨(fun h => nomatch h), (fun h => nomatch h)⟩
theorem eqv_var (t : T) (i : Int) : PyData.eqv t.d (.int i) = isVar i t := by
  cases t with
  | v j =>
    show PyData.eqv (.int j) (.int i) = decide (j = i)
    rw [PyData.eqv]
    first
      | rfl
      | (cases z : decide (j = i) <;> simp_all)
  | f x ts =>
    show PyData.eqv (.tuple _) (.int i) = false
    rw [PyData.eqv]
    all_goals (intros; first | contradiction | (intro z; cases z))
end T
namespace Sb
/-- the form of a substitution: rising, nothing that stays -/
structure Norm (tb su : Sb) : Prop where
  rising : (su.map (·.1)).Pairwise (· < ·)
  has : ∀ i t, (i, t) ∈ su ↔ look tb i = some t ∧ t.isVar i = false
theorem rising_nodup {l : List Int} (h : l.Pairwise (· < ·)) : l.Nodup := h.imp fun z e => by
  rw [e] at z
  exact Int.lt_irrefl _ z
theorem Norm.one {tb tb' su su' : Sb} (a : Norm tb su) (b : Norm tb' su') (same : ∀ i, look tb i = look tb' i) : su = su' := by
  have keys : su.map (·.1) = su'.map (·.1) := by
    refine rising_one' a.rising b.rising fun j => ?_
    constructor
    · intro h
      obtain ⟨⟨i, t⟩, h1, rfl⟩ := List.mem_map.mp h
      have h2 := (a.has i t).1 h1
      rw [same] at h2
      exact List.mem_map.mpr ⟨_, (b.has i t).2 h2, rfl⟩
    · intro h
      obtain ⟨⟨i, t⟩, h1, rfl⟩ := List.mem_map.mp h
      have h2 := (b.has i t).1 h1
      rw [← same] at h2
      exact List.mem_map.mpr ⟨_, (a.has i t).2 h2, rfl⟩
  have at' : ∀ {tb su : Sb}, Norm tb su → su.map some = su.map fun e => (look tb e.1).map fun t => (e.1, t) := by
    intro tb su n
    refine List.map_congr_left fun e he => ?_
    obtain ⟨i, t⟩ := e
    rw [((n.has i t).1 he).1]
    rfl
  have e1 : su.map some = (su.map (·.1)).map fun i => (look tb i).map fun t => (i, t) := by
    rw [at' a, List.map_map]
    rfl
  have e2 : su'.map some = (su'.map (·.1)).map fun i => (look tb' i).map fun t => (i, t) := by
    rw [at' b, List.map_map]
    rfl
  have e3 : su.map some = su'.map some := by
    rw [e1, e2, keys]
    exact List.map_congr_left fun i _ => by rw [same]
  exact List.map_inj_right (fun x y h => Option.some.inj h) |>.1 e3
where
  rising_one' : ∀ {as bs : List Int}, as.Pairwise (· < ·) → bs.Pairwise (· < ·) → (∀ j, j ∈ as ↔ j ∈ bs) → as = bs
    | [], [], _, _, _ => rfl
    | [], b :: bs, _, _, h => nomatch (h b).2 List.mem_cons_self
    | a :: as, [], _, _, h => nomatch (h a).1 List.mem_cons_self
    | a :: as, b :: bs, pa, pb, h => by
      obtain ⟨a1, a2⟩ := List.pairwise_cons.mp pa
      obtain ⟨b1, b2⟩ := List.pairwise_cons.mp pb
      have e : a = b := by
        rcases List.mem_cons.mp ((h a).1 List.mem_cons_self) with z | z
        · exact z
        · rcases List.mem_cons.mp ((h b).2 List.mem_cons_self) with y | y
          · exact y.symm
          · have h1 := b1 a z
            have h2 := a1 b y
            omega
      subst e
      congr 1
      refine rising_one' a2 b2 fun j => ⟨fun m => ?_, fun m => ?_⟩
      · rcases List.mem_cons.mp ((h j).1 (List.mem_cons_of_mem _ m)) with z | z
        · have := a1 j m
          omega
        · exact z
      · rcases List.mem_cons.mp ((h j).2 (List.mem_cons_of_mem _ m)) with z | z
        · have := b1 j m
          omega
        · exact z
/-- a substitution in its form does what the table does -/
theorem Norm.asg {tb su : Sb} (n : Norm tb su) (i : Int) : asg su i = asg tb i := by
  have nd := rising_nodup n.rising
  unfold Sb.asg
  cases h : look su i with
  | some t =>
    have m := (mem_look nd).2 h
    rw [((n.has i t).1 m).1]
  | none =>
    cases h2 : look tb i with
    | none => rfl
    | some t =>
      cases h3 : t.isVar i with
      | true => exact (T.isVar_iff.1 h3).symm
      | false =>
        have m := (mem_look nd).1 ((n.has i t).2 ⟨h2, h3⟩)
        rw [h] at m
        cases m
end Sb
/-! ### in the heap -/
/-- a table's entries -/
def TV (K : PySem.W.Frag) (H : Hp) (tb : Sb) (kvs : List (L2.Key × V)) : Prop := F2 (fun e kv => kv.1 = .inl e.1 ∧ Tm K H e.2 kv.2) tb kvs
section
variable {K : PySem.W.Frag} {H H' : Hp}
theorem TV.mono (k : TK H H') {tb : Sb} {kvs : List (L2.Key × V)} (h : TV K H tb kvs) : TV K H' tb kvs := F2.mono (fun _ _ z => ⟨z.1, Tm.mono k _ _ z.2⟩) h
theorem TV.val : ∀ {tb : Sb} {kvs : List (L2.Key × V)}, TV K H tb kvs → ∀ i, (tb.look i = none ∧ valV kvs (.inl i) = none) ∨ ∃ t v, tb.look i = some t ∧ valV kvs (.inl i) = some v ∧ Tm K H t v
  | [], kvs, h, i => by
    cases (show kvs = [] from h)
    exact .inl ⟨rfl, rfl⟩
  | (j, t) :: tb, kvs, h, i => by
    obtain ⟨kv, r, rfl, ⟨e, tm⟩, rest⟩ := h
    by_cases z : j = i
    · subst z
      exact .inr ⟨t, kv.2, if_pos rfl, valV_pos e, tm⟩
    · have ne : ¬ kv.1 = .inl i := fun y => z (by rw [e] at y; exact Sum.inl.inj y)
      rw [valV_neg ne]
      have e2 : Sb.look ((j, t) :: tb) i = Sb.look tb i := if_neg z
      rw [e2]
      exact TV.val (tb := tb) rest i
theorem TV.put {tb : Sb} {kvs : List (L2.Key × V)} (h : TV K H tb kvs) (i : Int) {t : T} {v : V} (tv : Tm K H t v) : TV K H (tb.put i t) (putK kvs (.inl i) v) := by
  unfold Sb.put putK
  have e : ((kvs.any fun kv => decide (kv.1 = .inl i)) = true) = ((tb.look i).isSome = true) := by
    rw [valV_any]
    rcases h.val i with ⟨a, b⟩ | ⟨t', v', a, b, _⟩
    · rw [a, b]
      rfl
    · rw [a, b]
      rfl
  simp only [e]
  split
  · clear e
    rename_i z
    clear z
    induction tb generalizing kvs with
    | nil =>
      cases (show kvs = [] from h)
      exact rfl
    | cons x tb ih =>
      obtain ⟨kv, r, rfl, ⟨e, tm⟩, rest⟩ := h
      refine ⟨_, _, rfl, ?_, ih rest⟩
      show (if kv.1 = .inl i then (kv.1, v) else kv).1 = .inl (if x.1 = i then (x.1, t) else x).1 ∧ Tm K H (if x.1 = i then (x.1, t) else x).2 (if kv.1 = .inl i then (kv.1, v) else kv).2
      by_cases y : x.1 = i
      · rw [if_pos y, if_pos (by rw [e, y])]
        exact ⟨e, tv⟩
      · rw [if_neg y, if_neg (fun z => y (by rw [e] at z; exact Sum.inl.inj z))]
        exact ⟨e, tm⟩
  · exact F2.app h (F2.one ⟨rfl, tv⟩)
theorem TV.keys : ∀ {tb : Sb} {kvs : List (L2.Key × V)}, TV K H tb kvs → kvs.map (·.1) = (tb.map (·.1)).map Sum.inl
  | [], kvs, h => by
    cases (show kvs = [] from h)
    rfl
  | e :: tb, kvs, h => by
    obtain ⟨kv, r, rfl, ⟨z, _⟩, rest⟩ := h
    show kv.1 :: r.map (·.1) = .inl e.1 :: _
    rw [z, TV.keys (tb := tb) rest]
theorem valV_out {kvs : List (L2.Key × V)} {k : L2.Key} (h : k ∉ kvs.map (·.1)) : valV kvs k = none := by
  induction kvs with
  | nil => rfl
  | cons p r ih =>
    rw [valV_neg (fun z => h (by rw [← z]; exact List.mem_cons_self))]
    exact ih fun z => h (List.mem_cons_of_mem _ z)
/-- pairs of unlike keys: all of them -/
theorem merge_all : ∀ (more kvs : List (L2.Key × V)), ((kvs ++ more).map (·.1)).Nodup → mergeK kvs more = kvs ++ more
  | [], kvs, _ => (List.append_nil _).symm
  | p :: more, kvs, h => by
    show mergeK (putK kvs p.1 p.2) more = _
    have out : p.1 ∉ kvs.map (·.1) := by
      intro z
      rw [List.map_append, List.nodup_append] at h
      exact h.2.2 p.1 z p.1 (by rw [List.map_cons]; exact List.mem_cons_self) rfl
    rw [putK_new _ (valV_out out)]
    have e : kvs ++ [(p.1, p.2)] ++ more = kvs ++ p :: more := by rw [List.append_assoc]; rfl
    rw [merge_all more _ (by rw [e]; exact h), e]
/-- a pair of a substitution -/
def SP (K : PySem.W.Frag) (H : Hp) (e : Int × T) (b : Addr) : Prop := ∃ v, SqT K H b [.int e.1, v] ∧ Tm K H e.2 v
/-- a substitution's value -/
def Su (K : PySem.W.Frag) (H : Hp) (su : Sb) (x : V) : Prop := ∃ (a : Addr) (bs : List Addr), x = .ref a ∧ Dt.Tup0 H a (bs.map V.ref) ∧ F2 (SP K H) su bs
theorem SP.mono (k : TK H H') (e : Int × T) (b : Addr) (h : SP K H e b) : SP K H' e b := by
  obtain ⟨v, s, t⟩ := h
  exact ⟨v, k.sq s, Tm.mono k _ _ t⟩
theorem tup0_mono (k : TK H H') {a : Addr} {xs : List V} (h : Dt.Tup0 H a xs) : Dt.Tup0 H' a xs := by
  obtain ⟨o, e, d⟩ := h
  exact ⟨o, (k a xs).2 o e, d⟩
theorem Su.mono (k : TK H H') {su : Sb} {x : V} (h : Su K H su x) : Su K H' su x := by
  obtain ⟨a, bs, e, t, f⟩ := h
  exact ⟨a, bs, e, tup0_mono k t, F2.mono (SP.mono k) f⟩
/-- its pairs as entries -/
theorem sp_pairs : ∀ {su : Sb} {bs : List Addr}, F2 (SP K H) su bs → ∃ kvs, Paired (fun p kv => SqT K H p [kV kv.1, kv.2]) bs kvs ∧ TV K H su kvs
  | [], bs, h => by
    cases (show bs = [] from h)
    exact ⟨[], .nil, rfl⟩
  | e :: su, bs, h => by
    obtain ⟨b, r, rfl, ⟨v, s, t⟩, rest⟩ := h
    obtain ⟨kvs, p, q⟩ := sp_pairs (su := su) rest
    exact ⟨(.inl e.1, v) :: kvs, .cons s p, _, _, rfl, ⟨rfl, t⟩, q⟩
end
end Ad

namespace Ad
open PySem PySem.Spec PySem.Calls PyProof.Rows L2
def spFilled (K : PySem.W.Frag) (n : Nat) : Sp := fun vs H Q _ => ∃ (t : T) (x : V) (d : Addr) (tb : Sb) (kvs : List (L2.Key × V)), vs = [x, .ref d] ∧ Tm K H t x ∧ H d = some (.dK kvs) ∧ TV K H tb kvs ∧ t.dep < n ∧ t.size ≤ 10000 ∧
  ∀ v H', Same H H' → Tm K H' (T.fill tb.asg t) v → Q v H'
def spPutIn (K : PySem.W.Frag) (n : Nat) : Sp := fun vs H Q _ => ∃ (t : T) (su : Sb) (x y : V), vs = [x, y] ∧ Tm K H t x ∧ Su K H su y ∧ (su.map (·.1)).Nodup ∧ t.dep < n ∧ t.size ≤ 10000 ∧ ∀ v H', Same H H' → Tm K H' (T.fill su.asg t) v → Q v H'
end Ad

/-! The run of a generator expression: its context, its start. -/
namespace Gx
open PySem PySem.Spec PySem.Calls PyProof.Rows L2
/-- the context of the run: its frame behind those that stood at s, its iterator's objects at fp -/
abbrev ctx (X : Cx) (s : Shared) (H : Hp) (e : Env) (fp : List Addr) (A : Around) (pn : List (Addr × Obj)) : Cx :=
  { X with A := A.deeper e, s_0 := s, H_0 := H, env := e, outer := X.stack, stack := e :: X.stack, ex := fp, fn := fun _ => false, calm := true, pn := pn, xe := fun _ _ => False }
theorem over_gen {A : Around} {e : Env} {elt tg iter : Expr} {ifs : List Expr} {scope : Scope} {pos : Pos} {it acc : Value} : A.over (.compLoop (.GeneratorExp elt [⟨tg, iter, ifs, 0⟩] scope pos) 0 it acc e) [] = A.deeper e := by
  first
    | rfl
    | (obtain ⟨hd, d, fr, gs, u⟩ := A; simp [Around.over, Around.deeper, marksOver, frameCount, unitsOf, envsOf, guardsOf, pushEnvs, pushGuards, Code.envs, Code.env?, Code.isFrame, Code.guards, Code.isGuard, Code.weight, Code.frames, Code.isCreation, Code.isCaller, Code.cUnits])
theorem over_start {A : Around} {e : Env} {elt tg iter : Expr} {ifs : List Expr} {scope : Scope} {pos : Pos} {it acc : Value} : A.over (.compStart (.GeneratorExp elt [⟨tg, iter, ifs, 0⟩] scope pos) 0 it acc e) [] = A.deeper e := by
  first
    | rfl
    | (obtain ⟨hd, d, fr, gs, u⟩ := A; simp [Around.over, Around.deeper, marksOver, frameCount, unitsOf, envsOf, guardsOf, pushEnvs, pushGuards, Code.envs, Code.env?, Code.isFrame, Code.guards, Code.isGuard, Code.weight, Code.frames, Code.isCreation, Code.isCaller, Code.cUnits])
section
variable {X : Cx} {pins : List (Addr × Obj)} {σ : L2.St} {H : Hp} {s : Shared}
theorem start {scope : Scope} {own : List (PySem.Str × Nat)} {fp : List Addr} {e : Env} {A : Around} {pn pins' : List (Addr × Obj)} {s' : Shared} {m : Str → Option Value} (I : Inv X pins σ H s) (ok : BlkOk X.N X.env.scope scope own) (nodup : X.N.Nodup) (noCell : ∀ y ∈ scope.names, y.2 ≠ .cell)
    (sc : e.scope = scope) (loc : e.locals = s.heap.objs.size) (glob : e.globals = mainGlobals) (blt : e.builtins = builtinsNs) (cells : e.cells = cloFrom X.env.cells scope.names []) (fr : e.frame = some e.locals)
    (ff : ∀ b ∈ fp, FpOk X pins H b ∧ b < s.heap.objs.size) (calm : A.handled = none) (frames : A.frames = some X.stack)
    (kp : ∀ b o, s.heap.get? b = some o → s'.heap.get? b = some o) (os : s'.os = s.os) (bare : AllBare s'.gens) (ns : s'.heap.Ns e.locals m)
    (pinned : ∀ p ∈ pn ++ pins', s'.heap.get? p.1 = some p.2 ∧ s.heap.objs.size < p.1 ∧ ∀ v, p.2.data ≠ .cell v) :
    Inv (ctx X s H e fp A pn) pins' (wipe σ (own.map (·.2))) H s' := by
  have from' : ∀ {y c}, e.cells.lookup y = some c → X.env.cells.lookup y = some c ∧ c < s.heap.objs.size := by
    intro y c h
    rw [cells] at h
    rcases cloFrom_mem (PySem.mem_of_lookup h) with z | ⟨h1, rfl⟩
    · cases z
    · obtain ⟨c, hc⟩ : ∃ c, X.env.cells.lookup y = some c := by
        rcases ok.free _ h1 rfl with k | k
        · exact I.ok.has _ (.inl k)
        · exact I.ok.has _ (.inr k)
      rw [hc]
      obtain ⟨w, z⟩ := I.cell _ _ hc
      exact ⟨rfl, z.lt⟩
  have to' : ∀ {y}, scope.names.lookup y = some .free → ∃ c, e.cells.lookup y = some c ∧ X.env.cells.lookup y = some c := by
    intro y h
    obtain ⟨c, hc⟩ := mem_lookup (cloFrom_has (cells := X.env.cells) (acc := []) (PySem.mem_of_lookup h))
    rw [← cells] at hc
    exact ⟨c, hc, (from' hc).1⟩
  refine ⟨?_, os, bare, Un.kept kp, ⟨m, ns, ?_⟩, ?_, ?_, ?_, ?_, I.hok.kept kp, ?_⟩
  · refine ⟨I.ok.mod, ?_, glob, blt, ?_, ?_, ?_, (fun x c z => nomatch z), fun _ => calm, Around.frames_deeper frames, .inr ⟨rfl, fr⟩, ?_, I.bs, Nat.le_trans I.ok.bsz I.sz, ?_, ?_, I.stack, I.stkFree⟩
    · show e.scope.kind = _
      rw [sc]
      exact ok.kind
    · show s.heap.objs.size ≤ e.locals
      rw [loc]
      exact Nat.le_refl _
    · intro x y c h1 h2
      exact I.ok.inj x y c (from' h1).1 (from' h2).1
    · intro x hx
      show ∃ c, e.cells.lookup x = some c
      have key : ∀ k, e.kindOf x = some k → (k = .cell ∨ k = .free) → ∃ c, e.cells.lookup x = some c := by
        intro k hk hk'
        unfold Env.kindOf at hk
        rw [sc] at hk
        rcases hk' with rfl | rfl
        · exact absurd rfl (noCell _ (PySem.mem_of_lookup hk))
        · obtain ⟨c, h, _⟩ := to' hk
          exact ⟨c, h⟩
      rcases hx with hx | hx
      · exact key _ hx (.inl rfl)
      · exact key _ hx (.inr rfl)
    · intro b hb
      refine ⟨?_, fun y c h z => ?_⟩
      · show b ≠ e.locals
        rw [loc]
        exact Nat.ne_of_lt (ff b hb).2
      · exact (ff b hb).1.2.2.2.2.1 y c (from' h).1 z
    · intro b o h hb
      rcases (ff b hb).1.2.2.2.1 with z | z
      · exact I.ok.noex b o h z
      · exact absurd (Nat.lt_of_lt_of_le (Heap.lt_size h) (Nat.le_trans I.ok.bsz z)) (Nat.lt_irrefl _)
    · intro b hb z
      rcases List.mem_cons.mp (I.stkSub b z) with z | z
      · exact (ff b hb).1.2.1 z
      · exact (ff b hb).1.2.2.1 z
  · intro i x v h1 h2 h3
    obtain ⟨h2, off⟩ := wipe_some h2
    have isFree : scope.names.lookup x = some .free := by
      have h3 : Vis e.scope x := h3
      rw [sc] at h3
      have no : ∀ k, scope.names.lookup x = some k → k = .local → False := by
        intro k hk hl
        rcases ok.own _ (PySem.mem_of_lookup hk) (.inl hl) with z | z
        · obtain ⟨p, hp, hpx⟩ := List.mem_map.mp z
          have h4 := ok.ix p hp
          have h5 : p.1 = x := hpx
          rw [h5] at h4
          exact off (List.mem_map.mpr ⟨p, hp, nodup_ix nodup h4 h1⟩)
        · exact z (List.mem_of_getElem? h1)
      rcases h3 with k | k | k
      · exact (no _ k rfl).elim
      · exact absurd rfl (noCell _ (PySem.mem_of_lookup k))
      · exact k
    obtain ⟨m0, _, look⟩ := I.loc
    have vis : Vis X.env.scope x := (ok.free _ (PySem.mem_of_lookup isFree) rfl).elim (fun k => .inr (.inl k)) fun k => .inr (.inr k)
    obtain ⟨u, r, q⟩ := look i x v h1 h2 vis
    obtain ⟨c, c1, c2⟩ := to' isFree
    refine ⟨u, r, .inr ⟨.inr ?_, c, c1, ?_⟩⟩
    · show e.scope.names.lookup x = some .free
      rw [sc]
      exact isFree
    · rcases q with ⟨k, _⟩ | ⟨_, c', e', z⟩
      · have k : X.env.scope.names.lookup x = some .local := k
        rcases ok.free _ (PySem.mem_of_lookup isFree) rfl with k' | k' <;> rw [show X.env.scope.names.lookup x = _ from k'] at k <;> cases k
      · rw [c2] at e'
        cases e'
        exact z.keeps kp
  · intro x c h
    obtain ⟨v, z⟩ := I.cell x c (from' h).1
    exact ⟨v, z.keeps kp⟩
  · show H e.locals = none
    rw [loc]
    exact I.hok.fresh (Nat.le_refl _)
  · intro x c h
    exact I.freeC x c (from' h).1
  · intro p hp
    obtain ⟨h1, h2, h3⟩ := pinned p hp
    refine ⟨h1, I.hok.fresh (Nat.le_of_lt h2), ?_, ?_, h3⟩
    · show p.1 ≠ e.locals
      rw [loc]
      exact Nat.ne_of_gt h2
    · intro z
      rcases List.mem_cons.mp (I.stkSub _ z) with z | z
      · have := I.lt
        rw [z] at h2
        exact absurd (Nat.lt_trans h2 this) (Nat.lt_irrefl _)
      · exact I.nofs (Nat.le_of_lt h2) z
  · rw [wipe_length]
    exact I.len
end
end Gx

/-! The run of a generator expression: its loop. -/
namespace Gx
open PySem PySem.Spec PySem.Calls PyProof.Rows L2
/-- what the run will hand out: J the walk; W turn, measure, what is out, heap -/
def Turns (J : It) (g : TG) (tt : TT) (te : TE) (vs : List Nat) (σ : L2.St) (cont : List V → Hp → Prop) (W : Nat → Nat → List V → Hp → Prop) : Prop := ∀ i m ys H, W i m ys H →
  (J.stop i H ∧ cont ys H) ∨ (J.go i H ∧ ∃ Nx : List V → Hp → Prop, (∀ ys' H', Nx ys' H' → ∃ m', m' < m ∧ W (i + 1) m' ys' H') ∧ ∀ x H', J.yld i H x H' → g x (wipe σ vs) H' fun σ2 H2 => wipe σ2 vs = wipe σ vs ∧ tt σ2 H2 fun b H3 =>
    if b = true then te σ2 H3 fun y H4 => ys.length < sizeLine ∧ Nx (ys ++ [y]) H4 else Nx ys H3)
/-- the end of such a run -/
def End (Y : Cx) (S : Addr) (cont : List V → Hp → Prop) : GenEnd := fun n _ r s => r = .ok .next ∧ ∃ ys ip σ H, n + ys.length = sizeLine ∧ GI Y S ip ys σ H s ∧ cont ys H
section
variable {Y : Cx} {A : Around} {S it : Addr} {fp : List Addr} {tn : Nat → Heap → Prop} {J : It} {elt tg iter : Expr} {ifs : List Expr} {scope : Scope} {pos : Pos} {g : TG} {tt : TT} {te : TE} {vs : List Nat} {σ : L2.St} {cont : List V → Hp → Prop} {W : Nat → Nat → List V → Hp → Prop}
theorem run (hov : A.over (.compLoop (.GeneratorExp elt [⟨tg, iter, ifs, 0⟩] scope pos) 0 (.ref it) .none Y.env) [] = Y.A) (calm : Y.calm = true) (co : Y.env.scope.isCoroutine = false) (noX : ∀ e s, Y.xe e s → False) (T : Turn Y.prog Y.w Y.K tg J fp it tn) (ex : Y.ex = fp)
    (pnS : ∀ p ∈ Y.pn, p.1 ≠ S) (pnF : ∀ p ∈ Y.pn, p.1 ∉ fp) (young : Apart Y S) (offS : S ∉ fp) (pg : PG Y tg g) (pt : PTs Y ifs tt) (pe : PE Y elt te) (turns : Turns J g tt te vs σ cont W) :
    ∀ (m n i : Nat) (ys : List V) (s₀ s : Shared) (H : Hp), n + ys.length = sizeLine → W i m ys H → GI Y S [] ys (wipe σ vs) H s → tn i s.heap → (∀ b ∈ fp, H b = none) →
      Seg (model Y.prog Y.w) A (End Y S cont) (GY Y S) n s₀ (.compLoop (.GeneratorExp elt [⟨tg, iter, ifs, 0⟩] scope pos) 0 (.ref it) .none Y.env)
        ((model Y.prog Y.w).den (.compLoop (.GeneratorExp elt [⟨tg, iter, ifs, 0⟩] scope pos) 0 (.ref it) .none Y.env)) [] s := by
  intro m
  induction m using Nat.strongRecOn with
  | ind m ih =>
    intro n i ys s₀ s H len w gi st none0
    obtain ⟨acc, cc, rv, I⟩ := gi
    have apart : ∀ {σ' : L2.St} {H' : Hp} {s' : Shared}, Inv Y [(S, lstObj acc cc)] σ' H' s' → (∀ b ∈ fp, H' b = none) → ∀ b ∈ fp, FpOk Y [(S, lstObj acc cc)] H' b := by
      intro σ' H' s' I' hn b hb
      have hb' : b ∈ Y.ex := by rw [ex]; exact hb
      refine ⟨hn b hb, (I'.ok.exf b hb').1, I'.ok.exfs b hb', .inl hb', fun x c e => (I'.ok.exf b hb').2 x c e, fun p hp z => ?_⟩
      rcases List.mem_append.mp hp with q | q
      · exact pnF p q (z ▸ hb)
      · rw [List.mem_singleton.mp q] at z
        have z' : S = b := z
        rw [← z'] at hb
        exact offS hb
    show Seg _ A _ _ _ s₀ _ ((compTurn (.GeneratorExp elt [⟨tg, iter, ifs, 0⟩] scope pos) 0 (.ref it) .none Y.env).onRaise (leaving Y.env)) [] s
    rw [compTurn_gen, Sem.onRaise_eq_wrap]
    refine seg_bind_wrap (wpAny_standAt ?_)
    refine seg_bind_wrap ?_
    rw [hov]
    rcases turns i m ys H w with ⟨stop, here⟩ | ⟨more, Nx, down, step⟩
    · refine wpAny_mono (T.done Y rfl rfl rfl calm i [(S, lstObj acc cc)] s _ H (fun _ _ => False) I (apart I none0) st stop) (fun r s6 r6 => ?_) fun x s' q => q.elim
      obtain ⟨rfl, I6⟩ := r6
      exact seg_end (.ok .next) ⟨rfl, ys, [], _, H, len, ⟨acc, cc, rv, I6⟩, here⟩
    · refine wpAny_mono (T.item Y rfl rfl rfl calm i [(S, lstObj acc cc)] s _ H (fun _ _ => False) I (apart I none0) st more) (fun r s6 r6 => ?_) fun x s' q => q.elim
      obtain ⟨u, rfl, h6⟩ := r6
      refine seg_bind_wrap ?_
      rw [hov]
      refine wpAny_mono h6 (fun _ s7 r7 => ?_) fun x s' q => q.elim
      obtain ⟨x, H7, I7, rx, y7, st7, n7⟩ := r7
      refine seg_bind_wrap ?_
      rw [hov]
      refine wpAny_mono (pg.run _ s7 _ H7 x u _ (I7.pinned (apart I7 n7) (T.obj _ _ st7)) rx (step x H7 y7)) (fun _ s8 r8 => ?_) fun x s' q => (noX _ _ q).elim
      obtain ⟨σ8, H8, I8, same, q8⟩ := r8
      refine seg_bind_wrap ?_
      rw [hov]
      refine wpAny_mono (pt.run _ s8 σ8 H8 _ I8 q8) (fun b s9 r9 => ?_) fun x s' q => (noX _ _ q).elim
      obtain ⟨H9, I9, q9⟩ := r9
      have lenσ : (wipe σ vs).length = σ8.length := by
        rw [← same]
        exact wipe_length ..
      have onward : ∀ {s' : Shared} {H' : Hp} {acc' : Array Value} {c' : Nat} {ys' : List V}, Vals ys' acc'.toList → Inv Y ([(S, lstObj acc' c')] ++ pinsAt fp s7.heap) σ8 H' s' → Nx ys' H' → ∀ n', n' + ys'.length = sizeLine → ∀ s₀',
          Seg (model Y.prog Y.w) A (End Y S cont) (GY Y S) n' s₀' (.compLoop (.GeneratorExp elt [⟨tg, iter, ifs, 0⟩] scope pos) 0 (.ref it) .none Y.env)
            ((model Y.prog Y.w).den (.compLoop (.GeneratorExp elt [⟨tg, iter, ifs, 0⟩] scope pos) 0 (.ref it) .none Y.env)) [] s' := by
        intro s' H' acc' c' ys' rv' I' nx n' len' s₀'
        obtain ⟨m', less, w'⟩ := down ys' H' nx
        have pinned : ∀ b ∈ fp, ∀ o, s7.heap.get? b = some o → s'.heap.get? b = some o ∧ H' b = none := by
          intro b hb o e
          have z := I'.pin (b, o) (List.mem_append_right _ (List.mem_append_right _ (mem_pinsAt hb e)))
          exact ⟨z.1, z.2.1⟩
        refine ih m' less n' (i + 1) ys' s₀' s' H' len' w' ⟨acc', c', rv', (I'.unpinned).weak lenσ ?_⟩ (T.keep _ _ _ st7 fun b hb o e => (pinned b hb o e).1) ?_
        · intro j v e
          rw [← same] at e
          exact (wipe_some e).1
        · intro b hb
          obtain ⟨o, e, _⟩ := T.obj _ _ st7 b hb
          exact (pinned b hb o e).2
      cases b with
      | false =>
        rw [if_neg Bool.false_ne_true] at q9
        simp only [Bool.false_eq_true, if_false]
        exact seg_again rfl (onward rv I9 q9 n len s₀)
      | true =>
        rw [if_pos rfl] at q9
        simp only [if_true]
        have hy : ∀ v, yieldOut Y.env v = yieldValue v := fun v => by simp only [yieldOut, co, Bool.false_eq_true, if_false]
        simp only [hy]
        rw [Sem.bind_eq_wrap', Sem.bind_eq_wrap', Sem.wrap_wrap, Sem.wrap_wrap]
        refine seg_wrap ?_
        rw [hov]
        refine wpAny_mono (pe.run _ s9 σ8 H9 _ I9 q9) (fun z s10 r10 => ?_) fun x s' q => (noX _ _ q).elim
        obtain ⟨yv, H10, I10, ry, room, nx⟩ := r10
        obtain ⟨n', rfl⟩ : ∃ n', n = n' + 1 := ⟨n - 1, by omega⟩
        have hip : ∀ p ∈ pinsAt fp s7.heap, p.1 ≠ S := fun p hp z => offS (z ▸ (of_pinsAt hp).1)
        have gi10 : GI Y S (pinsAt fp s7.heap) ys σ8 H10 s10 := ⟨acc, cc, rv, I10⟩
        refine seg_at (seg_yield rfl rfl rfl ⟨ys, yv, pinsAt fp s7.heap, σ8, H10, len, ry, gi10, fun s'' slept => ?_⟩)
        obtain ⟨acc', c', rv', I'⟩ := gi10.woken pnS hip young ry slept
        refine seg_again rfl (onward rv' I' nx n' ?_ s'')
        rw [List.length_append, List.length_singleton]
        omega
end
end Gx

/-! A generator expression as a value. -/
namespace Gx
open PySem PySem.Spec PySem.Calls PyProof.Rows L2 GxR
/-- (elt for tg in iter if ..); P: the def's table of code objects -/
def tGen (P : Addr) (wi : TI) (g : TG) (tt : TT) (te : TE) (vs : List Nat) : TGen := fun σ H cont => wi σ H fun J G => TabG G P ∧ ∀ G2, Tabbed P G G2 → ∃ W : Nat → Nat → List V → Hp → Prop, (∃ m, W 0 m [] G2) ∧ Turns J g tt te vs σ cont W
abbrev gEnv (X : Cx) (scope : Scope) (C : Addr) (cv : Value) : Env := genEnv scope (cloFrom X.env.cells scope.names []) C cv builtinsNs X.env
section
variable {X : Cx} {c P : Addr} {elt tg iter : Expr} {ifs : List Expr} {scope : Scope} {own : List (PySem.Str × Nat)} {pos : Pos} {wi : TI} {g : TG} {tt : TT} {te : TE} {k : Nat}
theorem pgen (room : Room (k + 1) X.A) (TB : TabB X.base X.mg c P) (code : X.env.code = .ref c) (nodup : X.N.Nodup) (walked : PI X tg iter wi) (blk : BlkOk X.N X.env.scope scope own) (noCell : ∀ y ∈ scope.names, y.2 ≠ .cell) (dot : scope.names.lookup (".0" : PySem.Str) = some NameKind.local) (co : scope.isCoroutine = false)
    (gg : ∀ (s : Shared) (H : Hp) (C : Addr) (cv : Value) (fp : List Addr) (A : Around) (pn : List (Addr × Obj)), PG (ctx X s H (gEnv X scope C cv) fp A pn) tg g)
    (gt : ∀ (s : Shared) (H : Hp) (C : Addr) (cv : Value) (fp : List Addr) (A : Around) (pn : List (Addr × Obj)), Room k (A.deeper (gEnv X scope C cv)) → PTs (ctx X s H (gEnv X scope C cv) fp A pn) ifs tt)
    (ge : ∀ (s : Shared) (H : Hp) (C : Addr) (cv : Value) (fp : List Addr) (A : Around) (pn : List (Addr × Obj)), Room k (A.deeper (gEnv X scope C cv)) → PE (ctx X s H (gEnv X scope C cv) fp A pn) elt te)
    (fold : ∀ v, genFold iter X.env v = pure v := by intro _; rfl) : PGen X (k + 1) (.GeneratorExp elt [⟨tg, iter, ifs, 0⟩] scope pos) (tGen P wi g tt te (own.map (·.2))) fun _ _ _ => False := by
  constructor
  intro pins s σ H cont I0 want
  have free : ∀ y ∈ scope.names, y.2 = .free → ∃ c, X.env.cells.lookup y.1 = some c := by
    intro y hy e
    rcases blk.free y hy e with z | z
    · exact I0.ok.has _ (.inl z)
    · exact I0.ok.has _ (.inr z)
  refine wpAny_GeneratorExp_make co (closure_ok free) noCell dot blk.kind (by have := room.dp; omega) ?_ fold
  refine thn (walked.run pins s σ H _ I0 want) fun xv s1 r1 => thn r1 fun itv s2 r2 => ?_
  obtain ⟨it, fp, tn, J, H2, rfl, I2, T, st2, f2, ⟨tab, hP, ht⟩, q⟩ := r2
  refine ⟨I2.nolimit, ?_⟩
  have tabS : s2.heap.get? P = some { cls := .none, data := .fields tab } := I2.hok P _ hP
  have cd : PySem.W.CodeHd s2.heap c P := TB.code.keeps fun b u e => I2.bk b u e
  have fpP : ∀ b ∈ fp, b ≠ P := by
    intro b hb z
    have e := (f2 b hb).1
    rw [z, hP] at e
    cases e
  have goOn : ∀ (cv : Value) (h3 : Heap) (tk : Nat) (tab' : Array Value), Heap.ExtBut P s2.heap h3 → s2.heap.objs.size ≤ h3.objs.size → h3.get? P = some { cls := .none, data := .fields tab' } → (∃ more, tab' = tab ++ more) → TriplesOk tab'.toList →
      wpAny (model X.prog X.w) X.A (builtinsFor X.env.globals X.env.builtins) (fun bi s₄ =>
        ∀ h', h'.Ns s₄.heap.objs.size (fun y => if y = ".0" then some (.ref it) else none) → Heap.SameBut s₄.heap.objs.size (s₄.heap.push { cls := .type "frame", data := .dict #[] }) h' →
          (fun u s' => ∃ H1 sc ex, Inv X pins σ H1 sc ∧ ExOk X pins ex ∧ GMade X.prog X.w (k + 1) X.stack H1 sc ex cont (fun _ _ _ => False) u s') (.ref h'.objs.size) { s₄ with
            gens := s₄.gens.push (.fresh (.compStart (.GeneratorExp elt [⟨tg, iter, ifs, 0⟩] scope pos) 0 (.ref it) .none (genEnv scope (cloFrom X.env.cells scope.names []) s₄.heap.objs.size cv bi X.env))),
            toks := s₄.toks + 1 + 1 + 1,
            heap := h'.push { cls := .type "generator", data := .fields #[.int s₄.gens.size 0, .str "<genexpr>" (s₄.toks + 1), .str (X.env.qual ++ "<genexpr>") (s₄.toks + 1 + 1)] } }) X.xe { s2 with heap := h3, toks := tk } := by
    intro cv h3 tk tab' ext grown tab3 more ok3
    obtain ⟨bm, ob, e1, e2, e3, e4, e5, e6, e7, e8⟩ := TB.bm
    refine wpAny_builtinsFor (m := X.mg) (by rw [I2.ok.glob]; exact (I2.mod.glob.keeps I2.bk).extBut ext TB.gP) e1 e2 (ext _ _ e4 (I2.bk _ _ e5)) e6 e7 e8 ?_
    intro h' hn' hs'
    obtain ⟨mo, em⟩ := more
    have I3 : Inv X pins σ (upd H2 P (.tbl (tab ++ mo))) { s2 with heap := h3, toks := tk } :=
      inv_tab (more := mo) (h' := h3) (g' := s2.gens) (d' := s2.drawn) (t' := tk) I2 hP (fun b u hb e => ext b u hb e) (by rw [← em]; exact tab3) I2.bare
    have tb3 : Tabbed P H2 (upd H2 P (.tbl (tab ++ mo))) := ⟨⟨tab ++ mo, upd_same, by rw [← em]; exact ok3⟩, fun b hb => upd_ne hb⟩
    obtain ⟨W, ⟨m0, w0⟩, turns⟩ := q _ tb3
    have f3 : ∀ b ∈ fp, FpOk X pins (upd H2 P (.tbl (tab ++ mo))) b := fun b hb => ⟨by rw [upd_ne (fpP b hb)]; exact (f2 b hb).1, (f2 b hb).2⟩
    have lt3 : ∀ b ∈ fp, b < h3.objs.size := by
      intro b hb
      obtain ⟨_, e, _⟩ := T.obj _ _ st2 b hb
      exact Nat.lt_of_lt_of_le (Heap.lt_size e) grown
    have st3 : tn 0 h3 := T.keep _ _ _ st2 fun b hb o e => ext b o (fpP b hb) e
    generalize upd H2 P (.tbl (tab ++ mo)) = H3 at I3 w0 f3
    generalize e3s : ({ s2 with heap := h3, toks := tk } : Shared) = s3 at I3
    have hh3 : s3.heap = h3 := congrArg Shared.heap e3s.symm
    clear e3s
    subst hh3
    have sz' : h'.objs.size = s3.heap.objs.size + 1 := by
      rw [hs'.1]
      exact Heap.size_push ..
    have kp' : ∀ b o, s3.heap.get? b = some o → h'.get? b = some o := fun b o e => hs'.extBut b o (Nat.ne_of_lt (Heap.lt_size e)) (Heap.get?_push_of_some _ e)
    refine ⟨H3, s3, fp, I3, fun b hb => ⟨(f3 b hb).2.2.2.1, (f3 b hb).2.1, (f3 b hb).2.2.2.2.1, (f3 b hb).2.2.2.2.2⟩, ?_⟩
    generalize ego : ({ cls := .type "generator", data := .fields #[.int s3.gens.size 0, .str "<genexpr>" (s3.toks + 1), .str (X.env.qual ++ "<genexpr>") (s3.toks + 1 + 1)] } : Obj) = go
    have isGen : ∀ h : Heap, h.get? h'.objs.size = some go → h.IsGen h'.objs.size s3.gens.size := by
      intro h e
      subst ego
      exact ⟨_, _, _, e, rfl, rfl, rfl⟩
    have pushed : (h'.push go).get? h'.objs.size = some go := by
      subst ego
      exact Heap.get?_push_size _ rfl
    have goData : ∀ v, go.data ≠ .cell v := by
      subst ego
      intro v z
      cases z
    have kpush : ∀ b o, s3.heap.get? b = some o → (h'.push go).get? b = some o := fun b o e => Heap.get?_push_of_some _ (kp' b o e)
    refine ⟨h'.objs.size, s3.gens.size, _, rfl, by rw [sz']; exact Nat.le_succ _, by show _ < (h'.push go).objs.size; rw [Heap.size_push]; exact Nat.lt_succ_self _, isGen _ pushed, Array.getElem?_push_size .., rfl, AllBare.push I3.bare rfl, ?_, fun b o e => kpush b o (e), ?_⟩
    · exact I3.nolimit.keeps fun b o e => kpush b o (e)
    intro A S s9 room9 frames9 young9 keep9 atS os9 bare9
    obtain ⟨cS, atS⟩ := atS
    have young9 : (h'.push go).objs.size ≤ S := young9
    rw [Heap.size_push] at young9
    have goAt : s9.heap.get? h'.objs.size = some go := keep9 _ _ pushed
    have kp9 : ∀ b o, s3.heap.get? b = some o → s9.heap.get? b = some o := fun b o e => keep9 b o (kpush b o (e))
    have ns9 : s9.heap.Ns (gEnv X scope s3.heap.objs.size cv).locals (fun y => if y = ".0" then some (.ref it) else none) := (hn'.push go).keeps fun b o e => keep9 b o e
    have I9 : Inv (ctx X s3 H3 (gEnv X scope s3.heap.objs.size cv) fp A [(h'.objs.size, go)]) [(S, lstObj #[] cS)] (wipe σ (own.map (·.2))) H3 s9 := by
      refine start I3 blk nodup noCell rfl rfl I0.ok.glob rfl rfl rfl (fun b hb => ⟨f3 b hb, lt3 b hb⟩) room9.hd frames9 kp9 os9 bare9 ns9 ?_
      intro p hp
      rcases List.mem_append.mp hp with z | z
      · rw [List.mem_singleton.mp z]
        refine ⟨goAt, ?_, goData⟩
        show s3.heap.objs.size < h'.objs.size
        rw [sz']
        exact Nat.lt_succ_self _
      · rw [List.mem_singleton.mp z]
        refine ⟨atS, ?_, fun v y => by cases y⟩
        show s3.heap.objs.size < S
        exact Nat.lt_of_lt_of_le (by rw [sz']; exact Nat.lt_succ_of_lt (Nat.lt_succ_self _)) young9
    have ltS : s3.heap.objs.size < S := Nat.lt_of_lt_of_le (by rw [sz']; exact Nat.lt_succ_of_lt (Nat.lt_succ_self _)) young9
    have apS : Apart (ctx X s3 H3 (gEnv X scope s3.heap.objs.size cv) fp A [(h'.objs.size, go)]) S := by
      refine ⟨by show s3.heap.objs.size ≤ S; exact Nat.le_of_lt ltS, Nat.ne_of_gt ltS, fun x c' e z => ?_⟩
      have e : (cloFrom X.env.cells scope.names []).lookup x = some c' := e
      rcases cloFrom_mem (PySem.mem_of_lookup e) with y | ⟨h1, rfl⟩
      · cases y
      · obtain ⟨c0, hc⟩ := free _ h1 rfl
        rw [hc] at z
        have z : c0 = S := z
        obtain ⟨v, y⟩ := I3.cell _ _ hc
        have lt := y.lt
        rw [z] at lt
        exact Nat.lt_irrefl _ (Nat.lt_trans lt ltS)
    have offS : S ∉ fp := fun z => Nat.lt_irrefl _ (Nat.lt_trans (lt3 S z) ltS)
    have st9 : tn 0 s9.heap := T.keep _ _ _ st3 fun b hb o e => kp9 b o e
    have deep := room9.deeper (gEnv X scope s3.heap.objs.size cv)
    have loop := run (Y := ctx X s3 H3 (gEnv X scope s3.heap.objs.size cv) fp A [(h'.objs.size, go)]) (A := A) (S := S) (it := it) (elt := elt) (tg := tg) (ifs := ifs) (scope := scope) (iter := iter) (pos := pos) (cont := cont) over_gen rfl co (fun _ _ z => z) T rfl
      (fun p hp => by rw [List.mem_singleton.mp hp]; exact Nat.ne_of_lt (Nat.lt_of_lt_of_le (Nat.lt_succ_self _) young9)) (fun p hp z => by
        rw [List.mem_singleton.mp hp] at z
        have := lt3 _ z
        rw [sz'] at this
        exact Nat.lt_irrefl _ (Nat.lt_trans (Nat.lt_succ_self _) this)) apS offS
      (gg s3 H3 s3.heap.objs.size cv fp A [(h'.objs.size, go)]) (gt s3 H3 s3.heap.objs.size cv fp A [(h'.objs.size, go)] deep) (ge s3 H3 s3.heap.objs.size cv fp A [(h'.objs.size, go)] deep) turns
      m0 sizeLine 0 [] s9 s9 H3 (Nat.add_zero _) w0 ⟨#[], cS, .nil, I9⟩ st9 (fun b hb => (f3 b hb).1)
    refine seg_imp (R := End (ctx X s3 H3 (gEnv X scope s3.heap.objs.size cv) fp A [(h'.objs.size, go)]) S cont) (Y := GY (ctx X s3 H3 (gEnv X scope s3.heap.objs.size cv) fp A [(h'.objs.size, go)]) S) (fun n s₀ r s1' hR => ?_) (fun n s₀ v s1' kap kap' hkk hY => ?_) sizeLine ?_
    · obtain ⟨rfl, ys, ip, σ', H', len, gi, fin⟩ := hR
      obtain ⟨a1, _, _, acc, cc, ra, ea⟩ := gi.at
      obtain ⟨_, _, _, K9⟩ := gi
      exact .inl ⟨.inr rfl, H', ys, acc, cc, K9.os, K9.bare, K9.base, K9.hok, a1, ea, ra, by omega, fin⟩
    · obtain ⟨ys, xx, ip, σ', H', len, h2, gi, h4⟩ := hY
      obtain ⟨_, _, _, acc, cc, ra, ea⟩ := gi.at
      obtain ⟨_, _, _, K9⟩ := gi
      have hg := isGen _ (K9.pin (h'.objs.size, go) (List.mem_append_left _ (List.mem_singleton.mpr rfl))).1
      have size : acc.size = ys.length := by
        have l1 := ra.length
        have l2 : acc.toList.length = acc.size := by simp
        omega
      exact ⟨K9.os, K9.bare, K9.nolimit, hg, ⟨acc, cc, ea, by rw [size]; exact len⟩, fun s' z => hkk _ _ (h4 s' z)⟩
    · show Seg _ A _ _ _ s9 _ ((compStart (.GeneratorExp elt [⟨tg, iter, ifs, 0⟩] scope pos) 0 (.ref it) .none (gEnv X scope s3.heap.objs.size cv)).onRaise (leaving (gEnv X scope s3.heap.objs.size cv))) [] s9
      unfold compStart
      rw [Sem.onRaise_eq_wrap]
      show Seg _ A _ _ _ s9 _ ((ask >>= _).wrap _ _ _ _) [] s9
      refine seg_bind_wrap (wpAny_askSetting ?_)
      split
      · exact seg_again rfl loop
      · first
          | exact seg_bind_wrap (wpAny_rule (seg_bind_wrap (wpAny_standAt (seg_bind_wrap (T.self _ 0 s9 _ _ st9 (seg_again rfl loop))))))
          | (refine seg_bind_wrap (wpAny_rule ?_); show Seg _ A _ _ _ s9 _ ((standAt iter.pos >>= _).wrap _ _ _ _) [] s9; exact seg_bind_wrap (wpAny_standAt (seg_bind_wrap (T.self _ 0 s9 _ _ st9 (seg_again rfl loop)))))
  cases hf : codeAmong pos tab.toList with
  | none =>
    refine wpAny_genexprCodeX code (cd.code tabS ht) (cd.tab tabS) hf fun c' h' tk hx hge hlt hco' _ htab' _ => ?_
    obtain ⟨o1, vs, f1, tf, fl, tg', inF, tx, tt', op, _, _, _, _, _, _, _, _, _, htr, _⟩ := hco'
    exact goOn _ h' tk _ hx (Nat.le_trans hge (Nat.le_of_lt hlt)) htab'.2 ⟨_, rfl⟩ htr
  | some cv =>
    refine wpAny_genexprCode_hit code (cd.code tabS ht) hf ?_
    exact goOn cv s2.heap s2.toks tab (Heap.ExtBut.refl _ _) (Nat.le_refl _) tabS ⟨#[], by simp⟩ ht
end
end Gx

/-! tuple(g) of a generator that has not begun. -/
namespace Gx
open PySem PySem.Spec PySem.Calls PyProof.Rows L2 GxR
section
variable {P : Program} {w : World} {outer : List Env} {H : Hp} {sc s : Shared} {ex : List Addr} {Q : List V → Hp → Prop} {A : Around} {k : Nat} {u : Value} {E : Value → Shared → Prop}
abbrev noEx : XK := fun _ _ _ => False
theorem never {e : Value} {s' : Shared} (h : CX P w outer H sc noEx e s') : False := by
  obtain ⟨a, B, H', cls, d, _, _, _, _, _, _, _, z⟩ := h
  exact z
/-- all that comes out of it -/
theorem gathered {Q' : List Value → Shared → Prop} (hr : Room (k + 1) A) (fr : A.frames = some outer) (made : GMade P w k outer H sc ex Q noEx u s)
    (hQ : ∀ S s' acc c H' ys, s.heap.objs.size ≤ S → s'.heap.get? S = some (lstObj acc c) → Vals ys acc.toList → ys.length ≤ sizeLine → s'.os = sc.os → AllBare s'.gens → Un (frs outer) ex H H' sc.heap s'.heap → HOk P w H' s'.heap → H' S = none → Q ys H' → Q' acc.toList s') :
    wpAny (model P w) A (collect u) Q' E s := by
  obtain ⟨a, g, c, rfl, above, below, isGen, fresh, os, bare, lim, old, wake⟩ := made
  have unlike : s.heap.objs.size ≠ a := Nat.ne_of_gt below
  have noStat : s.heap.objs.size ≠ cStatics := by
    obtain ⟨_, hn, _⟩ := lim
    exact Nat.ne_of_gt hn.lt
  unfold collect
  refine wpAny_bind (wpAny_runValue (codeAny_builtin F.entry_proto_collect ?_))
  rw [Around.under_plainId F.plain_proto_collect _]
  show wpAny _ A.in1 (newList [] >>= fun l => again (.builtin "list.__iadd__" ⟨[l, .ref a], []⟩)) _ _ s
  refine wpAny_bind (wpAny_newObj_type ?_)
  refine wpAny_pure ⟨plainId_quiet F.plain_list_iadd _, codeAny_builtin F.entry_list_iadd ?_⟩
  rw [Around.under_plainId F.plain_list_iadd _]
  have at1 : (s.heap.push { cls := .type "list", data := .seq ([] : List Value).toArray }).get? s.heap.objs.size = some { cls := .type "list", data := .seq ([] : List Value).toArray } := Heap.get?_push_size _ rfl
  have keep1 : ∀ b o, s.heap.get? b = some o → (s.heap.push { cls := .type "list", data := .seq ([] : List Value).toArray }).get? b = some o := fun b o e => Heap.get?_push_of_some _ e
  have up : ∀ (h : Heap) (f : Obj → Obj), (∀ b o, s.heap.get? b = some o → h.get? b = some o) → ∀ b o, s.heap.get? b = some o → (h.update s.heap.objs.size f).get? b = some o := fun h f q b o e =>
    (Heap.get?_update_other _ _ (Ne.symm (Nat.ne_of_lt (Heap.lt_size e)))).trans (q b o e)
  have genAt : ∀ {h : Heap}, (∀ b o, s.heap.get? b = some o → h.get? b = some o) → h.IsGen a g := fun {h} q => isGen.keeps q
  show wpAny _ A.in1 (Builtin.List.listExtendWith (.ref s.heap.objs.size) (.ref a) (.ref s.heap.objs.size)) _ _ _
  unfold Builtin.List.listExtendWith
  refine wpAny_bind (wpAny_typeOf (Heap.IsGen.typeIs (s := { s with heap := _ }) (genAt keep1)) ?_)
  have q1 : Builtin.List.listSameRef (.ref s.heap.objs.size) (.ref a) = false := by simp [Builtin.List.listSameRef, unlike]
  have q2 : (Value.type "generator" == Value.type "list") = false := by decide
  have q3 : (Value.type "generator" == Value.type "tuple") = false := by decide
  simp only [q1, q2, q3, Bool.or_false, Bool.false_eq_true, if_false]
  refine wpAny_bind (wpAny_pyIter_gen (s := { s with heap := _ }) (genAt keep1) ?_)
  refine wpAny_bind (wpAny_holding ?_)
  unfold Builtin.List.listLengthHint
  refine wpAny_bind (wpAny_specialOf (Heap.IsGen.typeIs (s := { s with heap := _ }) (genAt keep1)) F.gen_no_len ?_)
  show wpAny _ A.in1 (specialOf (Value.ref a) (Str.ofString "__length_hint__") >>= _) _ _ _
  refine wpAny_bind (wpAny_specialOf (Heap.IsGen.typeIs (s := { s with heap := _ }) (genAt keep1)) F.gen_no_hint ?_)
  refine wpAny_pure ?_
  show wpAny _ A.in1 (rule "list.extend.makes-room" >>= fun _ => Builtin.List.listTouch (.ref s.heap.objs.size) >>= fun _ =>
    again (.builtin "list.extend.loop" ⟨[.ref s.heap.objs.size, .ref a, .ref s.heap.objs.size], []⟩)) _ _ _
  refine wpAny_bind (wpAny_rule ?_)
  refine wpAny_bind ?_
  show wpAny _ A.in1 (updateSeq s.heap.objs.size (·.push .none) >>= fun _ => updateSeq s.heap.objs.size (·.pop)) _ _ _
  refine wpAny_bind (wpAny_updateSeq at1 rfl ?_)
  have at2 := Heap.get?_update_self (Obj.mapSeq (·.push Value.none)) at1 rfl
  refine wpAny_updateSeq (hz := by seq_fits) at2 rfl ?_
  have at3 := Heap.get?_update_self (Obj.mapSeq (·.pop)) at2 rfl
  have keep3 := up _ (Obj.mapSeq (·.pop)) (up _ (Obj.mapSeq (·.push Value.none)) keep1)
  refine wpAny_pure ⟨plainId_quiet F.plain_extend_loop _, ?_⟩
  refine drain (P := P) (w := w) (outer := outer) (H := H) (sc := sc) (ex := ex) (Q := Q) (EX := noEx) (A := A) (g := g) hr.hd (by have := hr.dp; show A.depth < _; omega) unlike noStat
    (fun s' acc c H' ys r1 r2 r3 r4 r5 r6 r7 r8 r9 => ?_) (fun e s' z => (never z).elim) sizeLine _ ?_ ?_ ⟨_, fresh, rfl, ?_⟩
  · show wpAny _ A (load s.heap.objs.size >>= _) _ _ s'
    refine wpAny_bind (wpAny_load r1 ?_)
    exact wpAny_pure (hQ s.heap.objs.size s' acc c H' ys (Nat.le_refl _) r1 r2 r3 r4 r5 r6 r7 r8 r9)
  · exact genAt keep3
  · exact lim.keeps keep3
  · refine wake _ _ _ ⟨hr.hd, ?_, ?_⟩ fr (Nat.le_refl _) keep3 ⟨_, at3⟩ os (allBare_setGen (s := { s with heap := _ }) bare rfl)
    · have := hr.dp
      show A.depth + 3 * k + 5 < _
      omega
    · have := hr.un
      show A.units + 1 + 1 + 16 * k + 200 < _
      omega
end
end Gx

/-! tuple(g), list(g) as expressions. -/
namespace Gx
open PySem PySem.Spec PySem.Calls PyProof.Rows L2 GxR
section
variable {P : Program} {w : World} {outer : List Env} {H : Hp} {sc s : Shared} {ex : List Addr} {Q : List V → Hp → Prop} {A : Around} {k : Nat} {u : Value} {E : Value → Shared → Prop}
theorem new_tuple {Q' : Value → Shared → Prop} (hr : Room (k + 2) A) (fr : A.frames = some outer) (made : GMade P w k outer H sc ex Q noEx u s)
    (hQ : ∀ (s' : Shared) (acc : Array Value) (H' : Hp) (ys : List V), s.heap.objs.size ≤ s'.heap.objs.size → Vals ys acc.toList → ys.length ≤ sizeLine → s'.os = sc.os → AllBare s'.gens → Un (frs outer) ex H H' sc.heap s'.heap → HOk P w H' s'.heap → Q ys H' → Q' (.ref s'.heap.objs.size) { s' with heap := s'.heap.push { cls := .type "tuple", data := .seq acc } }) :
    codeAny (model P w) A (.call (.builtin "tuple.__new__") ⟨[.type "tuple", u], []⟩) (wants Q' E) s := by
  have made' := made
  obtain ⟨a, g, c, rfl, _, _, isGen, _⟩ := made'
  refine codeAny_of_tree ?_
  show wpAny _ A.in1 (do checkBuiltinCall "tuple.__new__" ⟨[.type "tuple", .ref a], []⟩; again (.builtin "tuple.__new__" ⟨[.type "tuple", .ref a], []⟩)) _ _ s
  refine wpAny_bind (wpAny_of_eq (F.newCall_tuple_1 _) (wpAny_pure ⟨plainId_quiet F.plain_tuple_new _, codeAny_builtin F.entry_tuple_new ?_⟩))
  rw [Around.under_plainId F.plain_tuple_new _]
  have q1 := sub_tuple_self
  have q2 := init_tuple_lookup
  have q3 := madeHere_tuple
  have q4 := isGen.typeIs (s := s)
  have fr1 : A.in1.frames = some outer := fr
  wp_walk using wpAny_typeOf q4, gathered (k := k) hr.in1 fr1 made
  intro S s' acc c' H' ys r1 r2 r3 r4 r5 r6 r7 r8 r9 r10
  show wpAny _ _ (Builtin.Tuple.tupleExact acc.toList.toArray >>= fun v => ret v) _ _ _
  have e : acc.toList.toArray = acc := by simp
  have l := r3.length
  have l2 : acc.toList.length = acc.size := by simp
  unfold Builtin.Tuple.tupleExact
  refine wpAny_bind (wpAny_newObj_type ?_ (by show acc.toList.toArray.size ≤ sizeLine; rw [e]; omega))
  refine wpAny_pure ?_
  rw [e]
  exact hQ s' acc H' ys (Nat.le_trans r1 (Nat.le_of_lt (Heap.lt_size r2))) r3 r4 r5 r6 r7 r8 r10
theorem call_tuple_made {Q' : Value → Shared → Prop} (hr : Room (k + 4) A) (fr : A.frames = some outer) (made : GMade P w k outer H sc ex Q noEx u s)
    (hQ : ∀ (s' : Shared) (acc : Array Value) (H' : Hp) (ys : List V), s.heap.objs.size ≤ s'.heap.objs.size → Vals ys acc.toList → ys.length ≤ sizeLine → s'.os = sc.os → AllBare s'.gens → Un (frs outer) ex H H' sc.heap s'.heap → HOk P w H' s'.heap → Q ys H' → Q' (.ref s'.heap.objs.size) { s' with heap := s'.heap.push { cls := .type "tuple", data := .seq acc } }) :
    wpAny (model P w) A (call (.type "tuple") [u]) Q' E s := by
  have fr1 : A.in1.frames = some outer := fr
  refine callType_codes (Q₁ := fun obj s₁ => s₁.TypeIs obj "tuple" ∧ Q' obj s₁) F.called_tuple (F.typeCall_tuple_1 _) F.entry_object_init
    (new_tuple (k := k) (hr.mono (by omega : k + 3 ≤ k + 4)).in1 fr1 made fun s' acc H' ys r1 r2 r3 r4 r5 r6 r7 r8 => ⟨⟨_, Heap.get?_push_size _ rfl, rfl⟩, hQ s' acc H' ys r1 r2 r3 r4 r5 r6 r7 r8⟩) fun obj s₁ h₁ => ?_
  exact ⟨h₁.1, F.args_object_init_2 obj _, object_init_meets F.called_tuple.init.lookup F.called_tuple.made (by decide) P w A.in1 _ s₁ ⟨h₁.1, rfl, h₁.2⟩⟩
end
section
variable {X : Cx} {k : Nat} {e : Expr} {tg : TGen} {p pos : Pos}
def tTupG (tg : TGen) : TE := fun σ H Q => tg σ H fun out H2 => ∀ q, H2 q = none → Q (.ref q) (upd H2 q (.tup out))
/-- tuple(g) -/
theorem pe_tupG (h : PGen X k e tg noEx) (hr : Room (k + 4) X.A) (hg : Gl X "tuple") (hm : X.mg "tuple" = none) (he : starEach [e] X.env = (false, eval e X.env) :: starEach [] X.env := by rfl) : PE X (.Call (.Name "tuple" p) [e] [] pos) (tTupG tg) := by
  refine ⟨fun pins s σ H Q I hq => ?_⟩
  refine wpAny_Call_Name_kw (ld_blt I hg hm boot_tuple ?_)
  refine PyProof.Rows.callWith_type1 ?_ he rfl
  rw [he]
  show wpAny _ _ (spliced ((false, eval e X.env) :: backTo pos (starEach [] X.env))) _ _ s
  refine Calls.spliced_cons (thn (h.run pins s σ H _ I hq) fun u s1 ⟨H1, sc, ex, I1, hex, made⟩ => ?_)
  refine Calls.spliced_nil ?_
  refine call_tuple_made hr I1.ok.frames made fun s' acc H' ys r1 r2 r3 r4 r5 r6 r7 r8 => ?_
  have I2 : Inv X pins σ H' s' := I1.call' (ch := ex) r4 r6 r7 r5 hex
  refine ⟨.ref _, upd H' s'.heap.objs.size (.tup ys), I2.laid (t' := s'.toks) (fun b u z => Heap.get?_push_of_some _ z) (Nat.le_refl _) ?_, rfl, r8 _ (I2.hok.fresh (Nat.le_refl _))⟩
  refine ⟨r3, acc.toList, r2, ?_⟩
  have z : acc.toList.toArray = acc := by simp
  rw [z]
  exact ⟨_, Heap.get?_push_size _ rfl, rfl, _, rfl⟩
/-- tuple(g), its object known -/
def tTupG0 (tg : TGen) : TE := fun σ H Q => tg σ H fun out H2 => ∀ q o, H2 q = none → o.dict = none → Q (.ref q) (upd H2 q (.frz o (.tup out)))
theorem pe_tupG0 (h : PGen X k e tg noEx) (hr : Room (k + 4) X.A) (hg : Gl X "tuple") (hm : X.mg "tuple" = none) (he : starEach [e] X.env = (false, eval e X.env) :: starEach [] X.env := by rfl) : PE X (.Call (.Name "tuple" p) [e] [] pos) (tTupG0 tg) := by
  refine ⟨fun pins s σ H Q I hq => ?_⟩
  refine wpAny_Call_Name_kw (ld_blt I hg hm boot_tuple ?_)
  refine PyProof.Rows.callWith_type1 ?_ he rfl
  rw [he]
  show wpAny _ _ (spliced ((false, eval e X.env) :: backTo pos (starEach [] X.env))) _ _ s
  refine Calls.spliced_cons (thn (h.run pins s σ H _ I hq) fun u s1 ⟨H1, sc, ex, I1, hex, made⟩ => ?_)
  refine Calls.spliced_nil ?_
  refine call_tuple_made hr I1.ok.frames made fun s' acc H' ys r1 r2 r3 r4 r5 r6 r7 r8 => ?_
  have I2 : Inv X pins σ H' s' := I1.call' (ch := ex) r4 r6 r7 r5 hex
  refine ⟨.ref _, _, I2.laid (t' := s'.toks) (o := .frz { cls := .type "tuple", data := .seq acc } (.tup ys)) (fun b u z => Heap.get?_push_of_some _ z) (Nat.le_refl _) ?_, rfl, r8 _ _ (I2.hok.fresh (Nat.le_refl _)) rfl⟩
  refine ⟨Heap.get?_push_size _ rfl, r3, acc.toList, r2, ?_⟩
  have z : acc.toList.toArray = acc := by simp
  rw [z]
  exact ⟨_, Heap.get?_push_size _ rfl, rfl, _, rfl⟩
end
end Gx

/-! Turns over a list, a tuple that stay as they are. -/
namespace Gx
open PySem PySem.Spec PySem.Calls PyProof.Rows L2 GxR
section
variable {K : PySem.W.Frag} {a : Addr} {xs : List V} {g : TG} {tt : TT} {te : TE} {vs : List Nat} {σ : L2.St} {G : Hp} {cont : List V → Hp → Prop}
theorem turns_list (Pv : Nat → List V → Hp → Prop) (first : Pv 0 [] G) (stays : ∀ i ys H, i ≤ xs.length → Pv i ys H → SqL K H a xs)
    (turn : ∀ i x ys H, xs[i]? = some x → Pv i ys H → g x (wipe σ vs) H fun σ2 H2 => wipe σ2 vs = wipe σ vs ∧ tt σ2 H2 fun b H3 => if b = true then te σ2 H3 fun y H4 => ys.length < sizeLine ∧ Pv (i + 1) (ys ++ [y]) H4 else Pv (i + 1) ys H3)
    (after : ∀ ys H, Pv xs.length ys H → cont ys H) : ∃ W : Nat → Nat → List V → Hp → Prop, (∃ m, W 0 m [] G) ∧ Turns (Itl K a) g tt te vs σ cont W := by
  refine ⟨fun i m ys H => m = xs.length - i ∧ i ≤ xs.length ∧ Pv i ys H, ⟨xs.length, (Nat.sub_zero _).symm, Nat.zero_le _, first⟩, ?_⟩
  rintro i m ys H ⟨rfl, le, p⟩
  have seq := stays i ys H le p
  rcases Nat.lt_or_ge i xs.length with lt | ge
  · refine .inr ⟨⟨xs, xs[i], seq, List.getElem?_eq_getElem lt⟩, Pv (i + 1), fun ys' H' p' => ⟨xs.length - (i + 1), by omega, rfl, lt, p'⟩, fun x H' y => ?_⟩
    obtain ⟨rfl, y⟩ := y
    exact turn i x ys _ (y xs seq) p
  · have e : i = xs.length := by omega
    subst e
    exact .inl ⟨⟨xs, seq, Nat.le_refl _⟩, after ys H p⟩
theorem turns_tup (Pv : Nat → List V → Hp → Prop) (first : Pv 0 [] G) (stays : ∀ i ys H, i ≤ xs.length → Pv i ys H → SqT K H a xs)
    (turn : ∀ i x ys H, xs[i]? = some x → Pv i ys H → g x (wipe σ vs) H fun σ2 H2 => wipe σ2 vs = wipe σ vs ∧ tt σ2 H2 fun b H3 => if b = true then te σ2 H3 fun y H4 => ys.length < sizeLine ∧ Pv (i + 1) (ys ++ [y]) H4 else Pv (i + 1) ys H3)
    (after : ∀ ys H, Pv xs.length ys H → cont ys H) : ∃ W : Nat → Nat → List V → Hp → Prop, (∃ m, W 0 m [] G) ∧ Turns (Itt K a) g tt te vs σ cont W := by
  refine ⟨fun i m ys H => m = xs.length - i ∧ i ≤ xs.length ∧ Pv i ys H, ⟨xs.length, (Nat.sub_zero _).symm, Nat.zero_le _, first⟩, ?_⟩
  rintro i m ys H ⟨rfl, le, p⟩
  have seq := stays i ys H le p
  rcases Nat.lt_or_ge i xs.length with lt | ge
  · refine .inr ⟨⟨xs, xs[i], seq, List.getElem?_eq_getElem lt⟩, Pv (i + 1), fun ys' H' p' => ⟨xs.length - (i + 1), by omega, rfl, lt, p'⟩, fun x H' y => ?_⟩
    obtain ⟨rfl, y⟩ := y
    exact turn i x ys _ (y xs seq) p
  · have e : i = xs.length := by omega
    subst e
    exact .inl ⟨⟨xs, seq, Nat.le_refl _⟩, after ys H p⟩
end
end Gx

/-! A table's substitution. -/
namespace Ad
open PySem PySem.Spec PySem.Calls PyProof.Rows L2 GxR
namespace Sb
def pick (tb : Sb) (i : Int) : Option (Int × T) := match look tb i with
  | some t => if t.isVar i = true then none else some (i, t)
  | none => none
def sel (tb : Sb) (ks : List Int) : Sb := ks.filterMap (pick tb)
theorem pick_iff {tb : Sb} {i j : Int} {t : T} : pick tb i = some (j, t) ↔ i = j ∧ look tb i = some t ∧ t.isVar i = false := by
  unfold pick
  cases h : look tb i with
  | none => exact ⟨(fun z => nomatch z), (fun z => nomatch z.2.1)⟩
  | some u =>
    show (if u.isVar i = true then none else some (i, u)) = some (j, t) ↔ _
    cases hv : u.isVar i with
    | true =>
      rw [if_pos rfl]
      refine ⟨(fun z => nomatch z), fun z => ?_⟩
      have e := Option.some.inj z.2.1
      rw [← e, hv] at z
      exact nomatch z.2.2
    | false =>
      rw [if_neg Bool.false_ne_true]
      constructor
      · intro z
        cases z
        exact ⟨rfl, rfl, hv⟩
      · rintro ⟨rfl, z, _⟩
        cases z
        rfl
theorem norm_sel {tb : Sb} {ks : List Int} (rising : ks.Pairwise (· < ·)) (all : ∀ i, i ∈ ks ↔ i ∈ tb.map (·.1)) : Norm tb (sel tb ks) := by
  constructor
  · unfold sel
    have key : ∀ l : List Int, l.Pairwise (· < ·) → ((l.filterMap (pick tb)).map (·.1)).Pairwise (· < ·) ∧ ∀ j ∈ (l.filterMap (pick tb)).map (·.1), j ∈ l := by
      intro l
      induction l with
      | nil => intro _; exact ⟨.nil, fun j hj => nomatch hj⟩
      | cons i l ih =>
        intro h
        obtain ⟨h1, h2⟩ := List.pairwise_cons.mp h
        obtain ⟨r1, r2⟩ := ih h2
        cases hp : pick tb i with
        | none =>
          rw [List.filterMap_cons, hp]
          exact ⟨r1, fun j hj => List.mem_cons_of_mem _ (r2 j hj)⟩
        | some e =>
          obtain ⟨k, t⟩ := e
          have ek := (pick_iff.1 hp).1
          subst ek
          rw [List.filterMap_cons, hp]
          refine ⟨List.pairwise_cons.mpr ⟨fun j hj => h1 j (r2 j hj), r1⟩, fun j hj => ?_⟩
          rcases List.mem_cons.mp hj with z | z
          · rw [z]
            exact List.mem_cons_self
          · exact List.mem_cons_of_mem _ (r2 j z)
    exact (key ks rising).1
  · intro i t
    unfold sel
    rw [List.mem_filterMap]
    constructor
    · rintro ⟨k, _, hp⟩
      obtain ⟨rfl, h1, h2⟩ := pick_iff.1 hp
      exact ⟨h1, h2⟩
    · rintro ⟨h1, h2⟩
      exact ⟨i, (all i).2 ((look_key tb i).1 (by rw [h1]; rfl)), pick_iff.2 ⟨rfl, h1, h2⟩⟩
theorem sel_take {tb : Sb} {ks : List Int} {n : Nat} {i : Int} (h : ks[n]? = some i) : sel tb (ks.take (n + 1)) = sel tb (ks.take n) ++ (match pick tb i with
    | some e => [e]
    | none => []) := by
  unfold sel
  rw [List.take_add_one, h, List.filterMap_append]
  congr 1
  show List.filterMap (pick tb) [i] = _
  cases hp : pick tb i with
  | none => rw [List.filterMap_cons, hp]; rfl
  | some e => rw [List.filterMap_cons, hp]; rfl
end Sb
/-- all in a table can be compared -/
def Good (tb : Sb) : Prop := ∀ e ∈ tb, e.2.named = true ∧ e.2.dep ≤ 60
theorem TV.at {K : PySem.W.Frag} {H : Hp} {tb : Sb} {kvs : List (L2.Key × V)} (h : TV K H tb kvs) {i : Int} (m : i ∈ tb.map (·.1)) : ∃ t v, tb.look i = some t ∧ valV kvs (.inl i) = some v ∧ Tm K H t v := by
  rcases h.val i with ⟨a, _⟩ | z
  · have := (Sb.look_key tb i).2 m
    rw [a] at this
    cases this
  · exact z
theorem int_shaped (i : Int) : SeqAt.shaped (.int i) = true := rfl
theorem tab_same {H H' : Hp} {P : Addr} (s : Same H H') (t : TabG H P) : TabG H' P := by
  obtain ⟨ps, e, ok⟩ := t
  exact ⟨ps, s _ _ e, ok⟩
theorem tab_tk {H H' : Hp} {P : Addr} (t : TabG H P) (k : ∀ b o, b ≠ P → H b = some o → H' b = some o) : TK H H' := by
  obtain ⟨ps, e, ok⟩ := t
  intro b xs
  refine ⟨fun h => k b _ (fun z => ?_) h, fun o h => k b _ (fun z => ?_) h⟩
  · rw [z, e] at h
    cases h
  · rw [z, e] at h
    cases h
section
variable {P : Program} {w : World} {K : PySem.W.Frag} {mg : Str → Option Value} {base : Heap}
theorem tab_upd {H : Hp} {P q : Addr} {o : HO} (t : TabG H P) (n : H q = none) : TabG (upd H q o) P := by
  obtain ⟨ps, e, ok⟩ := t
  exact ⟨ps, by rw [upd_ne (ne_of_none e n)]; exact e, ok⟩
end
def spSubst (K : PySem.W.Frag) (Pt : Addr) : Sp := fun vs H Q _ => ∃ (d : Addr) (tb : Sb) (kvs : List (L2.Key × V)), vs = [.ref d] ∧ H d = some (.dK kvs) ∧ TV K H tb kvs ∧ (tb.map (·.1)).Nodup ∧ tb.length < 64 ∧ Good tb ∧ TabG H Pt ∧
  ∀ su x H', tb.Norm su → Su K H' su x → (∀ b o, b ≠ Pt → H b = some o → H' b = some o) → TabG H' Pt → Q x H'
end Ad

/-! One substitution behind another. -/
namespace Ad
open PySem PySem.Spec PySem.Calls PyProof.Rows L2 GxR
namespace Sb
def beh (one other : Sb) : Sb := one.foldl (fun tb e => put tb e.1 (T.fill (asg other) e.2)) other
theorem beh_take {one other : Sb} {i : Nat} {e : Int × T} (h : one[i]? = some e) : beh (one.take (i + 1)) other = put (beh (one.take i) other) e.1 (T.fill (asg other) e.2) := by
  unfold beh
  rw [List.take_add_one, h, List.foldl_append]
  rfl
theorem fold_look (other : Sb) (s : Int → T) : ∀ (one tb : Sb), (one.map (·.1)).Nodup → ∀ i, look (one.foldl (fun tb e => put tb e.1 (T.fill s e.2)) tb) i = match look one i with
    | some t => some (T.fill s t)
    | none => look tb i
  | [], tb, _, i => rfl
  | e :: one, tb, nd, i => by
    obtain ⟨n1, n2⟩ := List.nodup_cons.mp nd
    rw [List.foldl_cons, fold_look other s one _ n2]
    have e1 : look (e :: one) i = if e.1 = i then some e.2 else look one i := rfl
    rw [e1, look_put]
    by_cases h : e.1 = i
    · rw [if_pos h, if_pos h]
      have out : look one i = none := by
        cases z : look one i with
        | none => rfl
        | some t =>
          have := (look_key one i).1 (by rw [z]; rfl)
          rw [← h] at this
          exact absurd this n1
      rw [out]
    · rw [if_neg h, if_neg h]
theorem beh_look {one other : Sb} (nd : (one.map (·.1)).Nodup) (i : Int) : look (beh one other) i = match look one i with
    | some t => some (T.fill (asg other) t)
    | none => look other i := fold_look other _ one other nd i
/-- putting in by it is putting in by one, then by the other -/
theorem beh_asg {one other : Sb} (nd : (one.map (·.1)).Nodup) (i : Int) : asg (beh one other) i = T.fill (asg other) (asg one i) := by
  show (look (beh one other) i).getD (.v i) = T.fill (asg other) ((look one i).getD (.v i))
  rw [beh_look nd]
  cases look one i <;> rfl
theorem nodup_fold (s : Int → T) : ∀ (one tb : Sb), (tb.map (·.1)).Nodup → ((one.foldl (fun tb e => put tb e.1 (T.fill s e.2)) tb).map (·.1)).Nodup
  | [], tb, h => h
  | e :: one, tb, h => nodup_fold s one _ (nodup_put h _ _)
theorem len_fold (s : Int → T) : ∀ (one tb : Sb), (one.foldl (fun tb e => put tb e.1 (T.fill s e.2)) tb).length ≤ tb.length + one.length
  | [], tb => Nat.le_refl _
  | e :: one, tb => by
    have h1 := len_fold s one (put tb e.1 (T.fill s e.2))
    have h2 := len_put tb e.1 (T.fill s e.2)
    rw [List.foldl_cons, List.length_cons]
    omega
end Sb
section
variable {P : Program} {w : World} {K : PySem.W.Frag} {mg : Str → Option Value} {base : Heap}
theorem dict_of {H : Hp} {a : Addr} {bs : List Addr} {su : Sb} (tup : Dt.Tup0 H a (bs.map V.ref)) (prs : F2 (SP K H) su bs) (nd : (su.map (·.1)).Nodup) : ∃ kvs, Paired (fun p kv => SqT K H p [kV kv.1, kv.2]) bs kvs ∧ TV K H su kvs ∧ mergeK [] kvs = kvs := by
  obtain ⟨kvs, pd, tv⟩ := sp_pairs prs
  refine ⟨kvs, pd, tv, ?_⟩
  have z := merge_all kvs [] (by
    rw [List.nil_append, tv.keys]
    exact List.Pairwise.map Sum.inl (fun a b h e => h (Sum.inl.inj e)) nd)
  rw [z, List.nil_append]
def spBehind (K : PySem.W.Frag) (Pt : Addr) (n : Nat) : Sp := fun vs H Q _ => ∃ (one other : Sb) (x y : V), vs = [x, y] ∧ Su K H one x ∧ Su K H other y ∧ (one.map (·.1)).Nodup ∧ (other.map (·.1)).Nodup ∧ (∀ e ∈ one, e.2.dep < n ∧ e.2.size ≤ 10000) ∧ one.length + other.length < 64 ∧
  Good (Sb.beh one other) ∧ TabG H Pt ∧ ∀ su z H', (Sb.beh one other).Norm su → Su K H' su z → (∀ b o, b ≠ Pt → H b = some o → H' b = some o) → TabG H' Pt → Q z H'
end
end Ad

namespace Ad
open PySem PySem.Spec PySem.Calls PyProof.Rows L2 GxR
def spLPairs (K : PySem.W.Frag) : Sp := fun vs H Q _ => ∃ (d : Addr) (tb : Sb) (kvs : List (L2.Key × V)), vs = [.ref d] ∧ H d = some (.dK kvs) ∧ TV K H tb kvs ∧ (tb.map (·.1)).Nodup ∧ tb.length < 64 ∧ Good tb ∧
  ∀ su x H', tb.Norm su → Su K H' su x → Same H H' → Q x H'
end Ad

/-! The law's own: behind; renamed; drawn pairs. -/
namespace Ad
open PySem PySem.Spec PySem.Calls PyProof.Rows L2 GxR
theorem dk_tk {H : Hp} {d : Addr} {kvs : List (L2.Key × V)} (h : H d = some (.dK kvs)) (o : HO) : TK H (upd H d o) := by
  intro b xs
  refine ⟨fun e => ?_, fun u e => ?_⟩
  · rw [upd_ne (fun z => by rw [z, h] at e; cases e)]
    exact e
  · rw [upd_ne (fun z => by rw [z, h] at e; cases e)]
    exact e
section
variable {P : Program} {w : World} {K : PySem.W.Frag} {mg : Str → Option Value} {base : Heap}
def spLBeh (K : PySem.W.Frag) (n : Nat) : Sp := fun vs H Q _ => ∃ (one other : Sb) (x y : V), vs = [x, y] ∧ Su K H one x ∧ Su K H other y ∧ (one.map (·.1)).Nodup ∧ (other.map (·.1)).Nodup ∧ (∀ e ∈ one, e.2.dep < n ∧ e.2.size ≤ 10000) ∧ one.length + other.length < 64 ∧
  Good (Sb.beh one other) ∧ ∀ su z H', (Sb.beh one other).Norm su → Su K H' su z → Same H H' → Q z H'
end
/-! ### renamed -/
namespace Sb
/-- the variables of a row, in the order in which they come, called first, first + 1, .. -/
def ren (first : Int) (tb : Sb) : List Int → Sb
  | [] => tb
  | i :: l => ren first (if (look tb i).isSome = true then tb else put tb i (.v (first + (tb.length : Int)))) l
theorem ren_app (first : Int) : ∀ (l m : List Int) (tb : Sb), ren first tb (l ++ m) = ren first (ren first tb l) m
  | [], m, tb => rfl
  | i :: l, m, tb => ren_app first l m _
theorem ren_len (first : Int) : ∀ (l : List Int) (tb : Sb), (ren first tb l).length ≤ tb.length + l.length
  | [], tb => Nat.le_refl _
  | i :: l, tb => by
    have h1 := ren_len first l (if (look tb i).isSome = true then tb else put tb i (.v (first + (tb.length : Int))))
    have h2 := len_put tb i (.v (first + (tb.length : Int)))
    show (ren first _ l).length ≤ tb.length + (l.length + 1)
    split at h1
    · rename_i z
      rw [if_pos z]
      omega
    · rename_i z
      rw [if_neg z]
      omega
end Sb
namespace T
def varOf : T → List Int
  | .v i => [i]
  | .f _ _ => []
mutual
theorem parts_vars : ∀ t : T, t.parts.flatMap varOf = t.vars
  | .v i => rfl
  | .f x ts => by
    show (T.f x ts :: partsL ts).flatMap varOf = varsL ts
    rw [List.flatMap_cons, partsL_vars ts]
    rfl
theorem partsL_vars : ∀ ts : List T, (partsL ts).flatMap varOf = varsL ts
  | [] => rfl
  | t :: ts => by
    show (parts t ++ partsL ts).flatMap varOf = vars t ++ varsL ts
    rw [List.flatMap_append, parts_vars t, partsL_vars ts]
end
end T
end Ad

/-! Drawn orders. -/
namespace Ad
open PySem PySem.Spec PySem.Calls PyProof.Rows L2
/-- a name and its number of arguments -/
abbrev Pr := Str × Nat
def PrV (K : PySem.W.Frag) (H : Hp) (r : Pr) (v : V) : Prop := ∃ b, v = .ref b ∧ SqT K H b [.str r.1, .int (r.2 : Int)]
theorem PrV.mono {K : PySem.W.Frag} {H H' : Hp} (k : TK H H') (r : Pr) (v : V) (h : PrV K H r v) : PrV K H' r v := by
  obtain ⟨b, e, s⟩ := h
  exact ⟨b, e, k.sq s⟩
/-- a list of such pairs -/
def LsP (K : PySem.W.Frag) (H : Hp) (R : List Pr) (a : Addr) : Prop := ∃ vs, H a = some (.lst vs) ∧ F2 (PrV K H) R vs
theorem LsP.same {K : PySem.W.Frag} {H H' : Hp} (s : Same H H') {R : List Pr} {a : Addr} (h : LsP K H R a) : LsP K H' R a := by
  obtain ⟨vs, e, f⟩ := h
  exact ⟨vs, s _ _ e, f.mono (PrV.mono (TK.same s))⟩
section
variable {K : PySem.W.Frag} {σ : L2.St} {H : Hp} {Q : VK}
abbrev tPr (x : Str) (n : Int) : TE := tTup (tCons (tC (.str x)) (tCons (tC (.int n)) tNil))
theorem lit_pr (K : PySem.W.Frag) {x : Str} {n : Nat} (h : ∀ v G, Same H G → PrV K G (x, n) v → Q v G) : tPr x (n : Int) σ H Q :=
  ⟨(by show 2 ≤ sizeLine; decide), fun p np => h _ _ (same_new (fun b o e => e) np _) ⟨p, rfl, .inl (.inl upd_same)⟩⟩
theorem lit_ls1 (K : PySem.W.Frag) {x : Str} {n : Nat} (h : ∀ a G, Same H G → H a = none → LsP K G [(x, n)] a → Q (.ref a) G) : tLst (tCons (tPr x (n : Int)) tNil) σ H Q := by
  show tPr x (n : Int) σ H (fun v G => [v].length ≤ sizeLine ∧ ∀ p, G p = none → Q (.ref p) (upd G p (.lst [v])))
  refine lit_pr K fun v G s pv => ⟨(by show 1 ≤ sizeLine; decide), fun p np => h p _ (same_new s np _) ?_ ⟨_, upd_same, F2.one (PrV.mono (TK.new np _) _ _ pv)⟩⟩
  cases z : H p with
  | none => rfl
  | some o =>
    rw [s _ _ z] at np
    cases np
theorem lit_ls2 (K : PySem.W.Frag) {x y : Str} {n m : Nat} (h : ∀ a G, Same H G → H a = none → LsP K G [(x, n), (y, m)] a → Q (.ref a) G) : tLst (tCons (tPr x (n : Int)) (tCons (tPr y (m : Int)) tNil)) σ H Q := by
  show tPr x (n : Int) σ H (fun v G => tPr y (m : Int) σ G (fun v2 G2 => [v, v2].length ≤ sizeLine ∧ ∀ p, G2 p = none → Q (.ref p) (upd G2 p (.lst [v, v2]))))
  refine lit_pr K fun v G s pv => lit_pr K fun v2 G2 s2 pv2 => ⟨(by show 2 ≤ sizeLine; decide), fun p np => h p _ (same_new (show Same H G2 from fun b o e => s2 b o (s b o e)) np _) ?_ ⟨_, upd_same, ⟨_, _, rfl, PrV.mono ((TK.same s2).trans (TK.new np _)) _ _ pv, F2.one (PrV.mono (TK.new np _) _ _ pv2)⟩⟩⟩
  cases z : H p with
  | none => rfl
  | some o =>
    rw [s2 _ _ (s _ _ z)] at np
    cases np
theorem lit_ls0 (K : PySem.W.Frag) (h : ∀ a G, Same H G → H a = none → LsP K G [] a → Q (.ref a) G) : tLst tNil σ H Q :=
  ⟨Nat.zero_le _, fun p np => h p _ (same_new (fun b o e => e) np _) np ⟨_, upd_same, rfl⟩⟩
theorem cat_prs {R S : List Pr} {a b : Addr} (ha : LsP K H R a) (hb : LsP K H S b) (few : R.length + S.length ≤ 1000) (h : ∀ c G, Same H G → H c = none → LsP K G (R ++ S) c → Q (.ref c) G) : rCat (.ref a) (.ref b) H Q := by
  obtain ⟨xs, e1, f1⟩ := ha
  obtain ⟨ys, e2, f2⟩ := hb
  have l1 := f1.len
  have l2 := f2.len
  refine ⟨a, b, xs, ys, rfl, rfl, e1, e2, by rw [sizeLine_eq]; omega, fun p np => h p _ (same_new (fun b o e => e) np _) np ⟨_, upd_same, ?_⟩⟩
  exact (f1.app f2).mono (PrV.mono (TK.new np _))
end
section
variable {K : PySem.W.Frag} {σ : L2.St} {H : Hp}
theorem lit_truths (K : PySem.W.Frag) {Q : List V → Hp → Prop} (h : ∀ a G xs, Same H G → H a = none → G a = some (.lst xs) → xs.length = 3 → (∀ v ∈ xs, ∃ b S, v = .ref b ∧ H b = none ∧ LsP K G S b ∧ S ∈ [[(("q" : Str), 0)], [("r", 2)], [("q", 0), ("r", 2)]]) → Q [.ref a] G) :
    tCons (tLst (tCons (tLst (tCons (tPr "q" 0) tNil)) (tCons (tLst (tCons (tPr "r" 2) tNil)) (tCons (tLst (tCons (tPr "q" 0) (tCons (tPr "r" 2) tNil))) tNil)))) tNil σ H Q := by
  dsimp only [tCons]
  show tLst (tCons (tPr "q" ((0 : Nat) : Int)) tNil) σ H (fun v1 G1 => tLst (tCons (tPr "r" ((2 : Nat) : Int)) tNil) σ G1 (fun v2 G2 => tLst (tCons (tPr "q" ((0 : Nat) : Int)) (tCons (tPr "r" ((2 : Nat) : Int)) tNil)) σ G2 (fun v3 G3 => [v1, v2, v3].length ≤ sizeLine ∧ ∀ p, G3 p = none → Q [.ref p] (upd G3 p (.lst [v1, v2, v3])))))
  refine lit_ls1 K fun a1 G1 s1 n1 L1 => lit_ls1 K fun a2 G2 s2 n2 L2 => lit_ls2 K fun a3 G3 s3 n3 L3 => ⟨(by show 3 ≤ sizeLine; decide), fun p np => ?_⟩
  have sm : Same H G3 := fun b o e => s3 b o (s2 b o (s1 b o e))
  have back : ∀ {q : Addr} {G : Hp}, Same H G → G q = none → H q = none := fun {q G} s n => by
    cases z : H q with
    | none => rfl
    | some o =>
      rw [s _ _ z] at n
      cases n
  have s4 : Same G3 (upd G3 p (.lst [.ref a1, .ref a2, .ref a3])) := same_new (fun b o e => e) np _
  refine h p _ _ (fun b o e => s4 b o (sm b o e)) (back sm np) upd_same rfl ?_
  intro v hv
  rcases List.mem_cons.mp hv with e | hv
  · exact ⟨a1, _, e, n1, ((L1.same s2).same s3).same s4, by simp⟩
  · rcases List.mem_cons.mp hv with e | hv
    · exact ⟨a2, _, e, back s1 n2, (L2.same s3).same s4, by simp⟩
    · exact ⟨a3, _, List.mem_singleton.mp hv, back (show Same H G2 from fun b o e => s2 b o (s1 b o e)) n3, L3.same s4, by simp⟩
end
/-! ### frames of a pen -/
theorem but_on {p d : Addr} {H G : Hp} (b : Pn.But p H G) (n : H d = none) (o : HO) : Pn.But p H (upd G d o) := fun q u nq e => by
  rw [upd_ne (fun z => by rw [z, n] at e; cases e)]
  exact b _ _ nq e
theorem pen_on {H G : Hp} {p l d : Addr} {ns : List Int} {c0 c : Nat} (P0 : Pn.Pen H p l ns c0) (n : H d = none) (P : Pn.Pen G p l ns c) (o : HO) : Pn.Pen (upd G d o) p l ns c := by
  obtain ⟨⟨a0, d0, f0, e0, _⟩, h0⟩ := P0
  obtain ⟨⟨a, d1, f, e, r⟩, h⟩ := P
  have n1 : p ≠ d := fun z => by rw [z, n] at e0; cases e0
  have n2 : l ≠ d := fun z => by rw [z, n] at h0; cases h0
  exact ⟨⟨a, d1, f, by rw [upd_ne n1]; exact e, r⟩, by rw [upd_ne n2]; exact h⟩
theorem fresh_back {H G : Hp} {p l q : Addr} {ns : List Int} {c : Nat} (b : Pn.But p H G) (P : Pn.Pen G p l ns c) (n : G q = none) : H q = none := by
  cases z : H q with
  | none => rfl
  | some o =>
    by_cases e : q = p
    · obtain ⟨⟨_, _, _, e0, _⟩, _⟩ := P
      rw [e, e0] at n
      cases n
    · rw [b _ _ e z] at n
      cases n
theorem pen_kept {H : Hp} {p l d : Addr} {ns : List Int} {c : Nat} (P : Pn.Pen H p l ns c) (n : H d = none) : d ≠ p := fun z => by
  obtain ⟨⟨_, _, _, e0, _⟩, _⟩ := P
  rw [z, e0] at n
  cases n
theorem LsP.but {K : PySem.W.Frag} {H H' : Hp} {p l : Addr} {ns : List Int} {c : Nat} (P : Pn.Pen H p l ns c) (b : Pn.But p H H') {R : List Pr} {a : Addr} (na : a ≠ p) (h : LsP K H R a) : LsP K H' R a := by
  obtain ⟨vs, e, f⟩ := h
  exact ⟨vs, b _ _ na e, f.mono (PrV.mono (pen_tk P b))⟩
/-! ### the order -/
def thingsB : List (List Pr) := [[("a", 0), ("b", 0), ("c", 0), ("f", 1), ("g", 2)], [("a", 0), ("b", 0), ("f", 1), ("g", 2)], [("a", 0), ("b", 0), ("c", 0), ("f", 1)], [("a", 0), ("b", 0), ("f", 1)]]
def truthsB : List (List Pr) := [[("p", 1), ("q", 0)], [("p", 1), ("r", 2)], [("p", 1), ("q", 0), ("r", 2)]]
/-- the same names in some order, with weights of one and two -/
structure Mixed (B : List Pr) (R : List Row) : Prop where
  perm : (R.map fun r => (r.1, r.2.1)).Perm B
  weights : ∀ r ∈ R, r.2.2 = 1 ∨ r.2.2 = 2
def KdV (K : PySem.W.Frag) (H : Hp) (B : List Pr) (v : V) : Prop := ∃ b R vs, v = .ref b ∧ Mixed B R ∧ SqT K H b vs ∧ F2 (RowV K H) R vs
theorem KdV.mono {K : PySem.W.Frag} {H H' : Hp} (k : TK H H') (B : List Pr) (v : V) (h : KdV K H B v) : KdV K H' B v := by
  obtain ⟨b, R, vs, e, m, s, f⟩ := h
  exact ⟨b, R, vs, e, m, k.sq s, f.mono (RowV.mono k)⟩
def OrdAt (K : PySem.W.Frag) (H : Hp) (a : Addr) (R S : List Row) : Prop := ∃ b1 b2 vs1 vs2, SqT K H a [.ref b1, .ref b2] ∧ SqT K H b1 vs1 ∧ SqT K H b2 vs2 ∧ F2 (RowV K H) R vs1 ∧ F2 (RowV K H) S vs2
theorem OrdAt.rows {K : PySem.W.Frag} {H : Hp} {a : Addr} {R S : List Row} (h : OrdAt K H a R S) : RowsAt K H a R := by
  obtain ⟨b1, b2, vs1, vs2, h0, h1, h2, f1, f2⟩ := h
  exact ⟨b1, _, vs1, h0, h1, f1⟩
theorem OrdAt.mono {K : PySem.W.Frag} {H H' : Hp} (k : TK H H') {a : Addr} {R S : List Row} (h : OrdAt K H a R S) : OrdAt K H' a R S := by
  obtain ⟨b1, b2, vs1, vs2, h0, h1, h2, f1, f2⟩ := h
  exact ⟨b1, b2, vs1, vs2, k.sq h0, k.sq h1, k.sq h2, f1.mono (RowV.mono k), f2.mono (RowV.mono k)⟩
theorem mixed_ok {B : List Pr} {R : List Row} (hB : B ∈ thingsB) (m : Mixed B R) : ROk R := by
  have h : (thingsB.all fun B => B.all (fun r => nameOk r.1 && decide (r.2 ≤ 3)) && B.contains ("a", 0) && decide (B.length ≤ 5)) = true := by decide +kernel
  have h1 := List.all_eq_true.mp h B hB
  rw [Bool.and_eq_true, Bool.and_eq_true] at h1
  obtain ⟨⟨h2, h3⟩, h4⟩ := h1
  refine ⟨fun r hr => ?_, ?_, ?_⟩
  · have z : (r.1, r.2.1) ∈ B := m.perm.mem_iff.mp (List.mem_map.mpr ⟨r, hr, rfl⟩)
    have z2 := List.all_eq_true.mp h2 _ z
    rw [Bool.and_eq_true] at z2
    exact ⟨z2.1, of_decide_eq_true z2.2⟩
  · have z : (("a", 0) : Pr) ∈ B := List.contains_iff_mem.mp h3
    obtain ⟨r, hr, e⟩ := List.mem_map.mp (m.perm.mem_iff.mpr z)
    obtain ⟨j, hj⟩ := List.mem_iff_getElem?.mp hr
    exact ⟨j, r, hj, (Prod.mk.inj e).2⟩
  · have e := m.perm.length_eq
    rw [List.length_map] at e
    have := of_decide_eq_true h4
    omega
theorem F2.erase {α β : Type} {R : α → β → Prop} : ∀ {xs : List α} {ys : List β} (k : Nat), F2 R xs ys → F2 R (xs.eraseIdx k) (ys.eraseIdx k)
  | [], ys, k, h => by
    cases (show ys = [] from h)
    exact rfl
  | x :: xs, ys, 0, h => by
    obtain ⟨y, zs, rfl, h1, h2⟩ := h
    exact h2
  | x :: xs, ys, k + 1, h => by
    obtain ⟨y, zs, rfl, h1, h2⟩ := h
    exact ⟨y, _, rfl, h1, F2.erase k h2⟩
theorem erase_perm {α : Type} : ∀ {xs : List α} {k : Nat} {x : α}, xs[k]? = some x → xs.Perm (x :: xs.eraseIdx k)
  | [], k, x, h => by cases h
  | y :: ys, 0, x, h => by
    cases h
    exact List.Perm.refl _
  | y :: ys, k + 1, x, h => ((erase_perm (xs := ys) (k := k) h).cons y).trans (List.Perm.swap x y _)
theorem sx_nat {j n : Nat} (h : j < n) : seqIndex? (j : Int) n = some j := by
  unfold seqIndex?
  have h1 : ¬ ((j : Int) < 0) := by omega
  have h2 : (decide (0 ≤ (j : Int)) && decide ((j : Int) < (n : Int))) = true := by
    rw [decide_eq_true (by omega), decide_eq_true (by omega)]
    rfl
  simp only [if_neg h1, h2, if_true, Int.toNat_natCast]
/-- what stays but for a pen and two lists -/
def Bt (p u v : Addr) (G G' : Hp) : Prop := ∀ b o, b ≠ p → b ≠ u → b ≠ v → G b = some o → G' b = some o
theorem Bt.refl {p u v : Addr} (G : Hp) : Bt p u v G G := fun _ _ _ _ _ e => e
theorem Bt.but {p u v : Addr} {G G1 G2 : Hp} (a : Bt p u v G G1) (b : Pn.But p G1 G2) : Bt p u v G G2 := fun c o n1 n2 n3 e => b _ _ n1 (a _ _ n1 n2 n3 e)
theorem Bt.u {p u v : Addr} {G G1 : Hp} (a : Bt p u v G G1) (o : HO) : Bt p u v G (upd G1 u o) := fun c o n1 n2 n3 e => by
  rw [upd_ne n2]
  exact a _ _ n1 n2 n3 e
theorem Bt.v {p u v : Addr} {G G1 : Hp} (a : Bt p u v G G1) (o : HO) : Bt p u v G (upd G1 v o) := fun c o n1 n2 n3 e => by
  rw [upd_ne n3]
  exact a _ _ n1 n2 n3 e
theorem Bt.tk {p u v l : Addr} {ns : List Int} {c : Nat} {G G1 : Hp} {us vs : List V} (a : Bt p u v G G1) (P : Pn.Pen G p l ns c) (hu : G u = some (.lst us)) (hv : G v = some (.lst vs)) : TK G G1 := by
  obtain ⟨⟨_, _, _, e0, _⟩, _⟩ := P
  have n : ∀ b o, (∀ kvs, o ≠ HO.dK kvs) → (∀ xs, o ≠ HO.lst xs) → G b = some o → b ≠ p ∧ b ≠ u ∧ b ≠ v := fun b o h1 h2 e => by
    refine ⟨fun z => ?_, fun z => ?_, fun z => ?_⟩
    · rw [z, e0] at e
      cases e
      exact h1 _ rfl
    · rw [z, hu] at e
      cases e
      exact h2 _ rfl
    · rw [z, hv] at e
      cases e
      exact h2 _ rfl
  intro b xs
  refine ⟨fun e => ?_, fun o e => ?_⟩
  · obtain ⟨n1, n2, n3⟩ := n b _ (by intro _ z; cases z) (by intro _ z; cases z) e
    exact a _ _ n1 n2 n3 e
  · obtain ⟨n1, n2, n3⟩ := n b _ (by intro _ z; cases z) (by intro _ z; cases z) e
    exact a _ _ n1 n2 n3 e
def spOrder (K : PySem.W.Frag) : Sp := fun vs H Q _ => ∃ (p l : Addr) (ns : List Int) (c : Nat), vs = [.ref p] ∧ Pn.Pen H p l ns c ∧ ns.length ≤ 1000 ∧ c ≤ 900000000 ∧
  ∀ a R S B C H' c', OrdAt K H' a R S → B ∈ thingsB → C ∈ truthsB → Mixed B R → Mixed C S → c' ≤ c + 40 → Pn.Pen H' p l ns c' → Pn.But p H H' → Q (.ref a) H'
end Ad

/-! Drawn substitutions. -/
namespace Ad
open PySem PySem.Spec PySem.Calls PyProof.Rows L2
theorem sz_mono {a b : Nat} (h : a ≤ b) : sz a ≤ sz b := by
  induction h with
  | refl => exact Nat.le_refl _
  | step h ih =>
    refine Nat.le_trans ih ?_
    show sz _ ≤ 1 + 3 * sz _
    omega
theorem dn_mono {a b : Nat} (h : a ≤ b) : dn a ≤ dn b := by
  induction h with
  | refl => exact Nat.le_refl _
  | step h ih =>
    refine Nat.le_trans ih ?_
    show dn _ ≤ 2 + 3 * dn _
    omega
theorem DT.mono {R : List Row} {d e : Nat} {nv : Int} {t : T} (h : d ≤ e) (x : DT R d nv t) : DT R e nv t := ⟨x.named, Nat.le_trans x.dep (by omega), Nat.le_trans x.size (sz_mono h), x.vars, x.wf⟩
theorem rising_len : ∀ {l : List Int} {lo hi : Int}, l.Pairwise (· < ·) → (∀ i ∈ l, lo ≤ i ∧ i < hi) → lo ≤ hi → (l.length : Int) ≤ hi - lo
  | [], lo, hi, _, _, h => by
    show ((0 : Nat) : Int) ≤ hi - lo
    omega
  | a :: l, lo, hi, h1, h2, h => by
    obtain ⟨p1, p2⟩ := List.pairwise_cons.mp h1
    obtain ⟨q1, q2⟩ := h2 a List.mem_cons_self
    have := rising_len (lo := a + 1) (hi := hi) p2 (fun i hi' => ⟨by have := p1 i hi'; omega, (h2 i (List.mem_cons_of_mem _ hi')).2⟩) (by omega)
    rw [List.length_cons]
    omega
theorem Sb.mem_put {tb : Sb} {i : Int} {t : T} {e : Int × T} (h : e ∈ tb.put i t) : e = (i, t) ∨ e ∈ tb := by
  unfold Sb.put at h
  split at h
  · obtain ⟨e', he, h'⟩ := List.mem_map.mp h
    split at h'
    · rename_i z
      left
      rw [← h', z]
    · right
      rw [← h']
      exact he
  · rcases List.mem_append.mp h with z | z
    · exact .inr z
    · exact .inl (List.mem_singleton.mp z)
/-- a substitution in its one form, drawn -/
structure DSu (R : List Row) (deep : Nat) (nv : Int) (su : Sb) : Prop where
  rising : (su.map (·.1)).Pairwise (· < ·)
  each : ∀ e ∈ su, 0 ≤ e.1 ∧ e.1 < nv ∧ DT R deep nv e.2
theorem DSu.few {R : List Row} {deep : Nat} {nv : Int} {su : Sb} (h : DSu R deep nv su) (n : 0 ≤ nv) : (su.length : Int) ≤ nv := by
  have := rising_len (lo := 0) (hi := nv) h.rising (fun i hi => by
    obtain ⟨e, he, rfl⟩ := List.mem_map.mp hi
    exact ⟨(h.each e he).1, (h.each e he).2.1⟩) n
  rw [List.length_map] at this
  omega
section
variable {P : Program} {w : World} {K : PySem.W.Frag} {mg : Str → Option Value} {base : Heap}
def spDPairs (K : PySem.W.Frag) (n : Nat) : Sp := fun vs H Q _ => ∃ (p l ra : Addr) (ns : List Int) (c deep nv : Nat) (R : List Row), vs = [.ref p, .ref ra, .int (nv : Int), .int (deep : Int)] ∧ Pn.Pen H p l ns c ∧ ns.length ≤ 1000 ∧ c + nv * (2 + dn deep) ≤ 1000000000 ∧ RowsAt K H ra R ∧ ROk R ∧
  deep < n ∧ deep ≤ 50 ∧ nv ≤ 60 ∧ ∀ su x H' c', DSu R deep nv su → Su K H' su x → c' ≤ c + nv * (2 + dn deep) → Pn.Pen H' p l ns c' → Pn.But p H H' → Q x H'
end
end Ad

/-! Texts of terms and substitutions. -/
namespace Ad
open PySem PySem.Spec PySem.Calls PyProof.Rows L2
theorem tuple_piled (ts : List Str) : (tupleText ts).length ≤ 3 + piled ts := by
  unfold tupleText
  rw [strLen_append, strLen_append]
  have e1 : ((("(" : String) : Str)).length = 1 := rfl
  have e3 : (((if ts.length == 1 then ",)" else ")" : String) : Str)).length ≤ 2 := by split <;> decide
  rw [e1]
  by_cases z : ts = []
  · subst z
    have e4 : (Str.join ", " ([] : List Str)).length = 0 := rfl
    rw [e4]
    omega
  · have h2 := join_length_add ts z
    omega
theorem small_text (i : Int) (h0 : 0 ≤ i) (h : i < 64) : (toString i : Str).length ≤ 2 ∧ i.natAbs.log2 < 1920 := by
  have all : ∀ j : Fin 64, (toString ((j.val : Nat) : Int) : Str).length ≤ 2 ∧ (((j.val : Nat) : Int)).natAbs.log2 < 1920 := by decide +kernel
  have := all ⟨i.toNat, by omega⟩
  have e : ((i.toNat : Nat) : Int) = i := Int.toNat_of_nonneg h0
  rw [show (((⟨i.toNat, by omega⟩ : Fin 64).val : Nat) : Int) = i from e] at this
  exact this
namespace T
mutual
theorem text : ∀ t : T, t.named = true → (∀ j ∈ t.vars, 0 ≤ j ∧ j < 64) → t.d.showable = true ∧ t.d.shown.length + 2 ≤ 17 * t.size
  | .v i, _, h => by
    obtain ⟨a, b⟩ := h i List.mem_cons_self
    obtain ⟨s1, s2⟩ := small_text i a b
    refine ⟨decide_eq_true s2, ?_⟩
    show (toString i : Str).length + 2 ≤ 17 * 1
    omega
  | .f x ts, n, h => by
    have n' : (nameOk x && namedL ts) = true := n
    rw [Bool.and_eq_true] at n'
    obtain ⟨a, b⟩ := texts ts n'.2 h
    refine ⟨?_, ?_⟩
    · show (true && PyData.showableAll (ds ts)) = true
      rw [a]
      rfl
    · have l := tuple_piled (PyData.shownAll (.str x :: ds ts))
      have e : piled (PyData.shownAll (.str x :: ds ts)) = ((PyData.shown (.str x)).length + 2) + piled (PyData.shownAll (ds ts)) := piled_cons _ _
      have s := nameOk_short n'.1
      show (tupleText (PyData.shownAll (.str x :: ds ts))).length + 2 ≤ 17 * (1 + sizeL ts)
      omega
theorem texts : ∀ ts : List T, namedL ts = true → (∀ j ∈ varsL ts, 0 ≤ j ∧ j < 64) → PyData.showableAll (ds ts) = true ∧ piled (PyData.shownAll (ds ts)) ≤ 17 * sizeL ts
  | [], _, _ => ⟨rfl, Nat.zero_le _⟩
  | t :: ts, n, h => by
    have n' : (named t && namedL ts) = true := n
    rw [Bool.and_eq_true] at n'
    obtain ⟨a1, a2⟩ := text t n'.1 fun j hj => h j (List.mem_append_left _ hj)
    obtain ⟨b1, b2⟩ := texts ts n'.2 fun j hj => h j (List.mem_append_right _ hj)
    refine ⟨?_, ?_⟩
    · show (PyData.showable (d t) && PyData.showableAll (ds ts)) = true
      rw [a1, b1]
      rfl
    · have e : piled (PyData.shownAll (d t :: ds ts)) = ((PyData.shown (d t)).length + 2) + piled (PyData.shownAll (ds ts)) := piled_cons _ _
      show piled (PyData.shownAll (d t :: ds ts)) ≤ 17 * (size t + sizeL ts)
      rw [e]
      omega
end
mutual
theorem fill_vars {s : Int → T} {j : Int} : ∀ t : T, j ∈ (fill s t).vars → ∃ i ∈ t.vars, j ∈ (s i).vars
  | .v i, h => ⟨i, List.mem_cons_self, h⟩
  | .f x ts, h => fillL_vars ts h
theorem fillL_vars {s : Int → T} {j : Int} : ∀ ts : List T, j ∈ varsL (fillL s ts) → ∃ i ∈ varsL ts, j ∈ (s i).vars
  | [], h => by cases h
  | t :: ts, h => by
    rcases List.mem_append.mp h with z | z
    · obtain ⟨i, a, b⟩ := fill_vars t z
      exact ⟨i, List.mem_append_left _ a, b⟩
    · obtain ⟨i, a, b⟩ := fillL_vars ts z
      exact ⟨i, List.mem_append_right _ a, b⟩
end
end T
/-- a substitution's data -/
def suD (su : Sb) : PyData := .tuple (su.map fun e => .tuple [.int e.1, e.2.d])
theorem sps_dp {K : PySem.W.Frag} {H : Hp} : ∀ {su : Sb} {bs : List Addr}, F2 (SP K H) su bs → DpAll K H (bs.map V.ref) (su.map fun e => PyData.tuple [.int e.1, e.2.d])
  | [], bs, h => by
    cases (show bs = [] from h)
    exact .nil
  | e :: su, bs, h => by
    obtain ⟨b, r, rfl, ⟨v, s, t⟩, rest⟩ := h
    exact .cons (.tup s (.cons (.int _) (.cons (Tm.dp _ _ t) .nil))) (sps_dp rest)
theorem su_dp {K : PySem.W.Frag} {H : Hp} {su : Sb} {x : V} (h : Su K H su x) : Dp K H x (suD su) := by
  obtain ⟨a, bs, rfl, t, f⟩ := h
  exact .tup t.sq (sps_dp f)
/-- terms that can be shown, with few parts -/
structure Sm (m : Nat) (t : T) : Prop where
  named : t.named = true
  dep : t.dep ≤ 40
  size : t.size ≤ m
  vars : ∀ j ∈ t.vars, 0 ≤ j ∧ j < 64
theorem su_lay : ∀ {su : Sb}, (∀ e ∈ su, e.2.named = true) → PyData.canLayAll0 (su.map fun e => PyData.tuple [.int e.1, e.2.d]) = true
  | [], _ => rfl
  | e :: su, h => by
    show (PyData.canLay0 (.tuple [.int e.1, e.2.d]) && PyData.canLayAll0 (su.map _)) = true
    rw [su_lay fun e he => h e (List.mem_cons_of_mem _ he)]
    show (((PyData.canLay0 (.int e.1) && (PyData.canLay0 e.2.d && true))) && true) = true
    rw [T.d_lay _ (h e List.mem_cons_self)]
    rfl
theorem su_depth : ∀ {su : Sb}, (∀ e ∈ su, e.2.dep ≤ 40) → PyData.depthAll (su.map fun e => PyData.tuple [.int e.1, e.2.d]) ≤ 41
  | [], _ => Nat.zero_le _
  | e :: su, h => by
    show max (PyData.depth (.tuple [.int e.1, e.2.d])) (PyData.depthAll (su.map _)) ≤ 41
    have h1 := su_depth (su := su) fun e he => h e (List.mem_cons_of_mem _ he)
    have h2 : PyData.depth (.tuple [.int e.1, e.2.d]) = max 0 (max e.2.d.depth 0) + 1 := rfl
    have h3 := h e List.mem_cons_self
    rw [T.d_depth] at h2
    omega
theorem su_show {m : Nat} : ∀ {su : Sb}, (∀ e ∈ su, 0 ≤ e.1 ∧ e.1 < 64 ∧ Sm m e.2) → PyData.showableAll (su.map fun e => PyData.tuple [.int e.1, e.2.d]) = true ∧ piled (PyData.shownAll (su.map fun e => PyData.tuple [.int e.1, e.2.d])) ≤ su.length * (17 * m + 9)
  | [], _ => ⟨rfl, Nat.zero_le _⟩
  | e :: su, h => by
    obtain ⟨a, b⟩ := su_show (m := m) (su := su) fun e he => h e (List.mem_cons_of_mem _ he)
    obtain ⟨i0, i1, sm⟩ := h e List.mem_cons_self
    obtain ⟨s1, s2⟩ := T.text e.2 sm.named sm.vars
    obtain ⟨t1, t2⟩ := small_text e.1 i0 i1
    have z := sm.size
    refine ⟨?_, ?_⟩
    · show ((decide (e.1.natAbs.log2 < 1920) && (PyData.showable e.2.d && true)) && PyData.showableAll (su.map _)) = true
      rw [a, s1, decide_eq_true t2]
      rfl
    · have l := tuple_piled [PyData.shown (.int e.1), PyData.shown e.2.d]
      have p : piled [PyData.shown (.int e.1), PyData.shown e.2.d] = ((PyData.shown (.int e.1)).length + 2) + ((PyData.shown e.2.d).length + 2) := by
        rw [piled_cons, piled_cons, piled_nil]
      have t1' : (PyData.shown (.int e.1)).length ≤ 2 := t1
      have q : piled (PyData.shownAll ((e :: su).map fun e => PyData.tuple [.int e.1, e.2.d])) = ((tupleText [PyData.shown (.int e.1), PyData.shown e.2.d]).length + 2) + piled (PyData.shownAll (su.map fun e => PyData.tuple [.int e.1, e.2.d])) := piled_cons _ _
      rw [q, List.length_cons, Nat.succ_mul]
      omega
/-- a small substitution can be shown -/
theorem su_text {m : Nat} {su : Sb} (hm : m ≤ 10000) (few : su.length ≤ 64) (h : ∀ e ∈ su, 0 ≤ e.1 ∧ e.1 < 64 ∧ Sm m e.2) : (suD su).showable = true ∧ (suD su).hasDict = false ∧ (suD su).depth ≤ 60 ∧ (suD su).shown.length ≤ sizeLine := by
  obtain ⟨a, b⟩ := su_show h
  refine ⟨a, PyData.hasDict_of_canLay _ ?_, ?_, ?_⟩
  · exact su_lay fun e he => (h e he).2.2.named
  · have := su_depth (su := su) fun e he => (h e he).2.2.dep
    show PyData.depthAll (su.map _) + 1 ≤ 60
    omega
  · have l := tuple_piled (PyData.shownAll (su.map fun e => PyData.tuple [.int e.1, e.2.d]))
    have mm : su.length * (17 * m + 9) ≤ 64 * (17 * 10000 + 9) := Nat.mul_le_mul few (by omega)
    show (tupleText (PyData.shownAll (su.map fun e => PyData.tuple [.int e.1, e.2.d]))).length ≤ sizeLine
    rw [sizeLine_eq]
    omega
theorem su_shaped {su : Sb} (h : ∀ e ∈ su, e.2.named = true ∧ e.2.dep ≤ 40) : SeqAt.shaped (suD su) = true := by
  have d := su_depth (su := su) fun e he => (h e he).2
  have l := su_lay (su := su) fun e he => (h e he).1
  unfold SeqAt.shaped
  rw [Bool.and_eq_true]
  refine ⟨l, decide_eq_true ?_⟩
  show PyData.depthAll (su.map _) + 1 ≤ _
  omega
theorem eqv_one {d : PyData} (h : SeqAt.shaped d = true) : PyData.eqv d d = true := SeqAt.eqv_refl d (SeqAt.canLay_of_shaped h)
end Ad

/-! The law: its parts. -/
namespace Ad
open PySem PySem.Spec PySem.Calls PyProof.Rows L2 GxR
/-- a def of the top, with its promise -/
structure Has (P : Program) (w : World) (K : PySem.W.Frag) (mg : Str → Option Value) (base : Heap) (k : Nat) (x : Str) (ps : List Str) (sp : Sp) (f : Addr) (fd : FuncData) : Prop where
  G : FnOk P w K mg base CX0 k f fd ps sp
  g : mg x = some (.ref f)
  kp : PySem.W.keepIn K (.ref f) = true
  b : Binds K fd ps []
structure HasG (P : Program) (w : World) (K : PySem.W.Frag) (mg : Str → Option Value) (base : Heap) (k : Nat) (x : Str) (ps : List Str) (sp : Sp) (f : Addr) (fd : FuncData) : Prop where
  G : FnG P w K mg base CX0 k f fd ps sp
  g : mg x = some (.ref f)
  kp : PySem.W.keepIn K (.ref f) = true
  b : Binds K fd ps []
theorem iteNE {b : Bool} {A B : Prop} (hb : b = true) (h : B) : if (!b) = true then A else B := by
  rw [hb]
  exact iteF h
theorem iteE {b : Bool} {A B : Prop} (hb : b = true) (h : A) : if b = true then A else B := by
  rw [hb]
  exact iteT h
/-! ### written substitutions -/
/-- a written pair -/
def PLit (K : PySem.W.Frag) (tp : TE) (e : Int × T) : Prop := ∀ (σ : L2.St) (H : Hp) (Q : VK), (∀ b G, Same H G → SP K G e b → Q (.ref b) G) → tp σ H Q
theorem plit_v (K : PySem.W.Frag) (i j : Int) : PLit K (tTup (tCons (tC (.int i)) (tCons (tC (.int j)) tNil))) (i, .v j) := fun σ H Q h =>
  ⟨(by show 2 ≤ sizeLine; decide), fun p np => h p _ (same_new (fun b o e => e) np _) ⟨.int j, .inl (.inl upd_same), rfl⟩⟩
theorem plit_f (K : PySem.W.Frag) (i j : Int) (x : Str) : PLit K (tTup (tCons (tC (.int i)) (tCons (tTup (tCons (tC (.str x)) (tCons (tC (.int j)) tNil))) tNil))) (i, .f x [.v j]) := fun σ H Q h =>
  ⟨(by show 2 ≤ sizeLine; decide), fun p1 n1 => ⟨(by show 2 ≤ sizeLine; decide), fun p np => h p _ (same_new (same_new (fun b o e => e) n1 _) np _)
    ⟨.ref p1, .inl (.inl upd_same), p1, [.int j], rfl, (TK.new np _).sq (.inl (.inl upd_same)), .int j, [], rfl, rfl, rfl⟩⟩⟩
theorem sulit0 (K : PySem.W.Frag) {σ : L2.St} {H : Hp} {Q : VK} (h : ∀ x G, Same H G → Su K G [] x → Q x G) : Dt.tTup0 tNil σ H Q :=
  ⟨Nat.zero_le _, fun p o np od => h (.ref p) _ (same_new (fun b o e => e) np _) ⟨p, [], rfl, ⟨o, upd_same, od⟩, rfl⟩⟩
theorem sulit1 {K : PySem.W.Frag} {σ : L2.St} {H : Hp} {Q : VK} {t1 : TE} {e1 : Int × T} (p1 : PLit K t1 e1) (h : ∀ x G, Same H G → Su K G [e1] x → Q x G) : Dt.tTup0 (tCons t1 tNil) σ H Q := by
  show t1 σ H (fun v G => [v].length ≤ sizeLine ∧ ∀ p o, G p = none → o.dict = none → Q (.ref p) (upd G p (.frz o (.tup [v]))))
  exact p1 σ H _ fun b G s sp => ⟨(by show 1 ≤ sizeLine; decide), fun p o np od => h (.ref p) _ (same_new s np _) ⟨p, [b], rfl, ⟨o, upd_same, od⟩, F2.one (SP.mono (TK.new np _) _ _ sp)⟩⟩
theorem sulit2 {K : PySem.W.Frag} {σ : L2.St} {H : Hp} {Q : VK} {t1 t2 : TE} {e1 e2 : Int × T} (p1 : PLit K t1 e1) (p2 : PLit K t2 e2) (h : ∀ x G, Same H G → Su K G [e1, e2] x → Q x G) : Dt.tTup0 (tCons t1 (tCons t2 tNil)) σ H Q := by
  show t1 σ H (fun v G => t2 σ G (fun v2 G2 => [v, v2].length ≤ sizeLine ∧ ∀ p o, G2 p = none → o.dict = none → Q (.ref p) (upd G2 p (.frz o (.tup [v, v2])))))
  exact p1 σ H _ fun b G s sp => p2 σ G _ fun b2 G2 s2 sp2 => ⟨(by show 2 ≤ sizeLine; decide), fun p o np od => h (.ref p) _ (same_new (show Same H G2 from fun b o e => s2 b o (s b o e)) np _)
    ⟨p, [b, b2], rfl, ⟨o, upd_same, od⟩, _, _, rfl, SP.mono ((TK.same s2).trans (TK.new np _)) _ _ sp, F2.one (SP.mono (TK.new np _) _ _ sp2)⟩⟩
/-! ### the law's substitutions -/
theorem dt_v {R : List Row} {j nv : Int} (h0 : 0 ≤ j) (h1 : j < nv) : DT R 2 nv (.v j) := ⟨rfl, Nat.zero_le _, one_sz _, fun i hi => by
  cases List.mem_singleton.mp hi
  exact ⟨h0, h1⟩, True.intro⟩
theorem dt_f {R : List Row} (hf : ∃ r ∈ R, r.1 = ("f" : Str) ∧ r.2.1 = 1) : DT R 2 4 (.f "f" [.v 0]) := ⟨by decide +kernel, (by show 1 + max 0 0 ≤ 3; decide), (by show 1 + (1 + 0) ≤ 13; decide), fun i hi => by
  cases List.mem_singleton.mp (show i ∈ [(0 : Int)] from hi)
  exact ⟨by decide, by decide⟩, ⟨hf, True.intro, True.intro⟩⟩
theorem dsu_a {R : List Row} : DSu R 2 4 [(0, .v 1), (1, .v 0)] := ⟨by simp, fun e he => by
  rcases List.mem_cons.mp he with z | z
  · rw [z]
    exact ⟨by decide, by decide, dt_v (by decide) (by decide)⟩
  · rw [List.mem_singleton.mp z]
    exact ⟨by decide, by decide, dt_v (by decide) (by decide)⟩⟩
theorem dsu_b {R : List Row} (hf : ∃ r ∈ R, r.1 = ("f" : Str) ∧ r.2.1 = 1) : DSu R 2 4 [(0, .v 1), (1, .f "f" [.v 0])] := ⟨by simp, fun e he => by
  rcases List.mem_cons.mp he with z | z
  · rw [z]
    exact ⟨by decide, by decide, dt_v (by decide) (by decide)⟩
  · rw [List.mem_singleton.mp z]
    exact ⟨by decide, by decide, dt_f hf⟩⟩
theorem dsu_c {R : List Row} : DSu R 2 4 [] := ⟨.nil, fun e he => nomatch he⟩
theorem dsu_one {R : List Row} {i : Int} {t : T} (h0 : 0 ≤ i) (h1 : i < 4) (h : DT R 2 4 t) : DSu R 2 4 [(i, t)] := ⟨List.pairwise_singleton _ _, fun e he => by
  rw [List.mem_singleton.mp he]
  exact ⟨h0, h1, h⟩⟩
theorem DSu.nd {R : List Row} {d : Nat} {nv : Int} {su : Sb} (h : DSu R d nv su) : (su.map (·.1)).Nodup := Sb.rising_nodup h.rising
theorem DSu.asg {R : List Row} {su : Sb} (h : DSu R 2 4 su) {j nv : Int} (h4 : 4 ≤ nv) (h0 : 0 ≤ j) (h1 : j < nv) : DT R 2 nv (su.asg j) := by
  show DT R 2 nv ((su.look j).getD (.v j))
  cases e : su.look j with
  | none => exact dt_v h0 h1
  | some t =>
    obtain ⟨_, _, d⟩ := h.each _ (Sb.look_mem e)
    exact ⟨d.named, d.dep, d.size, fun i hi => ⟨(d.vars i hi).1, by have := (d.vars i hi).2; omega⟩, d.wf⟩
theorem put_small {R : List Row} {su : Sb} (h : DSu R 2 4 su) {t : T} {nv : Int} (h4 : 4 ≤ nv) (n : t.named = true) (v : ∀ j ∈ t.vars, 0 ≤ j ∧ j < nv) :
    (T.fill su.asg t).named = true ∧ (T.fill su.asg t).dep ≤ t.dep + 3 ∧ (T.fill su.asg t).size ≤ t.size * 13 ∧ ∀ j ∈ (T.fill su.asg t).vars, 0 ≤ j ∧ j < nv := by
  have d : ∀ j ∈ t.vars, DT R 2 nv (su.asg j) := fun j hj => h.asg h4 (v j hj).1 (v j hj).2
  refine ⟨T.fill_named t n fun j hj => (d j hj).named, T.fill_dep t fun j hj => (d j hj).dep, T.fill_size (by decide) t fun j hj => (d j hj).size, fun j hj => ?_⟩
  obtain ⟨i, hi, hj'⟩ := T.fill_vars t hj
  exact (d i hi).vars j hj'
theorem beh_small {R : List Row} {one two : Sb} (d1 : DSu R 2 4 one) (d2 : DSu R 2 4 two) : ∀ e ∈ Sb.beh one two, 0 ≤ e.1 ∧ e.1 < 4 ∧ e.2.named = true ∧ e.2.dep ≤ 6 ∧ e.2.size ≤ 169 ∧ ∀ j ∈ e.2.vars, 0 ≤ j ∧ j < 4 := by
  intro e he
  have nd : ((Sb.beh one two).map (·.1)).Nodup := Sb.nodup_fold _ one two d2.nd
  have lk := (Sb.mem_look nd (i := e.1) (t := e.2)).1 he
  rw [Sb.beh_look d1.nd] at lk
  cases h : Sb.look one e.1 with
  | some t =>
    rw [h] at lk
    have e2 : T.fill two.asg t = e.2 := Option.some.inj lk
    obtain ⟨a, b, d⟩ := d1.each _ (Sb.look_mem h)
    have d' : DT R 2 4 t := d
    obtain ⟨p1, p2, p3, p4⟩ := put_small d2 (by decide) d'.named d'.vars
    have z1 := d'.dep
    have z2 : t.size ≤ 13 := d'.size
    rw [e2] at p1 p2 p3 p4
    exact ⟨a, b, p1, by omega, by omega, p4⟩
  | none =>
    rw [h] at lk
    obtain ⟨a, b, d⟩ := d2.each _ (Sb.look_mem lk)
    have z1 : e.2.dep ≤ 3 := d.dep
    have z2 : e.2.size ≤ 13 := d.size
    exact ⟨a, b, d.named, by omega, by omega, d.vars⟩
theorem beh_good {R : List Row} {one two : Sb} (d1 : DSu R 2 4 one) (d2 : DSu R 2 4 two) : Good (Sb.beh one two) := fun e he => by
  obtain ⟨_, _, h1, h2, _⟩ := beh_small d1 d2 e he
  exact ⟨h1, by omega⟩
theorem norm_text {R : List Row} {one two su : Sb} (d1 : DSu R 2 4 one) (d2 : DSu R 2 4 two) (n : (Sb.beh one two).Norm su) : (suD su).showable = true ∧ (suD su).hasDict = false ∧ (suD su).depth ≤ 60 ∧ (suD su).shown.length ≤ sizeLine := by
  have each : ∀ e ∈ su, 0 ≤ e.1 ∧ e.1 < 4 ∧ e.2.named = true ∧ e.2.dep ≤ 6 ∧ e.2.size ≤ 169 ∧ ∀ j ∈ e.2.vars, 0 ≤ j ∧ j < 4 := fun e he => beh_small d1 d2 e (Sb.look_mem ((n.has e.1 e.2).1 he).1)
  refine su_text (m := 169) (by decide) ?_ fun e he => ?_
  · have := rising_len (lo := 0) (hi := 4) n.rising (fun i hi => by
      obtain ⟨e, he, rfl⟩ := List.mem_map.mp hi
      exact ⟨(each e he).1, (each e he).2.1⟩) (by decide)
    rw [List.length_map] at this
    omega
  · obtain ⟨a, b, c, d, f, g⟩ := each e he
    exact ⟨a, by omega, c, by omega, f, fun j hj => ⟨(g j hj).1, by have := (g j hj).2; omega⟩⟩
namespace Sb
theorem ren_vars (first : Int) : ∀ (l : List Int) (tb : Sb), (∀ e ∈ tb, ∃ i, e.2 = T.v i) → ∀ e ∈ ren first tb l, ∃ i, e.2 = T.v i
  | [], tb, h => h
  | i :: l, tb, h => by
    show ∀ e ∈ ren first (if (look tb i).isSome = true then tb else put tb i (.v (first + (tb.length : Int)))) l, ∃ i, e.2 = T.v i
    refine ren_vars first l _ ?_
    split
    · exact h
    · intro e he
      rcases mem_put he with z | z
      · rw [z]
        exact ⟨_, rfl⟩
      · exact h e z
theorem ren_asg (first : Int) (l : List Int) (j : Int) : ∃ i, (ren first [] l).asg j = T.v i := by
  show ∃ i, ((ren first [] l).look j).getD (.v j) = T.v i
  cases e : (ren first [] l).look j with
  | none => exact ⟨j, rfl⟩
  | some t => exact ren_vars first l [] (fun e he => nomatch he) _ (look_mem e)
end Sb
theorem ren_shaped {t : T} (n : t.named = true) (d : t.dep ≤ 60) (first : Int) (l : List Int) : SeqAt.shaped (T.fill (Sb.ren first [] l).asg t).d = true := by
  refine T.shaped (T.fill_named t n fun j _ => ?_) ?_
  · obtain ⟨i, e⟩ := Sb.ren_asg first l j
    rw [e]
    rfl
  · have := T.fill_dep (s := (Sb.ren first [] l).asg) (D := 0) t fun j _ => by
      obtain ⟨i, e⟩ := Sb.ren_asg first l j
      rw [e]
      exact Nat.le_refl _
    omega
/-! ### what a lap knows -/
structure Wk (K : PySem.W.Frag) (Pt p l ra : Addr) (ns : List Int) (c : Nat) (R : List Row) (G : Hp) : Prop where
  pen : Pn.Pen G p l ns c
  rows : RowsAt K G ra R
  tab : TabG G Pt
section
variable {K : PySem.W.Frag} {Pt p l ra : Addr} {ns : List Int} {c c' : Nat} {R : List Row} {G G' : Hp}
theorem Wk.same (h : Wk K Pt p l ra ns c R G) (s : Same G G') : Wk K Pt p l ra ns c R G' := ⟨pen_same h.pen s, h.rows.mono (TK.same s), tab_same s h.tab⟩
theorem Wk.new (h : Wk K Pt p l ra ns c R G) {q : Addr} (n : G q = none) (o : HO) : Wk K Pt p l ra ns c R (upd G q o) := h.same (same_new (fun b o e => e) n _)
theorem tab_ne {l : Addr} {ns : List Int} {c : Nat} (P : Pn.Pen G p l ns c) (t : TabG G Pt) : Pt ≠ p ∧ Pt ≠ l := by
  obtain ⟨ps, e, _⟩ := t
  obtain ⟨⟨_, _, _, e0, _⟩, e1⟩ := P
  refine ⟨fun z => ?_, fun z => ?_⟩
  · rw [← z, e] at e0
    cases e0
  · rw [← z, e] at e1
    cases e1
theorem tab_pen {l : Addr} {ns : List Int} {c : Nat} (P : Pn.Pen G p l ns c) (t : TabG G Pt) (b : Pn.But p G G') : TabG G' Pt := by
  have n := (tab_ne P t).1
  obtain ⟨ps, e, ok⟩ := t
  exact ⟨ps, b _ _ n e, ok⟩
theorem Wk.step (h : Wk K Pt p l ra ns c R G) (P : Pn.Pen G' p l ns c') (b : Pn.But p G G') : Wk K Pt p l ra ns c' R G' := ⟨P, h.rows.mono (pen_tk h.pen b), tab_pen h.pen h.tab b⟩
theorem Wk.but (h : Wk K Pt p l ra ns c R G) (b : ∀ q o, q ≠ Pt → G q = some o → G' q = some o) (t : TabG G' Pt) : Wk K Pt p l ra ns c R G' := by
  refine ⟨?_, h.rows.mono (tab_tk h.tab b), t⟩
  obtain ⟨n1, n2⟩ := tab_ne h.pen h.tab
  obtain ⟨⟨a, d, f, e, r⟩, e1⟩ := h.pen
  exact ⟨⟨a, d, f, b _ _ n1.symm e, r⟩, b _ _ n2.symm e1⟩
end
end Ad

/-! The end of a law of such a def where some defs grow tables of code objects. -/
namespace Ad
open PySem PySem.Spec PySem.Calls PyProof.Rows L2 GxR
abbrev oList (us : List Value) : Obj := { cls := .type "list", data := .seq us.toArray }
abbrev oTab : Obj := { cls := .none, data := .fields #[] }
/-- an abstract heap over h: the list of us at a, locked (or not told), and empty tables -/
structure First (h : Heap) (K : PySem.W.Frag) (a : Addr) (us : List Value) (ns : List Int) (Ts : List Addr) (H : Hp) : Prop where
  told : ∀ b u, H b = some u → (b = a ∧ u = .frz (oList us) (.lst (ns.map V.int))) ∨ (b ∈ Ts ∧ u = .tbl #[])
  tabs : ∀ b ∈ Ts, H b = some (.tbl #[])
  offK : ∀ b u, H b = some u → K.lookup b = none
section
variable {h : Heap} {K : PySem.W.Frag} {a : Addr} {us : List Value} {ns : List Int} {Ts : List Addr} {H : Hp}
/-- an object that is neither is not tracked -/
theorem First.off (F : First h K a us ns Ts H) (ha : h.get? a = some (oList us)) (ht : ∀ b ∈ Ts, h.get? b = some oTab) {b : Addr} {o : Obj} (e : h.get? b = some o) (n1 : o ≠ oList us) (n2 : o ≠ oTab) : H b = none := by
  cases q : H b with
  | none => rfl
  | some u =>
    rcases F.told b u q with ⟨z, _⟩ | ⟨z, _⟩
    · rw [z, ha] at e
      exact absurd (Option.some.inj e).symm n1
    · rw [ht b z] at e
      exact absurd (Option.some.inj e).symm n2
theorem First.offC (F : First h K a us ns Ts H) (ha : h.get? a = some (oList us)) (ht : ∀ b ∈ Ts, h.get? b = some oTab) {b : Addr} {o : Obj} (e : h.get? b = some o) (n1 : o.cls ≠ .type "list") (n2 : o.cls ≠ .none) : H b = none :=
  F.off ha ht e (fun z => n1 (by rw [z])) fun z => n2 (by rw [z])
theorem First.dict (F : First h K a us ns Ts H) (ha : h.get? a = some (oList us)) (ht : ∀ b ∈ Ts, h.get? b = some oTab) {b : Addr} {m : Str → Option Value} (e : h.Ns b m) : (hidT h H).Ns b m := by
  obtain ⟨o, es, ep, e, d, r⟩ := e
  refine ⟨o, es, ep, hidT_get e (F.off ha ht e (fun z => ?_) fun z => ?_), d, r⟩
  · rw [z] at d
    cases d
  · rw [z] at d
    cases d
end
theorem lawGT {P : Program} {w : World} {K : PySem.W.Frag} {mg mb : Str → Option Value} {CX : CXT} {k : Nat} {fa a : Addr} {cs : List (Addr × Addr)} {fd : FuncData} {x : Str} {sp : Sp} {s : Shared} {us : List Value} {ns : List Int}
    (inK : K.In s.heap) (gl : s.heap.Ns mainGlobals mg) (bl : s.heap.Ns builtinsNs mb) (boot : ∀ x : Str, x ≠ "__name__" → mb x = bootBuiltins x) (lim : s.heap.NoLimit) (quiet : s.gens = #[])
    (tabs : ∀ p ∈ cs, s.heap.get? p.2 = some oTab) (off : ∀ p ∈ cs, K.lookup p.2 = none) (codes : ∀ p ∈ cs, PySem.W.CodeHd s.heap p.1 p.2)
    (top : ∃ (bm : Addr) (ob : Obj), mg "__builtins__" = some (.ref bm) ∧ bm ≠ builtinsNs ∧ s.heap.get? bm = some ob ∧ ob.cls = .type "module" ∧ ob.dict = some builtinsNs ∧ ob.data = .plain)
    (script : s.heap.get? a = some (oList us)) (nums : IntsAre us ns) (few : ns.length ≤ sizeLine) (room : Room k callerA)
    (F : ∀ base : Heap, K.In base → base.Ns mainGlobals mg → (∀ p ∈ cs, TabB base mg p.1 p.2) → FnG P w K mg base CX k fa fd [x] sp) (binds : ∀ (s : Shared) (u : Value), BindsTo s fd ⟨[u], []⟩ [(x, u)])
    (ask : ∀ H : Hp, (∀ p ∈ cs, H p.2 = some (.tbl #[])) → SqL K H a (ns.map V.int) → sp [.ref a] H (fun v _ => v = .bl true) fun _ _ _ => False) (noX : ∀ H e s', CX [] H s (fun _ _ _ => False) e s' → False) :
    codeAny (model P w) callerA (.call (.ref fa) ⟨[.ref a], []⟩) (fun r s' => r = .ok (.ret (.bool true)) ∧ OldK s.heap s'.heap ∧ s'.os = s.os ∧ AllBare s'.gens) s := by
  have rel := vals_ints nums
  have len := nums.length
  have ht : ∀ b ∈ cs.map (·.2), s.heap.get? b = some oTab := by
    intro b hb
    obtain ⟨p, hp, rfl⟩ := List.mem_map.mp hb
    exact tabs p hp
  have aOut : a ∉ cs.map (·.2) := fun z => by
    have e := ht a z
    rw [script] at e
    cases e
  have gone : ∀ {q : Prop} (b : Addr), b ∈ ([] : List Addr) → q := fun {q} b hb => absurd hb (by simp)
  have main : ∀ H : Hp, First s.heap K a us ns (cs.map (·.2)) H → SqL K H a (ns.map V.int) →
      codeAny (model P w) callerA (.call (.ref fa) ⟨[.ref a], []⟩) (fun r s' => r = .ok (.ret (.bool true)) ∧ OldK s.heap s'.heap ∧ s'.os = s.os ∧ AllBare s'.gens) s := by
    intro H D seq
    have ok : HOk P w H s.heap := by
      intro b u e
      rcases D.told b u e with ⟨rfl, rfl⟩ | ⟨z, rfl⟩
      · exact ⟨script, by rw [List.length_map]; exact few, us, _, rel, script⟩
      · exact ht b z
    have kin : K.In (hidT s.heap H) := by
      intro b o e
      refine hidT_get (inK b o e) ?_
      cases q : H b with
      | none => rfl
      | some u =>
        rw [D.offK b u q] at e
        cases e
    have tb : ∀ p ∈ cs, TabB (hidT s.heap H) mg p.1 p.2 := by
      intro p hp
      constructor
      · obtain ⟨o, vs, file, tf, flags, tg, inF, text, tt, e, c, r⟩ := codes p hp
        exact ⟨o, vs, file, tf, flags, tg, inF, text, tt, hidT_get e (D.offC script ht e (by rw [c]; decide) (by rw [c]; intro z; cases z)), c, r⟩
      · obtain ⟨bm, ob, b1, b2, b3, b4, b5, b6⟩ := top
        refine ⟨bm, ob, b1, b2, fun z => ?_, fun z => ?_, hidT_get b3 (D.offC script ht b3 (by rw [b4]; decide) (by rw [b4]; intro z; cases z)), b4, b5, b6⟩
        · obtain ⟨o, es, ep, e, d, _⟩ := gl
          rw [z, e] at b3
          cases b3
          rw [d] at b6
          cases b6
        · rw [z, tabs p hp] at b3
          cases b3
          cases b4
      · intro z
        obtain ⟨o, es, ep, e, d, _⟩ := gl
        rw [z, tabs p hp] at e
        cases e
        cases d
    have mod : L2.Mod K mg (hidT s.heap H) := by
      obtain ⟨mc, l1, l2⟩ := lim
      exact ⟨kin, D.dict script ht gl, ⟨mb, D.dict script ht bl, boot⟩, mc, D.dict script ht l1, l2⟩
    have env : Env0 P w K mg (hidT s.heap H) callerA [] s H := ⟨rfl, mod, fun b o e => of_hidT e, Nat.le_of_eq (hidT_size _ _), trivial, fun b hb => gone b hb, ok, .of_eq quiet⟩
    have run := (F _ kin (D.dict script ht gl) tb).run callerA [] s H ⟨[.ref a], []⟩ [.ref a] [.ref a] _ _ rfl room env (binds s (.ref a)) (.cons rfl .nil) (ask H (fun p hp => D.tabs _ (List.mem_map.mpr ⟨p, hp, rfl⟩)) seq)
    refine codeAny_mono run fun r s' back => ?_
    match r, back with
    | .error e, back => exact (noX H e s' back).elim
    | .ok .next, back => exact False.elim back
    | .ok .brk, back => exact False.elim back
    | .ok .cont, back => exact False.elim back
    | .ok (.ret u), ⟨v, H', os, bare, un, ok', rv, (q : v = .bl true)⟩ =>
      subst q
      obtain rfl : u = Value.bool true := rv
      have stays : ∀ b o, b ∉ cs.map (·.2) → s.heap.get? b = some o → s'.heap.get? b = some o := by
        intro b o nb e
        cases q : H b with
        | none => exact un.keep b o e q (fun z => gone b z) (by simp)
        | some u =>
          rcases D.told b u q with ⟨rfl, rfl⟩ | ⟨z, _⟩
          · have e2 := (ok' b _ (un.frzs b _ _ q)).1
            rw [script] at e
            cases e
            exact e2
          · exact absurd z nb
      have grew : ∀ b ∈ cs.map (·.2), ∃ more : Array Value, s'.heap.get? b = some { cls := .none, data := .fields more } := by
        intro b hb
        obtain ⟨more, z⟩ := un.tbls b #[] (D.tabs b hb)
        exact ⟨_, ok' b _ z⟩
      refine ⟨rfl, ⟨fun b o e => ?_, fun b o e => ?_⟩, os, bare⟩
      · by_cases hb : b ∈ cs.map (·.2)
        · obtain ⟨more, z⟩ := grew b hb
          obtain ⟨p, hp, rfl⟩ := List.mem_map.mp hb
          rw [tabs p hp] at e
          cases e
          refine .inr (.inl ⟨((codes p hp).tab (tabs p hp)).isCodeTable, rfl, #[], more, rfl, ?_⟩)
          rw [Array.empty_append]
          exact z
        · exact .inl (stays b o hb e)
      · by_cases hb : b ∈ cs.map (·.2)
        · obtain ⟨more, z⟩ := grew b hb
          exact ⟨_, z⟩
        · exact ⟨o, stays b o hb e⟩
  have offT : ∀ b ∈ cs.map (·.2), K.lookup b = none := by
    intro b hb
    obtain ⟨p, hp, rfl⟩ := List.mem_map.mp hb
    exact off p hp
  by_cases look : K.lookup a = none
  · refine main (fun b => if b ∈ cs.map (·.2) then some (.tbl #[]) else if b = a then some (.frz (oList us) (.lst (ns.map V.int))) else none) ⟨fun b u e => ?_, fun b hb => if_pos hb, fun b u e => ?_⟩ (.inl (.inr ⟨oList us, (if_neg aOut).trans (if_pos rfl)⟩))
    all_goals
      by_cases hb : b ∈ cs.map (·.2)
      · have e' := (if_pos hb).symm.trans e
        first
          | exact .inr ⟨hb, (Option.some.inj e').symm⟩
          | exact offT b hb
      · have e1 := (if_neg hb).symm.trans e
        by_cases hc : b = a
        · have e' := (if_pos hc).symm.trans e1
          first
            | exact .inl ⟨hc, (Option.some.inj e').symm⟩
            | exact hc ▸ look
        · exact nomatch (if_neg hc).symm.trans e1
  · obtain ⟨o, e⟩ := Option.ne_none_iff_exists'.mp look
    have e2 := inK a o e
    rw [script] at e2
    cases e2
    refine main (fun b => if b ∈ cs.map (·.2) then some (.tbl #[]) else none) ⟨fun b u e => ?_, fun b hb => if_pos hb, fun b u e => ?_⟩ (.inr ⟨_, us.toArray, _, e, rfl, rfl, rfl, ?_, by simpa using rel⟩)
    · by_cases hb : b ∈ cs.map (·.2)
      · exact .inr ⟨hb, (Option.some.inj ((if_pos hb).symm.trans e)).symm⟩
      · exact nomatch (if_neg hb).symm.trans e
    · by_cases hb : b ∈ cs.map (·.2)
      · exact offT b hb
      · exact nomatch (if_neg hb).symm.trans e
    · rw [List.size_toArray, len]
      exact few
/-- what is known of the law at the head's heap -/
def LawGAt (l : PySem.W.OpenLaw) (w : World) (K : PySem.W.Frag) (CX : CXT) (k n : Nat) (x : Str) (mg : Str → Option Value) (fa : Addr) (h : Heap) : Prop :=
  ∃ (fd : FuncData) (cs : List (Addr × Addr)) (sp : Sp), (∀ p ∈ cs, h.get? p.2 = some oTab) ∧ (∀ p ∈ cs, K.lookup p.2 = none) ∧ (∀ p ∈ cs, PySem.W.CodeHd h p.1 p.2) ∧ (∀ (s : Shared) (u : Value), BindsTo s fd ⟨[u], []⟩ [(x, u)]) ∧
    (∀ (H : Hp) (a : Addr) (ns : List Int), ns.length ≤ n → (∀ p ∈ cs, H p.2 = some (.tbl #[])) → SqL K H a (ns.map V.int) → sp [.ref a] H (fun v _ => v = .bl true) fun _ _ _ => False) ∧
    ∀ base : Heap, K.In base → base.Ns mainGlobals mg → (∀ p ∈ cs, TabB base mg p.1 p.2) → FnG l.prog w K mg base CX k fa fd [x] sp
theorem walkGT {l : PySem.W.OpenLaw} {n k : Nat} {q : Program} {loose : List Str} {XP : (Str → Option Value) → Heap → Prop} {YP : World → Heap → Prop} {d : DefRec} {CX : World → CXT} {x : Str}
    (most : l.most = some n) (short : n ≤ sizeLine) (plain : d.params.defaults = []) (room : Room k callerA)
    (F : ∀ (w : World) (mg : Str → Option Value) (fa : Addr) (h : Heap), YP w h → h.Ns mainGlobals mg → mg d.name = some (.ref fa) → ∃ K : PySem.W.Frag, K.In h ∧ LawGAt l w K (CX w) k n x mg fa h)
    (noX : ∀ (w : World) (H : Hp) (s : Shared) (e : Value) (s' : Shared), CX w [] H s (fun _ _ _ => False) e s' → False) : PySem.W.WalkO q loose XP YP l.row.toRowW d [] (fun f vs => PySem.call f vs) := by
  refine Att.attach_callB most plain fun w s0 s mg mb fa o pm cd doc a us ns G Y ho hd hcd hmg list nums few bits quiet => ?_
  obtain ⟨K, inK, fd, cs, sp, t1, t2, t3, b, ask, prom⟩ := F w mg fa _ Y G.T.g hmg
  exact lawGT inK G.T.g G.T.b G.T.builtins G.T.nolimit quiet t1 t2 t3 G.T.bmain list nums (Nat.le_trans few short) room prom b (fun H => ask H a ns few) fun H e s' => noX w H s e s'
end Ad

namespace Ad
open PySem PySem.Spec PySem.Calls PyProof.Rows L2
abbrev sPutIn : Stmt := topS 4
theorem scPutIn : FnScope ["term", "pairs"] ["term", "pairs"] (defScope sPutIn) := ⟨rfl, rfl, rfl, by decide +kernel, rfl, by decide +kernel, by decide +kernel⟩
section
variable {P : Program} {w : World} {K : PySem.W.Frag} {mg : Str → Option Value} {base : Heap}
theorem ok_putin {f fF : Addr} {fd fdF : FuncData} {k n : Nat} (F : Fun K "put" "put" sPutIn f fd) (G : FnOk P w K mg base CX0 k fF fdF ["term", "table"] (spFilled K n)) (gF : mg "filled" = some (.ref fF)) (kF : PySem.W.keepIn K (.ref fF) = true) (bF : Binds K fdF ["term", "table"] []) (md : mg "dict" = none) :
    FnOk P w K mg base CX0 (k + 1) f fd ["term", "pairs"] (spPutIn K n) := by
  refine F.ok scPutIn (fun vs H Q E h => ?_) (fun cdv A outer s H vs Q E hr h => ?_)
  · obtain ⟨t, su, x, y, rfl, _⟩ := h
    rfl
  · obtain ⟨t, su, x, y, rfl, ht, hsu, nd, shallow, small, q⟩ := h
    refine ⟨_, pss_one (ps_ret (pe_call G hr (by rfl) gF kF bF .nil pass0 (pa_cons (pv 0) (pa_cons (pe_callTy (Dt.call_dictT rfl) (by rfl) md (by decide +kernel) (pa_cons (pv 1) pa_nil)) pa_nil)))), ?_⟩
    obtain ⟨a, bs, rfl, tup, prs⟩ := hsu
    obtain ⟨kvs, pd, tv⟩ := sp_pairs prs
    refine ⟨x, rfl, .ref a, rfl, a, bs, kvs, rfl, tup, pd, fun d nd2 => ?_⟩
    have e : mergeK [] kvs = kvs := by
      have z := merge_all kvs [] (by
        rw [List.nil_append, tv.keys]
        exact List.Pairwise.map Sum.inl (fun a b h e => h (Sum.inl.inj e)) nd)
      rw [z, List.nil_append]
    rw [e]
    have sm : Same H (upd H d (.dK kvs)) := same_new (fun b o e => e) nd2 _
    refine ⟨t, x, d, su, kvs, rfl, Tm.mono (TK.same sm) _ _ ht, upd_same, tv.mono (TK.same sm), shallow, small, fun v H' s' r => q v H' (fun b o e => s' _ _ (sm _ _ e)) r⟩
end
end Ad

/-! Slices and sums of tuples, whole or not, told at once. -/
namespace Ad
open PySem PySem.Spec PySem.Calls PyProof.Rows L2
section
variable {K : PySem.W.Frag} {H : Hp}
theorem sqT_new {H : Hp} {p : Addr} {xs : List V} : SqT K (upd H p (.tup xs)) p xs := .inl (.inl upd_same)
theorem rSlA_of {a : Addr} {xs : List V} {lo hi : Option Int} {Q : VK} (sq : SqT K H a xs) (h : ∀ p H', Same H H' → SqT K H' p (cutV xs lo hi) → Q (.ref p) H') : rSlA K (.ref a) lo hi H Q := by
  refine ⟨a, xs, rfl, sq, fun e => h a H (fun b o e => e) ?_, fun _ p n => h p _ (same_new (fun b o e => e) n _) sqT_new⟩
  have z : cutV xs lo hi = xs := by
    unfold cutV
    rw [e.1, e.2, List.drop_zero, Nat.sub_zero, List.take_length]
  rw [z]
  exact sq
theorem rCatA_of {a b : Addr} {xs ys : List V} {Q : VK} (ha : SqT K H a xs) (hb : SqT K H b ys) (few : xs.length + ys.length ≤ sizeLine) (h : ∀ p H', Same H H' → SqT K H' p (xs ++ ys) → Q (.ref p) H') : rCatA K (.ref a) (.ref b) H Q := by
  refine ⟨a, b, xs, ys, rfl, rfl, ha, hb, few, fun e => h b H (fun b o e => e) ?_, fun _ e => h a H (fun b o e => e) ?_, fun _ _ p n => h p _ (same_new (fun b o e => e) n _) sqT_new⟩
  · subst e
    exact hb
  · subst e
    rw [List.append_nil]
    exact ha
theorem cut_one {x : V} {xs : List V} : cutV (x :: xs) none (some 1) = [x] := by
  have e3 : HT.sIx (x :: xs).length (x :: xs).length (some 1) = 1 := by
    have e2 : HT.sIx (x :: xs).length (x :: xs).length (some ((1 : Nat) : Int)) = 1 := by
      rw [HT.sIx_nat, List.length_cons]
      omega
    exact e2
  unfold cutV
  rw [e3, HT.sIx_none]
  rfl
end
end Ad

namespace Ad
open PySem PySem.Spec PySem.Calls PyProof.Rows L2 GxR
abbrev sFilled : Stmt := topS 2
theorem scFilled : FnScope ["term", "table", "part"] ["term", "table"] (defScope sFilled) := ⟨rfl, rfl, rfl, by decide +kernel, rfl, by decide +kernel, by decide +kernel⟩
section
variable {P : Program} {w : World} {K : PySem.W.Frag} {mg : Str → Option Value} {base : Heap}
theorem ok_filled {f : Addr} {fd : FuncData} {k : Nat} (F : Fun K "filled" "filled" sFilled f fd) (gF : mg "filled" = some (.ref f)) (bF : Binds K fd ["term", "table"] []) (mi : mg "isinstance" = none) (mt : mg "tuple" = none) :
    ∀ n, FnOk P w K mg base CX0 (k + n) f fd ["term", "table"] (spFilled K n)
  | 0 => vac fun vs H Q E ⟨t, x, d, tb, kvs, _, _, _, _, z, _⟩ => absurd z (Nat.not_lt_zero _)
  | n + 1 => by
    have IH := ok_filled (k := k) F gF bF mi mt n
    refine F.ok scFilled (fun vs H Q E h => ?_) (fun cdv A outer s H vs Q E hr h => ?_)
    · obtain ⟨t, x, d, tb, kvs, rfl, _⟩ := h
      rfl
    · obtain ⟨t, x, d, tb, kvs, rfl, ht, hd, htb, shallow, small, q⟩ := h
      refine ⟨_, pss_cons (ps_if (pt_not (pt_val (pe_callB call_isi (by rfl) mi (by decide +kernel) (pa_cons (pv 0) (pa_cons (pe_bltn (v := .ty "tuple") (by rfl) mt (by decide +kernel) rfl) pa_nil))))) (pss_one (ps_ret (pe_dget2 (hu1 hr) (pv 1) (pv 0) (pv 0) ⟨rfl, rfl, rfl, rfl⟩))) pss_nil)
        (pss_one (ps_ret (pe_op op_catA (pe_slice sl_tupA (pv 0) po_none (po_some pe_int)) (pe_callTy call_tuple_of (by rfl) mt (by decide +kernel) (pa_cons
          (pe_lc (own := [("part", 2)]) (g := gName 2) (tt := tYes) rfl scFilled.nd (pi_tup (pe_slice sl_tup (pv 0) (po_some pe_int) po_none)) (blkOk_by (N := ["term", "table", "part"]) (sc := defScope sFilled) (by decide +kernel))
            (fun _ _ _ _ _ => pg_name (i := 2) scFilled.nd rfl (.inl rfl)) (fun _ _ _ _ _ => pts_nil)
            (fun _ _ _ _ _ => pe_call IH hr (by rfl) gF F.kp bF .nil pass0 (pa_cons (pv 2) (pa_cons (pv 1) pa_nil)))) pa_nil))))), ?_⟩
      cases t with
      | v i =>
        cases (show x = .int i from ht)
        refine ⟨.int i, rfl, _, .ty "tuple", .type "int", .type "tuple", false, rfl, .ty "tuple", .base (.int i), kitIT, false, rfl, ?_⟩
        refine iteT ?_
        refine ⟨.ref d, rfl, d, rfl, .inl ⟨kvs, .inl hd⟩, .int i, rfl, .int i, rfl, _, DGet.k (k := Sum.inl i) hd, ?_⟩
        rcases htb.val i with ⟨a, b⟩ | ⟨t', v', a, b, tv⟩
        · rw [b]
          refine q (.int i) H (fun b o e => e) ?_
          show Tm K H ((tb.look i).getD (.v i)) (.int i)
          rw [a]
          exact rfl
        · rw [b]
          refine q v' H (fun b o e => e) ?_
          show Tm K H ((tb.look i).getD (.v i)) v'
          rw [a]
          exact tv
      | f nm ts =>
        have ty := tm_tuple ht
        obtain ⟨a, zs, rfl, sq, all⟩ := ht
        refine ⟨.ref a, rfl, _, .ty "tuple", .type "tuple", .type "tuple", true, rfl, .ty "tuple", ty, kitTT, true, rfl, ?_⟩
        refine iteF ?_
        refine ⟨.ref a, rfl, 1, rfl, rSlA_of sq fun p0 H0 sm0 m0 => ?_⟩
        rw [cut_one] at m0
        replace sq := (TK.same sm0).sq sq
        replace all := Tms.mono (TK.same sm0) _ _ all
        refine ⟨.ref a, rfl, 1, rfl, a, _, rfl, sq, cut_args.1, fun p1 n1 => ⟨p1, rfl, ⟨_, .inl (.inl upd_same)⟩, fun D nD => ?_⟩⟩
        rw [cut_args.2] at nD ⊢
        have sm01 : Same H0 (upd H0 p1 (.tup zs)) := same_new (fun b o e => e) n1 _
        have sm1 : Same H (upd H0 p1 (.tup zs)) := same_new sm0 n1 _
        have m1 : (upd H0 p1 (.tup zs)) p1 = some (.tup zs) := upd_same
        have m01 : SqT K (upd H0 p1 (.tup zs)) p0 [.str nm] := (TK.same sm01).sq m0
        replace all := Tms.mono (TK.new n1 (.tup zs)) _ _ all
        generalize upd H0 p1 (.tup zs) = H1 at nD sm1 m1 m01 all ⊢
        have lz := all.len
        have szu : T.size (.f nm ts) = 1 + T.sizeL ts := rfl
        have lts := T.len_sizeL ts
        refine lc_tup (K := K) (a := p1) (xs := zs) (fun i G => ∃ acc, Same H1 G ∧ G D = some (.lst acc) ∧ Tms K G ((ts.take i).map (T.fill tb.asg)) acc) ⟨[], same_new (fun b o e => e) nD _, upd_same, rfl⟩ (fun i G _ ⟨_, sm, _⟩ => .inl (.inl (sm _ _ m1))) ?_ ?_
        · rintro i y G hy ⟨acc, sm, g, done⟩
          obtain ⟨u, hu, tu⟩ := (Tms.mono (TK.same sm) _ _ all).get hy
          have hm := List.mem_of_getElem? hu
          have d1 := T.dep_mem hm
          have d2 : T.dep (.f nm ts) = 1 + T.depL ts := rfl
          have d3 := T.size_mem hm
          have la := done.len
          rw [List.length_map, List.length_take] at la
          have smH : Same H G := fun b o e => sm _ _ (sm1 _ _ e)
          refine ⟨rfl, y, rfl, .ref d, rfl, u, y, d, tb, kvs, rfl, tu, smH _ _ hd, htb.mono (TK.same smH), by omega, by omega, fun v G2 sm2 tv => ⟨acc, sm2 _ _ g, by rw [sizeLine_eq]; omega, acc ++ [v], ?_, upd_same, ?_⟩⟩
          · have sm3 : Same H1 G2 := fun b o e => sm2 _ _ (sm _ _ e)
            exact same_on sm3 nD _
          · have k3 : TK G2 (upd G2 D (.lst (acc ++ [v]))) := TK.lst (sm2 _ _ g) _
            rw [List.take_add_one, hu, List.map_append]
            exact Tms.app (Tms.mono ((TK.same sm2).trans k3) _ _ done) (Tms.one (Tm.mono k3 _ _ tv))
        · rintro G ⟨acc, sm, g, done⟩
          rw [lz, List.take_length] at done
          have la := done.len
          rw [List.length_map] at la
          refine ⟨D, acc, rfl, .inl ⟨.inl (.inl g), fun p5 n5 => ?_⟩⟩
          have s5 : Same G (upd G p5 (.tup acc)) := same_new (fun b o e => e) n5 _
          have m5 : (upd G p5 (.tup acc)) p5 = some (.tup acc) := upd_same
          have m0' := (TK.same (fun b o e => s5 _ _ (sm _ _ e))).sq m01
          replace done := Tms.mono (TK.same s5) _ _ done
          have smH : Same H (upd G p5 (.tup acc)) := fun b o e => s5 _ _ (sm _ _ (sm1 _ _ e))
          generalize upd G p5 (.tup acc) = G5 at m5 m0' done smH
          refine rCatA_of m0' (.inl (.inl m5)) (by rw [List.length_singleton, sizeLine_eq]; omega) fun p6 G6 s6 m6 => ?_
          refine q _ _ (fun b o e => s6 _ _ (smH _ _ e)) ⟨p6, acc, rfl, m6, ?_⟩
          rw [T.fillL_map]
          exact Tms.mono (TK.same s6) _ _ done
end
end Ad

namespace Ad
open PySem PySem.Spec PySem.Calls PyProof.Rows L2
abbrev sParts : Stmt := topS 1
theorem scParts : FnScope ["term", "found", "waiting", "part"] ["term"] (defScope sParts) := ⟨rfl, rfl, rfl, by decide +kernel, rfl, by decide +kernel, by decide +kernel⟩
section
variable {P : Program} {w : World} {K : PySem.W.Frag} {mg : Str → Option Value} {base : Heap}
def spParts (K : PySem.W.Frag) : Sp := fun vs H Q _ => ∃ (t : T) (x : V), vs = [x] ∧ Tm K H t x ∧ t.size ≤ 10000 ∧
  ∀ H' p xs, Same H H' → H p = none → H' p = some (.lst xs) → Tms K H' t.parts xs → Q (.ref p) H'
theorem ok_parts {f : Addr} {fd : FuncData} {k : Nat} (F : Fun K "parts_of" "parts_of" sParts f fd) (mi : mg "isinstance" = none) (mt : mg "tuple" = none) : FnOk P w K mg base CX0 (k + 1) f fd ["term"] (spParts K) := by
  refine F.ok scParts (fun vs H Q E h => ?_) (fun cdv A outer s H vs Q E hr h => ?_)
  · obtain ⟨t, x, rfl, _⟩ := h
    rfl
  · obtain ⟨t, x, rfl, ht, small, q⟩ := h
    refine ⟨_, pss_cons (ps_set (i := 1) scParts.nd rfl (.inl rfl) (pe_lst pa_nil))
      (pss_cons (ps_set (i := 2) scParts.nd rfl (.inl rfl) (pe_lst (pa_cons (pv 0) pa_nil)))
      (pss_cons (ps_while PassesOwn.never (pt_true (pv 2))
        (pss_cons (ps_set (i := 3) scParts.nd rfl (.inl rfl) (pe_bm0 PySem.F.plainAttrs_list PySem.F.slot_list_pop PySem.F.type_list_pop mt_pop (pv 2)))
        (pss_cons (ps_expr (pe_bm PySem.F.plainAttrs_list PySem.F.slot_list_append PySem.F.type_list_append mt_append (pv 1) (pa_cons (pv 3) pa_nil)))
        (pss_one (ps_if (pt_val (pe_callB call_isi (by rfl) mi (by decide +kernel) (pa_cons (pv 3) (pa_cons (pe_bltn (v := .ty "tuple") (by rfl) mt (by decide +kernel) rfl) pa_nil))))
          (pss_one (ps_expr (pe_bm PySem.F.plainAttrs_list PySem.F.slot_list_extend PySem.F.type_list_extend mt_extT (pv 2) (pa_cons (pe_back (pv 3)) pa_nil))))
          pss_nil)))))
      (pss_one (ps_ret (pv 1))))), ?_⟩
    refine ⟨by decide, fun p1 n1 => ?_⟩
    refine ⟨_, rfl, (by show 1 ≤ sizeLine; decide), fun p2 n2 => ?_⟩
    have n2' : H p2 = none := by
      by_cases e : p2 = p1
      · rw [e]; exact n1
      · rwa [upd_ne e] at n2
    have ne : p2 ≠ p1 := fun e => by
      rw [e, upd_same] at n2
      cases n2
    refine while_m (fun σ G => ∃ (v3 : Option V) (fin todo : List T) (xs ws : List V), σ = [some x, some (.ref p1), some (.ref p2), v3] ∧ G p1 = some (.lst xs) ∧ G p2 = some (.lst ws) ∧ Same H G ∧ Tms K G fin xs ∧ Tms K G todo ws ∧
      fin ++ T.partsL todo.reverse = t.parts) (fun _ G => t.size - lenAt G p1) ?_ ?_ ?_
    · refine ⟨none, [], [t], [], [x], rfl, by rw [upd_ne ne.symm]; exact upd_same, upd_same, same_on (same_on (fun b o e => e) n1 _) n2' _, rfl, Tms.one (Tm.mono (TK.same (same_on (same_on (fun b o e => e) n1 _) n2' _)) t x ht), ?_⟩
      show T.parts t ++ [] = _
      rw [List.append_nil]
    · rintro σ G ⟨v3, fin, todo, xs, ws, rfl, g1, g2, sm, a1, a2, sum⟩
      have total : xs.length + T.sizeL todo = t.size := by
        rw [a1.len, ← T.sizeL_reverse, ← T.partsL_len, ← List.length_append, sum, T.parts_len]
      refine ⟨_, rfl, !ws.isEmpty, .inl ⟨ws, .inl (.inl g2), rfl⟩, ?_⟩
      by_cases em : todo = []
      · subst em
        cases (show ws = [] from a2)
        refine iteF ?_
        refine ⟨_, rfl, q G p1 xs sm n1 g1 ?_⟩
        have e : fin = t.parts := by rw [← sum]; exact (List.append_nil _).symm
        rw [← e]
        exact a1
      · obtain ⟨us, u, ys, y, rfl, rfl, b1, b2⟩ := a2.last em
        have isT : (!(ys ++ [y]).isEmpty) = true := by cases ys <;> rfl
        rw [isT]
        refine iteT ?_
        rw [T.sizeL_append] at total
        have total' : xs.length + (T.sizeL us + (u.size + 0)) = t.size := total
        have up := u.size_pos
        have dl : (ys ++ [y]).dropLast = ys := List.dropLast_concat
        have rv : (us ++ [u]).reverse = u :: us.reverse := by rw [List.reverse_append]; rfl
        rw [rv] at sum
        refine ⟨_, rfl, .inl ⟨rfl, _, .inl (.inl g2)⟩, p2, ys ++ [y], y, rfl, rfl, g2, (by rw [List.length_append, List.length_singleton, Nat.add_sub_cancel, List.getElem?_append_right (Nat.le_refl _), Nat.sub_self]; rfl), ?_⟩
        rw [dl]
        have k2 : TK G (upd G p2 (.lst ys)) := TK.lst g2 _
        have h1 : (upd G p2 (.lst ys)) p1 = some (.lst xs) := by rw [upd_ne ne.symm]; exact g1
        have h2 : (upd G p2 (.lst ys)) p2 = some (.lst ys) := upd_same
        have sm2 : Same H (upd G p2 (.lst ys)) := same_on sm n2' _
        have c1 := Tms.mono k2 _ _ a1
        have c2 := Tms.mono k2 _ _ b1
        have c3 := Tm.mono k2 _ _ b2
        generalize upd G p2 (.lst ys) = G2 at h1 h2 sm2 c1 c2 c3
        refine ⟨_, rfl, .inl ⟨rfl, _, .inl (.inl h1)⟩, y, rfl, p1, xs, y, rfl, rfl, h1, (by rw [sizeLine_eq]; omega), ?_⟩
        have k3 : TK G2 (upd G2 p1 (.lst (xs ++ [y]))) := TK.lst h1 _
        have i1 : (upd G2 p1 (.lst (xs ++ [y]))) p1 = some (.lst (xs ++ [y])) := upd_same
        have i2 : (upd G2 p1 (.lst (xs ++ [y]))) p2 = some (.lst ys) := by rw [upd_ne ne]; exact h2
        have sm3 : Same H (upd G2 p1 (.lst (xs ++ [y]))) := same_on sm2 n1 _
        have d1 := Tms.app (Tms.mono k3 _ _ c1) (Tms.one (Tm.mono k3 _ _ c3))
        have d2 := Tms.mono k3 _ _ c2
        have d3 := Tm.mono k3 _ _ c3
        generalize upd G2 p1 (.lst (xs ++ [y])) = G3 at i1 i2 sm3 d1 d2 d3
        have less : t.size - (xs ++ [y]).length < t.size - lenAt G p1 := by
          rw [lenAt_of g1, List.length_append, List.length_singleton]
          omega
        cases u with
        | v i =>
          cases (show y = .int i from d3)
          refine ⟨.int i, rfl, _, .ty "tuple", .type "int", .type "tuple", false, rfl, .ty "tuple", .base (.int i), kitIT, false, rfl, ?_⟩
          refine iteF ?_
          refine ⟨⟨_, fin ++ [.v i], us, _, _, rfl, i1, i2, sm3, d1, d2, ?_⟩, by rw [lenAt_of i1]; exact less⟩
          rw [List.append_assoc]
          exact sum
        | f nm ts =>
          have ty := tm_tuple d3
          obtain ⟨a, zs, rfl, sq, all⟩ := d3
          refine ⟨.ref a, rfl, _, .ty "tuple", .type "tuple", .type "tuple", true, rfl, .ty "tuple", ty, kitTT, true, rfl, ?_⟩
          refine iteT ?_
          refine ⟨.ref p2, rfl, .inl ⟨rfl, _, .inl (.inl i2)⟩, .ref a, rfl, a, _, rfl, sq, by rw [List.length_cons]; omega, fun p3 n3 => ?_⟩
          have k4 : TK G3 (upd G3 p3 (.tup ((V.str nm :: zs).drop 1).reverse)) := TK.new n3 _
          have ne31 : p1 ≠ p3 := ne_of_none i1 n3
          have ne32 : p2 ≠ p3 := ne_of_none i2 n3
          have j1 : (upd G3 p3 (.tup ((V.str nm :: zs).drop 1).reverse)) p1 = some (.lst (xs ++ [V.ref a])) := by rw [upd_ne ne31]; exact i1
          have j2 : (upd G3 p3 (.tup ((V.str nm :: zs).drop 1).reverse)) p2 = some (.lst ys) := by rw [upd_ne ne32]; exact i2
          have j3 : (upd G3 p3 (.tup ((V.str nm :: zs).drop 1).reverse)) p3 = some (.tup zs.reverse) := upd_same
          have sm4 : Same H (upd G3 p3 (.tup ((V.str nm :: zs).drop 1).reverse)) := fun b o e => by
            rw [upd_ne (ne_of_none (sm3 b o e) n3)]
            exact sm3 b o e
          have e1 := Tms.mono k4 _ _ d1
          have e2 := Tms.mono k4 _ _ d2
          have e3 := Tms.mono k4 _ _ all
          generalize upd G3 p3 (.tup ((V.str nm :: zs).drop 1).reverse) = G4 at j1 j2 j3 sm4 e1 e2 e3
          have szu : T.size (.f nm ts) = 1 + T.sizeL ts := rfl
          have l1 := T.len_sizeL ts
          have l2 := T.len_sizeL us
          refine ⟨p2, p3, ys, zs.reverse, rfl, rfl, j2, .inl (.inl j3), (by rw [List.length_reverse, sizeLine_eq, e2.len, e3.len]; omega), ?_⟩
          have k5 : TK G4 (upd G4 p2 (.lst (ys ++ zs.reverse))) := TK.lst j2 _
          refine ⟨⟨_, fin ++ [.f nm ts], us ++ ts.reverse, xs ++ [.ref a], ys ++ zs.reverse, rfl, by rw [upd_ne ne.symm]; exact j1, upd_same, same_on sm4 n2' _, Tms.mono k5 _ _ e1, Tms.mono k5 _ _ (Tms.app e2 (Tms.rev e3)), ?_⟩, ?_⟩
          · rw [← sum, List.append_assoc, List.reverse_append, List.reverse_reverse, T.partsL_append]
            rfl
          · rw [lenAt_of (xs := xs ++ [.ref a]) (by rw [upd_ne ne.symm]; exact j1)]
            exact less
    · exact mono_true mono_var
end
end Ad

namespace Ad
open PySem PySem.Spec PySem.Calls PyProof.Rows L2 GxR
abbrev sRen : Stmt := topS 7
theorem scRen : FnScope ["term", "first", "table", "part"] ["term", "first"] (defScope sRen) := ⟨rfl, rfl, rfl, by decide +kernel, rfl, by decide +kernel, by decide +kernel⟩
section
variable {P : Program} {w : World} {K : PySem.W.Frag} {mg : Str → Option Value} {base : Heap}
def spRen (K : PySem.W.Frag) (n : Nat) : Sp := fun vs H Q _ => ∃ (t : T) (x : V) (first : Int), vs = [x, .int first] ∧ Tm K H t x ∧ t.dep < n ∧ t.size ≤ 10000 ∧ ∀ v H', Same H H' → Tm K H' (T.fill (Sb.ren first [] t.vars).asg t) v → Q v H'
theorem ok_ren {f fP fF : Addr} {fd fdP fdF : FuncData} {k n : Nat} (F : Fun K "renamed" "renamed" sRen f fd) (GP : FnOk P w K mg base CX0 k fP fdP ["term"] (spParts K)) (gP : mg "parts_of" = some (.ref fP)) (kP : PySem.W.keepIn K (.ref fP) = true) (bP : Binds K fdP ["term"] [])
    (GF : FnOk P w K mg base CX0 k fF fdF ["term", "table"] (spFilled K n)) (gF : mg "filled" = some (.ref fF)) (kF : PySem.W.keepIn K (.ref fF) = true) (bF : Binds K fdF ["term", "table"] []) (mi : mg "isinstance" = none) (mI : mg "int" = none) (ml : mg "len" = none) : FnOk P w K mg base CX0 (k + 1) f fd ["term", "first"] (spRen K n) := by
  refine F.ok scRen (fun vs H Q E h => ?_) (fun cdv A outer s H vs Q E hr h => ?_)
  · obtain ⟨t, x, first, rfl, _⟩ := h
    rfl
  · obtain ⟨t, x, first, rfl, ht, shallow, small, q⟩ := h
    refine ⟨_, pss_cons (ps_set (i := 2) scRen.nd rfl (.inl rfl) pe_dnewK)
      (pss_cons (ps_for PassesOwn.never rfl (pi_list (pe_call GP hr (by rfl) gP kP bP .nil pass0 (pa_cons (pv 0) pa_nil))) (pg_name (i := 3) scRen.nd rfl (.inl rfl))
        (pss_one (ps_if (pw_and (pt_val (pe_callB call_isi (by rfl) mi (by decide +kernel) (pa_cons (pv 3) (pa_cons (pe_bltn (v := .ty "int") (by rfl) mI (by decide +kernel) rfl) pa_nil)))) (pw_and1 (pt_cmp (pc_dnotin (hu1 hr) (pv 3) (pv 2))))).pt
          (pss_one (ps_dput (hu1 hr) (pv 2) (pv 3) (pe_op op_add (pv 1) (pe_callB call_lenD (by rfl) ml PySem.boot_len (pa_cons (pv 2) pa_nil))) rfl)) pss_nil)))
      (pss_one (ps_ret (pe_call GF hr (by rfl) gF kF bF .nil pass0 (pa_cons (pv 0) (pa_cons (pv 2) pa_nil)))))), ?_⟩
    intro d nd0
    have sm0 : Same H (upd H d (.dK [])) := same_new (fun b o e => e) nd0 _
    have m0 : (upd H d (.dK [])) d = some (.dK []) := upd_same
    have ht0 := Tm.mono (TK.same sm0) _ _ ht
    generalize upd H d (.dK []) = H0 at sm0 m0 ht0
    refine ⟨x, rfl, t, x, rfl, ht0, small, fun H1 l xs sm1 nl1 e1 all => ⟨l, rfl, ⟨xs, .inl (.inl e1)⟩, ?_⟩⟩
    have dl : d ≠ l := ne_of (sm1 _ _ m0) e1 (by intro z; cases z)
    have nlH : H l = none := by
      cases z : H l with
      | none => rfl
      | some o =>
        have := sm0 _ _ z
        rw [nl1] at this
        cases this
    refine for_list (K := K) (a := l) (xs := xs) (fun i σ G => ∃ (v3 : Option V) (kvs : List (L2.Key × V)), σ = [some x, some (.int first), some (.ref d), v3] ∧ Same H G ∧ TK H1 G ∧ G l = some (.lst xs) ∧ G d = some (.dK kvs) ∧ TV K G (Sb.ren first [] ((t.parts.take i).flatMap T.varOf)) kvs)
      ⟨none, [], rfl, fun b o e => sm1 _ _ (sm0 _ _ e), TK.refl _, e1, sm1 _ _ m0, rfl⟩ (fun i σ G _ ⟨_, _, _, _, _, g, _⟩ => .inl (.inl g)) ?_ ?_
    · rintro i y σ G hy ⟨v3, kvs, rfl, sm, tk, gl, gd0, tv⟩
      obtain ⟨u, hu, tu⟩ := (Tms.mono tk _ _ all).get hy
      have tk1 : (t.parts.take (i + 1)).flatMap T.varOf = (t.parts.take i).flatMap T.varOf ++ u.varOf := by
        rw [List.take_add_one, hu, List.flatMap_append]
        show _ ++ (u.varOf ++ []) = _
        rw [List.append_nil]
      have lt := (List.getElem?_eq_some_iff.mp hu).1
      rw [T.parts_len] at lt
      cases u with
      | v j =>
        cases (show y = .int j from tu)
        refine ⟨.int j, rfl, _, .ty "int", .type "int", .type "int", true, rfl, .ty "int", .base (.int j), kitII, true, rfl, ?_⟩
        refine iteT ?_
        refine ⟨.int j, rfl, .ref d, rfl, d, _, rfl, DGet.k (k := Sum.inl j) gd0, _, rfl, ?_⟩
        have here := tv.val j
        have step : Sb.ren first [] ((t.parts.take (i + 1)).flatMap T.varOf) = (if (Sb.look (Sb.ren first [] ((t.parts.take i).flatMap T.varOf)) j).isSome = true then Sb.ren first [] ((t.parts.take i).flatMap T.varOf) else Sb.put (Sb.ren first [] ((t.parts.take i).flatMap T.varOf)) j (.v (first + ((Sb.ren first [] ((t.parts.take i).flatMap T.varOf)).length : Int)))) := by
          rw [tk1, Sb.ren_app]
          rfl
        have lk := tv.len
        have lr := Sb.ren_len first ((t.parts.take i).flatMap T.varOf) []
        have lf : ((t.parts.take i).flatMap T.varOf).length ≤ i := by
          have key : ∀ l : List T, (l.flatMap T.varOf).length ≤ l.length := by
            intro l
            induction l with
            | nil => exact Nat.le_refl _
            | cons u l ih =>
              rw [List.flatMap_cons, List.length_append, List.length_cons]
              have : u.varOf.length ≤ 1 := by cases u <;> simp [T.varOf]
              omega
          have := key (t.parts.take i)
          rw [List.length_take] at this
          omega
        rw [List.length_nil] at lr
        rcases here with ⟨a, b⟩ | ⟨t', v', a, b, _⟩
        · rw [b]
          refine iteT ?_
          refine ⟨.int first, rfl, .ref d, rfl, d, kvs, rfl, gd0, _, _, rfl, rfl, .ref d, rfl, .int j, rfl, d, _, rfl, DPut.k (k := Sum.inl j) gd0 (by rw [sizeLine_eq]; omega), ?_⟩
          have k3 := dk_tk gd0 (.dK (putK kvs (.inl j) (.int (first + (kvs.length : Int)))))
          refine ⟨_, _, rfl, same_on sm nd0 _, tk.trans k3, by rw [upd_ne dl.symm]; exact gl, upd_same, ?_⟩
          rw [step, a, if_neg (by decide)]
          refine TV.put (tv.mono k3) j ?_
          rw [lk]
          exact rfl
        · rw [b]
          refine iteF ?_
          refine ⟨_, kvs, rfl, sm, tk, gl, gd0, ?_⟩
          rw [step, a, if_pos (show (some t').isSome = true from rfl)]
          exact tv
      | f nm ts =>
        refine ⟨y, rfl, _, .ty "int", .type "tuple", .type "int", false, rfl, .ty "int", tm_tuple tu, kitTI, false, rfl, ?_⟩
        refine iteF ?_
        refine iteF ?_
        refine ⟨_, kvs, rfl, sm, tk, gl, gd0, ?_⟩
        rw [tk1]
        show TV K G (Sb.ren first [] (_ ++ [])) kvs
        rw [List.append_nil]
        exact tv
    · rintro σ G ⟨v3, kvs, rfl, sm, tk, gl, gd0, tv⟩
      rw [all.len, List.take_length, T.parts_vars] at tv
      exact ⟨x, rfl, .ref d, rfl, t, x, d, _, kvs, rfl, Tm.mono (TK.same sm) _ _ ht, gd0, tv, shallow, small, fun v H' s' r => q v H' (fun b o e => s' _ _ (sm _ _ e)) r⟩
end
end Ad

namespace Ad
open PySem PySem.Spec PySem.Calls PyProof.Rows L2 GxR
abbrev sBehind : Stmt := topS 5
theorem scBehind : FnScope ["one", "other", "table", "variable", "term"] ["one", "other"] (defScope sBehind) := ⟨rfl, rfl, rfl, by decide +kernel, rfl, by decide +kernel, by decide +kernel⟩
section
variable {P : Program} {w : World} {K : PySem.W.Frag} {mg : Str → Option Value} {base : Heap}
theorem ok_behind {f fP fS Pt : Addr} {fd fdP fdS : FuncData} {k n : Nat} (F : Fun K "behind" "behind" sBehind f fd) (GP : FnOk P w K mg base CX0 k fP fdP ["term", "pairs"] (spPutIn K n)) (gP : mg "put" = some (.ref fP)) (kP : PySem.W.keepIn K (.ref fP) = true) (bP : Binds K fdP ["term", "pairs"] [])
    (GS : FnG P w K mg base CX0 k fS fdS ["table"] (spSubst K Pt)) (gS : mg "_substitution" = some (.ref fS)) (kS : PySem.W.keepIn K (.ref fS) = true) (bS : Binds K fdS ["table"] []) (md : mg "dict" = none) : FnG P w K mg base CX0 (k + 1) f fd ["one", "other"] (spBehind K Pt n) := by
  refine fng_of F scBehind (fun vs H Q E h => ?_) (fun cdv A outer s H vs Q E gd hr h => ?_)
  · obtain ⟨one, other, x, y, rfl, _⟩ := h
    rfl
  · obtain ⟨one, other, x, y, rfl, h1, h2, nd1, nd2, deps, few, good, tab, q⟩ := h
    have gd' : (A.deeper (envOfC "behind" (defScope sBehind) s.heap.objs.size f cdv)).guards = some [] := deeper_guards gd
    refine ⟨_, PSs.nox (pss_cons (ps_set (i := 2) scBehind.nd rfl (.inl rfl) (pe_callTy (Dt.call_dictT rfl) (by rfl) md (by decide +kernel) (pa_cons (pv 1) pa_nil)))
      (pss_cons (ps_for PassesOwn.never rfl (pi_tup (pv 0)) (pg_tup rfl (pgs_cons (pg_name (i := 3) scBehind.nd rfl (.inl rfl)) (pgs_cons (pg_name (i := 4) scBehind.nd rfl (.inl rfl)) pgs_nil)))
        (pss_one (ps_dput (hu1 hr) (pv 2) (pv 3) (pe_call GP hr (by rfl) gP kP bP .nil pass0 (pa_cons (pv 4) (pa_cons (pv 1) pa_nil))) rfl)))
      (pss_one (ps_ret (pe_callG GS gd' hr (by rfl) gS kS bS pass0 (pa_cons (pv 2) pa_nil)))))), ?_⟩
    obtain ⟨a1, bs1, rfl, tup1, prs1⟩ := h1
    have h2' := h2
    obtain ⟨a2, bs2, rfl, tup2, prs2⟩ := h2'
    obtain ⟨kvs, pd, tv, me⟩ := dict_of tup2 prs2 nd2
    refine ⟨.ref a2, rfl, a2, bs2, kvs, rfl, tup2, pd, fun d nd0 => ?_⟩
    rw [me]
    have sm0 : Same H (upd H d (.dK kvs)) := same_new (fun b o e => e) nd0 _
    refine ⟨.ref a1, rfl, a1, rfl, ⟨_, (tup0_mono (TK.same sm0) tup1).sq⟩, for_tup (K := K) (a := a1) (xs := bs1.map V.ref) (fun i σ G => ∃ (v3 v4 : Option V) (kvs : List (L2.Key × V)), σ = [some (.ref a1), some (.ref a2), some (.ref d), v3, v4] ∧ Same H G ∧ G d = some (.dK kvs) ∧ TV K G (Sb.beh (one.take i) other) kvs)
      ⟨none, none, kvs, rfl, sm0, upd_same, tv.mono (TK.same sm0)⟩ (fun i σ G _ ⟨_, _, _, _, sm, _⟩ => (tup0_mono (TK.same sm) tup1).sq) ?_ ?_⟩
    · rintro i x σ G hx ⟨v3, v4, kvs, rfl, sm, gd0, tv⟩
      obtain ⟨b, hb, rfl⟩ : ∃ b, bs1[i]? = some b ∧ x = V.ref b := by
        rw [List.getElem?_map] at hx
        cases e : bs1[i]? with
        | none =>
          rw [e] at hx
          cases hx
        | some b =>
          rw [e] at hx
          exact ⟨b, rfl, (Option.some.inj hx).symm⟩
      obtain ⟨⟨v, t⟩, he, ⟨u, sq, tu⟩⟩ := (F2.mono (SP.mono (TK.same sm)) prs1).get hb
      have lt := (List.getElem?_eq_some_iff.mp he).1
      obtain ⟨dp, sz⟩ := deps _ (List.mem_of_getElem? he)
      refine ⟨b, _, rfl, sq, rfl, .int v, _, rfl, u, _, rfl, rfl, ?_⟩
      refine ⟨u, rfl, .ref a2, rfl, t, other, u, .ref a2, rfl, tu, h2.mono (TK.same sm), nd2, dp, sz, fun r G2 sm2 tr => ?_⟩
      have ltk := (tv.mono (TK.same sm2)).len
      have l2 := Sb.len_fold (Sb.asg other) (one.take i) other
      rw [List.length_take] at l2
      have l3 : (Sb.beh (one.take i) other).length ≤ other.length + min i one.length := l2
      refine ⟨.ref d, rfl, .int v, rfl, d, _, rfl, DPut.k (k := Sum.inl v) (sm2 _ _ gd0) (by rw [sizeLine_eq]; omega), ?_⟩
      have sm12 : Same H G2 := fun b o e => sm2 _ _ (sm _ _ e)
      have tk3 : TK G2 (upd G2 d (.dK (putK kvs (.inl v) r))) := by
        intro b xs
        refine ⟨fun e => ?_, fun o e => ?_⟩
        · rw [upd_ne (fun z => by rw [z, sm2 _ _ gd0] at e; cases e)]
          exact e
        · rw [upd_ne (fun z => by rw [z, sm2 _ _ gd0] at e; cases e)]
          exact e
      refine ⟨_, _, _, rfl, same_on sm12 nd0 _, upd_same, ?_⟩
      rw [Sb.beh_take he]
      exact ((tv.mono (TK.same sm2)).mono tk3).put v (Tm.mono tk3 _ _ tr)
    · rintro σ G ⟨v3, v4, kvs, rfl, sm, gd0, tv⟩
      have lb := prs1.len
      rw [List.length_map, lb, List.take_length] at tv
      refine ⟨.ref d, rfl, d, _, kvs, rfl, gd0, tv, Sb.nodup_fold _ one other nd2, ?_, good, tab_same sm tab, fun su z H' nm suz kp tb => q su z H' nm suz (fun b o hb e => kp b o hb (sm _ _ e)) tb⟩
      have := Sb.len_fold (Sb.asg other) one other
      show (Sb.beh one other).length < 64
      have e : (Sb.beh one other).length ≤ other.length + one.length := this
      omega
end
end Ad

namespace Ad
open PySem PySem.Spec PySem.Calls PyProof.Rows L2 GxR
abbrev sLBeh : Stmt := topS 18
theorem scLBeh : FnScope ["_law_one", "_law_two", "_law_known", "_law_variable", "_law_term"] ["_law_one", "_law_two"] (defScope sLBeh) := ⟨rfl, rfl, rfl, by decide +kernel, rfl, by decide +kernel, by decide +kernel⟩
section
variable {P : Program} {w : World} {K : PySem.W.Frag} {mg : Str → Option Value} {base : Heap}
theorem ok_lbeh {f fP fS : Addr} {fd fdP fdS : FuncData} {k n : Nat} (F : Fun K "_law_behind" "_law_behind" sLBeh f fd) (GP : FnOk P w K mg base CX0 k fP fdP ["_law_term", "_law_known"] (spFilled K n)) (gP : mg "_law_put" = some (.ref fP)) (kP : PySem.W.keepIn K (.ref fP) = true) (bP : Binds K fdP ["_law_term", "_law_known"] [])
    (GS : FnOk P w K mg base CX0 k fS fdS ["_law_known"] (spLPairs K)) (gS : mg "_law_pairs" = some (.ref fS)) (kS : PySem.W.keepIn K (.ref fS) = true) (bS : Binds K fdS ["_law_known"] []) (md : mg "dict" = none) : FnOk P w K mg base CX0 (k + 1) f fd ["_law_one", "_law_two"] (spLBeh K n) := by
  refine F.ok scLBeh (fun vs H Q E h => ?_) (fun cdv A outer s H vs Q E hr h => ?_)
  · obtain ⟨one, other, x, y, rfl, _⟩ := h
    rfl
  · obtain ⟨one, other, x, y, rfl, h1, h2, nd1, nd2, deps, few, good, q⟩ := h
    refine ⟨_, pss_cons (ps_set (i := 2) scLBeh.nd rfl (.inl rfl) (pe_callTy (Dt.call_dictT rfl) (by rfl) md (by decide +kernel) (pa_cons (pv 1) pa_nil)))
      (pss_cons (ps_for PassesOwn.never rfl (pi_tup (pv 0)) (pg_tup rfl (pgs_cons (pg_name (i := 3) scLBeh.nd rfl (.inl rfl)) (pgs_cons (pg_name (i := 4) scLBeh.nd rfl (.inl rfl)) pgs_nil)))
        (pss_one (ps_dput (hu1 hr) (pv 2) (pv 3) (pe_call GP hr (by rfl) gP kP bP .nil pass0 (pa_cons (pv 4) (pa_cons (pe_callTy (Dt.call_dictT rfl) (by rfl) md (by decide +kernel) (pa_cons (pv 1) pa_nil)) pa_nil))) rfl)))
      (pss_one (ps_ret (pe_call GS hr (by rfl) gS kS bS .nil pass0 (pa_cons (pv 2) pa_nil))))), ?_⟩
    obtain ⟨a1, bs1, rfl, tup1, prs1⟩ := h1
    obtain ⟨a2, bs2, rfl, tup2, prs2⟩ := h2
    obtain ⟨kvs2, pd, tv, me⟩ := dict_of tup2 prs2 nd2
    refine ⟨.ref a2, rfl, a2, bs2, kvs2, rfl, tup2, pd, fun d nd0 => ?_⟩
    rw [me]
    have sm0 : Same H (upd H d (.dK kvs2)) := same_new (fun b o e => e) nd0 _
    refine ⟨.ref a1, rfl, a1, rfl, ⟨_, (tup0_mono (TK.same sm0) tup1).sq⟩, for_tup (K := K) (a := a1) (xs := bs1.map V.ref) (fun i σ G => ∃ (v3 v4 : Option V) (kvs : List (L2.Key × V)), σ = [some (.ref a1), some (.ref a2), some (.ref d), v3, v4] ∧ Same H G ∧ G d = some (.dK kvs) ∧ TV K G (Sb.beh (one.take i) other) kvs)
      ⟨none, none, kvs2, rfl, sm0, upd_same, tv.mono (TK.same sm0)⟩ (fun i σ G _ ⟨_, _, _, _, sm, _⟩ => (tup0_mono (TK.same sm) tup1).sq) ?_ ?_⟩
    · rintro i x σ G hx ⟨v3, v4, kvs, rfl, sm, gd0, tvG⟩
      obtain ⟨b, hb, rfl⟩ : ∃ b, bs1[i]? = some b ∧ x = V.ref b := by
        rw [List.getElem?_map] at hx
        cases e : bs1[i]? with
        | none =>
          rw [e] at hx
          cases hx
        | some b =>
          rw [e] at hx
          exact ⟨b, rfl, (Option.some.inj hx).symm⟩
      obtain ⟨⟨v, t⟩, he, ⟨u, sq, tu⟩⟩ := (F2.mono (SP.mono (TK.same sm)) prs1).get hb
      have lt := (List.getElem?_eq_some_iff.mp he).1
      obtain ⟨dp, sz⟩ := deps _ (List.mem_of_getElem? he)
      obtain ⟨kvs3, pd3, tv3, me3⟩ := dict_of (tup0_mono (TK.same sm) tup2) (F2.mono (SP.mono (TK.same sm)) prs2) nd2
      refine ⟨b, _, rfl, sq, rfl, .int v, _, rfl, u, _, rfl, rfl, ?_⟩
      refine ⟨u, rfl, .ref a2, rfl, a2, bs2, kvs3, rfl, tup0_mono (TK.same sm) tup2, pd3, fun d3 nd3 => ?_⟩
      rw [me3]
      have s3 : Same G (upd G d3 (.dK kvs3)) := same_new (fun b o e => e) nd3 _
      refine ⟨t, u, d3, other, kvs3, rfl, Tm.mono (TK.same s3) _ _ tu, upd_same, tv3.mono (TK.same s3), dp, sz, fun r G2 sm2 tr => ?_⟩
      have sG2 : Same G G2 := fun b o e => sm2 _ _ (s3 _ _ e)
      have ltk := tvG.len
      have l2 := Sb.len_fold (Sb.asg other) (one.take i) other
      rw [List.length_take] at l2
      have l3 : (Sb.beh (one.take i) other).length ≤ other.length + min i one.length := l2
      refine ⟨.ref d, rfl, .int v, rfl, d, _, rfl, DPut.k (k := Sum.inl v) (sG2 _ _ gd0) (by rw [sizeLine_eq]; omega), ?_⟩
      have sm12 : Same H G2 := fun b o e => sG2 _ _ (sm _ _ e)
      have tk3 : TK G2 (upd G2 d (.dK (putK kvs (.inl v) r))) := dk_tk (sG2 _ _ gd0) _
      refine ⟨_, _, _, rfl, same_on sm12 nd0 _, upd_same, ?_⟩
      rw [Sb.beh_take he]
      exact ((tvG.mono (TK.same sG2)).mono tk3).put v (Tm.mono tk3 _ _ tr)
    · rintro σ G ⟨v3, v4, kvs, rfl, sm, gd0, tvG⟩
      have lb := prs1.len
      rw [List.length_map, lb, List.take_length] at tvG
      refine ⟨.ref d, rfl, d, _, kvs, rfl, gd0, tvG, Sb.nodup_fold _ one other nd2, ?_, good, fun su z H' nm suz s' => q su z H' nm suz (fun b o e => s' _ _ (sm _ _ e))⟩
      have e : (Sb.beh one other).length ≤ other.length + one.length := Sb.len_fold (Sb.asg other) one other
      omega
end
end Ad

namespace Ad
open PySem PySem.Spec PySem.Calls PyProof.Rows L2 GxR
abbrev sLPut : Stmt := topS 15
theorem scLPut : FnScope ["_law_term", "_law_known", "_law_part"] ["_law_term", "_law_known"] (defScope sLPut) := ⟨rfl, rfl, rfl, by decide +kernel, rfl, by decide +kernel, by decide +kernel⟩
section
variable {P : Program} {w : World} {K : PySem.W.Frag} {mg : Str → Option Value} {base : Heap}
theorem ok_lput {f fV : Addr} {fd fdV : FuncData} {k : Nat} (F : Fun K "_law_put" "_law_put" sLPut f fd) (gF : mg "_law_put" = some (.ref f)) (bF : Binds K fd ["_law_term", "_law_known"] [])
    (G : FnOk P w K mg base CX0 k fV fdV ["_law_term"] (spIsVar K)) (gV : mg "_law_is_var" = some (.ref fV)) (kV : PySem.W.keepIn K (.ref fV) = true) (bV : Binds K fdV ["_law_term"] []) (mt : mg "tuple" = none) :
    ∀ n, FnOk P w K mg base CX0 (k + n) f fd ["_law_term", "_law_known"] (spFilled K n)
  | 0 => vac fun vs H Q E ⟨t, x, d, tb, kvs, _, _, _, _, z, _⟩ => absurd z (Nat.not_lt_zero _)
  | n + 1 => by
    have IH := ok_lput F gF bF G gV kV bV mt n
    refine F.ok scLPut (fun vs H Q E h => ?_) (fun cdv A outer s H vs Q E hr h => ?_)
    · obtain ⟨t, x, d, tb, kvs, rfl, _⟩ := h
      rfl
    · obtain ⟨t, x, d, tb, kvs, rfl, ht, hd, htb, shallow, small, q⟩ := h
      refine ⟨_, pss_cons (ps_if (pt_val (pe_call G (hr.mono (Nat.le_add_right _ _)) (by rfl) gV kV bV .nil pass0 (pa_cons (pv 0) pa_nil))) (pss_one (ps_ret (pe_dget2 (hu1 hr) (pv 1) (pv 0) (pv 0) ⟨rfl, rfl, rfl, rfl⟩))) pss_nil)
        (pss_one (ps_ret (pe_op op_catT (pe_tup (pa_cons (pe_ix ix_tup (pv 0) pe_int (fun _ _ => rfl)) pa_nil)) (pe_callTy call_tuple_of (by rfl) mt (by decide +kernel) (pa_cons
          (pe_lc (own := [("_law_part", 2)]) (g := gName 2) (tt := tYes) rfl scLPut.nd (pi_tup (pe_slice sl_tup (pv 0) (po_some pe_int) po_none)) (blkOk_by (N := ["_law_term", "_law_known", "_law_part"]) (sc := defScope sLPut) (by decide +kernel))
            (fun _ _ _ _ _ => pg_name (i := 2) scLPut.nd rfl (.inl rfl)) (fun _ _ _ _ _ => pts_nil)
            (fun _ _ _ _ _ => pe_call IH hr (by rfl) gF F.kp bF .nil pass0 (pa_cons (pv 2) (pa_cons (pv 1) pa_nil)))) pa_nil))))), ?_⟩
      refine ⟨x, rfl, t, x, rfl, ht, _, rfl, ?_⟩
      cases t with
      | v i =>
        cases (show x = .int i from ht)
        refine iteT ?_
        refine ⟨.ref d, rfl, d, rfl, .inl ⟨kvs, .inl hd⟩, .int i, rfl, .int i, rfl, _, DGet.k (k := Sum.inl i) hd, ?_⟩
        rcases htb.val i with ⟨a, b⟩ | ⟨t', v', a, b, tv⟩
        · rw [b]
          refine q (.int i) H (fun b o e => e) ?_
          show Tm K H ((tb.look i).getD (.v i)) (.int i)
          rw [a]
          exact rfl
        · rw [b]
          refine q v' H (fun b o e => e) ?_
          show Tm K H ((tb.look i).getD (.v i)) v'
          rw [a]
          exact tv
      | f nm ts =>
        obtain ⟨a, zs, rfl, sq, all⟩ := ht
        refine iteF ?_
        refine ⟨.ref a, rfl, a, _, 0, .str nm, rfl, rfl, sq, atI_nat (j := 0) rfl, (by show 1 ≤ sizeLine; decide), fun p0 n0 => ?_⟩
        have k0 := TK.new n0 (.tup [.str nm])
        have sm0 : Same H (upd H p0 (.tup [.str nm])) := same_new (fun b o e => e) n0 _
        have m0 : (upd H p0 (.tup [.str nm])) p0 = some (.tup [.str nm]) := upd_same
        replace sq := k0.sq sq
        replace all := Tms.mono k0 _ _ all
        generalize upd H p0 (.tup [.str nm]) = H0 at sm0 m0 sq all
        refine ⟨.ref a, rfl, 1, rfl, a, _, rfl, sq, cut_args.1, fun p1 n1 => ⟨p1, rfl, ⟨_, .inl (.inl upd_same)⟩, fun D nD => ?_⟩⟩
        rw [cut_args.2] at nD ⊢
        have sm1 : Same H (upd H0 p1 (.tup zs)) := same_new sm0 n1 _
        have m1 : (upd H0 p1 (.tup zs)) p1 = some (.tup zs) := upd_same
        have m01 : (upd H0 p1 (.tup zs)) p0 = some (.tup [.str nm]) := by rw [upd_ne (ne_of_none m0 n1)]; exact m0
        replace all := Tms.mono (TK.new n1 (.tup zs)) _ _ all
        generalize upd H0 p1 (.tup zs) = H1 at nD sm1 m1 m01 all ⊢
        have lz := all.len
        have szu : T.size (.f nm ts) = 1 + T.sizeL ts := rfl
        have lts := T.len_sizeL ts
        refine lc_tup (K := K) (a := p1) (xs := zs) (fun i G => ∃ acc, Same H1 G ∧ G D = some (.lst acc) ∧ Tms K G ((ts.take i).map (T.fill tb.asg)) acc) ⟨[], same_new (fun b o e => e) nD _, upd_same, rfl⟩ (fun i G _ ⟨_, sm, _⟩ => .inl (.inl (sm _ _ m1))) ?_ ?_
        · rintro i y G hy ⟨acc, sm, g, done⟩
          obtain ⟨u, hu, tu⟩ := (Tms.mono (TK.same sm) _ _ all).get hy
          have hm := List.mem_of_getElem? hu
          have d1 := T.dep_mem hm
          have d2 : T.dep (.f nm ts) = 1 + T.depL ts := rfl
          have d3 := T.size_mem hm
          have la := done.len
          rw [List.length_map, List.length_take] at la
          have smH : Same H G := fun b o e => sm _ _ (sm1 _ _ e)
          refine ⟨rfl, y, rfl, .ref d, rfl, u, y, d, tb, kvs, rfl, tu, smH _ _ hd, htb.mono (TK.same smH), by omega, by omega, fun v G2 sm2 tv => ⟨acc, sm2 _ _ g, by rw [sizeLine_eq]; omega, acc ++ [v], ?_, upd_same, ?_⟩⟩
          · have sm3 : Same H1 G2 := fun b o e => sm2 _ _ (sm _ _ e)
            exact same_on sm3 nD _
          · have k3 : TK G2 (upd G2 D (.lst (acc ++ [v]))) := TK.lst (sm2 _ _ g) _
            rw [List.take_add_one, hu, List.map_append]
            exact Tms.app (Tms.mono ((TK.same sm2).trans k3) _ _ done) (Tms.one (Tm.mono k3 _ _ tv))
        · rintro G ⟨acc, sm, g, done⟩
          rw [lz, List.take_length] at done
          have la := done.len
          rw [List.length_map] at la
          refine ⟨D, acc, rfl, .inl ⟨.inl (.inl g), fun p5 n5 => ?_⟩⟩
          have s5 : Same G (upd G p5 (.tup acc)) := same_new (fun b o e => e) n5 _
          have m5 : (upd G p5 (.tup acc)) p5 = some (.tup acc) := upd_same
          have m0' := s5 _ _ (sm _ _ m01)
          replace done := Tms.mono (TK.same s5) _ _ done
          have smH : Same H (upd G p5 (.tup acc)) := fun b o e => s5 _ _ (sm _ _ (sm1 _ _ e))
          generalize upd G p5 (.tup acc) = G5 at m5 m0' done smH
          refine ⟨p0, p5, _, _, rfl, rfl, .inl (.inl m0'), .inl (.inl m5), by simp, by rw [List.length_singleton, sizeLine_eq]; omega, fun e => ?_, fun e p6 n6 => ?_⟩
          · refine q _ _ smH ⟨p0, acc, rfl, ?_, ?_⟩
            · rw [e]
              exact .inl (.inl m0')
            · rw [T.fillL_map]
              exact done
          · refine q _ _ (same_new smH n6 _) ⟨p6, acc, rfl, .inl (.inl upd_same), ?_⟩
            rw [T.fillL_map]
            exact Tms.mono (TK.new n6 _) _ _ done
end
end Ad

namespace Ad
open PySem PySem.Spec PySem.Calls PyProof.Rows L2
abbrev sLVars : Stmt := topS 14
theorem scLVars : FnScope ["_law_term", "_law_found", "_law_part"] ["_law_term"] (defScope sLVars) := ⟨rfl, rfl, rfl, by decide +kernel, rfl, by decide +kernel, by decide +kernel⟩
section
variable {P : Program} {w : World} {K : PySem.W.Frag} {mg : Str → Option Value} {base : Heap}
def spLVars (K : PySem.W.Frag) (n : Nat) : Sp := fun vs H Q _ => ∃ (t : T) (x : V), vs = [x] ∧ Tm K H t x ∧ t.dep < n ∧ t.size ≤ 10000 ∧ ∀ H' p, Same H H' → H p = none → H' p = some (.lst (t.vars.map V.int)) → Q (.ref p) H'
theorem ok_lvars {f fV : Addr} {fd fdV : FuncData} {k : Nat} (F : Fun K "_law_vars" "_law_vars" sLVars f fd) (gF : mg "_law_vars" = some (.ref f)) (bF : Binds K fd ["_law_term"] [])
    (G : FnOk P w K mg base CX0 k fV fdV ["_law_term"] (spIsVar K)) (gV : mg "_law_is_var" = some (.ref fV)) (kV : PySem.W.keepIn K (.ref fV) = true) (bV : Binds K fdV ["_law_term"] []) :
    ∀ n, FnOk P w K mg base CX0 (k + n) f fd ["_law_term"] (spLVars K n)
  | 0 => vac fun vs H Q E ⟨t, x, _, _, z, _⟩ => absurd z (Nat.not_lt_zero _)
  | n + 1 => by
    have IH := ok_lvars F gF bF G gV kV bV n
    refine F.ok scLVars (fun vs H Q E h => ?_) (fun cdv A outer s H vs Q E hr h => ?_)
    · obtain ⟨t, x, rfl, _⟩ := h
      rfl
    · obtain ⟨t, x, rfl, ht, shallow, small, q⟩ := h
      refine ⟨_, pss_cons (ps_if (pt_val (pe_call G (hr.mono (Nat.le_add_right _ _)) (by rfl) gV kV bV .nil pass0 (pa_cons (pv 0) pa_nil))) (pss_one (ps_ret (pe_lst (pa_cons (pv 0) pa_nil)))) pss_nil)
        (pss_cons (ps_set (i := 1) scLVars.nd rfl (.inl rfl) (pe_lst pa_nil))
        (pss_cons (ps_for PassesOwn.never rfl (pi_tup (pe_slice sl_tup (pv 0) (po_some pe_int) po_none)) (pg_name (i := 2) scLVars.nd rfl (.inl rfl))
          (pss_one (ps_set (i := 1) scLVars.nd rfl (.inl rfl) (pe_op op_cat (pv 1) (pe_call IH hr (by rfl) gF F.kp bF .nil pass0 (pa_cons (pv 2) pa_nil))))))
        (pss_one (ps_ret (pv 1))))), ?_⟩
      refine ⟨x, rfl, t, x, rfl, ht, _, rfl, ?_⟩
      cases t with
      | v i =>
        refine iteT ?_
        cases (show x = .int i from ht)
        exact ⟨_, rfl, (by show 1 ≤ sizeLine; decide), fun p n => q _ p (same_new (fun b o e => e) n _) n upd_same⟩
      | f nm ts =>
        obtain ⟨a, zs, rfl, sq, all⟩ := ht
        refine iteF ?_
        refine ⟨(by decide), fun p0 n0 => ?_⟩
        have k0 := TK.new n0 (.lst [])
        have sm0 : Same H (upd H p0 (.lst [])) := same_new (fun b o e => e) n0 _
        have m0 : (upd H p0 (.lst [])) p0 = some (.lst []) := upd_same
        replace sq := k0.sq sq
        replace all := Tms.mono k0 _ _ all
        generalize upd H p0 (.lst []) = H0 at sm0 m0 sq all
        refine ⟨.ref a, rfl, 1, rfl, a, _, rfl, sq, cut_args.1, fun p1 n1 => ?_⟩
        rw [cut_args.2]
        have sm1 : Same H (upd H0 p1 (.tup zs)) := same_new sm0 n1 _
        have m1 : (upd H0 p1 (.tup zs)) p1 = some (.tup zs) := upd_same
        have m01 : (upd H0 p1 (.tup zs)) p0 = some (.lst []) := by rw [upd_ne (ne_of_none m0 n1)]; exact m0
        replace all := Tms.mono (TK.new n1 (.tup zs)) _ _ all
        generalize upd H0 p1 (.tup zs) = H1 at sm1 m1 m01 all
        have lz := all.len
        have szu : T.size (.f nm ts) = 1 + T.sizeL ts := rfl
        refine ⟨p1, rfl, ⟨_, .inl (.inl m1)⟩, for_tup (K := K) (a := p1) (xs := zs) (fun i σ G => ∃ (d : Addr) (v2 : Option V), σ = [some (.ref a), some (.ref d), v2] ∧ Same H1 G ∧ H d = none ∧ G d = some (.lst ((T.varsL (ts.take i)).map V.int)))
          ⟨p0, none, rfl, fun b o e => e, n0, m01⟩ (fun i σ G _ ⟨_, _, _, sm, _⟩ => .inl (.inl (sm _ _ m1))) ?_ ?_⟩
        · rintro i y σ G hy ⟨d, v2, rfl, sm, nd, g⟩
          obtain ⟨u, hu, tu⟩ := (Tms.mono (TK.same sm) _ _ all).get hy
          have hm := List.mem_of_getElem? hu
          have d1 := T.dep_mem hm
          have d2 : T.dep (.f nm ts) = 1 + T.depL ts := rfl
          have d3 := T.size_mem hm
          refine ⟨.ref d, rfl, y, rfl, u, y, rfl, tu, by omega, by omega, fun G2 p2 sm2 n2 g2 => ⟨d, p2, _, _, rfl, rfl, sm2 _ _ g, g2, ?_, fun p3 n3 => ?_⟩⟩
          · have h1 := T.varsL_take ts i
            have h2 := T.vars_len u
            rw [List.length_map, List.length_map, sizeLine_eq]
            omega
          · have sm3 : Same H1 (upd G2 p3 (.lst ((T.varsL (ts.take i)).map V.int ++ u.vars.map V.int))) := fun b o e => by
              have e2 := sm2 _ _ (sm _ _ e)
              rw [upd_ne (ne_of_none e2 n3)]
              exact e2
            refine ⟨p3, _, rfl, sm3, ?_, ?_⟩
            · cases z : H p3 with
              | none => rfl
              | some o =>
                have e2 := sm2 _ _ (sm _ _ (sm1 _ _ z))
                rw [n3] at e2
                cases e2
            · rw [upd_same, List.take_add_one, hu, T.varsL_append, List.map_append]
              show some (HO.lst (_ ++ (u.vars).map V.int)) = some (HO.lst (_ ++ (u.vars ++ []).map V.int))
              rw [List.append_nil]
        · rintro σ G ⟨d, v2, rfl, sm, nd, g⟩
          rw [lz, List.take_length] at g
          exact ⟨_, rfl, q G d (fun b o e => sm _ _ (sm1 _ _ e)) nd g⟩
end
end Ad

namespace Ad
open PySem PySem.Spec PySem.Calls PyProof.Rows L2
abbrev sDPairs : Stmt := topS 19
theorem scDPairs : FnScope ["_law_pen_here", "_law_rows", "_law_variables", "_law_deep", "_law_known", "_law_variable"] ["_law_pen_here", "_law_rows", "_law_variables", "_law_deep"] (defScope sDPairs) := ⟨rfl, rfl, rfl, by decide +kernel, rfl, by decide +kernel, by decide +kernel⟩
section
variable {P : Program} {w : World} {K : PySem.W.Frag} {mg : Str → Option Value} {base : Heap}
theorem ok_dpairs {f fD fT fS : Addr} {fd fdD fdT fdS : FuncData} {k n : Nat} (F : Fun K "_law_drawn_pairs" "_law_drawn_pairs" sDPairs f fd)
    (GD : FnOk P w K mg base CX0 k fD fdD ["_law_pen_here", "_law_many"] Pn.spDraw) (gD : mg "_law_draw" = some (.ref fD)) (kD : PySem.W.keepIn K (.ref fD) = true) (bD : Binds K fdD ["_law_pen_here", "_law_many"] [])
    (GT : FnOk P w K mg base CX0 k fT fdT ["_law_pen_here", "_law_rows", "_law_deep", "_law_variables"] (spDrawn K n)) (gT : mg "_law_drawn_term" = some (.ref fT)) (kT : PySem.W.keepIn K (.ref fT) = true) (bT : Binds K fdT ["_law_pen_here", "_law_rows", "_law_deep", "_law_variables"] [])
    (GS : FnOk P w K mg base CX0 k fS fdS ["_law_known"] (spLPairs K)) (gS : mg "_law_pairs" = some (.ref fS)) (kS : PySem.W.keepIn K (.ref fS) = true) (bS : Binds K fdS ["_law_known"] []) (mr : mg "range" = none) :
    FnOk P w K mg base CX0 (k + 1) f fd ["_law_pen_here", "_law_rows", "_law_variables", "_law_deep"] (spDPairs K n) := by
  refine F.ok scDPairs (fun vs H Q E h => ?_) (fun cdv A outer s H vs Q E hr h => ?_)
  · obtain ⟨p, l, ra, ns, c, deep, nv, R, rfl, _⟩ := h
    rfl
  · obtain ⟨p, l, ra, ns, c, deep, nv, R, rfl, hP, hlen, hc, hR, ok, hd, hd50, hnv, q⟩ := h
    refine ⟨_, pss_cons (ps_set (i := 4) scDPairs.nd rfl (.inl rfl) pe_dnewK)
      (pss_cons (ps_for PassesOwn.never rfl (pi_range1 (by rfl) mr (pa_cons (pv 2) pa_nil)) (pg_name (i := 5) scDPairs.nd rfl (.inl rfl))
        (pss_one (ps_if (pt_cmpR op_eq (pe_call GD hr (by rfl) gD kD bD .nil pass0 (pa_cons (pv 0) (pa_cons pe_int pa_nil))) pe_int (nomark _))
          (pss_one (ps_dput (hu1 hr) (pv 4) (pv 5) (pe_call GT hr (by rfl) gT kT bT .nil pass0 (pa_cons (pv 0) (pa_cons (pv 1) (pa_cons (pe_call GD hr (by rfl) gD kD bD .nil pass0 (pa_cons (pv 0) (pa_cons (pe_op op_add (pv 3) pe_int) pa_nil))) (pa_cons (pv 2) pa_nil))))) rfl)) pss_nil)))
      (pss_one (ps_ret (pe_call GS hr (by rfl) gS kS bS .nil pass0 (pa_cons (pv 4) pa_nil))))), ?_⟩
    intro d nd0
    have sm0 : Same H (upd H d (.dK [])) := same_new (fun b o e => e) nd0 _
    have m0 : (upd H d (.dK [])) d = some (.dK []) := upd_same
    have P0 := pen_same hP sm0
    have b0 : Pn.But p H (upd H d (.dK [])) := Pn.But.of sm0
    have dp : d ≠ p := pen_kept hP nd0
    have d2 := two_dn deep
    generalize upd H d (.dK []) = H0 at sm0 m0 P0 b0
    refine ⟨.int (nv : Int), rfl, _, rfl, by omega, by omega, for_range (lo := 0) (n := ((nv : Int)).toNat) (fun i σ G => ∃ (v5 : Option V) (tb : Sb) (kvs : List (L2.Key × V)) (c1 : Nat), σ = [some (.ref p), some (.ref ra), some (.int (nv : Int)), some (.int (deep : Int)), some (.ref d), v5] ∧ Pn.Pen G p l ns c1 ∧ c1 ≤ c + i * (2 + dn deep) ∧ Pn.But p H G ∧
      G d = some (.dK kvs) ∧ TV K G tb kvs ∧ (tb.map (·.1)).Nodup ∧ tb.length ≤ i ∧ ∀ e ∈ tb, 0 ≤ e.1 ∧ e.1 < (i : Int) ∧ DT R deep nv e.2) ⟨none, [], [], c, rfl, P0, by omega, b0, m0, rfl, List.nodup_nil, Nat.le_refl _, fun e he => nomatch he⟩ ?_ ?_⟩
    · rintro i σ G hi ⟨v5, tb, kvs, c1, rfl, P1, hc1, b1, gd0, tv, nd, few, each⟩
      have hi' : i < nv := by omega
      have hm : i * (2 + dn deep) + (2 + dn deep) ≤ nv * (2 + dn deep) := by
        rw [← Nat.succ_mul]
        exact Nat.mul_le_mul_right _ hi'
      have step : (i + 1) * (2 + dn deep) = i * (2 + dn deep) + (2 + dn deep) := Nat.succ_mul _ _
      refine ⟨.ref p, rfl, p, l, ns, c1, 2, rfl, P1, hlen, by omega, by decide, by decide, fun r G2 r0 r1 P2 b2 => ⟨rfl, _, rfl, ?_⟩⟩
      have tv2 := tv.mono (pen_tk P1 b2)
      have gd2 := b2 _ _ dp gd0
      refine ite2 (fun _ => ?_) (fun _ => ?_)
      · refine ⟨.ref p, rfl, .ref ra, rfl, .ref p, rfl, .int (deep : Int), rfl, _, _, rfl, rfl, p, l, ns, c1 + 1, (deep : Int) + 1, rfl, P2, hlen, by omega, by omega, by omega, fun r2 G3 r20 r21 P3 b3 => ?_⟩
        obtain ⟨e', rfl⟩ : ∃ e' : Nat, r2 = (e' : Int) := ⟨r2.toNat, by omega⟩
        have he' : e' ≤ deep := by omega
        have dm := dn_mono he'
        have b13 := (b1.trans b2).trans b3
        refine ⟨.int (nv : Int), rfl, p, l, ra, ns, c1 + 1 + 1, e', (nv : Int), R, rfl, P3, hlen, by omega, hR.mono (pen_tk hP b13), ok, by omega, by omega, by omega, fun t v G4 c4 tv4 dt hc4 P4 b4 => ?_⟩
        have gd4 := b4 _ _ dp (b3 _ _ dp gd2)
        have tvs4 := (tv2.mono (pen_tk P2 b3)).mono (pen_tk P3 b4)
        have lk := tvs4.len
        refine ⟨.ref d, rfl, .int (0 + (i : Int)), rfl, d, _, rfl, DPut.k (k := Sum.inl (0 + (i : Int))) gd4 (by rw [sizeLine_eq]; omega), ?_⟩
        have kA := dk_tk gd4 (.dK (putK kvs (.inl (0 + (i : Int))) v))
        refine ⟨_, tb.put (0 + (i : Int)) t, _, c4, rfl, pen_on hP nd0 P4 _, by omega, but_on (b13.trans b4) nd0 _, upd_same, (tvs4.mono kA).put _ (Tm.mono kA _ _ tv4), Sb.nodup_put nd _ _, ?_, ?_⟩
        · have := Sb.len_put tb (0 + (i : Int)) t
          omega
        · intro e he
          rcases Sb.mem_put he with z | z
          · rw [z]
            exact ⟨(by show 0 ≤ 0 + (i : Int); omega), (by show 0 + (i : Int) < ((i + 1 : Nat) : Int); omega), dt.mono he'⟩
          · obtain ⟨z1, z2, z3⟩ := each e z
            exact ⟨z1, by omega, z3⟩
      · refine ⟨_, tb, kvs, c1 + 1, rfl, P2, by omega, b1.trans b2, gd2, tv2, nd, by omega, fun e he => ?_⟩
        obtain ⟨z1, z2, z3⟩ := each e he
        exact ⟨z1, by omega, z3⟩
    · rintro σ G ⟨v5, tb, kvs, c1, rfl, P1, hc1, b1, gd0, tv, nd, few, each⟩
      have e0 : ((nv : Int)).toNat = nv := Int.toNat_natCast _
      rw [e0] at hc1 few each
      refine ⟨.ref d, rfl, d, tb, kvs, rfl, gd0, tv, nd, by omega, fun e he => ⟨(each e he).2.2.named, Nat.le_trans (each e he).2.2.dep (by omega)⟩, fun su x H' nm suz s' => ?_⟩
      exact q su x H' c1 ⟨nm.rising, fun e he => each e (Sb.look_mem ((nm.has e.1 e.2).1 he).1)⟩ suz (by omega) (pen_same P1 s') (b1.trans (Pn.But.of s'))
end
end Ad

namespace Ad
open PySem PySem.Spec PySem.Calls PyProof.Rows L2 GxR
abbrev sLPairs : Stmt := topS 17
theorem scLPairs : FnScope ["_law_known", "_law_variable"] ["_law_known"] (defScope sLPairs) := ⟨rfl, rfl, rfl, by decide +kernel, rfl, by decide +kernel, by decide +kernel⟩
section
variable {P : Program} {w : World} {K : PySem.W.Frag} {mg : Str → Option Value} {base : Heap}
theorem ok_lpairs {f : Addr} {fd : FuncData} {k : Nat} (F : Fun K "_law_pairs" "_law_pairs" sLPairs f fd) (mt : mg "tuple" = none) (ms : mg "sorted" = none) (ml : mg "list" = none) : FnOk P w K mg base CX0 (k + 1) f fd ["_law_known"] (spLPairs K) := by
  refine F.ok scLPairs (fun vs H Q E h => ?_) (fun cdv A outer s H vs Q E hr h => ?_)
  · obtain ⟨d, tb, kvs, rfl, _⟩ := h
    rfl
  · obtain ⟨d, tb, kvs, rfl, hd, tv, nd, few, good, q⟩ := h
    refine ⟨_, pss_one (ps_ret (pe_callTy Dt.call_tuple0 (by rfl) mt (by decide +kernel) (pa_cons
      (pe_lc (own := [("_law_variable", 1)]) (g := gName 1) (tt := tTest (tOp (rNeD K) (tDGet (tVar 0) (tVar 1)) (tVar 1))) (te := tTup (tCons (tVar 1) (tCons (tDGet (tVar 0) (tVar 1)) tNil))) rfl scLPairs.nd
        (pi_list (pe_callB cr_sorted (by rfl) ms (by decide +kernel) (pa_cons (pe_callTy (call_list_dK rfl) (by rfl) ml (by decide +kernel) (pa_cons (pv 0) pa_nil)) pa_nil)))
        (blkOk_by (N := ["_law_known", "_law_variable"]) (sc := defScope sLPairs) (by decide +kernel)) (fun _ _ _ _ _ => pg_name (i := 1) scLPairs.nd rfl (.inl rfl))
        (fun _ _ _ _ _ => pts_one (pt_cmpR (r := rNeD K) (op_neD (hu64 hr)) (pe_dget (hu1 hr) (pv 0) (pv 1) (fun _ _ => rfl)) (pv 1) (nomark _)))
        (fun _ _ _ _ _ => pe_tup (pa_cons (pv 1) (pa_cons (pe_dget (hu1 hr) (pv 0) (pv 1) (fun _ _ => rfl)) pa_nil)))) pa_nil))), ?_⟩
    refine ⟨.ref d, rfl, d, kvs, rfl, hd, fun p0 n0 => ?_⟩
    have keys : (kvs.map fun kv => kV kv.1) = (tb.map (·.1)).map V.int := by
      have e : (kvs.map fun kv => kV kv.1) = (kvs.map (·.1)).map kV := by rw [List.map_map]; rfl
      rw [e, tv.keys, List.map_map]
      rfl
    rw [keys]
    have sm0 : Same H (upd H p0 (.lst ((tb.map (·.1)).map V.int))) := same_new (fun b o e => e) n0 _
    have m0 : (upd H p0 (.lst ((tb.map (·.1)).map V.int))) p0 = some (.lst ((tb.map (·.1)).map V.int)) := upd_same
    generalize upd H p0 (.lst ((tb.map (·.1)).map V.int)) = H0 at sm0 m0
    refine ⟨p0, _, rfl, .inl (.inl m0), by rw [List.length_map]; exact few, fun ks p perm le np => ⟨p, rfl, ⟨_, .inl (.inl upd_same)⟩, fun D nD => ?_⟩⟩
    have rising : ks.Pairwise (· < ·) := by
      have nd2 : ks.Nodup := perm.nodup_iff.mpr nd
      exact (le.and nd2).imp fun {a b} h => by
        obtain ⟨h1, h2⟩ := h
        omega
    have all : ∀ i, i ∈ ks ↔ i ∈ tb.map (·.1) := fun i => perm.mem_iff
    have sm1 : Same H (upd H0 p (.lst (ks.map V.int))) := same_new sm0 np _
    have m1 : (upd H0 p (.lst (ks.map V.int))) p = some (.lst (ks.map V.int)) := upd_same
    generalize upd H0 p (.lst (ks.map V.int)) = H1 at sm1 m1 nD ⊢
    have nD' : H D = none := by
      cases z : H D with
      | none => rfl
      | some o =>
        rw [sm1 _ _ z] at nD
        cases nD
    refine lc_list (K := K) (a := p) (xs := ks.map V.int) (fun i G => ∃ ys, Same H1 G ∧ G D = some (.lst ys) ∧ F2 (fun e y => ∃ b, y = V.ref b ∧ SP K G e b) (tb.sel (ks.take i)) ys) ⟨[], same_new (fun b o e => e) nD _, upd_same, rfl⟩ (fun i G _ ⟨_, sm, _⟩ => .inl (.inl (sm _ _ m1))) ?_ ?_
    · rintro i x G hx ⟨ys, sm, gD, done⟩
      have hlt : i < ks.length := by
        have := (List.getElem?_eq_some_iff.mp hx).1
        rwa [List.length_map] at this
      have hk : ks[i]? = some ks[i] := List.getElem?_eq_getElem hlt
      rw [List.getElem?_map, hk] at hx
      cases hx
      generalize ks[i] = v at hk
      have smH : Same H G := fun b o e => sm _ _ (sm1 _ _ e)
      obtain ⟨t, u, lk, val, tu⟩ := (tv.mono (TK.same smH)).at ((all v).1 (List.mem_of_getElem? hk))
      have get : DGet G d (kV (.inl v)) (some u) := by
        have z : DGet G d (kV (.inl v)) (valV kvs (.inl v)) := DGet.k (smH _ _ hd)
        rw [val] at z
        exact z
      obtain ⟨n1, n2⟩ := good (v, t) (Sb.look_mem lk)
      have n2' : t.dep ≤ 60 := n2
      refine ⟨rfl, .ref d, rfl, .int v, rfl, d, u, rfl, get, .int v, rfl, t.d, .int v, Tm.dp _ _ tu, .int v, T.shaped n1 (by omega), int_shaped v, _, rfl, ?_⟩
      rw [T.eqv_var]
      have st := Sb.sel_take (tb := tb) hk
      cases hv : t.isVar v with
      | true =>
        refine iteF ?_
        refine ⟨ys, sm, gD, ?_⟩
        have pk : tb.pick v = none := by
          unfold Sb.pick
          rw [lk]
          exact if_pos hv
        rw [st, pk, List.append_nil]
        exact done
      | false =>
        refine iteT ?_
        have pk : tb.pick v = some (v, t) := Sb.pick_iff.2 ⟨rfl, lk, hv⟩
        refine ⟨.int v, rfl, .ref d, rfl, .int v, rfl, d, u, rfl, get, (by show 2 ≤ sizeLine; decide), fun b nb => ?_⟩
        have ls : (tb.sel (ks.take i)).length ≤ i := by
          have := List.length_filterMap_le tb.pick (ks.take i)
          rw [List.length_take] at this
          unfold Sb.sel
          omega
        have ly := done.len
        have lks := perm.length_eq
        rw [List.length_map] at lks
        have sb : Same G (upd G b (.tup [.int v, u])) := same_new (fun b o e => e) nb _
        have gD' := sb _ _ gD
        have kd : TK (upd G b (.tup [.int v, u])) (upd (upd G b (.tup [.int v, u])) D (.lst (ys ++ [.ref b]))) := TK.lst gD' _
        have smb : Same H1 (upd G b (.tup [.int v, u])) := fun b o e => sb _ _ (sm _ _ e)
        have kb := (TK.same sb).trans kd
        have atb : (upd (upd G b (.tup [.int v, u])) D (.lst (ys ++ [.ref b]))) b = some (.tup [.int v, u]) := (kd _ _).1 upd_same
        refine ⟨ys, gD', by rw [sizeLine_eq]; omega, ys ++ [.ref b], same_on smb nD _, upd_same, ?_⟩
        rw [st, pk]
        exact F2.app (F2.mono (fun e y ⟨b', e', z⟩ => ⟨b', e', SP.mono kb _ _ z⟩) done) (F2.one ⟨b, rfl, u, .inl (.inl atb), Tm.mono kb _ _ tu⟩)
    · rintro G ⟨ys, sm, gD, done⟩
      rw [List.length_map, List.take_length] at done
      refine ⟨D, ys, rfl, .inl (.inl gD), fun z o nz od => ?_⟩
      obtain ⟨bs, rfl, fb⟩ : ∃ bs, ys = bs.map V.ref ∧ F2 (SP K G) (tb.sel ks) bs := by
        have key : ∀ (es : Sb) (ys : List V), F2 (fun e y => ∃ b, y = V.ref b ∧ SP K G e b) es ys → ∃ bs, ys = bs.map V.ref ∧ F2 (SP K G) es bs := by
          intro es
          induction es with
          | nil =>
            intro ys h
            cases (show ys = [] from h)
            exact ⟨[], rfl, rfl⟩
          | cons e es ih =>
            rintro ys ⟨y, r, rfl, ⟨b, rfl, sp⟩, rest⟩
            obtain ⟨bs, e1, e2⟩ := ih r rest
            exact ⟨b :: bs, by rw [e1]; rfl, b, bs, rfl, sp, e2⟩
        exact key _ _ done
      have kz : TK G (upd G z (.frz o (.tup (bs.map V.ref)))) := TK.new nz _
      have smH : Same H G := fun b o e => sm _ _ (sm1 _ _ e)
      exact q (tb.sel ks) _ _ (Sb.norm_sel rising all) ⟨z, bs, rfl, ⟨o, upd_same, od⟩, F2.mono (SP.mono kz) fb⟩ (same_new smH nz _)
end
end Ad

namespace Ad
open PySem PySem.Spec PySem.Calls PyProof.Rows L2
abbrev sDrawn : Stmt := topS 16
theorem scDrawn : FnScope ["_law_pen_here", "_law_rows", "_law_deep", "_law_variables", "_law_some", "_law_name", "_law_arity", "_law_weight", "_law_row", "_law_k"] ["_law_pen_here", "_law_rows", "_law_deep", "_law_variables"] (defScope sDrawn) := ⟨rfl, rfl, rfl, by decide +kernel, rfl, by decide +kernel, by decide +kernel⟩
section
variable {P : Program} {w : World} {K : PySem.W.Frag} {mg : Str → Option Value} {base : Heap}
theorem ok_drawn {f fD fP : Addr} {fd fdD fdP : FuncData} {k : Nat} (F : Fun K "_law_drawn_term" "_law_drawn_term" sDrawn f fd) (gF : mg "_law_drawn_term" = some (.ref f)) (bF : Binds K fd ["_law_pen_here", "_law_rows", "_law_deep", "_law_variables"] [])
    (GD : FnOk P w K mg base CX0 k fD fdD ["_law_pen_here", "_law_many"] Pn.spDraw) (gD : mg "_law_draw" = some (.ref fD)) (kD : PySem.W.keepIn K (.ref fD) = true) (bD : Binds K fdD ["_law_pen_here", "_law_many"] [])
    (GP : FnOk P w K mg base CX0 k fP fdP ["_law_pen_here", "_law_some"] (Pn.spPick K)) (gP : mg "_law_pick" = some (.ref fP)) (kP : PySem.W.keepIn K (.ref fP) = true) (bP : Binds K fdP ["_law_pen_here", "_law_some"] []) (mt : mg "tuple" = none) (mr : mg "range" = none) :
    ∀ n, FnOk P w K mg base CX0 (k + n) f fd ["_law_pen_here", "_law_rows", "_law_deep", "_law_variables"] (spDrawn K n)
  | 0 => vac fun vs H Q E ⟨p, l, ra, ns, c, deep, nv, R, _, _, _, _, _, _, z, _⟩ => absurd z (Nat.not_lt_zero _)
  | n + 1 => by
    have IH := ok_drawn F gF bF GD gD kD bD GP gP kP bP mt mr n
    refine F.ok scDrawn (fun vs H Q E h => ?_) (fun cdv A outer s H vs Q E hr h => ?_)
    · obtain ⟨p, l, ra, ns, c, deep, nv, R, rfl, _⟩ := h
      rfl
    · obtain ⟨p, l, ra, ns, c, deep, nv, R, rfl, hP, hlen, hc, hR, ok, hd, nv0, nv1, q⟩ := h
      have hr0 := hr.mono (Nat.le_add_right k n)
      refine ⟨_, C8.pss_cut (ps_if (pw_and (pt_cmpR op_gt (pv 3) pe_int (nomark _)) (pw_and1 (pt_cmpR op_eq (pe_call GD hr0 (by rfl) gD kD bD .nil pass0 (pa_cons (pv 0) (pa_cons pe_int pa_nil))) pe_int (nomark _)))).pt
          (pss_one (ps_ret (pe_call GD hr0 (by rfl) gD kD bD .nil pass0 (pa_cons (pv 0) (pa_cons (pv 3) pa_nil))))) pss_nil)
        (pss_cons (ps_setLc (i := 4) (own := [("_law_row", 8)]) (g := gName 8) (tt := tOr (tTest (tOp (rI0 fun i j => .bl (decide (j < i))) (tVar 2) (tC (.int 0)))) (tTest (tOp rEq (tOp (rIxT K) (tVar 8) (tC (.int 1))) (tC (.int 0))))) (te := tVar 8) rfl scDrawn.nd rfl rfl (sw_true rfl rfl rfl (by decide +kernel))
            (pi_tup (pe_ix ix_tup (pv 1) pe_int (fun _ _ => rfl)))
            (blkOk_by (N := ["_law_pen_here", "_law_rows", "_law_deep", "_law_variables", "_law_some", "_law_name", "_law_arity", "_law_weight", "_law_row", "_law_k"]) (sc := defScope sDrawn) (by decide +kernel))
            (fun _ _ _ _ _ => pg_name (i := 8) scDrawn.nd rfl (.inl rfl))
            (fun _ _ _ _ _ => pts_one (pw_or (pt_cmpR op_gt (pv 2) pe_int (nomark _)) (pw_or1 (pt_cmpR op_eq (pe_ix (r := rIxT K) ix_tup (pv 8) pe_int (fun _ _ => rfl)) pe_int (nomark _)))).pt)
            (fun _ _ _ _ _ => pv 8))
        (pss_cons (ps_asg (pe_call GP hr0 (by rfl) gP kP bP .nil pass0 (pa_cons (pv 0) (pa_cons (pv 4) pa_nil))) (pg_tup rfl (pgs_cons (pg_name (i := 5) scDrawn.nd rfl (.inl rfl)) (pgs_cons (pg_name (i := 6) scDrawn.nd rfl (.inl rfl)) (pgs_cons (pg_name (i := 7) scDrawn.nd rfl (.inl rfl)) pgs_nil)))))
        (pss_one (ps_ret (pe_op op_catT (pe_tup (pa_cons (pv 5) pa_nil)) (pe_callTy call_tuple_of (by rfl) mt (by decide +kernel) (pa_cons
          (pe_lc (own := [("_law_k", 9)]) (g := gName 9) (tt := tYes) rfl scDrawn.nd (pi_range1 (by rfl) mr (pa_cons (pv 6) pa_nil))
            (blkOk_by (N := ["_law_pen_here", "_law_rows", "_law_deep", "_law_variables", "_law_some", "_law_name", "_law_arity", "_law_weight", "_law_row", "_law_k"]) (sc := defScope sDrawn) (by decide +kernel))
            (fun _ _ _ _ _ => pg_name (i := 9) scDrawn.nd rfl (.inl rfl)) (fun _ _ _ _ _ => pts_nil)
            (fun _ _ _ _ _ => pe_call IH hr (by rfl) gF F.kp bF .nil pass0 (pa_cons (pv 0) (pa_cons (pv 1) (pa_cons (pe_op op_sub (pv 2) pe_int) (pa_cons (pv 3) pa_nil)))))) pa_nil))))))), ?_⟩
      refine ⟨fun σ G => ∃ c1, σ = [some (.ref p), some (.ref ra), some (.int (deep : Int)), some (.int nv), none, none, none, none, none, none] ∧ c1 ≤ c + 1 ∧ Pn.Pen G p l ns c1 ∧ Pn.But p H G, ?_, ?_⟩
      · have d2 := two_dn deep
        refine ⟨.int nv, rfl, nv, 0, rfl, rfl, _, rfl, ?_⟩
        refine ite2 (fun hpos => ?_) (fun _ => ?_)
        · have hpos' : 0 < nv := of_decide_eq_true hpos
          refine ⟨.ref p, rfl, p, l, ns, c, 3, rfl, hP, hlen, by omega, by decide, by decide, fun r G r0 r1 P1 b1 => ⟨rfl, _, rfl, ?_⟩⟩
          refine ite2 (fun _ => ?_) (fun _ => ?_)
          · refine ⟨.ref p, rfl, .int nv, rfl, p, l, ns, c + 1, nv, rfl, P1, hlen, by omega, by omega, by omega, fun r' G' r0' r1' P2 b2 => ?_⟩
            refine q (.v r') _ G' (c + 1 + 1) rfl ⟨rfl, Nat.zero_le _, one_sz _, fun j hj => ?_, True.intro⟩ (by omega) P2 (b1.trans b2)
            cases List.mem_singleton.mp hj
            exact ⟨r0', r1'⟩
          · exact ⟨c + 1, rfl, Nat.le_refl _, P1, b1⟩
        · exact ⟨c, rfl, Nat.le_succ _, hP, Pn.But.refl _ _⟩
      · rintro σ G ⟨c1, rfl, hc1, P1, b1⟩
        have hR1 := hR.mono (pen_tk hP b1)
        obtain ⟨rb, ry, rs, q1, q2, rows⟩ := hR1
        refine ⟨.ref ra, rfl, ra, _, 0, .ref rb, rfl, rfl, q1, atI_nat (j := 0) rfl, rb, rfl, ⟨rs, q2⟩, fun D nD => ?_⟩
        have lrs := rows.len
        obtain ⟨jc, rc, hjc, rc0⟩ := ok.const
        refine lc_tup (K := K) (a := rb) (xs := rs) (fun i G2 => ∃ acc, Same G G2 ∧ G2 D = some (.lst acc) ∧ (∀ v ∈ acc, ∃ r ∈ R, RowV K G r v ∧ (0 < deep ∨ r.2.1 = 0)) ∧ acc.length ≤ i ∧ (jc < i → acc ≠ [])) ⟨[], same_new (fun b o e => e) nD _, upd_same, (fun v hv => nomatch hv), Nat.le_refl _, fun z => absurd z (Nat.not_lt_zero _)⟩
          (fun i G2 _ ⟨acc, sm, _⟩ => (TK.same sm).sq q2) ?_ ?_
        · rintro i y G2 hy ⟨acc, sm, gD, mem, few, full⟩
          obtain ⟨r, hri, hrv⟩ := rows.get hy
          have hmem := List.mem_of_getElem? hri
          have hilt := (List.getElem?_eq_some_iff.mp hri).1
          have hfew := ok.few
          have yes : (0 < deep ∨ r.2.1 = 0) → ∃ acc', G2 D = some (.lst acc') ∧ acc'.length < sizeLine ∧ ∃ acc2, Same G (upd G2 D (.lst (acc' ++ [y]))) ∧ (upd G2 D (.lst (acc' ++ [y]))) D = some (.lst acc2) ∧ (∀ v ∈ acc2, ∃ r ∈ R, RowV K G r v ∧ (0 < deep ∨ r.2.1 = 0)) ∧ acc2.length ≤ i + 1 ∧ (jc < i + 1 → acc2 ≠ []) := by
            intro fit
            refine ⟨acc, gD, by rw [sizeLine_eq]; omega, _, same_on sm nD _, upd_same, fun v hv => ?_, ?_, fun _ => by simp⟩
            · rcases List.mem_append.mp hv with z | z
              · exact mem v z
              · cases List.mem_singleton.mp z
                exact ⟨r, hmem, hrv, fit⟩
            · rw [List.length_append, List.length_singleton]
              omega
          refine ⟨rfl, .int (deep : Int), rfl, _, _, rfl, rfl, _, rfl, ?_⟩
          refine ite2 (fun hpos => ?_) (fun hneg => ?_)
          · have hpos' : (0 : Int) < (deep : Int) := of_decide_eq_true hpos
            refine iteT ?_
            exact ⟨y, rfl, yes (.inl (by omega))⟩
          · obtain ⟨b, rfl, sqb⟩ := hrv
            refine ⟨.ref b, rfl, b, _, 1, .int (r.2.1 : Int), rfl, rfl, (TK.same sm).sq sqb, atI_nat (j := 1) rfl, rfl, _, rfl, ?_⟩
            by_cases z : r.2.1 = 0
            · have e : decide (V.int (r.2.1 : Int) = V.int 0) = true := by rw [z]; rfl
              rw [e]
              refine iteT ?_
              exact ⟨.ref b, rfl, yes (.inr z)⟩
            · have e : decide (V.int (r.2.1 : Int) = V.int 0) = false := by
                refine decide_eq_false fun w => z ?_
                have := V.int.inj w
                omega
              rw [e]
              refine iteF ?_
              refine ⟨acc, sm, gD, mem, Nat.le_succ_of_le few, fun lt => ?_⟩
              rcases Nat.lt_succ_iff_lt_or_eq.mp lt with w | w
              · exact full w
              · rw [← w, hjc] at hri
                cases hri
                exact absurd rc0 z
        · rintro G2 ⟨acc, sm, gD, mem, few, full⟩
          have hne : acc ≠ [] := full (by
            rw [lrs]
            exact (List.getElem?_eq_some_iff.mp hjc).1)
          have P2 := pen_same P1 sm
          have pD : D ≠ p := fun z => by
            obtain ⟨⟨_, _, _, e, _⟩, _⟩ := P1
            rw [z, e] at nD
            cases nD
          have d2 := two_dn deep
          have hfew := ok.few
          refine ⟨.ref p, rfl, .ref D, rfl, p, l, D, ns, c1, acc, rfl, P2, hlen, by omega, .inl (.inl (.inl gD)), hne, by omega, pD, fun x G3 hx P3 b3 => ?_⟩
          obtain ⟨r, hrR, ⟨b, rfl, sqb⟩, fit⟩ := mem x hx
          have k3 : TK G G3 := (TK.same sm).trans (pen_tk P2 b3)
          have hR3 := hR.mono ((pen_tk hP b1).trans k3)
          have b13 : Pn.But p H G3 := (b1.trans (Pn.But.of sm)).trans b3
          refine ⟨b, _, rfl, k3.sq sqb, rfl, .str r.1, _, rfl, .int (r.2.1 : Int), _, rfl, .int r.2.2, _, rfl, rfl, ?_⟩
          obtain ⟨strOk, ar3⟩ := ok.names r hrR
          refine ⟨.str r.1, rfl, (by show 1 ≤ sizeLine; decide), fun p4 n4 => ?_⟩
          have m4 : (upd G3 p4 (.tup [.str r.1])) p4 = some (.tup [.str r.1]) := upd_same
          have s4 : Same G3 (upd G3 p4 (.tup [.str r.1])) := same_new (fun b o e => e) n4 _
          have P4 := pen_same P3 s4
          have R4 := hR3.mono (TK.same s4)
          have b14 := b13.trans (Pn.But.of s4)
          generalize upd G3 p4 (.tup [.str r.1]) = G4 at m4 s4 P4 R4 b14
          refine ⟨.int (r.2.1 : Int), rfl, _, rfl, by omega, by omega, fun D2 nD2 => ?_⟩
          have pD2 : D2 ≠ p := fun z => by
            obtain ⟨⟨_, _, _, e, _⟩, _⟩ := P4
            rw [z, e] at nD2
            cases nD2
          have P4' := pen_same P4 (same_new (fun b o e => e) nD2 (.lst []))
          refine lc_range (lo := 0) (n := ((r.2.1 : Int)).toNat) (fun i G5 => ∃ (ts : List T) (acc : List V) (c5 : Nat), Pn.But p G4 G5 ∧ G5 D2 = some (.lst acc) ∧ Tms K G5 ts acc ∧ ts.length = i ∧ Pn.Pen G5 p l ns c5 ∧ c5 ≤ c1 + 1 + i * dn (deep - 1) ∧
            (∀ t ∈ ts, DT R (deep - 1) nv t)) ⟨[], [], c1 + 1, Pn.But.of (same_new (fun b o e => e) nD2 _), upd_same, rfl, rfl, P4', by omega, fun t ht => nomatch ht⟩ ?_ ?_
          · rintro i G5 hi ⟨ts, acc, c5, b5, gD, all, len, P5, hc5, dts⟩
            have hi' : i < r.2.1 := by omega
            have dpos : 0 < deep := by
              rcases fit with z | z
              · exact z
              · omega
            obtain ⟨d', rfl⟩ : ∃ d', deep = d' + 1 := ⟨deep - 1, by omega⟩
            have ed : d' + 1 - 1 = d' := Nat.add_sub_cancel ..
            rw [ed] at hc5 dts
            have hm : i * dn d' ≤ 2 * dn d' := Nat.mul_le_mul_right _ (by omega)
            have dd : dn (d' + 1) = 2 + 3 * dn d' := rfl
            have ez : (((d' + 1 : Nat)) : Int) - 1 = (d' : Int) := by omega
            have b45 := b14.trans b5
            refine ⟨rfl, .ref p, rfl, .ref ra, rfl, .int ((d' + 1 : Nat) : Int), rfl, _, _, rfl, rfl, .int nv, rfl, p, l, ra, ns, c5, d', nv, R, ?_, P5, hlen, by omega, hR.mono (pen_tk hP b45), ok, by omega, nv0, nv1, fun t v G6 c6 tv dt hc6 P6 b6 => ?_⟩
            · show [V.ref p, V.ref ra, V.int (((d' + 1 : Nat) : Int) - 1), V.int nv] = _
              rw [ez]
            · have g6 : G6 D2 = some (.lst acc) := b6 _ _ pD2 gD
              have k6 : TK G5 G6 := pen_tk P5 b6
              have kl : TK G6 (upd G6 D2 (.lst (acc ++ [v]))) := TK.lst g6 _
              have la := all.len
              refine ⟨acc, g6, by rw [sizeLine_eq]; omega, ts ++ [t], acc ++ [v], c6, ?_, upd_same, Tms.app (Tms.mono (k6.trans kl) _ _ all) (Tms.one (Tm.mono kl _ _ tv)), by rw [List.length_append, List.length_singleton, len], ?_, ?_, ?_⟩
              · intro b o nb e
                have e2 := b6 _ _ nb (b5 _ _ nb e)
                have nbD : b ≠ D2 := fun z => by rw [z, nD2] at e; cases e
                rw [upd_ne nbD]
                exact e2
              · obtain ⟨⟨a1, a2, a3, a4, a5⟩, a6⟩ := P6
                have lD : l ≠ D2 := fun z => by
                  have e := P4.ls
                  rw [z, nD2] at e
                  cases e
                exact ⟨⟨a1, a2, a3, by rw [upd_ne pD2.symm]; exact a4, a5⟩, by rw [upd_ne lD]; exact a6⟩
              · rw [ed, Nat.succ_mul]
                omega
              · intro t' ht'
                rw [ed]
                rcases List.mem_append.mp ht' with z | z
                · exact dts t' z
                · rw [List.mem_singleton.mp z]
                  exact dt
          · rintro G5 ⟨ts, acc, c5, b5, gD, all, len, P5, hc5, dts⟩
            have b45 := b14.trans b5
            have la := all.len
            have ar : ts.length = r.2.1 := by omega
            have n4p : p4 ≠ p := fun z => by
              obtain ⟨⟨_, _, _, e, _⟩, _⟩ := P3
              rw [z, e] at n4
              cases n4
            have m4' : G5 p4 = some (.tup [.str r.1]) := b5 _ _ n4p m4
            refine ⟨D2, acc, rfl, .inl ⟨.inl (.inl gD), fun p6 n6 => ?_⟩⟩
            have s6 : Same G5 (upd G5 p6 (.tup acc)) := same_new (fun b o e => e) n6 _
            have m6 : (upd G5 p6 (.tup acc)) p6 = some (.tup acc) := upd_same
            have P6 := pen_same P5 s6
            have b16 := b45.trans (Pn.But.of s6)
            have all6 := Tms.mono (TK.same s6) _ _ all
            have m4'' := s6 _ _ m4'
            generalize upd G5 p6 (.tup acc) = G6 at s6 m6 P6 b16 all6 m4''
            have dt : DT R deep nv (.f r.1 ts) ∧ c5 ≤ c + dn deep := by
              have named : ∀ us : List T, (∀ t ∈ us, t.named = true) → T.namedL us = true := by
                intro us
                induction us with
                | nil => intro _; rfl
                | cons u us ih =>
                  intro h
                  show (T.named u && T.namedL us) = true
                  rw [h u List.mem_cons_self, ih fun t ht => h t (List.mem_cons_of_mem _ ht)]
                  rfl
              have deps : ∀ (m : Nat) (us : List T), (∀ t ∈ us, t.dep ≤ m) → T.depL us ≤ m := by
                intro m us
                induction us with
                | nil => intro _; exact Nat.zero_le _
                | cons u us ih =>
                  intro h
                  have h1 := h u List.mem_cons_self
                  have h2 := ih fun t ht => h t (List.mem_cons_of_mem _ ht)
                  show max (T.dep u) (T.depL us) ≤ m
                  omega
              have sizes : ∀ (m : Nat) (us : List T), (∀ t ∈ us, t.size ≤ m) → T.sizeL us ≤ us.length * m := by
                intro m us
                induction us with
                | nil => intro _; exact Nat.zero_le _
                | cons u us ih =>
                  intro h
                  have h1 := h u List.mem_cons_self
                  have h2 := ih fun t ht => h t (List.mem_cons_of_mem _ ht)
                  show T.size u + T.sizeL us ≤ (us.length + 1) * m
                  rw [Nat.succ_mul]
                  omega
              have vars : ∀ us : List T, (∀ t ∈ us, ∀ j ∈ t.vars, 0 ≤ j ∧ j < nv) → ∀ j ∈ T.varsL us, 0 ≤ j ∧ j < nv := by
                intro us
                induction us with
                | nil => intro _ j hj; cases hj
                | cons u us ih =>
                  intro h j hj
                  rcases List.mem_append.mp (show j ∈ T.vars u ++ T.varsL us from hj) with z | z
                  · exact h u List.mem_cons_self j z
                  · exact ih (fun t ht => h t (List.mem_cons_of_mem _ ht)) j z
              have hs := sizes (sz (deep - 1)) ts fun t ht => (dts t ht).size
              have hv := vars ts fun t ht => (dts t ht).vars
              have hn := named ts fun t ht => (dts t ht).named
              have hd := deps (deep - 1 + 1) ts fun t ht => (dts t ht).dep
              cases deep with
              | zero =>
                have z : r.2.1 = 0 := by
                  rcases fit with y | y
                  · exact absurd y (Nat.lt_irrefl _)
                  · exact y
                have e : ts = [] := List.length_eq_zero_iff.mp (by omega)
                subst e
                have z2 : ((r.2.1 : Int)).toNat = 0 := by omega
                rw [z2] at hc5
                refine ⟨⟨?_, Nat.le_refl _, Nat.le_refl _, (fun j hj => nomatch hj), ⟨⟨r, hrR, rfl, ar.symm⟩, True.intro⟩⟩, ?_⟩
                · show (nameOk r.1 && true) = true
                  rw [strOk]
                  rfl
                · show c5 ≤ c + 2
                  omega
              | succ d' =>
                have ed : d' + 1 - 1 = d' := Nat.add_sub_cancel ..
                rw [ed] at hs hd hc5
                have hm : ts.length * sz d' ≤ 3 * sz d' := Nat.mul_le_mul_right _ (by omega)
                have hm2 : ((r.2.1 : Int)).toNat * dn d' ≤ 3 * dn d' := Nat.mul_le_mul_right _ (by omega)
                refine ⟨⟨?_, ?_, ?_, hv, ⟨⟨r, hrR, rfl, ar.symm⟩, Kb.wfL_of fun t ht => (dts t ht).wf⟩⟩, ?_⟩
                · show (nameOk r.1 && T.namedL ts) = true
                  rw [strOk, hn]
                  rfl
                · show 1 + T.depL ts ≤ d' + 1 + 1
                  omega
                · show 1 + T.sizeL ts ≤ 1 + 3 * sz d'
                  omega
                · show c5 ≤ c + (2 + 3 * dn d')
                  omega
            refine ⟨p4, p6, _, _, rfl, rfl, .inl (.inl m4''), .inl (.inl m6), by simp, by rw [List.length_singleton, sizeLine_eq]; omega, fun e => ?_, fun e p7 n7 => ?_⟩
            · refine q (.f r.1 ts) _ G6 c5 ⟨p4, acc, rfl, ?_, all6⟩ dt.1 dt.2 P6 b16
              rw [e]
              exact .inl (.inl m4'')
            · have s7 : Same G6 (upd G6 p7 (.tup ([.str r.1] ++ acc))) := same_new (fun b o e => e) n7 _
              exact q (.f r.1 ts) _ _ c5 ⟨p7, acc, rfl, .inl (.inl upd_same), Tms.mono (TK.same s7) _ _ all6⟩ dt.1 dt.2 (pen_same P6 s7) (b16.trans (Pn.But.of s7))
end
end Ad

namespace Ad
open PySem PySem.Spec PySem.Calls PyProof.Rows L2
abbrev sOrder : Stmt := topS 12
theorem scOrder : FnScope ["_law_pen_here", "_law_things", "_law_truths", "_law_rows", "_law_kind", "_law_blend", "_law_lap", "_law_name", "_law_arity"] ["_law_pen_here"] (defScope sOrder) := ⟨rfl, rfl, rfl, by decide +kernel, rfl, by decide +kernel, by decide +kernel⟩
section
variable {P : Program} {w : World} {K : PySem.W.Frag} {mg : Str → Option Value} {base : Heap}
theorem ok_order {f fD fP : Addr} {fd fdD fdP : FuncData} {k : Nat} (F : Fun K "_law_drawn_order" "_law_drawn_order" sOrder f fd)
    (GD : FnOk P w K mg base CX0 k fD fdD ["_law_pen_here", "_law_many"] Pn.spDraw) (gD : mg "_law_draw" = some (.ref fD)) (kD : PySem.W.keepIn K (.ref fD) = true) (bD : Binds K fdD ["_law_pen_here", "_law_many"] [])
    (GP : FnOk P w K mg base CX0 k fP fdP ["_law_pen_here", "_law_some"] (Pn.spPick K)) (gP : mg "_law_pick" = some (.ref fP)) (kP : PySem.W.keepIn K (.ref fP) = true) (bP : Binds K fdP ["_law_pen_here", "_law_some"] []) (mt : mg "tuple" = none) (mr : mg "range" = none) (mL : mg "list" = none) (ml : mg "len" = none) :
    FnOk P w K mg base CX0 (k + 1) f fd ["_law_pen_here"] (spOrder K) := by
  refine F.ok scOrder (fun vs H Q E h => ?_) (fun cdv A outer s H vs Q E hr h => ?_)
  · obtain ⟨p, l, ns, c, rfl, _⟩ := h
    rfl
  · obtain ⟨p, l, ns, c, rfl, hP, hlen, hc, q⟩ := h
    refine' ⟨_, C8.pss_cut ?s1 (C8.pss_cut ?s2 (C8.pss_cut ?s3 (pss_cons ?s4 (pss_cons ?s5 (pss_one ?s6))))), ?_⟩
    case s1 => exact (ps_set (i := 1) scOrder.nd rfl (.inl rfl) (pe_op op_cat (pe_op op_cat (pe_lst (pa_cons (pe_tup (pa_cons pe_str (pa_cons pe_int pa_nil))) (pa_cons (pe_tup (pa_cons pe_str (pa_cons pe_int pa_nil))) pa_nil)))
          (pe_ifExp (pt_cmpR op_eq (pe_call GD hr (by rfl) gD kD bD .nil pass0 (pa_cons (pv 0) (pa_cons pe_int pa_nil))) pe_int (nomark _)) (pe_lst (pa_cons (pe_tup (pa_cons pe_str (pa_cons pe_int pa_nil))) pa_nil)) (pe_lst pa_nil)))
          (pe_lst (pa_cons (pe_tup (pa_cons pe_str (pa_cons pe_int pa_nil))) pa_nil))))
    case s2 => exact (ps_set (i := 1) scOrder.nd rfl (.inl rfl) (pe_op op_cat (pv 1)
          (pe_ifExp (pt_cmpR op_eq (pe_call GD hr (by rfl) gD kD bD .nil pass0 (pa_cons (pv 0) (pa_cons pe_int pa_nil))) pe_int (nomark _)) (pe_lst (pa_cons (pe_tup (pa_cons pe_str (pa_cons pe_int pa_nil))) pa_nil)) (pe_lst pa_nil))))
    case s3 => exact (ps_set (i := 2) scOrder.nd rfl (.inl rfl) (pe_op op_cat (pe_lst (pa_cons (pe_tup (pa_cons pe_str (pa_cons pe_int pa_nil))) pa_nil))
          (pe_call GP hr (by rfl) gP kP bP .nil pass0 (pa_cons (pv 0) (pa_cons (pe_lst (pa_cons (pe_lst (pa_cons (pe_tup (pa_cons pe_str (pa_cons pe_int pa_nil))) pa_nil)) (pa_cons (pe_lst (pa_cons (pe_tup (pa_cons pe_str (pa_cons pe_int pa_nil))) pa_nil)) (pa_cons (pe_lst (pa_cons (pe_tup (pa_cons pe_str (pa_cons pe_int pa_nil))) (pa_cons (pe_tup (pa_cons pe_str (pa_cons pe_int pa_nil))) pa_nil))) pa_nil)))) pa_nil)))))
    case s4 => exact (ps_set (i := 3) scOrder.nd rfl (.inl rfl) (pe_lst pa_nil))
    case s5 => exact (ps_for PassesOwn.never rfl (pi_list (pe_lst (pa_cons (pv 1) (pa_cons (pv 2) pa_nil)))) (pg_name (i := 4) scOrder.nd rfl (.inl rfl))
        (pss_cons (ps_par (i := 4) (j := 5) (by rfl) scOrder.nd rfl rfl (by decide) rfl rfl (pa_cons (pe_callTy call_list_of (by rfl) mL (by decide +kernel) (pa_cons (pv 4) pa_nil)) (pa_cons (pe_lst pa_nil) pa_nil)) (by rfl))
        (pss_cons (ps_for PassesOwn.never rfl (pi_range1 (by rfl) mr (pa_cons (pe_callB call_len_seq (by rfl) ml PySem.boot_len (pa_cons (pv 4) pa_nil)) pa_nil)) (pg_name (i := 6) scOrder.nd rfl (.inl rfl))
          (pss_cons (ps_asg (pe_bm PySem.F.plainAttrs_list PySem.F.slot_list_pop PySem.F.type_list_pop mt_popAt (pv 4) (pa_cons (pe_call GD hr (by rfl) gD kD bD .nil pass0 (pa_cons (pv 0) (pa_cons (pe_callB call_len_seq (by rfl) ml PySem.boot_len (pa_cons (pv 4) pa_nil)) pa_nil))) pa_nil)) (pg_tup rfl (pgs_cons (pg_name (i := 7) scOrder.nd rfl (.inl rfl)) (pgs_cons (pg_name (i := 8) scOrder.nd rfl (.inl rfl)) pgs_nil))))
          (pss_one (ps_expr (pe_bm PySem.F.plainAttrs_list PySem.F.slot_list_append PySem.F.type_list_append mt_append (pv 5) (pa_cons (pe_tup (pa_cons (pv 7) (pa_cons (pv 8) (pa_cons (pe_call GP hr (by rfl) gP kP bP .nil pass0 (pa_cons (pv 0) (pa_cons (pe_lst (pa_cons pe_int (pa_cons pe_int (pa_cons pe_int pa_nil)))) pa_nil))) pa_nil)))) pa_nil))))))
        (pss_one (ps_expr (pe_bm PySem.F.plainAttrs_list PySem.F.slot_list_append PySem.F.type_list_append mt_append (pv 3) (pa_cons (pe_callTy call_tuple_of (by rfl) mt (by decide +kernel) (pa_cons (pv 5) pa_nil)) pa_nil)))))))
    case s6 => exact (ps_ret (pe_tup (pa_cons (pe_ix ix_list (pv 3) pe_int (fun _ _ => rfl)) (pa_cons (pe_ix ix_list (pv 3) pe_int (fun _ _ => rfl)) pa_nil))))
    refine ⟨fun σ G => ∃ (th : Addr) (R : List Pr) (c1 : Nat), σ = [some (.ref p), some (.ref th), none, none, none, none, none, none, none] ∧ LsP K G R th ∧ H th = none ∧ R ∈ [[(("a" : Str), 0), ("b", 0), ("c", 0), ("f", 1)], [("a", 0), ("b", 0), ("f", 1)]] ∧ Pn.Pen G p l ns c1 ∧ c1 ≤ c + 1 ∧ Pn.But p H G, ?_, ?_⟩
    · dsimp only [tAsg, tOp, tIf, tTest]
      refine lit_ls2 K (x := "a") (y := "b") (n := 0) (m := 0) fun a1 G1 s1 n1 L1 => ?_
      have P1 := pen_same hP s1
      refine ⟨.ref p, rfl, p, l, ns, c, 3, rfl, P1, hlen, by omega, by decide, by decide, fun r G2 r0 r1 P2 b2 => ⟨rfl, _, rfl, ?_⟩⟩
      have na := pen_kept hP n1
      replace L1 := LsP.but P1 b2 na L1
      have b12 : Pn.But p H G2 := (Pn.But.of s1).trans b2
      refine ite2 (fun _ => ?_) (fun _ => ?_)
      · refine lit_ls1 K (x := "c") (n := 0) fun a3 G3 s3 n3 L3 => ?_
        refine cat_prs (L1.same s3) L3 (by decide) fun a4 G4 s4 n4 L4 => ?_
        refine lit_ls1 K (x := "f") (n := 1) fun a5 G5 s5 n5 L5 => ?_
        refine cat_prs (L4.same s5) L5 (by decide) fun a6 G6 s6 n6 L6 => ?_
        have sm : Same G2 G5 := fun b o e => s5 b o (s4 b o (s3 b o e))
        have b5 := b12.trans (Pn.But.of sm)
        exact ⟨a6, _, c + 1, rfl, L6, fresh_back b5 (pen_same P2 sm) n6, by simp, pen_same (pen_same P2 sm) s6, Nat.le_refl _, b5.trans (Pn.But.of s6)⟩
      · refine lit_ls0 K fun a3 G3 s3 n3 L3 => ?_
        refine cat_prs (L1.same s3) L3 (by decide) fun a4 G4 s4 n4 L4 => ?_
        refine lit_ls1 K (x := "f") (n := 1) fun a5 G5 s5 n5 L5 => ?_
        refine cat_prs (L4.same s5) L5 (by decide) fun a6 G6 s6 n6 L6 => ?_
        have sm : Same G2 G5 := fun b o e => s5 b o (s4 b o (s3 b o e))
        have b5 := b12.trans (Pn.But.of sm)
        exact ⟨a6, _, c + 1, rfl, L6, fresh_back b5 (pen_same P2 sm) n6, by simp, pen_same (pen_same P2 sm) s6, Nat.le_refl _, b5.trans (Pn.But.of s6)⟩
    rintro σ G ⟨th, R, c1, rfl, LR, nth, hR, P1, hc1, b1⟩
    refine ⟨fun σ G => ∃ (th : Addr) (R : List Pr) (c1 : Nat), σ = [some (.ref p), some (.ref th), none, none, none, none, none, none, none] ∧ LsP K G R th ∧ H th = none ∧ R ∈ thingsB ∧ Pn.Pen G p l ns c1 ∧ c1 ≤ c + 2 ∧ Pn.But p H G, ?_, ?_⟩
    · dsimp only [tAsg, tOp, tIf, tTest]
      refine ⟨.ref th, rfl, .ref p, rfl, p, l, ns, c1, 2, rfl, P1, hlen, by omega, by decide, by decide, fun r G2 r0 r1 P2 b2 => ⟨rfl, _, rfl, ?_⟩⟩
      have na := pen_kept hP nth
      replace LR := LsP.but P1 b2 na LR
      have b12 : Pn.But p H G2 := b1.trans b2
      refine ite2 (fun _ => ?_) (fun _ => ?_)
      · refine lit_ls1 K (x := "g") (n := 2) fun a3 G3 s3 n3 L3 => ?_
        refine cat_prs (LR.same s3) L3 ?_ fun a4 G4 s4 n4 L4 => ?_
        · rcases List.mem_cons.mp hR with e | e
          · rw [e]; decide
          · rw [List.mem_singleton.mp e]; decide
        have b5 := b12.trans (Pn.But.of s3)
        refine ⟨a4, _, c1 + 1, rfl, L4, fresh_back b5 (pen_same P2 s3) n4, ?_, pen_same (pen_same P2 s3) s4, by omega, b5.trans (Pn.But.of s4)⟩
        rcases List.mem_cons.mp hR with e | e
        · rw [e]; decide
        · rw [List.mem_singleton.mp e]; decide
      · refine lit_ls0 K fun a3 G3 s3 n3 L3 => ?_
        refine cat_prs (LR.same s3) L3 ?_ fun a4 G4 s4 n4 L4 => ?_
        · rcases List.mem_cons.mp hR with e | e
          · rw [e]; decide
          · rw [List.mem_singleton.mp e]; decide
        have b5 := b12.trans (Pn.But.of s3)
        refine ⟨a4, _, c1 + 1, rfl, L4, fresh_back b5 (pen_same P2 s3) n4, ?_, pen_same (pen_same P2 s3) s4, by omega, b5.trans (Pn.But.of s4)⟩
        rcases List.mem_cons.mp hR with e | e
        · rw [e]; decide
        · rw [List.mem_singleton.mp e]; decide
    clear hR LR nth P1 hc1 b1 R th c1 G
    rintro σ G ⟨th, R, c1, rfl, LR, nth, hR, P1, hc1, b1⟩
    refine ⟨fun σ G => ∃ (tr : Addr) (S : List Pr) (c1 : Nat), σ = [some (.ref p), some (.ref th), some (.ref tr), none, none, none, none, none, none] ∧ LsP K G R th ∧ LsP K G S tr ∧ H tr = none ∧ S ∈ truthsB ∧ Pn.Pen G p l ns c1 ∧ c1 ≤ c + 3 ∧ Pn.But p H G, ?_, ?_⟩
    · dsimp only [tAsg, tOp, tCall]
      refine lit_ls1 K (x := "p") (n := 1) fun a1 G1 s1 n1 L1 => ?_
      refine ⟨.ref p, rfl, ?_⟩
      refine lit_truths K fun a2 G2 xs s2 n2 e2 len2 mem2 => ?_
      have sm : Same G G2 := fun b o e => s2 b o (s1 b o e)
      have P2 := pen_same P1 sm
      have na1 : a1 ≠ p := pen_kept P1 n1
      have na2 : a2 ≠ p := pen_kept (pen_same P1 s1) n2
      refine ⟨p, l, a2, ns, c1, xs, rfl, P2, hlen, by omega, .inl (.inl (.inl e2)), (by intro z; rw [z] at len2; cases len2), by omega, na2, fun x G3 hx P3 b3 => ?_⟩
      obtain ⟨b, S, rfl, nb, Lb, hS⟩ := mem2 x hx
      have nbp : b ≠ p := pen_kept (pen_same P1 s1) nb
      refine cat_prs (LsP.but P2 b3 na1 (L1.same s2)) (LsP.but P2 b3 nbp Lb) ?_ fun a4 G4 s4 n4 L4 => ?_
      · simp only [List.mem_cons, List.mem_nil_iff, or_false] at hS
        rcases hS with e | e | e <;> rw [e] <;> decide
      have b5 := (b1.trans (Pn.But.of sm)).trans b3
      refine ⟨a4, _, c1 + 1, rfl, ?_, L4, fresh_back b5 P3 n4, ?_, pen_same P3 s4, by omega, b5.trans (Pn.But.of s4)⟩
      · exact (LsP.but P2 b3 (pen_kept hP nth) (LR.same sm)).same s4
      · simp only [List.mem_cons, List.mem_nil_iff, or_false] at hS
        rcases hS with e | e | e <;> rw [e] <;> decide
    clear LR P1 hc1 b1 c1 G
    rintro σ G ⟨tr, S, c1, rfl, LR, LS, ntr, hS, P1, hc1, b1⟩
    refine ⟨by decide, fun rw nrw => ?_⟩
    have nrwH := fresh_back b1 P1 nrw
    have thrw : th ≠ rw := by
      obtain ⟨vs, e, _⟩ := LR
      exact ne_of_none e nrw
    have trrw : tr ≠ rw := by
      obtain ⟨vs, e, _⟩ := LS
      exact ne_of_none e nrw
    have s0 : Same G (upd G rw (.lst [])) := same_new (fun b o e => e) nrw _
    replace LR := LR.same s0
    replace LS := LS.same s0
    replace P1 := pen_same P1 s0
    replace b1 := b1.trans (Pn.But.of s0)
    have erw : (upd G rw (.lst [])) rw = some (.lst []) := upd_same
    clear s0 nrw
    generalize upd G rw (.lst []) = G0 at LR LS P1 b1 erw ⊢
    refine ⟨.ref th, rfl, .ref tr, rfl, (by show 2 ≤ sizeLine; decide), fun it nit => ⟨it, rfl, ⟨_, .inl (.inl upd_same)⟩, ?_⟩⟩
    have nitH := fresh_back b1 P1 nit
    have itrw : it ≠ rw := fun z => by rw [z, erw] at nit; cases nit
    have s0 : Same G0 (upd G0 it (.lst [.ref th, .ref tr])) := same_new (fun b o e => e) nit _
    replace LR := LR.same s0
    replace LS := LS.same s0
    replace P1 := pen_same P1 s0
    replace b1 := b1.trans (Pn.But.of s0)
    replace erw := s0 _ _ erw
    have eit : (upd G0 it (.lst [.ref th, .ref tr])) it = some (.lst [.ref th, .ref tr]) := upd_same
    clear s0 nit
    generalize upd G0 it (.lst [.ref th, .ref tr]) = G1 at LR LS P1 b1 erw eit ⊢
    have thp := pen_kept hP nth
    have trp := pen_kept hP ntr
    have rwp := pen_kept hP nrwH
    have itp := pen_kept hP nitH
    refine for_list (K := K) (a := it) (xs := [.ref th, .ref tr]) (fun i σ G => ∃ (v4 v5 v6 v7 v8 : Option V) (c2 : Nat) (rvs : List V), σ = [some (.ref p), some (.ref th), some (.ref tr), some (.ref rw), v4, v5, v6, v7, v8] ∧ Pn.Pen G p l ns c2 ∧ c2 ≤ c + 3 + i * 10 ∧ Pn.But p H G ∧ LsP K G R th ∧ LsP K G S tr ∧
      G rw = some (.lst rvs) ∧ F2 (KdV K G) ([R, S].take i) rvs ∧ G it = some (.lst [.ref th, .ref tr])) ⟨none, none, none, none, none, c1, [], rfl, P1, by omega, b1, LR, LS, erw, rfl, eit⟩ (fun i σ G _ ⟨_, _, _, _, _, _, _, _, _, _, _, _, _, _, _, e⟩ => .inl (.inl e)) ?_ ?_
    · clear LR LS P1 b1 erw eit G1 G0 hc1 c1 G
      rintro i x σ G hx ⟨v4, v5, v6, v7, v8, c2, rvs, rfl, P2, hc2, b2, LR, LS, erw, frw, eit⟩
      obtain ⟨kd0, B, hB, rfl, LB, nkp, hlt, fewB⟩ : ∃ kd0 B, [R, S][i]? = some B ∧ x = .ref kd0 ∧ LsP K G B kd0 ∧ kd0 ≠ p ∧ i < 2 ∧ B.length ≤ 5 := by
        match i, hx with
        | 0, hx =>
          refine ⟨th, R, rfl, (Option.some.inj hx).symm, LR, thp, by omega, ?_⟩
          have : (thingsB.all fun B => decide (B.length ≤ 5)) = true := by decide
          exact of_decide_eq_true (List.all_eq_true.mp this R hR)
        | 1, hx =>
          refine ⟨tr, S, rfl, (Option.some.inj hx).symm, LS, trp, by omega, ?_⟩
          have : (truthsB.all fun B => decide (B.length ≤ 5)) = true := by decide
          exact of_decide_eq_true (List.all_eq_true.mp this S hS)
      obtain ⟨ks, ek, fk⟩ := LB
      refine ⟨.ref kd0, rfl, kd0, ks, rfl, .inl (.inl (.inl ek)), fun kd nkd => ⟨Nat.zero_le _, fun bl nbl => ⟨.ref kd, .ref bl, rfl, ?_⟩⟩⟩
      have nkdH := fresh_back b2 P2 nkd
      have s0 : Same G (upd G kd (.lst ks)) := same_new (fun b o e => e) nkd _
      have ekd : (upd G kd (.lst ks)) kd = some (.lst ks) := upd_same
      have rwkd : rw ≠ kd := ne_of_none erw nkd
      have thkd : th ≠ kd := by
        obtain ⟨vs, e, _⟩ := LR
        exact ne_of_none e nkd
      have trkd : tr ≠ kd := by
        obtain ⟨vs, e, _⟩ := LS
        exact ne_of_none e nkd
      have itkd : it ≠ kd := ne_of_none eit nkd
      replace LR := LR.same s0
      replace LS := LS.same s0
      replace P2 := pen_same P2 s0
      replace b2 := b2.trans (Pn.But.of s0)
      replace erw := s0 _ _ erw
      replace eit := s0 _ _ eit
      replace fk := fk.mono (PrV.mono (TK.same s0))
      replace frw := frw.mono (KdV.mono (TK.same s0))
      clear s0 nkd ek
      generalize upd G kd (.lst ks) = G2 at ekd LR LS P2 b2 erw eit fk frw nbl ⊢
      have nblH := fresh_back b2 P2 nbl
      have s0 : Same G2 (upd G2 bl (.lst [])) := same_new (fun b o e => e) nbl _
      have ebl : (upd G2 bl (.lst [])) bl = some (.lst []) := upd_same
      have rwbl : rw ≠ bl := ne_of_none erw nbl
      have thbl : th ≠ bl := by
        obtain ⟨vs, e, _⟩ := LR
        exact ne_of_none e nbl
      have trbl : tr ≠ bl := by
        obtain ⟨vs, e, _⟩ := LS
        exact ne_of_none e nbl
      have itbl : it ≠ bl := ne_of_none eit nbl
      have kdbl : kd ≠ bl := ne_of_none ekd nbl
      replace LR := LR.same s0
      replace LS := LS.same s0
      replace P2 := pen_same P2 s0
      replace b2 := b2.trans (Pn.But.of s0)
      replace erw := s0 _ _ erw
      replace eit := s0 _ _ eit
      replace ekd := s0 _ _ ekd
      replace fk := fk.mono (PrV.mono (TK.same s0))
      replace frw := frw.mono (KdV.mono (TK.same s0))
      clear s0 nbl
      generalize upd G2 bl (.lst []) = G3 at ekd ebl LR LS P2 b2 erw eit fk frw ⊢
      have kdp := pen_kept hP nkdH
      have blp := pen_kept hP nblH
      have lk := fk.len
      refine ⟨.ref kd, rfl, kd, ks, rfl, .inl (.inl (.inl ekd)), _, rfl, by omega, by omega, for_range (lo := 0) (n := ((ks.length : Int)).toNat) (fun j σ G => ∃ (v6 v7 v8 : Option V) (c3 : Nat) (rest : List Pr) (done : List Row) (rs ds : List V), σ = [some (.ref p), some (.ref th), some (.ref tr), some (.ref rw), some (.ref kd), some (.ref bl), v6, v7, v8] ∧
        Pn.Pen G p l ns c3 ∧ c3 ≤ c2 + j * 2 ∧ Pn.But p H G ∧ Bt p kd bl G3 G ∧ G kd = some (.lst rs) ∧ G bl = some (.lst ds) ∧ F2 (PrV K G) rest rs ∧ F2 (RowV K G) done ds ∧ done.length = j ∧ (rest ++ done.map fun r => (r.1, r.2.1)).Perm B ∧ ∀ r ∈ done, r.2.2 = 1 ∨ r.2.2 = 2)
        ⟨v6, v7, v8, c2, B, [], ks, [], rfl, P2, by omega, b2, Bt.refl _, ekd, ebl, fk, rfl, rfl, by rw [List.map_nil, List.append_nil], fun r hr => nomatch hr⟩ ?_ ?_⟩
      · rintro j σ G4 hj ⟨v6, v7, v8, c3, rest, done, rs, ds, rfl, P4, hc3, b4, t4, gk, gb, fr, fd, ld, perm, wts⟩
        have lr := fr.len
        have lds := fd.len
        have tot := perm.length_eq
        rw [List.length_append, List.length_map] at tot
        refine ⟨_, rfl, .inl ⟨rfl, _, .inl (.inl gk)⟩, .ref p, rfl, .ref kd, rfl, kd, rs, rfl, .inl (.inl (.inl gk)), p, l, ns, c3, _, rfl, P4, hlen, by omega, by omega, by omega, fun r G5 r0 r1 P5 b5 => ?_⟩
        obtain ⟨m, rfl⟩ : ∃ m : Nat, r = (m : Int) := ⟨r.toNat, by omega⟩
        have hm : m < rs.length := by omega
        have hg : rs[m]? = some rs[m] := List.getElem?_eq_getElem hm
        generalize rs[m] = y at hg
        have gk5 := b5 _ _ kdp gk
        have gb5 := b5 _ _ blp gb
        have k5 := pen_tk P4 b5
        obtain ⟨pr, hpr, ⟨b, rfl, sqb⟩⟩ := (fr.mono (PrV.mono k5)).get hg
        refine ⟨kd, rs, (m : Int), m, .ref b, rfl, rfl, gk5, by omega, by omega, sx_nat hm, hg, ?_⟩
        have k6 : TK G5 (upd G5 kd (.lst (rs.eraseIdx m))) := TK.lst gk5 _
        have gk6 : (upd G5 kd (.lst (rs.eraseIdx m))) kd = some (.lst (rs.eraseIdx m)) := upd_same
        have gb6 : (upd G5 kd (.lst (rs.eraseIdx m))) bl = some (.lst ds) := by rw [upd_ne kdbl.symm]; exact gb5
        have P6 := pen_on hP nkdH P5 (.lst (rs.eraseIdx m))
        have b6 := but_on (b4.trans b5) nkdH (.lst (rs.eraseIdx m))
        have t6 := (t4.but b5).u (.lst (rs.eraseIdx m))
        replace sqb := k6.sq sqb
        have fr6 := F2.erase m (fr.mono (PrV.mono (k5.trans k6)))
        have fd6 := fd.mono (RowV.mono (k5.trans k6))
        clear k5 k6 P5 b5 P4 b4 t4 gk gb fr fd gk5 gb5
        generalize upd G5 kd (.lst (rs.eraseIdx m)) = G6 at gk6 gb6 P6 b6 t6 sqb fr6 fd6 ⊢
        refine ⟨b, _, rfl, sqb, rfl, .str pr.1, _, rfl, .int (pr.2 : Int), _, rfl, rfl, ?_⟩
        refine ⟨_, rfl, .inl ⟨rfl, _, .inl (.inl gb6)⟩, .str pr.1, rfl, .int (pr.2 : Int), rfl, .ref p, rfl, (by show 3 ≤ sizeLine; decide), fun q4 n4 => ?_⟩
        have s7 : Same G6 (upd G6 q4 (.lst [.int 1, .int 1, .int 2])) := same_new (fun b o e => e) n4 _
        have e7 : (upd G6 q4 (.lst [.int 1, .int 1, .int 2])) q4 = some (.lst [.int 1, .int 1, .int 2]) := upd_same
        have q4p := pen_kept P6 n4
        have P7 := pen_same P6 s7
        refine ⟨p, l, q4, ns, c3 + 1, _, rfl, P7, hlen, by omega, .inl (.inl (.inl e7)), (by intro z; cases z), (by show 3 ≤ 1000000; decide), q4p, fun x G8 hx P8 b8 => ?_⟩
        obtain ⟨wt, rfl, hwt⟩ : ∃ wt : Int, x = .int wt ∧ (wt = 1 ∨ wt = 2) := by
          simp only [List.mem_cons, List.mem_nil_iff, or_false] at hx
          rcases hx with e | e | e <;> rw [e]
          · exact ⟨1, rfl, .inl rfl⟩
          · exact ⟨1, rfl, .inl rfl⟩
          · exact ⟨2, rfl, .inr rfl⟩
        refine ⟨(by show 3 ≤ sizeLine; decide), fun q6 n6 => ?_⟩
        have s9 : Same G8 (upd G8 q6 (.tup [.str pr.1, .int (pr.2 : Int), .int wt])) := same_new (fun b o e => e) n6 _
        have e9 : (upd G8 q6 (.tup [.str pr.1, .int (pr.2 : Int), .int wt])) q6 = some (.tup [.str pr.1, .int (pr.2 : Int), .int wt]) := upd_same
        have k9 : TK G6 (upd G8 q6 (.tup [.str pr.1, .int (pr.2 : Int), .int wt])) := ((TK.same s7).trans (pen_tk P7 b8)).trans (TK.same s9)
        have gk9 := s9 _ _ (b8 _ _ kdp (s7 _ _ gk6))
        have gb9 := s9 _ _ (b8 _ _ blp (s7 _ _ gb6))
        have P9 := pen_same P8 s9
        have b9 := ((b6.trans (Pn.But.of s7)).trans b8).trans (Pn.But.of s9)
        have t9 := ((t6.but (Pn.But.of s7)).but b8).but (Pn.But.of s9)
        replace fr6 := fr6.mono (PrV.mono k9)
        replace fd6 := fd6.mono (RowV.mono k9)
        clear k9 s9 P8 b8 n6 P7 q4p e7 s7 n4 sqb P6 b6 t6 gk6 gb6
        generalize upd G8 q6 (.tup [.str pr.1, .int (pr.2 : Int), .int wt]) = G9 at e9 gk9 gb9 P9 b9 t9 fr6 fd6 ⊢
        refine ⟨bl, ds, .ref q6, rfl, rfl, gb9, by rw [sizeLine_eq]; omega, ?_⟩
        have kA : TK G9 (upd G9 bl (.lst (ds ++ [.ref q6]))) := TK.lst gb9 _
        refine ⟨_, _, _, c3 + 2, rest.eraseIdx m, done ++ [(pr.1, pr.2, wt)], rs.eraseIdx m, ds ++ [.ref q6], rfl, pen_on hP nblH P9 _, by omega, but_on b9 nblH _, t9.v _, by rw [upd_ne kdbl]; exact gk9, upd_same, fr6.mono (PrV.mono kA), (fd6.mono (RowV.mono kA)).app (F2.one ⟨q6, rfl, kA.sq (.inl (.inl e9))⟩), by rw [List.length_append, List.length_singleton, ld], ?_, ?_⟩
        · refine List.Perm.trans ?_ perm
          rw [List.map_append]
          show (rest.eraseIdx m ++ (done.map (fun r => (r.1, r.2.1)) ++ [pr])).Perm (rest ++ done.map fun r => (r.1, r.2.1))
          have e1 := erase_perm hpr
          rw [← List.append_assoc]
          refine (List.perm_append_singleton pr _).trans ?_
          exact (e1.symm.append_right _)
        · intro r hr
          rcases List.mem_append.mp hr with z | z
          · exact wts r z
          · rw [List.mem_singleton.mp z]
            exact hwt
      · rintro σ G4 ⟨v6, v7, v8, c3, rest, done, rs, ds, rfl, P4, hc3, b4, t4, gk, gb, fr, fd, ld, perm, wts⟩
        have tot := perm.length_eq
        rw [List.length_append, List.length_map] at tot
        have re : rest = [] := List.length_eq_zero_iff.mp (by omega)
        subst re
        have k4 := t4.tk P2 ekd ebl
        have rw4 := t4 _ _ rwp rwkd rwbl erw
        have it4 := t4 _ _ itp itkd itbl eit
        have ls : ∀ {R a}, LsP K G3 R a → a ≠ p → a ≠ kd → a ≠ bl → LsP K G4 R a := fun h n1 n2 n3 => by
          obtain ⟨vs, e, f⟩ := h
          exact ⟨vs, t4 _ _ n1 n2 n3 e, f.mono (PrV.mono k4)⟩
        have LR4 := ls LR thp thkd thbl
        have LS4 := ls LS trp trkd trbl
        have frw4 := frw.mono (KdV.mono k4)
        refine ⟨_, rfl, .inl ⟨rfl, _, .inl (.inl rw4)⟩, .ref bl, rfl, bl, ds, rfl, .inl ⟨.inl (.inl gb), fun q5 n5 => ?_⟩⟩
        have s5 : Same G4 (upd G4 q5 (.tup ds)) := same_new (fun b o e => e) n5 _
        have e5 : (upd G4 q5 (.tup ds)) q5 = some (.tup ds) := upd_same
        replace LR4 := LR4.same s5
        replace LS4 := LS4.same s5
        replace P4 := pen_same P4 s5
        replace b4 := b4.trans (Pn.But.of s5)
        replace rw4 := s5 _ _ rw4
        replace it4 := s5 _ _ it4
        replace fd := fd.mono (RowV.mono (TK.same s5))
        replace frw4 := frw4.mono (KdV.mono (TK.same s5))
        clear s5 n5 ls k4 t4 gk gb
        generalize upd G4 q5 (.tup ds) = G5 at e5 LR4 LS4 P4 b4 rw4 it4 fd frw4 ⊢
        have lrv := frw4.len
        refine ⟨rw, rvs, .ref q5, rfl, rfl, rw4, by rw [sizeLine_eq, lrv, List.length_take]; omega, ?_⟩
        have kA : TK G5 (upd G5 rw (.lst (rvs ++ [.ref q5]))) := TK.lst rw4 _
        have up : ∀ {R a}, LsP K G5 R a → a ≠ rw → LsP K (upd G5 rw (.lst (rvs ++ [.ref q5]))) R a := fun h n => by
          obtain ⟨vs, e, f⟩ := h
          exact ⟨vs, by rw [upd_ne n]; exact e, f.mono (PrV.mono kA)⟩
        refine ⟨_, _, _, _, _, c3, rvs ++ [.ref q5], rfl, pen_on hP nrwH P4 _, by omega, but_on b4 nrwH _, up LR4 thrw, up LS4 trrw, upd_same, ?_, by rw [upd_ne itrw]; exact it4⟩
        rw [List.take_add_one, hB]
        exact (frw4.mono (KdV.mono kA)).app (F2.one ⟨q5, done, ds, rfl, ⟨perm, wts⟩, kA.sq (.inl (.inl e5)), fd.mono (RowV.mono kA)⟩)
    · rintro σ G ⟨v4, v5, v6, v7, v8, c2, rvs, rfl, P2, hc2, b2, _, _, erw2, frw, _⟩
      obtain ⟨x1, r1, rfl, ⟨k1, R1, vs1, rfl, m1, sq1, f1⟩, ⟨x2, r2, rfl, ⟨k2, R2, vs2, rfl, m2, sq2, f2⟩, fe⟩⟩ := frw
      cases (show r2 = [] from fe)
      refine ⟨.ref rw, rfl, rw, _, 0, _, rfl, rfl, .inl (.inl erw2), atI_nat (j := 0) rfl, .ref rw, rfl, rw, _, 1, _, rfl, rfl, .inl (.inl erw2), atI_nat (j := 1) rfl, (by show 2 ≤ sizeLine; decide), fun q5 n5 => ?_⟩
      have s5 : Same G (upd G q5 (.tup [.ref k1, .ref k2])) := same_new (fun b o e => e) n5 _
      have k5 := TK.same s5
      exact q q5 R1 R2 R S _ c2 ⟨k1, k2, vs1, vs2, .inl (.inl upd_same), k5.sq sq1, k5.sq sq2, f1.mono (RowV.mono k5), f2.mono (RowV.mono k5)⟩ hR hS m1 m2 (by simp only [List.length_cons, List.length_nil] at hc2; omega) (pen_same P2 s5) (b2.trans (Pn.But.of s5))
end
end Ad

namespace Ad
open PySem PySem.Spec PySem.Calls PyProof.Rows L2 GxR
abbrev sSubst : Stmt := topS 6
theorem scSubst : FnScope ["table", "variable"] ["table"] (defScope sSubst) := ⟨rfl, rfl, rfl, by decide +kernel, rfl, by decide +kernel, by decide +kernel⟩
section
variable {P : Program} {w : World} {K : PySem.W.Frag} {mg : Str → Option Value} {base : Heap}
theorem ok_subst {f c Pt : Addr} {fd : FuncData} {k : Nat} (F : FunC K "_substitution" "_substitution" sSubst f (.ref c) fd) (TB : TabB base mg c Pt) (mt : mg "tuple" = none) (ms : mg "sorted" = none) : FnG P w K mg base CX0 (k + 6) f fd ["table"] (spSubst K Pt) := by
  refine fng_ofC F scSubst (fun vs H Q E h => ?_) (fun A outer s H vs Q E gd hr h => ?_)
  · obtain ⟨d, tb, kvs, rfl, _⟩ := h
    rfl
  · obtain ⟨d, tb, kvs, rfl, hd, tv, nd, few, good, tab, q⟩ := h
    refine ⟨_, PSs.nox (pss_one (ps_ret (Gx.pe_tupG0 (k := 1) (Gx.pgen (k := 0) (own := [("variable", 1)]) (g := gName 1) (tt := tTest (tOp (rNeD K) (tDGet (tVar 0) (tVar 1)) (tVar 1))) (te := tTup (tCons (tVar 1) (tCons (tDGet (tVar 0) (tVar 1)) tNil)))
        (hr.mono (by omega)) TB rfl scSubst.nd (pi_list (pe_callB (call_sortedDI rfl) (by rfl) ms (by decide +kernel) (pa_cons (pv 0) pa_nil))) (blkOk_by (N := ["table", "variable"]) (sc := defScope sSubst) (by decide +kernel)) (by decide +kernel) (by decide +kernel) rfl
        (fun _ _ _ _ _ _ _ => pg_name (i := 1) scSubst.nd rfl (.inl rfl))
        (fun _ _ _ _ _ _ _ room => pts_one (pt_cmpR (r := rNeD K) (op_neD (hu64 room)) (pe_dget (hu1 room) (pv 0) (pv 1) (fun _ _ => rfl)) (pv 1) (nomark _)))
        (fun _ _ _ _ _ _ _ room => pe_tup (pa_cons (pv 1) (pa_cons (pe_dget (hu1 room) (pv 0) (pv 1) (fun _ _ => rfl)) pa_nil)))) (hr.mono (by omega)) (by rfl) mt))), ?_⟩
    refine ⟨.ref d, rfl, d, kvs, tb.map (·.1), rfl, .inl hd, tv.keys, by rw [List.length_map]; exact few, fun ks p perm le np => ⟨p, rfl, ⟨_, .inl (.inl upd_same)⟩, tab_upd tab np, fun G2 tb2 => ?_⟩⟩
    have rising : ks.Pairwise (· < ·) := by
      have nd2 : ks.Nodup := perm.nodup_iff.mpr nd
      exact (le.and nd2).imp fun {a b} h => by
        obtain ⟨h1, h2⟩ := h
        omega
    have all : ∀ i, i ∈ ks ↔ i ∈ tb.map (·.1) := fun i => perm.mem_iff
    have k1 : TK H (upd H p (.lst (ks.map V.int))) := TK.new np _
    have kept : ∀ b o, b ≠ Pt → H b = some o → G2 b = some o := by
      intro b o hb e
      rw [tb2.2 b hb, upd_ne (ne_of_none e np)]
      exact e
    have dne : d ≠ Pt := by
      intro z
      obtain ⟨ps, e, _⟩ := tab
      rw [z, e] at hd
      cases hd
    have pne : p ≠ Pt := by
      intro z
      obtain ⟨ps, e, _⟩ := tab
      rw [z, e] at np
      cases np
    have lp : G2 p = some (.lst (ks.map V.int)) := by rw [tb2.2 p pne]; exact upd_same
    refine Gx.turns_list (K := K) (a := p) (xs := ks.map V.int) (fun i ys G => (∀ b o, b ≠ Pt → H b = some o → G b = some o) ∧ TabG G Pt ∧ G p = some (.lst (ks.map V.int)) ∧ F2 (fun e y => ∃ b, y = V.ref b ∧ SP K G e b) (tb.sel (ks.take i)) ys)
      ⟨kept, tb2.1, lp, rfl⟩ (fun i ys G _ z => .inl (.inl z.2.2.1)) ?_ ?_
    · rintro i x ys G hx ⟨kp, tabG, gp, done⟩
      have hlt : i < ks.length := by
        have := (List.getElem?_eq_some_iff.mp hx).1
        rwa [List.length_map] at this
      have hk : ks[i]? = some ks[i] := List.getElem?_eq_getElem hlt
      rw [List.getElem?_map, hk] at hx
      cases hx
      generalize ks[i] = v at hk
      have tk : TK H G := tab_tk tab kp
      have gd2 : G d = some (.dK kvs) := kp _ _ dne hd
      obtain ⟨t, u, lk, val, tu⟩ := (tv.mono tk).at ((all v).1 (List.mem_of_getElem? hk))
      have get : DGet G d (kV (.inl v)) (some u) := by
        have z : DGet G d (kV (.inl v)) (valV kvs (.inl v)) := DGet.k gd2
        rw [val] at z
        exact z
      obtain ⟨n1, n2⟩ := good (v, t) (Sb.look_mem lk)
      have n2' : t.dep ≤ 60 := n2
      refine ⟨rfl, .ref d, rfl, .int v, rfl, d, u, rfl, get, .int v, rfl, t.d, .int v, Tm.dp _ _ tu, .int v, T.shaped n1 (by omega), int_shaped v, _, rfl, ?_⟩
      rw [T.eqv_var]
      have st := Sb.sel_take (tb := tb) hk
      cases hv : t.isVar v with
      | true =>
        refine iteF ?_
        refine ⟨kp, tabG, gp, ?_⟩
        have pk : tb.pick v = none := by
          unfold Sb.pick
          rw [lk]
          exact if_pos hv
        rw [st, pk, List.append_nil]
        exact done
      | false =>
        refine iteT ?_
        have pk : tb.pick v = some (v, t) := Sb.pick_iff.2 ⟨rfl, lk, hv⟩
        refine ⟨.int v, rfl, .ref d, rfl, .int v, rfl, d, u, rfl, get, (by show 2 ≤ sizeLine; decide), fun b nb => ?_⟩
        have ls : (tb.sel (ks.take i)).length ≤ i := by
          have := List.length_filterMap_le tb.pick (ks.take i)
          rw [List.length_take] at this
          unfold Sb.sel
          omega
        have ly := done.len
        have lks := perm.length_eq
        rw [List.length_map] at lks
        have kb : TK G (upd G b (.tup [.int v, u])) := TK.new nb _
        refine ⟨by rw [sizeLine_eq]; omega, ?_, tab_upd tabG nb, by rw [upd_ne (ne_of_none gp nb)]; exact gp, ?_⟩
        · intro b' o hb e
          have e2 := kp b' o hb e
          rw [upd_ne (ne_of_none e2 nb)]
          exact e2
        · rw [st, pk]
          exact F2.app (F2.mono (fun e y ⟨b', e', z⟩ => ⟨b', e', SP.mono kb _ _ z⟩) done) (F2.one ⟨b, rfl, u, .inl (.inl upd_same), Tm.mono kb _ _ tu⟩)
    · rintro ys G ⟨kp, tabG, gp, done⟩ z o nz od
      rw [List.length_map, List.take_length] at done
      obtain ⟨bs, rfl, fb⟩ : ∃ bs, ys = bs.map V.ref ∧ F2 (SP K G) (tb.sel ks) bs := by
        have key : ∀ (es : Sb) (ys : List V), F2 (fun e y => ∃ b, y = V.ref b ∧ SP K G e b) es ys → ∃ bs, ys = bs.map V.ref ∧ F2 (SP K G) es bs := by
          intro es
          induction es with
          | nil =>
            intro ys h
            cases (show ys = [] from h)
            exact ⟨[], rfl, rfl⟩
          | cons e es ih =>
            rintro ys ⟨y, r, rfl, ⟨b, rfl, sp⟩, rest⟩
            obtain ⟨bs, e1, e2⟩ := ih r rest
            exact ⟨b :: bs, by rw [e1]; rfl, b, bs, rfl, sp, e2⟩
        exact key _ _ done
      have kz : TK G (upd G z (.frz o (.tup (bs.map V.ref)))) := TK.new nz _
      refine q (tb.sel ks) _ _ (Sb.norm_sel rising all) ⟨z, bs, rfl, ⟨o, upd_same, od⟩, F2.mono (SP.mono kz) fb⟩ ?_ (tab_upd tabG nz)
      intro b' u hb e
      have e2 := kp b' u hb e
      rw [upd_ne (ne_of_none e2 nz)]
      exact e2
end
end Ad

namespace Ad
open PySem PySem.Spec PySem.Calls PyProof.Rows L2
abbrev sLVar : Stmt := topS 13
theorem scLVar : FnScope ["_law_term"] ["_law_term"] (defScope sLVar) := ⟨rfl, rfl, rfl, by decide +kernel, rfl, by decide +kernel, by decide +kernel⟩
section
variable {P : Program} {w : World} {K : PySem.W.Frag} {mg : Str → Option Value} {base : Heap}
theorem ok_isvar {f : Addr} {fd : FuncData} {k : Nat} (F : Fun K "_law_is_var" "_law_is_var" sLVar f fd) (mi : mg "isinstance" = none) (mI : mg "int" = none) : FnOk P w K mg base CX0 (k + 1) f fd ["_law_term"] (spIsVar K) := by
  refine F.ok scLVar (fun vs H Q E h => ?_) (fun cdv A outer s H vs Q E hr h => ?_)
  · obtain ⟨t, x, rfl, _⟩ := h
    rfl
  · obtain ⟨t, x, rfl, ht, q⟩ := h
    refine ⟨_, pss_one (ps_ret (pe_callB call_isi (by rfl) mi (by decide +kernel) (pa_cons (pv 0) (pa_cons (pe_bltn (v := .ty "int") (by rfl) mI (by decide +kernel) rfl) pa_nil)))), ?_⟩
    cases t with
    | v i =>
      cases (show x = .int i from ht)
      exact ⟨.int i, rfl, _, .ty "int", .type "int", .type "int", true, rfl, .ty "int", .base (.int i), kitII, q⟩
    | f nm ts => exact ⟨x, rfl, _, .ty "int", .type "tuple", .type "int", false, rfl, .ty "int", tm_tuple ht, kitTI, q⟩
end
end Ad

/-! The law keeps its word. -/
namespace Ad
open PySem PySem.Spec PySem.Calls PyProof.Rows L2 GxR
abbrev sLaw : Stmt := topS 20
theorem scLaw : FnScope ["_law_script", "_law_pen_here", "_law_rows", "_law_lap", "_law_one", "_law_two", "_law_both", "_law_turn", "_law_term", "_law_first", "_law_known", "_law_variable"] ["_law_script"] (defScope sLaw) := ⟨rfl, rfl, rfl, by decide +kernel, rfl, by decide +kernel, by decide +kernel⟩
section
variable {P : Program} {w : World} {K : PySem.W.Frag} {mg : Str → Option Value} {base : Heap}
def spLaw (K : PySem.W.Frag) (Pt : Addr) : Sp := fun vs H Q _ => ∃ (a : Addr) (ns : List Int), vs = [.ref a] ∧ SqL K H a (ns.map V.int) ∧ ns.length ≤ 63 ∧ TabG H Pt ∧ ∀ H', Q (.bl true) H'
theorem ok_law {f Pt : Addr} {fd : FuncData} {k : Nat} (F : Fun K "law" "law" sLaw f fd)
    {f1 f2 f3 f4 f5 f6 f7 f8 f9 fa fb fc : Addr} {d1 d2 d3 d4 d5 d6 d7 d8 d9 da db dc : FuncData}
    (hPen : Has P w K mg base k "_law_pen" ["_law_script"] (Pn.spPen K) f1 d1) (hDraw : Has P w K mg base k "_law_draw" ["_law_pen_here", "_law_many"] Pn.spDraw f2 d2) (hPick : Has P w K mg base k "_law_pick" ["_law_pen_here", "_law_some"] (Pn.spPick K) f3 d3)
    (hOrd : Has P w K mg base k "_law_drawn_order" ["_law_pen_here"] (spOrder K) f4 d4) (hDP : Has P w K mg base k "_law_drawn_pairs" ["_law_pen_here", "_law_rows", "_law_variables", "_law_deep"] (spDPairs K 5) f5 d5)
    (hBeh : HasG P w K mg base k "behind" ["one", "other"] (spBehind K Pt 10) f6 d6) (hLBeh : Has P w K mg base k "_law_behind" ["_law_one", "_law_two"] (spLBeh K 10) f7 d7)
    (hDrawn : Has P w K mg base k "_law_drawn_term" ["_law_pen_here", "_law_rows", "_law_deep", "_law_variables"] (spDrawn K 5) f8 d8)
    (hPut : Has P w K mg base k "put" ["term", "pairs"] (spPutIn K 10) f9 d9) (hLPut : Has P w K mg base k "_law_put" ["_law_term", "_law_known"] (spFilled K 10) fa da)
    (hLVars : Has P w K mg base k "_law_vars" ["_law_term"] (spLVars K 10) fb db) (hRen : Has P w K mg base k "renamed" ["term", "first"] (spRen K 10) fc dc)
    (m_range : mg "range" = none) (m_repr : mg "repr" = none) (m_dict : mg "dict" = none) (m_len : mg "len" = none) : FnG P w K mg base CX0 (k + 1) f fd ["_law_script"] (spLaw K Pt) := by
  refine fng_of F scLaw (fun vs H Q E h => ?_) (fun cdv A outer s H vs Q E gd hr h => ?_)
  · obtain ⟨a, ns, rfl, _⟩ := h
    rfl
  · obtain ⟨a, ns, rfl, hS, few, tab, q⟩ := h
    have gd' : (A.deeper (envOfC "law" (defScope sLaw) s.heap.objs.size f cdv)).guards = some [] := deeper_guards gd
    have hu := hu64 hr
    refine ⟨_, PSs.nox (pss_cons (ps_set (i := 1) scLaw.nd rfl (.inl rfl) (pe_call hPen.G hr (by rfl) hPen.g hPen.kp hPen.b .nil pass0 (pa_cons (pv 0) pa_nil)))
    (pss_cons (ps_set (i := 2) scLaw.nd rfl (.inl rfl) (pe_call hOrd.G hr (by rfl) hOrd.g hOrd.kp hOrd.b .nil pass0 (pa_cons (pv 1) pa_nil)))
    (pss_cons (ps_for PassesOwn.never rfl (pi_range1 (by rfl) m_range (pa_cons pe_int pa_nil)) (pg_name (i := 3) scLaw.nd rfl (.inl rfl))
      (pss_cons (ps_par (i := 4) (j := 5) (by rfl) scLaw.nd rfl rfl (by decide) rfl rfl (pa_cons (pe_call hDP.G hr (by rfl) hDP.g hDP.kp hDP.b .nil pass0 (pa_cons (pv 1) (pa_cons (pv 2) (pa_cons pe_int (pa_cons pe_int pa_nil))))) (pa_cons (pe_call hDP.G hr (by rfl) hDP.g hDP.kp hDP.b .nil pass0 (pa_cons (pv 1) (pa_cons (pv 2) (pa_cons pe_int (pa_cons pe_int pa_nil))))) pa_nil)) (by rfl))
      (pss_cons (ps_set (i := 4) scLaw.nd rfl (.inl rfl) (pe_call hPick.G hr (by rfl) hPick.g hPick.kp hPick.b .nil pass0 (pa_cons (pv 1) (pa_cons (pe_lst (pa_cons (pv 4) (pa_cons (pv 4) (pa_cons (Dt.pe_tup0 (pa_cons (pe_tup (pa_cons pe_int (pa_cons pe_int pa_nil))) (pa_cons (pe_tup (pa_cons pe_int (pa_cons pe_int pa_nil))) pa_nil))) (pa_cons (Dt.pe_tup0 (pa_cons (pe_tup (pa_cons pe_int (pa_cons pe_int pa_nil))) (pa_cons (pe_tup (pa_cons pe_int (pa_cons (pe_tup (pa_cons pe_str (pa_cons pe_int pa_nil))) pa_nil))) pa_nil))) (pa_cons (Dt.pe_tup0 pa_nil) pa_nil)))))) pa_nil))))
      (pss_cons (ps_set (i := 5) scLaw.nd rfl (.inl rfl) (pe_call hPick.G hr (by rfl) hPick.g hPick.kp hPick.b .nil pass0 (pa_cons (pv 1) (pa_cons (pe_lst (pa_cons (pv 5) (pa_cons (pv 5) (pa_cons (pv 5) (pa_cons (Dt.pe_tup0 (pa_cons (pe_tup (pa_cons pe_int (pa_cons pe_int pa_nil))) (pa_cons (pe_tup (pa_cons pe_int (pa_cons pe_int pa_nil))) pa_nil))) (pa_cons (Dt.pe_tup0 pa_nil) pa_nil)))))) pa_nil))))
      (pss_cons (ps_set (i := 6) scLaw.nd rfl (.inl rfl) (pe_callG hBeh.G gd' hr (by rfl) hBeh.g hBeh.kp hBeh.b pass0 (pa_cons (pv 4) (pa_cons (pv 5) pa_nil))))
      (pss_cons (ps_if (pt_cmpR op_ne (pe_callB (call_reprD gd' hu) (by rfl) m_repr (by decide +kernel) (pa_cons (pv 6) pa_nil)) (pe_callB (call_reprD gd' hu) (by rfl) m_repr (by decide +kernel) (pa_cons (pe_call hLBeh.G hr (by rfl) hLBeh.g hLBeh.kp hLBeh.b .nil pass0 (pa_cons (pv 4) (pa_cons (pv 5) pa_nil))) pa_nil)) (nomark _))
        (pss_one (ps_ret pe_bl)) pss_nil)
      (pss_one (ps_for PassesOwn.never rfl (pi_range1 (by rfl) m_range (pa_cons pe_int pa_nil)) (pg_name (i := 7) scLaw.nd rfl (.inl rfl))
        (pss_cons (ps_set (i := 8) scLaw.nd rfl (.inl rfl) (pe_call hDrawn.G hr (by rfl) hDrawn.g hDrawn.kp hDrawn.b .nil pass0 (pa_cons (pv 1) (pa_cons (pv 2) (pa_cons pe_int (pa_cons pe_int pa_nil))))))
        (pss_cons (ps_if (PW.pt (pw_or (pt_cmpR (op_neD hu) (pe_call hPut.G hr (by rfl) hPut.g hPut.kp hPut.b .nil pass0 (pa_cons (pv 8) (pa_cons (pv 4) pa_nil))) (pe_call hLPut.G hr (by rfl) hLPut.g hLPut.kp hLPut.b .nil pass0 (pa_cons (pv 8) (pa_cons (pe_callTy (Dt.call_dictT rfl) (by rfl) m_dict (by decide +kernel) (pa_cons (pv 4) pa_nil)) pa_nil))) (nomark _)) (pw_or1 (pt_cmpR (op_neD hu) (pe_call hPut.G hr (by rfl) hPut.g hPut.kp hPut.b .nil pass0 (pa_cons (pv 8) (pa_cons (pv 6) pa_nil))) (pe_call hPut.G hr (by rfl) hPut.g hPut.kp hPut.b .nil pass0 (pa_cons (pe_call hPut.G hr (by rfl) hPut.g hPut.kp hPut.b .nil pass0 (pa_cons (pv 8) (pa_cons (pv 4) pa_nil))) (pa_cons (pv 5) pa_nil))) (nomark _)))))
          (pss_one (ps_ret pe_bl)) pss_nil)
        (pss_cons (ps_set (i := 9) scLaw.nd rfl (.inl rfl) (pe_call hDraw.G hr (by rfl) hDraw.g hDraw.kp hDraw.b .nil pass0 (pa_cons (pv 1) (pa_cons pe_int pa_nil))))
        (pss_cons (ps_set (i := 10) scLaw.nd rfl (.inl rfl) pe_dnewK)
        (pss_cons (ps_for PassesOwn.never rfl (pi_list (pe_call hLVars.G hr (by rfl) hLVars.g hLVars.kp hLVars.b .nil pass0 (pa_cons (pv 8) pa_nil))) (pg_name (i := 11) scLaw.nd rfl (.inl rfl))
          (pss_one (ps_if (pt_cmp (pc_dnotin (hu1 hr) (pv 11) (pv 10)))
            (pss_one (ps_dput (hu1 hr) (pv 10) (pv 11) (pe_op op_add (pv 9) (pe_callB call_lenD (by rfl) m_len PySem.boot_len (pa_cons (pv 10) pa_nil))) rfl)) pss_nil)))
        (pss_one (ps_if (pt_cmpR (op_neD hu) (pe_call hRen.G hr (by rfl) hRen.g hRen.kp hRen.b .nil pass0 (pa_cons (pv 8) (pa_cons (pv 9) pa_nil))) (pe_call hLPut.G hr (by rfl) hLPut.g hLPut.kp hLPut.b .nil pass0 (pa_cons (pv 8) (pa_cons (pv 10) pa_nil))) (nomark _))
          (pss_one (ps_ret pe_bl)) pss_nil)))))))))))))))
    (pss_one (ps_ret (pe_and (pe_cmpR (op_eqD hu) (pe_call hPut.G hr (by rfl) hPut.g hPut.kp hPut.b .nil pass0 (pa_cons pe_int (pa_cons (Dt.pe_tup0 (pa_cons (pe_tup (pa_cons pe_int (pa_cons (pe_tup (pa_cons pe_str (pa_cons pe_int pa_nil))) pa_nil))) pa_nil)) pa_nil))) (pe_tup (pa_cons pe_str (pa_cons pe_int pa_nil))) (nomark _)) (pe_one (pe_cmpR (op_eqD hu) (pe_callG hBeh.G gd' hr (by rfl) hBeh.g hBeh.kp hBeh.b pass0 (pa_cons (Dt.pe_tup0 (pa_cons (pe_tup (pa_cons pe_int (pa_cons pe_int pa_nil))) pa_nil)) (pa_cons (Dt.pe_tup0 (pa_cons (pe_tup (pa_cons pe_int (pa_cons pe_int pa_nil))) pa_nil)) pa_nil))) (Dt.pe_tup0 (pa_cons (pe_tup (pa_cons pe_int (pa_cons pe_int pa_nil))) pa_nil)) (nomark _))))))))), ?_⟩
    refine ⟨.ref a, rfl, a, ns, rfl, hS, few, fun H1 p l sm1 np nl hP => ?_⟩
    have tab1 := tab_same sm1 tab
    refine ⟨.ref p, rfl, p, l, ns, 0, rfl, hP, by omega, by omega, fun ra R S B C H2 c0 hO hB hC mR mS hc0 P2 b2 => ?_⟩
    have ok := mixed_ok hB mR
    have hf : ∃ r ∈ R, r.1 = ("f" : Str) ∧ r.2.1 = 1 := by
      have h : (thingsB.all fun B => B.contains ("f", 1)) = true := by decide +kernel
      have z : (("f", 1) : Pr) ∈ B := List.contains_iff_mem.mp (List.all_eq_true.mp h B hB)
      obtain ⟨r, hr, e⟩ := List.mem_map.mp (mR.perm.mem_iff.mpr z)
      exact ⟨r, hr, congrArg Prod.fst e, congrArg Prod.snd e⟩
    have wk0 : Wk K Pt p l ra ns c0 R H2 := ⟨P2, hO.rows, tab_pen hP tab1 b2⟩
    clear hO hB hC mR mS P2 b2 hP tab1 np nl sm1
    have d2 : dn 2 = 26 := rfl
    have d3 : dn 3 = 80 := rfl
    refine ⟨4, rfl, by decide, by decide, for_range (lo := 0) (n := 4) (fun i σ G => ∃ (v3 v4 v5 v6 v7 v8 v9 v10 v11 : Option V) (c : Nat), σ = [some (.ref a), some (.ref p), some (.ref ra), v3, v4, v5, v6, v7, v8, v9, v10, v11] ∧ c ≤ 100 + i * 1000 ∧ Wk K Pt p l ra ns c R G)
      ⟨none, none, none, none, none, none, none, none, none, c0, rfl, by omega, wk0⟩ ?_ ?_⟩
    · clear wk0
      rintro i σ G hi ⟨v3, v4, v5, v6, v7, v8, v9, v10, v11, c, rfl, hc, wk⟩
      -- two drawn ones
      refine ⟨.ref p, rfl, .ref ra, rfl, p, l, ra, ns, c, 2, 4, R, rfl, wk.pen, by omega, by omega, wk.rows, ok, by decide, by decide, by decide, fun su1 x1 G1 c1 ds1 S1 hc1 P1 b1 => ?_⟩
      replace wk := wk.step P1 b1
      clear P1 b1
      refine ⟨.ref p, rfl, .ref ra, rfl, p, l, ra, ns, c1, 2, 4, R, rfl, wk.pen, by omega, by omega, wk.rows, ok, by decide, by decide, by decide, fun su2 x2 G2 c2 ds2 S2 hc2 P2 b2 => ?_⟩
      replace S1 := S1.mono (pen_tk wk.pen b2)
      replace wk := wk.step P2 b2
      clear P2 b2
      refine ⟨x1, x2, rfl, ?_⟩
      -- the first
      refine ⟨.ref p, rfl, x1, rfl, x1, rfl, ?_⟩
      dsimp only [tCons]
      refine sulit2 (plit_v K 0 1) (plit_v K 1 0) fun y3 G3 s3 Y3 => ?_
      refine sulit2 (plit_v K 0 1) (plit_f K 1 0 "f") fun y4 G4 s4 Y4 => ?_
      refine sulit0 K fun y5 G5 s5 Y5 => ⟨(by show 5 ≤ sizeLine; decide), fun p6 n6 => ?_⟩
      have s6 : Same G5 (upd G5 p6 (.lst [x1, x1, y3, y4, y5])) := same_new (fun b o e => e) n6 _
      have e6 : (upd G5 p6 (.lst [x1, x1, y3, y4, y5])) p6 = some (.lst [x1, x1, y3, y4, y5]) := upd_same
      have k36 : Same G3 (upd G5 p6 (.lst [x1, x1, y3, y4, y5])) := fun b o e => s6 _ _ (s5 _ _ (s4 _ _ e))
      have k26 : Same G2 (upd G5 p6 (.lst [x1, x1, y3, y4, y5])) := fun b o e => k36 _ _ (s3 _ _ e)
      have k46 : Same G4 (upd G5 p6 (.lst [x1, x1, y3, y4, y5])) := fun b o e => s6 _ _ (s5 _ _ e)
      have all6 : ∀ x ∈ [x1, x1, y3, y4, y5], ∃ su, DSu R 2 4 su ∧ Su K (upd G5 p6 (.lst [x1, x1, y3, y4, y5])) su x := by
        intro x hx
        simp only [List.mem_cons, List.mem_nil_iff, or_false] at hx
        rcases hx with e | e | e | e | e <;> rw [e]
        · exact ⟨su1, ds1, S1.mono (TK.same k26)⟩
        · exact ⟨su1, ds1, S1.mono (TK.same k26)⟩
        · exact ⟨_, dsu_a, Y3.mono (TK.same k36)⟩
        · exact ⟨_, dsu_b hf, Y4.mono (TK.same k46)⟩
        · exact ⟨_, dsu_c, Y5.mono (TK.same s6)⟩
      have p6p : p6 ≠ p := pen_kept (wk.same (fun b o e => s5 _ _ (s4 _ _ (s3 _ _ e)))).pen n6
      replace wk := wk.same k26
      replace S2 := S2.mono (TK.same k26)
      clear S1 Y3 Y4 Y5 ds1 s6 k36 k26 k46 n6
      generalize upd G5 p6 (.lst [x1, x1, y3, y4, y5]) = G6 at e6 all6 wk S2 ⊢
      refine ⟨p, l, p6, ns, c2, _, rfl, wk.pen, by omega, by omega, .inl (.inl (.inl e6)), (by intro z; cases z), (by show 5 ≤ 1000000; decide), p6p, fun z1 G7 hz1 P7 b7 => ?_⟩
      obtain ⟨one, d1, O1⟩ := all6 z1 hz1
      replace O1 := O1.mono (pen_tk wk.pen b7)
      replace S2 := S2.mono (pen_tk wk.pen b7)
      replace wk := wk.step P7 b7
      clear all6 e6 hz1 P7 b7 p6p s3 s4 s5
      -- the second
      refine ⟨.ref p, rfl, x2, rfl, x2, rfl, x2, rfl, ?_⟩
      dsimp only [tCons]
      refine sulit2 (plit_v K 0 1) (plit_v K 1 0) fun y3 G3 s3 Y3 => ?_
      refine sulit0 K fun y5 G5 s5 Y5 => ⟨(by show 5 ≤ sizeLine; decide), fun p6 n6 => ?_⟩
      have s6 : Same G5 (upd G5 p6 (.lst [x2, x2, x2, y3, y5])) := same_new (fun b o e => e) n6 _
      have e6 : (upd G5 p6 (.lst [x2, x2, x2, y3, y5])) p6 = some (.lst [x2, x2, x2, y3, y5]) := upd_same
      have k36 : Same G3 (upd G5 p6 (.lst [x2, x2, x2, y3, y5])) := fun b o e => s6 _ _ (s5 _ _ e)
      have k26 : Same G7 (upd G5 p6 (.lst [x2, x2, x2, y3, y5])) := fun b o e => k36 _ _ (s3 _ _ e)
      have all6 : ∀ x ∈ [x2, x2, x2, y3, y5], ∃ su, DSu R 2 4 su ∧ Su K (upd G5 p6 (.lst [x2, x2, x2, y3, y5])) su x := by
        intro x hx
        simp only [List.mem_cons, List.mem_nil_iff, or_false] at hx
        rcases hx with e | e | e | e | e <;> rw [e]
        · exact ⟨su2, ds2, S2.mono (TK.same k26)⟩
        · exact ⟨su2, ds2, S2.mono (TK.same k26)⟩
        · exact ⟨su2, ds2, S2.mono (TK.same k26)⟩
        · exact ⟨_, dsu_a, Y3.mono (TK.same k36)⟩
        · exact ⟨_, dsu_c, Y5.mono (TK.same s6)⟩
      have p6p : p6 ≠ p := pen_kept (wk.same (fun b o e => s5 _ _ (s3 _ _ e))).pen n6
      replace wk := wk.same k26
      replace O1 := O1.mono (TK.same k26)
      clear S2 Y3 Y5 ds2 s6 k36 k26 n6
      generalize upd G5 p6 (.lst [x2, x2, x2, y3, y5]) = G6 at e6 all6 wk O1 ⊢
      refine ⟨p, l, p6, ns, c2 + 1, _, rfl, wk.pen, by omega, by omega, .inl (.inl (.inl e6)), (by intro z; cases z), (by show 5 ≤ 1000000; decide), p6p, fun z2 G7 hz2 P7 b7 => ?_⟩
      obtain ⟨two, d2', O2⟩ := all6 z2 hz2
      replace O2 := O2.mono (pen_tk wk.pen b7)
      replace O1 := O1.mono (pen_tk wk.pen b7)
      replace wk := wk.step P7 b7
      clear all6 e6 hz2 P7 b7 p6p s3 s5
      have few1 := d1.few (by decide)
      have few2 := d2'.few (by decide)
      have deps : ∀ e ∈ one, e.2.dep < 10 ∧ e.2.size ≤ 10000 := fun e he => by
        obtain ⟨_, _, z⟩ := d1.each e he
        have h1 : e.2.dep ≤ 3 := z.dep
        have h2 : e.2.size ≤ 13 := z.size
        exact ⟨by omega, by omega⟩
      -- both
      refine ⟨z1, rfl, z2, rfl, one, two, z1, z2, rfl, O1, O2, d1.nd, d2'.nd, deps, by omega, beh_good d1 d2', wk.tab, fun su z G8 nm O3 b8 t8 => ?_⟩
      replace O1 := O1.mono (tab_tk wk.tab b8)
      replace O2 := O2.mono (tab_tk wk.tab b8)
      replace wk := wk.but b8 t8
      clear b8 t8
      obtain ⟨t1, t2, t3, t4⟩ := norm_text d1 d2' nm
      refine ⟨z, rfl, z, suD su, rfl, su_dp O3, t1, t2, t3, t4, ?_⟩
      refine ⟨z1, rfl, z2, rfl, one, two, z1, z2, rfl, O1, O2, d1.nd, d2'.nd, deps, by omega, beh_good d1 d2', fun su' z' G9 nm' O4 s9 => ?_⟩
      have one' : su' = su := Sb.Norm.one nm' nm fun _ => rfl
      subst one'
      replace O1 := O1.mono (TK.same s9)
      replace O2 := O2.mono (TK.same s9)
      replace O3 := O3.mono (TK.same s9)
      replace wk := wk.same s9
      refine ⟨z', suD su', rfl, su_dp O4, t1, t2, t3, t4, rfl, _, rfl, ?_⟩
      refine iteNS rfl ?_
      clear O4 s9 t1 t2 t3 t4 nm'
      have ndS := Sb.rising_nodup nm.rising
      -- terms
      refine ⟨4, rfl, by decide, by decide, for_range (lo := 0) (n := 4) (fun j σ G => ∃ (v7 v8 v9 v10 v11 : Option V) (c' : Nat), σ = [some (.ref a), some (.ref p), some (.ref ra), some (.int (0 + (i : Int))), some z1, some z2, some z, v7, v8, v9, v10, v11] ∧ c' ≤ c2 + 2 + j * 100 ∧ Wk K Pt p l ra ns c' R G ∧ Su K G one z1 ∧ Su K G two z2 ∧ Su K G su' z)
        ⟨_, _, _, _, _, c2 + 1 + 1, rfl, by omega, wk, O1, O2, O3⟩ ?_ ?_⟩
      · clear wk O1 O2 O3
        rintro j σ G hj ⟨v7, v8, v9, v10, v11, c', rfl, hc', wk, O1, O2, O3⟩
        refine ⟨.ref p, rfl, .ref ra, rfl, p, l, ra, ns, c', 3, 5, R, rfl, wk.pen, by omega, by omega, wk.rows, ok, by decide, by decide, by decide, fun t x G1 c3 tx dt hc3 P1 b1 => ?_⟩
        replace O1 := O1.mono (pen_tk wk.pen b1)
        replace O2 := O2.mono (pen_tk wk.pen b1)
        replace O3 := O3.mono (pen_tk wk.pen b1)
        replace wk := wk.step P1 b1
        clear P1 b1
        have td : t.dep ≤ 4 := dt.dep
        have ts : t.size ≤ 40 := dt.size
        obtain ⟨q1, q2, q3, q4⟩ := put_small d1 (by decide) dt.named dt.vars
        have w2 := put_small d2' (by decide) q1 q4
        have shA : SeqAt.shaped (T.fill one.asg t).d = true := T.shaped q1 (by omega)
        -- put, one
        refine ⟨x, rfl, z1, rfl, t, one, x, z1, rfl, tx, O1, d1.nd, by omega, by omega, fun v2 G2 s2 tv2 => ?_⟩
        replace tx := Tm.mono (TK.same s2) _ _ tx
        replace O1 := O1.mono (TK.same s2)
        replace O2 := O2.mono (TK.same s2)
        replace O3 := O3.mono (TK.same s2)
        replace wk := wk.same s2
        obtain ⟨ao, bs, rfl, tup, prs⟩ := id O1
        obtain ⟨kvs, pd, tvO, me⟩ := dict_of tup prs d1.nd
        refine ⟨x, rfl, .ref ao, rfl, ao, bs, kvs, rfl, tup, pd, fun dd nd0 => ?_⟩
        rw [me]
        have s3 : Same G2 (upd G2 dd (.dK kvs)) := same_new (fun b o e => e) nd0 _
        refine ⟨t, x, dd, one, kvs, rfl, Tm.mono (TK.same s3) _ _ tx, upd_same, tvO.mono (TK.same s3), by omega, by omega, fun v4 G4 s4 tv4 => ?_⟩
        have s24 : Same G2 G4 := fun b o e => s4 _ _ (s3 _ _ e)
        refine ⟨(T.fill one.asg t).d, (T.fill one.asg t).d, Tm.dp _ _ (Tm.mono (TK.same s24) _ _ tv2), Tm.dp _ _ tv4, shA, shA, _, rfl, ?_⟩
        refine iteNE (eqv_one shA) ?_
        replace tx := Tm.mono (TK.same s24) _ _ tx
        replace O1 := O1.mono (TK.same s24)
        replace O2 := O2.mono (TK.same s24)
        replace O3 := O3.mono (TK.same s24)
        replace wk := wk.same s24
        clear tup prs pd tvO me nd0 s3 s4 s24 tv2 tv4 s2
        -- put, both
        have eB : T.fill su'.asg t = T.fill two.asg (T.fill one.asg t) := by
          rw [T.fill_fill]
          refine T.fill_congr t fun j' _ => ?_
          rw [nm.asg, Sb.beh_asg d1.nd]
        have shB : SeqAt.shaped (T.fill two.asg (T.fill one.asg t)).d = true := T.shaped w2.1 (by omega)
        refine ⟨x, rfl, z, rfl, t, su', x, z, rfl, tx, O3, ndS, by omega, by omega, fun v5 G5 s5 tv5 => ?_⟩
        replace tx := Tm.mono (TK.same s5) _ _ tx
        replace O1 := O1.mono (TK.same s5)
        replace O2 := O2.mono (TK.same s5)
        replace O3 := O3.mono (TK.same s5)
        replace wk := wk.same s5
        refine ⟨x, rfl, .ref ao, rfl, t, one, x, .ref ao, rfl, tx, O1, d1.nd, by omega, by omega, fun v6 G6 s6 tv6 => ?_⟩
        refine ⟨z2, rfl, T.fill one.asg t, two, v6, z2, rfl, tv6, O2.mono (TK.same s6), d2'.nd, by omega, by omega, fun v7' G7 s7 tv7 => ?_⟩
        have s57 : Same G5 G7 := fun b o e => s7 _ _ (s6 _ _ e)
        rw [eB] at tv5
        refine ⟨(T.fill two.asg (T.fill one.asg t)).d, (T.fill two.asg (T.fill one.asg t)).d, Tm.dp _ _ (Tm.mono (TK.same s57) _ _ tv5), Tm.dp _ _ tv7, shB, shB, _, rfl, ?_⟩
        refine iteNE (eqv_one shB) ?_
        replace tx := Tm.mono (TK.same s57) _ _ tx
        replace O1 := O1.mono (TK.same s57)
        replace O2 := O2.mono (TK.same s57)
        replace O3 := O3.mono (TK.same s57)
        replace wk := wk.same s57
        clear tv5 tv6 tv7 s6 s7 s57 s5
        -- renamed
        refine ⟨.ref p, rfl, p, l, ns, c3, 9, rfl, wk.pen, by omega, by omega, by decide, by decide, fun first G8 f0 f1' P8 b8 => ?_⟩
        replace tx := Tm.mono (pen_tk wk.pen b8) _ _ tx
        replace O1 := O1.mono (pen_tk wk.pen b8)
        replace O2 := O2.mono (pen_tk wk.pen b8)
        replace O3 := O3.mono (pen_tk wk.pen b8)
        replace wk := wk.step P8 b8
        clear P8 b8
        intro dk nk
        have sk : Same G8 (upd G8 dk (.dK [])) := same_new (fun b o e => e) nk _
        have ek : (upd G8 dk (.dK [])) dk = some (.dK []) := upd_same
        refine ⟨x, rfl, t, x, rfl, Tm.mono (TK.same sk) _ _ tx, by omega, by omega, fun G9 pl s9 npl e9 => ?_⟩
        have ek9 := s9 _ _ ek
        have dpl : dk ≠ pl := ne_of ek9 e9 (by intro z; cases z)
        have s89 : Same G8 G9 := fun b o e => s9 _ _ (sk _ _ e)
        refine ⟨pl, rfl, ⟨_, .inl (.inl e9)⟩, for_list (K := K) (a := pl) (xs := t.vars.map V.int) (fun m σ G => ∃ (v11 : Option V) (kvs : List (L2.Key × V)), σ = [some (.ref a), some (.ref p), some (.ref ra), some (.int (0 + (i : Int))), some (.ref ao), some z2, some z, some (.int (0 + (j : Int))), some x, some (.int first), some (.ref dk), v11] ∧ Same G8 G ∧ G pl = some (.lst (t.vars.map V.int)) ∧ G dk = some (.dK kvs) ∧ TV K G (Sb.ren first [] (t.vars.take m)) kvs)
          ⟨_, [], rfl, s89, e9, ek9, rfl⟩ (fun m σ G _ ⟨_, _, _, _, e, _⟩ => .inl (.inl e)) ?_ ?_⟩
        · clear s89 e9 ek9 s9 npl
          rintro m y σ G hy ⟨v11, kvs', rfl, sm, gl, gk, tv⟩
          obtain ⟨iv, hv, rfl⟩ : ∃ iv, t.vars[m]? = some iv ∧ y = .int iv := by
            rw [List.getElem?_map] at hy
            cases e : t.vars[m]? with
            | none =>
              rw [e] at hy
              cases hy
            | some iv =>
              rw [e] at hy
              exact ⟨iv, rfl, (Option.some.inj hy).symm⟩
          have step : Sb.ren first [] (t.vars.take (m + 1)) = (if (Sb.look (Sb.ren first [] (t.vars.take m)) iv).isSome = true then Sb.ren first [] (t.vars.take m) else Sb.put (Sb.ren first [] (t.vars.take m)) iv (.v (first + ((Sb.ren first [] (t.vars.take m)).length : Int)))) := by
            rw [List.take_add_one, hv, Sb.ren_app]
            rfl
          have lk := tv.len
          have lr := Sb.ren_len first (t.vars.take m) []
          have lv := t.vars_len
          rw [List.length_nil, List.length_take] at lr
          refine ⟨.int iv, rfl, .ref dk, rfl, dk, _, rfl, DGet.k (k := Sum.inl iv) gk, _, rfl, ?_⟩
          rcases tv.val iv with ⟨a', b'⟩ | ⟨t', v', a', b', _⟩
          · rw [b']
            refine iteT ?_
            refine ⟨.int first, rfl, .ref dk, rfl, dk, kvs', rfl, gk, _, _, rfl, rfl, .ref dk, rfl, .int iv, rfl, dk, _, rfl, DPut.k (k := Sum.inl iv) gk (by rw [sizeLine_eq]; omega), ?_⟩
            have k3 := dk_tk gk (.dK (putK kvs' (.inl iv) (.int (first + (kvs'.length : Int)))))
            refine ⟨_, _, rfl, same_on sm nk _, by rw [upd_ne dpl.symm]; exact gl, upd_same, ?_⟩
            rw [step, a', if_neg (by decide)]
            refine TV.put (tv.mono k3) iv ?_
            rw [lk]
            exact rfl
          · rw [b']
            refine iteF ?_
            refine ⟨_, kvs', rfl, sm, gl, gk, ?_⟩
            rw [step, a', if_pos (show (some t').isSome = true from rfl)]
            exact tv
        · clear s89 e9 ek9 s9 npl
          rintro σ G ⟨v11, kvs', rfl, sm, gl, gk, tv⟩
          rw [List.length_map, List.take_length] at tv
          replace tx := Tm.mono (TK.same sm) _ _ tx
          have shR := ren_shaped dt.named (by omega) first t.vars
          refine ⟨x, rfl, .int first, rfl, t, x, first, rfl, tx, by omega, by omega, fun v12 G12 s12 tv12 => ?_⟩
          refine ⟨x, rfl, .ref dk, rfl, t, x, dk, _, kvs', rfl, Tm.mono (TK.same s12) _ _ tx, s12 _ _ gk, tv.mono (TK.same s12), by omega, by omega, fun v13 G13 s13 tv13 => ?_⟩
          refine ⟨_, _, Tm.dp _ _ (Tm.mono (TK.same s13) _ _ tv12), Tm.dp _ _ tv13, shR, shR, _, rfl, ?_⟩
          refine iteNE (eqv_one shR) ?_
          have s8 : Same G8 G13 := fun b o e => s13 _ _ (s12 _ _ (sm _ _ e))
          exact ⟨_, _, _, _, _, c3 + 1, rfl, by omega, wk.same s8, O1.mono (TK.same s8), O2.mono (TK.same s8), O3.mono (TK.same s8)⟩
      · rintro σ G ⟨v7, v8, v9, v10, v11, c', rfl, hc', wk, _⟩
        exact ⟨_, _, _, _, _, _, _, _, _, c', rfl, by omega, wk⟩
    · clear wk0
      rintro σ G ⟨v3, v4, v5, v6, v7, v8, v9, v10, v11, c, rfl, hc, wk⟩
      have shF : SeqAt.shaped (T.d (.f "f" [.v 0])) = true := by decide +kernel
      have shZ : SeqAt.shaped (suD [(1, .v 0)]) = true := by decide +kernel
      dsimp only [tRet, tAndV, tOp, tCall, tCons, tC]
      refine sulit1 (plit_f K 0 0 "f") fun y1 G1 s1 Y1 => ?_
      refine ⟨.v 0, [(0, .f "f" [.v 0])], .int 0, y1, rfl, rfl, Y1, by simp, by decide, by decide, fun v G2 s2 tv => ?_⟩
      have tv' : Tm K G2 (.f "f" [.v 0]) v := tv
      refine ⟨(by show 2 ≤ sizeLine; decide), fun p3 n3 => ?_⟩
      have s3 : Same G2 (upd G2 p3 (.tup [.str "f", .int 0])) := same_new (fun b o e => e) n3 _
      refine ⟨T.d (.f "f" [.v 0]), T.d (.f "f" [.v 0]), Tm.dp _ _ (Tm.mono (TK.same s3) _ _ tv'), .tup (.inl (.inl upd_same)) (.cons (.str "f") (.cons (.int 0) .nil)), shF, shF, _, rfl, ?_⟩
      refine iteE (eqv_one shF) ?_
      replace wk := wk.same (show Same G _ from fun b o e => s3 _ _ (s2 _ _ (s1 _ _ e)))
      refine sulit1 (plit_v K 0 1) fun x1 G4 s4 X1 => ?_
      refine sulit1 (plit_v K 1 0) fun x2 G5 s5 X2 => ?_
      have da : DSu R 2 4 [(0, .v 1)] := dsu_one (by decide) (by decide) (dt_v (by decide) (by decide))
      have db : DSu R 2 4 [(1, .v 0)] := dsu_one (by decide) (by decide) (dt_v (by decide) (by decide))
      replace wk := wk.same (show Same _ G5 from fun b o e => s5 _ _ (s4 _ _ e))
      refine ⟨[(0, .v 1)], [(1, .v 0)], x1, x2, rfl, X1.mono (TK.same s5), X2, da.nd, db.nd, fun e he => ?_, by decide, beh_good da db, wk.tab, fun su z G6 nm Z b6 t6 => ?_⟩
      · cases List.mem_singleton.mp he
        exact ⟨by decide, by decide⟩
      · have is : su = [(1, .v 0)] := by
          refine Sb.Norm.one nm ⟨List.pairwise_singleton _ _, fun i t => ?_⟩ fun _ => rfl
          rw [Sb.beh_look da.nd]
          by_cases i0 : i = 0
          · subst i0
            have e1 : Sb.look [((0 : Int), T.v 1)] 0 = some (.v 1) := rfl
            rw [e1]
            constructor
            · intro h
              cases List.mem_singleton.mp h
            · rintro ⟨h1, h2⟩
              have e2 : T.v 0 = t := Option.some.inj h1
              rw [← e2] at h2
              cases h2
          · have e1 : Sb.look [((0 : Int), T.v 1)] i = none := if_neg fun z => i0 z.symm
            rw [e1]
            show (i, t) ∈ [((1 : Int), T.v 0)] ↔ (if (1 : Int) = i then some (T.v 0) else none) = some t ∧ _
            constructor
            · intro h
              cases List.mem_singleton.mp h
              exact ⟨if_pos rfl, rfl⟩
            · rintro ⟨h1, h2⟩
              by_cases i1 : (1 : Int) = i
              · subst i1
                rw [if_pos rfl] at h1
                cases h1
                exact List.mem_singleton.mpr rfl
              · rw [if_neg i1] at h1
                cases h1
        subst is
        refine sulit1 (plit_v K 1 0) fun y G7 s7 Y => ?_
        refine ⟨suD [(1, .v 0)], suD [(1, .v 0)], su_dp (Z.mono (TK.same s7)), su_dp Y, shZ, shZ, ?_⟩
        rw [eqv_one shZ]
        exact q _
end
end Ad

/-! The head: what the top leaves, by one run. -/
namespace Ad
open PySem PySem.Spec PyProof.Rows L2 GxR
def dd (i : Nat) (x : Str) : He.DefD := ⟨(x, none), x, x, defArgs (topS i), defBody (topS i), defScope (topS i), [], []⟩
def fnL : List He.DefD := [dd 1 "parts_of", dd 2 "filled", dd 4 "put", dd 5 "behind", dd 6 "_substitution", dd 7 "renamed", dd 9 "_law_pen", dd 10 "_law_draw", dd 11 "_law_pick", dd 12 "_law_drawn_order", dd 13 "_law_is_var", dd 14 "_law_vars", dd 15 "_law_put", dd 16 "_law_drawn_term", dd 17 "_law_pairs", dd 18 "_law_behind", dd 19 "_law_drawn_pairs", dd 20 "law"]
def faL : List He.Fa := [.glo "parts_of", .glo "filled", .glo "put", .glo "behind", .glo "_substitution", .glo "renamed", .glo "_law_pen", .glo "_law_draw", .glo "_law_pick", .glo "_law_drawn_order", .glo "_law_is_var", .glo "_law_vars", .glo "_law_put", .glo "_law_drawn_term", .glo "_law_pairs", .glo "_law_behind", .glo "_law_drawn_pairs", .glo "law", .free "isinstance", .free "tuple", .free "range", .free "len", .free "sorted", .free "int", .free "list", .free "dict", .free "repr"]
def tfL : List He.Defn := [("_substitution", none)]
abbrev exL : PySem.W.Frag → Bool := fun _ => true
abbrev RL : PySem.W.OpenRow := PySem.W.OpenLaw.row PySem.Challenge.rw_downtoground_k06_whole_putting_in
abbrev hkL : PySem.W.Hook := He.hookX 4 faL fnL [] tfL exL
def obL (s : PySem.W.SharedT) : He.AlX := He.obsX 4 faL fnL [] tfL exL (HandSHeadRun.getT s)
theorem obL_eq (s : PySem.W.SharedT) : obL s = hkL.obs s.abs := He.obsX_eq (HandSHeadRun.getT_eq s)
theorem runL (w : World) : HandSHeadRun.RunEq RL (PySem.W.view RL.prog [20]) hkL obL 4000 ["parts_of", "filled", "put", "behind", "_substitution", "renamed", "_law_pen", "_law_draw", "_law_pick", "_law_drawn_order", "_law_is_var", "_law_vars", "_law_put", "_law_drawn_term", "_law_pairs", "_law_behind", "_law_drawn_pairs"] w := by
  intro os
  kernel_rfl
end Ad

/-! What the head tells, put together. -/
namespace Ad
open PySem PySem.Spec PyProof.Rows L2 GxR
theorem fun_of {K : PySem.W.Frag} {x q : Str} {st : Stmt} {f : Addr} {fd : FuncData} (F : FunD K x q (defArgs st) (defBody st) (defScope st) [] [] f fd) : Fun K x q st f fd := by
  obtain ⟨oc, od, dV, kV, doc, pm, an, cdv, ct, osl, e, lk, code, dfl, _⟩ := F.ex
  rcases dfl with ⟨_, rfl⟩ | ⟨z, _⟩
  · exact ⟨⟨oc, od, kV, doc, pm, an, cdv, ct, osl, e, lk, code⟩, F.kp⟩
  · exact absurd rfl z
theorem funC_of {K : PySem.W.Frag} {x q : Str} {st : Stmt} {p : He.Defn} {fd : FuncData} (F : FunD K x q (defArgs st) (defBody st) (defScope st) [] [] (He.fAd K p) fd) : FunC K x q st (He.fAd K p) (.ref (He.codeOf K p)) fd := by
  obtain ⟨oc, od, dV, kV, doc, pm, an, cdv, ct, osl, e, lk, code, dfl, _⟩ := F.ex
  rcases dfl with ⟨_, rfl⟩ | ⟨z, _⟩
  · obtain ⟨c, rfl⟩ := He.codeIn_ref code
    have e2 : He.codeOf K p = c := He.codeOf_eq lk (by rw [e]; first | done | rfl)
    rw [e2]
    exact ⟨⟨oc, od, kV, doc, pm, an, ct, osl, e, lk, code⟩, F.kp⟩
  · exact absurd rfl z
section
variable {w : World} {K : PySem.W.Frag} {h : Heap} {mg : Str → Option Value} {f : Addr}
theorem facts (X : K.In h) (G : h.Ns mainGlobals mg) (hfa : mg ("law" : Str) = some (.ref f)) (c : He.SaysX faL fnL [] tfL exL w h K) : LawGAt PySem.Challenge.rw_downtoground_k06_whole_putting_in w K CX0 13 63 "_law_script" mg f h := by
  have cd := c.t.d
  obtain ⟨d1, E1⟩ : ∃ fd, FunD K "parts_of" "parts_of" (defArgs (topS 1)) (defBody (topS 1)) (defScope (topS 1)) [] [] (He.fAd K ("parts_of", none)) fd := cd.def_ 0 (d := dd 1 "parts_of") rfl
  have F1 := fun_of E1
  have g1 : mg "parts_of" = some (.ref (He.fAd K ("parts_of", none))) := He.glo_ok X G (cd.fact 0 (f := .glo "parts_of") rfl)
  have b1 : Binds K d1 ["term"] [] := (fun_of E1).binds fun _ _ _ _ _ _ us hl => match us, hl with | [_], _ => rfl
  obtain ⟨d2, E2⟩ : ∃ fd, FunD K "filled" "filled" (defArgs (topS 2)) (defBody (topS 2)) (defScope (topS 2)) [] [] (He.fAd K ("filled", none)) fd := cd.def_ 1 (d := dd 2 "filled") rfl
  have F2 := fun_of E2
  have g2 : mg "filled" = some (.ref (He.fAd K ("filled", none))) := He.glo_ok X G (cd.fact 1 (f := .glo "filled") rfl)
  have b2 : Binds K d2 ["term", "table"] [] := (fun_of E2).binds fun _ _ _ _ _ _ us hl => match us, hl with | [_, _], _ => rfl
  obtain ⟨d4, E4⟩ : ∃ fd, FunD K "put" "put" (defArgs (topS 4)) (defBody (topS 4)) (defScope (topS 4)) [] [] (He.fAd K ("put", none)) fd := cd.def_ 2 (d := dd 4 "put") rfl
  have F4 := fun_of E4
  have g4 : mg "put" = some (.ref (He.fAd K ("put", none))) := He.glo_ok X G (cd.fact 2 (f := .glo "put") rfl)
  have b4 : Binds K d4 ["term", "pairs"] [] := (fun_of E4).binds fun _ _ _ _ _ _ us hl => match us, hl with | [_, _], _ => rfl
  obtain ⟨d5, E5⟩ : ∃ fd, FunD K "behind" "behind" (defArgs (topS 5)) (defBody (topS 5)) (defScope (topS 5)) [] [] (He.fAd K ("behind", none)) fd := cd.def_ 3 (d := dd 5 "behind") rfl
  have F5 := fun_of E5
  have g5 : mg "behind" = some (.ref (He.fAd K ("behind", none))) := He.glo_ok X G (cd.fact 3 (f := .glo "behind") rfl)
  have b5 : Binds K d5 ["one", "other"] [] := (fun_of E5).binds fun _ _ _ _ _ _ us hl => match us, hl with | [_, _], _ => rfl
  obtain ⟨d6, E6⟩ : ∃ fd, FunD K "_substitution" "_substitution" (defArgs (topS 6)) (defBody (topS 6)) (defScope (topS 6)) [] [] (He.fAd K ("_substitution", none)) fd := cd.def_ 4 (d := dd 6 "_substitution") rfl
  have F6 := fun_of E6
  have g6 : mg "_substitution" = some (.ref (He.fAd K ("_substitution", none))) := He.glo_ok X G (cd.fact 4 (f := .glo "_substitution") rfl)
  have b6 : Binds K d6 ["table"] [] := (fun_of E6).binds fun _ _ _ _ _ _ us hl => match us, hl with | [_], _ => rfl
  obtain ⟨d7, E7⟩ : ∃ fd, FunD K "renamed" "renamed" (defArgs (topS 7)) (defBody (topS 7)) (defScope (topS 7)) [] [] (He.fAd K ("renamed", none)) fd := cd.def_ 5 (d := dd 7 "renamed") rfl
  have F7 := fun_of E7
  have g7 : mg "renamed" = some (.ref (He.fAd K ("renamed", none))) := He.glo_ok X G (cd.fact 5 (f := .glo "renamed") rfl)
  have b7 : Binds K d7 ["term", "first"] [] := (fun_of E7).binds fun _ _ _ _ _ _ us hl => match us, hl with | [_, _], _ => rfl
  obtain ⟨d9, E9⟩ : ∃ fd, FunD K "_law_pen" "_law_pen" (defArgs (topS 9)) (defBody (topS 9)) (defScope (topS 9)) [] [] (He.fAd K ("_law_pen", none)) fd := cd.def_ 6 (d := dd 9 "_law_pen") rfl
  have F9 := fun_of E9
  have g9 : mg "_law_pen" = some (.ref (He.fAd K ("_law_pen", none))) := He.glo_ok X G (cd.fact 6 (f := .glo "_law_pen") rfl)
  have b9 : Binds K d9 ["_law_script"] [] := (fun_of E9).binds fun _ _ _ _ _ _ us hl => match us, hl with | [_], _ => rfl
  obtain ⟨d10, E10⟩ : ∃ fd, FunD K "_law_draw" "_law_draw" (defArgs (topS 10)) (defBody (topS 10)) (defScope (topS 10)) [] [] (He.fAd K ("_law_draw", none)) fd := cd.def_ 7 (d := dd 10 "_law_draw") rfl
  have F10 := fun_of E10
  have g10 : mg "_law_draw" = some (.ref (He.fAd K ("_law_draw", none))) := He.glo_ok X G (cd.fact 7 (f := .glo "_law_draw") rfl)
  have b10 : Binds K d10 ["_law_pen_here", "_law_many"] [] := (fun_of E10).binds fun _ _ _ _ _ _ us hl => match us, hl with | [_, _], _ => rfl
  obtain ⟨d11, E11⟩ : ∃ fd, FunD K "_law_pick" "_law_pick" (defArgs (topS 11)) (defBody (topS 11)) (defScope (topS 11)) [] [] (He.fAd K ("_law_pick", none)) fd := cd.def_ 8 (d := dd 11 "_law_pick") rfl
  have F11 := fun_of E11
  have g11 : mg "_law_pick" = some (.ref (He.fAd K ("_law_pick", none))) := He.glo_ok X G (cd.fact 8 (f := .glo "_law_pick") rfl)
  have b11 : Binds K d11 ["_law_pen_here", "_law_some"] [] := (fun_of E11).binds fun _ _ _ _ _ _ us hl => match us, hl with | [_, _], _ => rfl
  obtain ⟨d12, E12⟩ : ∃ fd, FunD K "_law_drawn_order" "_law_drawn_order" (defArgs (topS 12)) (defBody (topS 12)) (defScope (topS 12)) [] [] (He.fAd K ("_law_drawn_order", none)) fd := cd.def_ 9 (d := dd 12 "_law_drawn_order") rfl
  have F12 := fun_of E12
  have g12 : mg "_law_drawn_order" = some (.ref (He.fAd K ("_law_drawn_order", none))) := He.glo_ok X G (cd.fact 9 (f := .glo "_law_drawn_order") rfl)
  have b12 : Binds K d12 ["_law_pen_here"] [] := (fun_of E12).binds fun _ _ _ _ _ _ us hl => match us, hl with | [_], _ => rfl
  obtain ⟨d13, E13⟩ : ∃ fd, FunD K "_law_is_var" "_law_is_var" (defArgs (topS 13)) (defBody (topS 13)) (defScope (topS 13)) [] [] (He.fAd K ("_law_is_var", none)) fd := cd.def_ 10 (d := dd 13 "_law_is_var") rfl
  have F13 := fun_of E13
  have g13 : mg "_law_is_var" = some (.ref (He.fAd K ("_law_is_var", none))) := He.glo_ok X G (cd.fact 10 (f := .glo "_law_is_var") rfl)
  have b13 : Binds K d13 ["_law_term"] [] := (fun_of E13).binds fun _ _ _ _ _ _ us hl => match us, hl with | [_], _ => rfl
  obtain ⟨d14, E14⟩ : ∃ fd, FunD K "_law_vars" "_law_vars" (defArgs (topS 14)) (defBody (topS 14)) (defScope (topS 14)) [] [] (He.fAd K ("_law_vars", none)) fd := cd.def_ 11 (d := dd 14 "_law_vars") rfl
  have F14 := fun_of E14
  have g14 : mg "_law_vars" = some (.ref (He.fAd K ("_law_vars", none))) := He.glo_ok X G (cd.fact 11 (f := .glo "_law_vars") rfl)
  have b14 : Binds K d14 ["_law_term"] [] := (fun_of E14).binds fun _ _ _ _ _ _ us hl => match us, hl with | [_], _ => rfl
  obtain ⟨d15, E15⟩ : ∃ fd, FunD K "_law_put" "_law_put" (defArgs (topS 15)) (defBody (topS 15)) (defScope (topS 15)) [] [] (He.fAd K ("_law_put", none)) fd := cd.def_ 12 (d := dd 15 "_law_put") rfl
  have F15 := fun_of E15
  have g15 : mg "_law_put" = some (.ref (He.fAd K ("_law_put", none))) := He.glo_ok X G (cd.fact 12 (f := .glo "_law_put") rfl)
  have b15 : Binds K d15 ["_law_term", "_law_known"] [] := (fun_of E15).binds fun _ _ _ _ _ _ us hl => match us, hl with | [_, _], _ => rfl
  obtain ⟨d16, E16⟩ : ∃ fd, FunD K "_law_drawn_term" "_law_drawn_term" (defArgs (topS 16)) (defBody (topS 16)) (defScope (topS 16)) [] [] (He.fAd K ("_law_drawn_term", none)) fd := cd.def_ 13 (d := dd 16 "_law_drawn_term") rfl
  have F16 := fun_of E16
  have g16 : mg "_law_drawn_term" = some (.ref (He.fAd K ("_law_drawn_term", none))) := He.glo_ok X G (cd.fact 13 (f := .glo "_law_drawn_term") rfl)
  have b16 : Binds K d16 ["_law_pen_here", "_law_rows", "_law_deep", "_law_variables"] [] := (fun_of E16).binds fun _ _ _ _ _ _ us hl => match us, hl with | [_, _, _, _], _ => rfl
  obtain ⟨d17, E17⟩ : ∃ fd, FunD K "_law_pairs" "_law_pairs" (defArgs (topS 17)) (defBody (topS 17)) (defScope (topS 17)) [] [] (He.fAd K ("_law_pairs", none)) fd := cd.def_ 14 (d := dd 17 "_law_pairs") rfl
  have F17 := fun_of E17
  have g17 : mg "_law_pairs" = some (.ref (He.fAd K ("_law_pairs", none))) := He.glo_ok X G (cd.fact 14 (f := .glo "_law_pairs") rfl)
  have b17 : Binds K d17 ["_law_known"] [] := (fun_of E17).binds fun _ _ _ _ _ _ us hl => match us, hl with | [_], _ => rfl
  obtain ⟨d18, E18⟩ : ∃ fd, FunD K "_law_behind" "_law_behind" (defArgs (topS 18)) (defBody (topS 18)) (defScope (topS 18)) [] [] (He.fAd K ("_law_behind", none)) fd := cd.def_ 15 (d := dd 18 "_law_behind") rfl
  have F18 := fun_of E18
  have g18 : mg "_law_behind" = some (.ref (He.fAd K ("_law_behind", none))) := He.glo_ok X G (cd.fact 15 (f := .glo "_law_behind") rfl)
  have b18 : Binds K d18 ["_law_one", "_law_two"] [] := (fun_of E18).binds fun _ _ _ _ _ _ us hl => match us, hl with | [_, _], _ => rfl
  obtain ⟨d19, E19⟩ : ∃ fd, FunD K "_law_drawn_pairs" "_law_drawn_pairs" (defArgs (topS 19)) (defBody (topS 19)) (defScope (topS 19)) [] [] (He.fAd K ("_law_drawn_pairs", none)) fd := cd.def_ 16 (d := dd 19 "_law_drawn_pairs") rfl
  have F19 := fun_of E19
  have g19 : mg "_law_drawn_pairs" = some (.ref (He.fAd K ("_law_drawn_pairs", none))) := He.glo_ok X G (cd.fact 16 (f := .glo "_law_drawn_pairs") rfl)
  have b19 : Binds K d19 ["_law_pen_here", "_law_rows", "_law_variables", "_law_deep"] [] := (fun_of E19).binds fun _ _ _ _ _ _ us hl => match us, hl with | [_, _, _, _], _ => rfl
  obtain ⟨d20, E20⟩ : ∃ fd, FunD K "law" "law" (defArgs (topS 20)) (defBody (topS 20)) (defScope (topS 20)) [] [] (He.fAd K ("law", none)) fd := cd.def_ 17 (d := dd 20 "law") rfl
  have F20 := fun_of E20
  have g20 : mg "law" = some (.ref (He.fAd K ("law", none))) := He.glo_ok X G (cd.fact 17 (f := .glo "law") rfl)
  have b20 : Binds K d20 ["_law_script"] [] := (fun_of E20).binds fun _ _ _ _ _ _ us hl => match us, hl with | [_], _ => rfl
  have m_isinstance : mg "isinstance" = none := He.free_ok X G (cd.fact 18 (f := .free "isinstance") rfl)
  have m_tuple : mg "tuple" = none := He.free_ok X G (cd.fact 19 (f := .free "tuple") rfl)
  have m_range : mg "range" = none := He.free_ok X G (cd.fact 20 (f := .free "range") rfl)
  have m_len : mg "len" = none := He.free_ok X G (cd.fact 21 (f := .free "len") rfl)
  have m_sorted : mg "sorted" = none := He.free_ok X G (cd.fact 22 (f := .free "sorted") rfl)
  have m_int : mg "int" = none := He.free_ok X G (cd.fact 23 (f := .free "int") rfl)
  have m_list : mg "list" = none := He.free_ok X G (cd.fact 24 (f := .free "list") rfl)
  have m_dict : mg "dict" = none := He.free_ok X G (cd.fact 25 (f := .free "dict") rfl)
  have m_repr : mg "repr" = none := He.free_ok X G (cd.fact 26 (f := .free "repr") rfl)
  have law0 : f = He.fAd K ("law", none) := by
    have e := hfa.symm.trans g20
    cases e
    rfl
  subst law0
  have codeHd := c.hd ("_substitution", none) List.mem_cons_self
  refine ⟨d20, [He.cT K ("_substitution", none)], spLaw K (He.cT K ("_substitution", none)).2, ?_, ?_, ?_, ?_, ?_, ?_⟩
  · intro p hp
    cases List.mem_singleton.mp hp
    exact c.empty _ List.mem_cons_self
  · intro p hp
    cases List.mem_singleton.mp hp
    exact c.out _ List.mem_cons_self
  · intro p hp
    cases List.mem_singleton.mp hp
    exact PySem.W.codeHd_of_K X codeHd
  · exact fun s v => FunD.bindsA (ps := ["_law_script"]) E20 (fun _ _ _ _ _ _ us hl => match us, hl with | [_], _ => rfl) s [v] rfl
  · intro H a ns few tabs seq
    exact ⟨a, ns, rfl, seq, few, ⟨#[], tabs _ List.mem_cons_self, by first | trivial | exact TriplesOk.nil | constructor⟩, fun _ => rfl⟩
  · intro base inB nsB tb
    have tb0 := tb _ List.mem_cons_self
    have GPa : FnOk PySem.Challenge.rw_downtoground_k06_whole_putting_in.prog w K mg base CX0 10 _ d1 ["term"] (spParts K) := (ok_parts (k := 0) F1 m_isinstance m_tuple).mono (by decide)
    have GFi : FnOk PySem.Challenge.rw_downtoground_k06_whole_putting_in.prog w K mg base CX0 10 _ d2 ["term", "table"] (spFilled K 10) := (ok_filled (k := 0) F2 g2 b2 m_isinstance m_tuple 10).mono (by decide)
    have GPu : FnOk PySem.Challenge.rw_downtoground_k06_whole_putting_in.prog w K mg base CX0 11 _ d4 ["term", "pairs"] (spPutIn K 10) := ok_putin F4 GFi g2 F2.kp b2 m_dict
    have GSu : FnG PySem.Challenge.rw_downtoground_k06_whole_putting_in.prog w K mg base CX0 11 _ d6 ["table"] (spSubst K (He.cT K ("_substitution", none)).2) := ok_subst (k := 5) (funC_of (p := ("_substitution", none)) E6) tb0 m_tuple m_sorted
    have GBe : FnG PySem.Challenge.rw_downtoground_k06_whole_putting_in.prog w K mg base CX0 12 _ d5 ["one", "other"] (spBehind K (He.cT K ("_substitution", none)).2 10) := ok_behind F5 GPu g4 F4.kp b4 GSu g6 (fun_of E6).kp b6 m_dict
    have GIs : FnOk PySem.Challenge.rw_downtoground_k06_whole_putting_in.prog w K mg base CX0 1 _ d13 ["_law_term"] (spIsVar K) := ok_isvar F13 m_isinstance m_int
    have GDr : FnOk PySem.Challenge.rw_downtoground_k06_whole_putting_in.prog w K mg base CX0 1 _ d10 ["_law_pen_here", "_law_many"] Pn.spDraw := Pn.ok_draw F10 m_int m_len
    have GPi : FnOk PySem.Challenge.rw_downtoground_k06_whole_putting_in.prog w K mg base CX0 2 _ d11 ["_law_pen_here", "_law_some"] (Pn.spPick K) := Pn.ok_pick F11 GDr g10 F10.kp b10 m_len
    have GTe : FnOk PySem.Challenge.rw_downtoground_k06_whole_putting_in.prog w K mg base CX0 7 _ d16 ["_law_pen_here", "_law_rows", "_law_deep", "_law_variables"] (spDrawn K 5) := (ok_drawn F16 g16 b16 (GDr.mono (by decide : 1 ≤ 2)) g10 F10.kp b10 GPi g11 F11.kp b11 m_tuple m_range 5).mono (by decide)
    have GLP : FnOk PySem.Challenge.rw_downtoground_k06_whole_putting_in.prog w K mg base CX0 11 _ d15 ["_law_term", "_law_known"] (spFilled K 10) := (ok_lput F15 g15 b15 GIs g13 F13.kp b13 m_tuple 10).mono (by decide)
    have GPr : FnOk PySem.Challenge.rw_downtoground_k06_whole_putting_in.prog w K mg base CX0 1 _ d17 ["_law_known"] (spLPairs K) := ok_lpairs (k := 0) F17 m_tuple m_sorted m_list
    refine ok_law (k := 12) F20 ⟨(Pn.ok_pen (k := 0) F9 m_int m_list).mono (by decide), g9, F9.kp, b9⟩ ⟨GDr.mono (by decide), g10, F10.kp, b10⟩ ⟨GPi.mono (by decide), g11, F11.kp, b11⟩
      ⟨(ok_order F12 (GDr.mono (by decide : 1 ≤ 2)) g10 F10.kp b10 GPi g11 F11.kp b11 m_tuple m_range m_list m_len).mono (by decide), g12, F12.kp, b12⟩
      ⟨(ok_dpairs (k := 7) F19 (GDr.mono (by decide)) g10 F10.kp b10 GTe g16 F16.kp b16 (GPr.mono (by decide)) g17 F17.kp b17 m_range).mono (by decide), g19, F19.kp, b19⟩
      ⟨GBe, g5, F5.kp, b5⟩ ⟨ok_lbeh (k := 11) F18 GLP g15 F15.kp b15 (GPr.mono (by decide)) g17 F17.kp b17 m_dict, g18, F18.kp, b18⟩
      ⟨GTe.mono (by decide), g16, F16.kp, b16⟩ ⟨GPu.mono (by decide), g4, F4.kp, b4⟩ ⟨GLP.mono (by decide), g15, F15.kp, b15⟩
      ⟨(ok_lvars F14 g14 b14 GIs g13 F13.kp b13 10).mono (by decide), g14, F14.kp, b14⟩ ⟨(ok_ren (k := 10) F7 GPa g1 F1.kp b1 GFi g2 F2.kp b2 m_isinstance m_int m_len).mono (by decide), g7, F7.kp, b7⟩
      m_range m_repr m_dict m_len

end
end Ad

open PySem PySem.W PySem.Calls PyProof.Rows
theorem PySem.Challenge.cw_downtoground_k06_whole_putting_in_holds : PySem.Challenge.rw_downtoground_k06_whole_putting_in.Holds := by
  w_on
  o_law
  refine HandSHeadRun.head_any (r := OpenLaw.row PySem.Challenge.rw_downtoground_k06_whole_putting_in) (q := view (OpenLaw.row PySem.Challenge.rw_downtoground_k06_whole_putting_in).prog [20]) (H := Ad.hkL) (ob := Ad.obL) (M := 4000) (loose := ["parts_of", "filled", "put", "behind", "_substitution", "renamed", "_law_pen", "_law_draw", "_law_pick", "_law_drawn_order", "_law_is_var", "_law_vars", "_law_put", "_law_drawn_term", "_law_pairs", "_law_behind", "_law_drawn_pairs"])
    (d := HandSHeadRun.topDef (OpenLaw.row PySem.Challenge.rw_downtoground_k06_whole_putting_in).prog 20) (kwd := []) Ad.obL_eq (by kernel_rfl) (fun s => by kernel_rfl) Ad.runL (by kernel_rfl) (by kernel_rfl) (by kernel_rfl) (by rfl) (by first | assumption | decide +kernel) (by decide +kernel) ⟨rfl, rfl, rfl, rfl, rfl, by decide +kernel⟩ ?hw ?hc
  case hw => w_witness2
  case hc =>
    refine Ad.walkGT (l := PySem.Challenge.rw_downtoground_k06_whole_putting_in) (n := 63) (k := 13) (x := "_law_script") (CX := fun _ => L2.CX0) rfl (by decide) (by kernel_rfl) ⟨rfl, by decide, by decide⟩ ?F (fun _ _ _ _ _ z => z)
    intro w mg fa h ⟨K, KX, c⟩ G named
    have e : (HandSHeadRun.topDef (OpenLaw.row PySem.Challenge.rw_downtoground_k06_whole_putting_in).prog 20).name = ("law" : PySem.Str) := by kernel_rfl
    rw [e] at named
    exact ⟨K, KX, Ad.facts KX G named c⟩

