import PyProof.Rows.All
import Wide.All
import OpenK.AllK
import Wide.FinOn
import HandS.ForMost
import HandS.Evl
import HandS.Wide
import HandS.Property
import HandS.IsInst
import HandS.Strs
import HandS.TupAny
import HandS.Exc
import HandS.TryOnly
import HandS.ExcInit
import KE.DataMinMax
import KE.GoesMore
import HandS.Zip
import HandS.Dict
import KE.KeyNested
import HandS.MakeKwOnly
import HandS.Conv
import HandS.ForExc
import HandS.ExcCtx
import HandS.HotCalls
import HandS.ExcIs
import HandS.ExcField
import KE.KExcIs
import KE.KIsAll
import HandS.Defaults
import HandS.CallSlots
import PyProof.ReprRoads
import PyProof.CallFns
import HandS.SetFor
import KE.SortData
import HandS.SortRule
import PySem.Challenge.RW_servedalone_k57_deadlines
set_option Elab.async false
set_option linter.all false
set_option maxRecDepth 100000
/-! Rules of my own over the hand layer: alternatives; tuples that are known as objects; sum, max, index of tuples. -/
namespace AL
open PySem PySem.Spec PyProof.Rows L2
/-! ### alternatives -/
def orR (r s : R2) : R2 := fun x y H Q => r x y H Q ∨ s x y H Q
def orC (r s : List V → Hp → VK → Prop) : List V → Hp → VK → Prop := fun xs H Q => r xs H Q ∨ s xs H Q
def orI (r s : TI) : TI := fun σ H R => r σ H R ∨ s σ H R
def orE (r s : TE) : TE := fun σ H Q => r σ H Q ∨ s σ H Q
def orS (r s : V → Option Int → Option Int → Hp → VK → Prop) : V → Option Int → Option Int → Hp → VK → Prop := fun x a b H Q => r x a b H Q ∨ s x a b H Q
section
variable {X : Cx}
theorem op_or {f : Value → Value → Sem Value} {r s : R2} (a : OpR X f r) (b : OpR X f s) : OpR X f (orR r s) := fun pins st σ H x y v u Q I rx ry h => h.elim (a pins st σ H x y v u Q I rx ry) (b pins st σ H x y v u Q I rx ry)
theorem call_or {f : Value} {r s : List V → Hp → VK → Prop} (a : CallR X f r) (b : CallR X f s) : CallR X f (orC r s) := fun pins st σ H xs us Q I rx h => h.elim (a pins st σ H xs us Q I rx) (b pins st σ H xs us Q I rx)
theorem pi_or {tg it : Expr} {r s : TI} (a : PI X tg it r) (b : PI X tg it s) : PI X tg it (orI r s) := ⟨fun pins st σ H R I h => h.elim (a.run pins st σ H R I) (b.run pins st σ H R I)⟩
theorem pe_orE {e : Expr} {r s : TE} (a : PE X e r) (b : PE X e s) : PE X e (orE r s) := ⟨fun pins st σ H Q I h => h.elim (a.run pins st σ H Q I) (b.run pins st σ H Q I)⟩
theorem sl_or {r s : V → Option Int → Option Int → Hp → VK → Prop} (a : SlR X r) (b : SlR X s) : SlR X (orS r s) := fun pins st σ H x v vl vu lo hi sl Q I rx hs pl pu h => h.elim (a pins st σ H x v vl vu lo hi sl Q I rx hs pl pu) (b pins st σ H x v vl vu lo hi sl Q I rx hs pl pu)
end
/-! ### a tuple, known as an object -/
def tupObj (its : List Value) : Obj := { cls := .type "tuple", data := .seq its.toArray }
/-- what stands at a is just that tuple -/
def tupHO (its : List Value) (vs : List V) : HO := .frz (tupObj its) (.tup vs)
def PTup (K : PySem.W.Frag) (H : Hp) (a : Addr) (vs : List V) : Prop := (∃ its, H a = some (tupHO its vs)) ∨ ∃ (its : Array Value) (n : Nat) (sl : Array (Option Value)), K.lookup a = some ⟨.type "tuple", none, .seq its n, sl⟩ ∧ its.size ≤ sizeLine ∧ Vals vs its.toList
theorem PTup.seq {K : PySem.W.Frag} {H : Hp} {a : Addr} {vs : List V} (h : PTup K H a vs) : SqT K H a vs := by
  rcases h with ⟨its, e⟩ | ⟨its, n, sl, l, z, v⟩
  · exact .inl (.inr ⟨_, e⟩)
  · exact .inr ⟨_, _, _, l, rfl, rfl, z, v⟩
theorem PTup.mono {K : PySem.W.Frag} {F H : Hp} {a : Addr} {vs : List V} (e : Evl.Ex F H) (h : PTup K F a vs) : PTup K H a vs := by
  rcases h with ⟨its, q⟩ | h
  · exact .inl ⟨its, e _ _ q⟩
  · exact .inr h
section
variable {X : Cx} {pins : List (Addr × Obj)} {σ : L2.St} {H : Hp} {s : Shared}
theorem tup_ok {P : Program} {w : World} {h : Heap} {a : Addr} {its : List Value} {vs : List V} (z : vs.length ≤ sizeLine) (r : Vals vs its) (g : h.get? a = some (tupObj its)) : ObjOk P w H h a (tupHO its vs) :=
  ⟨g, z, its, r, tupObj its, g, rfl, 0, rfl⟩
/-- a tuple comes to stand at the heap's end -/
theorem lay_tup {h' : Heap} {its : List Value} {vs : List V} {Q : VK} (I : Inv X pins σ H s) (k : ∀ b u, s.heap.get? b = some u → h'.get? b = some u) (z : vs.length ≤ sizeLine) (r : Vals vs its) (q : ∀ p its, H p = none → Q (.ref p) (upd H p (tupHO its vs))) :
    EP X pins σ Q (.ref h'.objs.size) { s with heap := h'.push (tupObj its) } := by
  have I1 : Inv X pins σ H { s with heap := h' } := I.kept (t' := s.toks) k
  refine ⟨.ref h'.objs.size, _, I1.laid (t' := s.toks) (o := tupHO its vs) (fun b u e => ?_) (Nat.le_refl _) (tup_ok z r ?_), rfl, q _ its (I1.hok.fresh (Nat.le_refl _))⟩
  · exact Heap.get?_push_of_some _ e
  · exact Heap.get?_push_size _ rfl
def tTupP (t : TA) : TE := fun σ H Q => t σ H fun xs H1 => xs.length ≤ sizeLine ∧ ∀ p its, H1 p = none → Q (.ref p) (upd H1 p (tupHO its xs))
theorem pe_tupP {es : List Expr} {x1 : Nat} {pos : Pos} {t : TA} (h : PA X es t) : PE X (.Tuple es x1 pos) (tTupP t) := by
  constructor
  intro pins s σ H Q I hq
  refine wpAny_Tuple_spliced (wpAny_mono (h.run pos pins s σ H _ I hq) (fun us s1 g => ?_) (fun _ _ x => x))
  obtain ⟨xs, H1, I1, r, z, q⟩ := g
  exact ⟨by rw [← r.length]; exact z, lay_tup I1 (fun _ _ e => e) z r q⟩
def rTupP (K : PySem.W.Frag) : List V → Hp → VK → Prop := fun xs H Q => ∃ p ys, xs = [.ref p] ∧ ((SqL K H p ys ∧ ∀ l its, H l = none → Q (.ref l) (upd H l (tupHO its ys))) ∨ (SqT K H p ys ∧ Q (.ref p) H))
theorem call_tupP : CallR X (.type "tuple") (rTupP X.K) := by
  intro pins s σ H xs us Q I r h
  obtain ⟨p, ys, rfl, h⟩ := h
  have e := Vals.ref1 r
  subst e
  rcases h with ⟨hq, q⟩ | ⟨hq, q⟩
  · obtain ⟨its, r', pl, hz⟩ := I.list hq
    refine call_tuple_list pl.isList (fun h' kp => lay_tup I kp hz r' q) ?_
    rw [List.size_toArray, ← r'.length]; exact hz
  · obtain ⟨its, r', pl, hz⟩ := I.tuple hq
    exact call_tuple_same pl ⟨.ref p, H, I, rfl, q⟩
def rCatP (K : PySem.W.Frag) : R2 := fun x y H Q => ∃ a b xs ys, x = .ref a ∧ y = .ref b ∧ SqT K H a xs ∧ SqT K H b ys ∧ xs.length + ys.length ≤ sizeLine ∧
  (xs = [] → Q (.ref b) H) ∧ (xs ≠ [] → ys = [] → Q (.ref a) H) ∧ (xs ≠ [] → ys ≠ [] → ∀ p its, H p = none → Q (.ref p) (upd H p (tupHO its (xs ++ ys))))
theorem op_catP : OpR X (binaryOp .Add) (rCatP X.K) := by
  intro pins s σ H x y v u Q I rx ry h
  obtain ⟨a, b, xs, ys, rfl, rfl, ha, hb, hz, q0, q1, q2⟩ := h
  obtain ⟨is1, r1, p1, _⟩ := I.tuple ha
  obtain ⟨is2, r2, p2, _⟩ := I.tuple hb
  cases rx; cases ry
  cases xs with
  | nil => cases r1; exact cat_tup0 p1 p2 ⟨.ref b, H, I, rfl, q0 rfl⟩
  | cons x0 xr =>
    have nx : x0 :: xr ≠ [] := List.cons_ne_nil _ _
    refine HT.cat_tup p1 p2 (fun z => ?_) (fun z => ?_) (fun z => ?_) ?_
    · rw [z] at r1; cases r1
    · rw [z] at r2; exact ⟨.ref a, H, I, rfl, q1 nx (by cases r2; rfl)⟩
    · refine lay_tup I (fun _ _ e => e) ?_ (r1.append r2) (q2 nx fun w => z ?_)
      · rw [List.length_append]; exact hz
      · rw [w] at r2; cases r2; rfl
    · rw [← r1.length, ← r2.length]; exact hz
def rSlP (K : PySem.W.Frag) : V → Option Int → Option Int → Hp → VK → Prop := fun x lo hi H Q => ∃ a xs, x = .ref a ∧ SqT K H a xs ∧
  (HT.sIx xs.length 0 lo = 0 ∧ HT.sIx xs.length xs.length hi = xs.length → Q (.ref a) H) ∧ (¬ (HT.sIx xs.length 0 lo = 0 ∧ HT.sIx xs.length xs.length hi = xs.length) → ∀ p its, H p = none → Q (.ref p) (upd H p (tupHO its (cutV xs lo hi))))
theorem sl_tupP : SlR X (rSlP X.K) := by
  intro pins s σ H x v vl vu lo hi sl Q I rx hs pl pu h
  obtain ⟨a, xs, rfl, hx, q1, q2⟩ := h
  cases rx
  obtain ⟨its, r, ht, hz⟩ := I.tuple hx
  have hlen : its.toArray.size = xs.length := by rw [List.size_toArray, ← r.length]
  refine ⟨"tuple", _, PyProof.Rows.slot_tuple_getitem.lookup, ht.typeIs, ?_⟩
  by_cases hw : HT.sIx xs.length 0 lo = 0 ∧ HT.sIx xs.length xs.length hi = xs.length
  · exact getItem_tuple_whole ht hs pl pu (by rw [hlen]; exact hw) ⟨.ref a, H, I, rfl, q1 hw⟩
  · refine HT.getItem_tuple_cut ht hs pl pu (by rw [hlen]; exact hw) ?_ (by rw [hlen]; exact hz)
    rw [hlen]
    exact lay_tup I (fun _ _ e => e) (Nat.le_trans (cutV_length xs lo hi) hz) ((r.drop _).take _) (q2 hw)
/-! ### sum, max of a tuple of ints -/
theorem old_new {h h' : Heap} {ob : Obj} (hk : ∀ b o, b ∉ [h.objs.size] → (h.push ob).get? b = some o → h'.get? b = some o) : ∀ b o, h.get? b = some o → h'.get? b = some o := fun b o e =>
  hk b o (by
    have := Heap.lt_size e
    simp only [List.mem_cons, List.not_mem_nil, or_false]
    exact fun z => Nat.lt_irrefl _ (z ▸ this)) (Heap.get?_push_of_some _ e)
theorem sum_tup {l : Addr} {its : List Value} {ns : List Int} {A : Around} {E : Value → Shared → Prop} {Q : Value → Shared → Prop} {P : Program} {w : World} (hh : A.handled = none) (hl : s.heap.IsTuple l its.toArray) (hi : IntsAre its ns)
    (h : ∀ h' tk t', (∀ b o, s.heap.get? b = some o → h'.get? b = some o) → Q (.int ns.sum t') { s with heap := h', toks := tk }) : wpAny (model P w) A (call (.builtin "sum") [.ref l]) Q E s := by
  obtain ⟨xs, e⟩ := hi.allInts.items
  have hn : numsOf (intItems xs).toList = ns := by rw [← e]; exact hi.numsOf
  rw [nums_intItems] at hn
  rw [e] at hl
  have hlt : l < s.heap.objs.size := by obtain ⟨_, e, _⟩ := hl; exact Heap.lt_size e
  refine call_sum_walkG (wpAny_pyIter_tuple hl ?_)
  refine ⟨_, _, _, _, _, _, numAt xs, rfl, Walks.tuple (A := A.in1) hh _ l (Nat.ne_of_lt hlt) (intItems xs), ⟨⟨_, Heap.get?_push_size _ rfl, rfl, rfl⟩, hl.push _⟩, fun b hb => ?_, (fun _ _ => intItems_at), fun h' tk t' hk => ?_⟩
  · show b < (s.heap.push _).objs.size
    rw [Heap.size_push]
    simp only [List.mem_cons, List.not_mem_nil, or_false] at hb
    rcases hb with rfl | rfl
    · exact Nat.lt_succ_self _
    · exact Nat.lt_succ_of_lt hlt
  · have q := h h' tk t' (old_new hk)
    rw [preSum_eq, List.take_of_length_le (by simp [intItems]), hn]; exact q
theorem max_tup {l : Addr} {its : List Value} {ns : List Int} {A : Around} {E : Value → Shared → Prop} {Q : Value → Shared → Prop} {P : Program} {w : World} (hh : A.handled = none) (hl : s.heap.IsTuple l its.toArray) (hi : IntsAre its ns) (hne : 0 < ns.length)
    (h : ∀ h' tk M t', (∀ b o, s.heap.get? b = some o → h'.get? b = some o) → M ∈ ns → (∀ a, a ∈ ns → a ≤ M) → Q (.int M t') { s with heap := h', toks := tk }) : wpAny (model P w) A (call (.builtin "max") [.ref l]) Q E s := by
  obtain ⟨xs, e⟩ := hi.allInts.items
  have hn : numsOf (intItems xs).toList = ns := by rw [← e]; exact hi.numsOf
  rw [nums_intItems] at hn
  subst hn
  rw [e] at hl
  have hlt : l < s.heap.objs.size := by obtain ⟨_, e, _⟩ := hl; exact Heap.lt_size e
  refine call_max_walk (wpAny_pyIter_tuple hl ?_)
  refine ⟨_, _, _, _, _, _, _, rfl, Walks.tuple (A := A.in1) hh _ l (Nat.ne_of_lt hlt) (intItems xs), ⟨⟨_, Heap.get?_push_size _ rfl, rfl, rfl⟩, hl.push _⟩, fun b hb => ?_, by simpa [intItems] using hne, CmpOf.ints_gt (numAt xs) (fun _ _ => intItems_at), fun v h' tk hP hk => ?_⟩
  · show b < (s.heap.push _).objs.size
    rw [Heap.size_push]
    simp only [List.mem_cons, List.not_mem_nil, or_false] at hb
    rcases hb with rfl | rfl
    · exact Nat.lt_succ_self _
    · exact Nat.lt_succ_of_lt hlt
  · have hv := hP
    simp only [intItems, Array.size_map] at hv
    obtain ⟨t, ev⟩ := intItems_at hP
    subst ev
    obtain ⟨h1, h2⟩ := argBest_gt (numAt xs) ((intItems xs).size - 1)
    have hsz : (intItems xs).size = xs.size := by simp [intItems]
    rw [hsz] at h1 h2 ⊢
    have hx : 0 < xs.size := by simpa using hne
    refine h h' tk _ t (old_new hk) ?_ fun a ha => ?_
    · rw [numAt_eq]; exact PySem.getD_mem (by simp only [List.length_map, Array.length_toList]; exact Nat.lt_of_le_of_lt h1 (Nat.sub_lt hx Nat.one_pos))
    · obtain ⟨j, hj, rfl⟩ := mem_getD ha
      rw [List.length_map, Array.length_toList] at hj
      rw [← numAt_eq]; exact h2 j (by omega)
def rSumT (K : PySem.W.Frag) : List V → Hp → VK → Prop := fun vs H Q => ∃ (a : Addr) (ns : List Int), vs = [V.ref a] ∧ SqT K H a (ns.map V.int) ∧ Q (.int ns.sum) H
def rMaxT (K : PySem.W.Frag) : List V → Hp → VK → Prop := fun vs H Q => ∃ (a : Addr) (ns : List Int), vs = [V.ref a] ∧ SqT K H a (ns.map V.int) ∧ 0 < ns.length ∧ ∀ m, m ∈ ns → (∀ y, y ∈ ns → y ≤ m) → Q (.int m) H
theorem call_sumT (hc : X.calm = true) : CallR X (.builtin "sum") (rSumT X.K) := by
  intro pins s σ H vs us Q I r h
  obtain ⟨a, ns, rfl, hs, q⟩ := h
  obtain ⟨its, rv, hl, _⟩ := I.tuple hs
  have e := Vals.ref1 r
  subst e
  exact sum_tup (I.ok.hd hc) hl rv.ints fun h' tk t' hk => ⟨.int _, H, I.kept hk, ⟨_, rfl⟩, q⟩
theorem call_maxT (hc : X.calm = true) : CallR X (.builtin "max") (rMaxT X.K) := by
  intro pins s σ H vs us Q I r h
  obtain ⟨a, ns, rfl, hs, hne, q⟩ := h
  obtain ⟨its, rv, hl, _⟩ := I.tuple hs
  have e := Vals.ref1 r
  subst e
  exact max_tup (I.ok.hd hc) hl rv.ints hne fun h' tk m t' hk h1 h2 => ⟨.int _, H, I.kept hk, ⟨_, rfl⟩, q m h1 h2⟩
/-! ### t.index(x), t a tuple that is known as an object -/
def tIndexT (K : PySem.W.Frag) (to : TE) (t : TA) : TE := fun σ H Q => to σ H fun x H1 => ∃ a vs, x = .ref a ∧ PTup K H1 a vs ∧ t σ H1 fun xs H2 => ∃ (y : V) (j : Nat) (z : V), PTup K H2 a vs ∧ xs = [y] ∧ flatV y = true ∧ vs.all flatV = true ∧ vs[j]? = some z ∧ eqV z y = true ∧
  (∀ (m : Nat) (z' : V), m < j → vs[m]? = some z' → eqV z' y = false) ∧ Q (.int (j : Nat)) H2
theorem ptup_at (I : Inv X pins σ H s) {a : Addr} {vs : List V} (h : PTup X.K H a vs) : ∃ its n sl, s.heap.get? a = some ⟨.type "tuple", none, .seq (List.toArray its) n, sl⟩ ∧ Vals vs its := by
  rcases h with ⟨its, e⟩ | ⟨its, n, sl, l, _, v⟩
  case inr => exact ⟨its.toList, n, sl, I.kIn _ _ l, v⟩
  obtain ⟨g, z, its', r, o, g', hc, n, hd⟩ := (show ObjOk X.prog X.w H s.heap a (tupHO its vs) from I.hok a _ e)
  rw [g] at g'; cases g'
  have e2 : its.toArray = its'.toArray := by injection hd
  have e3 : its = its' := by simpa using e2
  subst e3
  exact ⟨its, _, _, g, r⟩
theorem eqU_at {vs : List V} {its : List Value} {y : V} {uy : Value} (ry : RelV y uy) (fy : flatV y = true) (r : Vals vs its) (fv : vs.all flatV = true) {j : Nat} {z : V} (hz : vs[j]? = some z) : ∃ u, its[j]? = some u ∧ eqU y u = eqV z y := by
  obtain ⟨u, hu, ru⟩ := r.get hz
  exact ⟨u, hu, eqU_of ru (flat_at fv hz)⟩
theorem call_indexT (I : Inv X pins σ H s) {a : Addr} {vs : List V} {y z : V} {uy : Value} {j : Nat} {Q : VK} (h : PTup X.K H a vs) (ry : RelV y uy) (fy : flatV y = true) (fv : vs.all flatV = true) (hz : vs[j]? = some z) (hj : eqV z y = true)
    (hn : ∀ (m : Nat) (z' : V), m < j → vs[m]? = some z' → eqV z' y = false) (q : Q (.int (j : Nat)) H) : wpAny (model X.prog X.w) X.A (call (.builtin "tuple.index") [.ref a, uy]) (EP X pins σ Q) X.xe s := by
  obtain ⟨its, n0, sl, g, r⟩ := ptup_at I h
  have hl : its.toArray.size = vs.length := by rw [List.size_toArray, ← r.length]
  have jl : j < its.toArray.size := by rw [hl]; exact (List.getElem?_eq_some_iff.mp hz).1
  refine call_meets PySem.F.slot_tuple_index ⟨_, g, rfl⟩ PySem.F.entry_tuple_index (PySem.F.args_tuple_index_2 _ _) (TI.tuple_indexAt a its.toArray n0 none sl uy (eqU y) j jl ?_ ?_)
    ⟨g, fun w hw => mem_eqAt ry fy r fv w (by simpa using hw), ⟨.int (j : Nat), H, I.tok _, ⟨_, rfl⟩, q⟩⟩
  · obtain ⟨u, hu, e⟩ := eqU_at ry fy r fv hz
    have e2 : its.toArray[j] = u := by have := (List.getElem?_eq_some_iff.mp hu).2; simpa using this
    rw [e2, e]; exact hj
  · intro m hm hmj
    have hmv : m < vs.length := by rw [← hl]; exact hm
    obtain ⟨u, hu, e⟩ := eqU_at ry fy r fv (List.getElem?_eq_getElem hmv)
    have e2 : its.toArray[m] = u := by have := (List.getElem?_eq_some_iff.mp hu).2; simpa using this
    rw [e2, e]; exact hn m _ hmj (List.getElem?_eq_getElem hmv)
theorem pe_indexT {o e : Expr} {to : TE} {t : TA} {apos cpos : Pos} {name : Str} (ho : PE X o to) (ha : PA X [e] t) (hN : Slot "tuple" name "tuple.index")
    (hbase : attributeBase o name X.env (eval o X.env) = eval o X.env := by rfl)
    (hfew : ((backTo cpos (starEach [e] X.env)).all (fun x => !x.1) && (backToKw cpos (keywordEach [] X.env)).all (fun x => x.1.isSome) && decide ([e].length + ([] : List Keyword).length + (if ([] : List Keyword).isEmpty then 0 else 1) < 30)) = true := by rfl)
    (hline : (apos.endLine == cpos.line) = true := by rfl) (hs : starEach [e] X.env = (false, eval e X.env) :: starEach [] X.env := by rfl) (hplain : (backTo cpos (starEach [] X.env)).any (·.1) = false := by rfl) :
    PE X (.Call (.Attribute o name apos) [e] [] cpos) (tIndexT X.K to t) := by
  constructor
  intro pins s σ H Q I h
  refine wpAny_Call_method_late hbase hfew hline rfl (wpAny_mono (ho.run pins s σ H _ I h) (fun v s1 g => ?_) (fun _ _ x => x))
  obtain ⟨x, H1, I1, r1, a, vs, ex, pt, q1⟩ := g
  subst ex
  cases r1
  obtain ⟨its, _, _, ga, _⟩ := ptup_at I1 pt
  refine ⟨"tuple", "tuple.index", PySem.F.plainAttrs_tuple, hN, PySem.F.type_tuple_index, ⟨_, ga, rfl⟩, fun b eb => ?_, ?_⟩
  · cases eb; exact ⟨_, ga, rfl⟩
  · have hA := ha.run cpos pins s1 σ H1 _ I1 q1
    rw [hs] at hA ⊢
    refine Calls.callWith_builtin (by show (false || (backTo cpos (starEach [] X.env)).any (·.1)) = false; rw [hplain]; rfl) (Calls.evalArgs_plain ?_)
    refine wpAny_mono hA (fun us s2 g => ?_) (fun _ _ x => x)
    obtain ⟨ys, H2, I2, r2, y, j, z, pt2, ey, fy, fv, hz, hj, hn, q⟩ := g
    subst ey
    cases r2 with
    | cons ry rt => cases rt; exact call_indexT I2 pt2 ry fy fv hz hj hn q
end
end AL

/-! enumerate over a tuple. -/
namespace AL
open PySem PySem.Spec PyProof.Rows L2
abbrev tIterOb (l : Addr) : Obj := { cls := .type "tuple_iterator", data := .fields #[.ref l, .int 0 0] }
abbrev enumOb (i : Addr) : Obj := { cls := .type "enumerate", data := .fields #[.none, .bool false, .ref i, rawInt 0, .none, .none] }
set_option maxHeartbeats 1000000 in
theorem enum_newT (l : Addr) (its : Array Value) (n : Nat) (dc : Option Addr) (sl : Array (Option Value)) :
    Meets (Builtin.«enumerate.__new__» ⟨[.type "enumerate", .ref l], []⟩) (fun _ R s => s.heap.get? l = some { cls := .type "tuple", dict := dc, data := .seq its n, slots := sl } ∧
      R (.ok (.ret (.ref (s.heap.push (tIterOb l)).objs.size))) { s with heap := (s.heap.push (tIterOb l)).push (enumOb s.heap.objs.size) }) :=
  .of_wp fun prog w A R s hh => by
    obtain ⟨hp, g, d, tk, os⟩ := s
    obtain ⟨hl, h⟩ := hh
    have hsub := PySem.sub_enumerate
    have hT : Heap.IsTuple (Shared.heap ⟨hp, g, d, tk, os⟩) l its := ⟨_, hl, rfl, n, rfl⟩
    wp_walk using PySem.AutoSeq1.wpAny_loadPart' hl
    refine wpAny_stack_any fun st => ?_
    refine wpAny_pure ?_
    split
    · rename_i c _ _ _ _ _
      cases (c == Value.type "enumerate") <;> (wp_walk using PySem.AutoSeq1.wpAny_loadPart' hl, wpAny_pyIter_tuple hT; exact ⟨_, rfl, h⟩)
    · wp_walk using PySem.AutoSeq1.wpAny_loadPart' hl, wpAny_pyIter_tuple hT
      exact ⟨_, rfl, h⟩
/-- the tuple at a, an item a turn beside its place -/
def IteT (K : PySem.W.Frag) (a : Addr) : It where
  go := fun i H => ∃ (vs : List V) (v : V), SqT K H a vs ∧ vs[i]? = some v
  yld := fun i H r H' => ∃ T v, r = .ref T ∧ H T = none ∧ H' = upd H T (.tup [.int (i : Nat), v]) ∧ ∀ vs, SqT K H a vs → vs[i]? = some v
  stop := fun i H => ∃ vs : List V, SqT K H a vs ∧ vs.length ≤ i
def EnT (a e it : Addr) (i : Nat) (h : Heap) : Prop := (∃ old, IsEnum h e it ((i : Nat) : Int) old) ∧ h.IsTupleIter it a i ∧ e ≠ it ∧ a ≠ it ∧ a ≠ e
/-- a walk that is at its end, wherever that is -/
theorem draws_end {P : Program} {w : World} {A : Around} (hh : A.handled = none) (it t : Addr) (its : Array Value) (i : Nat) (hi : its[i]? = none) :
    Draws P w A it [it, t] i (fun _ _ => True) (fun j h => j = i ∧ h.IsTupleIter it t i ∧ h.IsTuple t its) where
  live := fun j h st => by
    obtain ⟨_, ⟨o, g, _⟩, _⟩ := st
    exact ⟨o, g⟩
  frame := fun j h h' st k => ⟨st.1, st.2.1.at fun o e => k it (by simp) o e, st.2.2.at fun o e => k t (by simp) o e⟩
  item := fun j s Q E hj st _ => absurd st.1 (Nat.ne_of_lt hj)
  done := fun s Q E st q => wpAny_nextOf_tuple_end hh st.2.1 st.2.2 hi q
section
variable {X : Cx}
theorem call_enumT {A : Around} {E : Value → Shared → Prop} {P : Program} {w : World} {s : Shared} {l : Addr} {its : Array Value} {Q : Value → Shared → Prop} (hl : s.heap.IsTuple l its)
    (q : ∀ h', EnT l (s.heap.objs.size + 1) s.heap.objs.size 0 h' → (∀ b o, s.heap.get? b = some o → h'.get? b = some o) → Q (.ref (s.heap.objs.size + 1)) { s with heap := h' }) : wpAny (model P w) A (call (.type "enumerate") [.ref l]) Q E s := by
  obtain ⟨⟨cls, dc, dt, sl⟩, g, hc, n, hd⟩ := hl
  simp only at hc hd
  subst hc hd
  have lt : l < s.heap.objs.size := Heap.lt_size g
  have z : (s.heap.push (tIterOb l)).objs.size = s.heap.objs.size + 1 := Heap.size_push ..
  refine callType_new F.called_enumerate (by decide) (F.typeCall_enumerate_1 _) (F.newCall_enumerate_1 _) (fun obj => F.args_object_init_2 obj _) F.entry_enumerate_new (enum_newT l its n dc sl) ⟨g, ?_⟩
  show _ ∧ _
  rw [z]
  have ge : ((s.heap.push (tIterOb l)).push (enumOb s.heap.objs.size)).get? (s.heap.objs.size + 1) = some (enumOb s.heap.objs.size) := by
    have y := Heap.get?_push_size (s.heap.push (tIterOb l)) (o := enumOb s.heap.objs.size) rfl
    rw [z] at y
    exact y
  refine ⟨⟨_, ge, rfl⟩, q _ ⟨⟨_, ge⟩, ⟨_, Heap.get?_push_of_some _ (Heap.get?_push_size _ rfl), rfl, rfl⟩, Nat.succ_ne_self _, Nat.ne_of_lt lt, Nat.ne_of_lt (Nat.lt_succ_of_lt lt)⟩ fun b o x => ?_⟩
  exact Heap.get?_push_of_some _ (Heap.get?_push_of_some _ x)
theorem turn_enumT {P : Program} {w : World} {K : PySem.W.Frag} {elts : List Expr} {kk : Nat} {tpos : Pos} (a e it : Addr) : Turn P w K (.Tuple elts kk tpos) (IteT K a) [e, it] e (EnT a e it) where
  mem := List.mem_cons_self
  obj := fun i h st b hb => by
    obtain ⟨⟨old, ge⟩, ⟨o, go, _, gd⟩, _⟩ := st
    rcases List.mem_cons.mp hb with z | z
    · subst z; exact ⟨_, ge, fun v q => nomatch q⟩
    · rw [List.mem_singleton] at z; subst z; exact ⟨o, go, fun v q => by rw [gd] at q; cases q⟩
  keep := fun i h h' st k => by
    obtain ⟨⟨old, ge⟩, gi, n1, n2⟩ := st
    exact ⟨⟨old, k e (by simp) _ ge⟩, gi.at fun o q => k it (by simp) o q, n1, n2⟩
  item := by
    intro X hP hw hK hc i pins s σ H E I hf st hg
    subst hP hw hK
    obtain ⟨⟨old, ge⟩, gi, n1, n2, n3⟩ := st
    obtain ⟨vs, v, hq, hv⟩ := hg
    obtain ⟨its, rv, p, hz⟩ := I.tuple hq
    obtain ⟨u, hu, ru⟩ := rv.get hv
    have le : e < s.heap.objs.size := Heap.lt_size ge
    have li : it < s.heap.objs.size := by obtain ⟨_, q, _⟩ := gi; exact Heap.lt_size q
    have hi : i < its.toArray.size := by have := (List.getElem?_eq_some_iff.mp hu).1; simpa using this
    refine wpAny_pyNext_enum_itemD (Draws.tuple (A := X.A.in1) (I.ok.hd hc) it a n2 its.toArray) ge ⟨gi, p⟩ hi n1 (by simp [n1, Ne.symm n3]) fun x h' tk hx ho st' hT hsz hk => ?_
    have ex : x = u := by
      have y : its.toArray[i]? = some u := by simpa using hu
      rw [y] at hx; exact (Option.some.inj hx).symm
    subst ex
    refine ⟨_, rfl, wpAny_letOwnedTupleGo_enum (s := { s with heap := h', toks := tk + 1 }) ho fun h2 ge2 sb => ?_⟩
    have kk2 : ∀ b ob, b ∉ [e, it] → s.heap.get? b = some ob → h2.get? b = some ob := fun b ob hb q => by
      have b1 : b ≠ e := fun z => hb (by simp [z])
      have b2 : b ≠ it := fun z => hb (by simp [z])
      exact (sb.2 b b1).trans (hk b ob b1 b2 q)
    have g2 : h2.get? s.heap.objs.size = some { cls := .type "tuple", data := .seq #[.int i tk, x] } := (sb.2 _ (Nat.ne_of_gt le)).trans hT
    have new : ObjOk X.prog X.w (upd H s.heap.objs.size (.tup [.int (i : Nat), v])) h2 s.heap.objs.size (.tup [.int (i : Nat), v]) := by
      refine ⟨?_, [.int i tk, x], .cons ⟨_, rfl⟩ (.cons ru .nil), _, g2, rfl, _, rfl⟩
      show 2 ≤ sizeLine
      decide
    have I2 := I.turnedNew (t' := tk + 1) kk2 hf (Nat.le_refl _) new
    refine ⟨.ref s.heap.objs.size, _, I2, rfl, ⟨_, v, rfl, I.hok.fresh (Nat.le_refl _), rfl, fun ws hw => by rw [I.tuple_inj hw hq]; exact hv⟩, ⟨⟨x, ?_⟩, st'.1.at fun o q => (sb.2 it (Ne.symm n1)).trans q, n1, n2, n3⟩, fun b hb => ?_⟩
    · rw [show ((i + 1 : Nat) : Int) = (i : Int) + 1 by omega]
      exact ge2
    · have lb : b < s.heap.objs.size := by
        rcases List.mem_cons.mp hb with z | z
        · subst z; exact le
        · rw [List.mem_singleton] at z; subst z; exact li
      rw [upd_ne (Nat.ne_of_lt lb)]
      exact (hf b hb).1
  done := by
    intro X hP hw hK hc i pins s σ H E I hf st hg
    subst hP hw hK
    obtain ⟨⟨old, ge⟩, gi, n1, n2, n3⟩ := st
    obtain ⟨vs, hq, hv⟩ := hg
    obtain ⟨its, rv, p, hz⟩ := I.tuple hq
    obtain ⟨f0, f1, f2, f3, f4, f5⟩ := hf it (by simp)
    have no : its.toArray[i]? = none := by
      have := rv.length
      simp only [List.getElem?_toArray]
      exact List.getElem?_eq_none (by omega)
    refine wpAny_pyNext_enum_endD (draws_end (A := X.A.in1) (I.ok.hd hc) it a its.toArray i no) ge ⟨rfl, gi, p⟩ fun h' eb => ⟨rfl, ?_⟩
    exact I.turned (t' := s.toks) (fun b o hb q => eb b o hb q) f0 f1 f3 f4 f5
  self := fun A i s Q E st q => by
    obtain ⟨⟨old, ge⟩, _⟩ := st
    exact wpAny_pyIter_enum ge q
/-- enumerate of a list or a tuple -/
def iEnumA (K : PySem.W.Frag) (ta : TA) : TI := orI (iEnum K ta) fun σ H R => ta σ H fun vs H1 => ∃ a xs, vs = [.ref a] ∧ SqT K H1 a xs ∧ R (IteT K a) H1
theorem pi_enumA {e : Expr} {ta : TA} {p pos tpos : Pos} {elts : List Expr} {kk : Nat} (hg : Gl X "enumerate") (hm : X.mg "enumerate" = none) (ha : PA X [e] ta) (hs : starEach [e] X.env = [(false, eval e X.env)] := by rfl) :
    PI X (.Tuple elts kk tpos) (.Call (.Name "enumerate" p) [e] [] pos) (iEnumA X.K ta) := by
  refine pi_or (pi_enum hg hm ha hs) ⟨fun pins s σ H R I h => ?_⟩
  refine Call_ (ld_blt I hg hm boot_enumerate (PyProof.Rows.callWith_type1 (wpAny_mono (ha.run pos pins s σ H _ I h) (fun us s1 g => ?_) (fun _ _ x => x)) hs rfl))
  obtain ⟨vs, H1, I1, r1, a, xs, ex, hq, q⟩ := g
  subst ex
  have e1 := Vals.ref1 r1
  subst e1
  obtain ⟨its, rv, p', hz⟩ := I1.tuple hq
  refine call_enumT p' fun h' st hk => ?_
  obtain ⟨⟨old, ge⟩, gi, n1, n2, n3⟩ := id st
  have lz : s1.heap.objs.size ≤ s1.heap.objs.size + 1 := Nat.le_succ _
  refine wpAny_pyIter_enum ge ⟨s1.heap.objs.size + 1, [s1.heap.objs.size + 1, s1.heap.objs.size], _, _, H1, rfl, I1.kept (t' := s1.toks) hk, turn_enumT a _ _, st, fun b hb => ?_, q⟩
  rcases List.mem_cons.mp hb with z | z
  · subst z; exact I1.fpOk lz (I1.hok.fresh lz)
  · rw [List.mem_singleton] at z; subst z; exact I1.fpOk (Nat.le_refl _) (I1.hok.fresh (Nat.le_refl _))
end
end AL

/-! zip of a tuple and a list. -/
namespace AL
open PySem PySem.Spec PyProof.Rows L2
abbrev lIterOb (l : Addr) : Obj := { cls := .type "list_iterator", data := .fields #[.ref l, .int 0 0] }
abbrev zH1 (h : Heap) (a : Addr) : Heap := h.push (tIterOb a)
abbrev zH2 (h : Heap) (a b : Addr) : Heap := (zH1 h a).push (lIterOb b)
abbrev zH3 (h : Heap) (a b : Addr) : Heap := (zH2 h a b).push { cls := .type "tuple", data := .seq #[.ref h.objs.size, .ref (zH1 h a).objs.size] }
abbrev zH4 (h : Heap) (a b : Addr) : Heap := (zH3 h a b).push { cls := .type "tuple", data := .seq #[.none, .none] }
abbrev zH5 (h : Heap) (a b : Addr) : Heap := (zH4 h a b).push { cls := .type "zip", data := .fields #[.none, .bool false, .bool false, .ref (zH2 h a b).objs.size, .ref (zH3 h a b).objs.size] }
set_option maxHeartbeats 1000000 in
theorem zip_newM (a b : Addr) (xs ys : Array Value) :
    Meets (Builtin.«zip.__new__» ⟨[.type "zip", .ref a, .ref b], []⟩) (fun _ R s => s.heap.IsTuple a xs ∧ s.heap.IsList b ys ∧ R (.ok (.ret (.ref (zH4 s.heap a b).objs.size))) { s with heap := zH5 s.heap a b }) :=
  .of_wp fun prog w A R s hh => by
    obtain ⟨hp, g, d, tk, os⟩ := s
    obtain ⟨ha, hb, h⟩ := hh
    have hsub := sub_zip
    have hA : Heap.IsTuple (Shared.heap ⟨hp, g, d, tk, os⟩) a xs := ha
    have hB : Heap.IsList (Shared.heap ⟨hp.push (tIterOb a), g, d, tk, os⟩) b ys := Heap.IsList.push hb _
    wp_walk using wpAny_pyIter_tuple hA, wpAny_pyIter_list hB
    exact ⟨_, rfl, h⟩
section
variable {X : Cx}
/-- the cells of the zip at n: the two walks, what they are kept in, the zip -/
structure ZmSt (a b n : Addr) (i : Nat) (h : Heap) : Prop where
  z : IsZip h (n + 4) (n + 2) (n + 3) .none
  ti : IsPair h (n + 2) (.ref n) (.ref (n + 1))
  tO : ∃ x y, IsPair h (n + 3) x y
  i1 : h.IsTupleIter n a i
  i2 : h.IsListIter (n + 1) b i
theorem call_zipM {A : Around} {E : Value → Shared → Prop} {P : Program} {w : World} {s : Shared} {a b : Addr} {xs ys : Array Value} {Q : Value → Shared → Prop} (ha : s.heap.IsTuple a xs) (hb : s.heap.IsList b ys)
    (q : ∀ h', ZmSt a b s.heap.objs.size 0 h' → (∀ c o, s.heap.get? c = some o → h'.get? c = some o) → Q (.ref (s.heap.objs.size + 4)) { s with heap := h' }) : wpAny (model P w) A (call (.type "zip") [.ref a, .ref b]) Q E s := by
  refine callType_new F.called_zip (by decide) (F.typeCall_zip_2 _ _) (F.newCall_zip_2 _ _) (fun o => F.args_object_init_3 o _ _) F.entry_zip_new (zip_newM a b xs ys) ⟨ha, hb, ?_⟩
  generalize hh : s.heap = hp at *
  have z1 : (zH1 hp a).objs.size = hp.objs.size + 1 := Heap.size_push ..
  have z2 : (zH2 hp a b).objs.size = hp.objs.size + 2 := by rw [Heap.size_push, z1]
  have z3 : (zH3 hp a b).objs.size = hp.objs.size + 3 := by rw [Heap.size_push, z2]
  have z4 : (zH4 hp a b).objs.size = hp.objs.size + 4 := by rw [Heap.size_push, z3]
  have p : ∀ {k : Heap} {o : Obj} {c : Addr} {u : Obj}, k.get? c = some u → (k.push o).get? c = some u := fun e => Heap.get?_push_of_some _ e
  have g5 : (zH5 hp a b).get? (zH4 hp a b).objs.size = some _ := Heap.get?_push_size _ rfl
  have g4 : (zH5 hp a b).get? (zH3 hp a b).objs.size = some _ := p (Heap.get?_push_size _ rfl)
  have g3 : (zH5 hp a b).get? (zH2 hp a b).objs.size = some _ := p (p (Heap.get?_push_size _ rfl))
  have g2 : (zH5 hp a b).get? (zH1 hp a).objs.size = some _ := p (p (p (Heap.get?_push_size _ rfl)))
  have g1 : (zH5 hp a b).get? hp.objs.size = some _ := p (p (p (p (Heap.get?_push_size _ rfl))))
  show _ ∧ _
  rw [z2, z3, z4] at g5
  rw [z1, z2] at g3
  rw [z3] at g4
  rw [z1] at g2
  rw [z4]
  exact ⟨⟨_, g5, rfl⟩, q _ ⟨g5, g3, ⟨_, _, g4⟩, ⟨_, g1, rfl, rfl⟩, ⟨_, g2, rfl, rfl⟩⟩ fun c o x => p (p (p (p (p x))))⟩
/-- the tuple at a and the list at b, an item of each a turn -/
def ItM (K : PySem.W.Frag) (a b : Addr) : It where
  go := fun i H => ∃ (vs ws : List V) (v u : V), SqT K H a vs ∧ SqL K H b ws ∧ vs[i]? = some v ∧ ws[i]? = some u
  yld := fun i H r H' => ∃ T v u, r = .ref T ∧ H T = none ∧ H' = upd H T (.tup [v, u]) ∧ (∀ vs, SqT K H a vs → vs[i]? = some v) ∧ ∀ ws, SqL K H b ws → ws[i]? = some u
  stop := fun i H => ∃ vs ws : List V, SqT K H a vs ∧ SqL K H b ws ∧ (vs.length ≤ i ∨ ws.length ≤ i)
def zCells (n : Addr) : List Addr := [n + 4, n + 2, n + 3, n, n + 1]
theorem zCells_in {n c : Addr} (h : c ∈ zCells n) : c = n + 4 ∨ c = n + 2 ∨ c = n + 3 ∨ c = n ∨ c = n + 1 := by
  simpa [zCells] using h
theorem draws_endL {P : Program} {w : World} {A : Around} (hh : A.handled = none) (it t : Addr) (its : Array Value) (i : Nat) (hi : its[i]? = none) :
    Draws P w A it [it, t] i (fun _ _ => True) (fun j h => j = i ∧ h.IsListIter it t i ∧ h.IsList t its) where
  live := fun j h st => by
    obtain ⟨_, ⟨o, g, _⟩, _⟩ := st
    exact ⟨o, g⟩
  frame := fun j h h' st k => ⟨st.1, st.2.1.at fun o e => k it (by simp) o e, st.2.2.at fun o e => k t (by simp) o e⟩
  item := fun j s Q E hj st _ => absurd st.1 (Nat.ne_of_lt hj)
  done := fun s Q E st q => wpAny_nextOf_list_end hh st.2.1 st.2.2 hi q
theorem sepM {a b n : Nat} (la : a < n) (lb : b < n) : ZipSep2 (n + 4) (n + 2) (n + 3) n (n + 1) [n, a] [n + 1, b] := by
  have k : ∀ {x y c : Nat}, x ≠ c → x ≠ y → x ∉ [c, y] := fun h1 h2 h => by
    rcases List.mem_cons.mp h with z | z
    · exact h1 z
    · rw [List.mem_singleton] at z; exact h2 z
  constructor <;> first
    | exact List.mem_cons_self
    | exact (show (_ : Nat) ≠ (_ : Nat) by omega)
    | exact k (by omega) (by omega)
theorem turn_zipM {P : Program} {w : World} {K : PySem.W.Frag} {elts : List Expr} {kk : Nat} {tpos : Pos} {a b n : Addr} (la : a < n) (lb : b < n) : Turn P w K (.Tuple elts kk tpos) (ItM K a b) (zCells n) (n + 4) (ZmSt a b n) where
  mem := List.mem_cons_self
  obj := fun i h st c hc => by
    obtain ⟨gz, gi, ⟨x, y, gO⟩, ⟨o1, e1, _, d1⟩, ⟨o2, e2, _, d2⟩⟩ := st
    rcases zCells_in hc with q | q | q | q | q <;> subst q
    · exact ⟨_, gz, fun v q => nomatch q⟩
    · exact ⟨_, gi, fun v q => nomatch q⟩
    · exact ⟨_, gO, fun v q => nomatch q⟩
    · exact ⟨o1, e1, fun v q => by rw [d1] at q; cases q⟩
    · exact ⟨o2, e2, fun v q => by rw [d2] at q; cases q⟩
  keep := fun i h h' st k => by
    obtain ⟨gz, gi, ⟨x, y, gO⟩, s1, s2⟩ := st
    exact ⟨k _ (by simp [zCells]) _ gz, k _ (by simp [zCells]) _ gi, ⟨x, y, k _ (by simp [zCells]) _ gO⟩, s1.at fun o q => k _ (by simp [zCells]) o q, s2.at fun o q => k _ (by simp [zCells]) o q⟩
  item := by
    intro X hP hw hK hc i pins s σ H E I hf st hg
    subst hP hw hK
    obtain ⟨gz, gi, ⟨x0, y0, gO⟩, s1, s2⟩ := st
    obtain ⟨vs, ws, v, u, hq1, hq2, hv, hu⟩ := hg
    obtain ⟨is1, r1, p1, _⟩ := I.tuple hq1
    obtain ⟨is2, r2, p2, _⟩ := I.list hq2
    obtain ⟨v1, g1, rv1⟩ := r1.get hv
    obtain ⟨v2, g2, rv2⟩ := r2.get hu
    have l1 : i < is1.toArray.size := by have := (List.getElem?_eq_some_iff.mp g1).1; simpa using this
    have l2 : i < is2.toArray.size := by have := (List.getElem?_eq_some_iff.mp g2).1; simpa using this
    have hd := I.ok.hd hc
    have ln : n < s.heap.objs.size := by obtain ⟨_, e, _⟩ := s1; exact Heap.lt_size e
    have lz : n + 4 < s.heap.objs.size := Heap.lt_size gz
    refine wpAny_pyNext_zipD2_item (sepM la lb) (Draws.tuple (A := X.A.in1) hd n a (Nat.ne_of_lt la) is1.toArray) (Draws.list (A := X.A.in1) hd (n + 1) b (Nat.ne_of_lt (Nat.lt_succ_of_lt lb)) is2.toArray) gz gi gO ⟨s1, p1⟩ ⟨s2, p2.isList⟩ l1 l2 fun x1 x2 h' tk e1 e2 z' O' t1 t2 hT hsz hk => ?_
    have y1 : x1 = v1 := by
      have y : is1.toArray[i]? = some v1 := by simpa using g1
      rw [y] at e1; exact (Option.some.inj e1).symm
    have y2 : x2 = v2 := by
      have y : is2.toArray[i]? = some v2 := by simpa using g2
      rw [y] at e2; exact (Option.some.inj e2).symm
    subst y1 y2
    refine ⟨_, rfl, wpAny_letOwnedTupleGo_zip (s := { s with heap := h', toks := tk }) z' fun h2 z2 sb => ?_⟩
    have kk2 : ∀ c o, c ∉ zCells n → s.heap.get? c = some o → h2.get? c = some o := fun c o hc q => by
      have b1 : c ≠ n + 4 := fun z => hc (by simp [zCells, z])
      have b2 : c ≠ n + 3 := fun z => hc (by simp [zCells, z])
      have b3 : c ≠ n := fun z => hc (by simp [zCells, z])
      have b4 : c ≠ n + 1 := fun z => hc (by simp [zCells, z])
      exact (sb.2 c b1).trans (hk c o b1 b2 b3 b4 q)
    have gT : h2.get? s.heap.objs.size = some { cls := .type "tuple", data := .seq #[x1, x2] } := (sb.2 _ (Nat.ne_of_gt lz)).trans hT
    have new : ObjOk X.prog X.w (upd H s.heap.objs.size (.tup [v, u])) h2 s.heap.objs.size (.tup [v, u]) := by
      refine ⟨?_, [x1, x2], .cons rv1 (.cons rv2 .nil), _, gT, rfl, _, rfl⟩
      show 2 ≤ sizeLine
      decide
    have I2 := I.turnedNew (t' := tk) kk2 hf (Nat.le_refl _) new
    have ne : ∀ k : Nat, k ≠ 4 → n + k ≠ n + 4 := fun k hk z => hk (Nat.add_left_cancel z)
    refine ⟨.ref s.heap.objs.size, _, I2, rfl, ⟨_, v, u, rfl, I.hok.fresh (Nat.le_refl _), rfl, fun l hl => by rw [I.tuple_inj hl hq1]; exact hv, fun l hl => by rw [I.list_inj hl hq2]; exact hu⟩, ⟨z2, ?_, ⟨x1, x2, ?_⟩, ?_, ?_⟩, fun c hcm => ?_⟩
    · exact (sb.2 _ (ne 2 (by decide))).trans (hk _ _ (ne 2 (by decide)) (fun z => absurd (Nat.add_left_cancel z) (by decide)) (fun z => absurd (Nat.add_left_cancel (k := 0) (n := n) z) (by decide)) (fun z => absurd (Nat.add_left_cancel z) (by decide)) gi)
    · exact (sb.2 _ (ne 3 (by decide))).trans O'
    · exact t1.1.at fun o q => (sb.2 _ (ne 0 (by decide))).trans q
    · exact t2.1.at fun o q => (sb.2 _ (ne 1 (by decide))).trans q
    · have lc : c < s.heap.objs.size := by
        rcases zCells_in hcm with q | q | q | q | q <;> subst q
        · exact lz
        · exact Heap.lt_size gi
        · exact Heap.lt_size gO
        · exact ln
        · obtain ⟨_, e, _⟩ := s2; exact Heap.lt_size e
      rw [upd_ne (Nat.ne_of_lt lc)]
      exact (hf c hcm).1
  done := by
    intro X hP hw hK hc i pins s σ H E I hf st hg
    subst hP hw hK
    obtain ⟨gz, gi, ⟨x0, y0, gO⟩, s1, s2⟩ := st
    obtain ⟨vs, ws, hq1, hq2, he⟩ := hg
    obtain ⟨is1, r1, p1, _⟩ := I.tuple hq1
    obtain ⟨is2, r2, p2, _⟩ := I.list hq2
    have e1 := r1.length
    have e2 := r2.length
    have hd := I.ok.hd hc
    have fin : ∀ h' (tk : Nat), (∀ c o, c ≠ n + 4 → c ≠ n + 3 → c ≠ n → c ≠ n + 1 → s.heap.get? c = some o → h'.get? c = some o) → Inv X pins σ H { s with heap := h', toks := tk } := fun h' tk hk =>
      I.turnedL (ch := zCells n) (fun c o hb q => hk c o (fun z => hb (by simp [zCells, z])) (fun z => hb (by simp [zCells, z])) (fun z => hb (by simp [zCells, z])) (fun z => hb (by simp [zCells, z])) q) hf
    have no1 : vs.length ≤ i → is1.toArray[i]? = none := fun h => by simp only [List.getElem?_toArray]; exact List.getElem?_eq_none (by omega)
    have no2 : ws.length ≤ i → is2.toArray[i]? = none := fun h => by simp only [List.getElem?_toArray]; exact List.getElem?_eq_none (by omega)
    have na : a ≠ n := Nat.ne_of_lt la
    have nb : b ≠ n + 1 := Nat.ne_of_lt (Nat.lt_succ_of_lt lb)
    by_cases c1 : vs.length ≤ i
    · have D1 := draws_end (P := X.prog) (w := X.w) (A := X.A.in1) hd n a is1.toArray i (no1 c1)
      by_cases c2 : ws.length ≤ i
      · exact wpAny_pyNext_zipD2_end (sepM la lb) D1 (draws_endL (A := X.A.in1) hd (n + 1) b is2.toArray i (no2 c2)) gz gi gO ⟨rfl, s1, p1⟩ ⟨rfl, s2, p2.isList⟩ (Nat.le_refl _) (Nat.le_refl _) (.inl rfl) fun h' tk hk => ⟨rfl, fin h' tk hk⟩
      · exact wpAny_pyNext_zipD2_end (sepM la lb) D1 (Draws.list (A := X.A.in1) hd (n + 1) b nb is2.toArray) gz gi gO ⟨rfl, s1, p1⟩ ⟨s2, p2.isList⟩ (Nat.le_refl _) (by simp; omega) (.inl rfl) fun h' tk hk => ⟨rfl, fin h' tk hk⟩
    · have c2 : ws.length ≤ i := he.elim (fun z => absurd z c1) id
      exact wpAny_pyNext_zipD2_end (sepM la lb) (Draws.tuple (A := X.A.in1) hd n a na is1.toArray) (draws_endL (A := X.A.in1) hd (n + 1) b is2.toArray i (no2 c2)) gz gi gO ⟨s1, p1⟩ ⟨rfl, s2, p2.isList⟩ (by simp; omega) (Nat.le_refl _) (.inr rfl) fun h' tk hk => ⟨rfl, fin h' tk hk⟩
  self := fun A i s Q E st q => wpAny_pyIter_zip st.z q
def iZipM (K : PySem.W.Frag) (ta : TA) : TI := fun σ H R => ta σ H fun vs H1 => ∃ a b xs ys, vs = [.ref a, .ref b] ∧ SqT K H1 a xs ∧ SqL K H1 b ys ∧ R (ItM K a b) H1
theorem pi_zipM {e e2 : Expr} {ta : TA} {p pos tpos : Pos} {elts : List Expr} {kk : Nat} (hg : Gl X "zip") (hm : X.mg "zip" = none) (ha : PA X [e, e2] ta)
    (hs : starEach [e, e2] X.env = (false, eval e X.env) :: starEach [e2] X.env := by rfl) (hpl : (backTo pos (starEach [e2] X.env)).any (·.1) = false := by rfl) : PI X (.Tuple elts kk tpos) (.Call (.Name "zip" p) [e, e2] [] pos) (iZipM X.K ta) := by
  constructor
  intro pins s σ H R I h
  refine Call_ (ld_blt I hg hm PyProof.Rows.boot_zip (PyProof.Rows.callWith_type1 (wpAny_mono (ha.run pos pins s σ H _ I h) (fun us s1 g => ?_) (fun _ _ x => x)) hs hpl))
  obtain ⟨vs, H1, I1, r1, a, b, xs, ys, ex, hx, hy, q⟩ := g
  subst ex
  have e1 : us = [Value.ref a, Value.ref b] := by
    cases r1 with
    | cons q1 t => cases t with | cons q2 t => cases t; cases q1; cases q2; rfl
  subst e1
  obtain ⟨is1, rv1, p1, _⟩ := I1.tuple hx
  obtain ⟨is2, rv2, p2, _⟩ := I1.list hy
  have la : a < s1.heap.objs.size := by obtain ⟨_, e, _⟩ := id p1; exact Heap.lt_size e
  refine call_zipM p1 p2.isList fun h' st hk => wpAny_pyIter_zip st.z ⟨_, zCells s1.heap.objs.size, _, _, H1, rfl, I1.kept (t' := s1.toks) hk, turn_zipM la p2.lt, st, fun c hc => ?_, q⟩
  have lc : s1.heap.objs.size ≤ c := by
    rcases zCells_in hc with q | q | q | q | q <;> subst q <;> first | exact Nat.le_refl _ | exact Nat.le_add_right _ _
  exact I1.fpOk lc (I1.hok.fresh lc)
def iZipAA (K : PySem.W.Frag) (ta : TA) : TI := orI (RZ.iZipA K ta) (iZipM K ta)
theorem pi_zipAA {e e2 : Expr} {ta : TA} {p pos tpos : Pos} {elts : List Expr} {kk : Nat} (hg : Gl X "zip") (hm : X.mg "zip" = none) (ha : PA X [e, e2] ta)
    (hs : starEach [e, e2] X.env = (false, eval e X.env) :: starEach [e2] X.env := by rfl) (hpl : (backTo pos (starEach [e2] X.env)).any (·.1) = false := by rfl) : PI X (.Tuple elts kk tpos) (.Call (.Name "zip" p) [e, e2] [] pos) (iZipAA X.K ta) := pi_or (RZ.pi_zipA hg hm ha hs hpl) (pi_zipM hg hm ha hs hpl)
end
end AL

/-! Dicts whose keys are tuples of ints, the keys' tuples known as objects. -/
namespace AL
open PySem PySem.Spec PyProof.Rows L2
abbrev TK := List (List Int × Addr × V)
def valT (kva : TK) (k : List Int) : Option V := (kva.find? fun x => decide (x.1 = k)).map (·.2.2)
def putT1 (kva : TK) (k : List Int) (b : Addr) (v : V) : TK :=
  if (kva.any fun x => decide (x.1 = k)) = true then kva.map (fun x => if x.1 = k then (x.1, x.2.1, v) else x) else kva ++ [(k, b, v)]
abbrev KTo : List Int × Addr × V → List Int × Addr × Value → Prop := fun p q => p.1 = q.1 ∧ p.2.1 = q.2.1 ∧ RelV p.2.2 q.2.2
abbrev KTs (kva : TK) (xs : List (List Int × Addr × Value)) : Prop := Paired KTo kva xs
def DE (a : Addr) (kva : TK) : Heap → Prop := fun h => kva.length ≤ sizeLine ∧ (a == sysModules) = false ∧ ∃ xs, KTs kva xs ∧ ∃ o es ep, h.get? a = some o ∧ o.ExactDict ∧ o.data = .dict es ep ∧
  (∀ (P : Program) (w : World), es.toList = xs.map (entryOfKey (tupleKind (PySem.intKind P w)))) ∧ (xs.map (·.1)).Nodup
def dE (a : Addr) (kva : TK) : HO := .ext (DE a kva)
theorem KTs.val {kva : TK} {xs : List (List Int × Addr × Value)} (r : KTs kva xs) (k : List Int) : RelO (valT kva k) ((atKey xs k).map (·.2)) := by
  induction r with
  | nil => exact True.intro
  | @cons p q ps qs h t ih =>
    obtain ⟨h1, _, h2⟩ := h
    by_cases e : p.1 = k
    · have e' : q.1 = k := h1.symm.trans e
      have b : atKey (q :: qs) k = some q.2 := by simp [atKey, List.find?_cons, e']
      have b2 : valT (p :: ps) k = some p.2.2 := by simp [valT, List.find?_cons, e]
      rw [b, b2]; exact h2
    · have e' : ¬ q.1 = k := fun z => e (h1.trans z)
      have b : atKey (q :: qs) k = atKey qs k := by simp [atKey, List.find?_cons, e']
      have b2 : valT (p :: ps) k = valT ps k := by simp [valT, List.find?_cons, e]
      rw [b, b2]; exact ih
theorem any_find (k : List Int) : ∀ kva : TK, (kva.any fun x => decide (x.1 = k)) = (kva.find? fun x => decide (x.1 = k)).isSome
  | [] => rfl
  | x :: r => by
    rw [List.any_cons, List.find?_cons]
    cases decide (x.1 = k) with
    | true => rfl
    | false => simpa using any_find k r
theorem KTs.any {kva : TK} {xs : List (List Int × Addr × Value)} (r : KTs kva xs) (k : List Int) : (kva.any fun x => decide (x.1 = k)) = (atKey xs k).isSome := by
  have h := (r.val k).isSome_eq
  rw [Option.isSome_map] at h
  rw [← h]
  unfold valT
  rw [Option.isSome_map]
  exact any_find k kva
theorem KTs.put {kva : TK} {xs : List (List Int × Addr × Value)} (r : KTs kva xs) (k : List Int) {b : Addr} {y : V} {u : Value} (ry : RelV y u) : KTs (putT1 kva k b y) (storedH xs k b u) := by
  unfold putT1 storedH
  rw [r.any k]
  by_cases q : (atKey xs k).isSome = true
  · rw [if_pos q, if_pos q]
    clear q
    induction r with
    | nil => exact .nil
    | @cons p q ps qs h t ih =>
      rw [List.map_cons, List.map_cons]
      refine .cons ?_ ih
      obtain ⟨h1, h2, h3⟩ := h
      unfold putAt
      by_cases e : p.1 = k
      · rw [if_pos e, if_pos (h1.symm.trans e)]; exact ⟨by first | exact h1 | exact e, h2, ry⟩
      · rw [if_neg e, if_neg (fun z => e (h1.trans z))]; exact ⟨h1, h2, h3⟩
  · rw [if_neg q, if_neg q]; exact Paired.snoc r ⟨rfl, rfl, ry⟩
theorem putT1_len (kva : TK) (k : List Int) (b : Addr) (v : V) : (putT1 kva k b v).length ≤ kva.length + 1 := by
  unfold putT1
  split
  · rw [List.length_map]; omega
  · rw [List.length_append]; simp
section
variable {X : Cx} {pins : List (Addr × Obj)} {σ : L2.St} {H : Hp} {s : Shared} {a : Addr} {y v : V} {u r : Value} {o : Option V} {A : Around} {E : Value → Shared → Prop}
theorem de_ok {P : Program} {w : World} {h : Heap} {kva : TK} (x : DE a kva h) : ObjOk P w H h a (dE a kva) :=
  ⟨x, let ⟨_, _, _, _, o, _, _, g, _⟩ := x; ⟨o, g⟩, fun h1 h2 y k => let ⟨z, d, xs, r, o, es, ep, g, c⟩ := y; ⟨z, d, xs, r, o, es, ep, k o g, c⟩⟩
theorem items_int {P : Program} {w : World} : ∀ {ks : List Int} {us : List Value}, Vals (ks.map V.int) us → ItemsAre (PySem.intKind P w) ks us
  | [], _, r => by rw [List.map_nil] at r; cases r; exact .nil
  | k :: ks, _, r => by
    rw [List.map_cons] at r
    cases r with
    | cons h t =>
      obtain ⟨t', e⟩ := (show ∃ t, _ = Value.int k t from h)
      subst e
      exact .cons (by simp [PySem.intKind, Value.isInt]) (items_int t)
theorem keyT_of (I : Inv X pins σ H s) {b : Addr} {k : List Int} (h : PTup X.K H b (k.map .int)) : (tupleKind (PySem.intKind X.prog X.w)).is s.heap k b := by
  obtain ⟨its, n, sl, g, r⟩ := ptup_at I h
  exact ⟨_, its.toArray, n, g, rfl, rfl, by simpa using items_int r⟩
theorem de_of (I : Inv X pins σ H s) {kva : TK} (e : H a = some (dE a kva)) (hk : ∀ x ∈ kva, PTup X.K H x.2.1 (x.1.map .int)) : kva.length ≤ sizeLine ∧ (a == sysModules) = false ∧
    ∃ xs, KTs kva xs ∧ s.heap.DictOfH (tupleKind (PySem.intKind X.prog X.w)) a xs := by
  obtain ⟨⟨z, d, xs, r, o, es, ep, h1, h2, h3, h4, h5⟩, _⟩ := (show ObjOk X.prog X.w H s.heap a (dE a kva) from I.hok a _ e)
  refine ⟨z, d, xs, r, o, es, ep, h1, h2, h3, h4 _ _, ?_, h5⟩
  have all : ∀ {l : TK} {m : List (List Int × Addr × Value)}, KTs l m → (∀ x ∈ l, PTup X.K H x.2.1 (x.1.map .int)) → ∀ x ∈ m, (tupleKind (PySem.intKind X.prog X.w)).is s.heap x.1 x.2.1 := by
    intro l m q
    induction q with
    | nil => intro _ x hx; exact nomatch hx
    | @cons p q ps qs hq t ih =>
      intro hl x hx
      rcases List.mem_cons.mp hx with e | hx
      · subst e
        rw [← hq.1, ← hq.2.1]
        exact keyT_of I (hl p (List.mem_cons_self ..))
      · exact ih (fun y hy => hl y (List.mem_cons_of_mem _ hy)) x hx
  exact all r hk
/-- what the dict at a holds at the key y -/
def DGetT (K : PySem.W.Frag) (H : Hp) (a : Addr) (y : V) (r : Option V) : Prop := ∃ (kva : TK) (k : List Int) (b : Addr), H a = some (dE a kva) ∧ (∀ x ∈ kva, PTup K H x.2.1 (x.1.map .int)) ∧ y = .ref b ∧ PTup K H b (k.map .int) ∧ r = valT kva k
def DPutT (K : PySem.W.Frag) (H : Hp) (a : Addr) (y v : V) (H' : Hp) : Prop := ∃ (kva : TK) (k : List Int) (b : Addr), H a = some (dE a kva) ∧ (∀ x ∈ kva, PTup K H x.2.1 (x.1.map .int)) ∧ y = .ref b ∧ PTup K H b (k.map .int) ∧ kva.length < sizeLine ∧ H' = upd H a (dE a (putT1 kva k b v))
theorem d_getT {Q : Value → Shared → Prop} (hu : A.units + 1 < cLine) (I : Inv X pins σ H s) (g : DGetT X.K H a y (some v)) (ry : RelV y u) (h : ∀ w' s', Inv X pins σ H s' → RelV v w' → Q w' s') : wpAny (model X.prog X.w) A (getItem (.ref a) u) Q E s := by
  obtain ⟨kva, k, b, e, hk, ey, eb, l⟩ := g
  subst ey
  cases (show u = Value.ref b from ry)
  obtain ⟨z, hd, xs, rel, dd⟩ := de_of I e hk
  obtain ⟨w', hw, rw'⟩ := RelO.some_of (v := v) (o := (atKey xs k).map (·.2)) (by rw [l]; exact rel.val k)
  obtain ⟨p, hp, hp2⟩ := Option.map_eq_some_iff.mp hw
  refine wpAny_getItem_heap (tupleKind_room_in1 hu) (keyT_of I eb) dd hp ?_
  rw [hp2]
  exact h w' _ (I.tok _) rw'
theorem d_inT {Q : Value → Shared → Prop} (hu : A.units + 1 < cLine) (I : Inv X pins σ H s) (g : DGetT X.K H a y o) (ry : RelV y u) (h : ∀ s', Inv X pins σ H s' → Q (.bool o.isSome) s') : wpAny (model X.prog X.w) A (compareOp .In u (.ref a)) Q E s := by
  obtain ⟨kva, k, b, e, hk, ey, eb, l⟩ := g
  subst ey
  cases (show u = Value.ref b from ry)
  obtain ⟨z, hd, xs, rel, dd⟩ := de_of I e hk
  refine wpAny_in_heap (tupleKind_room_in1 hu) (keyT_of I eb) hd dd ?_
  have q := (rel.val k).isSome_eq
  rw [Option.isSome_map] at q
  rw [← q, ← l]
  exact h _ (I.tok _)
theorem d_notInT {Q : Value → Shared → Prop} (hu : A.units + 1 < cLine) (I : Inv X pins σ H s) (g : DGetT X.K H a y o) (ry : RelV y u) (h : ∀ s', Inv X pins σ H s' → Q (.bool (!o.isSome)) s') : wpAny (model X.prog X.w) A (compareOp .NotIn u (.ref a)) Q E s := by
  obtain ⟨kva, k, b, e, hk, ey, eb, l⟩ := g
  subst ey
  cases (show u = Value.ref b from ry)
  obtain ⟨z, hd, xs, rel, dd⟩ := de_of I e hk
  refine wpAny_notIn_heap (tupleKind_room_in1 hu) (keyT_of I eb) hd dd ?_
  have q := (rel.val k).isSome_eq
  rw [Option.isSome_map] at q
  rw [← q, ← l]
  exact h _ (I.tok _)
theorem d_setT {H' : Hp} {Q : Unit → Shared → Prop} (hu : A.units + 1 < cLine) (I : Inv X pins σ H s) (g : DPutT X.K H a y v H') (ry : RelV y u) (rv : RelV v r) (h : ∀ s', Inv X pins σ H' s' → Q () s') : wpAny (model X.prog X.w) A (setItem (.ref a) u r) Q E s := by
  obtain ⟨kva, k, b, e, hk, ey, eb, l, eH⟩ := g
  subst ey eH
  cases (show u = Value.ref b from ry)
  obtain ⟨z, hd, xs, rel, dd⟩ := de_of I e hk
  have hz : xs.length ≤ sizeLine := by rw [← Paired.length rel]; exact z
  have hl : (putT1 kva k b v).length ≤ sizeLine := by have := putT1_len kva k b v; omega
  refine wpAny_setItem_heap (hsz := hz) (tupleKind_room_in1 hu) (keyT_of I eb) dd fun h' dd' hs => h _ ?_
  obtain ⟨q, es, ep, hq, h2, h3, h4, _, h5⟩ := dd'
  exact d_write I (by rw [e]; exact True.intro) hs ⟨q, hq⟩ (de_ok ⟨hl, hd, _, rel.put k rv, q, es, ep, hq, h2, h3, fun _ _ => h4, h5⟩)
theorem dT_typeIs (I : Inv X pins σ H s) (g : DGetT X.K H a y o) : s.TypeIs (.ref a) "dict" := by
  obtain ⟨kva, k, b, e, hk, _⟩ := g
  obtain ⟨_, _, xs, _, dd⟩ := de_of I e hk
  exact dd.typeIs
end
/-- d[y], y in d, y not in d, d[y] = v, {} -/
def tTGet (K : PySem.W.Frag) (td ty : TE) : TE := fun σ H Q => td σ H fun x H1 => ty σ H1 fun y H2 => ∃ a v, x = .ref a ∧ DGetT K H2 a y (some v) ∧ Q v H2
def tTIn (K : PySem.W.Frag) (ty td : TE) : TE := fun σ H Q => ty σ H fun y H1 => td σ H1 fun x H2 => ∃ a o, x = .ref a ∧ DGetT K H2 a y o ∧ Q (.bl o.isSome) H2
def tTNotIn (K : PySem.W.Frag) (ty td : TE) : TE := fun σ H Q => ty σ H fun y H1 => td σ H1 fun x H2 => ∃ a o, x = .ref a ∧ DGetT K H2 a y o ∧ Q (.bl (!o.isSome)) H2
def sTPut (K : PySem.W.Frag) (td ty tv : TE) : TS := fun D σ H => tv σ H fun v H1 => td σ H1 fun x H2 => ty σ H2 fun y H3 => ∃ a H4, x = .ref a ∧ DPutT K H3 a y v H4 ∧ D.nx σ H4
def tTNew : TE := fun _ H Q => ∀ p, H p = none → Q (.ref p) (upd H p (dE p []))
section
variable {X : Cx} {K : PySem.W.Frag} {o i e value : Expr} {pos pos' tpos : Pos} {td ty tv : TE}
theorem pe_tget (hK : X.K = K) (hu : X.A.units + 1 < cLine) (ho : PE X o td) (hi : PE X i ty) (hs : NoSl i) : PE X (.Subscript o i pos) (tTGet K td ty) := by
  subst hK
  refine ⟨fun pins s σ H Q I h => ?_⟩
  refine subD_of PySem.F.slot_dict_getitem.lookup hs (thn (ho.run pins s σ H _ I h) fun u s1 ⟨x, H1, I1, rx, q1⟩ => thn (hi.run pins s1 σ H1 _ I1 q1) fun iv s2 ⟨y, H2, I2, ry, a, v, ex, g, q2⟩ => ?_)
  subst ex
  obtain rfl : u = Value.ref a := rx
  exact ⟨dT_typeIs I2 g, d_getT hu I2 g ry fun w' s3 I3 rw' => ⟨v, H2, I3, rw', q2⟩⟩
theorem pc_tin (hK : X.K = K) (hu : X.A.units + 1 < cLine) (hi : PE X i ty) (ho : PE X o td) : PC X .In i o (tTIn K ty td) := by
  subst hK
  refine ⟨fun pins s σ H Q I h => ?_⟩
  refine thn (hi.run pins s σ H _ I h) fun iv s1 ⟨y, H1, I1, ry, q1⟩ => thn (ho.run pins s1 σ H1 _ I1 q1) fun u s2 ⟨x, H2, I2, rx, a, ov, ex, g, q2⟩ => ?_
  subst ex
  obtain rfl : u = Value.ref a := rx
  exact d_inT hu I2 g ry fun s3 I3 => ⟨.bl ov.isSome, H2, I3, rfl, q2⟩
theorem pc_tnotin (hK : X.K = K) (hu : X.A.units + 1 < cLine) (hi : PE X i ty) (ho : PE X o td) : PC X .NotIn i o (tTNotIn K ty td) := by
  subst hK
  refine ⟨fun pins s σ H Q I h => ?_⟩
  refine thn (hi.run pins s σ H _ I h) fun iv s1 ⟨y, H1, I1, ry, q1⟩ => thn (ho.run pins s1 σ H1 _ I1 q1) fun u s2 ⟨x, H2, I2, rx, a, ov, ex, g, q2⟩ => ?_
  subst ex
  obtain rfl : u = Value.ref a := rx
  exact d_notInT hu I2 g ry fun s3 I3 => ⟨.bl (!ov.isSome), H2, I3, rfl, q2⟩
theorem ps_tput (hK : X.K = K) (hu : X.A.units + 1 < cLine) (ho : PE X o td) (hi : PE X i ty) (hv : PE X value tv) (hs : swapsWith value (some (.Subscript o i pos')) pos.line X.env = pure false) :
    PS X (.Assign [.Subscript o i pos'] value pos) (sTPut K td ty tv) := by
  subst hK
  refine ⟨fun pins s σ H D I h => ?_⟩
  refine wpAny_Assign_Subscript (thn (hv.run pins s σ H _ I h) fun r s1 ⟨v, H1, I1, rv, q1⟩ => thn (ho.run pins s1 σ H1 _ I1 q1) fun u s2 ⟨x, H2, I2, rx, q2⟩ => thn (hi.run pins s2 σ H2 _ I2 q2) fun iv s3 ⟨y, H3, I3, ry, a, H4, ex, g, q3⟩ => ?_) hs
  subst ex
  obtain rfl : u = Value.ref a := rx
  exact d_setT hu I3 g ry rv fun s4 I4 => ⟨σ, H4, I4, q3⟩
theorem de_empty (h : Heap) (hb : sysModules < h.objs.size) : DE h.objs.size [] (h.push { cls := .type "dict", data := .dict #[] }) :=
  ⟨Nat.zero_le _, beq_eq_false_iff_ne.mpr (Ne.symm (Nat.ne_of_lt hb)), [], .nil, _, #[], 0, Heap.get?_push_size _ rfl, ⟨rfl, rfl, rfl⟩, rfl, fun _ _ => rfl, List.nodup_nil⟩
theorem pe_tnew : PE X (.Dict [] [] pos) tTNew := ⟨fun pins s σ H Q I h =>
  wpAny_Dict_empty ⟨.ref s.heap.objs.size, _, I.laid (a := s.heap.objs.size) (o := dE s.heap.objs.size []) (t' := s.toks) (fun _ _ q => Heap.get?_push_of_some _ q) (Nat.le_refl _) (de_ok (de_empty s.heap I.big)), rfl, h _ (I.hok.fresh (Nat.le_refl _))⟩⟩
end
end AL

/-! Dicts whose keys are pairs of a tuple of ints and an int. -/
namespace AL
open PySem PySem.Spec PyProof.Rows L2
abbrev NKey := List Int × Int
def nk (k : NKey) : NestedKey := .tup [.tup (k.1.map .num), .num k.2]
theorem nums_inj : ∀ {a b : List Int}, a.map NestedKey.num = b.map NestedKey.num → a = b
  | [], [], _ => rfl
  | x :: a, y :: b, h => by
    rw [List.map_cons, List.map_cons] at h
    injection h with h1 h2
    injection h1 with h1
    rw [h1, nums_inj h2]
  | [], _ :: _, h => nomatch h
  | _ :: _, [], h => nomatch h
theorem nk_inj {a b : NKey} (h : nk a = nk b) : a = b := by
  obtain ⟨a1, a2⟩ := a
  obtain ⟨b1, b2⟩ := b
  unfold nk at h
  injection h with h
  injection h with h1 h2
  injection h1 with h1
  injection h2 with h2 _
  injection h2 with h2
  exact Prod.ext (nums_inj h1) h2
theorem nums_depth : ∀ l : List Int, NestedKey.depthAll (l.map .num) = 0
  | [] => rfl
  | x :: l => by rw [List.map_cons, NestedKey.depthAll, nums_depth l]; rfl
theorem nk_depth (k : NKey) : (nk k).depth = 2 := by
  unfold nk
  simp [NestedKey.depth, NestedKey.depthAll, nums_depth]
theorem nums_hash (w : World) : ∀ l : List Int, NestedKey.hashes w (l.map .num) = l.map hashInt
  | [] => rfl
  | x :: l => by rw [List.map_cons, NestedKey.hashes, nums_hash w l]; rfl
def hashN (k : NKey) : Int := reduceHash (Builtin.Tuple.tupleHashOf [reduceHash (Builtin.Tuple.tupleHashOf (k.1.map hashInt)), hashInt k.2])
theorem nk_hash (w : World) (k : NKey) : (nk k).hash w = hashN k := by
  unfold nk hashN
  simp [NestedKey.hash, NestedKey.hashes, nums_hash]
theorem nk_eq (a b : NKey) : NestedKey.beq (nk a) (nk b) = decide (a = b) := by
  rw [← NestedKey.decide_eq]
  by_cases h : a = b
  · rw [decide_eq_true h, decide_eq_true (by rw [h])]
  · rw [decide_eq_false h, decide_eq_false fun e => h (nk_inj e)]
def pairKind (P : Program) (w : World) : HeapKind P w NKey where
  is := fun h k a => NestedIs h (nk k) (.ref a)
  hash := hashN
  draws := fun k => (nk k).draws
  room := fun A => A.units + 8 < cLine
  inj := fun hx hy => nk_inj (NestedIs.inj _ _ _ hx hy)
  keeps := fun {h h' k a d o es ep} x ho hd hs => ((nestedKind P w).keeps (h := h) (h' := h') (k := nk k) (a := a) (d := d) (o := o) (es := es) (ep := ep) ⟨x, by rw [nk_depth]; decide⟩ ho hd hs).1
  pyHash := fun {A E s k a Q} hu hk h => pyHash_key _ _ _ _ _ hk (by rw [nk_depth]; omega) (by rw [nk_hash]; exact h)
  eqBool := fun {A E s x y a b Q} hu hx hy h => eqAt_key (nk x) (nk y) A s _ _ hx hy (by rw [nk_depth, nk_depth]; omega) _ _ _ _ (by rw [nk_eq]; exact h)
  quiet := fun {A E s k a Q} hk h => quiet_key (nk k) _ 8 s hk (by rw [nk_depth]; decide) A E Q h
theorem pairKind_room {P : Program} {w : World} {A : Around} (hu : A.units + 9 < cLine) : (pairKind P w).room A.in1 := by
  show A.in1.units + 8 < cLine
  rw [Around.in1_units]; omega
def PNK (K : PySem.W.Frag) (H : Hp) (b : Addr) (k : NKey) : Prop := ∃ b1, PTup K H b [.ref b1, .int k.2] ∧ PTup K H b1 (k.1.map .int)
theorem nested_ints {h : Heap} : ∀ {ks : List Int} {us : List Value}, Vals (ks.map V.int) us → NestedAll h (ks.map .num) us
  | [], _, r => by rw [List.map_nil] at r; cases r; exact .nil
  | k :: ks, _, r => by
    rw [List.map_cons] at r
    cases r with
    | cons h t =>
      obtain ⟨t', e⟩ := (show ∃ t, _ = Value.int k t from h)
      subst e
      exact .cons (.int _ _) (nested_ints t)
abbrev TKN := List (NKey × Addr × V)
def valN (kva : TKN) (k : NKey) : Option V := (kva.find? fun x => decide (x.1 = k)).map (·.2.2)
def putN1 (kva : TKN) (k : NKey) (b : Addr) (v : V) : TKN :=
  if (kva.any fun x => decide (x.1 = k)) = true then kva.map (fun x => if x.1 = k then (x.1, x.2.1, v) else x) else kva ++ [(k, b, v)]
abbrev KNo : NKey × Addr × V → NKey × Addr × Value → Prop := fun p q => p.1 = q.1 ∧ p.2.1 = q.2.1 ∧ RelV p.2.2 q.2.2
abbrev KNs (kva : TKN) (xs : List (NKey × Addr × Value)) : Prop := Paired KNo kva xs
def DN (a : Addr) (kva : TKN) : Heap → Prop := fun h => kva.length ≤ sizeLine ∧ (a == sysModules) = false ∧ ∃ xs, KNs kva xs ∧ ∃ o es ep, h.get? a = some o ∧ o.ExactDict ∧ o.data = .dict es ep ∧
  (∀ (P : Program) (w : World), es.toList = xs.map (entryOfKey (pairKind P w))) ∧ (xs.map (·.1)).Nodup
def dNE (a : Addr) (kva : TKN) : HO := .ext (DN a kva)
theorem KNs.val {kva : TKN} {xs : List (NKey × Addr × Value)} (r : KNs kva xs) (k : NKey) : RelO (valN kva k) ((atKey xs k).map (·.2)) := by
  induction r with
  | nil => exact True.intro
  | @cons p q ps qs h t ih =>
    obtain ⟨h1, _, h2⟩ := h
    by_cases e : p.1 = k
    · have e' : q.1 = k := h1.symm.trans e
      have b : atKey (q :: qs) k = some q.2 := by simp [atKey, List.find?_cons, e']
      have b2 : valN (p :: ps) k = some p.2.2 := by simp [valN, List.find?_cons, e]
      rw [b, b2]; exact h2
    · have e' : ¬ q.1 = k := fun z => e (h1.trans z)
      have b : atKey (q :: qs) k = atKey qs k := by simp [atKey, List.find?_cons, e']
      have b2 : valN (p :: ps) k = valN ps k := by simp [valN, List.find?_cons, e]
      rw [b, b2]; exact ih
theorem any_findN (k : NKey) : ∀ kva : TKN, (kva.any fun x => decide (x.1 = k)) = (kva.find? fun x => decide (x.1 = k)).isSome
  | [] => rfl
  | x :: r => by
    rw [List.any_cons, List.find?_cons]
    cases decide (x.1 = k) with
    | true => rfl
    | false => simpa using any_findN k r
theorem KNs.any {kva : TKN} {xs : List (NKey × Addr × Value)} (r : KNs kva xs) (k : NKey) : (kva.any fun x => decide (x.1 = k)) = (atKey xs k).isSome := by
  have h := (r.val k).isSome_eq
  rw [Option.isSome_map] at h
  rw [← h]
  unfold valN
  rw [Option.isSome_map]
  exact any_findN k kva
theorem KNs.put {kva : TKN} {xs : List (NKey × Addr × Value)} (r : KNs kva xs) (k : NKey) {b : Addr} {y : V} {u : Value} (ry : RelV y u) : KNs (putN1 kva k b y) (storedH xs k b u) := by
  unfold putN1 storedH
  rw [r.any k]
  by_cases q : (atKey xs k).isSome = true
  · rw [if_pos q, if_pos q]
    clear q
    induction r with
    | nil => exact .nil
    | @cons p q ps qs h t ih =>
      rw [List.map_cons, List.map_cons]
      refine .cons ?_ ih
      obtain ⟨h1, h2, h3⟩ := h
      unfold putAt
      by_cases e : p.1 = k
      · rw [if_pos e, if_pos (h1.symm.trans e)]; exact ⟨by first | exact h1 | exact e, h2, ry⟩
      · rw [if_neg e, if_neg (fun z => e (h1.trans z))]; exact ⟨h1, h2, h3⟩
  · rw [if_neg q, if_neg q]; exact Paired.snoc r ⟨rfl, rfl, ry⟩
theorem putN1_len (kva : TKN) (k : NKey) (b : Addr) (v : V) : (putN1 kva k b v).length ≤ kva.length + 1 := by
  unfold putN1
  split
  · rw [List.length_map]; omega
  · rw [List.length_append]; simp
section
variable {X : Cx} {pins : List (Addr × Obj)} {σ : L2.St} {H : Hp} {s : Shared} {a : Addr} {y v : V} {u r : Value} {o : Option V} {A : Around} {E : Value → Shared → Prop}
theorem dn_ok {P : Program} {w : World} {h : Heap} {kva : TKN} (x : DN a kva h) : ObjOk P w H h a (dNE a kva) :=
  ⟨x, let ⟨_, _, _, _, o, _, _, g, _⟩ := x; ⟨o, g⟩, fun h1 h2 y k => let ⟨z, d, xs, r, o, es, ep, g, c⟩ := y; ⟨z, d, xs, r, o, es, ep, k o g, c⟩⟩
theorem keyN_of (I : Inv X pins σ H s) {b : Addr} {k : NKey} (h : PNK X.K H b k) : (pairKind X.prog X.w).is s.heap k b := by
  obtain ⟨b1, h1, h2⟩ := h
  obtain ⟨its, n, sl, g, r⟩ := ptup_at I h1
  obtain ⟨its1, n1, sl1, g1, r1⟩ := ptup_at I h2
  obtain ⟨u1, u2, rfl, ru1, ru2⟩ := vals2 r
  obtain rfl : u1 = Value.ref b1 := ru1
  obtain ⟨t, rfl⟩ := (show ∃ t, u2 = Value.int k.2 t from ru2)
  exact NestedIs.tup g rfl rfl (.cons (NestedIs.tup g1 rfl rfl (nested_ints r1)) (.cons (.int _ _) .nil))
theorem dn_of (I : Inv X pins σ H s) {kva : TKN} (e : H a = some (dNE a kva)) (hk : ∀ x ∈ kva, PNK X.K H x.2.1 x.1) : kva.length ≤ sizeLine ∧ (a == sysModules) = false ∧
    ∃ xs, KNs kva xs ∧ s.heap.DictOfH (pairKind X.prog X.w) a xs := by
  obtain ⟨⟨z, d, xs, r, o, es, ep, h1, h2, h3, h4, h5⟩, _⟩ := (show ObjOk X.prog X.w H s.heap a (dNE a kva) from I.hok a _ e)
  refine ⟨z, d, xs, r, o, es, ep, h1, h2, h3, h4 _ _, ?_, h5⟩
  have all : ∀ {l : TKN} {m : List (NKey × Addr × Value)}, KNs l m → (∀ x ∈ l, PNK X.K H x.2.1 x.1) → ∀ x ∈ m, (pairKind X.prog X.w).is s.heap x.1 x.2.1 := by
    intro l m q
    induction q with
    | nil => intro _ x hx; exact nomatch hx
    | @cons p q ps qs hq t ih =>
      intro hl x hx
      rcases List.mem_cons.mp hx with e | hx
      · subst e
        rw [← hq.1, ← hq.2.1]
        exact keyN_of I (hl p (List.mem_cons_self ..))
      · exact ih (fun y hy => hl y (List.mem_cons_of_mem _ hy)) x hx
  exact all r hk
/-- what the dict at a holds at the key y -/
def DGetN (K : PySem.W.Frag) (H : Hp) (a : Addr) (y : V) (r : Option V) : Prop := ∃ (kva : TKN) (k : NKey) (b : Addr), H a = some (dNE a kva) ∧ (∀ x ∈ kva, PNK K H x.2.1 x.1) ∧ y = .ref b ∧ PNK K H b k ∧ r = valN kva k
def DPutN (K : PySem.W.Frag) (H : Hp) (a : Addr) (y v : V) (H' : Hp) : Prop := ∃ (kva : TKN) (k : NKey) (b : Addr), H a = some (dNE a kva) ∧ (∀ x ∈ kva, PNK K H x.2.1 x.1) ∧ y = .ref b ∧ PNK K H b k ∧ kva.length < sizeLine ∧ H' = upd H a (dNE a (putN1 kva k b v))
theorem d_getN {Q : Value → Shared → Prop} (hu : A.units + 9 < cLine) (I : Inv X pins σ H s) (g : DGetN X.K H a y (some v)) (ry : RelV y u) (h : ∀ w' s', Inv X pins σ H s' → RelV v w' → Q w' s') : wpAny (model X.prog X.w) A (getItem (.ref a) u) Q E s := by
  obtain ⟨kva, k, b, e, hk, ey, eb, l⟩ := g
  subst ey
  cases (show u = Value.ref b from ry)
  obtain ⟨z, hd, xs, rel, dd⟩ := dn_of I e hk
  obtain ⟨w', hw, rw'⟩ := RelO.some_of (v := v) (o := (atKey xs k).map (·.2)) (by rw [l]; exact rel.val k)
  obtain ⟨p, hp, hp2⟩ := Option.map_eq_some_iff.mp hw
  refine wpAny_getItem_heap (pairKind_room hu) (keyN_of I eb) dd hp ?_
  rw [hp2]
  exact h w' _ (I.tok _) rw'
theorem d_inN {Q : Value → Shared → Prop} (hu : A.units + 9 < cLine) (I : Inv X pins σ H s) (g : DGetN X.K H a y o) (ry : RelV y u) (h : ∀ s', Inv X pins σ H s' → Q (.bool o.isSome) s') : wpAny (model X.prog X.w) A (compareOp .In u (.ref a)) Q E s := by
  obtain ⟨kva, k, b, e, hk, ey, eb, l⟩ := g
  subst ey
  cases (show u = Value.ref b from ry)
  obtain ⟨z, hd, xs, rel, dd⟩ := dn_of I e hk
  refine wpAny_in_heap (pairKind_room hu) (keyN_of I eb) hd dd ?_
  have q := (rel.val k).isSome_eq
  rw [Option.isSome_map] at q
  rw [← q, ← l]
  exact h _ (I.tok _)
theorem d_notInN {Q : Value → Shared → Prop} (hu : A.units + 9 < cLine) (I : Inv X pins σ H s) (g : DGetN X.K H a y o) (ry : RelV y u) (h : ∀ s', Inv X pins σ H s' → Q (.bool (!o.isSome)) s') : wpAny (model X.prog X.w) A (compareOp .NotIn u (.ref a)) Q E s := by
  obtain ⟨kva, k, b, e, hk, ey, eb, l⟩ := g
  subst ey
  cases (show u = Value.ref b from ry)
  obtain ⟨z, hd, xs, rel, dd⟩ := dn_of I e hk
  refine wpAny_notIn_heap (pairKind_room hu) (keyN_of I eb) hd dd ?_
  have q := (rel.val k).isSome_eq
  rw [Option.isSome_map] at q
  rw [← q, ← l]
  exact h _ (I.tok _)
theorem d_setN {H' : Hp} {Q : Unit → Shared → Prop} (hu : A.units + 9 < cLine) (I : Inv X pins σ H s) (g : DPutN X.K H a y v H') (ry : RelV y u) (rv : RelV v r) (h : ∀ s', Inv X pins σ H' s' → Q () s') : wpAny (model X.prog X.w) A (setItem (.ref a) u r) Q E s := by
  obtain ⟨kva, k, b, e, hk, ey, eb, l, eH⟩ := g
  subst ey eH
  cases (show u = Value.ref b from ry)
  obtain ⟨z, hd, xs, rel, dd⟩ := dn_of I e hk
  have hz : xs.length ≤ sizeLine := by rw [← Paired.length rel]; exact z
  have hl : (putN1 kva k b v).length ≤ sizeLine := by have := putN1_len kva k b v; omega
  refine wpAny_setItem_heap (hsz := hz) (pairKind_room hu) (keyN_of I eb) dd fun h' dd' hs => h _ ?_
  obtain ⟨q, es, ep, hq, h2, h3, h4, _, h5⟩ := dd'
  exact d_write I (by rw [e]; exact True.intro) hs ⟨q, hq⟩ (dn_ok ⟨hl, hd, _, rel.put k rv, q, es, ep, hq, h2, h3, fun _ _ => h4, h5⟩)
theorem dN_typeIs (I : Inv X pins σ H s) (g : DGetN X.K H a y o) : s.TypeIs (.ref a) "dict" := by
  obtain ⟨kva, k, b, e, hk, _⟩ := g
  obtain ⟨_, _, xs, _, dd⟩ := dn_of I e hk
  exact dd.typeIs
end
/-- d[y], y in d, y not in d, d[y] = v, {} -/
def tNGet (K : PySem.W.Frag) (td ty : TE) : TE := fun σ H Q => td σ H fun x H1 => ty σ H1 fun y H2 => ∃ a v, x = .ref a ∧ DGetN K H2 a y (some v) ∧ Q v H2
def tNIn (K : PySem.W.Frag) (ty td : TE) : TE := fun σ H Q => ty σ H fun y H1 => td σ H1 fun x H2 => ∃ a o, x = .ref a ∧ DGetN K H2 a y o ∧ Q (.bl o.isSome) H2
def tNNotIn (K : PySem.W.Frag) (ty td : TE) : TE := fun σ H Q => ty σ H fun y H1 => td σ H1 fun x H2 => ∃ a o, x = .ref a ∧ DGetN K H2 a y o ∧ Q (.bl (!o.isSome)) H2
def sNPut (K : PySem.W.Frag) (td ty tv : TE) : TS := fun D σ H => tv σ H fun v H1 => td σ H1 fun x H2 => ty σ H2 fun y H3 => ∃ a H4, x = .ref a ∧ DPutN K H3 a y v H4 ∧ D.nx σ H4
def tNNew : TE := fun _ H Q => ∀ p, H p = none → Q (.ref p) (upd H p (dNE p []))
section
variable {X : Cx} {K : PySem.W.Frag} {o i e value : Expr} {pos pos' tpos : Pos} {td ty tv : TE}
theorem pe_nget (hK : X.K = K) (hu : X.A.units + 9 < cLine) (ho : PE X o td) (hi : PE X i ty) (hs : NoSl i) : PE X (.Subscript o i pos) (tNGet K td ty) := by
  subst hK
  refine ⟨fun pins s σ H Q I h => ?_⟩
  refine subD_of PySem.F.slot_dict_getitem.lookup hs (thn (ho.run pins s σ H _ I h) fun u s1 ⟨x, H1, I1, rx, q1⟩ => thn (hi.run pins s1 σ H1 _ I1 q1) fun iv s2 ⟨y, H2, I2, ry, a, v, ex, g, q2⟩ => ?_)
  subst ex
  obtain rfl : u = Value.ref a := rx
  exact ⟨dN_typeIs I2 g, d_getN hu I2 g ry fun w' s3 I3 rw' => ⟨v, H2, I3, rw', q2⟩⟩
theorem pc_nin (hK : X.K = K) (hu : X.A.units + 9 < cLine) (hi : PE X i ty) (ho : PE X o td) : PC X .In i o (tNIn K ty td) := by
  subst hK
  refine ⟨fun pins s σ H Q I h => ?_⟩
  refine thn (hi.run pins s σ H _ I h) fun iv s1 ⟨y, H1, I1, ry, q1⟩ => thn (ho.run pins s1 σ H1 _ I1 q1) fun u s2 ⟨x, H2, I2, rx, a, ov, ex, g, q2⟩ => ?_
  subst ex
  obtain rfl : u = Value.ref a := rx
  exact d_inN hu I2 g ry fun s3 I3 => ⟨.bl ov.isSome, H2, I3, rfl, q2⟩
theorem pc_nnotin (hK : X.K = K) (hu : X.A.units + 9 < cLine) (hi : PE X i ty) (ho : PE X o td) : PC X .NotIn i o (tNNotIn K ty td) := by
  subst hK
  refine ⟨fun pins s σ H Q I h => ?_⟩
  refine thn (hi.run pins s σ H _ I h) fun iv s1 ⟨y, H1, I1, ry, q1⟩ => thn (ho.run pins s1 σ H1 _ I1 q1) fun u s2 ⟨x, H2, I2, rx, a, ov, ex, g, q2⟩ => ?_
  subst ex
  obtain rfl : u = Value.ref a := rx
  exact d_notInN hu I2 g ry fun s3 I3 => ⟨.bl (!ov.isSome), H2, I3, rfl, q2⟩
theorem ps_nput (hK : X.K = K) (hu : X.A.units + 9 < cLine) (ho : PE X o td) (hi : PE X i ty) (hv : PE X value tv) (hs : swapsWith value (some (.Subscript o i pos')) pos.line X.env = pure false) :
    PS X (.Assign [.Subscript o i pos'] value pos) (sNPut K td ty tv) := by
  subst hK
  refine ⟨fun pins s σ H D I h => ?_⟩
  refine wpAny_Assign_Subscript (thn (hv.run pins s σ H _ I h) fun r s1 ⟨v, H1, I1, rv, q1⟩ => thn (ho.run pins s1 σ H1 _ I1 q1) fun u s2 ⟨x, H2, I2, rx, q2⟩ => thn (hi.run pins s2 σ H2 _ I2 q2) fun iv s3 ⟨y, H3, I3, ry, a, H4, ex, g, q3⟩ => ?_) hs
  subst ex
  obtain rfl : u = Value.ref a := rx
  exact d_setN hu I3 g ry rv fun s4 I4 => ⟨σ, H4, I4, q3⟩
theorem dn_empty (h : Heap) (hb : sysModules < h.objs.size) : DN h.objs.size [] (h.push { cls := .type "dict", data := .dict #[] }) :=
  ⟨Nat.zero_le _, beq_eq_false_iff_ne.mpr (Ne.symm (Nat.ne_of_lt hb)), [], .nil, _, #[], 0, Heap.get?_push_size _ rfl, ⟨rfl, rfl, rfl⟩, rfl, fun _ _ => rfl, List.nodup_nil⟩
theorem pe_nnew : PE X (.Dict [] [] pos) tNNew := ⟨fun pins s σ H Q I h =>
  wpAny_Dict_empty ⟨.ref s.heap.objs.size, _, I.laid (a := s.heap.objs.size) (o := dNE s.heap.objs.size []) (t' := s.toks) (fun _ _ q => Heap.get?_push_of_some _ q) (Nat.le_refl _) (dn_ok (dn_empty s.heap I.big)), rfl, h _ (I.hok.fresh (Nat.le_refl _))⟩⟩
end
end AL

/-! An abstract layer over the hand layer: values as data, cells by number, frames apart. -/
namespace AL
open PySem L2
abbrev Ex := Evl.Ex
inductive D where
  | non | bl (b : Bool) | int (i : Int) | str (x : Str)
  | lst (ds : List D) | tup (ds : List D) | scr (ds : List D) | sct (ds : List D)
  | ptr (n : Nat)
  | obj (C : Addr) (fs : List (Str × D))
  | cls (a : Addr) | ty (n : String)
inductive Cell where
  | lst (ds : List D)
  | ins (C : Addr) (fs : List (Str × D))
  | dK (kvs : List (Key × D)) | dT (kvs : List (List Int × D))
  | dN (kvs : List (NKey × D))
  | gone
inductive SV where
  | val (d : D) | own (c : Cell)
inductive RV where
  | val (d : D) | slot (i : Nat)
structure AS where
  s : List (Option SV)
  o : List Cell
def AS.setS (A : AS) (i : Nat) (v : SV) : AS := ⟨A.s.set i (some v), A.o⟩

mutual
inductive Rep (K : PySem.W.Frag) (F : Hp) (m : List Addr) : V → D → Prop where
  | non : Rep K F m .non .non
  | bl (b : Bool) : Rep K F m (.bl b) (.bl b)
  | int (i : Int) : Rep K F m (.int i) (.int i)
  | str (x : Str) : Rep K F m (.str x) (.str x)
  | lst {a : Addr} {vs : List V} {ds : List D} : F a = some (.lst vs) → Reps K F m vs ds → Rep K F m (.ref a) (.lst ds)
  | scr {a : Addr} {vs : List V} {ds : List D} : SqL K F a vs → Reps K F m vs ds → Rep K F m (.ref a) (.scr ds)
  | sct {a : Addr} {vs : List V} {ds : List D} : SqT K F a vs → Reps K F m vs ds → Rep K F m (.ref a) (.sct ds)
  | tup {a : Addr} {vs : List V} {ds : List D} : PTup K F a vs → Reps K F m vs ds → Rep K F m (.ref a) (.tup ds)
  | ptr {n : Nat} {a : Addr} : m[n]? = some a → Rep K F m (.ref a) (.ptr n)
  | obj {a C dx : Addr} {fvs : List (Str × V)} {fs : List (Str × D)} : F a = some (.ins C dx fvs) → RepF K F m fvs fs → Rep K F m (.ref a) (.obj C fs)
  | cls (a : Addr) : Rep K F m (.ref a) (.cls a)
  | ty (n : String) : Rep K F m (.ty n) (.ty n)
inductive Reps (K : PySem.W.Frag) (F : Hp) (m : List Addr) : List V → List D → Prop where
  | nil : Reps K F m [] []
  | cons {v : V} {d : D} {vs : List V} {ds : List D} : Rep K F m v d → Reps K F m vs ds → Reps K F m (v :: vs) (d :: ds)
inductive RepF (K : PySem.W.Frag) (F : Hp) (m : List Addr) : List (Str × V) → List (Str × D) → Prop where
  | nil : RepF K F m [] []
  | cons {f : Str} {v : V} {d : D} {vs : List (Str × V)} {ds : List (Str × D)} : Rep K F m v d → RepF K F m vs ds → RepF K F m ((f, v) :: vs) ((f, d) :: ds)
end
inductive RepK {κ : Type} (K : PySem.W.Frag) (F : Hp) (m : List Addr) : List (κ × V) → List (κ × D) → Prop where
  | nil : RepK K F m [] []
  | cons {k : κ} {v : V} {d : D} {vs : List (κ × V)} {ds : List (κ × D)} : Rep K F m v d → RepK K F m vs ds → RepK K F m ((k, v) :: vs) ((k, d) :: ds)
/-- the entries of a dict whose keys are tuples of ints -/
inductive RepT (K : PySem.W.Frag) (F : Hp) (m : List Addr) : TK → List (List Int × D) → Prop where
  | nil : RepT K F m [] []
  | cons {k : List Int} {b : Addr} {v : V} {d : D} {vs : TK} {ds : List (List Int × D)} : PTup K F b (k.map .int) → Rep K F m v d → RepT K F m vs ds → RepT K F m ((k, b, v) :: vs) ((k, d) :: ds)
/-- the same, whose keys are pairs of a tuple of ints and an int -/
inductive RepN (K : PySem.W.Frag) (F : Hp) (m : List Addr) : TKN → List (NKey × D) → Prop where
  | nil : RepN K F m [] []
  | cons {k : NKey} {b : Addr} {v : V} {d : D} {vs : TKN} {ds : List (NKey × D)} : PNK K F b k → Rep K F m v d → RepN K F m vs ds → RepN K F m ((k, b, v) :: vs) ((k, d) :: ds)

/-- the map of the cells grows at its end -/
def Pre (m m' : List Addr) : Prop := ∀ (n : Nat) a, m[n]? = some a → m'[n]? = some a
theorem Pre.refl (m : List Addr) : Pre m m := fun _ _ h => h
theorem Pre.trans {m m1 m2 : List Addr} (a : Pre m m1) (b : Pre m1 m2) : Pre m m2 := fun n x h => b n x (a n x h)
theorem Pre.app {m : List Addr} {p : Addr} : Pre m (m ++ [p]) := fun n a h => by
  rw [List.getElem?_append_left (List.getElem?_eq_some_iff.mp h).1]; exact h

section
variable {K : PySem.W.Frag} {F F' : Hp} {m m' : List Addr}
mutual
theorem Rep.mono (e : Ex F F') (p : Pre m m') : ∀ {v : V} {d : D}, Rep K F m v d → Rep K F' m' v d
  | _, _, .non => .non
  | _, _, .bl b => .bl b
  | _, _, .int i => .int i
  | _, _, .str x => .str x
  | _, _, .lst h r => .lst (e _ _ h) (Reps.mono e p r)
  | _, _, .scr h r => .scr (Evl.ex_l e h) (Reps.mono e p r)
  | _, _, .sct h r => .sct (Evl.ex_t e h) (Reps.mono e p r)
  | _, _, .tup h r => .tup (h.mono e) (Reps.mono e p r)
  | _, _, .ptr h => .ptr (p _ _ h)
  | _, _, .obj h r => .obj (e _ _ h) (RepF.mono e p r)
  | _, _, .cls a => .cls a
  | _, _, .ty n => .ty n
theorem Reps.mono (e : Ex F F') (p : Pre m m') : ∀ {v : List V} {d : List D}, Reps K F m v d → Reps K F' m' v d
  | _, _, .nil => .nil
  | _, _, .cons a r => .cons (Rep.mono e p a) (Reps.mono e p r)
theorem RepF.mono (e : Ex F F') (p : Pre m m') : ∀ {v : List (Str × V)} {d : List (Str × D)}, RepF K F m v d → RepF K F' m' v d
  | _, _, .nil => .nil
  | _, _, .cons a r => .cons (Rep.mono e p a) (RepF.mono e p r)
end
theorem RepK.mono {κ : Type} (e : Ex F F') (p : Pre m m') : ∀ {v : List (κ × V)} {d : List (κ × D)}, RepK K F m v d → RepK K F' m' v d
  | _, _, .nil => .nil
  | _, _, .cons a r => .cons (Rep.mono e p a) (RepK.mono e p r)
theorem RepT.mono (e : Ex F F') (p : Pre m m') : ∀ {v : TK} {d : List (List Int × D)}, RepT K F m v d → RepT K F' m' v d
  | _, _, .nil => .nil
  | _, _, .cons b a r => .cons (b.mono e) (Rep.mono e p a) (RepT.mono e p r)
theorem RepN.mono (e : Ex F F') (p : Pre m m') : ∀ {v : TKN} {d : List (NKey × D)}, RepN K F m v d → RepN K F' m' v d
  | _, _, .nil => .nil
  | _, _, .cons ⟨b1, h1, h2⟩ a r => .cons ⟨b1, h1.mono e, h2.mono e⟩ (Rep.mono e p a) (RepN.mono e p r)
theorem Reps.len : ∀ {vs : List V} {ds : List D}, Reps K F m vs ds → vs.length = ds.length
  | _, _, .nil => rfl
  | _, _, .cons _ r => by rw [List.length_cons, List.length_cons, Reps.len r]
theorem Reps.get : ∀ {vs : List V} {ds : List D} {i : Nat} {d : D}, Reps K F m vs ds → ds[i]? = some d → ∃ v, vs[i]? = some v ∧ Rep K F m v d
  | _, _, _, _, .nil, h => by simp at h
  | _, _, 0, _, .cons a _, h => by
    rw [List.getElem?_cons_zero] at h ⊢; cases h; exact ⟨_, rfl, a⟩
  | _, _, i + 1, _, .cons _ r, h => by
    rw [List.getElem?_cons_succ] at h ⊢; exact Reps.get r h
theorem Reps.app : ∀ {vs ws : List V} {ds es : List D}, Reps K F m vs ds → Reps K F m ws es → Reps K F m (vs ++ ws) (ds ++ es)
  | _, _, _, _, .nil, h => h
  | _, _, _, _, .cons a r, h => .cons a (Reps.app r h)
theorem Reps.take : ∀ {vs : List V} {ds : List D} (n : Nat), Reps K F m vs ds → Reps K F m (vs.take n) (ds.take n)
  | _, _, 0, _ => .nil
  | _, _, _ + 1, .nil => .nil
  | _, _, n + 1, .cons a r => .cons a (Reps.take n r)
theorem Reps.drop : ∀ {vs : List V} {ds : List D} (n : Nat), Reps K F m vs ds → Reps K F m (vs.drop n) (ds.drop n)
  | _, _, 0, r => r
  | _, _, _ + 1, .nil => .nil
  | _, _, n + 1, .cons a r => Reps.drop n r
theorem Reps.set {v : V} {d : D} (x : Rep K F m v d) : ∀ {vs : List V} {ds : List D} (n : Nat), Reps K F m vs ds → Reps K F m (vs.set n v) (ds.set n d)
  | _, _, _, .nil => .nil
  | _, _, 0, .cons a r => .cons x r
  | _, _, n + 1, .cons a r => .cons a (Reps.set x n r)
theorem Reps.rep {v : V} {d : D} (x : Rep K F m v d) : ∀ n : Nat, Reps K F m (List.replicate n v) (List.replicate n d)
  | 0 => .nil
  | n + 1 => .cons x (Reps.rep x n)
theorem Reps.rev : ∀ {vs : List V} {ds : List D}, Reps K F m vs ds → Reps K F m vs.reverse ds.reverse
  | _, _, .nil => .nil
  | _, _, .cons a r => by
    rw [List.reverse_cons, List.reverse_cons]; exact Reps.app (Reps.rev r) (.cons a .nil)
theorem Reps.flat {vs : List V} {ds : List D} (x : Reps K F m vs ds) : ∀ n : Nat, Reps K F m (List.replicate n vs).flatten (List.replicate n ds).flatten
  | 0 => .nil
  | n + 1 => by rw [List.replicate_succ, List.replicate_succ, List.flatten_cons, List.flatten_cons]; exact Reps.app x (Reps.flat x n)
theorem Reps.ints : ∀ {vs : List V} {ns : List Int}, Reps K F m vs (ns.map D.int) → vs = ns.map V.int
  | _, [], .nil => rfl
  | _, n :: ns, .cons a r => by
    cases a; rw [List.map_cons, Reps.ints r]
theorem reps_ints : ∀ (ns : List Int), Reps K F m (ns.map V.int) (ns.map D.int)
  | [] => .nil
  | n :: ns => .cons (.int n) (reps_ints ns)
theorem RepF.look {f : Str} {d : D} : ∀ {vs : List (Str × V)} {ds : List (Str × D)}, RepF K F m vs ds → ds.lookup f = some d → ∃ v, vs.lookup f = some v ∧ Rep K F m v d
  | _, _, .nil, h => by simp [List.lookup] at h
  | _, _, .cons (f := g) a r, h => by
    rw [List.lookup_cons] at h ⊢
    cases e : f == g with
    | true => rw [e] at h; cases h; exact ⟨_, rfl, a⟩
    | false => rw [e] at h; exact RepF.look r h
theorem RepF.look0 {f : Str} : ∀ {vs : List (Str × V)} {ds : List (Str × D)}, RepF K F m vs ds → ds.lookup f = none → vs.lookup f = none
  | _, _, .nil, _ => rfl
  | _, _, .cons (f := g) a r, h => by
    rw [List.lookup_cons] at h ⊢
    cases e : f == g with
    | true => rw [e] at h; cases h
    | false => rw [e] at h; exact RepF.look0 r h
/-- a field stored, in the abstract -/
def putD (f : Str) (v : D) : List (Str × D) → List (Str × D)
  | [] => [(f, v)]
  | (g, w) :: r => if g = f then (g, v) :: r else (g, w) :: putD f v r
theorem RepF.put {f : Str} {v : V} {d : D} (x : Rep K F m v d) : ∀ {vs : List (Str × V)} {ds : List (Str × D)}, RepF K F m vs ds → RepF K F m (putF f v vs) (putD f d ds)
  | _, _, .nil => .cons x .nil
  | _, _, .cons (f := g) a r => by
    unfold putF putD
    by_cases e : g = f
    · rw [if_pos e, if_pos e]; first | exact .cons x r | (subst e; exact .cons x r)
    · rw [if_neg e, if_neg e]; exact .cons a (RepF.put x r)
theorem RepF.len : ∀ {vs : List (Str × V)} {ds : List (Str × D)}, RepF K F m vs ds → vs.length = ds.length
  | _, _, .nil => rfl
  | _, _, .cons _ r => by rw [List.length_cons, List.length_cons, RepF.len r]
end

/-- what stands at a cell's address -/
def CellAt (K : PySem.W.Frag) (F : Hp) (m : List Addr) (H : Hp) (a : Addr) : Cell → Prop
  | .lst ds => ∃ vs, H a = some (.lst vs) ∧ Reps K F m vs ds
  | .ins C fs => ∃ dx fvs, H a = some (.ins C dx fvs) ∧ RepF K F m fvs fs
  | .dK kvs => ∃ kv, H a = some (.dK kv) ∧ RepK K F m kv kvs
  | .dT kvs => ∃ kva, H a = some (dE a kva) ∧ RepT K F m kva kvs
  | .dN kvs => ∃ kva, H a = some (dNE a kva) ∧ RepN K F m kva kvs
  | .gone => True
def Cell.live : Cell → Prop
  | .gone => False
  | _ => True
theorem CellAt.mono {K : PySem.W.Frag} {F F' H H' : Hp} {m m' : List Addr} {a : Addr} {c : Cell} (e : Ex F F') (p : Pre m m') (h : H' a = H a) (x : CellAt K F m H a c) : CellAt K F' m' H' a c := by
  cases c with
  | lst ds => obtain ⟨vs, h1, h2⟩ := x; exact ⟨vs, h.trans h1, h2.mono e p⟩
  | ins C fs => obtain ⟨dx, vs, h1, h2⟩ := x; exact ⟨dx, vs, h.trans h1, h2.mono e p⟩
  | dK kvs => obtain ⟨vs, h1, h2⟩ := x; exact ⟨vs, h.trans h1, h2.mono e p⟩
  | dT kvs => obtain ⟨vs, h1, h2⟩ := x; exact ⟨vs, h.trans h1, h2.mono e p⟩
  | dN kvs => obtain ⟨vs, h1, h2⟩ := x; exact ⟨vs, h.trans h1, h2.mono e p⟩
  | gone => trivial
theorem CellAt.some {K : PySem.W.Frag} {F H : Hp} {m : List Addr} {a : Addr} {c : Cell} (x : CellAt K F m H a c) (l : c.live) : ∃ o, H a = some o := by
  cases c with
  | lst ds => obtain ⟨vs, h1, h2⟩ := x; exact ⟨_, h1⟩
  | ins C fs => obtain ⟨dx, vs, h1, h2⟩ := x; exact ⟨_, h1⟩
  | dK kvs => obtain ⟨vs, h1, h2⟩ := x; exact ⟨_, h1⟩
  | dT kvs => obtain ⟨vs, h1, h2⟩ := x; exact ⟨_, h1⟩
  | dN kvs => obtain ⟨vs, h1, h2⟩ := x; exact ⟨_, h1⟩
  | gone => exact l.elim

/-- the heap: F is frozen, G is the callers', the cells stand at m -/
structure HS (K : PySem.W.Frag) (F G : Hp) (m : List Addr) (O : List Cell) (H : Hp) : Prop where
  exF : Ex F H
  exG : Ex G H
  dj : ∀ a o, F a = some o → G a = none
  len : m.length = O.length
  cell : ∀ (n : Nat) a c, m[n]? = some a → O[n]? = some c → c.live → F a = none ∧ G a = none ∧ CellAt K F m H a c
  inj : ∀ (n n' : Nat) a, m[n]? = some a → m[n']? = some a → n = n'
  here : ∀ (n : Nat) a, m[n]? = some a → ∃ o, H a = some o
  mG : ∀ (n : Nat) a, m[n]? = some a → G a = none
  gn : ∀ (n : Nat) a, m[n]? = some a → O[n]? = some .gone → ∃ C dx fv, F a = some (.ins C dx fv)
def SlotAt (K : PySem.W.Frag) (F G : Hp) (m : List Addr) (H : Hp) : Option V → Option SV → Prop
  | _, none => True
  | some v, some (.val d) => Rep K F m v d
  | some v, some (.own c) => ∃ a, v = .ref a ∧ c.live ∧ F a = none ∧ G a = none ∧ (∀ n : Nat, m[n]? ≠ some a) ∧ CellAt K F m H a c
  | none, some _ => False
structure SS (K : PySem.W.Frag) (F G : Hp) (m : List Addr) (s : List (Option SV)) (σ : St) (H : Hp) : Prop where
  len : σ.length = s.length
  at_ : ∀ (i : Nat) x y, σ[i]? = some x → s[i]? = some y → SlotAt K F G m H x y
  own : ∀ (i j : Nat) c c' v, i ≠ j → s[i]? = some (some (.own c)) → s[j]? = some (some (.own c')) → σ[i]? = some (some v) → σ[j]? = some (some v) → False
structure Sim (K : PySem.W.Frag) (F G : Hp) (m : List Addr) (A : AS) (σ : St) (H : Hp) : Prop where
  h : HS K F G m A.o H
  s : SS K F G m A.s σ H

theorem ex_none {F H : Hp} {a : Addr} (e : Ex F H) (h : H a = none) : F a = none := Evl.fresh_back e h
section
variable {K : PySem.W.Frag} {F G : Hp} {m : List Addr} {O : List Cell} {H : Hp} {A : AS} {σ : St} {s : List (Option SV)}
theorem HS.fresh (h : HS K F G m O H) {p : Addr} (hp : H p = none) : F p = none ∧ G p = none ∧ ∀ n : Nat, m[n]? ≠ some p :=
  ⟨ex_none h.exF hp, ex_none h.exG hp, fun n e => by obtain ⟨o, q⟩ := h.here n p e; rw [hp] at q; cases q⟩
theorem ex_upd {F : Hp} {p : Addr} {o : HO} (h : F p = none) : Ex F (upd F p o) := by
  intro a u e
  rw [upd_ne (ne_of_none e h)]
  exact e
theorem ex_both {F H : Hp} {p : Addr} {o : HO} (e : Ex F H) : Ex (upd F p o) (upd H p o) := fun a u h => by
  by_cases c : a = p
  · subst c; rw [upd_same] at h ⊢; exact h
  · rw [upd_ne c] at h ⊢; exact e _ _ h
theorem ex_right {F H : Hp} {p : Addr} {o : HO} (e : Ex F H) (h : F p = none) : Ex F (upd H p o) := fun a u q => by
  rw [upd_ne (ne_of_none q h)]; exact e _ _ q
theorem CellAt.ne {a p : Addr} {c : Cell} (x : CellAt K F m H a c) (l : c.live) (hp : H p = none) : a ≠ p := by
  obtain ⟨o, q⟩ := x.some l
  exact ne_of_none q hp
/-- a new frozen object -/
theorem HS.frz (h : HS K F G m O H) {p : Addr} {o : HO} (hp : H p = none) : HS K (upd F p o) G m O (upd H p o) where
  exF := ex_both h.exF
  exG := ex_right h.exG (h.fresh hp).2.1
  dj := fun a u e => by
    by_cases c : a = p
    · subst c; exact (h.fresh hp).2.1
    · rw [upd_ne c] at e; exact h.dj _ _ e
  len := h.len
  cell := fun n a c e1 e2 l => by
    obtain ⟨x1, x2, x3⟩ := h.cell n a c e1 e2 l
    have np := x3.ne l hp
    exact ⟨by rw [upd_ne np]; exact x1, x2, x3.mono (ex_upd (h.fresh hp).1) (Pre.refl _) (upd_ne np)⟩
  inj := h.inj
  here := fun n a e => by
    obtain ⟨u, q⟩ := h.here n a e
    exact ⟨u, by rw [upd_ne (ne_of_none q hp)]; exact q⟩
  mG := h.mG
  gn := fun n a e1 e2 => by
    obtain ⟨C, dx, fv, q⟩ := h.gn n a e1 e2
    exact ⟨C, dx, fv, by rw [upd_ne (ne_of_none q (h.fresh hp).1)]; exact q⟩
/-- an object that is not the cells', nor frozen, nor the callers', is new or changes -/
theorem HS.mut (h : HS K F G m O H) {p : Addr} {o : HO} (hF : F p = none) (hG : G p = none) (hm : ∀ n : Nat, m[n]? ≠ some p) : HS K F G m O (upd H p o) where
  exF := ex_right h.exF hF
  exG := ex_right h.exG hG
  dj := h.dj
  len := h.len
  cell := fun n a c e1 e2 l => by
    obtain ⟨x1, x2, x3⟩ := h.cell n a c e1 e2 l
    have np : a ≠ p := fun z => hm n (z ▸ e1)
    exact ⟨x1, x2, x3.mono (fun _ _ h => h) (Pre.refl _) (upd_ne np)⟩
  inj := h.inj
  here := fun n a e => by
    obtain ⟨u, q⟩ := h.here n a e
    by_cases c : a = p
    · subst c; exact ⟨_, upd_same⟩
    · exact ⟨u, by rw [upd_ne c]; exact q⟩
  mG := h.mG
  gn := h.gn
/-- an own object is frozen -/
theorem HS.freeze (h : HS K F G m O H) {p : Addr} {o : HO} (hH : H p = some o) (hF : F p = none) (hG : G p = none) (hm : ∀ n : Nat, m[n]? ≠ some p) : HS K (upd F p o) G m O H where
  exF := fun a u e => by
    by_cases c : a = p
    · subst c; rw [upd_same] at e; cases e; exact hH
    · rw [upd_ne c] at e; exact h.exF _ _ e
  exG := h.exG
  dj := fun a u e => by
    by_cases c : a = p
    · subst c; exact hG
    · rw [upd_ne c] at e; exact h.dj _ _ e
  len := h.len
  cell := fun n a c e1 e2 l => by
    obtain ⟨x1, x2, x3⟩ := h.cell n a c e1 e2 l
    have np : a ≠ p := fun z => hm n (z ▸ e1)
    exact ⟨by rw [upd_ne np]; exact x1, x2, x3.mono (ex_upd hF) (Pre.refl _) rfl⟩
  inj := h.inj
  here := h.here
  mG := h.mG
  gn := fun n a e1 e2 => by
    obtain ⟨C, dx, fv, q⟩ := h.gn n a e1 e2
    exact ⟨C, dx, fv, by rw [upd_ne (ne_of_none q hF)]; exact q⟩
/-- a cell changes -/
theorem HS.cset (h : HS K F G m O H) {n : Nat} {p : Addr} {o : HO} {c c' : Cell} (hm : m[n]? = some p) (hc : O[n]? = some c) (l : c.live) (l' : c'.live) (hx : CellAt K F m (upd H p o) p c') : HS K F G m (O.set n c') (upd H p o) where
  exF := ex_right h.exF (h.cell n p c hm hc l).1
  exG := ex_right h.exG (h.cell n p c hm hc l).2.1
  dj := h.dj
  len := by rw [List.length_set]; exact h.len
  cell := fun i a d e1 e2 l' => by
    by_cases z : i = n
    · subst z
      rw [hm] at e1; cases e1
      have hlt : i < O.length := (List.getElem?_eq_some_iff.mp hc).1
      rw [List.getElem?_set_self hlt] at e2; cases e2
      exact ⟨(h.cell i p c hm hc l).1, (h.cell i p c hm hc l).2.1, hx⟩
    · rw [List.getElem?_set_ne (Ne.symm z)] at e2
      obtain ⟨x1, x2, x3⟩ := h.cell i a d e1 e2 l'
      have np : a ≠ p := fun y => z (h.inj i n p (y ▸ e1) hm)
      exact ⟨x1, x2, x3.mono (fun _ _ h => h) (Pre.refl _) (upd_ne np)⟩
  inj := h.inj
  here := fun n a e => by
    obtain ⟨u, q⟩ := h.here n a e
    by_cases c : a = p
    · subst c; exact ⟨_, upd_same⟩
    · exact ⟨u, by rw [upd_ne c]; exact q⟩
  mG := h.mG
  gn := fun i a e1 e2 => by
    by_cases z : i = n
    · subst z
      rw [List.getElem?_set_self (List.getElem?_eq_some_iff.mp hc).1] at e2
      cases e2; exact l'.elim
    · rw [List.getElem?_set_ne (Ne.symm z)] at e2
      exact h.gn i a e1 e2
/-- a new cell -/
theorem HS.cnew (h : HS K F G m O H) {p : Addr} {o : HO} {c : Cell} (hp : H p = none) (lc : c.live) (hx : CellAt K F (m ++ [p]) (upd H p o) p c) : HS K F G (m ++ [p]) (O ++ [c]) (upd H p o) where
  exF := ex_right h.exF (h.fresh hp).1
  exG := ex_right h.exG (h.fresh hp).2.1
  dj := h.dj
  len := by rw [List.length_append, List.length_append, h.len]; rfl
  cell := fun i a d e1 e2 l' => by
    by_cases z : i < m.length
    · rw [List.getElem?_append_left z] at e1
      rw [List.getElem?_append_left (by rw [← h.len]; exact z)] at e2
      obtain ⟨x1, x2, x3⟩ := h.cell i a d e1 e2 l'
      exact ⟨x1, x2, x3.mono (fun _ _ h => h) Pre.app (upd_ne (x3.ne l' hp))⟩
    · have hl := (List.getElem?_eq_some_iff.mp e1).1
      rw [List.length_append] at hl
      have ei : i = m.length := by simp only [List.length_cons, List.length_nil] at hl; omega
      subst ei
      rw [List.getElem?_append_right (Nat.le_refl _), Nat.sub_self] at e1
      rw [List.getElem?_append_right (by rw [h.len]; exact Nat.le_refl _), h.len, Nat.sub_self] at e2
      cases e1; cases e2
      exact ⟨(h.fresh hp).1, (h.fresh hp).2.1, hx⟩
  inj := fun i j a e1 e2 => by
    by_cases z : i < m.length
    · rw [List.getElem?_append_left z] at e1
      by_cases y : j < m.length
      · rw [List.getElem?_append_left y] at e2; exact h.inj i j a e1 e2
      · have hl := (List.getElem?_eq_some_iff.mp e2).1
        rw [List.length_append] at hl
        have ej : j = m.length := by simp only [List.length_cons, List.length_nil] at hl; omega
        subst ej
        rw [List.getElem?_append_right (Nat.le_refl _), Nat.sub_self] at e2
        cases e2
        exact absurd e1 ((h.fresh hp).2.2 i)
    · have hl := (List.getElem?_eq_some_iff.mp e1).1
      rw [List.length_append] at hl
      have ei : i = m.length := by simp only [List.length_cons, List.length_nil] at hl; omega
      subst ei
      rw [List.getElem?_append_right (Nat.le_refl _), Nat.sub_self] at e1
      cases e1
      by_cases y : j < m.length
      · rw [List.getElem?_append_left y] at e2; exact absurd e2 ((h.fresh hp).2.2 j)
      · have hl := (List.getElem?_eq_some_iff.mp e2).1
        rw [List.length_append] at hl
        simp only [List.length_cons, List.length_nil] at hl; omega
  here := fun i a e => by
    by_cases z : i < m.length
    · rw [List.getElem?_append_left z] at e
      obtain ⟨u, q⟩ := h.here i a e
      exact ⟨u, by rw [upd_ne (ne_of_none q hp)]; exact q⟩
    · have hl := (List.getElem?_eq_some_iff.mp e).1
      rw [List.length_append] at hl
      have ei : i = m.length := by simp only [List.length_cons, List.length_nil] at hl; omega
      subst ei
      rw [List.getElem?_append_right (Nat.le_refl _), Nat.sub_self] at e
      cases e
      exact ⟨_, upd_same⟩
  mG := fun i a e => by
    by_cases z : i < m.length
    · rw [List.getElem?_append_left z] at e
      exact h.mG i a e
    · have hl := (List.getElem?_eq_some_iff.mp e).1
      rw [List.length_append] at hl
      have ei : i = m.length := by simp only [List.length_cons, List.length_nil] at hl; omega
      subst ei
      rw [List.getElem?_append_right (Nat.le_refl _), Nat.sub_self] at e
      cases e
      exact (h.fresh hp).2.1
  gn := fun i a e1 e2 => by
    by_cases z : i < m.length
    · rw [List.getElem?_append_left z] at e1
      rw [List.getElem?_append_left (by rw [← h.len]; exact z)] at e2
      exact h.gn i a e1 e2
    · have hl := (List.getElem?_eq_some_iff.mp e1).1
      rw [List.length_append] at hl
      have ei : i = m.length := by simp only [List.length_cons, List.length_nil] at hl; omega
      subst ei
      rw [List.getElem?_append_right (by rw [h.len]; exact Nat.le_refl _), h.len, Nat.sub_self] at e2
      cases e2; exact lc.elim
/-! ### slots -/
/-- the heap, the frozen part, the cells go on; the own objects stay -/
theorem SS.go (h : SS K F G m s σ H) {F' H' : Hp} {m' : List Addr} (e : Ex F F') (p : Pre m m') (st : ∀ (i : Nat) c a, s[i]? = some (some (.own c)) → σ[i]? = some (some (.ref a)) → F' a = none ∧ (∀ n : Nat, m'[n]? ≠ some a) ∧ H' a = H a) : SS K F' G m' s σ H' where
  len := h.len
  at_ := fun i x y e1 e2 => by
    have q := h.at_ i x y e1 e2
    match x, y, q with
    | _, none, _ => cases x <;> trivial
    | some v, some (.val d), q => exact Rep.mono e p q
    | some v, some (.own c), ⟨a, ea, l, f, g, mm, cc⟩ =>
      subst ea
      obtain ⟨k1, k2, k3⟩ := st i c a e2 e1
      exact ⟨a, rfl, l, k1, g, k2, cc.mono e p k3⟩
  own := h.own
theorem SS.ownAt (h : SS K F G m s σ H) {i : Nat} {c : Cell} (e : s[i]? = some (some (.own c))) : ∃ a, σ[i]? = some (some (.ref a)) ∧ c.live ∧ F a = none ∧ G a = none ∧ (∀ n : Nat, m[n]? ≠ some a) ∧ CellAt K F m H a c := by
  have hl : i < σ.length := by rw [h.len]; exact (List.getElem?_eq_some_iff.mp e).1
  have q := h.at_ i _ _ (List.getElem?_eq_getElem hl) e
  cases z : σ[i] with
  | none => rw [z] at q; exact q.elim
  | some v =>
    rw [z] at q
    obtain ⟨a, ea, l, f, g, mm, cc⟩ := q
    exact ⟨a, by rw [List.getElem?_eq_getElem hl, z, ea], l, f, g, mm, cc⟩
theorem SS.valAt (h : SS K F G m s σ H) {i : Nat} {d : D} (e : s[i]? = some (some (.val d))) : ∃ v, σ[i]? = some (some v) ∧ Rep K F m v d := by
  have hl : i < σ.length := by rw [h.len]; exact (List.getElem?_eq_some_iff.mp e).1
  have q := h.at_ i _ _ (List.getElem?_eq_getElem hl) e
  cases z : σ[i] with
  | none => rw [z] at q; exact q.elim
  | some v =>
    rw [z] at q
    exact ⟨v, by rw [List.getElem?_eq_getElem hl, z], q⟩
theorem SS.setV (h : SS K F G m s σ H) {i : Nat} {v : V} {d : D} (r : Rep K F m v d) : SS K F G m (s.set i (some (.val d))) (σ.set i (some v)) H where
  len := by rw [List.length_set, List.length_set]; exact h.len
  at_ := fun j x y e1 e2 => by
    by_cases z : j = i
    · subst z
      have h1 : j < σ.length := by have := (List.getElem?_eq_some_iff.mp e1).1; rw [List.length_set] at this; exact this
      rw [List.getElem?_set_self h1] at e1
      rw [List.getElem?_set_self (by rw [← h.len]; exact h1)] at e2
      cases e1; cases e2; exact r
    · rw [List.getElem?_set_ne (Ne.symm z)] at e1 e2; exact h.at_ j x y e1 e2
  own := fun j k c c' u n e1 e2 e3 e4 => by
    have zj : j ≠ i := fun z => by
      subst z
      have h1 : j < s.length := by have := (List.getElem?_eq_some_iff.mp e1).1; rw [List.length_set] at this; exact this
      rw [List.getElem?_set_self h1] at e1; cases e1
    have zk : k ≠ i := fun z => by
      subst z
      have h1 : k < s.length := by have := (List.getElem?_eq_some_iff.mp e2).1; rw [List.length_set] at this; exact this
      rw [List.getElem?_set_self h1] at e2; cases e2
    rw [List.getElem?_set_ne (Ne.symm zj)] at e1 e3
    rw [List.getElem?_set_ne (Ne.symm zk)] at e2 e4
    exact h.own j k c c' u n e1 e2 e3 e4
/-- a slot gets an own object that no slot has -/
theorem SS.setO (h : SS K F G m s σ H) {i : Nat} {a : Addr} {c : Cell} (r : SlotAt K F G m H (some (.ref a)) (some (.own c))) (nw : ∀ (j : Nat) c', s[j]? = some (some (.own c')) → σ[j]? ≠ some (some (.ref a))) : SS K F G m (s.set i (some (.own c))) (σ.set i (some (.ref a))) H where
  len := by rw [List.length_set, List.length_set]; exact h.len
  at_ := fun j x y e1 e2 => by
    by_cases z : j = i
    · subst z
      have h1 : j < σ.length := by have := (List.getElem?_eq_some_iff.mp e1).1; rw [List.length_set] at this; exact this
      rw [List.getElem?_set_self h1] at e1
      rw [List.getElem?_set_self (by rw [← h.len]; exact h1)] at e2
      cases e1; cases e2; exact r
    · rw [List.getElem?_set_ne (Ne.symm z)] at e1 e2; exact h.at_ j x y e1 e2
  own := fun j k c1 c2 u n e1 e2 e3 e4 => by
    by_cases zj : j = i
    · subst zj
      have h1 : j < σ.length := by have := (List.getElem?_eq_some_iff.mp e3).1; rw [List.length_set] at this; exact this
      rw [List.getElem?_set_self h1] at e3
      cases e3
      rw [List.getElem?_set_ne n] at e2 e4
      exact nw k c2 e2 e4
    · by_cases zk : k = i
      · subst zk
        have h1 : k < σ.length := by have := (List.getElem?_eq_some_iff.mp e4).1; rw [List.length_set] at this; exact this
        rw [List.getElem?_set_self h1] at e4
        cases e4
        rw [List.getElem?_set_ne (Ne.symm n)] at e1 e3
        exact nw j c1 e1 e3
      · rw [List.getElem?_set_ne (Ne.symm zj)] at e1 e3
        rw [List.getElem?_set_ne (Ne.symm zk)] at e2 e4
        exact h.own j k c1 c2 u n e1 e2 e3 e4
/-- a slot is forgotten -/
theorem SS.forget (h : SS K F G m s σ H) {i : Nat} {x : Option V} : SS K F G m (s.set i none) (σ.set i x) H where
  len := by rw [List.length_set, List.length_set]; exact h.len
  at_ := fun j x y e1 e2 => by
    by_cases z : j = i
    · subst z
      have h1 : j < s.length := by have := (List.getElem?_eq_some_iff.mp e2).1; rw [List.length_set] at this; exact this
      rw [List.getElem?_set_self h1] at e2
      cases e2; cases x <;> trivial
    · rw [List.getElem?_set_ne (Ne.symm z)] at e1 e2; exact h.at_ j x y e1 e2
  own := fun j k c1 c2 u n e1 e2 e3 e4 => by
    have zj : j ≠ i := fun z => by
      subst z
      have h1 : j < s.length := by have := (List.getElem?_eq_some_iff.mp e1).1; rw [List.length_set] at this; exact this
      rw [List.getElem?_set_self h1] at e1; cases e1
    have zk : k ≠ i := fun z => by
      subst z
      have h1 : k < s.length := by have := (List.getElem?_eq_some_iff.mp e2).1; rw [List.length_set] at this; exact this
      rw [List.getElem?_set_self h1] at e2; cases e2
    rw [List.getElem?_set_ne (Ne.symm zj)] at e1 e3
    rw [List.getElem?_set_ne (Ne.symm zk)] at e2 e4
    exact h.own j k c1 c2 u n e1 e2 e3 e4
/-- a slot's own object becomes data -/
theorem SS.toV (h : SS K F G m s σ H) {i : Nat} {a : Addr} {c : Cell} {d : D} (hs : s[i]? = some (some (.own c))) (hσ : σ[i]? = some (some (.ref a))) (r : Rep K F m (.ref a) d) : SS K F G m (s.set i (some (.val d))) σ H := by
  have q := h.setV (i := i) r
  have e : σ.set i (some (.ref a)) = σ := by
    apply List.ext_getElem?
    intro j
    by_cases z : i = j
    · subst z
      rw [List.getElem?_set_self (List.getElem?_eq_some_iff.mp hσ).1, hσ]
    · rw [List.getElem?_set_ne z]
  rw [e] at q
  exact q
end
end AL

namespace AL
open PySem L2
/-! ### calls: the callers' part -/
section
variable {K : PySem.W.Frag} {F G : Hp} {m : List Addr} {O : List Cell} {H : Hp} {A : AS} {σ : St} {s : List (Option SV)}
def IsOwn (s : List (Option SV)) (σ : St) (a : Addr) : Prop := ∃ (i : Nat) (c : Cell), s[i]? = some (some (.own c)) ∧ σ[i]? = some (some (.ref a))
open Classical in
noncomputable def callG (s : List (Option SV)) (σ : St) (G H : Hp) : Hp := fun a => if IsOwn s σ a then H a else G a
theorem callG_own {a : Addr} (h : IsOwn s σ a) : callG s σ G H a = H a := by unfold callG; rw [if_pos h]
theorem callG_not {a : Addr} (h : ¬ IsOwn s σ a) : callG s σ G H a = G a := by unfold callG; rw [if_neg h]
theorem SS.isOwn (h : SS K F G m s σ H) {a : Addr} (o : IsOwn s σ a) : F a = none ∧ G a = none ∧ (∀ n : Nat, m[n]? ≠ some a) ∧ ∃ u, H a = some u := by
  obtain ⟨i, c, e1, e2⟩ := o
  obtain ⟨b, q, l, f, g, mm, cc⟩ := h.ownAt e1
  rw [e2] at q; cases q
  exact ⟨f, g, mm, cc.some l⟩
theorem Sim.call (h : Sim K F G m A σ H) : HS K F (callG A.s σ G H) m A.o H where
  exF := h.h.exF
  exG := fun a o e => by
    by_cases z : IsOwn A.s σ a
    · rw [callG_own z] at e; exact e
    · rw [callG_not z] at e; exact h.h.exG _ _ e
  dj := fun a o e => by
    by_cases z : IsOwn A.s σ a
    · rw [(h.s.isOwn z).1] at e; cases e
    · rw [callG_not z]; exact h.h.dj _ _ e
  len := h.h.len
  cell := fun n a c e1 e2 l => by
    obtain ⟨x1, x2, x3⟩ := h.h.cell n a c e1 e2 l
    refine ⟨x1, ?_, x3⟩
    by_cases z : IsOwn A.s σ a
    · exact absurd e1 ((h.s.isOwn z).2.2.1 n)
    · rw [callG_not z]; exact x2
  inj := h.h.inj
  here := h.h.here
  mG := fun n a e => by
    by_cases z : IsOwn A.s σ a
    · exact absurd e ((h.s.isOwn z).2.2.1 n)
    · rw [callG_not z]; exact h.h.mG n a e
  gn := h.h.gn
theorem Sim.back (h : Sim K F G m A σ H) {F' H' : Hp} {m' : List Addr} {O' : List Cell} (e : Ex F F') (p : Pre m m') (q : HS K F' (callG A.s σ G H) m' O' H') : Sim K F' G m' ⟨A.s, O'⟩ σ H' := by
  have sub : ∀ a o, G a = some o → callG A.s σ G H a = some o := fun a o g => by
    by_cases z : IsOwn A.s σ a
    · rw [(h.s.isOwn z).2.1] at g; cases g
    · rw [callG_not z]; exact g
  have non : ∀ a, callG A.s σ G H a = none → G a = none := fun a c => by
    cases g : G a with
    | none => rfl
    | some o => rw [sub a o g] at c; cases c
  refine ⟨⟨q.exF, fun a o g => q.exG _ _ (sub a o g), fun a o f => non a (q.dj a o f), q.len, fun n a c e1 e2 l => ?_, q.inj, q.here, fun n a e => non a (q.mG n a e), q.gn⟩, h.s.go e p fun i c a e1 e2 => ?_⟩
  · obtain ⟨x1, x2, x3⟩ := q.cell n a c e1 e2 l
    exact ⟨x1, non a x2, x3⟩
  · have z : IsOwn A.s σ a := ⟨i, c, e1, e2⟩
    obtain ⟨f, g, mm, u, hu⟩ := h.s.isOwn z
    have cg : callG A.s σ G H a = some u := by rw [callG_own z]; exact hu
    refine ⟨?_, fun n e => ?_, ?_⟩
    · cases y : F' a with
      | none => rfl
      | some o => rw [q.dj a o y] at cg; cases cg
    · rw [q.mG n a e] at cg; cases cg
    · rw [q.exG _ _ cg, hu]
end

/-! ### judgements -/
abbrev XA := AS → Addr → List (Str × D) → Prop
/-- the written part, what an exception is wished for, in the concrete and in the abstract -/
structure Ct where
  K : PySem.W.Frag
  E : St → XK
  X : XA
  /-- in an except suite: the held exception's dict and fields -/
  hv : Option (Addr × List (Str × D))
structure EOk (c : Ct) (F G : Hp) (m : List Addr) : Prop where
  x : ∀ F' m' A' σ' H' C dx fvs fs, Ex F F' → Pre m m' → Sim c.K F' G m' A' σ' H' → F' dx = some (.xd fvs) → RepF c.K F' m' fvs fs → c.X A' C fs → c.E σ' (.ref C) (some dx) H'
  h : ∀ dx fs, c.hv = some (dx, fs) → ∃ fvs, F dx = some (.xd fvs) ∧ RepF c.K F m fvs fs
theorem EOk.mono {c : Ct} {F F' G : Hp} {m m' : List Addr} (e : Ex F F') (p : Pre m m') (h : EOk c F G m) : EOk c F' G m' :=
  ⟨fun F2 m2 A2 σ2 H2 C dx fvs fs e2 p2 => h.x F2 m2 A2 σ2 H2 C dx fvs fs (e.trans e2) (p.trans p2), fun dx fs z => by obtain ⟨fvs, z1, z2⟩ := h.h dx fs z; exact ⟨fvs, e _ _ z1, z2.mono e p⟩⟩
def RepR (K : PySem.W.Frag) (F : Hp) (m : List Addr) (A : AS) (σ : St) (v : V) : RV → Prop
  | .val d => Rep K F m v d
  | .slot i => σ[i]? = some (some v) ∧ ∃ c, A.s[i]? = some (some (.own c))
abbrev QE := AS → RV → Prop
def WE (c : Ct) (te : TE) (A : AS) (Q : QE) : Prop := ∀ F G m σ H, Sim c.K F G m A σ H → EOk c F G m → ∀ Qc : VK,
  (∀ F' m' A' v H' r, Ex F F' → Pre m m' → Sim c.K F' G m' A' σ H' → RepR c.K F' m' A' σ v r → Q A' r → Qc v H') → te σ H Qc
/-- the value as data: an own list is frozen -/
def Frz (A : AS) (r : RV) (k : AS → D → Prop) : Prop := match r with
  | .val d => k A d
  | .slot i => match A.s[i]? with
    | some (some (.own (.lst ds))) => k (A.setS i (.val (.lst ds))) (.lst ds)
    | _ => False
/-- a new list (or tuple, dict), not frozen yet, at p -/
def WN (c : Ct) (te : TE) (A : AS) (Q : AS → List D → Prop) : Prop := ∀ F G m σ H, Sim c.K F G m A σ H → EOk c F G m → ∀ Qc : VK,
  (∀ F' m' A' p vs H' ds, Ex F F' → Pre m m' → Sim c.K F' G m' A' σ H' → F' p = none → G p = none → (∀ n : Nat, m'[n]? ≠ some p) → ¬ IsOwn A'.s σ p → H' p = some (.lst vs) → Reps c.K F' m' vs ds → Q A' ds → Qc (.ref p) H') → te σ H Qc
def WT (c : Ct) (t : TT) (A : AS) (Q : AS → Bool → Prop) : Prop := ∀ F G m σ H, Sim c.K F G m A σ H → EOk c F G m → ∀ Qc : Bool → Hp → Prop,
  (∀ F' m' A' b H', Ex F F' → Pre m m' → Sim c.K F' G m' A' σ H' → Q A' b → Qc b H') → t σ H Qc
def WA (c : Ct) (t : TA) (A : AS) (Q : AS → List D → Prop) : Prop := ∀ F G m σ H, Sim c.K F G m A σ H → EOk c F G m → ∀ Qc : List V → Hp → Prop,
  (∀ F' m' A' vs H' ds, Ex F F' → Pre m m' → Sim c.K F' G m' A' σ H' → Reps c.K F' m' vs ds → Q A' ds → Qc vs H') → t σ H Qc
def WO (c : Ct) (t : TO) (A : AS) (Q : AS → Option Int → Prop) : Prop := ∀ F G m σ H, Sim c.K F G m A σ H → EOk c F G m → ∀ Qc : Option Int → Hp → Prop,
  (∀ F' m' A' o H', Ex F F' → Pre m m' → Sim c.K F' G m' A' σ H' → Q A' o → Qc o H') → t σ H Qc
structure EA where
  nx : AS → Prop
  rt : List Cell → D → Prop
  bk : AS → Prop := fun _ => False
  ct : AS → Prop := fun _ => False
structure EndsOk (c : Ct) (F G : Hp) (m : List Addr) (B : EA) (Dc : Ends) : Prop where
  nx : ∀ F' m' A' σ' H', Ex F F' → Pre m m' → Sim c.K F' G m' A' σ' H' → B.nx A' → Dc.nx σ' H'
  rt : ∀ F' m' O' v d H', Ex F F' → Pre m m' → HS c.K F' G m' O' H' → Rep c.K F' m' v d → B.rt O' d → Dc.rt v H'
  bk : ∀ F' m' A' σ' H', Ex F F' → Pre m m' → Sim c.K F' G m' A' σ' H' → B.bk A' → Dc.bk σ' H'
  ct : ∀ F' m' A' σ' H', Ex F F' → Pre m m' → Sim c.K F' G m' A' σ' H' → B.ct A' → Dc.ct σ' H'
theorem EndsOk.mono {c : Ct} {F F' G : Hp} {m m' : List Addr} {B : EA} {Dc : Ends} (e : Ex F F') (p : Pre m m') (h : EndsOk c F G m B Dc) : EndsOk c F' G m' B Dc :=
  ⟨fun F2 m2 A2 σ2 H2 e2 p2 => h.nx F2 m2 A2 σ2 H2 (e.trans e2) (p.trans p2), fun F2 m2 O2 v d H2 e2 p2 => h.rt F2 m2 O2 v d H2 (e.trans e2) (p.trans p2), fun F2 m2 A2 σ2 H2 e2 p2 => h.bk F2 m2 A2 σ2 H2 (e.trans e2) (p.trans p2), fun F2 m2 A2 σ2 H2 e2 p2 => h.ct F2 m2 A2 σ2 H2 (e.trans e2) (p.trans p2)⟩
def WS (c : Ct) (t : TS) (A : AS) (B : EA) : Prop := ∀ F G m σ H, Sim c.K F G m A σ H → EOk c F G m → ∀ Dc : Ends, EndsOk c F G m B Dc → t Dc σ H
/-- the target of an assignment gets a value -/
def WG (c : Ct) (g : TG) (d : D) (A : AS) (Q : AS → Prop) : Prop := ∀ F G m σ H v, Sim c.K F G m A σ H → Rep c.K F m v d → EOk c F G m → ∀ Qc : St → Hp → Prop,
  (∀ F' m' A' σ' H', Ex F F' → Pre m m' → Sim c.K F' G m' A' σ' H' → Q A' → Qc σ' H') → g v σ H Qc
/-- what J walks is ds -/
def Real (K : PySem.W.Frag) (F0 : Hp) (m0 : List Addr) (J : It) (ds : List D) : Prop := ∀ F G m A σ H, Ex F0 F → Pre m0 m → Sim K F G m A σ H → ∀ i,
  (∀ d, ds[i]? = some d → J.go i H ∧ ∀ x H', J.yld i H x H' → ∃ F', Ex F F' ∧ Sim K F' G m A σ H' ∧ Rep K F' m x d) ∧ (ds.length ≤ i → J.stop i H)
def WI (c : Ct) (wi : TI) (A : AS) (Q : AS → List D → Prop) : Prop := ∀ F G m σ H, Sim c.K F G m A σ H → EOk c F G m → ∀ Rc : It → Hp → Prop,
  (∀ F' m' A' J H' ds, Ex F F' → Pre m m' → Sim c.K F' G m' A' σ H' → Real c.K F' m' J ds → Q A' ds → Rc J H') → wi σ H Rc

section
variable {c : Ct} {A : AS} {te ta tb : TE} {t u tt : TT}
/-! ### consequence -/
theorem WE.imp {Q Q' : QE} (h : WE c te A Q) (f : ∀ A r, Q A r → Q' A r) : WE c te A Q' := fun F G m σ H S E Qc k => h F G m σ H S E Qc fun F' m' A' v H' r e p S' R q => k F' m' A' v H' r e p S' R (f _ _ q)
theorem WS.imp {ts : TS} {B B' : EA} (h : WS c ts A B) (f1 : ∀ A, B.nx A → B'.nx A) (f2 : ∀ A d, B.rt A d → B'.rt A d) (f3 : ∀ A, B.bk A → B'.bk A) (f4 : ∀ A, B.ct A → B'.ct A) : WS c ts A B' := fun F G m σ H S E Dc k =>
  h F G m σ H S E Dc ⟨fun F' m' A' σ' H' e p S' q => k.nx _ _ _ _ _ e p S' (f1 _ q), fun F' m' O' v d H' e p S' R q => k.rt _ _ _ _ _ _ e p S' R (f2 _ _ q), fun F' m' A' σ' H' e p S' q => k.bk _ _ _ _ _ e p S' (f3 _ q), fun F' m' A' σ' H' e p S' q => k.ct _ _ _ _ _ e p S' (f4 _ q)⟩
/-! ### freezing -/
theorem frz_ok {K : PySem.W.Frag} {F G : Hp} {m : List Addr} {A : AS} {σ : St} {H : Hp} {v : V} {r : RV} {k : AS → D → Prop} (S : Sim K F G m A σ H) (R : RepR K F m A σ v r) (h : Frz A r k) :
    ∃ F' A' d, Ex F F' ∧ Sim K F' G m A' σ H ∧ Rep K F' m v d ∧ k A' d := by
  cases r with
  | val d => exact ⟨F, A, d, Evl.Ex.refl F, S, R, h⟩
  | slot i =>
    obtain ⟨e1, c, e2⟩ := R
    simp only [Frz, e2] at h
    cases c with
    | lst ds =>
      obtain ⟨a, q, l, f, g, mm, vs, hv, rv⟩ := S.s.ownAt e2
      rw [e1] at q; cases q
      have ex : Ex F (upd F a (.lst vs)) := ex_upd f
      have rep : Rep K (upd F a (.lst vs)) m (.ref a) (.lst ds) := .lst upd_same (rv.mono ex (Pre.refl _))
      refine ⟨upd F a (.lst vs), A.setS i (.val (.lst ds)), .lst ds, ex, ⟨S.h.freeze hv f g mm, ?_⟩, rep, h⟩
      have s1 : SS K (upd F a (.lst vs)) G m (A.s.set i none) (σ.set i (some (.ref a))) H := (S.s.forget (i := i) (x := some (.ref a))).go ex (Pre.refl _) fun j c b z1 z2 => by
        have ne : i ≠ j := fun z => by
          subst z
          have hl : i < A.s.length := by have := (List.getElem?_eq_some_iff.mp z1).1; rw [List.length_set] at this; exact this
          rw [List.getElem?_set_self hl] at z1; cases z1
        rw [List.getElem?_set_ne ne] at z1 z2
        obtain ⟨b', q, l', f', g', mm', cc⟩ := S.s.ownAt z1
        rw [z2] at q; cases q
        have nab : b ≠ a := fun z => by subst z; exact S.s.own i j _ _ _ ne e2 z1 e1 z2
        exact ⟨by rw [upd_ne nab]; exact f', mm', rfl⟩
      have s2 := s1.setV (i := i) rep
      rw [List.set_set, List.set_set] at s2
      have e : σ.set i (some (.ref a)) = σ := by
        apply List.ext_getElem?
        intro j
        by_cases z : i = j
        · subst z
          rw [List.getElem?_set_self (List.getElem?_eq_some_iff.mp e1).1, e1]
        · rw [List.getElem?_set_ne z]
      rw [e] at s2
      exact s2
    | ins _ _ => exact h.elim
    | dK _ => exact h.elim
    | dT _ => exact h.elim
    | dN _ => exact h.elim
    | gone => exact h.elim
/-- a value is taken as data -/
theorem WE.frz {Q : AS → D → Prop} (h : WE c te A fun A1 r => Frz A1 r Q) : WE c te A fun A1 r => ∃ d, r = .val d ∧ Q A1 d := fun F G m σ H S E Qc k =>
  h F G m σ H S E Qc fun F' m' A' v H' r e p S' R q => by
    obtain ⟨F2, A2, d, e2, S2, R2, q2⟩ := frz_ok S' R q
    exact k F2 m' A2 v H' (.val d) (e.trans e2) p S2 R2 ⟨d, rfl, q2⟩
/-! ### expressions -/
theorem we_var {i : Nat} {d : D} {Q : QE} (h : A.s[i]? = some (some (.val d))) (q : Q A (.val d)) : WE c (tVar i) A Q := fun F G m σ H S E Qc k => by
  obtain ⟨v, e, r⟩ := S.s.valAt h
  exact ⟨v, e, k F m A v H (.val d) (Evl.Ex.refl F) (Pre.refl m) S r q⟩
theorem we_own {i : Nat} {x : Cell} {Q : QE} (h : A.s[i]? = some (some (.own x))) (q : Q A (.slot i)) : WE c (tVar i) A Q := fun F G m σ H S E Qc k => by
  obtain ⟨a, e, _⟩ := S.s.ownAt h
  exact ⟨.ref a, e, k F m A (.ref a) H (.slot i) (Evl.Ex.refl F) (Pre.refl m) S ⟨e, x, h⟩ q⟩
theorem we_C {v : V} {d : D} {Q : QE} (h : ∀ F m, Rep c.K F m v d) (q : Q A (.val d)) : WE c (tC v) A Q := fun F G m σ H S E Qc k => k F m A v H (.val d) (Evl.Ex.refl F) (Pre.refl m) S (h F m) q
theorem we_non {Q : QE} (q : Q A (.val .non)) : WE c (tC .non) A Q := we_C (fun _ _ => .non) q
theorem we_bl {b : Bool} {Q : QE} (q : Q A (.val (.bl b))) : WE c (tC (.bl b)) A Q := we_C (fun _ _ => .bl b) q
theorem we_int {i : Int} {Q : QE} (q : Q A (.val (.int i))) : WE c (tC (.int i)) A Q := we_C (fun _ _ => .int i) q
theorem we_str {x : Str} {Q : QE} (q : Q A (.val (.str x))) : WE c (tC (.str x)) A Q := we_C (fun _ _ => .str x) q
/-- what an operator asks of two values, in the abstract -/
def OpD (c : Ct) (r : R2) (x y : RV) (A : AS) (Q : QE) : Prop := ∀ F G m σ H v w, Sim c.K F G m A σ H → EOk c F G m → RepR c.K F m A σ v x → RepR c.K F m A σ w y → ∀ Qc : VK,
  (∀ F' m' A' v H' r, Ex F F' → Pre m m' → Sim c.K F' G m' A' σ H' → RepR c.K F' m' A' σ v r → Q A' r → Qc v H') → r v w H Qc
/-- the first operand stays while the second is reckoned: the slot it stands in isn't frozen on the way -/
def Stays (A A' : AS) : RV → Prop
  | .val _ => True
  | .slot i => A'.s[i]? = A.s[i]?
theorem RepR.stay {K : PySem.W.Frag} {F F' : Hp} {m m' : List Addr} {A A' : AS} {σ : St} {v : V} {r : RV} (h : RepR K F m A σ v r) (e : Ex F F') (p : Pre m m') (s : Stays A A' r) : RepR K F' m' A' σ v r := by
  cases r with
  | val d => exact Rep.mono e p h
  | slot i => obtain ⟨h1, x, h2⟩ := h; exact ⟨h1, x, by rw [s]; exact h2⟩
theorem we_op {r : R2} {Q : QE} (h : WE c ta A fun A1 x => WE c tb A1 fun A2 y => Stays A1 A2 x ∧ OpD c r x y A2 Q) : WE c (tOp r ta tb) A Q := fun F G m σ H S E Qc k =>
  h F G m σ H S E _ fun F1 m1 A1 v H1 x e1 p1 S1 R1 q1 => q1 F1 G m1 σ H1 S1 (E.mono e1 p1) _ fun F2 m2 A2 w H2 y e2 p2 S2 R2 q2 =>
    q2.2 F2 G m2 σ H2 v w S2 (E.mono (e1.trans e2) (p1.trans p2)) (R1.stay e2 p2 q2.1) R2 Qc fun F3 m3 A3 v3 H3 r3 e3 p3 S3 R3 q3 => k F3 m3 A3 v3 H3 r3 ((e1.trans e2).trans e3) ((p1.trans p2).trans p3) S3 R3 q3
def UnD (c : Ct) (r : V → Hp → VK → Prop) (x : RV) (A : AS) (Q : QE) : Prop := ∀ F G m σ H v, Sim c.K F G m A σ H → EOk c F G m → RepR c.K F m A σ v x → ∀ Qc : VK,
  (∀ F' m' A' v H' r, Ex F F' → Pre m m' → Sim c.K F' G m' A' σ H' → RepR c.K F' m' A' σ v r → Q A' r → Qc v H') → r v H Qc
theorem we_un {r : V → Hp → VK → Prop} {Q : QE} (h : WE c ta A fun A1 x => UnD c r x A1 Q) : WE c (tUn r ta) A Q := fun F G m σ H S E Qc k =>
  h F G m σ H S E _ fun F1 m1 A1 v H1 x e1 p1 S1 R1 q1 => q1 F1 G m1 σ H1 v S1 (E.mono e1 p1) R1 Qc fun F3 m3 A3 v3 H3 r3 e3 p3 S3 R3 q3 => k F3 m3 A3 v3 H3 r3 (e1.trans e3) (p1.trans p3) S3 R3 q3
/-! ### tests -/
theorem wt_test {Q : AS → Bool → Prop} (h : WE c te A fun A1 x => ∃ b, x = .val (.bl b) ∧ Q A1 b) : WT c (tTest te) A Q := fun F G m σ H S E Qc k =>
  h F G m σ H S E _ fun F1 m1 A1 v H1 x e1 p1 S1 R1 ⟨b, ex, q⟩ => by
    subst ex; cases R1; exact ⟨b, rfl, k F1 m1 A1 b H1 e1 p1 S1 q⟩
theorem wt_B {Q : AS → Bool → Prop} (h : WE c te A fun A1 x => ∃ b, x = .val (.bl b) ∧ Q A1 b) : WT c (tB te) A Q := fun F G m σ H S E Qc k =>
  h F G m σ H S E _ fun F1 m1 A1 v H1 x e1 p1 S1 R1 ⟨b, ex, q⟩ => by
    subst ex; cases R1; exact ⟨b, rfl, k F1 m1 A1 b H1 e1 p1 S1 q⟩
theorem wt_and {Q : AS → Bool → Prop} (h : WT c t A fun A1 b => (b = true → WT c u A1 Q) ∧ (b = false → Q A1 false)) : WT c (tAnd t u) A Q := fun F G m σ H S E Qc k =>
  h F G m σ H S E _ fun F1 m1 A1 b H1 e1 p1 S1 q => by
    cases b with
    | true => exact q.1 rfl F1 G m1 σ H1 S1 (E.mono e1 p1) Qc fun F2 m2 A2 b2 H2 e2 p2 S2 q2 => k F2 m2 A2 b2 H2 (e1.trans e2) (p1.trans p2) S2 q2
    | false => exact k F1 m1 A1 false H1 e1 p1 S1 (q.2 rfl)
theorem wt_or {Q : AS → Bool → Prop} (h : WT c t A fun A1 b => (b = true → Q A1 true) ∧ (b = false → WT c u A1 Q)) : WT c (tOr t u) A Q := fun F G m σ H S E Qc k =>
  h F G m σ H S E _ fun F1 m1 A1 b H1 e1 p1 S1 q => by
    cases b with
    | false => exact q.2 rfl F1 G m1 σ H1 S1 (E.mono e1 p1) Qc fun F2 m2 A2 b2 H2 e2 p2 S2 q2 => k F2 m2 A2 b2 H2 (e1.trans e2) (p1.trans p2) S2 q2
    | true => exact k F1 m1 A1 true H1 e1 p1 S1 (q.1 rfl)
theorem wt_not {Q : AS → Bool → Prop} (h : WT c t A fun A1 b => Q A1 (!b)) : WT c (tNot t) A Q := fun F G m σ H S E Qc k => h F G m σ H S E _ fun F1 m1 A1 b H1 e1 p1 S1 q => k F1 m1 A1 (!b) H1 e1 p1 S1 q
theorem we_and {Q : QE} (h : WE c ta A fun A1 x => ∃ b, x = .val (.bl b) ∧ (b = true → WE c tb A1 Q) ∧ (b = false → Q A1 (.val (.bl false)))) : WE c (tAndV ta tb) A Q := fun F G m σ H S E Qc k =>
  h F G m σ H S E _ fun F1 m1 A1 v H1 x e1 p1 S1 R1 ⟨b, ex, q1, q2⟩ => by
    subst ex; cases R1
    refine ⟨b, rfl, ?_⟩
    cases b with
    | true => exact q1 rfl F1 G m1 σ H1 S1 (E.mono e1 p1) Qc fun F2 m2 A2 b2 H2 r2 e2 p2 S2 R2 q2 => k F2 m2 A2 b2 H2 r2 (e1.trans e2) (p1.trans p2) S2 R2 q2
    | false => exact k F1 m1 A1 _ H1 (.val (.bl false)) e1 p1 S1 (Rep.bl false) (q2 rfl)
theorem we_or {Q : QE} (h : WE c ta A fun A1 x => ∃ b, x = .val (.bl b) ∧ (b = true → Q A1 (.val (.bl true))) ∧ (b = false → WE c tb A1 Q)) : WE c (tOrV ta tb) A Q := fun F G m σ H S E Qc k =>
  h F G m σ H S E _ fun F1 m1 A1 v H1 x e1 p1 S1 R1 ⟨b, ex, q1, q2⟩ => by
    subst ex; cases R1
    refine ⟨b, rfl, ?_⟩
    cases b with
    | false => exact q2 rfl F1 G m1 σ H1 S1 (E.mono e1 p1) Qc fun F2 m2 A2 b2 H2 r2 e2 p2 S2 R2 q2 => k F2 m2 A2 b2 H2 r2 (e1.trans e2) (p1.trans p2) S2 R2 q2
    | true => exact k F1 m1 A1 _ H1 (.val (.bl true)) e1 p1 S1 (Rep.bl true) (q1 rfl)
theorem we_not {Q : QE} (h : WE c ta A fun A1 x => ∃ b, x = .val (.bl b) ∧ Q A1 (.val (.bl (!b)))) : WE c (tNotV ta) A Q := fun F G m σ H S E Qc k =>
  h F G m σ H S E _ fun F1 m1 A1 v H1 x e1 p1 S1 R1 ⟨b, ex, q⟩ => by
    subst ex; cases R1; exact ⟨b, rfl, k F1 m1 A1 _ H1 (.val (.bl (!b))) e1 p1 S1 (Rep.bl _) q⟩
theorem we_if {Q : QE} (h : WT c t A fun A1 b => (b = true → WE c ta A1 Q) ∧ (b = false → WE c tb A1 Q)) : WE c (tIf t ta tb) A Q := fun F G m σ H S E Qc k =>
  h F G m σ H S E _ fun F1 m1 A1 b H1 e1 p1 S1 q => by
    cases b with
    | true => exact q.1 rfl F1 G m1 σ H1 S1 (E.mono e1 p1) Qc fun F2 m2 A2 b2 H2 r2 e2 p2 S2 R2 q2 => k F2 m2 A2 b2 H2 r2 (e1.trans e2) (p1.trans p2) S2 R2 q2
    | false => exact q.2 rfl F1 G m1 σ H1 S1 (E.mono e1 p1) Qc fun F2 m2 A2 b2 H2 r2 e2 p2 S2 R2 q2 => k F2 m2 A2 b2 H2 r2 (e1.trans e2) (p1.trans p2) S2 R2 q2
/-! ### arguments -/
theorem wa_nil {Q : AS → List D → Prop} (q : Q A []) : WA c tNil A Q := fun F G m σ H S E Qc k => k F m A [] H [] (Evl.Ex.refl F) (Pre.refl m) S .nil q
theorem wa_cons {tr : TA} {Q : AS → List D → Prop} (h : WE c ta A fun A1 r => Frz A1 r fun A2 d => WA c tr A2 fun A3 ds => Q A3 (d :: ds)) : WA c (tCons ta tr) A Q := fun F G m σ H S E Qc k =>
  (WE.frz h) F G m σ H S E _ fun F1 m1 A1 v H1 x e1 p1 S1 R1 ⟨d, ex, q⟩ => by
    subst ex
    exact q F1 G m1 σ H1 S1 (E.mono e1 p1) _ fun F2 m2 A2 vs H2 ds e2 p2 S2 R2 q2 => k F2 m2 A2 _ H2 _ (e1.trans e2) (p1.trans p2) S2 (.cons (Rep.mono e2 p2 R1) R2) q2
theorem wo_none {Q : AS → Option Int → Prop} (q : Q A none) : WO c tNoPart A Q := fun F G m σ H S E Qc k => k F m A none H (Evl.Ex.refl F) (Pre.refl m) S q
theorem wo_some {Q : AS → Option Int → Prop} (h : WE c te A fun A1 x => ∃ i, x = .val (.int i) ∧ Q A1 (some i)) : WO c (tPart te) A Q := fun F G m σ H S E Qc k =>
  h F G m σ H S E _ fun F1 m1 A1 v H1 x e1 p1 S1 R1 ⟨i, ex, q⟩ => by
    subst ex; cases R1; exact ⟨i, rfl, k F1 m1 A1 (some i) H1 e1 p1 S1 q⟩
/-- a new frozen object -/
theorem Sim.frz {K : PySem.W.Frag} {F G : Hp} {m : List Addr} {A : AS} {σ : St} {H : Hp} (S : Sim K F G m A σ H) {p : Addr} {o : HO} (hp : H p = none) : Sim K (upd F p o) G m A σ (upd H p o) :=
  ⟨S.h.frz hp, S.s.go (ex_upd (S.h.fresh hp).1) (Pre.refl _) fun i c a e1 e2 => by
    obtain ⟨b, q, l, f, g, mm, cc⟩ := S.s.ownAt e1
    rw [e2] at q; cases q
    have np := cc.ne l hp
    exact ⟨by rw [upd_ne np]; exact f, mm, upd_ne np⟩⟩
/-- a new object that nobody has yet -/
theorem Sim.new {K : PySem.W.Frag} {F G : Hp} {m : List Addr} {A : AS} {σ : St} {H : Hp} (S : Sim K F G m A σ H) {p : Addr} {o : HO} (hp : H p = none) : Sim K F G m A σ (upd H p o) :=
  ⟨S.h.mut (S.h.fresh hp).1 (S.h.fresh hp).2.1 (S.h.fresh hp).2.2, S.s.go (Evl.Ex.refl F) (Pre.refl _) fun i c a e1 e2 => by
    obtain ⟨b, q, l, f, g, mm, cc⟩ := S.s.ownAt e1
    rw [e2] at q; cases q
    exact ⟨f, mm, upd_ne (cc.ne l hp)⟩⟩
theorem Sim.notOwn {K : PySem.W.Frag} {F G : Hp} {m : List Addr} {A : AS} {σ : St} {H : Hp} (S : Sim K F G m A σ H) {p : Addr} (hp : H p = none) : ¬ IsOwn A.s σ p := fun o => by
  obtain ⟨_, _, _, u, q⟩ := S.s.isOwn o
  rw [hp] at q; cases q
theorem we_tup {ta : TA} {Q : QE} (h : WA c ta A fun A1 ds => ds.length ≤ 1000 ∧ Q A1 (.val (.tup ds))) : WE c (tTupP ta) A Q := fun F G m σ H S E Qc k =>
  h F G m σ H S E _ fun F1 m1 A1 vs H1 ds e1 p1 S1 R1 ⟨hl, q⟩ => by
    refine ⟨Nat.le_trans (by rw [R1.len]; exact hl) (by decide), fun p its hp => ?_⟩
    have ex : Ex F1 (upd F1 p (tupHO its vs)) := ex_upd (S1.h.fresh hp).1
    exact k (upd F1 p (tupHO its vs)) m1 A1 _ _ (.val (.tup ds)) (e1.trans ex) p1 (S1.frz hp) (show Rep c.K _ _ _ _ from .tup (.inl ⟨its, upd_same⟩) (R1.mono ex (Pre.refl _))) q
theorem wn_lst {ta : TA} {Q : AS → List D → Prop} (h : WA c ta A fun A1 ds => ds.length ≤ 1000 ∧ Q A1 ds) : WN c (tLst ta) A Q := fun F G m σ H S E Qc k =>
  h F G m σ H S E _ fun F1 m1 A1 vs H1 ds e1 p1 S1 R1 ⟨hl, q⟩ =>
    ⟨Nat.le_trans (by rw [R1.len]; exact hl) (by decide), fun p hp =>
      k F1 m1 A1 p vs _ ds e1 p1 (S1.new hp) (S1.h.fresh hp).1 (S1.h.fresh hp).2.1 (S1.h.fresh hp).2.2 (S1.notOwn hp) upd_same R1 q⟩
/-- a new list, frozen at once -/
theorem we_ofN {Q : QE} (h : WN c te A fun A1 ds => Q A1 (.val (.lst ds))) : WE c te A Q := fun F G m σ H S E Qc k =>
  h F G m σ H S E Qc fun F1 m1 A1 p vs H1 ds e1 p1 S1 f g mm no hv R q => by
    have ex : Ex F1 (upd F1 p (.lst vs)) := ex_upd f
    refine k (upd F1 p (.lst vs)) m1 A1 _ H1 (.val (.lst ds)) (e1.trans ex) p1 ⟨S1.h.freeze hv f g mm, S1.s.go ex (Pre.refl _) fun i c a z1 z2 => ?_⟩ (show Rep c.K _ _ _ _ from .lst upd_same (R.mono ex (Pre.refl _))) q
    obtain ⟨b, q, l, f', g', mm', cc⟩ := S1.s.ownAt z1
    rw [z2] at q; cases q
    have np : a ≠ p := fun z => no ⟨i, c, z1, z ▸ z2⟩
    exact ⟨by rw [upd_ne np]; exact f', mm', rfl⟩
/-- a new list, a cell from now on -/
theorem we_cell {Q : QE} (h : WN c te A fun A1 ds => Q ⟨A1.s, A1.o ++ [.lst ds]⟩ (.val (.ptr A1.o.length))) : WE c te A Q := fun F G m σ H S E Qc k =>
  h F G m σ H S E Qc fun F1 m1 A1 p vs H1 ds e1 p1 S1 f g mm no hv R q => by
    have pr : Pre m1 (m1 ++ [p]) := Pre.app
    refine k F1 (m1 ++ [p]) ⟨A1.s, A1.o ++ [.lst ds]⟩ (.ref p) H1 (.val (.ptr A1.o.length)) e1 (p1.trans pr) ⟨?_, S1.s.go (Evl.Ex.refl _) pr fun i x a z1 z2 => ?_⟩ (show Rep c.K _ _ _ _ from .ptr ?_) q
    · refine ⟨S1.h.exF, S1.h.exG, S1.h.dj, by rw [List.length_append, List.length_append, S1.h.len]; rfl, fun i a d z1 z2 l => ?_, fun i j a z1 z2 => ?_, fun i a z => ?_, fun i a z => ?_, fun i a z1 z2 => ?_⟩
      · by_cases z : i < m1.length
        · rw [List.getElem?_append_left z] at z1
          rw [List.getElem?_append_left (by rw [← S1.h.len]; exact z)] at z2
          obtain ⟨x1, x2, x3⟩ := S1.h.cell i a d z1 z2 l
          exact ⟨x1, x2, x3.mono (fun _ _ h => h) pr rfl⟩
        · have hl := (List.getElem?_eq_some_iff.mp z1).1
          rw [List.length_append] at hl
          have ei : i = m1.length := by simp only [List.length_cons, List.length_nil] at hl; omega
          subst ei
          rw [List.getElem?_append_right (Nat.le_refl _), Nat.sub_self] at z1
          rw [List.getElem?_append_right (by rw [S1.h.len]; exact Nat.le_refl _), S1.h.len, Nat.sub_self] at z2
          cases z1; cases z2
          exact ⟨f, g, vs, hv, R.mono (fun _ _ h => h) pr⟩
      · by_cases z : i < m1.length
        · rw [List.getElem?_append_left z] at z1
          by_cases y : j < m1.length
          · rw [List.getElem?_append_left y] at z2; exact S1.h.inj i j a z1 z2
          · have hl := (List.getElem?_eq_some_iff.mp z2).1
            rw [List.length_append] at hl
            have ej : j = m1.length := by simp only [List.length_cons, List.length_nil] at hl; omega
            subst ej
            rw [List.getElem?_append_right (Nat.le_refl _), Nat.sub_self] at z2
            cases z2
            exact absurd z1 (mm i)
        · have hl := (List.getElem?_eq_some_iff.mp z1).1
          rw [List.length_append] at hl
          have ei : i = m1.length := by simp only [List.length_cons, List.length_nil] at hl; omega
          subst ei
          rw [List.getElem?_append_right (Nat.le_refl _), Nat.sub_self] at z1
          cases z1
          by_cases y : j < m1.length
          · rw [List.getElem?_append_left y] at z2; exact absurd z2 (mm j)
          · have hl := (List.getElem?_eq_some_iff.mp z2).1
            rw [List.length_append] at hl
            simp only [List.length_cons, List.length_nil] at hl; omega
      · by_cases y : i < m1.length
        · rw [List.getElem?_append_left y] at z; exact S1.h.here i a z
        · have hl := (List.getElem?_eq_some_iff.mp z).1
          rw [List.length_append] at hl
          have ei : i = m1.length := by simp only [List.length_cons, List.length_nil] at hl; omega
          subst ei
          rw [List.getElem?_append_right (Nat.le_refl _), Nat.sub_self] at z
          cases z; exact ⟨_, hv⟩
      · by_cases y : i < m1.length
        · rw [List.getElem?_append_left y] at z; exact S1.h.mG i a z
        · have hl := (List.getElem?_eq_some_iff.mp z).1
          rw [List.length_append] at hl
          have ei : i = m1.length := by simp only [List.length_cons, List.length_nil] at hl; omega
          subst ei
          rw [List.getElem?_append_right (Nat.le_refl _), Nat.sub_self] at z
          cases z; exact g
      · by_cases y : i < m1.length
        · rw [List.getElem?_append_left y] at z1
          rw [List.getElem?_append_left (by rw [← S1.h.len]; exact y)] at z2
          exact S1.h.gn i a z1 z2
        · have hl := (List.getElem?_eq_some_iff.mp z1).1
          rw [List.length_append] at hl
          have ei : i = m1.length := by simp only [List.length_cons, List.length_nil] at hl; omega
          subst ei
          rw [List.getElem?_append_right (by rw [S1.h.len]; exact Nat.le_refl _), S1.h.len, Nat.sub_self] at z2
          cases z2
    · obtain ⟨b, q, l, f', g', mm', cc⟩ := S1.s.ownAt z1
      rw [z2] at q; cases q
      have np : a ≠ p := fun z => no ⟨i, x, z1, z ▸ z2⟩
      refine ⟨f', fun n e => ?_, rfl⟩
      by_cases y : n < m1.length
      · rw [List.getElem?_append_left y] at e; exact mm' n e
      · have hl := (List.getElem?_eq_some_iff.mp e).1
        rw [List.length_append] at hl
        have ei : n = m1.length := by simp only [List.length_cons, List.length_nil] at hl; omega
        subst ei
        rw [List.getElem?_append_right (Nat.le_refl _), Nat.sub_self] at e
        cases e; exact np rfl
    · rw [← S1.h.len, List.getElem?_append_right (Nat.le_refl _), Nat.sub_self]; rfl
/-! ### statements -/
variable {B : EA} {t1 t2 : TS}
theorem ws_seq (h : WS c t1 A { B with nx := fun A1 => WS c t2 A1 B }) : WS c (tSeq t1 t2) A B := fun F G m σ H S E Dc k =>
  h F G m σ H S E _ ⟨fun F1 m1 A1 σ1 H1 e1 p1 S1 q => q F1 G m1 σ1 H1 S1 (E.mono e1 p1) Dc (k.mono e1 p1), k.rt, k.bk, k.ct⟩
theorem ws_next (q : B.nx A) : WS c tNext A B := fun F G m σ H S E Dc k => k.nx F m A σ H (Evl.Ex.refl F) (Pre.refl m) S q
theorem ws_break (q : B.bk A) : WS c tBreak A B := fun F G m σ H S E Dc k => k.bk F m A σ H (Evl.Ex.refl F) (Pre.refl m) S q
theorem ws_cont (q : B.ct A) : WS c tCont A B := fun F G m σ H S E Dc k => k.ct F m A σ H (Evl.Ex.refl F) (Pre.refl m) S q
theorem ws_drop (h : WE c te A fun A1 _ => B.nx A1) : WS c (tDrop te) A B := fun F G m σ H S E Dc k => h F G m σ H S E _ fun F1 m1 A1 v H1 r e1 p1 S1 R1 q => k.nx F1 m1 A1 σ H1 e1 p1 S1 q
theorem ws_ret (h : WE c te A fun A1 r => Frz A1 r fun A2 d => B.rt A2.o d) : WS c (tRet te) A B := fun F G m σ H S E Dc k => (WE.frz h) F G m σ H S E _ fun F1 m1 A1 v H1 r e1 p1 S1 R1 ⟨d, ex, q⟩ => by
  subst ex; exact k.rt F1 m1 A1.o v d H1 e1 p1 S1.h R1 q
theorem ws_retN (q : B.rt A.o .non) : WS c tRetN A B := fun F G m σ H S E Dc k => k.rt F m A.o .non .non H (Evl.Ex.refl F) (Pre.refl m) S.h .non q
theorem ws_if (h : WT c t A fun A1 b => (b = true → WS c t1 A1 B) ∧ (b = false → WS c t2 A1 B)) : WS c (tIfS t t1 t2) A B := fun F G m σ H S E Dc k =>
  h F G m σ H S E _ fun F1 m1 A1 b H1 e1 p1 S1 q => by
    cases b with
    | true => exact q.1 rfl F1 G m1 σ H1 S1 (E.mono e1 p1) Dc (k.mono e1 p1)
    | false => exact q.2 rfl F1 G m1 σ H1 S1 (E.mono e1 p1) Dc (k.mono e1 p1)
theorem Sim.setV {K : PySem.W.Frag} {F G : Hp} {m : List Addr} {A : AS} {σ : St} {H : Hp} (S : Sim K F G m A σ H) {i : Nat} {v : V} {d : D} (r : Rep K F m v d) : Sim K F G m (A.setS i (.val d)) (σ.set i (some v)) H := ⟨S.h, S.s.setV r⟩
theorem ws_asg {i : Nat} (h : WE c te A fun A1 r => Frz A1 r fun A2 d => B.nx (A2.setS i (.val d))) : WS c (tAsg te (gName i)) A B := fun F G m σ H S E Dc k => (WE.frz h) F G m σ H S E _ fun F1 m1 A1 v H1 r e1 p1 S1 R1 ⟨d, ex, q⟩ => by
  subst ex; exact k.nx F1 m1 _ _ H1 e1 p1 (S1.setV R1) q
/-- a new list that the name alone has -/
theorem ws_asgO {i : Nat} (h : WN c te A fun A1 ds => B.nx (A1.setS i (.own (.lst ds)))) : WS c (tAsg te (gName i)) A B := fun F G m σ H S E Dc k => h F G m σ H S E _ fun F1 m1 A1 p vs H1 ds e1 p1 S1 f g mm no hv R q =>
  k.nx F1 m1 (A1.setS i (.own (.lst ds))) (σ.set i (some (.ref p))) H1 e1 p1 ⟨S1.h, S1.s.setO ⟨p, rfl, trivial, f, g, mm, vs, hv, R⟩ fun j c' z1 z2 => no ⟨j, c', z1, z2⟩⟩ q
theorem wg_name {i : Nat} {d : D} {Q : AS → Prop} (q : Q (A.setS i (.val d))) : WG c (gName i) d A Q := fun F G m σ H v S R E Qc k => k F m _ _ H (Evl.Ex.refl F) (Pre.refl m) (S.setV R) q
def WGs (c : Ct) (g : TGs) (ds : List D) (A : AS) (Q : AS → Prop) : Prop := ∀ F G m σ H vs, Sim c.K F G m A σ H → Reps c.K F m vs ds → EOk c F G m → ∀ Qc : St → Hp → Prop,
  (∀ F' m' A' σ' H', Ex F F' → Pre m m' → Sim c.K F' G m' A' σ' H' → Q A' → Qc σ' H') → g vs σ H Qc
theorem wgs_nil {Q : AS → Prop} (q : Q A) : WGs c gNil [] A Q := fun F G m σ H vs S R E Qc k => by
  cases R; exact ⟨rfl, k F m A σ H (Evl.Ex.refl F) (Pre.refl m) S q⟩
theorem wgs_cons {g : TG} {gs : TGs} {d : D} {ds : List D} {Q : AS → Prop} (h : WG c g d A fun A1 => WGs c gs ds A1 Q) : WGs c (gCons g gs) (d :: ds) A Q := fun F G m σ H vs S R E Qc k => by
  cases R with
  | cons a r => exact ⟨_, _, rfl, h F G m σ H _ S a E _ fun F1 m1 A1 σ1 H1 e1 p1 S1 q => q F1 G m1 σ1 H1 _ S1 (r.mono e1 p1) (E.mono e1 p1) Qc fun F2 m2 A2 σ2 H2 e2 p2 S2 q2 => k F2 m2 A2 σ2 H2 (e1.trans e2) (p1.trans p2) S2 q2⟩
theorem wg_tup {n : Nat} {gs : TGs} {ds : List D} {Q : AS → Prop} (hn : ds.length = n) (h : WGs c gs ds A Q) : WG c (gTup c.K n gs) (.tup ds) A Q := fun F G m σ H v S R E Qc k => by
  cases R with
  | tup hs r => exact ⟨_, _, rfl, Evl.ex_t S.h.exF hs.seq, by rw [r.len]; exact hn, h F G m σ H _ S r E Qc k⟩
theorem wg_sct {n : Nat} {gs : TGs} {ds : List D} {Q : AS → Prop} (hn : ds.length = n) (h : WGs c gs ds A Q) : WG c (gTup c.K n gs) (.sct ds) A Q := fun F G m σ H v S R E Qc k => by
  cases R with
  | sct hs r => exact ⟨_, _, rfl, Evl.ex_t S.h.exF hs, by rw [r.len]; exact hn, h F G m σ H _ S r E Qc k⟩
theorem ws_asgG {g : TG} (h : WE c te A fun A1 r => Frz A1 r fun A2 d => WG c g d A2 B.nx) : WS c (tAsg te g) A B := fun F G m σ H S E Dc k => (WE.frz h) F G m σ H S E _ fun F1 m1 A1 v H1 r e1 p1 S1 R1 ⟨d, ex, q⟩ => by
  subst ex; exact q F1 G m1 σ H1 v S1 R1 (E.mono e1 p1) _ fun F2 m2 A2 σ2 H2 e2 p2 S2 q2 => k.nx F2 m2 A2 σ2 H2 (e1.trans e2) (p1.trans p2) S2 q2
/-! ### loops -/
theorem ws_for {wi : TI} {g : TG} {tb : TS} (I : List D → Nat → AS → Prop) (h : WI c wi A fun A1 ds => I ds 0 A1 ∧ (∀ i d A2, ds[i]? = some d → I ds i A2 → WG c g d A2 fun A3 => WS c tb A3 { nx := I ds (i + 1), ct := I ds (i + 1), bk := B.nx, rt := B.rt }) ∧ ∀ A2, I ds ds.length A2 → B.nx A2) :
    WS c (tFor wi g tb) A B := fun F G m σ H S E Dc k => h F G m σ H S E _ fun F1 m1 A1 J H1 ds e1 p1 S1 RJ ⟨h0, hs, hd⟩ => by
  refine ⟨fun i n σ2 H2 => n = ds.length - i ∧ i ≤ ds.length ∧ ∃ F2 m2 A2, Ex F1 F2 ∧ Pre m1 m2 ∧ Sim c.K F2 G m2 A2 σ2 H2 ∧ I ds i A2, ⟨_, rfl, Nat.zero_le _, F1, m1, A1, Evl.Ex.refl _, Pre.refl _, S1, h0⟩, fun i n σ2 H2 hw => ?_⟩
  obtain ⟨rfl, hi, F2, m2, A2, e2, p2, S2, q2⟩ := hw
  obtain ⟨r1, r2⟩ := RJ F2 G m2 A2 σ2 H2 e2 p2 S2 i
  by_cases hl : i < ds.length
  · obtain ⟨g1, g2⟩ := r1 _ (List.getElem?_eq_getElem hl)
    refine .inr ⟨g1, fun σ3 H3 => ∃ F3 m3 A3, Ex F1 F3 ∧ Pre m1 m3 ∧ Sim c.K F3 G m3 A3 σ3 H3 ∧ I ds (i + 1) A3, fun σ3 H3 hN => ?_, fun x H3 hy => ?_⟩
    · exact ⟨ds.length - (i + 1), by omega, rfl, hl, hN⟩
    · obtain ⟨F3, e3, S3, R3⟩ := g2 x H3 hy
      refine hs i _ A2 (List.getElem?_eq_getElem hl) q2 F3 G m2 σ2 H3 x S3 R3 (E.mono ((e1.trans e2).trans e3) (p1.trans p2)) _ fun F4 m4 A4 σ4 H4 e4 p4 S4 q4 => ?_
      have f1 := e2.trans (e3.trans e4)
      have f2 := p2.trans p4
      refine q4 F4 G m4 σ4 H4 S4 (E.mono (e1.trans f1) (p1.trans f2)) _ ⟨fun F5 m5 A5 σ5 H5 e5 p5 S5 q5 => ⟨F5, m5, A5, f1.trans e5, f2.trans p5, S5, q5⟩, (k.mono (e1.trans f1) (p1.trans f2)).rt, fun F5 m5 A5 σ5 H5 e5 p5 S5 q5 => k.nx F5 m5 A5 σ5 H5 ((e1.trans f1).trans e5) ((p1.trans f2).trans p5) S5 q5, fun F5 m5 A5 σ5 H5 e5 p5 S5 q5 => ⟨F5, m5, A5, f1.trans e5, f2.trans p5, S5, q5⟩⟩
  · have : i = ds.length := by omega
    subst this
    exact .inl ⟨r2 (Nat.le_refl _), k.nx F2 m2 A2 σ2 H2 (e1.trans e2) (p1.trans p2) S2 (hd A2 q2)⟩
theorem ws_while {tc : TT} {tb : TS} (I : Nat → AS → Prop) (n0 : Nat) (h0 : I n0 A) (hs : ∀ n A1, I n A1 → WT c tc A1 fun A2 b => (b = true → WS c tb A2 { nx := fun A3 => ∃ n', n' < n ∧ I n' A3, ct := fun A3 => ∃ n', n' < n ∧ I n' A3, bk := B.nx, rt := B.rt }) ∧ (b = false → B.nx A2)) :
    WS c (tWhile tc tb) A B := fun F G m σ H S E Dc k => by
  refine ⟨fun n σ2 H2 => ∃ F2 m2 A2, Ex F F2 ∧ Pre m m2 ∧ Sim c.K F2 G m2 A2 σ2 H2 ∧ I n A2, ⟨n0, F, m, A, Evl.Ex.refl _, Pre.refl _, S, h0⟩, fun n σ2 H2 hw => ?_⟩
  obtain ⟨F2, m2, A2, e2, p2, S2, q2⟩ := hw
  refine hs n A2 q2 F2 G m2 σ2 H2 S2 (E.mono e2 p2) _ fun F3 m3 A3 b H3 e3 p3 S3 q3 => ?_
  cases b with
  | true =>
    have f1 := e2.trans e3
    have f2 := p2.trans p3
    refine ⟨fun σ4 H4 => ∃ F4 m4 A4, Ex F F4 ∧ Pre m m4 ∧ Sim c.K F4 G m4 A4 σ4 H4 ∧ ∃ n', n' < n ∧ I n' A4, fun σ4 H4 ⟨F4, m4, A4, x1, x2, x3, n', x4, x5⟩ => ⟨n', x4, F4, m4, A4, x1, x2, x3, x5⟩, ?_⟩
    exact q3.1 rfl F3 G m3 σ2 H3 S3 (E.mono f1 f2) _ ⟨fun F5 m5 A5 σ5 H5 e5 p5 S5 q5 => ⟨F5, m5, A5, f1.trans e5, f2.trans p5, S5, q5⟩, (k.mono f1 f2).rt, fun F5 m5 A5 σ5 H5 e5 p5 S5 q5 => k.nx F5 m5 A5 σ5 H5 (f1.trans e5) (f2.trans p5) S5 q5, fun F5 m5 A5 σ5 H5 e5 p5 S5 q5 => ⟨F5, m5, A5, f1.trans e5, f2.trans p5, S5, q5⟩⟩
  | false => exact k.nx F3 m3 A3 σ2 H3 (e2.trans e3) (p2.trans p3) S3 (q3.2 rfl)
end
end AL

namespace AL
open PySem L2
/-! ### contents -/
def lsOf (A : AS) : RV → Option (List D)
  | .val (.lst ds) => some ds
  | .val (.scr ds) => some ds
  | .val (.ptr n) => match A.o[n]? with
    | some (.lst ds) => some ds
    | _ => none
  | .slot i => match A.s[i]? with
    | some (some (.own (.lst ds))) => some ds
    | _ => none
  | _ => none
def tpOf : RV → Option (List D)
  | .val (.tup ds) => some ds
  | .val (.sct ds) => some ds
  | _ => none
section
variable {K : PySem.W.Frag} {F G : Hp} {m : List Addr} {A : AS} {σ : St} {H : Hp} {v : V} {r : RV} {ds : List D}
theorem rep_ls (S : Sim K F G m A σ H) (R : RepR K F m A σ v r) (h : lsOf A r = some ds) : ∃ a vs, v = .ref a ∧ SqL K H a vs ∧ Reps K F m vs ds := by
  cases r with
  | val d =>
    cases d with
    | lst es => cases h; cases R with | lst e q => exact ⟨_, _, rfl, .inl (.inl (S.h.exF _ _ e)), q⟩
    | scr es => cases h; cases R with | scr e q => exact ⟨_, _, rfl, Evl.ex_l S.h.exF e, q⟩
    | ptr n =>
      cases R with
      | ptr e =>
        simp only [lsOf] at h
        split at h
        · rename_i es eo
          cases h
          obtain ⟨_, _, vs, hv, rv⟩ := S.h.cell n _ _ e eo trivial
          exact ⟨_, vs, rfl, .inl (.inl hv), rv⟩
        · cases h
    | _ => simp [lsOf] at h
  | slot i =>
    obtain ⟨e1, x, e2⟩ := R
    simp only [lsOf, e2] at h
    cases x with
    | lst es =>
      cases h
      obtain ⟨a, q, _, _, _, _, vs, hv, rv⟩ := S.s.ownAt e2
      rw [e1] at q; cases q
      exact ⟨a, vs, rfl, .inl (.inl hv), rv⟩
    | _ => simp at h
theorem rep_tp (S : Sim K F G m A σ H) (R : RepR K F m A σ v r) (h : tpOf r = some ds) : ∃ a vs, v = .ref a ∧ SqT K H a vs ∧ Reps K F m vs ds := by
  cases r with
  | val d =>
    cases d with
    | tup es => cases h; cases R with | tup e q => exact ⟨_, _, rfl, Evl.ex_t S.h.exF e.seq, q⟩
    | sct es => cases h; cases R with | sct e q => exact ⟨_, _, rfl, Evl.ex_t S.h.exF e, q⟩
    | _ => simp [tpOf] at h
  | slot i => simp [tpOf] at h
/-- a list that is no script: it stands exactly -/
def lxOf (A : AS) : RV → Option (List D)
  | .val (.scr _) => none
  | r => lsOf A r
theorem rep_lx (S : Sim K F G m A σ H) (R : RepR K F m A σ v r) (h : lxOf A r = some ds) : ∃ a vs, v = .ref a ∧ H a = some (.lst vs) ∧ Reps K F m vs ds := by
  cases r with
  | val d =>
    cases d with
    | lst es => cases h; cases R with | lst e q => exact ⟨_, _, rfl, S.h.exF _ _ e, q⟩
    | ptr n =>
      cases R with
      | ptr e =>
        simp only [lxOf, lsOf] at h
        split at h
        · rename_i es eo
          cases h
          obtain ⟨_, _, vs, hv, rv⟩ := S.h.cell n _ _ e eo trivial
          exact ⟨_, vs, rfl, hv, rv⟩
        · cases h
    | _ => simp [lxOf, lsOf] at h
  | slot i =>
    obtain ⟨e1, x, e2⟩ := R
    simp only [lxOf, lsOf, e2] at h
    cases x with
    | lst es =>
      cases h
      obtain ⟨a, q, _, _, _, _, vs, hv, rv⟩ := S.s.ownAt e2
      rw [e1] at q; cases q
      exact ⟨a, vs, rfl, hv, rv⟩
    | _ => simp at h
end
section
variable {c : Ct} {A : AS} {te ta tb : TE} {t u tt : TT} {x y : RV} {Q : QE}
/-! ### operators of ints -/
theorem od_I {C : Int → Int → Prop} {g : Int → Int → V} {i j n : Int} (hC : C i j) (hg : g i j = .int n) (q : Q A (.val (.int n))) : OpD c (rI C g) (.val (.int i)) (.val (.int j)) A Q := fun F G m σ H v w S E R1 R2 Qc k => by
  cases R1; cases R2
  exact ⟨i, j, rfl, rfl, hC, by rw [hg]; exact k F m A _ H (.val (.int n)) (Evl.Ex.refl F) (Pre.refl m) S (Rep.int n) q⟩
theorem od_I0 {g : Int → Int → V} {i j n : Int} (hg : g i j = .int n) (q : Q A (.val (.int n))) : OpD c (rI0 g) (.val (.int i)) (.val (.int j)) A Q := fun F G m σ H v w S E R1 R2 Qc k => by
  cases R1; cases R2
  exact ⟨i, j, rfl, rfl, by rw [hg]; exact k F m A _ H (.val (.int n)) (Evl.Ex.refl F) (Pre.refl m) S (Rep.int n) q⟩
theorem od_B0 {g : Int → Int → V} {i j : Int} {b : Bool} (hg : g i j = .bl b) (q : Q A (.val (.bl b))) : OpD c (rI0 g) (.val (.int i)) (.val (.int j)) A Q := fun F G m σ H v w S E R1 R2 Qc k => by
  cases R1; cases R2
  exact ⟨i, j, rfl, rfl, by rw [hg]; exact k F m A _ H (.val (.bl b)) (Evl.Ex.refl F) (Pre.refl m) S (Rep.bl b) q⟩
theorem od_l {r s : R2} (h : OpD c r x y A Q) : OpD c (orR r s) x y A Q := fun F G m σ H v w S E R1 R2 Qc k => .inl (h F G m σ H v w S E R1 R2 Qc k)
theorem od_r {r s : R2} (h : OpD c s x y A Q) : OpD c (orR r s) x y A Q := fun F G m σ H v w S E R1 R2 Qc k => .inr (h F G m σ H v w S E R1 R2 Qc k)
def rAddS : R2 := fun x y H Q => ∃ i j, x = .str i ∧ y = .str j ∧ i.length + j.length ≤ sizeLine ∧ Q (.str (i ++ j)) H
def rAddA (K : PySem.W.Frag) : R2 := orR (rI0 fun i j => .int (i + j)) (orR rCat (orR (rCatP K) rAddS))
def rSubA : R2 := rI0 fun i j => .int (i - j)
def rMulA : R2 := orR (rI CMul fun i j => .int (i * j)) (orR (rI CMulW fun i j => .int (i * j)) rRep)
def rDivA : R2 := orR (rI CDivN fun i j => .int (i.fdiv j)) (rI CDivW fun i j => .int (i / j))
def rModA : R2 := rI (fun _ j => j ≠ 0) fun i j => .int (i.fmod j)
def rPowA : R2 := rI CPow fun i j => .int (i ^ j.toNat)
def rLtA : R2 := rI0 fun i j => .bl (decide (i < j))
def rLeA : R2 := rI0 fun i j => .bl (decide (i ≤ j))
def rGtA : R2 := rI0 fun i j => .bl (decide (j < i))
def rGeA : R2 := rI0 fun i j => .bl (decide (j ≤ i))
def rEqA (K : PySem.W.Frag) : R2 := orR rEq (rEqD K)
def rNeA (K : PySem.W.Frag) : R2 := orR rNe (rNeD K)
def rIsA : R2 := fun x y H Q => y = .non ∧ Q (.bl (decide (x = .non))) H
def rNotA : R2 := fun x y H Q => y = .non ∧ Q (.bl (!decide (x = .non))) H
def rInA (K : PySem.W.Frag) : R2 := rIn K false
def rNinA (K : PySem.W.Frag) : R2 := rIn K true
section
variable {X : Cx}
theorem op_addA : OpR X (binaryOp .Add) (rAddA X.K) := op_or op_add (op_or op_cat (op_or op_catP op_add_str))
theorem op_subA : OpR X (binaryOp .Sub) rSubA := op_sub
theorem op_mulA : OpR X (binaryOp .Mult) rMulA := op_or op_mul (op_or op_mulW op_rep)
theorem op_divA : OpR X (binaryOp .FloorDiv) rDivA := op_or op_fdivN op_fdivW
theorem op_modA : OpR X (binaryOp .Mod) rModA := op_modN
theorem op_powA : OpR X (binaryOp .Pow) rPowA := op_pow
theorem op_ltA : OpR X (compareOp .Lt) rLtA := op_lt
theorem op_leA : OpR X (compareOp .LtE) rLeA := op_le
theorem op_gtA : OpR X (compareOp .Gt) rGtA := op_gt
theorem op_geA : OpR X (compareOp .GtE) rGeA := op_ge
theorem op_eqA (hu : X.A.units + 64 < cLine) : OpR X (compareOp .Eq) (rEqA X.K) := op_or op_eq (op_eqD hu)
theorem op_neA (hu : X.A.units + 64 < cLine) : OpR X (compareOp .NotEq) (rNeA X.K) := op_or op_ne (op_neD hu)
theorem op_isA : OpR X (compareOp .Is) rIsA := op_isN
theorem op_notA : OpR X (compareOp .IsNot) rNotA := op_notN
theorem op_inA : OpR X (compareOp .In) (rInA X.K) := op_in_seq
theorem op_ninA : OpR X (compareOp .NotIn) (rNinA X.K) := op_notIn_seq
end
theorem od_add {i j : Int} (q : Q A (.val (.int (i + j)))) : OpD c (rAddA c.K) (.val (.int i)) (.val (.int j)) A Q := od_l (od_I0 rfl q)
theorem od_sub {i j : Int} (q : Q A (.val (.int (i - j)))) : OpD c rSubA (.val (.int i)) (.val (.int j)) A Q := od_I0 rfl q
/-- one of the factors is below 2 ^ 64 -/
theorem od_mul {i j : Int} (h : CMul i j ∨ CMulW i j) (q : Q A (.val (.int (i * j)))) : OpD c rMulA (.val (.int i)) (.val (.int j)) A Q := h.elim (fun h => od_l (od_I h rfl q)) fun h => od_r (od_l (od_I h rfl q))
theorem od_div {i j : Int} (h : 0 < j ∧ (j < 1073741824 ∨ j.natAbs.log2 < 9000)) (q : Q A (.val (.int (i / j)))) : OpD c rDivA (.val (.int i)) (.val (.int j)) A Q := by
  rcases h with ⟨h0, h1 | h1⟩
  · exact od_l (od_I (C := CDivN) ⟨by omega, by omega⟩ (show V.int (i.fdiv j) = _ by rw [Int.fdiv_eq_ediv_of_nonneg _ (by omega)]) q)
  · exact od_r (od_I (C := CDivW) ⟨h0, h1⟩ rfl q)
theorem od_mod {i j : Int} (h : 0 < j) (q : Q A (.val (.int (i % j)))) : OpD c rModA (.val (.int i)) (.val (.int j)) A Q := od_I (by omega) (show V.int (i.fmod j) = _ by rw [Int.fmod_eq_emod_of_nonneg _ (by omega)]) q
theorem od_pow {i j : Int} (h : CPow i j) (q : Q A (.val (.int (i ^ j.toNat)))) : OpD c rPowA (.val (.int i)) (.val (.int j)) A Q := od_I h rfl q
theorem od_lt {i j : Int} (q : Q A (.val (.bl (decide (i < j))))) : OpD c rLtA (.val (.int i)) (.val (.int j)) A Q := od_B0 rfl q
theorem od_le {i j : Int} (q : Q A (.val (.bl (decide (i ≤ j))))) : OpD c rLeA (.val (.int i)) (.val (.int j)) A Q := od_B0 rfl q
theorem od_gt {i j : Int} (q : Q A (.val (.bl (decide (j < i))))) : OpD c rGtA (.val (.int i)) (.val (.int j)) A Q := od_B0 rfl q
theorem od_ge {i j : Int} (q : Q A (.val (.bl (decide (j ≤ i))))) : OpD c rGeA (.val (.int i)) (.val (.int j)) A Q := od_B0 rfl q
/-! ### == -/
/-- scalars, beside one another -/
def scD : D → D → Option Bool
  | .non, .non => some true
  | .int i, .int j => some (decide (i = j))
  | .bl a, .bl b => some (decide (a = b))
  | .str a, .str b => some (decide (a = b))
  | .non, .int _ => some false
  | .int _, .non => some false
  | .non, .bl _ => some false
  | .bl _, .non => some false
  | .non, .str _ => some false
  | .str _, .non => some false
  | .int _, .str _ => some false
  | .str _, .int _ => some false
  | .bl _, .str _ => some false
  | .str _, .bl _ => some false
  | _, _ => none
theorem scD_ok {K : PySem.W.Frag} {F : Hp} {m : List Addr} {v w : V} {d e : D} {b : Bool} (R1 : Rep K F m v d) (R2 : Rep K F m w e) (h : scD d e = some b) : scal v w = true ∧ decide (v = w) = b := by
  cases R1 <;> cases R2 <;> simp only [scD, Option.some.injEq, reduceCtorEq] at h <;> subst h <;> first
    | exact ⟨rfl, by simp⟩
    | exact ⟨rfl, rfl⟩
theorem od_eqS {d e : D} {b : Bool} (h : scD d e = some b) (q : Q A (.val (.bl b))) : OpD c (rEqA c.K) (.val d) (.val e) A Q := fun F G m σ H v w S E R1 R2 Qc k => by
  obtain ⟨h1, h2⟩ := scD_ok R1 R2 h
  exact .inl ⟨h1, by rw [h2]; exact k F m A _ H (.val (.bl b)) (Evl.Ex.refl F) (Pre.refl m) S (Rep.bl b) q⟩
theorem od_neS {d e : D} {b : Bool} (h : scD d e = some b) (q : Q A (.val (.bl (!b)))) : OpD c (rNeA c.K) (.val d) (.val e) A Q := fun F G m σ H v w S E R1 R2 Qc k => by
  obtain ⟨h1, h2⟩ := scD_ok R1 R2 h
  exact .inl ⟨h1, by rw [h2]; exact k F m A _ H (.val (.bl (!b))) (Evl.Ex.refl F) (Pre.refl m) S (Rep.bl (!b)) q⟩
mutual
inductive Py : D → PyData → Prop where
  | non : Py .non .none
  | bl (b : Bool) : Py (.bl b) (.bool b)
  | int (i : Int) : Py (.int i) (.int i)
  | str (x : Str) : Py (.str x) (.str x)
  | lst {ds : List D} {ps : List PyData} : Pys ds ps → Py (.lst ds) (.list ps)
  | scr {ds : List D} {ps : List PyData} : Pys ds ps → Py (.scr ds) (.list ps)
  | tup {ds : List D} {ps : List PyData} : Pys ds ps → Py (.tup ds) (.tuple ps)
  | sct {ds : List D} {ps : List PyData} : Pys ds ps → Py (.sct ds) (.tuple ps)
inductive Pys : List D → List PyData → Prop where
  | nil : Pys [] []
  | cons {d : D} {p : PyData} {ds : List D} {ps : List PyData} : Py d p → Pys ds ps → Pys (d :: ds) (p :: ps)
end
section
variable {K : PySem.W.Frag} {F H : Hp} {m : List Addr}
mutual
theorem Py.dp (e : Ex F H) : ∀ {d : D} {p : PyData} {v : V}, Py d p → Rep K F m v d → Dp K H v p
  | _, _, _, .non, .non => .non
  | _, _, _, .bl b, .bl _ => .bl b
  | _, _, _, .int i, .int _ => .int i
  | _, _, _, .str x, .str _ => .str x
  | _, _, _, .lst h, .lst a r => .lst (.inl (.inl (e _ _ a))) (Pys.dp e h r)
  | _, _, _, .scr h, .scr a r => .lst (Evl.ex_l e a) (Pys.dp e h r)
  | _, _, _, .tup h, .tup a r => .tup (Evl.ex_t e a.seq) (Pys.dp e h r)
  | _, _, _, .sct h, .sct a r => .tup (Evl.ex_t e a) (Pys.dp e h r)
theorem Pys.dp (e : Ex F H) : ∀ {d : List D} {p : List PyData} {v : List V}, Pys d p → Reps K F m v d → DpAll K H v p
  | _, _, _, .nil, .nil => .nil
  | _, _, _, .cons h t, .cons a r => .cons (Py.dp e h a) (Pys.dp e t r)
end
end
theorem pys_ints : ∀ ns : List Int, Pys (ns.map .int) (ns.map .int)
  | [] => .nil
  | n :: ns => .cons (.int n) (pys_ints ns)
theorem pys_map {α : Type} {f : α → D} {g : α → PyData} (h : ∀ a, Py (f a) (g a)) : ∀ xs : List α, Pys (xs.map f) (xs.map g)
  | [] => .nil
  | x :: xs => .cons (h x) (pys_map h xs)
/-- a value, or an own list, that is pure data -/
def PyR (A : AS) (r : RV) (p : PyData) : Prop := match r with
  | .val (.ptr n) => ∃ ds ps, A.o[n]? = some (.lst ds) ∧ Pys ds ps ∧ p = .list ps
  | .val d => Py d p
  | .slot i => ∃ ds ps, A.s[i]? = some (some (.own (.lst ds))) ∧ Pys ds ps ∧ p = .list ps
theorem PyR.dp {K : PySem.W.Frag} {F G H : Hp} {m : List Addr} {σ : St} {v : V} {r : RV} {p : PyData} (S : Sim K F G m A σ H) (R : RepR K F m A σ v r) (h : PyR A r p) : Dp K H v p := by
  cases r with
  | slot i =>
    obtain ⟨ds, ps, e, hp, rfl⟩ := h
    obtain ⟨e1, x, e2⟩ := R
    obtain ⟨a, q, _, _, _, _, vs, hv, rv⟩ := S.s.ownAt e
    rw [e1] at q; cases q
    exact .lst (.inl (.inl hv)) (hp.dp S.h.exF rv)
  | val d =>
    cases d with
    | ptr n =>
      obtain ⟨ds, ps, e, hp, rfl⟩ := h
      cases R with
      | ptr e1 =>
        obtain ⟨_, _, vs, hv, rv⟩ := S.h.cell n _ _ e1 e trivial
        exact .lst (.inl (.inl hv)) (hp.dp S.h.exF rv)
    | _ => exact Py.dp S.h.exF h R
theorem od_eqD {p q : PyData} {b : Bool} (hx : PyR A x p) (hy : PyR A y q) (s1 : SeqAt.shaped p = true) (s2 : SeqAt.shaped q = true) (hb : PyData.eqv p q = b) (k : Q A (.val (.bl b))) : OpD c (rEqA c.K) x y A Q := fun F G m σ H v w S E R1 R2 Qc kc =>
  .inr ⟨p, q, hx.dp S R1, hy.dp S R2, s1, s2, by rw [hb]; exact kc F m A _ H (.val (.bl b)) (Evl.Ex.refl F) (Pre.refl m) S (Rep.bl b) k⟩
theorem od_neD {p q : PyData} {b : Bool} (hx : PyR A x p) (hy : PyR A y q) (s1 : SeqAt.shaped p = true) (s2 : SeqAt.shaped q = true) (hb : PyData.eqv p q = b) (k : Q A (.val (.bl (!b)))) : OpD c (rNeA c.K) x y A Q := fun F G m σ H v w S E R1 R2 Qc kc =>
  .inr ⟨p, q, hx.dp S R1, hy.dp S R2, s1, s2, by rw [hb]; exact kc F m A _ H (.val (.bl (!b))) (Evl.Ex.refl F) (Pre.refl m) S (Rep.bl (!b)) k⟩
/-! ### is None -/
def isNon : RV → Bool
  | .val .non => true
  | _ => false
theorem isNon_ok {K : PySem.W.Frag} {F : Hp} {m : List Addr} {σ : St} {v : V} {H G : Hp} (S : Sim K F G m A σ H) (R : RepR K F m A σ v x) : decide (v = .non) = isNon x := by
  cases x with
  | val d => cases R <;> rfl
  | slot i =>
    obtain ⟨e1, z, e2⟩ := R
    obtain ⟨a, q, _⟩ := S.s.ownAt e2
    rw [e1] at q; cases q; rfl
theorem od_is {b : Bool} (hb : isNon x = b) (q : Q A (.val (.bl b))) : OpD c rIsA x (.val .non) A Q := fun F G m σ H v w S E R1 R2 Qc k => by
  cases R2; exact ⟨rfl, by rw [isNon_ok S R1, hb]; exact k F m A _ H (.val (.bl b)) (Evl.Ex.refl F) (Pre.refl m) S (Rep.bl b) q⟩
theorem od_not {b : Bool} (hb : isNon x = b) (q : Q A (.val (.bl (!b)))) : OpD c rNotA x (.val .non) A Q := fun F G m σ H v w S E R1 R2 Qc k => by
  cases R2; exact ⟨rfl, by rw [isNon_ok S R1, hb]; exact k F m A _ H (.val (.bl (!b))) (Evl.Ex.refl F) (Pre.refl m) S (Rep.bl (!b)) q⟩
theorem ud_neg {i : Int} (q : Q A (.val (.int (-i)))) : UnD c (rU fun i => .int (-i)) (.val (.int i)) A Q := fun F G m σ H v S E R1 Qc k => by
  cases R1; exact ⟨i, rfl, k F m A _ H (.val (.int (-i))) (Evl.Ex.refl F) (Pre.refl m) S (Rep.int _) q⟩
/-! ### places -/
theorem atI_reps {K : PySem.W.Frag} {F : Hp} {m : List Addr} {vs : List V} {ds : List D} {i : Int} {d : D} (r : Reps K F m vs ds) (h : atI ds i = some d) : ∃ v, atI vs i = some v ∧ Rep K F m v d := by
  unfold atI at h ⊢
  rw [r.len]
  cases e : ixN ds.length i with
  | none => rw [e] at h; cases h
  | some j => rw [e] at h; exact r.get h
theorem od_ixL {ds : List D} {i : Int} {d : D} (hx : lsOf A x = some ds) (hd : atI ds i = some d) (q : Q A (.val d)) : OpD c (rIx c.K) x (.val (.int i)) A Q := fun F G m σ H v w S E R1 R2 Qc k => by
  obtain ⟨a, vs, rfl, hs, r⟩ := rep_ls S R1 hx
  cases R2
  obtain ⟨v, e, rv⟩ := atI_reps r hd
  exact .inl ⟨a, vs, i, v, rfl, rfl, hs, e, k F m A _ H (.val d) (Evl.Ex.refl F) (Pre.refl m) S rv q⟩
theorem od_ixT {ds : List D} {i : Int} {d : D} (hx : tpOf x = some ds) (hd : atI ds i = some d) (q : Q A (.val d)) : OpD c (rIx c.K) x (.val (.int i)) A Q := fun F G m σ H v w S E R1 R2 Qc k => by
  obtain ⟨a, vs, rfl, hs, r⟩ := rep_tp S R1 hx
  cases R2
  obtain ⟨v, e, rv⟩ := atI_reps r hd
  exact .inr (.inl ⟨a, vs, i, v, rfl, rfl, hs, e, k F m A _ H (.val d) (Evl.Ex.refl F) (Pre.refl m) S rv q⟩)
/-! ### builtins -/
inductive RepRs (K : PySem.W.Frag) (F : Hp) (m : List Addr) (A : AS) (σ : St) : List V → List RV → Prop where
  | nil : RepRs K F m A σ [] []
  | cons {v : V} {r : RV} {vs : List V} {rs : List RV} : RepR K F m A σ v r → RepRs K F m A σ vs rs → RepRs K F m A σ (v :: vs) (r :: rs)
def WAr (c : Ct) (t : TA) (A : AS) (Q : AS → List RV → Prop) : Prop := ∀ F G m σ H, Sim c.K F G m A σ H → EOk c F G m → ∀ Qc : List V → Hp → Prop,
  (∀ F' m' A' vs H' rs, Ex F F' → Pre m m' → Sim c.K F' G m' A' σ H' → RepRs c.K F' m' A' σ vs rs → Q A' rs → Qc vs H') → t σ H Qc
theorem war_nil {Q : AS → List RV → Prop} (q : Q A []) : WAr c tNil A Q := fun F G m σ H S E Qc k => k F m A [] H [] (Evl.Ex.refl F) (Pre.refl m) S .nil q
theorem war_cons {tr : TA} {Q : AS → List RV → Prop} (h : WE c ta A fun A1 r => WAr c tr A1 fun A2 rs => Stays A1 A2 r ∧ Q A2 (r :: rs)) : WAr c (tCons ta tr) A Q := fun F G m σ H S E Qc k =>
  h F G m σ H S E _ fun F1 m1 A1 v H1 x e1 p1 S1 R1 q => q F1 G m1 σ H1 S1 (E.mono e1 p1) _ fun F2 m2 A2 vs H2 rs e2 p2 S2 R2 q2 => k F2 m2 A2 _ H2 _ (e1.trans e2) (p1.trans p2) S2 (.cons (R1.stay e2 p2 q2.1) R2) q2.2
def CbD (c : Ct) (r : List V → Hp → VK → Prop) (rs : List RV) (A : AS) (Q : QE) : Prop := ∀ F G m σ H vs, Sim c.K F G m A σ H → EOk c F G m → RepRs c.K F m A σ vs rs → ∀ Qc : VK,
  (∀ F' m' A' v H' r, Ex F F' → Pre m m' → Sim c.K F' G m' A' σ H' → RepR c.K F' m' A' σ v r → Q A' r → Qc v H') → r vs H Qc
theorem we_cb {r : List V → Hp → VK → Prop} {ta : TA} (h : WAr c ta A fun A1 rs => CbD c r rs A1 Q) : WE c (tCB r ta) A Q := fun F G m σ H S E Qc k =>
  h F G m σ H S E _ fun F1 m1 A1 vs H1 rs e1 p1 S1 R1 q => q F1 G m1 σ H1 vs S1 (E.mono e1 p1) R1 Qc fun F2 m2 A2 v H2 r e2 p2 S2 R2 q2 => k F2 m2 A2 v H2 r (e1.trans e2) (p1.trans p2) S2 R2 q2
/-- a builtin that gives a new list -/
def CbN (c : Ct) (r : List V → Hp → VK → Prop) (rs : List RV) (A : AS) (Q : AS → List D → Prop) : Prop := ∀ F G m σ H vs, Sim c.K F G m A σ H → EOk c F G m → RepRs c.K F m A σ vs rs → ∀ Qc : VK,
  (∀ F' m' A' p vs H' ds, Ex F F' → Pre m m' → Sim c.K F' G m' A' σ H' → F' p = none → G p = none → (∀ n : Nat, m'[n]? ≠ some p) → ¬ IsOwn A'.s σ p → H' p = some (.lst vs) → Reps c.K F' m' vs ds → Q A' ds → Qc (.ref p) H') → r vs H Qc
theorem wn_cb {r : List V → Hp → VK → Prop} {ta : TA} {Q : AS → List D → Prop} (h : WAr c ta A fun A1 rs => CbN c r rs A1 Q) : WN c (tCB r ta) A Q := fun F G m σ H S E Qc k =>
  h F G m σ H S E _ fun F1 m1 A1 vs H1 rs e1 p1 S1 R1 q => q F1 G m1 σ H1 vs S1 (E.mono e1 p1) R1 Qc fun F2 m2 A2 p vs2 H2 ds e2 p2 => k F2 m2 A2 p vs2 H2 ds (e1.trans e2) (p1.trans p2)
def rIntA : List V → Hp → VK → Prop := fun xs H Q => (∃ i, xs = [.int i] ∧ Q (.int i) H) ∨ ∃ k, xs = [.bl k] ∧ Q (.int (if k then 1 else 0)) H
def rAbsA : List V → Hp → VK → Prop := fun xs H Q => ∃ i, xs = [.int i] ∧ Q (.int (if i < 0 then -i else i)) H
def rLenA (K : PySem.W.Frag) : List V → Hp → VK → Prop := fun xs H Q => ∃ x n, xs = [x] ∧ LenV K x H n ∧ Q (.int n) H
def rListA (K : PySem.W.Frag) : List V → Hp → VK → Prop := fun xs H Q => ∃ p ys, xs = [.ref p] ∧ (SqL K H p ys ∨ SqT K H p ys) ∧ ∀ l, H l = none → Q (.ref l) (upd H l (.lst ys))
def rMax2A : List V → Hp → VK → Prop := fun xs H Q => ∃ i j, xs = [.int i, .int j] ∧ Q (.int (if j > i then j else i)) H
def rMin2A : List V → Hp → VK → Prop := fun xs H Q => ∃ i j, xs = [.int i, .int j] ∧ Q (.int (if j < i then j else i)) H
def rSumA (K : PySem.W.Frag) := orC (rSum K) (rSumT K)
def rMaxA (K : PySem.W.Frag) := orC (rMax K) (rMaxT K)
section
variable {X : Cx}
theorem call_intA : CallR X (.type "int") rIntA := call_int1
theorem call_absA : CallR X (.builtin "abs") rAbsA := call_abs
theorem call_lenA : CallR X (.builtin "len") (rLenA X.K) := call_len
theorem call_listA : CallR X (.type "list") (rListA X.K) := call_list_of
theorem call_max2A (hc : X.calm = true) : CallR X (.builtin "max") rMax2A := call_max2 hc
theorem call_min2A (hc : X.calm = true) : CallR X (.builtin "min") rMin2A := call_min2 hc
theorem call_sumA (hc : X.calm = true) : CallR X (.builtin "sum") (rSumA X.K) := call_or (cr_sum hc) (call_sumT hc)
theorem call_maxA (hc : X.calm = true) : CallR X (.builtin "max") (rMaxA X.K) := call_or (cr_max hc) (call_maxT hc)
end
theorem rs1 {K : PySem.W.Frag} {F : Hp} {m : List Addr} {σ : St} {vs : List V} {r : RV} (R : RepRs K F m A σ vs [r]) : ∃ v, vs = [v] ∧ RepR K F m A σ v r := by
  cases R with | cons a t => cases t; exact ⟨_, rfl, a⟩
theorem rs2 {K : PySem.W.Frag} {F : Hp} {m : List Addr} {σ : St} {vs : List V} {r s : RV} (R : RepRs K F m A σ vs [r, s]) : ∃ v w, vs = [v, w] ∧ RepR K F m A σ v r ∧ RepR K F m A σ w s := by
  cases R with | cons a t => cases t with | cons b t => cases t; exact ⟨_, _, rfl, a, b⟩
theorem cb_int {i : Int} (q : Q A (.val (.int i))) : CbD c rIntA [.val (.int i)] A Q := fun F G m σ H vs S E R Qc k => by
  obtain ⟨v, rfl, r⟩ := rs1 R; cases r
  exact .inl ⟨i, rfl, k F m A _ H (.val (.int i)) (Evl.Ex.refl F) (Pre.refl m) S (Rep.int i) q⟩
theorem cb_intB {b : Bool} (q : Q A (.val (.int (if b then 1 else 0)))) : CbD c rIntA [.val (.bl b)] A Q := fun F G m σ H vs S E R Qc k => by
  obtain ⟨v, rfl, r⟩ := rs1 R; cases r
  exact .inr ⟨b, rfl, k F m A _ H (.val (.int _)) (Evl.Ex.refl F) (Pre.refl m) S (Rep.int _) q⟩
theorem cb_abs {i : Int} (q : Q A (.val (.int (if i < 0 then -i else i)))) : CbD c rAbsA [.val (.int i)] A Q := fun F G m σ H vs S E R Qc k => by
  obtain ⟨v, rfl, r⟩ := rs1 R; cases r
  exact ⟨i, rfl, k F m A _ H (.val (.int _)) (Evl.Ex.refl F) (Pre.refl m) S (Rep.int _) q⟩
theorem cb_max2 {i j : Int} (q : Q A (.val (.int (if j > i then j else i)))) : CbD c rMax2A [.val (.int i), .val (.int j)] A Q := fun F G m σ H vs S E R Qc k => by
  obtain ⟨v, w, rfl, r, r2⟩ := rs2 R; cases r; cases r2
  exact ⟨i, j, rfl, k F m A _ H (.val (.int _)) (Evl.Ex.refl F) (Pre.refl m) S (Rep.int _) q⟩
theorem cb_min2 {i j : Int} (q : Q A (.val (.int (if j < i then j else i)))) : CbD c rMin2A [.val (.int i), .val (.int j)] A Q := fun F G m σ H vs S E R Qc k => by
  obtain ⟨v, w, rfl, r, r2⟩ := rs2 R; cases r; cases r2
  exact ⟨i, j, rfl, k F m A _ H (.val (.int _)) (Evl.Ex.refl F) (Pre.refl m) S (Rep.int _) q⟩
theorem cb_lenL {ds : List D} (h : lsOf A x = some ds) (q : Q A (.val (.int (ds.length : Int)))) : CbD c (rLenA c.K) [x] A Q := fun F G m σ H vs S E R Qc k => by
  obtain ⟨v, rfl, r⟩ := rs1 R
  obtain ⟨a, vs, rfl, hs, rv⟩ := rep_ls S r h
  exact ⟨_, ds.length, rfl, .inl ⟨vs, hs, rv.len.symm⟩, k F m A _ H (.val (.int _)) (Evl.Ex.refl F) (Pre.refl m) S (Rep.int _) q⟩
theorem cb_lenT {ds : List D} (h : tpOf x = some ds) (q : Q A (.val (.int (ds.length : Int)))) : CbD c (rLenA c.K) [x] A Q := fun F G m σ H vs S E R Qc k => by
  obtain ⟨v, rfl, r⟩ := rs1 R
  obtain ⟨a, vs, rfl, hs, rv⟩ := rep_tp S r h
  exact ⟨_, ds.length, rfl, .inr ⟨vs, hs, rv.len.symm⟩, k F m A _ H (.val (.int _)) (Evl.Ex.refl F) (Pre.refl m) S (Rep.int _) q⟩
theorem cb_sumL {ns : List Int} (h : lsOf A x = some (ns.map .int)) (q : Q A (.val (.int ns.sum))) : CbD c (rSumA c.K) [x] A Q := fun F G m σ H vs S E R Qc k => by
  obtain ⟨v, rfl, r⟩ := rs1 R
  obtain ⟨a, vs, rfl, hs, rv⟩ := rep_ls S r h
  rw [rv.ints] at hs
  exact .inl ⟨a, ns, rfl, hs, k F m A _ H (.val (.int _)) (Evl.Ex.refl F) (Pre.refl m) S (Rep.int _) q⟩
theorem cb_sumT {ns : List Int} (h : tpOf x = some (ns.map .int)) (q : Q A (.val (.int ns.sum))) : CbD c (rSumA c.K) [x] A Q := fun F G m σ H vs S E R Qc k => by
  obtain ⟨v, rfl, r⟩ := rs1 R
  obtain ⟨a, vs, rfl, hs, rv⟩ := rep_tp S r h
  rw [rv.ints] at hs
  exact .inr ⟨a, ns, rfl, hs, k F m A _ H (.val (.int _)) (Evl.Ex.refl F) (Pre.refl m) S (Rep.int _) q⟩
theorem cb_maxL {ns : List Int} (h : lsOf A x = some (ns.map .int)) (h0 : 0 < ns.length) (q : ∀ M, M ∈ ns → (∀ y, y ∈ ns → y ≤ M) → Q A (.val (.int M))) : CbD c (rMaxA c.K) [x] A Q := fun F G m σ H vs S E R Qc k => by
  obtain ⟨v, rfl, r⟩ := rs1 R
  obtain ⟨a, vs, rfl, hs, rv⟩ := rep_ls S r h
  rw [rv.ints] at hs
  exact .inl ⟨a, ns, rfl, hs, h0, fun M h1 h2 => k F m A _ H (.val (.int _)) (Evl.Ex.refl F) (Pre.refl m) S (Rep.int _) (q M h1 h2)⟩
theorem cb_maxT {ns : List Int} (h : tpOf x = some (ns.map .int)) (h0 : 0 < ns.length) (q : ∀ M, M ∈ ns → (∀ y, y ∈ ns → y ≤ M) → Q A (.val (.int M))) : CbD c (rMaxA c.K) [x] A Q := fun F G m σ H vs S E R Qc k => by
  obtain ⟨v, rfl, r⟩ := rs1 R
  obtain ⟨a, vs, rfl, hs, rv⟩ := rep_tp S r h
  rw [rv.ints] at hs
  exact .inr ⟨a, ns, rfl, hs, h0, fun M h1 h2 => k F m A _ H (.val (.int _)) (Evl.Ex.refl F) (Pre.refl m) S (Rep.int _) (q M h1 h2)⟩
theorem cn_listL {ds : List D} {Q : AS → List D → Prop} (h : lsOf A x = some ds) (q : Q A ds) : CbN c (rListA c.K) [x] A Q := fun F G m σ H vs S E R Qc k => by
  obtain ⟨v, rfl, r⟩ := rs1 R
  obtain ⟨a, vs, rfl, hs, rv⟩ := rep_ls S r h
  exact ⟨a, vs, rfl, .inl hs, fun p hp => k F m A p vs _ ds (Evl.Ex.refl F) (Pre.refl m) (S.new hp) (S.h.fresh hp).1 (S.h.fresh hp).2.1 (S.h.fresh hp).2.2 (S.notOwn hp) upd_same rv q⟩
theorem cn_listT {ds : List D} {Q : AS → List D → Prop} (h : tpOf x = some ds) (q : Q A ds) : CbN c (rListA c.K) [x] A Q := fun F G m σ H vs S E R Qc k => by
  obtain ⟨v, rfl, r⟩ := rs1 R
  obtain ⟨a, vs, rfl, hs, rv⟩ := rep_tp S r h
  exact ⟨a, vs, rfl, .inr hs, fun p hp => k F m A p vs _ ds (Evl.Ex.refl F) (Pre.refl m) (S.new hp) (S.h.fresh hp).1 (S.h.fresh hp).2.1 (S.h.fresh hp).2.2 (S.notOwn hp) upd_same rv q⟩
theorem cb_tupL {ds : List D} (h : lsOf A x = some ds) (q : Q A (.val (.tup ds))) : CbD c (rTupP c.K) [x] A Q := fun F G m σ H vs S E R Qc k => by
  obtain ⟨v, rfl, r⟩ := rs1 R
  obtain ⟨a, vs, rfl, hs, rv⟩ := rep_ls S r h
  refine ⟨a, vs, rfl, .inl ⟨hs, fun p its hp => ?_⟩⟩
  have ex : Ex F (upd F p (tupHO its vs)) := ex_upd (S.h.fresh hp).1
  exact k _ m A _ _ (.val (.tup ds)) ex (Pre.refl m) (S.frz hp) (show Rep c.K _ _ _ _ from .tup (.inl ⟨its, upd_same⟩) (rv.mono ex (Pre.refl _))) q
theorem cb_tupT {d : D} {ds : List D} (h : tpOf (.val d) = some ds) (q : Q A (.val d)) : CbD c (rTupP c.K) [.val d] A Q := fun F G m σ H vs S E R Qc k => by
  obtain ⟨v, rfl, r⟩ := rs1 R
  obtain ⟨a, vs, rfl, hs, rv⟩ := rep_tp S r h
  exact ⟨a, vs, rfl, .inr ⟨hs, k F m A _ H (.val d) (Evl.Ex.refl F) (Pre.refl m) S r q⟩⟩
/-! ### isinstance of a built-in class -/
def tyOfR (A : AS) : RV → Option String
  | .val .non => some "NoneType"
  | .val (.bl _) => some "bool"
  | .val (.int _) => some "int"
  | .val (.str _) => some "str"
  | .val (.lst _) => some "list"
  | .val (.scr _) => none
  | .val (.tup _) => some "tuple"
  | .val (.ptr n) => match A.o[n]? with
    | some (.lst _) => some "list"
    | some (.dK _) => some "dict"
    | some (.dT _) => none
    | _ => none
  | .slot i => match A.s[i]? with
    | some (some (.own (.lst _))) => some "list"
    | some (some (.own (.dK _))) => some "dict"
    | some (some (.own (.dT _))) => none
    | _ => none
  | _ => none
theorem tyOf_ok {K : PySem.W.Frag} {F G H : Hp} {m : List Addr} {σ : St} {v : V} {n : String} (S : Sim K F G m A σ H) (R : RepR K F m A σ v x) (h : tyOfR A x = some n) : TyX K H v (.type n) := by
  cases x with
  | slot i =>
    obtain ⟨e1, z, e2⟩ := R
    obtain ⟨a, q, _, _, _, _, cc⟩ := S.s.ownAt e2
    rw [e1] at q; cases q
    simp only [tyOfR, e2] at h
    cases z with
    | lst ds => cases h; obtain ⟨vs, hv, _⟩ := cc; exact .base (.lst hv)
    | dK ds => cases h; obtain ⟨vs, hv, _⟩ := cc; exact .base (.dK hv)
    | _ => simp at h
  | val d =>
    cases d with
    | non => cases h; cases R; exact .base .non
    | bl b => cases h; cases R; exact .base (.bl b)
    | int i => cases h; cases R; exact .base (.int i)
    | str i => cases h; cases R; exact .base (.str i)
    | lst ds => cases h; cases R with | lst e _ => exact .base (.lst (S.h.exF _ _ e))
    | tup ds => cases h; cases R with | tup e _ =>
      rcases e with ⟨its, q⟩ | ⟨its, n, sl, l, _⟩
      · exact .fTuple (S.h.exF _ _ q)
      · exact .kTuple l rfl
    | ptr n =>
      cases R with
      | ptr e =>
        simp only [tyOfR] at h
        cases z : A.o[n]? with
        | none => rw [z] at h; cases h
        | some c =>
          rw [z] at h
          cases c with
          | lst ds => cases h; obtain ⟨_, _, vs, hv, _⟩ := S.h.cell n _ _ e z trivial; exact .base (.lst hv)
          | dK ds => cases h; obtain ⟨_, _, vs, hv, _⟩ := S.h.cell n _ _ e z trivial; exact .base (.dK hv)
          | _ => simp at h
    | _ => simp [tyOfR] at h
theorem we_ty {n : String} (q : Q A (.val (.ty n))) : WE c (tC (.ty n)) A Q := we_C (fun _ _ => .ty n) q
inductive Isi : String → String → Bool → Prop where
  | NoneType_str : Isi "NoneType" "str" false
  | NoneType_bool : Isi "NoneType" "bool" false
  | NoneType_int : Isi "NoneType" "int" false
  | NoneType_tuple : Isi "NoneType" "tuple" false
  | NoneType_list : Isi "NoneType" "list" false
  | bool_str : Isi "bool" "str" false
  | bool_bool : Isi "bool" "bool" true
  | bool_int : Isi "bool" "int" true
  | bool_tuple : Isi "bool" "tuple" false
  | bool_list : Isi "bool" "list" false
  | int_str : Isi "int" "str" false
  | int_bool : Isi "int" "bool" false
  | int_int : Isi "int" "int" true
  | int_tuple : Isi "int" "tuple" false
  | int_list : Isi "int" "list" false
  | str_str : Isi "str" "str" true
  | str_bool : Isi "str" "bool" false
  | str_int : Isi "str" "int" false
  | str_tuple : Isi "str" "tuple" false
  | str_list : Isi "str" "list" false
  | list_str : Isi "list" "str" false
  | list_bool : Isi "list" "bool" false
  | list_int : Isi "list" "int" false
  | list_tuple : Isi "list" "tuple" false
  | list_list : Isi "list" "list" true
  | tuple_str : Isi "tuple" "str" false
  | tuple_bool : Isi "tuple" "bool" false
  | tuple_int : Isi "tuple" "int" false
  | tuple_tuple : Isi "tuple" "tuple" true
  | tuple_list : Isi "tuple" "list" false
  | dict_str : Isi "dict" "str" false
  | dict_bool : Isi "dict" "bool" false
  | dict_int : Isi "dict" "int" false
  | dict_tuple : Isi "dict" "tuple" false
  | dict_list : Isi "dict" "list" false
theorem Isi.ok {t n : String} {b : Bool} (h : Isi t n b) : kitB t n = some b := by cases h <;> decide +kernel
theorem cb_isi {n t : String} {b : Bool} (hx : tyOfR A x = some t) (hb : Isi t n b) (q : Q A (.val (.bl b))) : CbD c (rIsi c.K) [x, .val (.ty n)] A Q := fun F G m σ H vs S E R Qc k => by
  obtain ⟨v, w, rfl, r, r2⟩ := rs2 R; cases r2
  exact ⟨v, .ty n, _, _, b, rfl, .ty n, tyOf_ok S r hx, kit_ty hb.ok, k F m A _ H (.val (.bl b)) (Evl.Ex.refl F) (Pre.refl m) S (Rep.bl b) q⟩
end
end AL

namespace AL
open PySem L2
/-! ### walks over a list or a tuple -/
def iSeq (K : PySem.W.Frag) (tl : TE) : TI := fun σ H R => tl σ H fun x H1 => ∃ a xs, x = .ref a ∧ ((SqL K H1 a xs ∧ R (Itl K a) H1) ∨ (SqT K H1 a xs ∧ R (Itt K a) H1))
section
open PySem.Spec PyProof.Rows
variable {X : Cx}
theorem pi_seq {tg l : Expr} {tl : TE} (hl : PE X l tl) : PI X tg l (iSeq X.K tl) := by
  constructor
  intro pins s σ H R I h
  refine wpAny_mono (hl.run pins s σ H _ I h) (fun v s1 g => ?_) (fun _ _ x => x)
  obtain ⟨x, H1, I1, r1, a, xs, e, g⟩ := g
  subst e
  cases r1
  have fp : ∀ b ∈ [s1.heap.objs.size], FpOk X pins H1 b := fun b hb => by
    rw [List.mem_singleton] at hb
    subst hb
    exact I1.fpOk (Nat.le_refl _) (I1.hok.fresh (Nat.le_refl _))
  rcases g with ⟨hq, q⟩ | ⟨hq, q⟩
  · obtain ⟨its, rv, p, hz⟩ := I1.list hq
    exact wpAny_pyIter_list p.isList ⟨_, _, _, _, H1, rfl, I1.kept (t' := s1.toks) (fun b o e => Heap.get?_push_of_some _ e), turn_list a _, ⟨_, Heap.get?_push_size _ rfl, rfl, rfl⟩, fp, q⟩
  · obtain ⟨its, rv, p, hz⟩ := I1.tuple hq
    exact wpAny_pyIter_tuple (show s1.heap.IsTuple a its.toArray from p) ⟨_, _, _, _, H1, rfl, I1.kept (t' := s1.toks) (fun b o e => Heap.get?_push_of_some _ e), turn_tuple a _, ⟨_, Heap.get?_push_size _ rfl, rfl, rfl⟩, fp, q⟩
end
/-- what a value, taken as data, holds -/
def sqD : D → Option (List D)
  | .lst ds => some ds
  | .scr ds => some ds
  | .tup ds => some ds
  | .sct ds => some ds
  | _ => none
section
variable {c : Ct} {A : AS} {te ta tb tl : TE} {t u tt : TT} {x y : RV} {Q : QE}
theorem real_l {K : PySem.W.Frag} {F : Hp} {m : List Addr} {a : Addr} {vs : List V} {ds : List D} (h : SqL K F a vs) (r : Reps K F m vs ds) : Real K F m (Itl K a) ds := fun F2 G m2 A2 σ H e p S i =>
  have hs : SqL K H a vs := Evl.ex_l S.h.exF (Evl.ex_l e h)
  ⟨fun d hd => by
    obtain ⟨v, hv, rv⟩ := r.get hd
    refine ⟨⟨vs, v, hs, hv⟩, fun x H' y => ?_⟩
    obtain ⟨rfl, y⟩ := y
    have e2 := y vs hs
    rw [hv] at e2; cases e2
    exact ⟨F2, Evl.Ex.refl _, S, rv.mono e p⟩, fun hl => ⟨vs, hs, by rw [r.len]; exact hl⟩⟩
theorem real_t {K : PySem.W.Frag} {F : Hp} {m : List Addr} {a : Addr} {vs : List V} {ds : List D} (h : SqT K F a vs) (r : Reps K F m vs ds) : Real K F m (Itt K a) ds := fun F2 G m2 A2 σ H e p S i =>
  have hs : SqT K H a vs := Evl.ex_t S.h.exF (Evl.ex_t e h)
  ⟨fun d hd => by
    obtain ⟨v, hv, rv⟩ := r.get hd
    refine ⟨⟨vs, v, hs, hv⟩, fun x H' y => ?_⟩
    obtain ⟨rfl, y⟩ := y
    have e2 := y vs hs
    rw [hv] at e2; cases e2
    exact ⟨F2, Evl.Ex.refl _, S, rv.mono e p⟩, fun hl => ⟨vs, hs, by rw [r.len]; exact hl⟩⟩
theorem wi_seq {Q : AS → List D → Prop} (h : WE c tl A fun A1 r => Frz A1 r fun A2 d => ∃ ds, sqD d = some ds ∧ Q A2 ds) : WI c (iSeq c.K tl) A Q := fun F G m σ H S E Rc k =>
  (WE.frz h) F G m σ H S E _ fun F1 m1 A1 v H1 x e1 p1 S1 R1 ⟨d, ex, ds, hd, q⟩ => by
    subst ex
    cases d with
    | lst es => cases hd; cases R1 with | lst e r => exact ⟨_, _, rfl, .inl ⟨.inl (.inl (S1.h.exF _ _ e)), k F1 m1 A1 _ H1 ds e1 p1 S1 (real_l (.inl (.inl e)) r) q⟩⟩
    | scr es => cases hd; cases R1 with | scr e r => exact ⟨_, _, rfl, .inl ⟨Evl.ex_l S1.h.exF e, k F1 m1 A1 _ H1 ds e1 p1 S1 (real_l e r) q⟩⟩
    | tup es => cases hd; cases R1 with | tup e r => exact ⟨_, _, rfl, .inr ⟨Evl.ex_t S1.h.exF e.seq, k F1 m1 A1 _ H1 ds e1 p1 S1 (real_t e.seq r) q⟩⟩
    | sct es => cases hd; cases R1 with | sct e r => exact ⟨_, _, rfl, .inr ⟨Evl.ex_t S1.h.exF e, k F1 m1 A1 _ H1 ds e1 p1 S1 (real_t e r) q⟩⟩
    | _ => simp [sqD] at hd
/-- the ints lo, lo + 1, .., n of them -/
def intsD (lo : Int) (n : Nat) : List D := (List.range n).map fun i => .int (lo + (i : Nat))
theorem intsD_len (lo : Int) (n : Nat) : (intsD lo n).length = n := by unfold intsD; rw [List.length_map, List.length_range]
theorem intsD_at {lo : Int} {n i : Nat} {d : D} (h : (intsD lo n)[i]? = some d) : i < n ∧ d = .int (lo + (i : Nat)) := by
  have hl := (List.getElem?_eq_some_iff.mp h).1
  rw [intsD_len] at hl
  unfold intsD at h
  rw [List.getElem?_map, List.getElem?_range hl] at h
  cases h; exact ⟨hl, rfl⟩
theorem real_r {K : PySem.W.Frag} {F : Hp} {m : List Addr} {lo : Int} {n : Nat} : Real K F m (Itr lo n) (intsD lo n) := fun F2 G m2 A2 σ H e p S i =>
  ⟨fun d hd => by
    obtain ⟨h1, rfl⟩ := intsD_at hd
    refine ⟨h1, fun x H' y => ?_⟩
    obtain ⟨rfl, rfl⟩ := y
    exact ⟨F2, Evl.Ex.refl _, S, .int _⟩, fun hl => by rw [intsD_len] at hl; exact hl⟩
theorem wi_r1 {ta : TA} {Q : AS → List D → Prop} (h : WA c ta A fun A1 ds => ∃ n : Int, ds = [.int n] ∧ n < 1000000 ∧ -1000000 < n ∧ Q A1 (intsD 0 n.toNat)) : WI c (iRng1 ta) A Q := fun F G m σ H S E Rc k =>
  h F G m σ H S E _ fun F1 m1 A1 vs H1 ds e1 p1 S1 R1 ⟨n, ex, h1, h2, q⟩ => by
    subst ex
    cases R1 with
    | cons a r => cases r; cases a; exact ⟨n, rfl, by omega, by omega, k F1 m1 A1 _ H1 _ e1 p1 S1 real_r q⟩
theorem wi_r2 {ta : TA} {Q : AS → List D → Prop} (h : WA c ta A fun A1 ds => ∃ a n : Int, ds = [.int a, .int n] ∧ (a < 1000000 ∧ -1000000 < a) ∧ (n < 1000000 ∧ -1000000 < n) ∧ Q A1 (intsD a (n - a).toNat)) : WI c (iRng2 ta) A Q := fun F G m σ H S E Rc k =>
  h F G m σ H S E _ fun F1 m1 A1 vs H1 ds e1 p1 S1 R1 ⟨a0, n, ex, h1, h2, q⟩ => by
    subst ex
    cases R1 with
    | cons a r => cases r with | cons b r => cases r; cases a; cases b; exact ⟨a0, n, rfl, ⟨by omega, by omega, by omega, by omega⟩, k F1 m1 A1 _ H1 _ e1 p1 S1 real_r q⟩
/-! ### comprehensions -/
def wipeA (s : List (Option SV)) : List Nat → List (Option SV)
  | [] => s
  | v :: vs => (wipeA s vs).set v none
theorem SS.wipe {K : PySem.W.Frag} {F G : Hp} {m : List Addr} {s : List (Option SV)} {σ : St} {H : Hp} (h : SS K F G m s σ H) : ∀ vs, SS K F G m (wipeA s vs) (wipe σ vs) H
  | [] => h
  | v :: vs => (SS.wipe h vs).forget
/-- the state is as before, but for slots that are forgotten, and nothing own has changed -/
theorem wipe_own {s : List (Option SV)} : ∀ {vs : List Nat} {i : Nat} {x : SV}, (wipeA s vs)[i]? = some (some x) → s[i]? = some (some x) ∧ i ∉ vs
  | [], i, x, h => ⟨h, by simp⟩
  | v :: vs, i, x, h => by
    unfold wipeA at h
    by_cases e : v = i
    · subst e
      have hl := (List.getElem?_eq_some_iff.mp h).1
      rw [List.length_set] at hl
      rw [List.getElem?_set_self hl] at h; cases h
    · rw [List.getElem?_set_ne e] at h
      obtain ⟨h1, h2⟩ := wipe_own h
      exact ⟨h1, by simp only [List.mem_cons, not_or]; exact ⟨fun z => e z.symm, h2⟩⟩
theorem wipe_keeps {s : List (Option SV)} : ∀ {vs : List Nat} {i : Nat}, i ∉ vs → (wipeA s vs)[i]? = s[i]?
  | [], i, h => rfl
  | v :: vs, i, h => by
    simp only [List.mem_cons, not_or] at h
    unfold wipeA
    rw [List.getElem?_set_ne (fun z => h.1 z.symm)]
    exact wipe_keeps h.2
/-- no slot that the comprehension's own names take is an own object -/
def NoOwn (s : List (Option SV)) (vs : List Nat) : Prop := ∀ i ∈ vs, ∀ x : Cell, s[i]? ≠ some (some (.own x))
def GOk (g : TG) (vs : List Nat) : Prop := ∀ v σ H (Qc : St → Hp → Prop), (g v σ H fun σ2 H2 => wipe σ2 vs = wipe σ vs → Qc σ2 H2) → g v σ H fun σ2 H2 => wipe σ2 vs = wipe σ vs ∧ Qc σ2 H2
def GsOk (g : TGs) (vs : List Nat) : Prop := ∀ v σ H (Qc : St → Hp → Prop), (g v σ H fun σ2 H2 => wipe σ2 vs = wipe σ vs → Qc σ2 H2) → g v σ H fun σ2 H2 => wipe σ2 vs = wipe σ vs ∧ Qc σ2 H2
theorem wipe_set {i : Nat} {x : Option V} : ∀ {vs : List Nat} {σ : St}, i ∈ vs → wipe (σ.set i x) vs = wipe σ vs
  | v :: vs, σ, h => by
    unfold wipe
    by_cases e : i ∈ vs
    · rw [wipe_set e]
    · have ei : i = v := by simpa [e] using h
      subst ei
      have w : ∀ (us : List Nat) (τ : St) (y : Option V), (wipe (τ.set i y) us).set i none = (wipe τ us).set i none := fun us => by
        induction us with
        | nil => intro τ y; show (τ.set i y).set i none = τ.set i none; rw [List.set_set]
        | cons u us ih =>
          intro τ y
          show ((wipe (τ.set i y) us).set u none).set i none = ((wipe τ us).set u none).set i none
          by_cases z : u = i
          · subst z; rw [List.set_set, List.set_set]; exact ih τ y
          · rw [List.set_comm _ _ z, List.set_comm _ _ z, ih τ y]
      exact w vs σ x
theorem gok_name {i : Nat} {vs : List Nat} (h : i ∈ vs) : GOk (gName i) vs := fun v σ H Qc q => ⟨wipe_set h, q (wipe_set h)⟩
theorem gsok_nil {vs : List Nat} : GsOk gNil vs := fun v σ H Qc q => ⟨q.1, rfl, q.2 rfl⟩
theorem gsok_cons {g : TG} {gs : TGs} {vs : List Nat} (mg : ∀ v σ H (P Q : St → Hp → Prop), (∀ a b, P a b → Q a b) → g v σ H P → g v σ H Q) (mgs : ∀ v σ H (P Q : St → Hp → Prop), (∀ a b, P a b → Q a b) → gs v σ H P → gs v σ H Q) (h : GOk g vs) (hs : GsOk gs vs) : GsOk (gCons g gs) vs := fun v σ H Qc q => by
  obtain ⟨x, r, e, q⟩ := q
  have q1 := h x σ H (fun σ' H' => gs r σ' H' fun a b => wipe a vs = wipe σ' vs → Qc a b) (mg _ _ _ _ _ (fun a b z w => mgs _ _ _ _ _ (fun a2 b2 z2 w2 => z2 (w2.trans w)) z) q)
  refine ⟨x, r, e, mg _ _ _ _ _ (fun a b z => ?_) q1⟩
  exact mgs _ _ _ _ _ (fun a2 b2 z2 => ⟨z2.1.trans z.1, z2.2⟩) (hs _ _ _ _ z.2)
theorem gok_tup {K : PySem.W.Frag} {n : Nat} {gs : TGs} {vs : List Nat} (h : GsOk gs vs) : GOk (gTup K n gs) vs := fun v σ H Qc q => by
  obtain ⟨a, xs, e, hx, hn, q⟩ := q
  exact ⟨a, xs, e, hx, hn, h _ _ _ _ q⟩
theorem mono_name {i : Nat} : ∀ v σ H (P Q : St → Hp → Prop), (∀ a b, P a b → Q a b) → gName i v σ H P → gName i v σ H Q := fun v σ H P Q h q => h _ _ q
theorem mono_nil : ∀ v σ H (P Q : St → Hp → Prop), (∀ a b, P a b → Q a b) → gNil v σ H P → gNil v σ H Q := fun v σ H P Q h q => ⟨q.1, h _ _ q.2⟩
theorem mono_cons {g : TG} {gs : TGs} (mg : ∀ v σ H (P Q : St → Hp → Prop), (∀ a b, P a b → Q a b) → g v σ H P → g v σ H Q) (mgs : ∀ v σ H (P Q : St → Hp → Prop), (∀ a b, P a b → Q a b) → gs v σ H P → gs v σ H Q) : ∀ v σ H (P Q : St → Hp → Prop), (∀ a b, P a b → Q a b) → gCons g gs v σ H P → gCons g gs v σ H Q := fun v σ H P Q h q => by
  obtain ⟨x, r, e, q⟩ := q
  exact ⟨x, r, e, mg _ _ _ _ _ (fun a b z => mgs _ _ _ _ _ h z) q⟩
theorem gok_two {K : PySem.W.Frag} {i j n : Nat} {vs : List Nat} (hi : i ∈ vs) (hj : j ∈ vs) : GOk (gTup K n (gCons (gName i) (gCons (gName j) gNil))) vs :=
  gok_tup (gsok_cons mono_name (mono_cons mono_name mono_nil) (gok_name hi) (gsok_cons mono_name mono_nil (gok_name hj) gsok_nil))
/-! ### the callers' part less -/
theorem Sim.weakG {K : PySem.W.Frag} {F G G' : Hp} {m : List Addr} {A : AS} {σ : St} {H : Hp} (S : Sim K F G' m A σ H) (sub : ∀ a o, G a = some o → G' a = some o) : Sim K F G m A σ H := by
  have non : ∀ a, G' a = none → G a = none := fun a c => by
    cases g : G a with
    | none => rfl
    | some o => rw [sub a o g] at c; cases c
  refine ⟨⟨S.h.exF, fun a o g => S.h.exG _ _ (sub a o g), fun a o f => non a (S.h.dj a o f), S.h.len, fun n a c e1 e2 l => ?_, S.h.inj, S.h.here, fun n a e => non a (S.h.mG n a e), S.h.gn⟩, S.s.len, fun i x y e1 e2 => ?_, S.s.own⟩
  · obtain ⟨x1, x2, x3⟩ := S.h.cell n a c e1 e2 l
    exact ⟨x1, non a x2, x3⟩
  · have q := S.s.at_ i x y e1 e2
    match x, y, q with
    | _, none, _ => cases x <;> trivial
    | some v, some (.val d), q => exact q
    | some v, some (.own c), ⟨a, ea, l, f, g, mm, cc⟩ => exact ⟨a, ea, l, f, non a g, mm, cc⟩
/-- an object that is nobody's becomes the callers' -/
theorem Sim.addG {K : PySem.W.Frag} {F G : Hp} {m : List Addr} {A : AS} {σ : St} {H : Hp} (S : Sim K F G m A σ H) {p : Addr} {o : HO} (hp : H p = none) : Sim K F (upd G p o) m A σ (upd H p o) := by
  have S1 := S.new (o := o) hp
  obtain ⟨f, g, mm⟩ := S.h.fresh hp
  have no := S.notOwn hp
  have ng : ∀ a, a ≠ p → G a = none → upd G p o a = none := fun a h g => by rw [upd_ne h]; exact g
  refine ⟨⟨S1.h.exF, ex_both S.h.exG, fun a u e => ng a (ne_of_none e f) (S.h.dj a u e), S1.h.len, fun n a c e1 e2 l => ?_, S1.h.inj, S1.h.here, fun n a e => ng a (fun z => mm n (z ▸ e)) (S.h.mG n a e), S1.h.gn⟩, S1.s.len, fun i x y e1 e2 => ?_, S1.s.own⟩
  · obtain ⟨x1, x2, x3⟩ := S1.h.cell n a c e1 e2 l
    exact ⟨x1, ng a (fun z => mm n (z ▸ e1)) x2, x3⟩
  · have q := S1.s.at_ i x y e1 e2
    match x, y, q with
    | _, none, _ => cases x <;> trivial
    | some v, some (.val d), q => exact q
    | some v, some (.own c), ⟨a, ea, l, f, g, mm, cc⟩ => exact ⟨a, ea, l, f, ng a (fun z => no ⟨i, c, e2, by rw [← z, ← ea]; exact e1⟩) g, mm, cc⟩
/-- the callers' object changes -/
theorem Sim.setG {K : PySem.W.Frag} {F G : Hp} {m : List Addr} {A : AS} {σ : St} {H : Hp} {p : Addr} {o o' : HO} (S : Sim K F (upd G p o) m A σ H) : Sim K F (upd G p o') m A σ (upd H p o') := by
  have gp : upd G p o p = some o := upd_same
  have hF : F p = none := by
    cases y : F p with
    | none => rfl
    | some u => have z := S.h.dj p u y; rw [gp] at z; cases z
  have hm : ∀ n : Nat, m[n]? ≠ some p := fun n e => by have z := S.h.mG n p e; rw [gp] at z; cases z
  have non : ∀ a, upd G p o a = none → a ≠ p ∧ upd G p o' a = none := fun a z => by
    have np : a ≠ p := fun y => by subst y; rw [gp] at z; cases z
    exact ⟨np, by rw [upd_ne np] at z ⊢; exact z⟩
  refine ⟨⟨ex_right S.h.exF hF, fun a u g => ?_, fun a u e => (non a (S.h.dj a u e)).2, S.h.len, fun n a c e1 e2 l => ?_, S.h.inj, fun n a e => ?_, fun n a e => (non a (S.h.mG n a e)).2, S.h.gn⟩, S.s.len, fun i x y e1 e2 => ?_, S.s.own⟩
  · by_cases z : a = p
    · subst z; rw [upd_same] at g ⊢; exact g
    · rw [upd_ne z] at g ⊢; exact S.h.exG a u (by rw [upd_ne z]; exact g)
  · obtain ⟨x1, x2, x3⟩ := S.h.cell n a c e1 e2 l
    obtain ⟨np, g⟩ := non a x2
    exact ⟨x1, g, x3.mono (fun _ _ h => h) (Pre.refl _) (upd_ne np)⟩
  · obtain ⟨u, hu⟩ := S.h.here n a e
    exact ⟨u, by rw [upd_ne (fun z => hm n (by rw [← z]; exact e))]; exact hu⟩
  · have q := S.s.at_ i x y e1 e2
    match x, y, q with
    | _, none, _ => cases x <;> trivial
    | some v, some (.val d), q => exact q
    | some v, some (.own c), ⟨a, ea, l, f, g, mm, cc⟩ =>
      obtain ⟨np, g'⟩ := non a g
      exact ⟨a, ea, l, f, g', mm, cc.mono (fun _ _ h => h) (Pre.refl _) (upd_ne np)⟩
theorem EOk.weakG {c : Ct} {F G G' : Hp} {m : List Addr} (E : EOk c F G m) (sub : ∀ a o, G a = some o → G' a = some o) : EOk c F G' m := ⟨fun F' m' A' σ' H' C dx fvs fs e p S => E.x F' m' A' σ' H' C dx fvs fs e p (S.weakG sub), E.h⟩
theorem wipe_not {j : Nat} : ∀ {us : List Nat} {τ : St}, j ∉ us → (wipe τ us)[j]? = τ[j]?
  | [], τ, h => rfl
  | u :: us, τ, h => by
    simp only [List.mem_cons, not_or] at h
    unfold wipe
    rw [List.getElem?_set_ne (fun z => h.1 z.symm)]
    exact wipe_not h.2
/-- behind an element: the slots are as they were -/
theorem Sim.unwipe {K : PySem.W.Frag} {F F3 G G0 : Hp} {m m3 : List Addr} {A A3 : AS} {σ σ3 : St} {H H3 : Hp} {vs : List Nat} (S : Sim K F G0 m A σ H) (S3 : Sim K F3 G m3 A3 σ3 H3) (e : Ex F F3) (p : Pre m m3) (eo : A3.o = A.o) (es : ∀ j, j ∉ vs → A3.s[j]? = A.s[j]?)
    (ew : wipe σ3 vs = wipe σ vs) (no : NoOwn A.s vs) : Sim K F3 G m3 A σ H3 := by
  refine ⟨by rw [← eo]; exact S3.h, S.s.len, fun i x y e1 e2 => ?_, S.s.own⟩
  by_cases hi : i ∈ vs
  · have q := S.s.at_ i x y e1 e2
    match x, y, q, e2 with
    | _, none, _, _ => cases x <;> trivial
    | some v, some (.val d), q, _ => exact Rep.mono e p q
    | some v, some (.own c), _, e2 => exact absurd e2 (no i hi c)
  · have z1 : σ3[i]? = some x := by rw [← wipe_not hi, ew, wipe_not hi]; exact e1
    have z2 : A3.s[i]? = some y := by rw [es i hi]; exact e2
    exact S3.s.at_ i x y z1 z2
/-- what the elements are: es[i] of the i-th item, none where it is passed over; every own object stays -/
theorem wn_lc {wi : TI} {g : TG} {vs : List Nat} {Q : AS → List D → Prop} (hg : GOk g vs)
    (h : WI c wi A fun A1 ds => NoOwn A1.s vs ∧ ds.length < 100000 ∧ ∃ es : List (Option D), es.length = ds.length ∧
      (∀ (i : Nat) d, ds[i]? = some d → WG c g d ⟨wipeA A1.s vs, A1.o⟩ fun A2 => WT c tt A2 fun A3 b => (b = true → WE c te A3 fun A4 r => Frz A4 r fun A5 e => es[i]? = some (some e) ∧ A5.o = A1.o ∧ ∀ j, j ∉ vs → A5.s[j]? = A1.s[j]?) ∧
        (b = false → es[i]? = some none ∧ A3.o = A1.o ∧ ∀ j, j ∉ vs → A3.s[j]? = A1.s[j]?)) ∧ Q A1 (es.filterMap id)) :
    WN c (tLc wi g tt te vs) A Q := fun F G m σ H S E Qc k => h F G m σ H S E _ fun F1 m1 A1 J H1 ds e1 p1 S1 RJ ⟨no, hlen, es, hes, hs, q⟩ => by
  intro Dl hD
  have gD : G Dl = none := (S1.h.fresh hD).2.1
  have sub : ∀ (o : HO) a u, G a = some u → upd G Dl o a = some u := fun o a u e => by rw [upd_ne (ne_of_none e gD)]; exact e
  have nD := S1.notOwn hD
  refine ⟨fun i n H2 => n = ds.length - i ∧ i ≤ ds.length ∧ ∃ F2 m2 acc, Ex F1 F2 ∧ Pre m1 m2 ∧ Sim c.K F2 (upd G Dl (.lst acc)) m2 A1 σ H2 ∧ Reps c.K F2 m2 acc ((es.take i).filterMap id),
    ⟨_, rfl, Nat.zero_le _, F1, m1, [], Evl.Ex.refl _, Pre.refl _, S1.addG hD, .nil⟩, fun i n H2 hw => ?_⟩
  obtain ⟨rfl, hi, F2, m2, acc, e2, p2, S2, R2⟩ := hw
  obtain ⟨r1, r2⟩ := RJ F2 _ m2 A1 σ H2 e2 p2 S2 i
  have hacc : acc.length ≤ i := by
    rw [R2.len]
    refine Nat.le_trans (List.length_filterMap_le _ _) ?_
    rw [List.length_take]; exact Nat.min_le_left _ _
  by_cases hl : i < ds.length
  · obtain ⟨g1, g2⟩ := r1 _ (List.getElem?_eq_getElem hl)
    refine .inr ⟨g1, fun H3 => i + 1 ≤ ds.length ∧ ∃ F2 m2 acc, Ex F1 F2 ∧ Pre m1 m2 ∧ Sim c.K F2 (upd G Dl (.lst acc)) m2 A1 σ H3 ∧ Reps c.K F2 m2 acc ((es.take (i + 1)).filterMap id), fun H3 hN => ⟨_, by omega, rfl, hN⟩, fun x H3 hy => ?_⟩
    obtain ⟨F3, e3, S3, R3⟩ := g2 x H3 hy
    have E3 : EOk c F3 (upd G Dl (.lst acc)) m2 := (E.weakG (sub _)).mono ((e1.trans e2).trans e3) (p1.trans p2)
    have S3w : Sim c.K F3 (upd G Dl (.lst acc)) m2 ⟨wipeA A1.s vs, A1.o⟩ (wipe σ vs) H3 := ⟨S3.h, S3.s.wipe vs⟩
    have ww : wipe (wipe σ vs) vs = wipe σ vs := by
      apply List.ext_getElem?
      intro j
      by_cases hj : j ∈ vs
      · have z : ∀ (us : List Nat) (τ : St), j ∈ us → (wipe τ us)[j]? = if j < τ.length then some none else none := fun us => by
          induction us with
          | nil => intro τ h; cases h
          | cons u us ih =>
            intro τ h
            unfold wipe
            by_cases y : u = j
            · subst y
              by_cases hl : u < τ.length
              · rw [List.getElem?_set_self (by rw [wipe_length]; exact hl), if_pos hl]
              · rw [if_neg hl, List.getElem?_eq_none (by rw [List.length_set, wipe_length]; omega)]
            · rw [List.getElem?_set_ne y]
              exact ih τ (by simpa [show ¬ j = u from fun z => y z.symm] using h)
        rw [z vs _ hj, z vs _ hj, wipe_length]
      · rw [wipe_not hj]
    have hgx := hg x (wipe σ vs) H3 (fun σ2 H4 => tt σ2 H4 fun b H5 => if b = true then te σ2 H5 fun y H6 => ∃ acc', H6 Dl = some (.lst acc') ∧ acc'.length < sizeLine ∧ (i + 1 ≤ ds.length ∧ ∃ F2 m2 acc, Ex F1 F2 ∧ Pre m1 m2 ∧ Sim c.K F2 (upd G Dl (.lst acc)) m2 A1 σ (upd H6 Dl (.lst (acc' ++ [y]))) ∧ Reps c.K F2 m2 acc ((es.take (i + 1)).filterMap id)) else
      (i + 1 ≤ ds.length ∧ ∃ F2 m2 acc, Ex F1 F2 ∧ Pre m1 m2 ∧ Sim c.K F2 (upd G Dl (.lst acc)) m2 A1 σ H5 ∧ Reps c.K F2 m2 acc ((es.take (i + 1)).filterMap id)))
    rw [ww] at hgx
    refine hgx (hs i _ (List.getElem?_eq_getElem hl) F3 _ m2 (wipe σ vs) H3 x S3w R3 E3 _ fun F4 m4 A4 σ4 H4 e4 p4 S4 q4 ew => ?_)
    have x4 := e2.trans (e3.trans e4)
    have y4 := p2.trans p4
    refine q4 F4 _ m4 σ4 H4 S4 (E3.mono e4 p4) _ fun F5 m5 A5 b H5 e5 p5 S5 q5 => ?_
    have tk : ∀ o, es[i]? = some o → es.take (i + 1) = es.take i ++ [o] := fun o ho => by rw [List.take_add_one, ho]; rfl
    cases b with
    | false =>
      obtain ⟨h1, h2, h3⟩ := q5.2 rfl
      show i + 1 ≤ ds.length ∧ _
      refine ⟨hl, F5, m5, acc, x4.trans e5, y4.trans p5, S2.unwipe S5 (e3.trans (e4.trans e5)) (p4.trans p5) h2 h3 ew no, ?_⟩
      rw [tk _ h1, List.filterMap_append]
      show Reps c.K F5 m5 acc (_ ++ [])
      rw [List.append_nil]
      exact R2.mono (e3.trans (e4.trans e5)) (p4.trans p5)
    | true =>
      show te σ4 H5 _
      refine (WE.frz (q5.1 rfl)) F5 _ m5 σ4 H5 S5 (E3.mono (e4.trans e5) (p4.trans p5)) _ fun F6 m6 A6 y H6 r e6 p6 S6 R6 q6 => ?_
      obtain ⟨d, er, h1, h2, h3⟩ := q6
      subst er
      have z6 := e3.trans (e4.trans (e5.trans e6))
      have w6 := p4.trans (p5.trans p6)
      refine ⟨acc, S6.h.exG Dl _ upd_same, Nat.lt_of_le_of_lt hacc (Nat.lt_of_lt_of_le (Nat.lt_trans hl hlen) (by decide)), hl, F6, m6, acc ++ [y], e2.trans z6, p2.trans w6, (S2.unwipe S6 z6 w6 h2 h3 ew no).setG, ?_⟩
      rw [tk _ h1, List.filterMap_append]
      exact (R2.mono z6 w6).app (.cons R6 .nil)
  · have ei : i = ds.length := by omega
    subst ei
    rw [← hes, List.take_length] at R2
    have gs := S2.h.exG Dl _ upd_same
    have fD : F2 Dl = none := by
      cases y : F2 Dl with
      | none => rfl
      | some u => have z := S2.h.dj Dl u y; rw [upd_same] at z; cases z
    exact .inl ⟨r2 (Nat.le_refl _), k F2 m2 A1 Dl acc H2 _ (e1.trans e2) (p1.trans p2) (S2.weakG (sub _)) fD gD (fun n e => by have z := S2.h.mG n Dl e; rw [upd_same] at z; cases z) nD gs R2 q⟩
end
end AL

namespace AL
open PySem L2
/-! ### what a def promises, in the abstract -/
abbrev XO := List Cell → Addr → List (Str × D) → Prop
/-- arguments, cells, what follows, what is raised -/
abbrev Contract := List D → List Cell → (List Cell → D → Prop) → XO → Prop
def SpA (K : PySem.W.Frag) (Φ : Contract) : Sp := fun vs H Q E => ∃ F G m O ds R X, HS K F G m O H ∧ Reps K F m vs ds ∧ Φ ds O R X ∧
  (∀ F' m' O' v d H', Ex F F' → Pre m m' → HS K F' G m' O' H' → Rep K F' m' v d → R O' d → Q v H') ∧
  (∀ F' m' O' C dx fvs fs H', Ex F F' → Pre m m' → HS K F' G m' O' H' → F' dx = some (.xd fvs) → RepF K F' m' fvs fs → X O' C fs → E (.ref C) (some dx) H')
theorem SpA.len {K : PySem.W.Frag} {Φ : Contract} {n : Nat} (h : ∀ ds O R X, Φ ds O R X → ds.length = n) {vs : List V} {H : Hp} {Q : VK} {E : XK} (s : SpA K Φ vs H Q E) : vs.length = n := by
  obtain ⟨F, G, m, O, ds, R, X, hs, rs, p, _⟩ := s
  rw [rs.len]; exact h _ _ _ _ p
theorem SpA.imp {K : PySem.W.Frag} {Φ Ψ : Contract} (h : ∀ ds O R X, Ψ ds O R X → Φ ds O R X) (vs : List V) (H : Hp) (Q : VK) (E : XK) (s : SpA K Ψ vs H Q E) : SpA K Φ vs H Q E := by
  obtain ⟨F, G, m, O, ds, R, X, hs, rs, p, q⟩ := s
  exact ⟨F, G, m, O, ds, R, X, hs, rs, h _ _ _ _ p, q⟩
section
variable {c : Ct} {A : AS} {te ta tb tl to : TE} {t u tt : TT} {x y : RV} {Q : QE}
theorem we_callX {Φ : Contract} {E : XK} {dvs : List V} {dds : List D} {t : TA} (hE : ∀ σ, c.E σ = E) (hd : ∀ F m, Reps c.K F m dvs dds) (h : WA c t A fun A1 ds => Φ (ds ++ dds) A1.o (fun O' d => Q ⟨A1.s, O'⟩ (.val d)) (fun O' C fs => c.X ⟨A1.s, O'⟩ C fs)) : WE c (tCall (SpA c.K Φ) dvs E t) A Q := fun F G m σ H S Eo Qc k =>
  h F G m σ H S Eo _ fun F1 m1 A1 vs H1 ds e1 p1 S1 R1 q =>
    ⟨F1, callG A1.s σ G H1, m1, A1.o, ds ++ dds, _, _, S1.call, R1.app (hd _ _), q, fun F' m' O' v d H' e p hs r rr => k F' m' ⟨A1.s, O'⟩ v H' (.val d) (e1.trans e) (p1.trans p) (S1.back e p hs) r rr,
      fun F' m' O' C dx fvs fs H' e p hs fx rf xx => by
        have z := Eo.x F' m' ⟨A1.s, O'⟩ σ H' C dx fvs fs (e1.trans e) (p1.trans p) (S1.back e p hs) fx rf xx
        rw [hE] at z; exact z⟩
/-- a call of a def that lets nothing out -/
theorem we_call {Φ : Contract} {E : XK} {dvs : List V} {dds : List D} {t : TA} (hd : ∀ F m, Reps c.K F m dvs dds) (h : WA c t A fun A1 ds => Φ (ds ++ dds) A1.o (fun O' d => Q ⟨A1.s, O'⟩ (.val d)) (fun _ _ _ => False)) : WE c (tCall (SpA c.K Φ) dvs E t) A Q := fun F G m σ H S Eo Qc k =>
  h F G m σ H S Eo _ fun F1 m1 A1 vs H1 ds e1 p1 S1 R1 q =>
    ⟨F1, callG A1.s σ G H1, m1, A1.o, ds ++ dds, _, _, S1.call, R1.app (hd _ _), q, fun F' m' O' v d H' e p hs r rr => k F' m' ⟨A1.s, O'⟩ v H' (.val d) (e1.trans e) (p1.trans p) (S1.back e p hs) r rr, fun F' m' O' C dx fvs fs H' e p hs fx rf xx => xx.elim⟩
theorem we_call0 {Φ : Contract} {E : XK} {t : TA} (h : WA c t A fun A1 ds => Φ ds A1.o (fun O' d => Q ⟨A1.s, O'⟩ (.val d)) (fun _ _ _ => False)) : WE c (tCall (SpA c.K Φ) [] E t) A Q :=
  we_call (dds := []) (fun _ _ => .nil) (by simpa using h)
/-- the slots at a def's entry -/
def entry (n : Nat) (ds : List D) : List (Option SV) := ds.map (fun d => some (.val d)) ++ List.replicate (n - ds.length) none
theorem entry_ok {K : PySem.W.Frag} {F G : Hp} {m : List Addr} {H : Hp} {N : List Str} {vs : List V} {ds : List D} (r : Reps K F m vs ds) : SS K F G m (entry N.length ds) (L2.start N vs) H where
  len := by unfold entry L2.start; simp [r.len]
  at_ := fun i x y e1 e2 => by
    unfold L2.start at e1
    unfold entry at e2
    by_cases h : i < ds.length
    · rw [List.getElem?_append_left (by rw [List.length_map]; exact h), List.getElem?_map, List.getElem?_eq_getElem h] at e2
      rw [List.getElem?_append_left (by rw [List.length_map, r.len]; exact h), List.getElem?_map] at e1
      obtain ⟨v, ev, rv⟩ := r.get (List.getElem?_eq_getElem h)
      rw [ev] at e1
      cases e1; cases e2; exact rv
    · rw [List.getElem?_append_right (by rw [List.length_map]; omega)] at e2
      rw [List.getElem?_replicate] at e2
      split at e2
      · cases e2; cases x <;> trivial
      · cases e2
  own := fun i j c1 c2 v n e1 e2 e3 e4 => by
    unfold entry at e1
    by_cases h : i < ds.length
    · rw [List.getElem?_append_left (by rw [List.length_map]; exact h), List.getElem?_map, List.getElem?_eq_getElem h] at e1
      cases e1
    · rw [List.getElem?_append_right (by rw [List.length_map]; omega), List.getElem?_replicate] at e1
      split at e1 <;> cases e1
/-- a def's body keeps its promise -/
theorem run_body {K : PySem.W.Frag} {Φ : Contract} {ts : TS} {N : List Str} {vs : List V} {H : Hp} {Q : VK} {E : XK} (h : SpA K Φ vs H Q E)
    (hb : ∀ ds O R X, Φ ds O R X → WS ⟨K, fun _ => E, fun A C fs => X A.o C fs, none⟩ ts ⟨entry N.length ds, O⟩ { nx := fun A => R A.o .non, rt := R }) : ts { nx := fun _ H' => Q .non H', rt := Q } (L2.start N vs) H := by
  obtain ⟨F, G, m, O, ds, R, X, hs, rs, p, q, xq⟩ := h
  refine hb ds O R X p F G m (L2.start N vs) H ⟨hs, entry_ok rs⟩ ⟨fun F' m' A' σ' H' C dx fvs fs e pr S fx rf xx => xq F' m' A'.o C dx fvs fs H' e pr S.h fx rf xx, fun _ _ z => nomatch z⟩ _ ⟨fun F' m' A' σ' H' e pr S z => ?_, fun F' m' O' v d H' e pr hs' r z => ?_, fun F' m' A' σ' H' e pr S z => z.elim, fun F' m' A' σ' H' e pr S z => z.elim⟩
  · exact q F' m' A'.o .non .non H' e pr S.h .non z
  · exact q F' m' O' v d H' e pr hs' r z
/-! ### own lists change -/
theorem Sim.ownSet {K : PySem.W.Frag} {F G : Hp} {m : List Addr} {σ : St} {H : Hp} {i : Nat} {a : Addr} {c1 c2 : Cell} {o : HO} (S : Sim K F G m A σ H) (hs : A.s[i]? = some (some (.own c1))) (hσ : σ[i]? = some (some (.ref a))) (l : c2.live) (hc : CellAt K F m (upd H a o) a c2) :
    Sim K F G m (A.setS i (.own c2)) σ (upd H a o) := by
  obtain ⟨b, q, l1, f, g, mm, cc⟩ := S.s.ownAt hs
  rw [hσ] at q; cases q
  refine ⟨S.h.mut f g mm, by rw [S.s.len]; exact (List.length_set ..).symm, fun j x y e1 e2 => ?_, fun j k d1 d2 v n e1 e2 e3 e4 => ?_⟩
  · by_cases z : j = i
    · subst z
      have hl : j < A.s.length := (List.getElem?_eq_some_iff.mp hs).1
      have e2' : (A.s.set j (some (.own c2)))[j]? = some y := e2
      rw [List.getElem?_set_self hl] at e2'
      cases e2'
      rw [hσ] at e1; cases e1
      exact ⟨a, rfl, l, f, g, mm, hc⟩
    · have e2' : (A.s.set i (some (.own c2)))[j]? = some y := e2
      rw [List.getElem?_set_ne (Ne.symm z)] at e2'
      have q := S.s.at_ j x y e1 e2'
      match x, y, q, e1, e2' with
      | _, none, _, _, _ => cases x <;> trivial
      | some v, some (.val d), q, _, _ => exact q
      | some v, some (.own c), ⟨b, eb, lb, fb, gb, mb, cb⟩, e1, e2' =>
        subst eb
        have nab : b ≠ a := fun y => by subst y; exact S.s.own j i _ _ _ z e2' hs e1 hσ
        exact ⟨b, rfl, lb, fb, gb, mb, cb.mono (fun _ _ h => h) (Pre.refl _) (upd_ne nab)⟩
  · have old : ∀ (j : Nat) d, (A.setS i (.own c2)).s[j]? = some (some (.own d)) → ∃ d', A.s[j]? = some (some (.own d')) := fun j d e => by
      have e' : (A.s.set i (some (.own c2)))[j]? = some (some (.own d)) := e
      by_cases z : j = i
      · subst z; exact ⟨_, hs⟩
      · rw [List.getElem?_set_ne (Ne.symm z)] at e'; exact ⟨_, e'⟩
    obtain ⟨d1', z1⟩ := old j d1 e1
    obtain ⟨d2', z2⟩ := old k d2 e2
    exact S.s.own j k _ _ v n z1 z2 e3 e4
variable {B : EA}
/-- xs.append(e), xs a list that the name alone has -/
theorem ws_append {i : Nat} {ds0 : List D} (h0 : A.s[i]? = some (some (.own (.lst ds0)))) (h : WE c te A fun A1 r => Frz A1 r fun A2 d => ∃ ds, A2.s[i]? = some (some (.own (.lst ds))) ∧ ds.length < 100000 ∧ B.nx (A2.setS i (.own (.lst (ds ++ [d]))))) :
    WS c (tDrop (tBM c.K "list" rAppend (tVar i) (tCons te tNil))) A B := fun F G m σ H S E Dc k => by
  obtain ⟨a, e, _, _, _, _, vs0, hv0, _⟩ := S.s.ownAt h0
  refine ⟨.ref a, e, .inl ⟨rfl, vs0, .inl (.inl hv0)⟩, (WE.frz h) F G m σ H S E _ fun F1 m1 A1 v H1 r e1 p1 S1 R1 ⟨d, er, ds, hs, hl, q⟩ => ?_⟩
  subst er
  obtain ⟨b, eb, _, _, _, _, vs, hv, rv⟩ := S1.s.ownAt hs
  rw [e] at eb; cases eb
  exact ⟨a, vs, v, rfl, rfl, hv, Nat.lt_of_lt_of_le (by rw [rv.len]; exact hl) (by decide), k.nx F1 m1 _ σ _ e1 p1 (S1.ownSet (c2 := .lst (ds ++ [d])) hs e trivial ⟨_, upd_same, rv.app (.cons R1 .nil)⟩) q⟩
/-- xs[j] = e, xs a list that the name alone has -/
theorem ws_setitem {i : Nat} (h : WE c te A fun A1 r => Frz A1 r fun A2 d => ∃ ds0, A2.s[i]? = some (some (.own (.lst ds0))) ∧ WE c tb A2 fun A3 y => ∃ n : Int, y = .val (.int n) ∧ ∃ (ds : List D) (j : Nat), A3.s[i]? = some (some (.own (.lst ds))) ∧ ixN ds.length n = some j ∧ B.nx (A3.setS i (.own (.lst (ds.set j d))))) :
    WS c (tAsg te (gSub (tVar i) tb rSetL)) A B := fun F G m σ H S E Dc k => (WE.frz h) F G m σ H S E _ fun F1 m1 A1 v H1 r e1 p1 S1 R1 ⟨d, er, ds0, h0, q⟩ => by
  subst er
  obtain ⟨a, ea, _⟩ := S1.s.ownAt h0
  refine ⟨.ref a, ea, q F1 G m1 σ H1 S1 (E.mono e1 p1) _ fun F2 m2 A2 w H2 y e2 p2 S2 R2 ⟨n, ey, ds, j, h1, hj, q2⟩ => ?_⟩
  subst ey
  cases R2
  obtain ⟨b, eb, _, _, _, _, vs, hv, rv⟩ := S2.s.ownAt h1
  rw [ea] at eb; cases eb
  exact ⟨a, vs, n, j, rfl, rfl, hv, by rw [rv.len]; exact hj, k.nx F2 m2 _ σ _ (e1.trans e2) (p1.trans p2) (S2.ownSet (c2 := .lst (ds.set j d)) h1 ea trivial ⟨_, upd_same, Reps.set (Rep.mono e2 p2 R1) j rv⟩) q2⟩
/-! ### slices -/
def rSlAA (K : PySem.W.Frag) := orS (rSlL K) (rSlP K)
theorem sl_AA {X : Cx} : SlR X (rSlAA X.K) := sl_or sl_list sl_tupP
theorem cutV_reps {K : PySem.W.Frag} {F : Hp} {m : List Addr} {vs : List V} {ds : List D} {lo hi : Option Int} (r : Reps K F m vs ds) : Reps K F m (cutV vs lo hi) ((ds.drop (HT.sIx ds.length 0 lo)).take (HT.sIx ds.length ds.length hi - HT.sIx ds.length 0 lo)) := by
  unfold cutV; rw [r.len]; exact (r.drop _).take _
def cutD (ds : List D) (lo hi : Option Int) : List D := (ds.drop (HT.sIx ds.length 0 lo)).take (HT.sIx ds.length ds.length hi - HT.sIx ds.length 0 lo)
/-- a slice of a list: a new list -/
theorem wn_slL {ta : TE} {tlo thi : TO} {Q : AS → List D → Prop} (h : WE c ta A fun A1 x => WO c tlo A1 fun A2 lo => WO c thi A2 fun A3 hi => ∃ ds, lsOf A1 x = some ds ∧ lsOf A3 x = some ds ∧ Stays A1 A3 x ∧ Q A3 (cutD ds lo hi)) : WN c (tSl (rSlAA c.K) ta tlo thi) A Q := fun F G m σ H S E Qc k =>
  h F G m σ H S E _ fun F1 m1 A1 v H1 x e1 p1 S1 R1 q => q F1 G m1 σ H1 S1 (E.mono e1 p1) _ fun F2 m2 A2 lo H2 e2 p2 S2 q2 => q2 F2 G m2 σ H2 S2 (E.mono (e1.trans e2) (p1.trans p2)) _ fun F3 m3 A3 hi H3 e3 p3 S3 q3 => by
    obtain ⟨ds, l1, l2, st, q4⟩ := q3
    have R3 := R1.stay (e2.trans e3) (p2.trans p3) st
    obtain ⟨a, vs, rfl, hs, rv⟩ := rep_ls S3 R3 l2
    exact .inl ⟨a, vs, rfl, hs, fun p hp => k F3 m3 A3 p _ _ _ ((e1.trans e2).trans e3) ((p1.trans p2).trans p3) (S3.new hp) (S3.h.fresh hp).1 (S3.h.fresh hp).2.1 (S3.h.fresh hp).2.2 (S3.notOwn hp) upd_same (cutV_reps rv) q4⟩
/-- a slice of a tuple -/
theorem we_slT {ta : TE} {tlo thi : TO} (h : WE c ta A fun A1 x => WO c tlo A1 fun A2 lo => WO c thi A2 fun A3 hi => ∃ ds, x = .val (.tup ds) ∧ Q A3 (.val (.tup (cutD ds lo hi)))) : WE c (tSl (rSlAA c.K) ta tlo thi) A Q := fun F G m σ H S E Qc k =>
  h F G m σ H S E _ fun F1 m1 A1 v H1 x e1 p1 S1 R1 q => q F1 G m1 σ H1 S1 (E.mono e1 p1) _ fun F2 m2 A2 lo H2 e2 p2 S2 q2 => q2 F2 G m2 σ H2 S2 (E.mono (e1.trans e2) (p1.trans p2)) _ fun F3 m3 A3 hi H3 e3 p3 S3 q3 => by
    obtain ⟨ds, ex, q4⟩ := q3
    subst ex
    have R3 : Rep c.K F3 m3 v (.tup ds) := Rep.mono (e2.trans e3) (p2.trans p3) R1
    cases R3 with
    | tup pt rv =>
      rename_i a vs
      refine .inr ⟨a, vs, rfl, Evl.ex_t S3.h.exF pt.seq, fun hw => ?_, fun hw p its hp => ?_⟩
      · refine k F3 m3 A3 _ H3 (.val (.tup (cutD ds lo hi))) ((e1.trans e2).trans e3) ((p1.trans p2).trans p3) S3 ?_ q4
        show Rep c.K F3 m3 (.ref a) (.tup (cutD ds lo hi))
        refine .tup pt ?_
        have z := cutV_reps (lo := lo) (hi := hi) rv
        have z2 : cutV vs lo hi = vs := by
          unfold cutV
          rw [hw.1, hw.2, List.drop_zero, Nat.sub_zero, List.take_length]
        rw [z2] at z; exact z
      · have ex : Ex F3 (upd F3 p (tupHO its (cutV vs lo hi))) := ex_upd (S3.h.fresh hp).1
        exact k _ m3 A3 _ _ (.val (.tup (cutD ds lo hi))) (((e1.trans e2).trans e3).trans ex) ((p1.trans p2).trans p3) (S3.frz hp) (show Rep c.K _ _ _ _ from .tup (.inl ⟨its, upd_same⟩) ((cutV_reps rv).mono ex (Pre.refl _))) q4
/-! ### lists and tuples glued -/
theorem od_catT {ds es : List D} (hl : ds.length + es.length ≤ 10000) (q : Q A (.val (.tup (ds ++ es)))) : OpD c (rAddA c.K) (.val (.tup ds)) (.val (.tup es)) A Q := fun F G m σ H v w S E R1 R2 Qc k => by
  cases R1 with
  | tup pt rv =>
    rename_i a vs
    cases R2 with
    | tup pt2 rv2 =>
      rename_i b ws
      refine .inr (.inr (.inl ⟨a, b, vs, ws, rfl, rfl, Evl.ex_t S.h.exF pt.seq, Evl.ex_t S.h.exF pt2.seq, Nat.le_trans (by rw [rv.len, rv2.len]; exact hl) (by decide), fun z => ?_, fun _ z => ?_, fun _ _ p its hp => ?_⟩))
      · subst z
        have e : ds = [] := by cases rv; rfl
        subst e
        exact k F m A _ H (.val (.tup ([] ++ es))) (Evl.Ex.refl F) (Pre.refl m) S (Rep.tup pt2 rv2) q
      · subst z
        have e : es = [] := by cases rv2; rfl
        subst e
        exact k F m A _ H (.val (.tup (ds ++ []))) (Evl.Ex.refl F) (Pre.refl m) S (show Rep c.K F m _ _ by rw [List.append_nil]; exact Rep.tup pt rv) q
      · have ex : Ex F (upd F p (tupHO its (vs ++ ws))) := ex_upd (S.h.fresh hp).1
        exact k _ m A _ _ (.val (.tup (ds ++ es))) ex (Pre.refl m) (S.frz hp) (show Rep c.K _ _ _ _ from .tup (.inl ⟨its, upd_same⟩) ((rv.app rv2).mono ex (Pre.refl _))) q
/-- xs + ys, a new list -/
theorem wn_cat {ta tb : TE} {Q : AS → List D → Prop} (h : WE c ta A fun A1 x => WE c tb A1 fun A2 y => ∃ ds es, Stays A1 A2 x ∧ lxOf A2 x = some ds ∧ lxOf A2 y = some es ∧ ds.length + es.length ≤ 10000 ∧ Q A2 (ds ++ es)) : WN c (tOp (rAddA c.K) ta tb) A Q := fun F G m σ H S E Qc k =>
  h F G m σ H S E _ fun F1 m1 A1 v H1 x e1 p1 S1 R1 q => q F1 G m1 σ H1 S1 (E.mono e1 p1) _ fun F2 m2 A2 w H2 y e2 p2 S2 R2 q2 => by
    obtain ⟨ds, es, st, l1, l2, hl, q3⟩ := q2
    obtain ⟨a, vs, rfl, hv, rv⟩ := rep_lx S2 (R1.stay e2 p2 st) l1
    obtain ⟨b, ws, rfl, hw, rw_⟩ := rep_lx S2 R2 l2
    exact .inr (.inl ⟨a, b, vs, ws, rfl, rfl, hv, hw, Nat.le_trans (by rw [rv.len, rw_.len]; exact hl) (by decide), fun p hp => k F2 m2 A2 p _ _ _ (e1.trans e2) (p1.trans p2) (S2.new hp) (S2.h.fresh hp).1 (S2.h.fresh hp).2.1 (S2.h.fresh hp).2.2 (S2.notOwn hp) upd_same (rv.app rw_) q3⟩)
/-- xs * n, a new list -/
theorem wn_rep {ta tb : TE} {Q : AS → List D → Prop} (h : WE c ta A fun A1 x => WE c tb A1 fun A2 y => ∃ (ds : List D) (n : Int), y = .val (.int n) ∧ Stays A1 A2 x ∧ lxOf A2 x = some ds ∧ (-1000 < n ∧ n < 1000) ∧ ds.length * n.toNat ≤ 10000 ∧ Q A2 (List.replicate n.toNat ds).flatten) : WN c (tOp rMulA ta tb) A Q := fun F G m σ H S E Qc k =>
  h F G m σ H S E _ fun F1 m1 A1 v H1 x e1 p1 S1 R1 q => q F1 G m1 σ H1 S1 (E.mono e1 p1) _ fun F2 m2 A2 w H2 y e2 p2 S2 R2 q2 => by
    obtain ⟨ds, n, ey, st, l1, hn, hl, q3⟩ := q2
    subst ey
    cases R2
    obtain ⟨a, vs, rfl, hv, rv⟩ := rep_lx S2 (R1.stay e2 p2 st) l1
    exact .inr (.inr ⟨a, n, vs, rfl, rfl, hv, by omega, by omega, Nat.le_trans (by rw [rv.len]; exact hl) (by decide), fun p hp => k F2 m2 A2 p _ _ _ (e1.trans e2) (p1.trans p2) (S2.new hp) (S2.h.fresh hp).1 (S2.h.fresh hp).2.1 (S2.h.fresh hp).2.2 (S2.notOwn hp) upd_same (rv.flat _) q3⟩)
/-! ### xs.index(y): a list or a tuple of ints -/
def tIndexA (K : PySem.W.Frag) (to : TE) (t : TA) : TE := orE (tBM K "list" (rIndex K) to t) (tIndexT K to t)
theorem flat_intsV (ns : List Int) : (ns.map V.int).all flatV = true := by
  rw [List.all_map]; exact List.all_eq_true.mpr fun _ _ => rfl
theorem int_at {ns : List Int} {j : Nat} {z : V} (h : (ns.map V.int)[j]? = some z) : ∃ i, ns[j]? = some i ∧ z = .int i := by
  rw [List.getElem?_map] at h
  cases e : ns[j]? with
  | none => rw [e] at h; cases h
  | some i => rw [e] at h; cases h; exact ⟨i, rfl, rfl⟩
theorem eqV_int (i j : Int) : eqV (.int i) (.int j) = decide (i = j) := by
  by_cases h : i = j
  · subst h; simp [eqV]
  · simp [eqV, h]
theorem we_indexL {t : TA} (h : WE c to A fun A1 x => ∃ ds0, lsOf A1 x = some ds0 ∧ WAr c t A1 fun A2 rs => ∃ (ns : List Int) (y : Int) (j : Nat), rs = [.val (.int y)] ∧ Stays A1 A2 x ∧ lsOf A2 x = some (ns.map .int) ∧ ns[j]? = some y ∧ (∀ m : Nat, m < j → ns[m]? ≠ some y) ∧ Q A2 (.val (.int (j : Nat)))) : WE c (tIndexA c.K to t) A Q := fun F G m σ H S E Qc k =>
  .inl (h F G m σ H S E _ fun F1 m1 A1 v H1 x e1 p1 S1 R1 ⟨ds0, l0, q⟩ => by
    obtain ⟨a, vs, rfl, hs, rv⟩ := rep_ls S1 R1 l0
    refine ⟨.inl ⟨rfl, vs, hs⟩, q F1 G m1 σ H1 S1 (E.mono e1 p1) _ fun F2 m2 A2 ws H2 rs e2 p2 S2 R2 q2 => ?_⟩
    obtain ⟨ns, y, j, er, st, l2, hj, hn, q3⟩ := q2
    subst er
    obtain ⟨w, rfl, rw_⟩ := rs1 R2
    cases rw_
    obtain ⟨b, us, eb, hu, ru⟩ := rep_ls S2 (R1.stay e2 p2 st) l2
    cases eb
    rw [ru.ints] at hu
    refine ⟨a, _, .int y, j, .int y, rfl, rfl, hu, rfl, flat_intsV ns, by rw [List.getElem?_map, hj]; rfl, by rw [eqV_int]; simp, fun i z hi hz => ?_, k F2 m2 A2 _ H2 (.val (.int (j : Nat))) (e1.trans e2) (p1.trans p2) S2 (Rep.int _) q3⟩
    obtain ⟨n, h1, rfl⟩ := int_at hz
    rw [eqV_int]
    exact decide_eq_false fun z => hn i hi (z ▸ h1))
theorem we_indexT {t : TA} (h : WE c to A fun A1 x => ∃ (ns : List Int), x = .val (.tup (ns.map .int)) ∧ WAr c t A1 fun A2 rs => ∃ (y : Int) (j : Nat), rs = [.val (.int y)] ∧ ns[j]? = some y ∧ (∀ m : Nat, m < j → ns[m]? ≠ some y) ∧ Q A2 (.val (.int (j : Nat)))) : WE c (tIndexA c.K to t) A Q := fun F G m σ H S E Qc k =>
  .inr (h F G m σ H S E _ fun F1 m1 A1 v H1 x e1 p1 S1 R1 ⟨ns, ex, q⟩ => by
    subst ex
    cases R1 with
    | tup pt rv =>
      rename_i a vs
      have ev := rv.ints
      subst ev
      refine ⟨a, _, rfl, pt.mono S1.h.exF, q F1 G m1 σ H1 S1 (E.mono e1 p1) _ fun F2 m2 A2 ws H2 rs e2 p2 S2 R2 q2 => ?_⟩
      obtain ⟨y, j, er, hj, hn, q3⟩ := q2
      subst er
      obtain ⟨w, rfl, rw_⟩ := rs1 R2
      cases rw_
      refine ⟨.int y, j, .int y, (pt.mono e2).mono S2.h.exF, rfl, rfl, flat_intsV ns, by rw [List.getElem?_map, hj]; rfl, by rw [eqV_int]; simp, fun i z hi hz => ?_, k F2 m2 A2 _ H2 (.val (.int (j : Nat))) (e1.trans e2) (p1.trans p2) S2 (Rep.int _) q3⟩
      obtain ⟨n, h1, rfl⟩ := int_at hz
      rw [eqV_int]
      exact decide_eq_false fun z => hn i hi (z ▸ h1))
end
end AL

namespace AL
open PySem L2
section
variable {c : Ct} {A : AS} {te ta tb tl to : TE} {t u tt : TT} {x y : RV} {Q : QE} {B : EA}
/-! ### enumerate, zip -/
theorem Sim.tupNew {K : PySem.W.Frag} {F G : Hp} {m : List Addr} {A : AS} {σ : St} {H : Hp} (S : Sim K F G m A σ H) {p : Addr} {vs : List V} {ds : List D} (hp : H p = none) (r : Reps K F m vs ds) :
    ∃ F', Ex F F' ∧ Sim K F' G m A σ (upd H p (.tup vs)) ∧ Rep K F' m (.ref p) (.sct ds) :=
  have ex : Ex F (upd F p (.tup vs)) := ex_upd (S.h.fresh hp).1
  ⟨upd F p (.tup vs), ex, S.frz hp, .sct (.inl (.inl upd_same)) (r.mono ex (Pre.refl _))⟩
/-- place and item -/
def enumD (ds : List D) : List D := (List.range ds.length).map fun i => .sct [.int (i : Nat), ds.getD i .non]
theorem enumD_len (ds : List D) : (enumD ds).length = ds.length := by simp [enumD]
theorem getDx {α : Type} {xs : List α} {i : Nat} {d x : α} (h : xs[i]? = some x) : xs.getD i d = x := by simp [List.getD, h]
theorem enumD_at {ds : List D} {i : Nat} {d : D} (h : (enumD ds)[i]? = some d) : ∃ e, ds[i]? = some e ∧ d = .sct [.int (i : Nat), e] := by
  have hl := (List.getElem?_eq_some_iff.mp h).1
  rw [enumD_len] at hl
  unfold enumD at h
  rw [List.getElem?_map, List.getElem?_range hl] at h
  cases h
  exact ⟨_, List.getElem?_eq_getElem hl, by show D.sct [D.int (i : Nat), ds.getD i .non] = _; rw [getDx (List.getElem?_eq_getElem hl)]⟩
theorem real_eT {K : PySem.W.Frag} {F : Hp} {m : List Addr} {a : Addr} {vs : List V} {ds : List D} (h : SqT K F a vs) (r : Reps K F m vs ds) : Real K F m (IteT K a) (enumD ds) := fun F2 G m2 A2 σ H e p S i =>
  have hs : SqT K H a vs := Evl.ex_t S.h.exF (Evl.ex_t e h)
  ⟨fun d hd => by
    obtain ⟨e1, he, rfl⟩ := enumD_at hd
    obtain ⟨v, hv, rv⟩ := r.get he
    refine ⟨⟨vs, v, hs, hv⟩, fun x H' y => ?_⟩
    obtain ⟨T, v2, rfl, hT, rfl, y⟩ := y
    have e2 := y vs hs
    rw [hv] at e2; cases e2
    obtain ⟨F3, e3, S3, R3⟩ := S.tupNew hT (.cons (.int (i : Nat)) (.cons (rv.mono e p) .nil))
    exact ⟨F3, e3, S3, R3⟩, fun hl => ⟨vs, hs, by rw [r.len, ← enumD_len]; exact hl⟩⟩
theorem real_eL {K : PySem.W.Frag} {F : Hp} {m : List Addr} {a : Addr} {vs : List V} {ds : List D} (h : SqL K F a vs) (r : Reps K F m vs ds) : Real K F m (Ite K a) (enumD ds) := fun F2 G m2 A2 σ H e p S i =>
  have hs : SqL K H a vs := Evl.ex_l S.h.exF (Evl.ex_l e h)
  ⟨fun d hd => by
    obtain ⟨e1, he, rfl⟩ := enumD_at hd
    obtain ⟨v, hv, rv⟩ := r.get he
    refine ⟨⟨vs, v, hs, hv⟩, fun x H' y => ?_⟩
    obtain ⟨T, v2, rfl, hT, rfl, y⟩ := y
    have e2 := y vs hs
    rw [hv] at e2; cases e2
    obtain ⟨F3, e3, S3, R3⟩ := S.tupNew hT (.cons (.int (i : Nat)) (.cons (rv.mono e p) .nil))
    exact ⟨F3, e3, S3, R3⟩, fun hl => ⟨vs, hs, by rw [r.len, ← enumD_len]; exact hl⟩⟩
theorem wi_enumT {ta : TA} {Q : AS → List D → Prop} (h : WA c ta A fun A1 es => ∃ ds, (es = [.tup ds] ∨ es = [.sct ds]) ∧ Q A1 (enumD ds)) : WI c (iEnumA c.K ta) A Q := fun F G m σ H S E Rc k =>
  .inr (h F G m σ H S E _ fun F1 m1 A1 vs H1 es e1 p1 S1 R1 ⟨ds, ee, q⟩ => by
    rcases ee with rfl | rfl
    · cases R1 with
      | cons a r =>
        cases r
        cases a with
        | tup pt rv => exact ⟨_, _, rfl, Evl.ex_t S1.h.exF pt.seq, k F1 m1 A1 _ H1 _ e1 p1 S1 (real_eT pt.seq rv) q⟩
    · cases R1 with
      | cons a r =>
        cases r
        cases a with
        | sct pt rv => exact ⟨_, _, rfl, Evl.ex_t S1.h.exF pt, k F1 m1 A1 _ H1 _ e1 p1 S1 (real_eT pt rv) q⟩)
theorem wi_enumL {ta : TA} {Q : AS → List D → Prop} (h : WA c ta A fun A1 es => ∃ ds, es = [.lst ds] ∧ Q A1 (enumD ds)) : WI c (iEnumA c.K ta) A Q := fun F G m σ H S E Rc k =>
  .inl (h F G m σ H S E _ fun F1 m1 A1 vs H1 es e1 p1 S1 R1 ⟨ds, ee, q⟩ => by
    subst ee
    cases R1 with
    | cons a r =>
      cases r
      cases a with
      | lst pt rv => exact ⟨_, _, rfl, .inl (.inl (S1.h.exF _ _ pt)), k F1 m1 A1 _ H1 _ e1 p1 S1 (real_eL (.inl (.inl pt)) rv) q⟩)
/-- items beside one another -/
def zipD (ds es : List D) : List D := (List.range (min ds.length es.length)).map fun i => .sct [ds.getD i .non, es.getD i .non]
theorem zipD_len (ds es : List D) : (zipD ds es).length = min ds.length es.length := by simp [zipD]
theorem zipD_at {ds es : List D} {i : Nat} {d : D} (h : (zipD ds es)[i]? = some d) : ∃ a b, ds[i]? = some a ∧ es[i]? = some b ∧ d = .sct [a, b] := by
  have hl := (List.getElem?_eq_some_iff.mp h).1
  rw [zipD_len] at hl
  unfold zipD at h
  rw [List.getElem?_map, List.getElem?_range hl] at h
  cases h
  have h1 : i < ds.length := by omega
  have h2 : i < es.length := by omega
  exact ⟨_, _, List.getElem?_eq_getElem h1, List.getElem?_eq_getElem h2, by show D.sct [ds.getD i .non, es.getD i .non] = _; rw [getDx (List.getElem?_eq_getElem h1), getDx (List.getElem?_eq_getElem h2)]⟩
theorem real_zT {K : PySem.W.Frag} {F : Hp} {m : List Addr} {a b : Addr} {vs ws : List V} {ds es : List D} (h : SqT K F a vs) (r : Reps K F m vs ds) (h2 : SqT K F b ws) (r2 : Reps K F m ws es) : Real K F m (RZ.ItzT K a b) (zipD ds es) := fun F2 G m2 A2 σ H e p S i =>
  have hs : SqT K H a vs := Evl.ex_t S.h.exF (Evl.ex_t e h)
  have hs2 : SqT K H b ws := Evl.ex_t S.h.exF (Evl.ex_t e h2)
  ⟨fun d hd => by
    obtain ⟨d1, d2, z1, z2, rfl⟩ := zipD_at hd
    obtain ⟨v, hv, rv⟩ := r.get z1
    obtain ⟨w, hw, rw_⟩ := r2.get z2
    refine ⟨⟨vs, ws, v, w, hs, hs2, hv, hw⟩, fun x H' y => ?_⟩
    obtain ⟨T, v2, w2, rfl, hT, rfl, y1, y2⟩ := y
    have q1 := y1 vs hs
    rw [hv] at q1; cases q1
    have q2 := y2 ws hs2
    rw [hw] at q2; cases q2
    obtain ⟨F3, e3, S3, R3⟩ := S.tupNew hT (.cons (rv.mono e p) (.cons (rw_.mono e p) .nil))
    exact ⟨F3, e3, S3, R3⟩, fun hl => ⟨vs, ws, hs, hs2, by rw [zipD_len] at hl; rw [r.len, r2.len]; omega⟩⟩
theorem real_zM {K : PySem.W.Frag} {F : Hp} {m : List Addr} {a b : Addr} {vs ws : List V} {ds es : List D} (h : SqT K F a vs) (r : Reps K F m vs ds) (h2 : SqL K F b ws) (r2 : Reps K F m ws es) : Real K F m (ItM K a b) (zipD ds es) := fun F2 G m2 A2 σ H e p S i =>
  have hs : SqT K H a vs := Evl.ex_t S.h.exF (Evl.ex_t e h)
  have hs2 : SqL K H b ws := Evl.ex_l S.h.exF (Evl.ex_l e h2)
  ⟨fun d hd => by
    obtain ⟨d1, d2, z1, z2, rfl⟩ := zipD_at hd
    obtain ⟨v, hv, rv⟩ := r.get z1
    obtain ⟨w, hw, rw_⟩ := r2.get z2
    refine ⟨⟨vs, ws, v, w, hs, hs2, hv, hw⟩, fun x H' y => ?_⟩
    obtain ⟨T, v2, w2, rfl, hT, rfl, y1, y2⟩ := y
    have q1 := y1 vs hs
    rw [hv] at q1; cases q1
    have q2 := y2 ws hs2
    rw [hw] at q2; cases q2
    obtain ⟨F3, e3, S3, R3⟩ := S.tupNew hT (.cons (rv.mono e p) (.cons (rw_.mono e p) .nil))
    exact ⟨F3, e3, S3, R3⟩, fun hl => ⟨vs, ws, hs, hs2, by rw [zipD_len] at hl; rw [r.len, r2.len]; omega⟩⟩
theorem wi_zipT {ta : TA} {Q : AS → List D → Prop} (h : WA c ta A fun A1 xs => ∃ ds es, xs = [.tup ds, .tup es] ∧ Q A1 (zipD ds es)) : WI c (iZipAA c.K ta) A Q := fun F G m σ H S E Rc k =>
  .inl (h F G m σ H S E _ fun F1 m1 A1 vs H1 xs e1 p1 S1 R1 ⟨ds, es, ee, q⟩ => by
    subst ee
    cases R1 with
    | cons a r =>
      cases r with
      | cons b r =>
        cases r
        cases a with
        | tup pt rv => cases b with
          | tup pt2 rv2 => exact ⟨_, _, _, _, rfl, .inr ⟨Evl.ex_t S1.h.exF pt.seq, Evl.ex_t S1.h.exF pt2.seq, k F1 m1 A1 _ H1 _ e1 p1 S1 (real_zT pt.seq rv pt2.seq rv2) q⟩⟩)
theorem wi_zipM {ta : TA} {Q : AS → List D → Prop} (h : WA c ta A fun A1 xs => ∃ ds es, xs = [.tup ds, .lst es] ∧ Q A1 (zipD ds es)) : WI c (iZipAA c.K ta) A Q := fun F G m σ H S E Rc k =>
  .inr (h F G m σ H S E _ fun F1 m1 A1 vs H1 xs e1 p1 S1 R1 ⟨ds, es, ee, q⟩ => by
    subst ee
    cases R1 with
    | cons a r =>
      cases r with
      | cons b r =>
        cases r
        cases a with
        | tup pt rv => cases b with
          | lst pt2 rv2 => exact ⟨_, _, _, _, rfl, Evl.ex_t S1.h.exF pt.seq, .inl (.inl (S1.h.exF _ _ pt2)), k F1 m1 A1 _ H1 _ e1 p1 S1 (real_zM pt.seq rv (.inl (.inl pt2)) rv2) q⟩)
/-! ### instances -/
/-- the class and the attributes of an instance, frozen or a cell -/
def insOf (A : AS) : RV → Option (Addr × List (Str × D))
  | .val (.obj C fs) => some (C, fs)
  | .val (.ptr n) => match A.o[n]? with
    | some (.ins C fs) => some (C, fs)
    | _ => none
  | _ => none
theorem rep_ins {K : PySem.W.Frag} {F G : Hp} {m : List Addr} {σ : St} {H : Hp} {v : V} {C : Addr} {fs : List (Str × D)} (S : Sim K F G m A σ H) (R : RepR K F m A σ v x) (h : insOf A x = some (C, fs)) : ∃ a dx fv, v = .ref a ∧ H a = some (.ins C dx fv) ∧ RepF K F m fv fs := by
  cases x with
  | slot i => simp [insOf] at h
  | val d =>
    cases d with
    | obj C' gs => cases h; cases R with | obj e r => exact ⟨_, _, _, rfl, S.h.exF _ _ e, r⟩
    | ptr n =>
      cases R with
      | ptr e =>
        simp only [insOf] at h
        split at h
        · rename_i C' gs eo
          cases h
          obtain ⟨_, _, dx, fv, hv, rv⟩ := S.h.cell n _ _ e eo trivial
          exact ⟨_, dx, fv, rfl, hv, rv⟩
        · cases h
    | _ => simp [insOf] at h
theorem we_fld {f : Str} (h : WE c ta A fun A1 x => ∃ C fs d, insOf A1 x = some (C, fs) ∧ Cls c.K C ∧ NoAttr c.K C f ∧ fs.lookup f = some d ∧ Q A1 (.val d)) : WE c (tFld c.K ta f) A Q := fun F G m σ H S E Qc k =>
  h F G m σ H S E _ fun F1 m1 A1 v H1 x e1 p1 S1 R1 ⟨C, fs, d, hi, hC, hn, hl, q⟩ => by
    obtain ⟨a, dx, fv, rfl, hv, rf⟩ := rep_ins S1 R1 hi
    obtain ⟨w, hw, rw_⟩ := rf.look hl
    exact ⟨a, C, dx, fv, w, rfl, hv, hC, hn, hw, k F1 m1 A1 w H1 (.val d) e1 p1 S1 rw_ q⟩
/-- self.f = e, self a cell -/
theorem ws_fld {f : Str} {nx bk ct : AS → Prop} {rt : List Cell → D → Prop} (h : WE c te A fun A1 r => Frz A1 r fun A2 d => WE c ta A2 fun A3 x => ∃ n C fs, x = .val (.ptr n) ∧ A3.o[n]? = some (.ins C fs) ∧ Cls c.K C ∧ NoAttr c.K C f ∧ fs.length < 900 ∧ nx ⟨A3.s, A3.o.set n (.ins C (putD f d fs))⟩) :
    WS c (sFld c.K ta te f) A ⟨nx, rt, bk, ct⟩ := fun F G m σ H S E Dc k => (WE.frz h) F G m σ H S E _ fun F1 m1 A1 v H1 r e1 p1 S1 R1 ⟨d, er, q⟩ => by
  subst er
  refine q F1 G m1 σ H1 S1 (E.mono e1 p1) _ fun F2 m2 A2 w H2 x e2 p2 S2 R2 q2 => ?_
  obtain ⟨n, C, fs, ex, eo, hC, hn, hl, q3⟩ := q2
  subst ex
  cases R2 with
  | ptr em =>
    obtain ⟨f0, g0, dx, fv, hv, rv⟩ := S2.h.cell n _ _ em eo trivial
    have R1' : Rep c.K F2 m2 v d := Rep.mono e2 p2 R1
    refine ⟨_, C, dx, fv, rfl, hv, hC, hn, by rw [rv.len]; omega, k.nx F2 m2 ⟨A2.s, A2.o.set n (.ins C (putD f d fs))⟩ σ _ (e1.trans e2) (p1.trans p2) ⟨S2.h.cset (c' := .ins C (putD f d fs)) em eo trivial trivial ⟨dx, _, upd_same, rv.put R1'⟩, S2.s.go (Evl.Ex.refl _) (Pre.refl _) fun i z a y1 y2 => ?_⟩ q3⟩
    obtain ⟨b, qb, l, f', g', mm, cc⟩ := S2.s.ownAt y1
    rw [y2] at qb; cases qb
    exact ⟨f', mm, upd_ne fun z => mm n (by rw [z]; exact em)⟩
/-- a method of an instance -/
theorem we_meth {C : Addr} {mm : Str} {Φ : Contract} {E : XK} {t : TA} (h : WE c ta A fun A1 x => ∃ d fs, x = .val d ∧ insOf A1 (.val d) = some (C, fs) ∧ fs.lookup mm = none ∧ WA c t A1 fun A2 ds => Φ (d :: ds) A2.o (fun O' e => Q ⟨A2.s, O'⟩ (.val e)) (fun _ _ _ => False)) :
    WE c (tMeth C mm (SpA c.K Φ) [] E ta t) A Q := fun F G m σ H S Eo Qc k => h F G m σ H S Eo _ fun F1 m1 A1 v H1 x e1 p1 S1 R1 ⟨d, fs, ex, hi, hl, q⟩ => by
  subst ex
  obtain ⟨a, dx, fv, rfl, hv, rf⟩ := rep_ins S1 R1 hi
  refine ⟨a, dx, fv, rfl, hv, rf.look0 hl, q F1 G m1 σ H1 S1 (Eo.mono e1 p1) _ fun F2 m2 A2 vs H2 ds e2 p2 S2 R2 q2 => ?_⟩
  refine ⟨F2, callG A2.s σ G H2, m2, A2.o, d :: ds, _, _, S2.call, .cons (Rep.mono e2 p2 R1) (by simpa using R2), q2, fun F' m' O' w e H' e3 p3 hs r rr => k F' m' ⟨A2.s, O'⟩ w H' (.val e) ((e1.trans e2).trans e3) ((p1.trans p2).trans p3) (S2.back e3 p3 hs) r rr, fun F' m' O' C dx fvs fs H' e p hs fx rf xx => xx.elim⟩
/-- a method that may raise -/
theorem we_methX {C : Addr} {mm : Str} {Φ : Contract} {E : XK} {t : TA} (hE : ∀ σ, c.E σ = E) (h : WE c ta A fun A1 x => ∃ d fs, x = .val d ∧ insOf A1 (.val d) = some (C, fs) ∧ fs.lookup mm = none ∧ WA c t A1 fun A2 ds => Φ (d :: ds) A2.o (fun O' e => Q ⟨A2.s, O'⟩ (.val e)) (fun O' C fs => c.X ⟨A2.s, O'⟩ C fs)) :
    WE c (tMeth C mm (SpA c.K Φ) [] E ta t) A Q := fun F G m σ H S Eo Qc k => h F G m σ H S Eo _ fun F1 m1 A1 v H1 x e1 p1 S1 R1 ⟨d, fs, ex, hi, hl, q⟩ => by
  subst ex
  obtain ⟨a, dx, fv, rfl, hv, rf⟩ := rep_ins S1 R1 hi
  refine ⟨a, dx, fv, rfl, hv, rf.look0 hl, q F1 G m1 σ H1 S1 (Eo.mono e1 p1) _ fun F2 m2 A2 vs H2 ds e2 p2 S2 R2 q2 => ?_⟩
  refine ⟨F2, callG A2.s σ G H2, m2, A2.o, d :: ds, _, _, S2.call, .cons (Rep.mono e2 p2 R1) (by simpa using R2), q2, fun F' m' O' w e H' e3 p3 hs r rr => k F' m' ⟨A2.s, O'⟩ w H' (.val e) ((e1.trans e2).trans e3) ((p1.trans p2).trans p3) (S2.back e3 p3 hs) r rr, fun F' m' O' C dx fvs fs H' e p hs fx rf xx => ?_⟩
  have z := Eo.x F' m' ⟨A2.s, O'⟩ σ H' C dx fvs fs ((e1.trans e2).trans e) ((p1.trans p2).trans p) (S2.back e p hs) fx rf xx
  rw [hE] at z; exact z
/-- a property -/
theorem we_prop {C : Addr} {Φ : Contract} {E : XK} (h : WE c ta A fun A1 x => ∃ d fs, x = .val d ∧ insOf A1 (.val d) = some (C, fs) ∧ Φ [d] A1.o (fun O' e => Q ⟨A1.s, O'⟩ (.val e)) (fun _ _ _ => False)) :
    WE c (tProp C (SpA c.K Φ) [] E ta) A Q := fun F G m σ H S Eo Qc k => h F G m σ H S Eo _ fun F1 m1 A1 v H1 x e1 p1 S1 R1 ⟨d, fs, ex, hi, q⟩ => by
  subst ex
  obtain ⟨a, dx, fv, rfl, hv, rf⟩ := rep_ins S1 R1 hi
  exact ⟨a, dx, fv, rfl, hv, F1, callG A1.s σ G H1, m1, A1.o, [d], _, _, S1.call, .cons R1 .nil, q, fun F' m' O' w e H' e3 p3 hs r rr => k F' m' ⟨A1.s, O'⟩ w H' (.val e) (e1.trans e3) (p1.trans p3) (S1.back e3 p3 hs) r rr, fun F' m' O' C dx fvs fs H' e p hs fx rf xx => xx.elim⟩
/-- the heap with a new instance as a cell -/
theorem Sim.insNew {K : PySem.W.Frag} {F G : Hp} {m : List Addr} {σ : St} {H : Hp} {p dx C : Addr} (S : Sim K F G m A σ H) (hp : H p = none) (hd : H dx = none) (n : dx ≠ p) : Sim K (upd F dx (.own p)) G (m ++ [p]) ⟨A.s, A.o ++ [.ins C []]⟩ σ (upd (upd H dx (.own p)) p (.ins C dx [])) := by
  have S1 := S.frz (o := .own p) hd
  have hp1 : upd H dx (.own p) p = none := by rw [upd_ne (Ne.symm n)]; exact hp
  refine ⟨S1.h.cnew (c := .ins C []) hp1 trivial ⟨dx, [], upd_same, .nil⟩, S1.s.go (Evl.Ex.refl _) Pre.app fun i z a y1 y2 => ?_⟩
  obtain ⟨b, qb, l, f', g', mm, cc⟩ := S1.s.ownAt y1
  rw [y2] at qb; cases qb
  have np := cc.ne l hp1
  refine ⟨f', fun k e => ?_, upd_ne np⟩
  by_cases y : k < m.length
  · rw [List.getElem?_append_left y] at e; exact mm k e
  · have hl := (List.getElem?_eq_some_iff.mp e).1
    rw [List.length_append] at hl
    have ek : k = m.length := by simp only [List.length_cons, List.length_nil] at hl; omega
    subst ek
    rw [List.getElem?_append_right (Nat.le_refl _), Nat.sub_self] at e
    cases e; exact np rfl
theorem Ex.own {F : Hp} {dx p : Addr} (h : F dx = none) : Ex F (upd F dx (.own p)) := ex_upd h
/-- C(..): the instance is a cell -/
theorem we_make {C : Addr} {Φ : Contract} {E : XK} {t : TA} (h : WA c t A fun A1 ds => Φ (.ptr A1.o.length :: ds) (A1.o ++ [.ins C []]) (fun O' d => d = .non ∧ Q ⟨A1.s, O'⟩ (.val (.ptr A1.o.length))) (fun _ _ _ => False)) : WE c (tMake C (SpA c.K Φ) [] E t) A Q := fun F G m σ H S Eo Qc k =>
  h F G m σ H S Eo _ fun F1 m1 A1 vs H1 ds e1 p1 S1 R1 q => by
    intro p dx hp hd n
    have S2 := S1.insNew (C := C) hp hd n
    have ex : Ex F1 (upd F1 dx (.own p)) := ex_upd (S1.h.fresh hd).1
    have pr : Pre m1 (m1 ++ [p]) := Pre.app
    have gp : (m1 ++ [p])[A1.o.length]? = some p := by rw [← S1.h.len, List.getElem?_append_right (Nat.le_refl _), Nat.sub_self]; rfl
    refine ⟨upd F1 dx (.own p), _, m1 ++ [p], A1.o ++ [.ins C []], .ptr A1.o.length :: ds, _, _, S2.call, .cons (.ptr gp) (by simpa using R1.mono ex pr), q, fun F' m' O' w d H' e3 p3 hs r rr => ?_, fun F' m' O' C dx fvs fs H' e p hs fx rf xx => xx.elim⟩
    obtain ⟨ed, rr⟩ := rr
    subst ed
    cases r
    exact ⟨rfl, k F' m' ⟨A1.s, O'⟩ _ H' (.val (.ptr A1.o.length)) ((e1.trans ex).trans e3) ((p1.trans pr).trans p3) (S2.back e3 p3 hs) (show Rep c.K F' m' _ _ from .ptr (p3 _ _ gp)) rr⟩
/-- an instance that is a cell becomes data -/
theorem Sim.insFrz {K : PySem.W.Frag} {F G : Hp} {m : List Addr} {σ : St} {H : Hp} {n : Nat} {C p : Addr} {fs : List (Str × D)} (S : Sim K F G m A σ H) (hm : m[n]? = some p) (ho : A.o[n]? = some (.ins C fs)) : ∃ F', Ex F F' ∧ Sim K F' G m ⟨A.s, A.o.set n .gone⟩ σ H ∧ Rep K F' m (.ref p) (.obj C fs) := by
  obtain ⟨f0, g0, dx, fv, hv, rv⟩ := S.h.cell n _ _ hm ho trivial
  have ex : Ex F (upd F p (.ins C dx fv)) := ex_upd f0
  refine ⟨upd F p (.ins C dx fv), ex, ⟨⟨fun a u e => ?_, S.h.exG, fun a u e => ?_, by rw [List.length_set]; exact S.h.len, fun i a d e1 e2 l => ?_, S.h.inj, S.h.here, S.h.mG, fun i a e1 e2 => ?_⟩, S.s.go ex (Pre.refl _) fun i z a y1 y2 => ?_⟩, .obj upd_same (rv.mono ex (Pre.refl _))⟩
  · by_cases z : a = p
    · subst z; rw [upd_same] at e; cases e; exact hv
    · rw [upd_ne z] at e; exact S.h.exF _ _ e
  · by_cases z : a = p
    · subst z; exact g0
    · rw [upd_ne z] at e; exact S.h.dj _ _ e
  · by_cases z : i = n
    · subst z
      rw [List.getElem?_set_self (List.getElem?_eq_some_iff.mp ho).1] at e2
      cases e2; exact l.elim
    · rw [List.getElem?_set_ne (Ne.symm z)] at e2
      obtain ⟨x1, x2, x3⟩ := S.h.cell i a d e1 e2 l
      have np : a ≠ p := fun y => z (S.h.inj i n p (y ▸ e1) hm)
      exact ⟨by rw [upd_ne np]; exact x1, x2, x3.mono ex (Pre.refl _) rfl⟩
  · by_cases z : i = n
    · subst z
      rw [hm] at e1; cases e1
      exact ⟨C, dx, fv, upd_same⟩
    · rw [List.getElem?_set_ne (Ne.symm z)] at e2
      obtain ⟨C', dx', fv', q⟩ := S.h.gn i a e1 e2
      exact ⟨C', dx', fv', ex _ _ q⟩
  · obtain ⟨b, qb, l, f', g', mm, cc⟩ := S.s.ownAt y1
    rw [y2] at qb; cases qb
    exact ⟨by rw [upd_ne (fun y => mm n (by rw [y]; exact hm))]; exact f', mm, rfl⟩
/-- C(..): the instance never changes from now on -/
theorem we_makeF {C : Addr} {Φ : Contract} {E : XK} {t : TA} (h : WA c t A fun A1 ds => Φ (.ptr A1.o.length :: ds) (A1.o ++ [.ins C []]) (fun O' d => d = .non ∧ ∃ fs, O'[A1.o.length]? = some (.ins C fs) ∧ Q ⟨A1.s, O'.set A1.o.length .gone⟩ (.val (.obj C fs))) (fun _ _ _ => False)) : WE c (tMake C (SpA c.K Φ) [] E t) A Q := fun F G m σ H S Eo Qc k =>
  h F G m σ H S Eo _ fun F1 m1 A1 vs H1 ds e1 p1 S1 R1 q => by
    intro p dx hp hd n
    have S2 := S1.insNew (C := C) hp hd n
    have ex : Ex F1 (upd F1 dx (.own p)) := ex_upd (S1.h.fresh hd).1
    have pr : Pre m1 (m1 ++ [p]) := Pre.app
    have gp : (m1 ++ [p])[A1.o.length]? = some p := by rw [← S1.h.len, List.getElem?_append_right (Nat.le_refl _), Nat.sub_self]; rfl
    refine ⟨upd F1 dx (.own p), _, m1 ++ [p], A1.o ++ [.ins C []], .ptr A1.o.length :: ds, _, _, S2.call, .cons (.ptr gp) (by simpa using R1.mono ex pr), q, fun F' m' O' w d H' e3 p3 hs r rr => ?_, fun F' m' O' C dx fvs fs H' e p hs fx rf xx => xx.elim⟩
    obtain ⟨ed, fs, eo, rr⟩ := rr
    subst ed
    cases r
    obtain ⟨F4, e4, S4, R4⟩ := (S2.back e3 p3 hs).insFrz (p3 _ _ gp) eo
    exact ⟨rfl, k F4 m' _ _ H' (.val (.obj C fs)) (((e1.trans ex).trans e3).trans e4) ((p1.trans pr).trans p3) S4 R4 rr⟩
/-! ### in, not in: flat things -/
def flatD : D → Bool
  | .non | .bl _ | .int _ | .str _ => true
  | _ => false
theorem flatD_ok {K : PySem.W.Frag} {F : Hp} {m : List Addr} {v : V} {d : D} (R : Rep K F m v d) (h : flatD d = true) : flatV v = true := by cases R <;> first | rfl | simp [flatD] at h
theorem reps_flat {K : PySem.W.Frag} {F : Hp} {m : List Addr} : ∀ {vs : List V} {ds : List D}, Reps K F m vs ds → ds.all flatD = true → vs.all flatV = true
  | _, _, .nil, _ => rfl
  | _, _, .cons a r, h => by
    rw [List.all_cons, Bool.and_eq_true] at h ⊢
    exact ⟨flatD_ok a h.1, reps_flat r h.2⟩
theorem all_flat_ints (ns : List Int) : (ns.map D.int).all flatD = true := by rw [List.all_map]; exact List.all_eq_true.mpr fun _ _ => rfl
theorem inV_ints (i : Int) (ns : List Int) : inV (.int i) (ns.map .int) = decide (i ∈ ns) := by
  unfold inV
  rw [List.any_map]
  induction ns with
  | nil => simp
  | cons n ns ih =>
    rw [List.any_cons, ih]
    show (eqV (.int n) (.int i) || _) = _
    rw [eqV_int]
    by_cases h : n = i
    · subst h; simp
    · have h' : ¬ i = n := fun z => h z.symm
      simp [h, h']
/-- i in a row of ints -/
theorem od_inI {i : Int} {ns : List Int} {d : D} (hd : d = .lst (ns.map .int) ∨ d = .tup (ns.map .int) ∨ d = .sct (ns.map .int)) (q : Q A (.val (.bl (decide (i ∈ ns))))) : OpD c (rInA c.K) (.val (.int i)) (.val d) A Q := fun F G m σ H v w S E R1 R2 Qc k => by
  cases R1
  have go : ∀ (p : Addr), SqL c.K H p (ns.map V.int) ∨ SqT c.K H p (ns.map V.int) → rInA c.K (.int i) (.ref p) H Qc := fun p hp => by
    refine ⟨p, _, rfl, hp, rfl, flat_intsV ns, ?_⟩
    show Qc (.bl (inV (.int i) (ns.map V.int))) H
    rw [inV_ints]
    exact k F m A _ H (.val (.bl _)) (Evl.Ex.refl F) (Pre.refl m) S (Rep.bl _) q
  rcases hd with rfl | rfl | rfl
  · cases R2 with | lst e r => rw [r.ints] at e; exact go _ (.inl (.inl (.inl (S.h.exF _ _ e))))
  · cases R2 with | tup e r => rw [r.ints] at e; exact go _ (.inr (Evl.ex_t S.h.exF e.seq))
  · cases R2 with | sct e r => rw [r.ints] at e; exact go _ (.inr (Evl.ex_t S.h.exF e))
theorem od_ninI {i : Int} {ns : List Int} {d : D} (hd : d = .lst (ns.map .int) ∨ d = .tup (ns.map .int) ∨ d = .sct (ns.map .int)) (q : Q A (.val (.bl (!decide (i ∈ ns))))) : OpD c (rNinA c.K) (.val (.int i)) (.val d) A Q := fun F G m σ H v w S E R1 R2 Qc k => by
  cases R1
  have go : ∀ (p : Addr), SqL c.K H p (ns.map V.int) ∨ SqT c.K H p (ns.map V.int) → rNinA c.K (.int i) (.ref p) H Qc := fun p hp => by
    refine ⟨p, _, rfl, hp, rfl, flat_intsV ns, ?_⟩
    show Qc (.bl (!inV (.int i) (ns.map V.int))) H
    rw [inV_ints]
    exact k F m A _ H (.val (.bl _)) (Evl.Ex.refl F) (Pre.refl m) S (Rep.bl _) q
  rcases hd with rfl | rfl | rfl
  · cases R2 with | lst e r => rw [r.ints] at e; exact go _ (.inl (.inl (.inl (S.h.exF _ _ e))))
  · cases R2 with | tup e r => rw [r.ints] at e; exact go _ (.inr (Evl.ex_t S.h.exF e.seq))
  · cases R2 with | sct e r => rw [r.ints] at e; exact go _ (.inr (Evl.ex_t S.h.exF e))
/-- a row of ints that the top has written -/
theorem we_top {v : V} {ns : List Int} (h : ∃ a, v = .ref a ∧ SqT c.K (fun _ => none) a (ns.map V.int)) (q : Q A (.val (.sct (ns.map .int)))) : WE c (tC v) A Q := by
  obtain ⟨a, rfl, hs⟩ := h
  have ht : ∀ F : Hp, SqT c.K F a (ns.map V.int) := fun F => by
    rcases hs with h | h
    · rcases h with h | ⟨o, h⟩ <;> cases h
    · exact .inr h
  exact we_C (fun F m => .sct (ht F) (reps_ints ns)) q
/-! ### the chain a <= b <= c of ints -/
theorem we_chain {r r' : R2} {tc : TE} (h : WE c ta A fun A1 x => WE c tb A1 fun A2 y => Stays A1 A2 x ∧ OpD c r x y A2 fun A3 z => ∃ b, z = .val (.bl b) ∧ Stays A2 A3 y ∧ (b = true → WE c tc A3 fun A4 w => Stays A3 A4 y ∧ OpD c r' y w A4 Q) ∧ (b = false → Q A3 (.val (.bl false)))) : WE c (tChain r r' ta tb tc) A Q := fun F G m σ H S E Qc k =>
  h F G m σ H S E _ fun F1 m1 A1 v H1 x e1 p1 S1 R1 q1 => q1 F1 G m1 σ H1 S1 (E.mono e1 p1) _ fun F2 m2 A2 w H2 y e2 p2 S2 R2 q2 =>
    q2.2 F2 G m2 σ H2 v w S2 (E.mono (e1.trans e2) (p1.trans p2)) (R1.stay e2 p2 q2.1) R2 _ fun F3 m3 A3 z H3 rz e3 p3 S3 R3 ⟨b, ez, st, qt, qf⟩ => by
      subst ez
      cases R3
      refine ⟨b, rfl, ?_⟩
      cases b with
      | false => exact k F3 m3 A3 _ H3 (.val (.bl false)) ((e1.trans e2).trans e3) ((p1.trans p2).trans p3) S3 (Rep.bl false) (qf rfl)
      | true =>
        show tc σ H3 _
        have R2' := R2.stay e3 p3 st
        exact qt rfl F3 G m3 σ H3 S3 (E.mono ((e1.trans e2).trans e3) ((p1.trans p2).trans p3)) _ fun F4 m4 A4 u H4 ru e4 p4 S4 R4 q4 =>
          q4.2 F4 G m4 σ H4 w u S4 (E.mono (((e1.trans e2).trans e3).trans e4) (((p1.trans p2).trans p3).trans p4)) (R2'.stay e4 p4 q4.1) R4 Qc fun F5 m5 A5 v5 H5 r5 e5 p5 S5 R5 q5 =>
            k F5 m5 A5 v5 H5 r5 ((((e1.trans e2).trans e3).trans e4).trans e5) ((((p1.trans p2).trans p3).trans p4).trans p5) S5 R5 q5
end
end AL

namespace AL
open PySem L2
/-! ### a call that reads own lists and hands back no list -/
mutual
inductive NoLst : D → Prop where
  | non : NoLst .non
  | bl (b : Bool) : NoLst (.bl b)
  | int (i : Int) : NoLst (.int i)
  | str (x : Str) : NoLst (.str x)
  | tup {ds : List D} : NoLsts ds → NoLst (.tup ds)
  | sct {ds : List D} : NoLsts ds → NoLst (.sct ds)
  | ptr (n : Nat) : NoLst (.ptr n)
  | obj {C : Addr} {fs : List (Str × D)} : NoLstF fs → NoLst (.obj C fs)
  | cls (a : Addr) : NoLst (.cls a)
  | ty (n : String) : NoLst (.ty n)
inductive NoLsts : List D → Prop where
  | nil : NoLsts []
  | cons {d : D} {ds : List D} : NoLst d → NoLsts ds → NoLsts (d :: ds)
inductive NoLstF : List (Str × D) → Prop where
  | nil : NoLstF []
  | cons {f : Str} {d : D} {ds : List (Str × D)} : NoLst d → NoLstF ds → NoLstF ((f, d) :: ds)
end
theorem noLsts_map {α : Type} {f : α → D} (h : ∀ a, NoLst (f a)) : ∀ xs : List α, NoLsts (xs.map f)
  | [] => .nil
  | x :: xs => .cons (h x) (noLsts_map h xs)
theorem noLsts_ints (ns : List Int) : NoLsts (ns.map .int) := noLsts_map (fun n => .int n) ns
inductive NoLstC : Cell → Prop where
  | gone : NoLstC .gone
  | lst {ds : List D} : NoLsts ds → NoLstC (.lst ds)
  | ins {C : Addr} {fs : List (Str × D)} : NoLstF fs → NoLstC (.ins C fs)
  | dT {kvs : List (List Int × D)} : (∀ x ∈ kvs, NoLst x.2) → NoLstC (.dT kvs)
  | dN {kvs : List (NKey × D)} : (∀ x ∈ kvs, NoLst x.2) → NoLstC (.dN kvs)
  | dK {kvs : List (Key × D)} : (∀ x ∈ kvs, NoLst x.2) → NoLstC (.dK kvs)
def NoLstO (O : List Cell) : Prop := ∀ c ∈ O, NoLstC c
theorem NoLstO.nil : NoLstO [] := fun c h => nomatch h
theorem NoLstO.app {O : List Cell} {c : Cell} (h : NoLstO O) (hc : NoLstC c) : NoLstO (O ++ [c]) := fun x hx => by
  rcases List.mem_append.mp hx with z | z
  · exact h x z
  · rw [List.mem_singleton] at z; subst z; exact hc
def OwnL (s : List (Option SV)) (σ : St) (a : Addr) : Prop := ∃ (i : Nat) (ds : List D), s[i]? = some (some (.own (.lst ds))) ∧ σ[i]? = some (some (.ref a))
section
variable {K : PySem.W.Frag} {F G : Hp} {m : List Addr} {A : AS} {σ : St} {H : Hp}
open Classical in
noncomputable def lendF (s : List (Option SV)) (σ : St) (F H : Hp) : Hp := fun a => if OwnL s σ a then H a else F a
open Classical in
noncomputable def lendG (s : List (Option SV)) (σ : St) (G H : Hp) : Hp := fun a => if IsOwn s σ a ∧ ¬ OwnL s σ a then H a else G a
open Classical in
noncomputable def takeF (s : List (Option SV)) (σ : St) (F : Hp) : Hp := fun a => if OwnL s σ a then none else F a
theorem lendF_y {s : List (Option SV)} {a : Addr} (h : OwnL s σ a) : lendF s σ F H a = H a := by unfold lendF; rw [if_pos h]
theorem lendF_n {s : List (Option SV)} {a : Addr} (h : ¬ OwnL s σ a) : lendF s σ F H a = F a := by unfold lendF; rw [if_neg h]
theorem takeF_y {s : List (Option SV)} {a : Addr} (h : OwnL s σ a) : takeF s σ F a = none := by unfold takeF; rw [if_pos h]
theorem takeF_n {s : List (Option SV)} {a : Addr} (h : ¬ OwnL s σ a) : takeF s σ F a = F a := by unfold takeF; rw [if_neg h]
theorem lendG_n {s : List (Option SV)} {a : Addr} (h : ¬ IsOwn s σ a) : lendG s σ G H a = G a := by unfold lendG; rw [if_neg fun z => h z.1]
theorem lendG_l {s : List (Option SV)} {a : Addr} (h : OwnL s σ a) : lendG s σ G H a = G a := by unfold lendG; rw [if_neg fun z => z.2 h]
theorem lendG_o {s : List (Option SV)} {a : Addr} (h : IsOwn s σ a) (h2 : ¬ OwnL s σ a) : lendG s σ G H a = H a := by unfold lendG; rw [if_pos ⟨h, h2⟩]
theorem OwnL.own {s : List (Option SV)} {a : Addr} (h : OwnL s σ a) : IsOwn s σ a := let ⟨i, ds, h1, h2⟩ := h; ⟨i, .lst ds, h1, h2⟩
theorem lend_ex (S : Sim K F G m A σ H) : Ex F (lendF A.s σ F H) := fun a o e => by
  have no : ¬ OwnL A.s σ a := fun z => by rw [(S.s.isOwn z.own).1] at e; cases e
  rw [lendF_n no]; exact e
theorem Sim.lend (S : Sim K F G m A σ H) : HS K (lendF A.s σ F H) (lendG A.s σ G H) m A.o H where
  exF := fun a o e => by
    by_cases z : OwnL A.s σ a
    · rw [lendF_y z] at e; exact e
    · rw [lendF_n z] at e; exact S.h.exF _ _ e
  exG := fun a o e => by
    by_cases y : IsOwn A.s σ a
    · by_cases z : OwnL A.s σ a
      · rw [lendG_l z, (S.s.isOwn y).2.1] at e; cases e
      · rw [lendG_o y z] at e; exact e
    · rw [lendG_n y] at e; exact S.h.exG _ _ e
  dj := fun a o e => by
    by_cases z : OwnL A.s σ a
    · rw [lendG_l z]; exact (S.s.isOwn z.own).2.1
    · rw [lendF_n z] at e
      have no : ¬ IsOwn A.s σ a := fun y => by rw [(S.s.isOwn y).1] at e; cases e
      rw [lendG_n no]; exact S.h.dj _ _ e
  len := S.h.len
  cell := fun n a c e1 e2 l => by
    obtain ⟨x1, x2, x3⟩ := S.h.cell n a c e1 e2 l
    have no : ¬ IsOwn A.s σ a := fun y => absurd e1 ((S.s.isOwn y).2.2.1 n)
    exact ⟨by rw [lendF_n (fun z => no z.own)]; exact x1, by rw [lendG_n no]; exact x2, x3.mono (lend_ex S) (Pre.refl _) rfl⟩
  inj := S.h.inj
  here := S.h.here
  mG := fun n a e => by
    have no : ¬ IsOwn A.s σ a := fun y => absurd e ((S.s.isOwn y).2.2.1 n)
    rw [lendG_n no]; exact S.h.mG n a e
  gn := fun n a e1 e2 => by
    obtain ⟨C, dx, fv, y⟩ := S.h.gn n a e1 e2
    exact ⟨C, dx, fv, lend_ex S a _ y⟩
/-- the own lists' addresses hold lists still -/
theorem own_lst (S : Sim K F G m A σ H) {F' : Hp} (e : Ex (lendF A.s σ F H) F') {a : Addr} (z : OwnL A.s σ a) : ∃ vs, F' a = some (.lst vs) ∧ H a = some (.lst vs) := by
  obtain ⟨i, ds, h1, h2⟩ := id z
  obtain ⟨b, q, _, _, _, _, vs, hv, _⟩ := S.s.ownAt h1
  rw [h2] at q; cases q
  exact ⟨vs, e a _ (by rw [lendF_y z]; exact hv), hv⟩
mutual
theorem Rep.less (no : ∀ a, OwnL A.s σ a → ∃ vs, F a = some (.lst vs)) : ∀ {v : V} {d : D}, Rep K F m v d → NoLst d → Rep K (takeF A.s σ F) m v d
  | _, _, .non, _ => .non
  | _, _, .bl b, _ => .bl b
  | _, _, .int i, _ => .int i
  | _, _, .str x, _ => .str x
  | _, _, .lst _ _, h => by cases h
  | _, _, .scr _ _, h => by cases h
  | _, _, .tup pt r, h => .tup (by
      rcases pt with ⟨its, e⟩ | pt
      · refine .inl ⟨its, ?_⟩
        rw [takeF_n fun z => by obtain ⟨vs, q⟩ := no _ z; rw [q] at e; cases e]; exact e
      · exact .inr pt) (Reps.less no r (by cases h; assumption))
  | _, _, .sct pt r, h => .sct (by
      rcases pt with (e | ⟨o, e⟩) | e
      · exact .inl (.inl (by rw [takeF_n fun z => by obtain ⟨vs, q⟩ := no _ z; rw [q] at e; cases e]; exact e))
      · exact .inl (.inr ⟨o, by rw [takeF_n fun z => by obtain ⟨vs, q⟩ := no _ z; rw [q] at e; cases e]; exact e⟩)
      · exact .inr e) (Reps.less no r (by cases h; assumption))
  | _, _, .ptr e, _ => .ptr e
  | _, _, .obj e r, h => .obj (by rw [takeF_n fun z => by obtain ⟨vs, q⟩ := no _ z; rw [q] at e; cases e]; exact e) (RepF.less no r (by cases h; assumption))
  | _, _, .cls a, _ => .cls a
  | _, _, .ty n, _ => .ty n
theorem Reps.less (no : ∀ a, OwnL A.s σ a → ∃ vs, F a = some (.lst vs)) : ∀ {v : List V} {d : List D}, Reps K F m v d → NoLsts d → Reps K (takeF A.s σ F) m v d
  | _, _, .nil, _ => .nil
  | _, _, .cons a r, h => .cons (Rep.less no a (by cases h; assumption)) (Reps.less no r (by cases h; assumption))
theorem RepF.less (no : ∀ a, OwnL A.s σ a → ∃ vs, F a = some (.lst vs)) : ∀ {v : List (Str × V)} {d : List (Str × D)}, RepF K F m v d → NoLstF d → RepF K (takeF A.s σ F) m v d
  | _, _, .nil, _ => .nil
  | _, _, .cons a r, h => .cons (Rep.less no a (by cases h; assumption)) (RepF.less no r (by cases h; assumption))
end
theorem RepT.less (no : ∀ a, OwnL A.s σ a → ∃ vs, F a = some (.lst vs)) : ∀ {v : TK} {d : List (List Int × D)}, RepT K F m v d → (∀ x ∈ d, NoLst x.2) → RepT K (takeF A.s σ F) m v d
  | _, _, .nil, _ => .nil
  | _, _, .cons pt a r, h => .cons (by
      rcases pt with ⟨its, e⟩ | pt
      · refine .inl ⟨its, ?_⟩
        rw [takeF_n fun z => by obtain ⟨vs, q⟩ := no _ z; rw [q] at e; cases e]; exact e
      · exact .inr pt) (Rep.less no a (h _ (List.mem_cons_self ..))) (RepT.less no r fun x hx => h x (List.mem_cons_of_mem _ hx))
theorem PTup.less (no : ∀ a, OwnL A.s σ a → ∃ vs, F a = some (.lst vs)) {b : Addr} {ks : List V} (pt : PTup K F b ks) : PTup K (takeF A.s σ F) b ks := by
  rcases pt with ⟨its, e⟩ | pt
  · refine .inl ⟨its, ?_⟩
    rw [takeF_n fun z => by obtain ⟨vs, q⟩ := no _ z; rw [q] at e; cases e]; exact e
  · exact .inr pt
theorem RepN.less (no : ∀ a, OwnL A.s σ a → ∃ vs, F a = some (.lst vs)) : ∀ {v : TKN} {d : List (NKey × D)}, RepN K F m v d → (∀ x ∈ d, NoLst x.2) → RepN K (takeF A.s σ F) m v d
  | _, _, .nil, _ => .nil
  | _, _, .cons ⟨b1, h1, h2⟩ a r, h => .cons ⟨b1, PTup.less no h1, PTup.less no h2⟩ (Rep.less no a (h _ (List.mem_cons_self ..))) (RepN.less no r fun x hx => h x (List.mem_cons_of_mem _ hx))
theorem RepK.less {κ : Type} (no : ∀ a, OwnL A.s σ a → ∃ vs, F a = some (.lst vs)) : ∀ {v : List (κ × V)} {d : List (κ × D)}, RepK K F m v d → (∀ x ∈ d, NoLst x.2) → RepK K (takeF A.s σ F) m v d
  | _, _, .nil, _ => .nil
  | _, _, .cons a r, h => .cons (Rep.less no a (h _ (List.mem_cons_self ..))) (RepK.less no r fun x hx => h x (List.mem_cons_of_mem _ hx))
theorem Sim.took (S : Sim K F G m A σ H) {F' H' : Hp} {m' : List Addr} {O' : List Cell} (e : Ex (lendF A.s σ F H) F') (p : Pre m m') (q : HS K F' (lendG A.s σ G H) m' O' H') (hO : NoLstO O') : Ex F (takeF A.s σ F') ∧ Sim K (takeF A.s σ F') G m' ⟨A.s, O'⟩ σ H' := by
  have no : ∀ a, OwnL A.s σ a → ∃ vs, F' a = some (.lst vs) := fun a z => let ⟨vs, h, _⟩ := own_lst S e z; ⟨vs, h⟩
  have sub : ∀ a o, G a = some o → lendG A.s σ G H a = some o := fun a o g => by
    have y : ¬ IsOwn A.s σ a := fun y => by rw [(S.s.isOwn y).2.1] at g; cases g
    rw [lendG_n y]; exact g
  have non : ∀ a, lendG A.s σ G H a = none → G a = none := fun a c => by
    cases g : G a with
    | none => rfl
    | some o => rw [sub a o g] at c; cases c
  have ex : Ex F (takeF A.s σ F') := fun a o h => by
    have y : ¬ OwnL A.s σ a := fun y => by rw [(S.s.isOwn y.own).1] at h; cases h
    rw [takeF_n y]; exact e a o (lend_ex S a o h)
  have tk : ∀ a o, takeF A.s σ F' a = some o → F' a = some o := fun a o h => by
    by_cases y : OwnL A.s σ a
    · rw [takeF_y y] at h; cases h
    · rw [takeF_n y] at h; exact h
  have tn : ∀ a, F' a = none → takeF A.s σ F' a = none := fun a h => by
    by_cases y : OwnL A.s σ a
    · exact takeF_y y
    · rw [takeF_n y]; exact h
  refine ⟨ex, ⟨fun a o h => q.exF _ _ (tk a o h), fun a o g => q.exG _ _ (sub a o g), fun a o h => non a (q.dj a o (tk a o h)), q.len, fun n a c e1 e2 l => ?_, q.inj, q.here, fun n a h => non a (q.mG n a h), fun n a e1 e2 => ?_⟩, S.s.len, fun i x y e1 e2 => ?_, S.s.own⟩
  · obtain ⟨x1, x2, x3⟩ := q.cell n a c e1 e2 l
    refine ⟨tn a x1, non a x2, ?_⟩
    have hc := hO c (List.mem_of_getElem? e2)
    cases hc with
    | gone => exact l.elim
    | lst h => obtain ⟨vs, hv, rv⟩ := x3; exact ⟨vs, hv, Reps.less no rv h⟩
    | ins h => obtain ⟨dx, fv, hv, rv⟩ := x3; exact ⟨dx, fv, hv, RepF.less no rv h⟩
    | dT h => obtain ⟨kva, hv, rv⟩ := x3; exact ⟨kva, hv, RepT.less no rv h⟩
    | dN h => obtain ⟨kva, hv, rv⟩ := x3; exact ⟨kva, hv, RepN.less no rv h⟩
    | dK h => obtain ⟨kva, hv, rv⟩ := x3; exact ⟨kva, hv, RepK.less no rv h⟩
  · obtain ⟨C, dx, fv, y⟩ := q.gn n a e1 e2
    refine ⟨C, dx, fv, ?_⟩
    rw [takeF_n fun z => by obtain ⟨vs, h⟩ := no a z; rw [h] at y; cases y]; exact y
  · have z := S.s.at_ i x y e1 e2
    match x, y, z, e1, e2 with
    | _, none, _, _, _ => cases x <;> trivial
    | some v, some (.val d), z, _, _ => exact Rep.mono ex p z
    | some v, some (.own c), ⟨a, ea, l, f, g, mm, cc⟩, e1, e2 =>
      subst ea
      have ow : IsOwn A.s σ a := ⟨i, c, e2, e1⟩
      have key : takeF A.s σ F' a = none ∧ (∀ n : Nat, m'[n]? ≠ some a) ∧ H' a = H a := by
        by_cases y : OwnL A.s σ a
        · obtain ⟨vs, h1, h2⟩ := own_lst S e y
          refine ⟨takeF_y y, fun n h => ?_, by rw [q.exF _ _ h1, h2]⟩
          have ln : n < O'.length := by rw [← q.len]; exact (List.getElem?_eq_some_iff.mp h).1
          have en : O'[n]? = some O'[n] := List.getElem?_eq_getElem ln
          cases z : O'[n] with
          | gone =>
            rw [z] at en
            obtain ⟨C, dx, fv, y⟩ := q.gn n a h en
            rw [h1] at y; cases y
          | _ =>
            rw [z] at en
            have y := (q.cell n a _ h en trivial).1
            rw [h1] at y; cases y
        · obtain ⟨u, hu⟩ := (S.s.isOwn ow).2.2.2
          have gl : lendG A.s σ G H a = some u := by rw [lendG_o ow y]; exact hu
          refine ⟨?_, fun n h => ?_, by rw [q.exG _ _ gl, hu]⟩
          · refine tn a ?_
            cases z : F' a with
            | none => rfl
            | some o => rw [q.dj a o z] at gl; cases gl
          · have := q.mG n a h
            rw [gl] at this; cases this
      exact ⟨a, rfl, l, key.1, g, key.2.1, cc.mono ex p key.2.2⟩
variable {c : Ct} {te ta to : TE} {Q : QE}
/-- the arguments, own lists lent -/
def lent (A : AS) : List RV → Option (List D)
  | [] => some []
  | .val d :: r => (lent A r).map (d :: ·)
  | .slot i :: r => match A.s[i]? with
    | some (some (.own (.lst ds))) => (lent A r).map (.lst ds :: ·)
    | _ => none
theorem lent_ok {K : PySem.W.Frag} {F G : Hp} {m : List Addr} {A : AS} {σ : St} {H : Hp} (S : Sim K F G m A σ H) : ∀ {vs : List V} {rs : List RV} {ds : List D}, RepRs K F m A σ vs rs → lent A rs = some ds → Reps K (lendF A.s σ F H) m vs ds
  | _, _, _, .nil, h => by cases h; exact .nil
  | _, .val d :: r, ds, .cons a t, h => by
    simp only [lent, Option.map_eq_some_iff] at h
    obtain ⟨es, h1, rfl⟩ := h
    exact .cons (Rep.mono (lend_ex S) (Pre.refl _) a) (lent_ok S t h1)
  | _, .slot i :: r, ds, .cons a t, h => by
    obtain ⟨e1, x, e2⟩ := a
    simp only [lent, e2] at h
    cases x with
    | lst xs =>
      simp only [Option.map_eq_some_iff] at h
      obtain ⟨es, h1, rfl⟩ := h
      obtain ⟨b, q, _, _, _, _, ws, hv, rv⟩ := S.s.ownAt e2
      rw [e1] at q; cases q
      exact .cons (.lst (by rw [lendF_y ⟨i, xs, e2, e1⟩]; exact hv) (rv.mono (lend_ex S) (Pre.refl _))) (lent_ok S t h1)
    | _ => simp at h
/-- a call that is lent own lists, and hands back no list -/
theorem we_callB {Φ : Contract} {E : XK} {t : TA} (h : WAr c t A fun A1 rs => ∃ ds, lent A1 rs = some ds ∧ Φ ds A1.o (fun O' d => NoLst d ∧ NoLstO O' ∧ Q ⟨A1.s, O'⟩ (.val d)) (fun _ _ _ => False)) : WE c (tCall (SpA c.K Φ) [] E t) A Q := fun F G m σ H S Eo Qc k =>
  h F G m σ H S Eo _ fun F1 m1 A1 vs H1 rs e1 p1 S1 R1 ⟨ds, hl, q⟩ =>
    ⟨lendF A1.s σ F1 H1, lendG A1.s σ G H1, m1, A1.o, ds, _, _, S1.lend, by simpa using lent_ok S1 R1 hl, q, fun F' m' O' v d H' e p hs r ⟨n1, n2, rr⟩ => by
      obtain ⟨ex, S2⟩ := S1.took e p hs n2
      exact k _ m' ⟨A1.s, O'⟩ v H' (.val d) (e1.trans ex) (p1.trans p) S2 (Rep.less (fun a z => let ⟨vs, h, _⟩ := own_lst S1 e z; ⟨vs, h⟩) r n1) rr, fun F' m' O' C dx fvs fs H' e p hs fx rf xx => xx.elim⟩
/-- the same of a method -/
theorem we_methB {C : Addr} {mm : Str} {Φ : Contract} {E : XK} {t : TA} (h : WE c ta A fun A1 x => ∃ d fs, x = .val d ∧ insOf A1 (.val d) = some (C, fs) ∧ fs.lookup mm = none ∧ WAr c t A1 fun A2 rs => ∃ ds, lent A2 rs = some ds ∧ Φ (d :: ds) A2.o (fun O' e => NoLst e ∧ NoLstO O' ∧ Q ⟨A2.s, O'⟩ (.val e)) (fun _ _ _ => False)) :
    WE c (tMeth C mm (SpA c.K Φ) [] E ta t) A Q := fun F G m σ H S Eo Qc k => h F G m σ H S Eo _ fun F1 m1 A1 v H1 x e1 p1 S1 R1 ⟨d, fs, ex, hi, hl, q⟩ => by
  subst ex
  obtain ⟨a, dx, fv, rfl, hv, rf⟩ := rep_ins S1 R1 hi
  refine ⟨a, dx, fv, rfl, hv, rf.look0 hl, q F1 G m1 σ H1 S1 (Eo.mono e1 p1) _ fun F2 m2 A2 vs H2 rs e2 p2 S2 R2 ⟨ds, hl2, q2⟩ => ?_⟩
  refine ⟨lendF A2.s σ F2 H2, lendG A2.s σ G H2, m2, A2.o, d :: ds, _, _, S2.lend, .cons (Rep.mono (e2.trans (lend_ex S2)) p2 R1) (by simpa using lent_ok S2 R2 hl2), q2, fun F' m' O' w e H' e3 p3 hs r ⟨n1, n2, rr⟩ => ?_, fun F' m' O' C dx fvs fs H' e p hs fx rf xx => xx.elim⟩
  obtain ⟨ex, S3⟩ := S2.took e3 p3 hs n2
  exact k _ m' ⟨A2.s, O'⟩ w H' (.val e) ((e1.trans e2).trans ex) ((p1.trans p2).trans p3) S3 (Rep.less (fun a z => let ⟨vs, h, _⟩ := own_lst S2 e3 z; ⟨vs, h⟩) r n1) rr
end
end AL

namespace AL
open PySem L2
/-! ### lists of ints, by place -/
theorem getD_lt {α : Type} {xs : List α} {i : Nat} {d : α} (h : i < xs.length) : xs.getD i d = xs[i] := by simp [List.getD, List.getElem?_eq_getElem h]
theorem getD_ge {α : Type} {xs : List α} {i : Nat} {d : α} (h : xs.length ≤ i) : xs.getD i d = d := by simp [List.getD, List.getElem?_eq_none h]
theorem ixN_of {n : Nat} {i : Int} (h0 : 0 ≤ i) (h1 : i < (n : Int)) : ixN n i = some i.toNat := by
  have := Evl.ixN_nat (n := n) (j := i.toNat) (by omega)
  rwa [show ((i.toNat : Nat) : Int) = i by omega] at this
theorem atI_of {α : Type} {xs : List α} {i : Int} {x : α} (h0 : 0 ≤ i) (h : xs[i.toNat]? = some x) : atI xs i = some x := by
  unfold atI
  have hl := (List.getElem?_eq_some_iff.mp h).1
  rw [ixN_of h0 (by omega)]; exact h
theorem atI_nat' {α : Type} {xs : List α} {j : Nat} {x : α} (h : xs[j]? = some x) : atI xs (j : Int) = some x := atI_of (by omega) (by simpa using h)
/-- an item of a list of ints, as a number -/
theorem atI_ints {ns : List Int} {i : Int} (h0 : 0 ≤ i) (h1 : i < (ns.length : Int)) : atI (ns.map D.int) i = some (.int (ns.getD i.toNat 0)) :=
  atI_of h0 (by
    have hl : i.toNat < ns.length := by omega
    rw [List.getElem?_map, List.getElem?_eq_getElem hl, getD_lt hl]; rfl)
theorem atI_map {α : Type} {f : α → D} {xs : List α} {i : Int} {x : α} (h0 : 0 ≤ i) (h : xs[i.toNat]? = some x) : atI (xs.map f) i = some (f x) := atI_of h0 (by rw [List.getElem?_map, h]; rfl)
theorem atI_last {α : Type} {xs : List α} {x : α} : atI (xs ++ [x]) (-1) = some x := by
  unfold atI ixN
  simp only [List.length_append, List.length_cons, List.length_nil]
  rw [if_neg (by omega)]
  first
    | (rw [if_pos (by omega)]; simp; rw [show (-1 + ((xs.length : Int) + 1)).toNat = xs.length by omega]; simp)
    | (simp; rw [show (-1 + ((xs.length : Int) + 1)).toNat = xs.length by omega]; simp)
section
variable {c : Ct} {A : AS} {Q : QE} {ns : List Int}
/-- the same of a list of ints at any place it may stand in -/
theorem od_ixI {x : RV} {i : Int} (hx : lsOf A x = some (ns.map .int)) (h0 : 0 ≤ i) (h1 : i < (ns.length : Int)) (q : Q A (.val (.int (ns.getD i.toNat 0)))) : OpD c (rIx c.K) x (.val (.int i)) A Q := od_ixL hx (atI_ints h0 h1) q
theorem od_ixLast {x : RV} (hx : lsOf A x = some (ns.map .int)) (h : 0 < ns.length) (q : ∀ v ∈ ns, Q A (.val (.int v))) : OpD c (rIx c.K) x (.val (.int (-1))) A Q := by
  have hl : ns.length - 1 < ns.length := by omega
  refine od_ixL hx (d := .int ns[ns.length - 1]) ?_ (q _ (List.getElem_mem hl))
  unfold atI ixN
  rw [List.length_map, if_neg (by omega), if_pos (by omega)]
  show (ns.map D.int)[_]? = _
  rw [show (-1 + (ns.length : Int)).toNat = ns.length - 1 by omega, List.getElem?_map, List.getElem?_eq_getElem hl]; rfl
/-- an item at some place, by what all of them are -/
theorem od_ixAll {x : RV} {ds : List D} {i : Int} {P : D → Prop} (hx : lsOf A x = some ds) (h0 : 0 ≤ i) (h1 : i < (ds.length : Int)) (hP : ∀ d ∈ ds, P d) (q : ∀ d, P d → Q A (.val d)) : OpD c (rIx c.K) x (.val (.int i)) A Q := by
  have hl : i.toNat < ds.length := by omega
  exact od_ixL hx (d := ds[i.toNat]) (atI_of h0 (List.getElem?_eq_getElem hl)) (q _ (hP _ (List.getElem_mem hl)))
end
/-! ### the statements' rules, their ends apart -/
section
variable {c : Ct} {A : AS} {te ta tb tl to : TE} {t u tt : TT} {nx bk ct : AS → Prop} {rt : List Cell → D → Prop} {t1 t2 : TS} {wi : TI} {g : TG}
theorem vs_seq (h : WS c t1 A ⟨fun A1 => WS c t2 A1 ⟨nx, rt, bk, ct⟩, rt, bk, ct⟩) : WS c (tSeq t1 t2) A ⟨nx, rt, bk, ct⟩ := ws_seq h
/-- a statement, then the rest, with a word between them -/
theorem vs_cut (Mid : AS → Prop) (h : WS c t1 A ⟨Mid, rt, bk, ct⟩) (h2 : ∀ A1, Mid A1 → WS c t2 A1 ⟨nx, rt, bk, ct⟩) : WS c (tSeq t1 t2) A ⟨nx, rt, bk, ct⟩ := vs_seq (h.imp h2 (fun _ _ z => z) (fun _ z => z) (fun _ z => z))
theorem vs_seqA {g : TG} (h : WS c (tAsg te g) A ⟨fun A1 => WS c t2 A1 ⟨nx, rt, bk, ct⟩, rt, bk, ct⟩) : WS c (tSeq (tAsg te g) t2) A ⟨nx, rt, bk, ct⟩ := ws_seq h
theorem vs_seqD (h : WS c (tDrop te) A ⟨fun A1 => WS c t2 A1 ⟨nx, rt, bk, ct⟩, rt, bk, ct⟩) : WS c (tSeq (tDrop te) t2) A ⟨nx, rt, bk, ct⟩ := ws_seq h
theorem vs_next (q : nx A) : WS c tNext A ⟨nx, rt, bk, ct⟩ := ws_next q
theorem vs_break (q : bk A) : WS c tBreak A ⟨nx, rt, bk, ct⟩ := ws_break q
theorem vs_cont (q : ct A) : WS c tCont A ⟨nx, rt, bk, ct⟩ := ws_cont q
theorem vs_drop (h : WE c te A fun A1 _ => nx A1) : WS c (tDrop te) A ⟨nx, rt, bk, ct⟩ := ws_drop h
theorem vs_ret (h : WE c te A fun A1 r => Frz A1 r fun A2 d => rt A2.o d) : WS c (tRet te) A ⟨nx, rt, bk, ct⟩ := ws_ret h
theorem vs_retN (q : rt A.o .non) : WS c tRetN A ⟨nx, rt, bk, ct⟩ := ws_retN q
theorem vs_if (h : WT c t A fun A1 b => (b = true → WS c t1 A1 ⟨nx, rt, bk, ct⟩) ∧ (b = false → WS c t2 A1 ⟨nx, rt, bk, ct⟩)) : WS c (tIfS t t1 t2) A ⟨nx, rt, bk, ct⟩ := ws_if h
theorem vs_asg {i : Nat} (h : WE c te A fun A1 r => Frz A1 r fun A2 d => nx (A2.setS i (.val d))) : WS c (tAsg te (gName i)) A ⟨nx, rt, bk, ct⟩ := ws_asg h
theorem vs_asgG (h : WE c te A fun A1 r => Frz A1 r fun A2 d => WG c g d A2 nx) : WS c (tAsg te g) A ⟨nx, rt, bk, ct⟩ := ws_asgG h
theorem vs_for (I : Nat → AS → Prop) (h : WI c wi A fun A1 ds => I 0 A1 ∧ (∀ (i : Nat) d A2, ds[i]? = some d → I i A2 → WG c g d A2 fun A3 => WS c t1 A3 ⟨I (i + 1), rt, nx, I (i + 1)⟩) ∧ ∀ A2, I ds.length A2 → nx A2) :
    WS c (tFor wi g t1) A ⟨nx, rt, bk, ct⟩ := ws_for (fun _ => I) h
theorem vs_while (I : Nat → AS → Prop) (n0 : Nat) (h0 : I n0 A) (hs : ∀ n A1, I n A1 → WT c tt A1 fun A2 b => (b = true → WS c t1 A2 ⟨fun A3 => ∃ n', n' < n ∧ I n' A3, rt, nx, fun A3 => ∃ n', n' < n ∧ I n' A3⟩) ∧ (b = false → nx A2)) :
    WS c (tWhile tt t1) A ⟨nx, rt, bk, ct⟩ := ws_while I n0 h0 hs
theorem vs_append {i : Nat} {ds0 : List D} (h0 : A.s[i]? = some (some (.own (.lst ds0)))) (h : WE c te A fun A1 r => Frz A1 r fun A2 d => ∃ ds, A2.s[i]? = some (some (.own (.lst ds))) ∧ ds.length < 100000 ∧ nx (A2.setS i (.own (.lst (ds ++ [d]))))) :
    WS c (tDrop (tBM c.K "list" rAppend (tVar i) (tCons te tNil))) A ⟨nx, rt, bk, ct⟩ := ws_append h0 h
theorem vs_setitem {i : Nat} (h : WE c te A fun A1 r => Frz A1 r fun A2 d => ∃ ds0, A2.s[i]? = some (some (.own (.lst ds0))) ∧ WE c tb A2 fun A3 y => ∃ n : Int, y = .val (.int n) ∧ ∃ (ds : List D) (j : Nat), A3.s[i]? = some (some (.own (.lst ds))) ∧ ixN ds.length n = some j ∧ nx (A3.setS i (.own (.lst (ds.set j d))))) :
    WS c (tAsg te (gSub (tVar i) tb rSetL)) A ⟨nx, rt, bk, ct⟩ := ws_setitem h
end
/-! ### the rules, the written part by name -/
section
open PySem.Spec PyProof.Rows
variable {X : Cx} {K : PySem.W.Frag}
theorem op_addK (h : X.K = K) : OpR X (binaryOp .Add) (rAddA K) := h ▸ op_addA
theorem op_eqK (h : X.K = K) (hu : X.A.units + 64 < cLine) : OpR X (compareOp .Eq) (rEqA K) := h ▸ op_eqA hu
theorem op_neK (h : X.K = K) (hu : X.A.units + 64 < cLine) : OpR X (compareOp .NotEq) (rNeA K) := h ▸ op_neA hu
theorem op_inK (h : X.K = K) : OpR X (compareOp .In) (rInA K) := h ▸ op_inA
theorem op_ninK (h : X.K = K) : OpR X (compareOp .NotIn) (rNinA K) := h ▸ op_ninA
theorem ix_seqK (h : X.K = K) : IxR X (rIx K) := h ▸ ix_seq
theorem sl_K (h : X.K = K) : SlR X (rSlAA K) := h ▸ sl_AA
theorem call_lenK (h : X.K = K) : CallR X (.builtin "len") (rLenA K) := h ▸ call_lenA
theorem call_listK (h : X.K = K) : CallR X (.type "list") (rListA K) := h ▸ call_listA
theorem call_tupK (h : X.K = K) : CallR X (.type "tuple") (rTupP K) := h ▸ call_tupP
theorem call_sumK (h : X.K = K) (hc : X.calm = true) : CallR X (.builtin "sum") (rSumA K) := h ▸ call_sumA hc
theorem call_maxK (h : X.K = K) (hc : X.calm = true) : CallR X (.builtin "max") (rMaxA K) := h ▸ call_maxA hc
theorem call_isiK (h : X.K = K) : CallR X (.builtin "isinstance") (rIsi K) := h ▸ call_isi
theorem pi_K {tg it : Expr} (f : PySem.W.Frag → TI) (h : X.K = K) (p : PI X tg it (f X.K)) : PI X tg it (f K) := h ▸ p
theorem pe_K {e : Expr} (f : PySem.W.Frag → TE) (h : X.K = K) (p : PE X e (f X.K)) : PE X e (f K) := h ▸ p
theorem ps_K {st : Stmt} (f : PySem.W.Frag → TS) (h : X.K = K) (p : PS X st (f X.K)) : PS X st (f K) := h ▸ p
theorem pg_K {tg : Expr} (f : PySem.W.Frag → TG) (h : X.K = K) (p : PG X tg (f X.K)) : PG X tg (f K) := h ▸ p
end
section
variable {c : Ct} {A : AS} {Q : QE}
theorem od_catL {x y : RV} {ds es : List D} (hx : lxOf A x = some ds) (hy : lxOf A y = some es) (hl : ds.length + es.length ≤ 10000) (q : Q A (.val (.lst (ds ++ es)))) : OpD c (rAddA c.K) x y A Q := fun F G m σ H v w S E R1 R2 Qc k => by
  obtain ⟨a, vs, rfl, hv, rv⟩ := rep_lx S R1 hx
  obtain ⟨b, ws, rfl, hw, rw_⟩ := rep_lx S R2 hy
  refine .inr (.inl ⟨a, b, vs, ws, rfl, rfl, hv, hw, Nat.le_trans (by rw [rv.len, rw_.len]; exact hl) (by decide), fun p hp => ?_⟩)
  have S1 := S.new (o := .lst (vs ++ ws)) hp
  obtain ⟨f, g, mm⟩ := S.h.fresh hp
  have no := S.notOwn hp
  have ex : Ex F (upd F p (.lst (vs ++ ws))) := ex_upd f
  refine k (upd F p (.lst (vs ++ ws))) m A _ _ (.val (.lst (ds ++ es))) ex (Pre.refl _) ⟨S1.h.freeze upd_same f g mm, S1.s.go ex (Pre.refl _) fun i c a z1 z2 => ?_⟩ (show Rep c.K _ _ _ _ from .lst upd_same ((rv.app rw_).mono ex (Pre.refl _))) q
  obtain ⟨b, q, l, f', g', mm', cc⟩ := S1.s.ownAt z1
  rw [z2] at q; cases q
  have np : a ≠ p := fun z => no ⟨i, c, z1, z ▸ z2⟩
  exact ⟨by rw [upd_ne np]; exact f', mm', rfl⟩
end
theorem as_eta (A : AS) : (⟨A.s, A.o⟩ : AS) = A := rfl
/-! ### marks for the walk -/
/-- run_body, the written part read off the context -/
theorem run_def {K : PySem.W.Frag} {Φ : Contract} {ts : TS} {N : List Str} {vs : List V} {H : Hp} {Q : VK} {E : XK} (h : SpA K Φ vs H Q E)
    (hb : ∀ ds O R X (c : Ct), K = c.K → (∀ σ, c.E σ = E) → (∀ A C fs, X A.o C fs → c.X A C fs) → Φ ds O R X → WS c ts ⟨entry N.length ds, O⟩ ⟨fun A => R A.o .non, R, fun _ => False, fun _ => False⟩) : ts { nx := fun _ H' => Q .non H', rt := Q } (L2.start N vs) H :=
  run_body h fun ds O R X p => hb ds O R X ⟨K, fun _ => E, fun A C fs => X A.o C fs, none⟩ rfl (fun _ => rfl) (fun _ _ _ z => z) p
def tOwn (te : TE) (i : Nat) : TS := tAsg te (gName i)
def tCallB (sp : Sp) (E : XK) (t : TA) : TE := tCall sp [] E t
def tMethB (C : Addr) (m : Str) (sp : Sp) (E : XK) (ta : TE) (t : TA) : TE := tMeth C m sp [] E ta t
theorem pe_lend {X : Cx} {e : Expr} {sp : Sp} {E : XK} {t : TA} (h : PE X e (tCall sp [] E t)) : PE X e (tCallB sp E t) := h
theorem pe_lendM {X : Cx} {e : Expr} {C : Addr} {m : Str} {sp : Sp} {E : XK} {ta : TE} {t : TA} (h : PE X e (tMeth C m sp [] E ta t)) : PE X e (tMethB C m sp E ta t) := h
theorem ps_own {X : Cx} {st : Stmt} {te : TE} {i : Nat} (h : PS X st (tAsg te (gName i))) : PS X st (tOwn te i) := h
section
variable {c : Ct} {A : AS} {te ta tb tl to : TE} {t u tt : TT} {x y : RV} {Q : QE} {B : EA}
theorem vs_own {i : Nat} {nx bk ct : AS → Prop} {rt : List Cell → D → Prop} (h : WN c te A fun A1 ds => nx (A1.setS i (.own (.lst ds)))) : WS c (tOwn te i) A ⟨nx, rt, bk, ct⟩ := ws_asgO h
theorem we_ofLst {ta : TA} (h : WN c (tLst ta) A fun A1 ds => Q A1 (.val (.lst ds))) : WE c (tLst ta) A Q := we_ofN h
theorem we_ofLc {wi : TI} {g : TG} {vs : List Nat} (h : WN c (tLc wi g tt te vs) A fun A1 ds => Q A1 (.val (.lst ds))) : WE c (tLc wi g tt te vs) A Q := we_ofN h
theorem we_ofList {ta : TA} (h : WN c (tCB (rListA c.K) ta) A fun A1 ds => Q A1 (.val (.lst ds))) : WE c (tCB (rListA c.K) ta) A Q := we_ofN h
theorem we_slL {ta : TE} {tlo thi : TO} (h : WE c ta A fun A1 x => WO c tlo A1 fun A2 lo => WO c thi A2 fun A3 hi => ∃ ds, lsOf A1 x = some ds ∧ lsOf A3 x = some ds ∧ Stays A1 A3 x ∧ Q A3 (.val (.lst (cutD ds lo hi)))) : WE c (tSl (rSlAA c.K) ta tlo thi) A Q := we_ofN (wn_slL h)
theorem vs_seqO {i : Nat} {t2 : TS} {nx bk ct : AS → Prop} {rt : List Cell → D → Prop} (h : WS c (tOwn te i) A ⟨fun A1 => WS c t2 A1 ⟨nx, rt, bk, ct⟩, rt, bk, ct⟩) : WS c (tSeq (tOwn te i) t2) A ⟨nx, rt, bk, ct⟩ := ws_seq h
theorem vb_call {Φ : Contract} {E : XK} {t : TA} (h : WAr c t A fun A1 rs => ∃ ds, lent A1 rs = some ds ∧ Φ ds A1.o (fun O' d => NoLst d ∧ NoLstO O' ∧ Q ⟨A1.s, O'⟩ (.val d)) (fun _ _ _ => False)) : WE c (tCallB (SpA c.K Φ) E t) A Q := we_callB h
theorem vb_meth {C : Addr} {mm : Str} {Φ : Contract} {E : XK} {t : TA} (h : WE c ta A fun A1 x => ∃ d fs, x = .val d ∧ insOf A1 (.val d) = some (C, fs) ∧ fs.lookup mm = none ∧ WAr c t A1 fun A2 rs => ∃ ds, lent A2 rs = some ds ∧ Φ (d :: ds) A2.o (fun O' e => NoLst e ∧ NoLstO O' ∧ Q ⟨A2.s, O'⟩ (.val e)) (fun _ _ _ => False)) : WE c (tMethB C mm (SpA c.K Φ) E ta t) A Q := we_methB h
theorem lent_go {rs : List RV} {ds : List D} {P : List D → Prop} (h : lent A rs = some ds) (p : P ds) : ∃ ds, lent A rs = some ds ∧ P ds := ⟨ds, h, p⟩
theorem fld_go {f : Str} {x : RV} {P : D → Prop} {C : Addr} {fs : List (Str × D)} {d : D} (hi : insOf A x = some (C, fs)) (hC : Cls c.K C) (hn : NoAttr c.K C f) (hl : fs.lookup f = some d) (q : P d) : ∃ C fs d, insOf A x = some (C, fs) ∧ Cls c.K C ∧ NoAttr c.K C f ∧ fs.lookup f = some d ∧ P d := ⟨C, fs, d, hi, hC, hn, hl, q⟩
theorem mth_go {C : Addr} {mm : Str} {d : D} {fs : List (Str × D)} {P : D → Prop} (hi : insOf A (.val d) = some (C, fs)) (hl : fs.lookup mm = none) (p : P d) : ∃ d' fs, RV.val d = .val d' ∧ insOf A (.val d') = some (C, fs) ∧ fs.lookup mm = none ∧ P d' := ⟨d, fs, rfl, hi, hl, p⟩
theorem we_catL {ta tb : TE} (h : WE c ta A fun A1 x => WE c tb A1 fun A2 y => ∃ ds es, Stays A1 A2 x ∧ lxOf A2 x = some ds ∧ lxOf A2 y = some es ∧ ds.length + es.length ≤ 10000 ∧ Q A2 (.val (.lst (ds ++ es)))) : WE c (tOp (rAddA c.K) ta tb) A Q := we_ofN (wn_cat h)
theorem frz_val {d : D} {k : AS → D → Prop} (h : k A d) : Frz A (.val d) k := h
theorem frz_own {i : Nat} {ds : List D} {k : AS → D → Prop} (e : A.s[i]? = some (some (.own (.lst ds)))) (h : k (A.setS i (.val (.lst ds))) (.lst ds)) : Frz A (.slot i) k := by
  unfold Frz; simp only [e]; exact h
/-- the slots of a state, written out -/
theorem spa_start {K : PySem.W.Frag} {H : Hp} {a : Addr} {ns : List Int} {Φ : Contract} (hS : SqL K H a (ns.map V.int)) (h : ∀ X, Φ [.scr (ns.map .int)] [] (fun _ d => d = .bl true) X) : SpA K Φ [.ref a] H (fun v _ => v = .bl true) fun _ _ _ => False := by
  refine ⟨H, fun _ => none, [], [], [.scr (ns.map .int)], _, fun _ _ _ => False, ⟨Evl.Ex.refl H, fun a o h => (nomatch h), fun a o _ => rfl, rfl, fun n a c h => (by simp at h), fun n n' a h => (by simp at h), fun n a h => (by simp at h), fun n a h => (by simp at h), fun n a h => (by simp at h)⟩, .cons (.scr hS (reps_ints ns)) .nil, h _, fun F' m' O' v d H' _ _ _ r e => ?_, fun F' m' O' C dx fvs fs H' _ _ _ _ _ x => x⟩
  subst e; cases r; rfl
theorem ex_bl {b : Bool} {P : Bool → Prop} (h : P b) : ∃ b', RV.val (.bl b) = .val (.bl b') ∧ P b' := ⟨b, rfl, h⟩
theorem ex_int {i : Int} {P : Int → Prop} (h : P i) : ∃ j, RV.val (.int i) = .val (.int j) ∧ P j := ⟨i, rfl, h⟩
theorem len_ok {ds : List D} {P : Prop} (h : ds.length ≤ 1000) (p : P) : ds.length ≤ 1000 ∧ P := ⟨h, p⟩
/-- behind a test, by its Prop -/
theorem br {p : Prop} [Decidable p] {P N : Prop} (h1 : p → P) (h2 : ¬ p → N) : (decide p = true → P) ∧ (decide p = false → N) := ⟨fun h => h1 (of_decide_eq_true h), fun h => h2 (of_decide_eq_false h)⟩
theorem brT {P N : Prop} (h1 : P) : (true = true → P) ∧ (true = false → N) := ⟨fun _ => h1, (fun h => nomatch h)⟩
theorem brF {P N : Prop} (h2 : N) : (false = true → P) ∧ (false = false → N) := ⟨(fun h => nomatch h), fun _ => h2⟩
theorem brTn {P N : Prop} (h2 : N) : ((!true) = true → P) ∧ ((!true) = false → N) := ⟨(fun h => nomatch h), fun _ => h2⟩
theorem brFn {P N : Prop} (h1 : P) : ((!false) = true → P) ∧ ((!false) = false → N) := ⟨fun _ => h1, (fun h => nomatch h)⟩
theorem brN {b : Bool} {P N : Prop} (h : (b = true → N) ∧ (b = false → P)) : ((!b) = true → P) ∧ ((!b) = false → N) := by cases b <;> exact ⟨fun e => h.2 (by simpa using e), fun e => h.1 (by simpa using e)⟩
theorem stays_val {A A' : AS} {d : D} {P : Prop} (h : P) : Stays A A' (.val d) ∧ P := ⟨trivial, h⟩
theorem stays_slot {A A' : AS} {i : Nat} {P : Prop} (e : A'.s[i]? = A.s[i]?) (h : P) : Stays A A' (.slot i) ∧ P := ⟨e, h⟩
end
end AL
/-! The walk, a step: the goal's head tells the rule; what is not one of these stays. -/
local macro_rules | `(tactic| walk_at "al side") => `(tactic| first | omega | assumption | decide | (simp; done))
local macro_rules | `(tactic| walk_at "al1") => `(tactic| (with_reducible first
  | refine AL.vs_seq ?_
  | refine AL.vs_ret ?_
  | refine AL.vs_asg ?_
  | refine AL.vs_own ?_
  | refine AL.vs_if ?_
  | refine AL.vs_next ?_
  | refine AL.vs_break ?_
  | refine AL.vs_cont ?_
  | refine AL.vs_retN ?_
  | refine AL.frz_val ?_
  | refine AL.we_int ?_
  | refine AL.we_bl ?_
  | refine AL.we_non ?_
  | refine AL.we_str ?_
  | refine AL.we_ty ?_
  | refine AL.we_op ?_
  | refine AL.we_un ?_
  | refine AL.we_and ?_
  | refine AL.we_or ?_
  | refine AL.we_not ?_
  | refine AL.we_if ?_
  | refine AL.we_ofList ?_
  | refine AL.we_cb ?_
  | refine AL.we_tup ?_
  | refine AL.we_call0 ?_
  | refine AL.vb_call ?_
  | refine AL.vb_meth ?_
  | refine AL.we_meth ?_
  | refine AL.we_prop ?_
  | refine AL.we_fld ?_
  | refine AL.we_makeF ?_
  | refine AL.wt_test ?_
  | refine AL.wt_B ?_
  | refine AL.wt_and ?_
  | refine AL.wt_or ?_
  | refine AL.wt_not ?_
  | refine AL.wa_nil ?_
  | refine AL.wa_cons ?_
  | refine AL.war_nil ?_
  | refine AL.war_cons ?_
  | refine AL.wo_none ?_
  | refine AL.wo_some ?_
  | refine AL.wg_name ?_
  | refine AL.wgs_nil ?_
  | refine AL.wgs_cons ?_
  | refine AL.stays_val ?_
  | refine AL.brT ?_
  | refine AL.brF ?_
  | refine AL.brTn ?_
  | refine AL.brFn ?_
  | refine AL.ex_bl ?_
  | refine AL.ex_int ?_
  | refine AL.od_add ?_
  | refine AL.od_sub ?_
  | refine AL.od_lt ?_
  | refine AL.od_le ?_
  | refine AL.od_gt ?_
  | refine AL.od_ge ?_
  | refine AL.ud_neg ?_
  | refine AL.cb_int ?_
  | refine AL.cb_intB ?_
  | refine AL.cb_abs ?_
  | refine AL.cb_max2 ?_
  | refine AL.cb_min2 ?_
  | refine AL.we_ofLst ?_
  | refine AL.we_ofLc ?_
  | refine AL.wn_lst ?_
  | refine AL.wn_cb ?_
  | refine AL.wi_seq ?_
  | refine AL.wi_r1 ?_
  | refine AL.wi_r2 ?_))
local macro_rules | `(tactic| walk_at "als1") => `(tactic| (with_reducible first
  | refine' AL.vs_seqA ?_
  | refine' AL.vs_seqD ?_
  | refine' AL.vs_seqO ?_
  | refine AL.vs_ret ?_
  | refine AL.vs_asg ?_
  | refine AL.vs_own ?_
  | refine AL.vs_next ?_
  | refine AL.vs_break ?_
  | refine AL.vs_cont ?_
  | refine AL.vs_retN ?_
  | refine AL.frz_val ?_
  | refine AL.we_int ?_
  | refine AL.we_bl ?_
  | refine AL.we_non ?_
  | refine AL.we_str ?_
  | refine AL.we_ty ?_
  | refine AL.we_op ?_
  | refine AL.we_un ?_
  | refine AL.we_and ?_
  | refine AL.we_or ?_
  | refine AL.we_not ?_
  | refine AL.we_if ?_
  | refine AL.we_ofList ?_
  | refine AL.we_cb ?_
  | refine AL.we_tup ?_
  | refine AL.we_call0 ?_
  | refine AL.vb_call ?_
  | refine AL.vb_meth ?_
  | refine AL.we_meth ?_
  | refine AL.we_prop ?_
  | refine AL.we_fld ?_
  | refine AL.we_makeF ?_
  | refine AL.wt_test ?_
  | refine AL.wt_B ?_
  | refine AL.wt_and ?_
  | refine AL.wt_or ?_
  | refine AL.wt_not ?_
  | refine AL.wa_nil ?_
  | refine AL.wa_cons ?_
  | refine AL.war_nil ?_
  | refine AL.war_cons ?_
  | refine AL.wo_none ?_
  | refine AL.wo_some ?_
  | refine AL.wg_name ?_
  | refine AL.wgs_nil ?_
  | refine AL.wgs_cons ?_
  | refine AL.stays_val ?_
  | refine AL.brT ?_
  | refine AL.brF ?_
  | refine AL.brTn ?_
  | refine AL.brFn ?_
  | refine AL.ex_bl ?_
  | refine AL.ex_int ?_
  | refine AL.od_add ?_
  | refine AL.od_sub ?_
  | refine AL.od_lt ?_
  | refine AL.od_le ?_
  | refine AL.od_gt ?_
  | refine AL.od_ge ?_
  | refine AL.ud_neg ?_
  | refine AL.cb_int ?_
  | refine AL.cb_intB ?_
  | refine AL.cb_abs ?_
  | refine AL.cb_max2 ?_
  | refine AL.cb_min2 ?_
  | refine AL.we_ofLst ?_
  | refine AL.we_ofLc ?_
  | refine AL.wn_lst ?_
  | refine AL.wn_cb ?_
  | refine AL.wi_seq ?_
  | refine AL.wi_r1 ?_
  | refine AL.wi_r2 ?_))
local macro_rules | `(tactic| walk_at "al2") => `(tactic| first
  | ((with_reducible refine' AL.we_var ?h ?_); (case h => rfl))
  | ((with_reducible refine' AL.we_own ?h ?_); (case h => rfl))
  | ((with_reducible refine' AL.frz_own ?h ?_); (case h => rfl))
  | ((with_reducible refine' AL.stays_slot ?h ?_); (case h => rfl))
  | ((with_reducible refine' AL.od_mod ?h ?_); (case h => walk_at "al side"))
  | ((with_reducible refine' AL.od_div ?h ?_); (case h => refine ⟨?_, .inl ?_⟩ <;> walk_at "al side"))
  | ((with_reducible refine' AL.od_mul ?h ?_); (case h => first | exact .inl (.inr ⟨by decide, by decide⟩) | exact .inl (.inl ⟨by decide, by decide⟩) | exact .inl (.inr ⟨by omega, by omega⟩) | exact .inl (.inl ⟨by omega, by omega⟩)))
  | ((with_reducible refine' AL.od_pow ?h ?_); (case h => exact ⟨by decide, by decide, by decide⟩))
  | ((with_reducible refine' AL.od_eqS ?h ?_); (case h => rfl))
  | ((with_reducible refine' AL.od_neS ?h ?_); (case h => rfl))
  | ((with_reducible refine' AL.od_is (b := true) ?h ?_); (case h => rfl))
  | ((with_reducible refine' AL.od_is (b := false) ?h ?_); (case h => rfl))
  | ((with_reducible refine' AL.od_not (b := true) ?h ?_); (case h => rfl))
  | ((with_reducible refine' AL.od_not (b := false) ?h ?_); (case h => rfl))
  | ((with_reducible refine' AL.cb_isi ?h1 ?h2 ?_); (case h1 => rfl); (case h2 => constructor))
  | ((with_reducible refine' AL.cb_lenL ?h ?_); (case h => rfl))
  | ((with_reducible refine' AL.cb_lenT ?h ?_); (case h => rfl))
  | ((with_reducible refine' AL.cb_tupL ?h ?_); (case h => rfl))
  | ((with_reducible refine' AL.cb_tupT ?h ?_); (case h => rfl))
  | ((with_reducible refine' AL.cn_listL ?h ?_); (case h => rfl))
  | ((with_reducible refine' AL.cn_listT ?h ?_); (case h => rfl))
  | ((with_reducible refine' AL.wg_sct ?h ?_); (case h => rfl))
  | ((with_reducible refine' AL.wg_tup ?h ?_); (case h => rfl))
  | ((with_reducible refine' AL.lent_go ?h ?_); (case h => rfl))
  | ((with_reducible refine' AL.fld_go ?hi ?hC ?hn ?hl ?_); (case hi => rfl); (case hC => assumption); (case hn => assumption); (case hl => rfl))
  | ((with_reducible refine' AL.mth_go ?hi ?hl ?_); (case hi => rfl); (case hl => rfl))
  | ((with_reducible refine' AL.len_ok ?h ?_); (case h => exact Nat.le_of_ble_eq_true rfl))
  | ((with_reducible refine' AL.od_ixI ?h ?h0 ?h1 ?_); (case h => rfl); (case h0 => omega); (case h1 => omega))
  | ((with_reducible refine' AL.od_catL ?h ?h2 ?h3 ?_); (case h => rfl); (case h2 => rfl); (case h3 => first | omega | (simp only [List.length_map, List.length_append, List.length_cons, List.length_nil]; omega)))
  | ((with_reducible refine' AL.wn_slL ?_))
  | ((with_reducible refine' AL.vs_append ?h ?_); (case h => rfl))
  | (with_reducible refine' AL.vs_drop ?_))
local macro_rules | `(tactic| walk_at "al") => `(tactic| ((repeat (first | walk_at "al1" | walk_at "al2")); all_goals (try dsimp only [AL.as_eta])))
local macro_rules | `(tactic| walk_at "als") => `(tactic| ((repeat (first | walk_at "als1" | walk_at "al2")); all_goals (try dsimp only [AL.as_eta])))
local macro_rules | `(tactic| walk_at "flat") => `(tactic| simp only [AL.as_eta, AL.AS.setS, AL.entry, List.set, List.map, List.length_cons, List.length_nil, List.replicate, List.cons_append, List.nil_append])

namespace AL
open PySem L2
/-! ### lists of ints -/
theorem firstAt {ns : List Int} {M : Int} (h : M ∈ ns) : ∃ j : Nat, ns[j]? = some M ∧ ∀ m : Nat, m < j → ns[m]? ≠ some M := by
  induction ns with
  | nil => cases h
  | cons x r ih =>
    by_cases e : x = M
    · subst e; exact ⟨0, rfl, fun m hm => absurd hm (Nat.not_lt_zero _)⟩
    · have h' : M ∈ r := by rcases List.mem_cons.mp h with z | z; exact absurd z.symm e; exact z
      obtain ⟨j, h1, h2⟩ := ih h'
      refine ⟨j + 1, by simpa using h1, fun m hm => ?_⟩
      cases m with
      | zero => simpa using e
      | succ m => simpa using h2 m (by omega)
theorem sumTk (ns : List Int) (l : Nat) : (ns.take (l + 1)).sum = (ns.take l).sum + ns.getD l 0 := by
  rw [List.take_add_one, List.sum_append]
  cases e : ns[l]? with
  | none => simp [List.getD, e]
  | some v => simp [List.getD, e]
theorem sumNN {ns : List Int} (h : ∀ x ∈ ns, 0 ≤ x) : 0 ≤ ns.sum := by
  induction ns with
  | nil => simp
  | cons x r ih =>
    rw [List.sum_cons]
    have := h x (by simp)
    have := ih fun y hy => h y (by simp [hy])
    omega
theorem sumTkLe {ns : List Int} (h : ∀ x ∈ ns, 0 ≤ x) (a b : Nat) (hab : a ≤ b) : (ns.take a).sum ≤ (ns.take b).sum := by
  induction b with
  | zero => rw [Nat.le_zero.mp hab]; exact Int.le_refl _
  | succ b ih =>
    by_cases e : a = b + 1
    · subst e; exact Int.le_refl _
    · have h1 := ih (by omega)
      rw [sumTk]
      have : 0 ≤ ns.getD b 0 := by
        by_cases hb : b < ns.length
        · rw [getD_lt hb]; exact h _ (List.getElem_mem hb)
        · rw [getD_ge (by omega)]; exact Int.le_refl _
      omega
theorem getD_ints {ns : List Int} {P : Int → Prop} (h : ∀ x ∈ ns, P x) (h0 : P 0) (j : Nat) : P (ns.getD j 0) := by
  by_cases hb : j < ns.length
  · rw [getD_lt hb]; exact h _ (List.getElem_mem hb)
  · rw [getD_ge (by omega)]; exact h0
/-! ### a row of ints, a list or a tuple -/
def Seq (d : D) (ns : List Int) : Prop := d = .lst (ns.map .int) ∨ d = .tup (ns.map .int)
section
variable {c : Ct} {A : AS} {Q : QE} {d : D} {ns : List Int} {t : TA}
theorem cb_sumS (h : Seq d ns) (q : Q A (.val (.int ns.sum))) : CbD c (rSumA c.K) [.val d] A Q := by
  rcases h with rfl | rfl
  · exact cb_sumL rfl q
  · exact cb_sumT rfl q
theorem cb_maxS (h : Seq d ns) (h0 : 0 < ns.length) (q : ∀ M, M ∈ ns → (∀ y, y ∈ ns → y ≤ M) → Q A (.val (.int M))) : CbD c (rMaxA c.K) [.val d] A Q := by
  rcases h with rfl | rfl
  · exact cb_maxL rfl h0 q
  · exact cb_maxT rfl h0 q
theorem cb_lenS (h : Seq d ns) (q : Q A (.val (.int (ns.length : Nat)))) : CbD c (rLenA c.K) [.val d] A Q := by
  rcases h with rfl | rfl
  · exact cb_lenL rfl (by rw [List.length_map]; exact q)
  · exact cb_lenT rfl (by rw [List.length_map]; exact q)
theorem cn_listS {Q : AS → List D → Prop} (h : Seq d ns) (q : Q A (ns.map .int)) : CbN c (rListA c.K) [.val d] A Q := by
  rcases h with rfl | rfl
  · exact cn_listL rfl q
  · exact cn_listT rfl q
theorem od_ixS {i : Int} (h : Seq d ns) (h0 : 0 ≤ i) (h1 : i < (ns.length : Int)) (q : Q A (.val (.int (ns.getD i.toNat 0)))) : OpD c (rIx c.K) (.val d) (.val (.int i)) A Q := by
  rcases h with rfl | rfl
  · exact od_ixL rfl (atI_ints h0 h1) q
  · exact od_ixT rfl (atI_ints h0 h1) q
theorem we_indexS {i : Nat} (hi : A.s[i]? = some (some (.val d))) (h : Seq d ns) (q : WAr c t A fun A2 rs => ∃ (y : Int) (j : Nat), rs = [.val (.int y)] ∧ ns[j]? = some y ∧ (∀ m : Nat, m < j → ns[m]? ≠ some y) ∧ Q A2 (.val (.int (j : Nat)))) : WE c (tIndexA c.K (tVar i) t) A Q := by
  rcases h with rfl | rfl
  · refine we_indexL (we_var hi ⟨_, rfl, fun F G m σ H S E Qc k => q F G m σ H S E Qc fun F' m' A' vs H' rs e p S' R z => k F' m' A' vs H' rs e p S' R ?_⟩)
    obtain ⟨y, j, e1, e2, e3, e4⟩ := z
    exact ⟨ns, y, j, e1, trivial, rfl, e2, e3, e4⟩
  · exact we_indexT (we_var hi ⟨ns, rfl, q⟩)
end
theorem sumPos {ns : List Int} {x : Int} (h : ∀ y ∈ ns, 0 ≤ y) (hx : x ∈ ns) (h0 : 0 < x) : 0 < ns.sum := by
  induction ns with
  | nil => cases hx
  | cons y r ih =>
    rw [List.sum_cons]
    have h1 := h y (by simp)
    have h2 := sumNN (ns := r) fun z hz => h z (by simp [hz])
    rcases List.mem_cons.mp hx with e | e
    · subst e; omega
    · have := ih (fun z hz => h z (by simp [hz])) e; omega
/-! ### the drawn numbers -/
def AllN (ns : List Int) : Prop := ∀ n ∈ ns, 0 ≤ n ∧ n < 1000
theorem AllN.at (h : AllN ns) (j : Nat) : 0 ≤ ns.getD j 0 ∧ ns.getD j 0 < 1000 := getD_ints (P := fun x => 0 ≤ x ∧ x < 1000) h (by omega) j
theorem AllN.app {ns : List Int} {x : Int} (h : AllN ns) (hx : 0 ≤ x ∧ x < 1000) : AllN (ns ++ [x]) := fun n hn => by
  rcases List.mem_append.mp hn with h1 | h1
  · exact h n h1
  · rw [List.mem_singleton] at h1; subst h1; exact hx
/-- arguments, and a row of drawn numbers -/
def C__law_numbers : Contract := fun ds O R _ => ∃ cell at_ many : Int, ds = [.int cell, .int at_, .int many] ∧ 0 ≤ many ∧ many ≤ 1000 ∧ ∀ ns : List Int, (ns.length : Int) = many → AllN ns → R O (.lst (ns.map .int))
theorem len__law_numbers : ∀ ds O R X, C__law_numbers ds O R X → ds.length = 3 := fun _ _ _ _ h => by obtain ⟨_, _, _, rfl, _⟩ := h; rfl
/-! ### sameness -/
/-- data that _law_same may be asked of, to a depth -/
def okD : Nat → D → Prop
  | k + 1, .tup ds => ds.length < 1000 ∧ ∀ d ∈ ds, okD k d
  | _ + 1, .lst _ => True
  | _ + 1, .non => True
  | _ + 1, .bl _ => True
  | _ + 1, .int _ => True
  | _ + 1, .str _ => True
  | _, _ => False
def okE : Nat → D → Prop
  | k + 1, .tup ds => ds.length < 1000 ∧ ∀ d ∈ ds, okE k d
  | _ + 1, .non => True
  | _ + 1, .bl _ => True
  | _ + 1, .int _ => True
  | _ + 1, .str _ => True
  | _, _ => False
def sameK : Nat → D → D → Bool
  | k + 1, .tup ds, .tup es => decide (ds.length = es.length) && (List.range es.length).all fun i => sameK k (ds.getD i .non) (es.getD i .non)
  | _ + 1, .non, .non => true
  | _ + 1, .bl a, .bl b => decide (a = b)
  | _ + 1, .int a, .int b => decide (a = b)
  | _ + 1, .str a, .str b => decide (a = b)
  | _, _, _ => false
def C__law_same (k : Nat) : Contract := fun ds O R _ => ∃ a e, ds = [a, e] ∧ okD k a ∧ okE k e ∧ R O (.bl (sameK k a e))
theorem len__law_same {k : Nat} : ∀ ds O R X, C__law_same k ds O R X → ds.length = 2 := fun _ _ _ _ h => by obtain ⟨_, _, rfl, _⟩ := h; rfl
theorem none__law_same {K : PySem.W.Frag} {vs : List V} {H : Hp} {Q : VK} {E : XK} (h : SpA K (C__law_same 0) vs H Q E) : False := by
  obtain ⟨_, _, _, _, _, _, _, _, _, ⟨_, _, _, h, _⟩, _⟩ := h
  exact h
theorem same_int {k : Nat} {i j : Int} : sameK (k + 1) (.int i) (.int j) = decide (i = j) := rfl
end AL
namespace AL
open PySem L2
/-! ### data, compared -/
theorem canLay_ints : ∀ ns : List Int, PyData.canLayAll0 (ns.map PyData.int) = true
  | [] => rfl
  | n :: ns => by
    show (true && PyData.canLayAll0 (ns.map PyData.int)) = true
    rw [canLay_ints ns]; rfl
theorem depth_ints : ∀ ns : List Int, PyData.depthAll (ns.map PyData.int) ≤ 1
  | [] => by decide
  | n :: ns => by
    have := depth_ints ns
    show max _ _ ≤ 1
    exact Nat.max_le.mpr ⟨Nat.zero_le _, this⟩
theorem shaped_ints (ns : List Int) : SeqAt.shaped (.list (ns.map PyData.int)) = true := by
  unfold SeqAt.shaped
  rw [Bool.and_eq_true]
  refine ⟨canLay_ints ns, decide_eq_true ?_⟩
  have := depth_ints ns
  show _ + 1 ≤ 64
  omega
theorem eqv_ints (ns : List Int) : PyData.eqv (.list (ns.map PyData.int)) (.list (ns.map PyData.int)) = true := SeqAt.eqv_refl _ (canLay_ints ns)
theorem cutD_to {ds : List D} {n : Int} (h : 0 ≤ n) : cutD ds none (some n) = ds.take n.toNat := by
  unfold cutD
  rw [HT.sIx_none]
  have e := HT.sIx_nat ds.length ds.length n.toNat
  rw [show ((n.toNat : Nat) : Int) = n by omega] at e
  rw [e, List.drop_zero, Nat.sub_zero]
  by_cases hl : n.toNat ≤ ds.length
  · rw [Nat.min_eq_left hl]
  · rw [Nat.min_eq_right (by omega), List.take_length, List.take_of_length_le (by omega)]
end AL
namespace AL
open PySem L2
/-! ### comprehensions over rows that are told by a function -/
def noOwnB (s : List (Option SV)) (vs : List Nat) : Bool := vs.all fun i => match s[i]? with
  | some (some (.own _)) => false
  | _ => true
theorem noOwn_of {s : List (Option SV)} {vs : List Nat} (h : noOwnB s vs = true) : NoOwn s vs := fun i hi x e => by
  have := List.all_eq_true.mp h i hi
  rw [e] at this; cases this
/-- what an element may leave -/
def Keeps (vs : List Nat) (A A' : AS) : Prop := A'.o = A.o ∧ ∀ j, j ∉ vs → A'.s[j]? = A.s[j]?
theorem keeps_wipe {vs : List Nat} {A : AS} : Keeps vs A ⟨wipeA A.s vs, A.o⟩ := ⟨rfl, fun j h => wipe_keeps h⟩
theorem keeps_eta {vs : List Nat} {A A' : AS} (h : Keeps vs A A') : Keeps vs A ⟨A'.s, A'.o⟩ := h
theorem keeps_set {vs : List Nat} {A A' : AS} {i : Nat} {v : SV} (h : Keeps vs A A') (hi : i ∈ vs) : Keeps vs A (A'.setS i v) := ⟨h.1, fun j hj => by
  show (A'.s.set i (some v))[j]? = _
  rw [List.getElem?_set_ne (fun z => hj (by rw [← z]; exact hi))]; exact h.2 j hj⟩
section
variable {c : Ct} {A : AS} {te : TE} {Q : QE}
theorem fm_some {α β : Type} (h : α → β) : ∀ xs : List α, (xs.map (fun x => some (h x))).filterMap id = xs.map h
  | [] => rfl
  | x :: xs => by rw [List.map_cons, List.map_cons, List.filterMap_cons]; simp only [id]; rw [fm_some h xs]
theorem wt_yes {Q : AS → Bool → Prop} (q : Q A true) : WT c tYes A Q := fun F G m σ H S E Qc k => k F m A true H (Evl.Ex.refl F) (Pre.refl m) S q
theorem wn_lcM {α : Type} {wi : TI} {g : TG} {vs : List Nat} {Q : AS → List D → Prop} (f h : α → D) (hg : GOk g vs)
    (hw : WI c wi A fun A1 ds => ∃ xs : List α, ds = xs.map f ∧ noOwnB A1.s vs = true ∧ xs.length < 100000 ∧ (∀ x ∈ xs, WG c g (f x) ⟨wipeA A1.s vs, A1.o⟩ fun A2 => WE c te A2 fun A4 r => Frz A4 r fun A5 e => e = h x ∧ Keeps vs A1 A5) ∧ Q A1 (xs.map h)) :
    WN c (tLc wi g tYes te vs) A Q := wn_lc hg fun F G m σ H S E Rc k => hw F G m σ H S E Rc fun F' m' A1 J H' ds e p S' RJ ⟨xs, ed, no, hl, hs, q⟩ => by
  subst ed
  refine k F' m' A1 J H' _ e p S' RJ ⟨noOwn_of no, by rw [List.length_map]; exact hl, xs.map (fun x => some (h x)), by simp, fun i d hd => ?_, ?_⟩
  · rw [List.getElem?_map] at hd
    cases z : xs[i]? with
    | none => rw [z] at hd; cases hd
    | some x =>
      rw [z] at hd; cases hd
      intro F G m σ H v S R E Qc k
      refine hs x (List.mem_of_getElem? z) F G m σ H v S R E Qc fun F2 m2 A2 σ2 H2 e2 p2 S2 q2 => k F2 m2 A2 σ2 H2 e2 p2 S2 (wt_yes ⟨fun _ => ?_, fun b => nomatch b⟩)
      refine q2.imp fun A4 r q4 => ?_
      have : ∀ (A : AS) (r : RV) (P R : AS → D → Prop), (∀ A d, P A d → R A d) → Frz A r P → Frz A r R := fun A r P R hpr hf => by
        cases r with
        | val d => exact hpr _ _ hf
        | slot j =>
          simp only [Frz] at hf ⊢
          split at hf
          · exact hpr _ _ hf
          · exact hf.elim
      refine this A4 r _ _ (fun A5 e5 ⟨h1, h2⟩ => ⟨?_, h2.1, h2.2⟩) q4
      rw [List.getElem?_map, z, h1]; rfl
  · rw [fm_some]; exact q
theorem zipD_ints (a b : List Int) : zipD (a.map D.int) (b.map D.int) = (a.zip b).map fun p => .sct [.int p.1, .int p.2] := by
  apply List.ext_getElem?
  intro i
  by_cases h : i < min a.length b.length
  · have h1 : i < a.length := by omega
    have h2 : i < b.length := by omega
    unfold zipD
    rw [List.getElem?_map, List.getElem?_range (by simpa using h), List.getElem?_map, show (a.zip b)[i]? = some (a[i], b[i]) from List.getElem?_zip_eq_some.mpr ⟨List.getElem?_eq_getElem h1, List.getElem?_eq_getElem h2⟩]
    simp [List.getD, h1, h2]
  · rw [List.getElem?_eq_none (by rw [zipD_len]; simpa using h), List.getElem?_eq_none (by simpa using h)]
end
theorem frz_imp {A : AS} {r : RV} {k k' : AS → D → Prop} (h : Frz A r k) (f : ∀ A d, k A d → k' A d) : Frz A r k' := by
  unfold Frz at h ⊢
  split at h
  · exact f _ _ h
  · split at h
    · exact f _ _ h
    · exact h.elim
theorem vs_fldI {c : Ct} {A : AS} {te ta : TE} {f : Str} {nx bk ct : AS → Prop} {rt : List Cell → D → Prop} (h : WE c te A fun A1 r => Frz A1 r fun A2 d => WE c ta A2 fun A3 x => ∃ (i : Nat) (O : List Cell) (C : Addr) (fs : List (Str × D)), x = .val (.ptr i) ∧ A3.o = O.set i (.ins C fs) ∧ i < O.length ∧ Cls c.K C ∧ NoAttr c.K C f ∧ fs.length < 900 ∧ nx ⟨A3.s, O.set i (.ins C (putD f d fs))⟩) :
    WS c (sFld c.K ta te f) A ⟨nx, rt, bk, ct⟩ := ws_fld (h.imp fun A1 r z => (frz_imp z fun A2 d z2 => z2.imp fun A3 x ⟨i, O, C, fs, ex, eo, hi, hC, hn, hl, q⟩ => ⟨i, C, fs, ex, by rw [eo, List.getElem?_set_self hi], hC, hn, hl, by rw [eo, List.set_set]; exact q⟩))
theorem set_id {α : Type} {O : List α} {i : Nat} {x : α} (h : O[i]? = some x) : O = O.set i x ∧ i < O.length := by
  have hl := (List.getElem?_eq_some_iff.mp h).1
  refine ⟨?_, hl⟩
  have e := (List.getElem?_eq_some_iff.mp h).2
  rw [← e, List.set_getElem_self]
end AL
local macro_rules | `(tactic| walk_at "keeps") => `(tactic| (repeat (first | exact AL.keeps_wipe | refine AL.keeps_set ?_ (by decide) | (with_reducible refine AL.keeps_eta ?_))))

namespace AL
open PySem L2
/-! ### a net, in plain words -/
def dV (v : List Int) : D := .tup (v.map .int)
def dM (m : List (List Int)) : D := .tup (m.map dV)
def Bd (v : List Int) : Prop := ∀ x ∈ v, 0 ≤ x ∧ x < 100
def dotI (a b : List Int) (p : Int) : Int := ((a.zip b).map fun q => q.1 * q.2).sum % p
def timesI (m : List (List Int)) (v : List Int) (p : Int) : List Int := m.map fun r => dotI r v p
def plusI (a b : List Int) (p : Int) : List Int := (a.zip b).map fun q => (q.1 + q.2) % p
def scaledI (n : Int) (v : List Int) (p : Int) : List Int := v.map fun x => n * x % p
def squaresI (v : List Int) (p : Int) : List Int := v.map fun x => x * x % p
abbrev Pr := List Int × List Int
def dPr (k : Pr) : D := .tup [dV k.1, dV k.2]
def heardI (x q : List Int) : List Pr → Int → List Int
  | [], _ => x
  | k :: r, p => heardI (plusI x (scaledI (dotI q k.1 p) k.2 p) p) q r p
structure Lay where
  q : List (List Int)
  k : List (List Int)
  v : List (List Int)
  f : List (List Int)
  s : List (List Int)
def dLay (l : Lay) : D := .tup [dM l.q, dM l.k, dM l.v, dM l.f, dM l.s]
def layI (l : Lay) (x : List Int) (before : List Pr) (p : Int) : List Int × Pr :=
  let pr := (timesI l.k x p, timesI l.v x p)
  let x1 := heardI x (timesI l.q x p) (before ++ [pr]) p
  (plusI x1 (timesI l.s (squaresI (timesI l.f x1 p) p) p) p, pr)
structure Row where
  pairs : List Pr
  weights : List Int
def dRow (r : Row) : D := .tup [.tup (r.pairs.map dPr), dV r.weights]
structure NetM where
  p : Int
  emb : List (List Int)
  shift : List Int
  layers : List Lay
  out : List (List Int)
def dNet (C : Addr) (n : NetM) (e : D) : D := .obj C [("prime", .int n.p), ("end", e), ("_embed", dM n.emb), ("_shift", dV n.shift), ("_layers", .tup (n.layers.map dLay)), ("_out", dM n.out)]
def before (rows : List Row) (i : Nat) : List Pr := rows.map fun w => w.pairs.getD i ([], [])
def laysI (p : Int) (rows : List Row) : List Lay → Nat → List Int → List Pr → List Int × List Pr
  | [], _, x, ps => (x, ps)
  | l :: r, i, x, ps => laysI p rows r (i + 1) (layI l x (before rows i) p).1 (ps ++ [(layI l x (before rows i) p).2])
def rowI (n : NetM) (rows : List Row) (letter : Nat) : Row :=
  let z := laysI n.p rows n.layers 0 (plusI (n.emb.getD letter []) (scaledI rows.length n.shift n.p) n.p) []
  ⟨z.2, (timesI n.out z.1 n.p).map (· + 1)⟩
def rowsI (n : NetM) (letters : List Nat) : List Row := letters.foldl (fun rows l => rows ++ [rowI n rows l]) []
/-! what is well made -/
def BdM (m : List (List Int)) : Prop := m.length ≤ 100 ∧ ∀ r ∈ m, Bd r ∧ r.length ≤ 100
structure BdL (l : Lay) : Prop where
  q : BdM l.q
  k : BdM l.k
  v : BdM l.v
  f : BdM l.f
  s : BdM l.s
structure WfN (n : NetM) : Prop where
  p0 : 0 < n.p
  p1 : n.p < 100
  emb : BdM n.emb
  shift : Bd n.shift ∧ n.shift.length ≤ 100
  lay : n.layers.length ≤ 10 ∧ ∀ l ∈ n.layers, BdL l
  out : BdM n.out
def WfR (n : NetM) (r : Row) : Prop := r.pairs.length = n.layers.length ∧ ∀ k ∈ r.pairs, Bd k.2 ∧ k.2.length ≤ 100
theorem bd_mod {α : Type} {f : α → Int} {p : Int} (h0 : 0 < p) (h1 : p < 100) (xs : List α) : Bd (xs.map fun x => f x % p) := fun x hx => by
  obtain ⟨y, _, rfl⟩ := List.mem_map.mp hx
  have := Int.emod_nonneg (f y) (show p ≠ 0 by omega)
  have := Int.emod_lt_of_pos (f y) h0
  omega
theorem bd_times {m : List (List Int)} {v : List Int} {p : Int} (h0 : 0 < p) (h1 : p < 100) : Bd (timesI m v p) := bd_mod h0 h1 m
theorem bd_plus {a b : List Int} {p : Int} (h0 : 0 < p) (h1 : p < 100) : Bd (plusI a b p) := bd_mod h0 h1 _
theorem bd_scaled {n : Int} {v : List Int} {p : Int} (h0 : 0 < p) (h1 : p < 100) : Bd (scaledI n v p) := bd_mod h0 h1 _
theorem bd_squares {v : List Int} {p : Int} (h0 : 0 < p) (h1 : p < 100) : Bd (squaresI v p) := bd_mod h0 h1 _
theorem bd_heard {q : List Int} {p : Int} (h0 : 0 < p) (h1 : p < 100) : ∀ (ps : List Pr) (x : List Int), Bd x → Bd (heardI x q ps p)
  | [], x, h => h
  | k :: r, x, h => bd_heard h0 h1 r _ (bd_plus h0 h1)
theorem dotI_bd {a b : List Int} {p : Int} (h0 : 0 < p) (h1 : p < 100) : 0 ≤ dotI a b p ∧ dotI a b p < 100 := by
  have := Int.emod_nonneg ((a.zip b).map fun q => q.1 * q.2).sum (show p ≠ 0 by omega)
  have := Int.emod_lt_of_pos ((a.zip b).map fun q => q.1 * q.2).sum h0
  unfold dotI; omega
theorem plus_len {a b : List Int} {p : Int} : (plusI a b p).length ≤ a.length := by unfold plusI; rw [List.length_map, List.length_zip]; omega
theorem heard_len {q : List Int} {p : Int} : ∀ (ps : List Pr) (x : List Int), (heardI x q ps p).length ≤ x.length
  | [], x => Nat.le_refl _
  | k :: r, x => Nat.le_trans (heard_len r _) plus_len
theorem lay_len {l : Lay} {x : List Int} {ps : List Pr} {p : Int} : (layI l x ps p).1.length ≤ x.length := Nat.le_trans plus_len (heard_len _ _)
theorem lay_bd {l : Lay} {x : List Int} {ps : List Pr} {p : Int} (h0 : 0 < p) (h1 : p < 100) : Bd (layI l x ps p).1 := bd_plus h0 h1
theorem lay_pr {l : Lay} {x : List Int} {ps : List Pr} {p : Int} (h0 : 0 < p) (h1 : p < 100) (hl : BdL l) : Bd (layI l x ps p).2.2 ∧ (layI l x ps p).2.2.length ≤ 100 := ⟨bd_times h0 h1, by show (timesI _ _ _).length ≤ 100; unfold timesI; rw [List.length_map]; exact hl.v.1⟩
theorem noLst_dV (v : List Int) : NoLst (dV v) := .tup (noLsts_ints v)
theorem noLst_dM (m : List (List Int)) : NoLst (dM m) := .tup (noLsts_map noLst_dV m)
theorem noLst_dPr (k : Pr) : NoLst (dPr k) := .tup (.cons (noLst_dV _) (.cons (noLst_dV _) .nil))
theorem noLst_dRow (r : Row) : NoLst (dRow r) := .tup (.cons (.tup (noLsts_map noLst_dPr _)) (.cons (noLst_dV _) .nil))
/-! ### what the defs promise -/
section
def C_dot : Contract := fun ds O R _ => ∃ a d b p, ds = [dV a, d, .int p] ∧ Seq d b ∧ Bd a ∧ a.length ≤ 1000 ∧ 0 < p ∧ R O (.int (dotI a b p))
def C_times : Contract := fun ds O R _ => ∃ m d v p, ds = [dM m, d, .int p] ∧ Seq d v ∧ BdM m ∧ 0 < p ∧ R O (dV (timesI m v p))
def C_plus : Contract := fun ds O R _ => ∃ a b p, ds = [dV a, dV b, .int p] ∧ a.length ≤ 1000 ∧ 0 < p ∧ R O (dV (plusI a b p))
def C_scaled : Contract := fun ds O R _ => ∃ n v p, ds = [.int n, dV v, .int p] ∧ Bd v ∧ v.length ≤ 1000 ∧ 0 < p ∧ R O (dV (scaledI n v p))
def C_with_heard : Contract := fun ds O R _ => ∃ x q ps p, ds = [dV x, dV q, .lst (ps.map dPr), .int p] ∧ Bd q ∧ q.length ≤ 1000 ∧ x.length ≤ 1000 ∧ (∀ k ∈ ps, Bd k.2 ∧ k.2.length ≤ 1000) ∧ 0 < p ∧ p < 100 ∧ R O (dV (heardI x q ps p))
def behI (l : Lay) (x : List Int) (ps : List Pr) (p : Int) : List Int := plusI (heardI x (timesI l.q x p) ps p) (timesI l.s (squaresI (timesI l.f (heardI x (timesI l.q x p) ps p) p) p) p) p
def prI (l : Lay) (x : List Int) (p : Int) : Pr := (timesI l.k x p, timesI l.v x p)
theorem layI_eq {l : Lay} {x : List Int} {ps : List Pr} {p : Int} : layI l x ps p = (behI l x (ps ++ [prI l x p]) p, prI l x p) := rfl
def C_pair_of : Contract := fun ds O R _ => ∃ l x p, ds = [dLay l, dV x, .int p] ∧ BdL l ∧ 0 < p ∧ R O (dPr (prI l x p))
def C_squared : Contract := fun ds O R _ => ∃ v p, ds = [dV v, .int p] ∧ Bd v ∧ v.length ≤ 1000 ∧ 0 < p ∧ R O (dV (squaresI v p))
def C_behind_layer : Contract := fun ds O R _ => ∃ l x ps p, ds = [dLay l, dV x, .lst (ps.map dPr), .int p] ∧ BdL l ∧ Bd x ∧ x.length ≤ 100 ∧ ps.length ≤ 1000 ∧ (∀ k ∈ ps, Bd k.2 ∧ k.2.length ≤ 100) ∧ 0 < p ∧ p < 100 ∧ R O (dV (behI l x ps p))
theorem len_dot : ∀ ds O R X, C_dot ds O R X → ds.length = 3 := fun _ _ _ _ h => by obtain ⟨_, _, _, _, rfl, _⟩ := h; rfl
theorem len_times : ∀ ds O R X, C_times ds O R X → ds.length = 3 := fun _ _ _ _ h => by obtain ⟨_, _, _, _, rfl, _⟩ := h; rfl
theorem len_plus : ∀ ds O R X, C_plus ds O R X → ds.length = 3 := fun _ _ _ _ h => by obtain ⟨_, _, _, rfl, _⟩ := h; rfl
theorem len_scaled : ∀ ds O R X, C_scaled ds O R X → ds.length = 3 := fun _ _ _ _ h => by obtain ⟨_, _, _, rfl, _⟩ := h; rfl
theorem len_with_heard : ∀ ds O R X, C_with_heard ds O R X → ds.length = 4 := fun _ _ _ _ h => by obtain ⟨_, _, _, _, rfl, _⟩ := h; rfl
theorem len_pair_of : ∀ ds O R X, C_pair_of ds O R X → ds.length = 3 := fun _ _ _ _ h => by obtain ⟨_, _, _, rfl, _⟩ := h; rfl
theorem len_squared : ∀ ds O R X, C_squared ds O R X → ds.length = 2 := fun _ _ _ _ h => by obtain ⟨_, _, rfl, _⟩ := h; rfl
theorem len_behind_layer : ∀ ds O R X, C_behind_layer ds O R X → ds.length = 4 := fun _ _ _ _ h => by obtain ⟨_, _, _, _, rfl, _⟩ := h; rfl
end
theorem Seq.sq {d : D} {ns : List Int} (h : Seq d ns) : sqD d = some (ns.map .int) := by rcases h with rfl | rfl <;> rfl
theorem lays_wf {p : Int} {rows : List Row} (h0 : 0 < p) (h1 : p < 100) : ∀ (ls : List Lay) (i : Nat) (x : List Int) (ps : List Pr), (∀ l ∈ ls, BdL l) → (∀ k ∈ ps, Bd k.2 ∧ k.2.length ≤ 100) → (laysI p rows ls i x ps).2.length = ps.length + ls.length ∧ ∀ k ∈ (laysI p rows ls i x ps).2, Bd k.2 ∧ k.2.length ≤ 100
  | [], i, x, ps, hl, hp => ⟨rfl, hp⟩
  | l :: r, i, x, ps, hl, hp => by
    have h := lays_wf (rows := rows) h0 h1 r (i + 1) (layI l x (before rows i) p).1 (ps ++ [(layI l x (before rows i) p).2]) (fun l h => hl l (List.mem_cons_of_mem _ h)) (fun k hk => by
      rcases List.mem_append.mp hk with h | h
      · exact hp k h
      · rw [List.mem_singleton] at h; subst h; exact lay_pr h0 h1 (hl l (List.mem_cons_self ..)))
    refine ⟨?_, h.2⟩
    show (laysI p rows r (i + 1) _ _).2.length = _
    rw [h.1, List.length_append, List.length_cons]; simp; omega
theorem row_wf {n : NetM} (hw : WfN n) (rows : List Row) (l : Nat) : WfR n (rowI n rows l) := by
  have h := lays_wf (rows := rows) hw.p0 hw.p1 n.layers 0 (plusI (n.emb.getD l []) (scaledI rows.length n.shift n.p) n.p) [] hw.lay.2 (fun k h => (nomatch h))
  exact ⟨by have e := h.1; simp only [List.length_nil, Nat.zero_add] at e; exact e, h.2⟩
theorem rows_snoc {n : NetM} {ls : List Nat} {l : Nat} : rowsI n (ls ++ [l]) = rowsI n ls ++ [rowI n (rowsI n ls) l] := by
  unfold rowsI; rw [List.foldl_append]; rfl
theorem take_succ {α : Type} {xs : List α} {i : Nat} {x : α} (h : xs[i]? = some x) : xs.take (i + 1) = xs.take i ++ [x] := by
  rw [List.take_succ, h]; rfl
theorem rows_at {n : NetM} {ls : List Nat} {i l : Nat} (h : ls[i]? = some l) : rowsI n (ls.take (i + 1)) = rowsI n (ls.take i) ++ [rowI n (rowsI n (ls.take i)) l] := by
  rw [take_succ h, rows_snoc]
theorem rows_len {n : NetM} {ls : List Nat} : (rowsI n ls).length = ls.length := by
  have h : ∀ (m : Nat), m ≤ ls.length → (rowsI n (ls.take m)).length = m := fun m => by
    induction m with
    | zero => intro _; rfl
    | succ m ih =>
      intro hm
      have hl : m < ls.length := by omega
      rw [rows_at (List.getElem?_eq_getElem hl), List.length_append, ih (by omega)]; rfl
  have := h ls.length (Nat.le_refl _)
  rwa [List.take_length] at this
theorem rows_wf {n : NetM} (hw : WfN n) {ls : List Nat} : ∀ r ∈ rowsI n ls, WfR n r := by
  have h : ∀ (m : Nat), m ≤ ls.length → ∀ r ∈ rowsI n (ls.take m), WfR n r := fun m => by
    induction m with
    | zero => intro _ r hr; exact (nomatch hr)
    | succ m ih =>
      intro hm r hr
      have hl : m < ls.length := by omega
      rw [rows_at (List.getElem?_eq_getElem hl)] at hr
      rcases List.mem_append.mp hr with h | h
      · exact ih (by omega) r h
      · rw [List.mem_singleton] at h; subst h; exact row_wf hw _ _
  have := h ls.length (Nat.le_refl _)
  rwa [List.take_length] at this
def Wit (ns : List Int) : Prop := ns.length ≤ 100
def RowsD (d : D) (rows : List Row) : Prop := d = .lst (rows.map dRow) ∨ d = .tup (rows.map dRow)
theorem RowsD.sq {d : D} {rows : List Row} (h : RowsD d rows) : sqD d = some (rows.map dRow) := by rcases h with rfl | rfl <;> rfl
theorem cb_lenR {c : Ct} {A : AS} {Q : QE} {d : D} {rows : List Row} (h : RowsD d rows) (q : Q A (.val (.int rows.length))) : CbD c (rLenA c.K) [.val d] A Q := by
  rcases h with rfl | rfl
  · exact cb_lenL rfl (by rw [List.length_map]; exact q)
  · exact cb_lenT rfl (by rw [List.length_map]; exact q)
theorem drop_at {α : Type} {xs : List α} {i : Nat} {x : α} (h : xs[i]? = some x) : xs.drop i = x :: xs.drop (i + 1) := by
  have hi := (List.getElem?_eq_some_iff.mp h).1
  rw [List.drop_eq_getElem_cons hi]; congr 1; exact (List.getElem?_eq_some_iff.mp h).2
def PrimesL : List Int := [2, 3, 5, 7, 11, 13, 17, 19, 23, 29, 31, 37, 41, 43, 47, 53, 59, 61, 67, 71, 73, 79, 83, 89, 97]
def netF (n : NetM) (e : D) : List (Str × D) := [("prime", .int n.p), ("end", e), ("_embed", dM n.emb), ("_shift", dV n.shift), ("_layers", .tup (n.layers.map dLay)), ("_out", dM n.out)]
section
variable (C : Addr)
def C_vectors : Contract := fun ds O R _ => ∃ m, ds = [dM m] ∧ m.length ≤ 1000 ∧ R O (dM m)
def C_is_integer : Contract := fun ds O R _ => ∃ n : Int, ds = [.int n] ∧ R O (.bl true)
def C_is_from : Contract := fun ds O R _ => ∃ n a b : Int, ds = [.int n, .int a, .int b] ∧ a ≤ n ∧ n ≤ b ∧ R O (.bl true)
def C_Net___init__ : Contract := fun ds O R _ => ∃ (i : Nat) (n : NetM) (e : D), ds = [.ptr i, .int n.p, dM n.emb, dV n.shift, .tup (n.layers.map dLay), dM n.out, e] ∧ O[i]? = some (.ins C []) ∧ n.p ∈ PrimesL ∧ WfN n ∧ R (O.set i (.ins C (netF n e))) .non
def C_Net_letters : Contract := fun ds O R _ => ∃ n e, ds = [dNet C n e] ∧ n.emb.length ≤ 1000 ∧ R O (.int n.emb.length)
def C_Net_vector_of : Contract := fun ds O R _ => ∃ n e l m, ds = [dNet C n e, .int (l : Nat), .int (m : Nat)] ∧ WfN n ∧ l < n.emb.length ∧ R O (dV (plusI (n.emb.getD l []) (scaledI m n.shift n.p) n.p))
def C_Net_weights_of : Contract := fun ds O R _ => ∃ n e x, ds = [dNet C n e, dV x] ∧ WfN n ∧ R O (dV ((timesI n.out x n.p).map (· + 1)))
def C_Net_row : Contract := fun ds O R _ => ∃ n e d rows l, ds = [dNet C n e, d, .int (l : Nat)] ∧ RowsD d rows ∧ WfN n ∧ l < n.emb.length ∧ rows.length ≤ 500 ∧ (∀ r ∈ rows, WfR n r) ∧ R O (dRow (rowI n rows l))
def C_rows_of : Contract := fun ds O R _ => ∃ n e d ls, ds = [dNet C n e, d] ∧ Seq d (ls.map Int.ofNat) ∧ WfN n ∧ (∀ l ∈ ls, l < n.emb.length) ∧ ls.length ≤ 500 ∧ NoLstO O ∧ R O (.tup ((rowsI n ls).map dRow))
variable {C}
theorem len_vectors : ∀ ds O R X, C_vectors ds O R X → ds.length = 1 := fun _ _ _ _ h => by obtain ⟨_, rfl, _⟩ := h; rfl
theorem len_is_integer : ∀ ds O R X, C_is_integer ds O R X → ds.length = 1 := fun _ _ _ _ h => by obtain ⟨_, rfl, _⟩ := h; rfl
theorem len_is_from : ∀ ds O R X, C_is_from ds O R X → ds.length = 3 := fun _ _ _ _ h => by obtain ⟨_, _, _, rfl, _⟩ := h; rfl
theorem len_Net___init__ : ∀ ds O R X, C_Net___init__ C ds O R X → ds.length = 7 := fun _ _ _ _ h => by obtain ⟨_, _, _, rfl, _⟩ := h; rfl
theorem len_Net_letters : ∀ ds O R X, C_Net_letters C ds O R X → ds.length = 1 := fun _ _ _ _ h => by obtain ⟨_, _, rfl, _⟩ := h; rfl
theorem len_Net_vector_of : ∀ ds O R X, C_Net_vector_of C ds O R X → ds.length = 3 := fun _ _ _ _ h => by obtain ⟨_, _, _, _, rfl, _⟩ := h; rfl
theorem len_Net_weights_of : ∀ ds O R X, C_Net_weights_of C ds O R X → ds.length = 2 := fun _ _ _ _ h => by obtain ⟨_, _, _, rfl, _⟩ := h; rfl
theorem len_Net_row : ∀ ds O R X, C_Net_row C ds O R X → ds.length = 3 := fun _ _ _ _ h => by obtain ⟨_, _, _, _, _, rfl, _⟩ := h; rfl
theorem len_rows_of : ∀ ds O R X, C_rows_of C ds O R X → ds.length = 2 := fun _ _ _ _ h => by obtain ⟨_, _, _, _, rfl, _⟩ := h; rfl
end
/-! ### the law's own net -/
def dNetT (n : NetM) : D := .tup [.int n.p, dM n.emb, dV n.shift, .tup (n.layers.map dLay), dM n.out]
/-- all widths are w -/
def MW (w : Nat) (m : List (List Int)) : Prop := ∀ r ∈ m, r.length = w
structure LW5 (w : Nat) (l : Lay) : Prop where
  q : MW w l.q ∧ l.q.length = w
  k : MW w l.k ∧ l.k.length = w
  v : MW w l.v ∧ l.v.length = w
  f : MW w l.f ∧ l.f.length = w
  s : MW w l.s ∧ l.s.length = w
structure WidN (w : Nat) (n : NetM) : Prop where
  emb : MW w n.emb
  shift : n.shift.length = w
  lay : ∀ l ∈ n.layers, LW5 w l
  out : MW w n.out
def C__law_vector : Contract := fun ds O R _ => ∃ (ns : List Int) (a w : Nat) (p : Int), ds = [.lst (ns.map .int), .int (a : Nat), .int (w : Nat), .int p] ∧ 0 < ns.length ∧ ns.length ≤ 1000 ∧ a ≤ 100000 ∧ w ≤ 10 ∧ 0 < p ∧ p < 100 ∧ AllN ns ∧ ∀ v : List Int, v.length = w → Bd v → R O (dV v)
def C__law_net : Contract := fun ds O R _ => ∃ (ns : List Int) (l w m : Nat) (p : Int), ds = [.lst (ns.map .int), .int (l : Nat), .int (w : Nat), .int (m : Nat), .int p] ∧ 0 < ns.length ∧ ns.length ≤ 1000 ∧ AllN ns ∧ 0 < l ∧ l ≤ 13 ∧ 0 < w ∧ w ≤ 4 ∧ m ≤ 4 ∧ 0 < p ∧ p < 100 ∧ ∀ n : NetM, n.p = p → WfN n → WidN w n → n.emb.length = l → n.out.length = l → R O (dNetT n)
def C__law_dot : Contract := fun ds O R _ => ∃ d e a b p, ds = [d, e, .int p] ∧ Seq d a ∧ Seq e b ∧ Bd a ∧ a.length ≤ 100 ∧ a.length ≤ b.length ∧ 0 < p ∧ R O (.int (dotI a b p))
def C__law_times : Contract := fun ds O R _ => ∃ m d v p, ds = [dM m, d, .int p] ∧ Seq d v ∧ BdM m ∧ MW v.length m ∧ 0 < p ∧ R O (.lst ((timesI m v p).map .int))
def C__law_row : Contract := fun ds O R _ => ∃ n w rows l, ds = [dNetT n, .lst (rows.map dRow), .int (l : Nat)] ∧ WfN n ∧ WidN w n ∧ l < n.emb.length ∧ rows.length ≤ 500 ∧ (∀ r ∈ rows, WfR n r ∧ ∀ k ∈ r.pairs, Bd k.1 ∧ k.1.length = w ∧ k.2.length = w) ∧ R O (dRow (rowI n rows l))
def C__law_rows : Contract := fun ds O R _ => ∃ n w ls d, ds = [dNetT n, d] ∧ Seq d (ls.map Int.ofNat) ∧ WfN n ∧ WidN w n ∧ (∀ l ∈ ls, l < n.emb.length) ∧ ls.length ≤ 500 ∧ NoLstO O ∧ R O (.lst ((rowsI n ls).map dRow))
theorem len__law_vector : ∀ ds O R X, C__law_vector ds O R X → ds.length = 4 := fun _ _ _ _ h => by obtain ⟨_, _, _, _, rfl, _⟩ := h; rfl
theorem len__law_net : ∀ ds O R X, C__law_net ds O R X → ds.length = 5 := fun _ _ _ _ h => by obtain ⟨_, _, _, _, _, rfl, _⟩ := h; rfl
theorem len__law_dot : ∀ ds O R X, C__law_dot ds O R X → ds.length = 3 := fun _ _ _ _ h => by obtain ⟨_, _, _, _, _, rfl, _⟩ := h; rfl
theorem len__law_times : ∀ ds O R X, C__law_times ds O R X → ds.length = 3 := fun _ _ _ _ h => by obtain ⟨_, _, _, _, rfl, _⟩ := h; rfl
theorem len__law_row : ∀ ds O R X, C__law_row ds O R X → ds.length = 3 := fun _ _ _ _ h => by obtain ⟨_, _, _, _, rfl, _⟩ := h; rfl
theorem len__law_rows : ∀ ds O R X, C__law_rows ds O R X → ds.length = 2 := fun _ _ _ _ h => by obtain ⟨_, _, _, _, rfl, _⟩ := h; rfl
/-! ### the same sums, told by places -/
theorem plusG {a b : List Int} {n p : Int} (h : a.length = b.length) : ((List.range a.length).map fun k => (a.getD k 0 + n * b.getD k 0) % p) = plusI a (scaledI n b p) p := by
  apply List.ext_getElem
  · unfold plusI scaledI; simp [List.length_zip]; omega
  · intro i h1 h2
    have hi : i < a.length := by simpa using h1
    simp only [plusI, scaledI, List.getElem_map, List.getElem_range, List.getElem_zip]
    rw [getD_lt hi, getD_lt (by omega)]
    simp [Int.add_emod]
theorem plusM {a b : List Int} {p : Int} (h : a.length = b.length) : ((List.range a.length).map fun k => (a.getD k 0 + b.getD k 0) % p) = plusI a b p := by
  apply List.ext_getElem
  · unfold plusI; simp [List.length_zip]; omega
  · intro i h1 h2
    have hi : i < a.length := by simpa using h1
    simp only [plusI, List.getElem_map, List.getElem_range, List.getElem_zip]
    rw [getD_lt hi, getD_lt (by omega)]
theorem dot_mod {p : Int} : ∀ (a b : List Int), dotI a (b.map (· % p)) p = dotI a b p
  | [], _ => by simp [dotI]
  | _ :: _, [] => by simp [dotI]
  | x :: a, y :: b => by
    have h := dot_mod (p := p) a b
    simp only [dotI, List.map_cons, List.zip_cons_cons, List.sum_cons] at h ⊢
    rw [Int.add_emod, h, Int.add_emod (x * y)]
    congr 2
    rw [Int.mul_emod, Int.emod_emod, ← Int.mul_emod]
theorem times_sq {m : List (List Int)} {v : List Int} {p : Int} : timesI m (v.map fun y => y * y) p = timesI m (squaresI v p) p := by
  unfold timesI
  apply List.map_congr_left
  intro r _
  rw [← dot_mod r (v.map fun y => y * y)]
  simp [squaresI, List.map_map, Function.comp_def]
theorem rangeG {a b : List Int} {n p : Int} {w : Nat} (h : a.length = b.length) (hl : a.length = w) : ((List.range w).map fun k => D.int ((a.getD k 0 + n * b.getD k 0) % p)) = (plusI a (scaledI n b p) p).map D.int := by
  rw [← plusG h, List.map_map, hl]; rfl
theorem rangeM {a b : List Int} {p : Int} {w : Nat} (h : a.length = b.length) (hl : a.length = w) : ((List.range w).map fun k => D.int ((a.getD k 0 + b.getD k 0) % p)) = (plusI a b p).map D.int := by
  rw [← plusM h, List.map_map, hl]; rfl
theorem intsD_range (n : Nat) : intsD 0 n = (List.range n).map fun k => D.int (0 + (k : Nat)) := rfl
theorem plusI_len2 {a b : List Int} {p : Int} (h : a.length = b.length) : (plusI a b p).length = a.length := by unfold plusI; rw [List.length_map, List.length_zip]; omega
theorem z0 (k : Nat) : (0 + (k : Int)).toNat = k := by omega
theorem lays_wid {p : Int} {rows : List Row} {w : Nat} (h0 : 0 < p) (h1 : p < 100) : ∀ (ls : List Lay) (i : Nat) (x : List Int) (ps : List Pr), (∀ l ∈ ls, LW5 w l) → (∀ k ∈ ps, Bd k.1 ∧ k.1.length = w ∧ k.2.length = w) → ∀ k ∈ (laysI p rows ls i x ps).2, Bd k.1 ∧ k.1.length = w ∧ k.2.length = w
  | [], i, x, ps, hl, hp => hp
  | l :: r, i, x, ps, hl, hp => lays_wid h0 h1 r (i + 1) (layI l x (before rows i) p).1 (ps ++ [(layI l x (before rows i) p).2]) (fun l h => hl l (List.mem_cons_of_mem _ h)) (fun k hk => by
      rcases List.mem_append.mp hk with h | h
      · exact hp k h
      · rw [List.mem_singleton] at h; subst h
        have hw := hl l (List.mem_cons_self ..)
        exact ⟨bd_times h0 h1, by show (timesI _ _ _).length = _; unfold timesI; rw [List.length_map]; exact hw.k.2, by show (timesI _ _ _).length = _; unfold timesI; rw [List.length_map]; exact hw.v.2⟩)
theorem rows_wid {n : NetM} {w : Nat} (hw : WfN n) (hd : WidN w n) {ls : List Nat} : ∀ r ∈ rowsI n ls, ∀ k ∈ r.pairs, Bd k.1 ∧ k.1.length = w ∧ k.2.length = w := by
  have h : ∀ (m : Nat), m ≤ ls.length → ∀ r ∈ rowsI n (ls.take m), ∀ k ∈ r.pairs, Bd k.1 ∧ k.1.length = w ∧ k.2.length = w := fun m => by
    induction m with
    | zero => intro _ r hr; exact (nomatch hr)
    | succ m ih =>
      intro hm r hr
      have hl : m < ls.length := by omega
      rw [rows_at (List.getElem?_eq_getElem hl)] at hr
      rcases List.mem_append.mp hr with h | h
      · exact ih (by omega) r h
      · rw [List.mem_singleton] at h; subst h
        exact lays_wid hw.p0 hw.p1 n.layers 0 _ [] hd.lay (fun k h => (nomatch h))
  have := h ls.length (Nat.le_refl _)
  rwa [List.take_length] at this
theorem cutD_mid {α : Type} {f : α → D} {xs : List α} {a b : Nat} (h : a ≤ b) (hb : b ≤ xs.length) : cutD (xs.map f) (some (a : Int)) (some (b : Int)) = ((xs.drop a).take (b - a)).map f := by
  unfold cutD
  rw [HT.sIx_nat, HT.sIx_nat, List.length_map, Nat.min_eq_left hb, Nat.min_eq_left (by omega), ← List.map_drop, ← List.map_take]
theorem cutD_tn {α : Type} {f : α → D} {xs : List α} {a : Nat} : cutD (xs.map f) none (some (a : Int)) = (xs.take a).map f := by
  rw [cutD_to (by omega), List.map_take]; congr 1
def MM (w : Nat) (m : List (List Int)) : Prop := ∀ r ∈ m, Bd r ∧ r.length = w
theorem MM.bd {w : Nat} {m : List (List Int)} (h : MM w m) (hw : w ≤ 100) (hl : m.length ≤ 100) : BdM m := ⟨hl, fun r hr => ⟨(h r hr).1, by rw [(h r hr).2]; exact hw⟩⟩
theorem MM.mw {w : Nat} {m : List (List Int)} (h : MM w m) : MW w m := fun r hr => (h r hr).2
theorem MM.sub {w : Nat} {m m' : List (List Int)} (h : MM w m) (hs : ∀ r ∈ m', r ∈ m) : MM w m' := fun r hr => h r (hs r hr)
theorem sub_cut {α : Type} {xs : List α} {a b : Nat} : ∀ r ∈ (xs.drop a).take b, r ∈ xs := fun r hr => List.mem_of_mem_drop (List.mem_of_mem_take hr)
section
variable {c : Ct} {A : AS} {te : TE} {Q : QE}
theorem wi_zipS {a b : List Int} {d : D} {ta : TA} {Q : AS → List D → Prop} (hd : Seq d b) (h : WA c ta A fun A1 xs => xs = [dV a, d] ∧ Q A1 ((a.zip b).map fun p => .sct [.int p.1, .int p.2])) : WI c (iZipAA c.K ta) A Q := by
  rcases hd with rfl | rfl
  · exact wi_zipM fun F G m σ H S E Qc k => h F G m σ H S E Qc fun F' m' A' vs H' ds e p S' R ⟨h1, h2⟩ => k F' m' A' vs H' ds e p S' R ⟨_, _, h1, by rw [zipD_ints]; exact h2⟩
  · exact wi_zipT fun F G m σ H S E Qc k => h F G m σ H S E Qc fun F' m' A' vs H' ds e p S' R ⟨h1, h2⟩ => k F' m' A' vs H' ds e p S' R ⟨_, _, h1, by rw [zipD_ints]; exact h2⟩
end
end AL

namespace AL
open PySem L2
/-! ### rows compared, cut and told again -/
theorem layAll {ps : List PyData} (h : ∀ p ∈ ps, p.canLay0 = true) : PyData.canLayAll0 ps = true := by
  induction ps with
  | nil => rfl
  | cons p ps ih =>
    show (p.canLay0 && PyData.canLayAll0 ps) = true
    rw [h p (by simp), ih (fun q hq => h q (by simp [hq]))]; rfl
theorem depAll {ps : List PyData} {n : Nat} (h : ∀ p ∈ ps, p.depth ≤ n) : PyData.depthAll ps ≤ n := by
  induction ps with
  | nil => exact Nat.zero_le _
  | cons p ps ih =>
    show max _ _ ≤ n
    exact Nat.max_le.mpr ⟨h p (by simp), ih (fun q hq => h q (by simp [hq]))⟩
theorem layTup {α : Type} {f : α → PyData} {xs : List α} (h : ∀ x, (f x).canLay0 = true) : (PyData.tuple (xs.map f)).canLay0 = true := layAll (ps := xs.map f) fun p hp => by obtain ⟨x, _, rfl⟩ := List.mem_map.mp hp; exact h x
theorem depTup {α : Type} {f : α → PyData} {xs : List α} {n : Nat} (h : ∀ x, (f x).depth ≤ n) : (PyData.tuple (xs.map f)).depth ≤ n + 1 := Nat.succ_le_succ (depAll (ps := xs.map f) fun p hp => by obtain ⟨x, _, rfl⟩ := List.mem_map.mp hp; exact h x)
def pV (v : List Int) : PyData := .tuple (v.map .int)
def pPr (k : Pr) : PyData := .tuple ([k.1, k.2].map pV)
def pRow (r : Row) : PyData := .tuple ([.tuple (r.pairs.map pPr), pV r.weights])
def pRows (rs : List Row) : PyData := .tuple (rs.map pRow)
theorem pysMap {α : Type} {f : α → D} {g : α → PyData} (h : ∀ x, Py (f x) (g x)) : ∀ xs : List α, Pys (xs.map f) (xs.map g)
  | [] => .nil
  | x :: xs => .cons (h x) (pysMap h xs)
theorem py_V (v : List Int) : Py (dV v) (pV v) := .tup (pysMap (fun i => .int i) v)
theorem py_Pr (k : Pr) : Py (dPr k) (pPr k) := .tup (.cons (py_V _) (.cons (py_V _) .nil))
theorem py_Row (r : Row) : Py (dRow r) (pRow r) := .tup (.cons (.tup (pysMap py_Pr _)) (.cons (py_V _) .nil))
theorem py_Rows (rs : List Row) : Py (.tup (rs.map dRow)) (pRows rs) := .tup (pysMap py_Row _)
theorem can_V (v : List Int) : (pV v).canLay0 = true := layTup fun _ => rfl
theorem can_Pr (k : Pr) : (pPr k).canLay0 = true := layTup can_V
theorem can_Row (r : Row) : (pRow r).canLay0 = true := layAll (ps := [.tuple (r.pairs.map pPr), pV r.weights]) fun p hp => by
  simp only [List.mem_cons, List.not_mem_nil, or_false] at hp
  rcases hp with rfl | rfl
  · exact layTup can_Pr
  · exact can_V _
theorem can_Rows (rs : List Row) : (pRows rs).canLay0 = true := layTup can_Row
theorem dep_V (v : List Int) : (pV v).depth ≤ 1 := depTup (n := 0) fun _ => Nat.le_refl _
theorem dep_Pr (k : Pr) : (pPr k).depth ≤ 2 := depTup dep_V
theorem dep_Row (r : Row) : (pRow r).depth ≤ 4 := Nat.succ_le_succ (depAll (ps := [.tuple (r.pairs.map pPr), pV r.weights]) fun p hp => by
  simp only [List.mem_cons, List.not_mem_nil, or_false] at hp
  rcases hp with rfl | rfl
  · exact depTup dep_Pr
  · exact Nat.le_trans (dep_V _) (by decide))
theorem dep_Rows (rs : List Row) : (pRows rs).depth ≤ 5 := depTup dep_Row
theorem shaped_Rows (rs : List Row) : SeqAt.shaped (pRows rs) = true := by
  unfold SeqAt.shaped
  rw [Bool.and_eq_true]
  exact ⟨can_Rows rs, decide_eq_true (Nat.le_trans (dep_Rows rs) (by decide))⟩
theorem eqv_Rows (rs : List Row) : PyData.eqv (pRows rs) (pRows rs) = true := SeqAt.eqv_refl _ (can_Rows rs)
/-! sameness of rows -/
theorem same_refl : ∀ (k : Nat) (d : D), okE k d → sameK k d d = true
  | 0, d, h => by cases d <;> exact h.elim
  | k + 1, d, h => by
    cases d <;> first
      | exact (h : False).elim
      | rfl
      | (simp only [sameK, decide_true]; done)
      | skip
    rename_i ds
    have h : ds.length < 1000 ∧ ∀ d ∈ ds, okE k d := h
    simp only [sameK, decide_true, Bool.true_and]
    refine List.all_eq_true.mpr fun i hi => ?_
    have hi := List.mem_range.mp hi
    rw [getD_lt hi]
    exact same_refl k _ (h.2 _ (List.getElem_mem hi))
theorem okD_of : ∀ (k : Nat) (d : D), okE k d → okD k d
  | 0, d, h => by cases d <;> exact h.elim
  | k + 1, d, h => by
    cases d <;> first
      | exact (h : False).elim
      | exact trivial
      | skip
    rename_i ds
    have h : ds.length < 1000 ∧ ∀ d ∈ ds, okE k d := h
    exact ⟨h.1, fun d hd => okD_of k d (h.2 d hd)⟩
theorem okE_V {k : Nat} {v : List Int} (h : v.length < 1000) : okE (k + 2) (dV v) := ⟨by rw [List.length_map]; exact h, fun d hd => by obtain ⟨i, _, rfl⟩ := List.mem_map.mp hd; exact trivial⟩
theorem okE_Row {k : Nat} {r : Row} (hp : r.pairs.length < 1000) (hv : ∀ q ∈ r.pairs, q.1.length < 1000 ∧ q.2.length < 1000) (hw : r.weights.length < 1000) : okE (k + 5) (dRow r) := by
  refine ⟨by show 2 < 1000; decide, fun d hd => ?_⟩
  simp only [List.mem_cons, List.not_mem_nil, or_false] at hd
  rcases hd with rfl | rfl
  · refine ⟨by rw [List.length_map]; exact hp, fun d hd => ?_⟩
    obtain ⟨q, hq, rfl⟩ := List.mem_map.mp hd
    refine ⟨by show 2 < 1000; decide, fun d hd => ?_⟩
    simp only [List.mem_cons, List.not_mem_nil, or_false] at hd
    rcases hd with rfl | rfl
    · exact okE_V (hv q hq).1
    · exact okE_V (hv q hq).2
  · exact okE_V (k := k + 2) hw
theorem wts_len {n : NetM} (rows : List Row) (l : Nat) : (rowI n rows l).weights.length = n.out.length := by
  show (List.map _ (timesI _ _ _)).length = _
  unfold timesI; rw [List.length_map, List.length_map]
theorem rows_wts {n : NetM} {ls : List Nat} : ∀ r ∈ rowsI n ls, r.weights.length = n.out.length := by
  have h : ∀ (m : Nat), m ≤ ls.length → ∀ r ∈ rowsI n (ls.take m), r.weights.length = n.out.length := fun m => by
    induction m with
    | zero => intro _ r hr; exact (nomatch hr)
    | succ m ih =>
      intro hm r hr
      have hl : m < ls.length := by omega
      rw [rows_at (List.getElem?_eq_getElem hl)] at hr
      rcases List.mem_append.mp hr with h | h
      · exact ih (by omega) r h
      · rw [List.mem_singleton] at h; subst h; exact wts_len _ _
  have := h ls.length (Nat.le_refl _)
  rwa [List.take_length] at this
theorem okE_row {n : NetM} {w : Nat} (hw : WfN n) (hd : WidN w n) (hw1 : w < 1000) {ls : List Nat} {k : Nat} : ∀ r ∈ rowsI n ls, okE (k + 5) (dRow r) := fun r hr =>
  okE_Row (by rw [(rows_wf hw r hr).1]; have := hw.lay.1; omega) (fun q hq => by have := rows_wid hw hd r hr q hq; omega) (by rw [rows_wts r hr]; have := hw.out.1; omega)
theorem okE_rows {n : NetM} {w : Nat} (hw : WfN n) (hd : WidN w n) (hw1 : w < 1000) {ls : List Nat} (hl : ls.length < 1000) {k : Nat} : okE (k + 6) (.tup ((rowsI n ls).map dRow)) := ⟨by rw [List.length_map, rows_len]; exact hl, fun d hd' => by
  obtain ⟨r, hr, rfl⟩ := List.mem_map.mp hd'
  exact okE_row hw hd hw1 r hr⟩
/-! beginnings -/
theorem rows_take {n : NetM} : ∀ (ls : List Nat) (k : Nat), k ≤ ls.length → (rowsI n ls).take k = rowsI n (ls.take k) := by
  intro ls k hk
  have h : ∀ m, k + m ≤ ls.length → (rowsI n (ls.take (k + m))).take k = rowsI n (ls.take k) := fun m => by
    induction m with
    | zero => intro _; exact List.take_of_length_le (by rw [rows_len, List.length_take]; omega)
    | succ m ih =>
      intro hm
      have hl : k + m < ls.length := by omega
      rw [show k + (m + 1) = k + m + 1 by omega, rows_at (List.getElem?_eq_getElem hl), List.take_append_of_le_length (by rw [rows_len, List.length_take]; omega)]
      exact ih (by omega)
  have := h (ls.length - k) (by omega)
  rwa [show k + (ls.length - k) = ls.length by omega, List.take_length] at this
theorem rows_get {n : NetM} {ls : List Nat} {k l : Nat} (h : ls[k]? = some l) : (rowsI n ls)[k]? = some (rowI n (rowsI n (ls.take k)) l) := by
  have hk := (List.getElem?_eq_some_iff.mp h).1
  have e := rows_take (n := n) ls (k + 1) (by omega)
  rw [rows_at h] at e
  have e2 : ((rowsI n ls).take (k + 1))[k]? = (rowsI n ls)[k]? := List.getElem?_take_of_lt (by omega)
  rw [← e2, e, List.getElem?_append_right (by rw [rows_len, List.length_take]; omega), rows_len, List.length_take, show k - min k ls.length = 0 by omega]; rfl
/-! cuts -/
theorem cutD_from {α : Type} {f : α → D} {xs : List α} {a : Nat} (h : a ≤ xs.length) : cutD (xs.map f) (some (a : Int)) none = (xs.drop a).map f := by
  unfold cutD
  rw [HT.sIx_nat, HT.sIx_none, List.length_map, Nat.min_eq_left h, ← List.map_drop, List.take_of_length_le (by rw [List.length_map, List.length_drop]; omega)]
theorem sIx_m1 (n d : Nat) : HT.sIx n d (some (-1)) = n - 1 := by
  show (if (-1 : Int) < 0 then ((-1 : Int) + (n : Int)).toNat else min (-1 : Int).toNat n) = _
  rw [if_pos (by decide)]; omega
theorem cutD_but {α : Type} {f : α → D} {xs : List α} : cutD (xs.map f) none (some (-1)) = (xs.take (xs.length - 1)).map f := by
  unfold cutD
  rw [HT.sIx_none, sIx_m1, List.drop_zero, List.length_map, Nat.sub_zero, List.map_take]
theorem cutD_last {α : Type} {f : α → D} {xs : List α} : cutD (xs.map f) (some (-1)) none = (xs.drop (xs.length - 1)).map f := by
  unfold cutD
  rw [HT.sIx_none, sIx_m1, List.length_map, ← List.map_drop, List.take_of_length_le (by rw [List.length_map, List.length_drop]; omega)]
/-! letters -/
def dL (ls : List Nat) : List D := (ls.map Int.ofNat).map D.int
theorem dL_app {a b : List Nat} : dL (a ++ b) = dL a ++ dL b := by unfold dL; rw [List.map_append, List.map_append]
theorem dL_eq {ls : List Nat} : dL ls = ls.map fun l => D.int (l : Nat) := by unfold dL; rw [List.map_map]; rfl
theorem pick (ms : List Int) (l b c : Nat) (hl : 0 < l) {K : Nat} (hc : c ≤ K) : ∃ bs : List Nat, ((List.range c).map fun k => D.int (((ms.getD (b + k) 0 % (l : Int)).toNat : Nat))) = dL bs ∧ (∀ x ∈ bs, x < l) ∧ bs.length ≤ K ∧ bs.length = c := by
  refine ⟨(List.range c).map fun k => (ms.getD (b + k) 0 % (l : Int)).toNat, by rw [dL_eq, List.map_map]; rfl, fun x hx => ?_, by rw [List.length_map, List.length_range]; exact hc, by rw [List.length_map, List.length_range]⟩
  obtain ⟨k, _, rfl⟩ := List.mem_map.mp hx
  have h1 := Int.emod_nonneg (ms.getD (b + k) 0) (show (l : Int) ≠ 0 by omega)
  have h2 := Int.emod_lt_of_pos (ms.getD (b + k) 0) (show 0 < (l : Int) by omega)
  omega
theorem pickE {x : Int} {l : Nat} (hl : 0 < l) : (((x % (l : Int)).toNat : Nat) : Int) = x % (l : Int) := by
  have h1 := Int.emod_nonneg x (show (l : Int) ≠ 0 by omega)
  omega
theorem dL_len {ls : List Nat} : (dL ls).length = ls.length := by unfold dL; rw [List.length_map, List.length_map]
theorem dL_but {ls : List Nat} : cutD (dL ls) none (some (-1)) = dL (ls.take (ls.length - 1)) := by
  unfold dL; rw [cutD_but, List.length_map, ← List.map_take]
theorem dL_last {ls : List Nat} : cutD (dL ls) (some (-1)) none = dL (ls.drop (ls.length - 1)) := by
  unfold dL; rw [cutD_last, List.length_map, ← List.map_drop]
def C_weights_behind (C : Addr) : Contract := fun ds O R _ => ∃ n e d ls, ds = [dNet C n e, d] ∧ Seq d (ls.map Int.ofNat) ∧ WfN n ∧ (∀ l ∈ ls, l < n.emb.length) ∧ 0 < ls.length ∧ ls.length ≤ 500 ∧ NoLstO O ∧ ∀ r, (rowsI n ls)[ls.length - 1]? = some r → R O (dV r.weights)
theorem len_weights_behind {C : Addr} : ∀ ds O R X, C_weights_behind C ds O R X → ds.length = 2 := fun _ _ _ _ h => by obtain ⟨_, _, _, _, rfl, _⟩ := h; rfl
theorem atI_lastM {α : Type} {f : α → D} {xs : List α} {x : α} (h : xs[xs.length - 1]? = some x) : atI (xs.map f) (-1) = some (f x) := by
  have hl := (List.getElem?_eq_some_iff.mp h).1
  unfold atI ixN
  rw [List.length_map, if_neg (by omega), if_pos (by omega)]
  show (xs.map f)[(-1 + (xs.length : Int)).toNat]? = _
  rw [show (-1 + (xs.length : Int)).toNat = xs.length - 1 by omega, List.getElem?_map, h]; rfl
theorem py_L (ls : List Nat) : Py (.lst (dL ls)) (.list ((ls.map Int.ofNat).map .int)) := .lst (pys_ints _)
theorem wts_bd {n : NetM} (hw : WfN n) (rows : List Row) (l : Nat) : ∀ x ∈ (rowI n rows l).weights, 1 ≤ x ∧ x ≤ n.p := fun x hx => by
  obtain ⟨y, hy, rfl⟩ := List.mem_map.mp (show x ∈ List.map (· + 1) (timesI n.out _ n.p) from hx)
  obtain ⟨r, _, rfl⟩ := List.mem_map.mp hy
  have h0 := hw.p0
  have := Int.emod_nonneg ((r.zip (laysI n.p rows n.layers 0 (plusI (n.emb.getD l []) (scaledI rows.length n.shift n.p) n.p) []).1).map fun q => q.1 * q.2).sum (show n.p ≠ 0 by omega)
  have := Int.emod_lt_of_pos ((r.zip (laysI n.p rows n.layers 0 (plusI (n.emb.getD l []) (scaledI rows.length n.shift n.p) n.p) []).1).map fun q => q.1 * q.2).sum h0
  show 1 ≤ dotI _ _ _ + 1 ∧ dotI _ _ _ + 1 ≤ n.p
  unfold dotI
  omega
theorem we_slS {c : Ct} {A : AS} {Q : QE} {ls : List Nat} {d : D} {i : Nat} {te : TE} (hi : A.s[i]? = some (some (.val d))) (hd : Seq d (ls.map Int.ofNat)) (h : WE c te A fun A1 r => ∃ m : Nat, r = .val (.int (m : Nat)) ∧ ∀ d', Seq d' ((ls.take m).map Int.ofNat) → Q A1 (.val d')) : WE c (tSl (rSlAA c.K) (tVar i) tNoPart (tPart te)) A Q := by
  have e : ∀ m : Nat, cutD ((ls.map Int.ofNat).map D.int) none (some (m : Int)) = ((ls.take m).map Int.ofNat).map D.int := fun m => by rw [cutD_tn, ← List.map_take]
  rcases hd with rfl | rfl
  · refine we_slL (we_var hi (wo_none (wo_some (h.imp fun A1 r z => ?_))))
    obtain ⟨m, rfl, q⟩ := z
    exact ⟨m, rfl, _, rfl, rfl, trivial, by rw [e]; exact q _ (.inl rfl)⟩
  · refine we_slT (we_var hi (wo_none (wo_some (h.imp fun A1 r z => ?_))))
    obtain ⟨m, rfl, q⟩ := z
    exact ⟨m, rfl, _, rfl, by rw [e]; exact q _ (.inr rfl)⟩
end AL

namespace AL
open PySem L2
section
variable {c : Ct} {A : AS} {te ta tb : TE} {t u tt : TT}
/-- behind an element: the slots are as they were, the cells may have grown -/
theorem Sim.unwipeO {K : PySem.W.Frag} {F F3 G G0 : Hp} {m m3 : List Addr} {A A3 : AS} {σ σ3 : St} {H H3 : Hp} {vs : List Nat} (S : Sim K F G0 m A σ H) (S3 : Sim K F3 G m3 A3 σ3 H3) (e : Ex F F3) (p : Pre m m3) (es : ∀ j, j ∉ vs → A3.s[j]? = A.s[j]?)
    (ew : wipe σ3 vs = wipe σ vs) (no : NoOwn A.s vs) : Sim K F3 G m3 ⟨A.s, A3.o⟩ σ H3 := by
  refine ⟨S3.h, S.s.len, fun i x y e1 e2 => ?_, S.s.own⟩
  by_cases hi : i ∈ vs
  · have q := S.s.at_ i x y e1 e2
    match x, y, q, e2 with
    | _, none, _, _ => cases x <;> trivial
    | some v, some (.val d), q, _ => exact Rep.mono e p q
    | some v, some (.own c), _, e2 => exact absurd e2 (no i hi c)
  · have z1 : σ3[i]? = some x := by rw [← wipe_not hi, ew, wipe_not hi]; exact e1
    have z2 : A3.s[i]? = some y := by rw [es i hi]; exact e2
    exact S3.s.at_ i x y z1 z2
theorem wn_lcO {wi : TI} {g : TG} {vs : List Nat} {Q : AS → List D → Prop} (hg : GOk g vs)
    (h : WI c wi A fun A1 ds => NoOwn A1.s vs ∧ ds.length < 100000 ∧ ∃ oI : Nat → List Cell, oI 0 = A1.o ∧ ∃ es : List (Option D), es.length = ds.length ∧
      (∀ (i : Nat) d, ds[i]? = some d → WG c g d ⟨wipeA A1.s vs, oI i⟩ fun A2 => WT c tt A2 fun A3 b => (b = true → WE c te A3 fun A4 r => Frz A4 r fun A5 e => es[i]? = some (some e) ∧ A5.o = oI (i + 1) ∧ ∀ j, j ∉ vs → A5.s[j]? = A1.s[j]?) ∧
        (b = false → es[i]? = some none ∧ A3.o = oI (i + 1) ∧ ∀ j, j ∉ vs → A3.s[j]? = A1.s[j]?)) ∧ Q ⟨A1.s, oI ds.length⟩ (es.filterMap id)) :
    WN c (tLc wi g tt te vs) A Q := fun F G m σ H S E Qc k => h F G m σ H S E _ fun F1 m1 A1 J H1 ds e1 p1 S1 RJ ⟨no, hlen, oI, hoI, es, hes, hs, q⟩ => by
  intro Dl hD
  have gD : G Dl = none := (S1.h.fresh hD).2.1
  have sub : ∀ (o : HO) a u, G a = some u → upd G Dl o a = some u := fun o a u e => by rw [upd_ne (ne_of_none e gD)]; exact e
  have nD := S1.notOwn hD
  refine ⟨fun i n H2 => n = ds.length - i ∧ i ≤ ds.length ∧ ∃ F2 m2 acc, Ex F1 F2 ∧ Pre m1 m2 ∧ Sim c.K F2 (upd G Dl (.lst acc)) m2 ⟨A1.s, oI i⟩ σ H2 ∧ Reps c.K F2 m2 acc ((es.take i).filterMap id),
    ⟨_, rfl, Nat.zero_le _, F1, m1, [], Evl.Ex.refl _, Pre.refl _, (by rw [hoI]; exact S1.addG hD), .nil⟩, fun i n H2 hw => ?_⟩
  obtain ⟨rfl, hi, F2, m2, acc, e2, p2, S2, R2⟩ := hw
  obtain ⟨r1, r2⟩ := RJ F2 _ m2 ⟨A1.s, oI i⟩ σ H2 e2 p2 S2 i
  have hacc : acc.length ≤ i := by
    rw [R2.len]
    refine Nat.le_trans (List.length_filterMap_le _ _) ?_
    rw [List.length_take]; exact Nat.min_le_left _ _
  by_cases hl : i < ds.length
  · obtain ⟨g1, g2⟩ := r1 _ (List.getElem?_eq_getElem hl)
    refine .inr ⟨g1, fun H3 => i + 1 ≤ ds.length ∧ ∃ F2 m2 acc, Ex F1 F2 ∧ Pre m1 m2 ∧ Sim c.K F2 (upd G Dl (.lst acc)) m2 ⟨A1.s, oI (i + 1)⟩ σ H3 ∧ Reps c.K F2 m2 acc ((es.take (i + 1)).filterMap id), fun H3 hN => ⟨_, by omega, rfl, hN⟩, fun x H3 hy => ?_⟩
    obtain ⟨F3, e3, S3, R3⟩ := g2 x H3 hy
    have E3 : EOk c F3 (upd G Dl (.lst acc)) m2 := (E.weakG (sub _)).mono ((e1.trans e2).trans e3) (p1.trans p2)
    have S3w : Sim c.K F3 (upd G Dl (.lst acc)) m2 ⟨wipeA A1.s vs, oI i⟩ (wipe σ vs) H3 := ⟨S3.h, S3.s.wipe vs⟩
    have ww : wipe (wipe σ vs) vs = wipe σ vs := by
      apply List.ext_getElem?
      intro j
      by_cases hj : j ∈ vs
      · have z : ∀ (us : List Nat) (τ : St), j ∈ us → (wipe τ us)[j]? = if j < τ.length then some none else none := fun us => by
          induction us with
          | nil => intro τ h; cases h
          | cons u us ih =>
            intro τ h
            unfold wipe
            by_cases y : u = j
            · subst y
              by_cases hl : u < τ.length
              · rw [List.getElem?_set_self (by rw [wipe_length]; exact hl), if_pos hl]
              · rw [if_neg hl, List.getElem?_eq_none (by rw [List.length_set, wipe_length]; omega)]
            · rw [List.getElem?_set_ne y]
              exact ih τ (by simpa [show ¬ j = u from fun z => y z.symm] using h)
        rw [z vs _ hj, z vs _ hj, wipe_length]
      · rw [wipe_not hj]
    have hgx := hg x (wipe σ vs) H3 (fun σ2 H4 => tt σ2 H4 fun b H5 => if b = true then te σ2 H5 fun y H6 => ∃ acc', H6 Dl = some (.lst acc') ∧ acc'.length < sizeLine ∧ (i + 1 ≤ ds.length ∧ ∃ F2 m2 acc, Ex F1 F2 ∧ Pre m1 m2 ∧ Sim c.K F2 (upd G Dl (.lst acc)) m2 ⟨A1.s, oI (i + 1)⟩ σ (upd H6 Dl (.lst (acc' ++ [y]))) ∧ Reps c.K F2 m2 acc ((es.take (i + 1)).filterMap id)) else
      (i + 1 ≤ ds.length ∧ ∃ F2 m2 acc, Ex F1 F2 ∧ Pre m1 m2 ∧ Sim c.K F2 (upd G Dl (.lst acc)) m2 ⟨A1.s, oI (i + 1)⟩ σ H5 ∧ Reps c.K F2 m2 acc ((es.take (i + 1)).filterMap id)))
    rw [ww] at hgx
    refine hgx (hs i _ (List.getElem?_eq_getElem hl) F3 _ m2 (wipe σ vs) H3 x S3w R3 E3 _ fun F4 m4 A4 σ4 H4 e4 p4 S4 q4 ew => ?_)
    have x4 := e2.trans (e3.trans e4)
    have y4 := p2.trans p4
    refine q4 F4 _ m4 σ4 H4 S4 (E3.mono e4 p4) _ fun F5 m5 A5 b H5 e5 p5 S5 q5 => ?_
    have tk : ∀ o, es[i]? = some o → es.take (i + 1) = es.take i ++ [o] := fun o ho => by rw [List.take_add_one, ho]; rfl
    cases b with
    | false =>
      obtain ⟨h1, h2, h3⟩ := q5.2 rfl
      show i + 1 ≤ ds.length ∧ _
      refine ⟨hl, F5, m5, acc, x4.trans e5, y4.trans p5, h2 ▸ S2.unwipeO S5 (e3.trans (e4.trans e5)) (p4.trans p5) h3 ew no, ?_⟩
      rw [tk _ h1, List.filterMap_append]
      show Reps c.K F5 m5 acc (_ ++ [])
      rw [List.append_nil]
      exact R2.mono (e3.trans (e4.trans e5)) (p4.trans p5)
    | true =>
      show te σ4 H5 _
      refine (WE.frz (q5.1 rfl)) F5 _ m5 σ4 H5 S5 (E3.mono (e4.trans e5) (p4.trans p5)) _ fun F6 m6 A6 y H6 r e6 p6 S6 R6 q6 => ?_
      obtain ⟨d, er, h1, h2, h3⟩ := q6
      subst er
      have z6 := e3.trans (e4.trans (e5.trans e6))
      have w6 := p4.trans (p5.trans p6)
      refine ⟨acc, S6.h.exG Dl _ upd_same, Nat.lt_of_le_of_lt hacc (Nat.lt_of_lt_of_le (Nat.lt_trans hl hlen) (by decide)), hl, F6, m6, acc ++ [y], e2.trans z6, p2.trans w6, (h2 ▸ S2.unwipeO S6 z6 w6 h3 ew no : Sim c.K F6 _ m6 ⟨A1.s, oI (i + 1)⟩ σ _).setG, ?_⟩
      rw [tk _ h1, List.filterMap_append]
      exact (R2.mono z6 w6).app (.cons R6 .nil)
  · have ei : i = ds.length := by omega
    subst ei
    rw [← hes, List.take_length] at R2
    have gs := S2.h.exG Dl _ upd_same
    have fD : F2 Dl = none := by
      cases y : F2 Dl with
      | none => rfl
      | some u => have z := S2.h.dj Dl u y; rw [upd_same] at z; cases z
    exact .inl ⟨r2 (Nat.le_refl _), k F2 m2 ⟨A1.s, oI ds.length⟩ Dl acc H2 _ (e1.trans e2) (p1.trans p2) (S2.weakG (sub _)) fD gD (fun n e => by have z := S2.h.mG n Dl e; rw [upd_same] at z; cases z) nD gs R2 q⟩
/-- rows mapped, the cells growing with each -/
theorem wn_lcMO {α : Type} {wi : TI} {g : TG} {vs : List Nat} {Q : AS → List D → Prop} (f h : α → D) (hg : GOk g vs)
    (hw : WI c wi A fun A1 ds => ∃ (xs : List α) (oI : Nat → List Cell), ds = xs.map f ∧ noOwnB A1.s vs = true ∧ xs.length < 100000 ∧ oI 0 = A1.o ∧ (∀ i x, xs[i]? = some x → WG c g (f x) ⟨wipeA A1.s vs, oI i⟩ fun A2 => WE c te A2 fun A4 r => Frz A4 r fun A5 e => e = h x ∧ A5.o = oI (i + 1) ∧ ∀ j, j ∉ vs → A5.s[j]? = A1.s[j]?) ∧ Q ⟨A1.s, oI xs.length⟩ (xs.map h)) :
    WN c (tLc wi g tYes te vs) A Q := wn_lcO hg fun F G m σ H S E Rc k => hw F G m σ H S E Rc fun F' m' A1 J H' ds e p S' RJ ⟨xs, oI, ed, no, hl, h0, hs, q⟩ => by
  subst ed
  refine k F' m' A1 J H' _ e p S' RJ ⟨noOwn_of no, by rw [List.length_map]; exact hl, oI, h0, xs.map (fun x => some (h x)), by simp, fun i d hd => ?_, ?_⟩
  · rw [List.getElem?_map] at hd
    cases z : xs[i]? with
    | none => rw [z] at hd; cases hd
    | some x =>
      rw [z] at hd; cases hd
      intro F G m σ H v S R E Qc k
      refine hs i x z F G m σ H v S R E Qc fun F2 m2 A2 σ2 H2 e2 p2 S2 q2 => k F2 m2 A2 σ2 H2 e2 p2 S2 (wt_yes ⟨fun _ => ?_, fun b => nomatch b⟩)
      refine q2.imp fun A4 r q4 => ?_
      refine frz_imp q4 (fun A5 e5 ⟨h1, h2⟩ => ⟨?_, h2.1, h2.2⟩)
      rw [List.getElem?_map, z, h1]; rfl
  · rw [fm_some, List.length_map]; exact q
end
end AL

namespace AL
open PySem L2
/-! ### slots forgotten -/
theorem SS.forget1 {K : PySem.W.Frag} {F G : Hp} {m : List Addr} {s : List (Option SV)} {σ : St} {H : Hp} (h : SS K F G m s σ H) (i : Nat) : SS K F G m (s.set i none) σ H := by
  have q := h.forget (i := i) (x := (σ[i]?).getD none)
  have e : σ.set i ((σ[i]?).getD none) = σ := by
    apply List.ext_getElem?
    intro j
    by_cases z : i = j
    · subst z
      by_cases l : i < σ.length
      · rw [List.getElem?_set_self l, List.getElem?_eq_getElem l]; rfl
      · rw [List.getElem?_eq_none (by rw [List.length_set]; omega), List.getElem?_eq_none (by omega)]
    · rw [List.getElem?_set_ne z]
  rw [e] at q; exact q
theorem SS.wipe1 {K : PySem.W.Frag} {F G : Hp} {m : List Addr} {s : List (Option SV)} {σ : St} {H : Hp} (h : SS K F G m s σ H) : ∀ vs, SS K F G m (wipeA s vs) σ H
  | [] => h
  | v :: vs => (SS.wipe1 h vs).forget1 v
def AS.wipe (A : AS) (vs : List Nat) : AS := ⟨wipeA A.s vs, A.o⟩
theorem Sim.wipe1 {K : PySem.W.Frag} {F G : Hp} {m : List Addr} {A : AS} {σ : St} {H : Hp} (S : Sim K F G m A σ H) (vs : List Nat) : Sim K F G m (A.wipe vs) σ H := ⟨S.h, S.s.wipe1 vs⟩
def updS (s : List (Option SV)) : List (Nat × Option SV) → List (Option SV)
  | [] => s
  | (i, v) :: r => updS (s.set i v) r
section
variable {c : Ct} {A : AS} {t t1 t2 tb : TS} {nx bk ct : AS → Prop} {rt : List Cell → D → Prop}
theorem vs_wipe (vs : List Nat) {B : EA} (h : WS c t (A.wipe vs) B) : WS c t A B := fun F G m σ H S E Dc k => h F G m σ H (S.wipe1 vs) E Dc k
theorem WG.wipe {g : TG} {d : D} {Q : AS → Prop} (vs : List Nat) (h : WG c g d (A.wipe vs) Q) : WG c g d A Q := fun F G m σ H v S R E Qc k => h F G m σ H v (S.wipe1 vs) R E Qc k
theorem WT.wipe {tc : TT} {Q : AS → Bool → Prop} (vs : List Nat) (h : WT c tc (A.wipe vs) Q) : WT c tc A Q := fun F G m σ H S E Qc k => h F G m σ H (S.wipe1 vs) E Qc k
theorem vs_wipeE (vs : List Nat) (h : WS c t A ⟨fun A1 => nx (A1.wipe vs), rt, bk, ct⟩) : WS c t A ⟨nx, rt, bk, ct⟩ := fun F G m σ H S E Dc k =>
  h F G m σ H S E Dc ⟨fun F' m' A' σ' H' e p S' q => k.nx F' m' _ σ' H' e p (S'.wipe1 vs) q, k.rt, k.bk, k.ct⟩
/-- a loop: vs are the slots that nobody reads from one turn to the next; st the ones that are carried on; the others stay -/
theorem vs_forN {wi : TI} {g : TG} {α : Type} (vs : List Nat) (st : Nat → α → List (Nat × Option SV)) (oc : Nat → α → List Cell) (P : List D → Nat → α → Prop)
    (h : WI c wi A fun (A1 : AS) ds => (∃ a, A1.wipe vs = ⟨updS (wipeA A1.s vs) (st 0 a), oc 0 a⟩ ∧ P ds 0 a) ∧
      (∀ i d a, ds[i]? = some d → P ds i a → WG c g d ⟨updS (wipeA A1.s vs) (st i a), oc i a⟩ fun A3 => WS c tb A3 ⟨fun (A4 : AS) => ∃ a', A4.wipe vs = ⟨updS (wipeA A1.s vs) (st (i + 1) a'), oc (i + 1) a'⟩ ∧ P ds (i + 1) a', rt, fun A4 => nx (A4.wipe vs), fun (A4 : AS) => ∃ a', A4.wipe vs = ⟨updS (wipeA A1.s vs) (st (i + 1) a'), oc (i + 1) a'⟩ ∧ P ds (i + 1) a'⟩) ∧
      ∀ a, P ds ds.length a → nx ⟨updS (wipeA A1.s vs) (st ds.length a), oc ds.length a⟩) :
    WS c (tFor wi g tb) A ⟨nx, rt, bk, ct⟩ := vs_wipeE vs (fun F G m σ H S E Dc k => by
  have : WI c wi A fun A1 ds => ∃ I : List D → Nat → AS → Prop, I ds 0 A1 ∧ (∀ i d A2, ds[i]? = some d → I ds i A2 → WG c g d A2 fun A3 => WS c tb A3 ⟨I ds (i + 1), rt, fun A4 => nx (A4.wipe vs), I ds (i + 1)⟩) ∧ ∀ A2, I ds ds.length A2 → nx (A2.wipe vs) := fun F G m σ H S E Rc k =>
    h F G m σ H S E Rc fun F' m' A1 J H' ds e p S' R ⟨h0, hs, hd⟩ => k F' m' A1 J H' ds e p S' R ⟨fun ds i A2 => ∃ a, A2.wipe vs = ⟨updS (wipeA A1.s vs) (st i a), oc i a⟩ ∧ P ds i a, h0, fun i d A2 hi ⟨a, ea, pa⟩ => WG.wipe vs (by rw [ea]; exact hs i d a hi pa), fun A2 ⟨a, ea, pa⟩ => by rw [ea]; exact hd a pa⟩
  refine this F G m σ H S E _ fun F1 m1 A1 J H1 ds e1 p1 S1 RJ ⟨I, h0, hs, hd⟩ => ?_
  refine ⟨fun i n σ2 H2 => n = ds.length - i ∧ i ≤ ds.length ∧ ∃ F2 m2 A2, Ex F1 F2 ∧ Pre m1 m2 ∧ Sim c.K F2 G m2 A2 σ2 H2 ∧ I ds i A2, ⟨_, rfl, Nat.zero_le _, F1, m1, A1, Evl.Ex.refl _, Pre.refl _, S1, h0⟩, fun i n σ2 H2 hw => ?_⟩
  obtain ⟨rfl, hi, F2, m2, A2, e2, p2, S2, q2⟩ := hw
  obtain ⟨r1, r2⟩ := RJ F2 G m2 A2 σ2 H2 e2 p2 S2 i
  by_cases hl : i < ds.length
  · obtain ⟨g1, g2⟩ := r1 _ (List.getElem?_eq_getElem hl)
    refine .inr ⟨g1, fun σ3 H3 => ∃ F3 m3 A3, Ex F1 F3 ∧ Pre m1 m3 ∧ Sim c.K F3 G m3 A3 σ3 H3 ∧ I ds (i + 1) A3, fun σ3 H3 hN => ?_, fun x H3 hy => ?_⟩
    · exact ⟨ds.length - (i + 1), by omega, rfl, hl, hN⟩
    · obtain ⟨F3, e3, S3, R3⟩ := g2 x H3 hy
      refine hs i _ A2 (List.getElem?_eq_getElem hl) q2 F3 G m2 σ2 H3 x S3 R3 (E.mono ((e1.trans e2).trans e3) (p1.trans p2)) _ fun F4 m4 A4 σ4 H4 e4 p4 S4 q4 => ?_
      have f1 := e2.trans (e3.trans e4)
      have f2 := p2.trans p4
      refine q4 F4 G m4 σ4 H4 S4 (E.mono (e1.trans f1) (p1.trans f2)) _ ⟨fun F5 m5 A5 σ5 H5 e5 p5 S5 q5 => ⟨F5, m5, A5, f1.trans e5, f2.trans p5, S5, q5⟩, (k.mono (e1.trans f1) (p1.trans f2)).rt, fun F5 m5 A5 σ5 H5 e5 p5 S5 q5 => k.nx F5 m5 A5 σ5 H5 ((e1.trans f1).trans e5) ((p1.trans f2).trans p5) S5 q5, fun F5 m5 A5 σ5 H5 e5 p5 S5 q5 => ⟨F5, m5, A5, f1.trans e5, f2.trans p5, S5, q5⟩⟩
  · have : i = ds.length := by omega
    subst this
    exact .inl ⟨r2 (Nat.le_refl _), k.nx F2 m2 A2 σ2 H2 (e1.trans e2) (p1.trans p2) S2 (hd A2 q2)⟩)
/-- a loop: vs are the slots that nobody reads from one turn to the next; st the ones that are carried on; the others stay -/
theorem vs_forI {wi : TI} {g : TG} {α : Type} (vs : List Nat) (st : α → List (Nat × Option SV)) (oc : α → List Cell) (P : List D → Nat → α → Prop)
    (h : WI c wi A fun (A1 : AS) ds => (∃ a, A1.wipe vs = ⟨updS (wipeA A1.s vs) (st a), oc a⟩ ∧ P ds 0 a) ∧
      (∀ i d a, ds[i]? = some d → P ds i a → WG c g d ⟨updS (wipeA A1.s vs) (st a), oc a⟩ fun A3 => WS c tb A3 ⟨fun (A4 : AS) => ∃ a', A4.wipe vs = ⟨updS (wipeA A1.s vs) (st a'), oc a'⟩ ∧ P ds (i + 1) a', rt, fun A4 => nx (A4.wipe vs), fun (A4 : AS) => ∃ a', A4.wipe vs = ⟨updS (wipeA A1.s vs) (st a'), oc a'⟩ ∧ P ds (i + 1) a'⟩) ∧
      ∀ a, P ds ds.length a → nx ⟨updS (wipeA A1.s vs) (st a), oc a⟩) :
    WS c (tFor wi g tb) A ⟨nx, rt, bk, ct⟩ := vs_forN vs (fun _ => st) (fun _ => oc) P h
/-- a loop by a test: n goes down -/
theorem vs_whileI {tc : TT} {α : Type} (vs : List Nat) (st : α → List (Nat × Option SV)) (oc : α → List Cell) (P : Nat → α → Prop) (n0 : Nat) (a0 : α)
    (e0 : A.wipe vs = ⟨updS (wipeA A.s vs) (st a0), oc a0⟩) (h0 : P n0 a0)
    (hs : ∀ n a, P n a → WT c tc ⟨updS (wipeA A.s vs) (st a), oc a⟩ fun A2 b => (b = true → WS c tb A2 ⟨fun (A3 : AS) => ∃ n' a', n' < n ∧ A3.wipe vs = ⟨updS (wipeA A.s vs) (st a'), oc a'⟩ ∧ P n' a', rt, fun A3 => nx (A3.wipe vs), fun (A3 : AS) => ∃ n' a', n' < n ∧ A3.wipe vs = ⟨updS (wipeA A.s vs) (st a'), oc a'⟩ ∧ P n' a'⟩) ∧ (b = false → nx (A2.wipe vs))) :
    WS c (tWhile tc tb) A ⟨nx, rt, bk, ct⟩ := vs_wipeE vs (vs_while (fun n (A2 : AS) => ∃ a, A2.wipe vs = ⟨updS (wipeA A.s vs) (st a), oc a⟩ ∧ P n a) n0 ⟨a0, e0, h0⟩ fun n A1 ⟨a, ea, pa⟩ => WT.wipe vs (by
      rw [ea]
      refine fun F G m σ H S E Qc k => hs n a pa F G m σ H S E Qc fun F' m' A' b H' e p S' ⟨q1, q2⟩ => k F' m' A' b H' e p S' ⟨fun hb => (q1 hb).imp (fun A3 ⟨n', a', h1, h2, h3⟩ => ⟨n', h1, a', h2, h3⟩) (fun _ _ h => h) (fun _ h => h) (fun A3 ⟨n', a', h1, h2, h3⟩ => ⟨n', h1, a', h2, h3⟩), q2⟩))
/-- the state behind the first statement is told anew -/
theorem vs_cutI {α : Type} (vs : List Nat) (st : α → List (Nat × Option SV)) (oc : α → List Cell) (P : α → Prop)
    (h1 : WS c t1 A ⟨fun (A1 : AS) => ∃ a, A1.wipe vs = ⟨updS (wipeA A.s vs) (st a), oc a⟩ ∧ P a, rt, bk, ct⟩) (h2 : ∀ a, P a → WS c t2 ⟨updS (wipeA A.s vs) (st a), oc a⟩ ⟨nx, rt, bk, ct⟩) : WS c (tSeq t1 t2) A ⟨nx, rt, bk, ct⟩ :=
  ws_seq (h1.imp (fun A1 ⟨a, ea, pa⟩ => vs_wipe vs (by rw [ea]; exact h2 a pa)) (fun _ _ h => h) (fun _ h => h) (fun _ h => h))
variable {Q : QE}
/-- a drawn number: any below 1000 -/
theorem od_ixN {ns : List Int} {x : RV} {i : Int} (hx : lsOf A x = some (ns.map .int)) (hN : AllN ns) (h0 : 0 ≤ i) (h1 : i < (ns.length : Int)) (q : ∀ v : Int, 0 ≤ v → v < 1000 → Q A (.val (.int v))) : OpD c (rIx c.K) x (.val (.int i)) A Q :=
  od_ixL hx (atI_ints h0 h1) (q _ (hN.at _).1 (hN.at _).2)
end
end AL
namespace AL
theorem od_ixNv {c : Ct} {A : AS} {Q : QE} {ns : List Int} {i : Int} (hN : AllN ns) (h0 : 0 ≤ i) (h1 : i < (ns.length : Int)) (q : ∀ v : Int, 0 ≤ v → v < 1000 → Q A (.val (.int v))) : OpD c (L2.rIx c.K) (.val (.lst (ns.map D.int))) (.val (.int i)) A Q :=
  od_ixN rfl hN h0 h1 q
end AL
local macro_rules | `(tactic| walk_at "aln1") => `(tactic| ((with_reducible refine' AL.od_ixNv ?hN ?h0 ?h1 (fun _ _ _ => ?_)); (case hN => assumption); (case h0 => omega); (case h1 => omega)))
local macro_rules | `(tactic| walk_at "aln") => `(tactic| ((repeat (first | walk_at "als1" | walk_at "aln1" | walk_at "al2")); all_goals (try dsimp only [AL.as_eta])))
namespace AL
theorem modN {x : Int} {m : Nat} (h : 0 < m) : ∃ s : Nat, x % (m : Int) = (s : Nat) ∧ s < m := by
  have h1 := Int.emod_nonneg x (show (m : Int) ≠ 0 by omega)
  have h2 := Int.emod_lt_of_pos x (show 0 < (m : Int) by omega)
  exact ⟨(x % (m : Int)).toNat, by omega, by omega⟩
end AL
local macro_rules | `(tactic| walk_at "fl") => `(tactic| simp only [AL.as_eta, AL.AS.setS, AL.AS.wipe, AL.updS, AL.wipeA, AL.entry, List.set, List.map_cons, List.map_nil, List.length_cons, List.length_nil, List.replicate, List.cons_append, List.nil_append, Nat.reduceAdd, Nat.reduceSub, Nat.reduceLeDiff, Nat.sub_self])

namespace AL
open PySem L2
/-! ### the greatest, and by number -/
def IsArg (ns : List Int) (j : Nat) : Prop := ∃ M, ns[j]? = some M ∧ (∀ y ∈ ns, y ≤ M) ∧ ∀ m : Nat, m < j → ns[m]? ≠ some M
def IsBy (ns : List Int) (r : Int) (l : Nat) : Prop := l < ns.length ∧ (ns.take l).sum ≤ r ∧ r < (ns.take (l + 1)).sum
theorem isArg_uniq {ns : List Int} {a b : Nat} (ha : IsArg ns a) (hb : IsArg ns b) : a = b := by
  obtain ⟨M, h1, h2, h3⟩ := ha
  obtain ⟨N, g1, g2, g3⟩ := hb
  have e : M = N := by
    have := h2 N (List.mem_of_getElem? g1)
    have := g2 M (List.mem_of_getElem? h1)
    omega
  subst e
  by_cases c1 : a < b
  · exact absurd h1 (g3 a c1)
  · by_cases c2 : b < a
    · exact absurd g1 (h3 b c2)
    · omega
theorem isBy_uniq {ns : List Int} {r : Int} {a b : Nat} (hx : ∀ x ∈ ns, 0 ≤ x) (ha : IsBy ns r a) (hb : IsBy ns r b) : a = b := by
  obtain ⟨h1, h2, h3⟩ := ha
  obtain ⟨g1, g2, g3⟩ := hb
  by_cases c1 : a < b
  · have := sumTkLe hx (a + 1) b c1; omega
  · by_cases c2 : b < a
    · have := sumTkLe hx (b + 1) a c2; omega
    · omega
/-- the law's own letter, behind i turns -/
def Let (ws : List Int) (r : Int) (i L : Nat) : Prop := L ≤ i ∧ (ws.take L).sum ≤ r ∧ ∀ j : Nat, L < j → j ≤ i → r < (ws.take j).sum
theorem let_by {ws : List Int} {r : Int} {L l : Nat} (hx : ∀ x ∈ ws, 0 ≤ x) (h : Let ws r ws.length L) (b : IsBy ws r l) : l = L := by
  obtain ⟨h1, h2, h3⟩ := h
  obtain ⟨b1, b2, b3⟩ := b
  by_cases c1 : L < l
  · have := h3 l c1 (by omega); omega
  · by_cases c2 : l < L
    · have := sumTkLe hx (l + 1) L c2; omega
    · omega
open Classical in
noncomputable def argI (ns : List Int) : Nat := if h : ∃ j, IsArg ns j then h.choose else 0
theorem argI_of {ns : List Int} {j : Nat} (h : IsArg ns j) : argI ns = j := by
  unfold argI
  rw [dif_pos ⟨j, h⟩]
  exact isArg_uniq (Exists.choose_spec ⟨j, h⟩) h
open Classical in
noncomputable def byI (ns : List Int) (r : Int) : Nat := if h : ∃ j, IsBy ns r j then h.choose else 0
theorem byI_of {ns : List Int} {r : Int} {j : Nat} (hx : ∀ x ∈ ns, 0 ≤ x) (h : IsBy ns r j) : byI ns r = j := by
  unfold byI
  rw [dif_pos ⟨j, h⟩]
  exact isBy_uniq hx (Exists.choose_spec ⟨j, h⟩) h
theorem sum0_of {ns : List Int} (hx : ∀ x ∈ ns, 0 ≤ x) {M : Int} (hM : M ∈ ns) (hm : ∀ y ∈ ns, y ≤ M) : ns.sum = 0 ↔ M = 0 := by
  constructor
  · intro h
    by_cases c : 0 < M
    · have := sumPos hx hM c; omega
    · have := hx M hM; omega
  · intro h
    subst h
    have : ∀ (xs : List Int), (∀ x ∈ xs, x = 0) → xs.sum = 0 := fun xs => by
      induction xs with
      | nil => intro _; rfl
      | cons x r ih => intro h; rw [List.sum_cons, h x (List.mem_cons_self ..), ih fun y hy => h y (List.mem_cons_of_mem _ hy)]; rfl
    exact this ns fun x hx' => by have := hx x hx'; have := hm x hx'; omega
def C_greatest : Contract := fun ds O R _ => ∃ d ns, ds = [d] ∧ Seq d ns ∧ 0 < ns.length ∧ ∀ j, IsArg ns j → R O (.int (j : Nat))
def C_by_number : Contract := fun ds O R _ => ∃ d ns n, ds = [d, .int n] ∧ Seq d ns ∧ ns.length ≤ 100 ∧ (∀ x ∈ ns, 0 ≤ x) ∧ 0 < ns.sum ∧ ∀ l, IsBy ns (n % ns.sum) l → R O (.int (l : Nat))
theorem len_greatest : ∀ ds O R X, C_greatest ds O R X → ds.length = 1 := fun _ _ _ _ h => by obtain ⟨_, _, rfl, _⟩ := h; rfl
theorem len_by_number : ∀ ds O R X, C_by_number ds O R X → ds.length = 2 := fun _ _ _ _ h => by obtain ⟨_, _, _, rfl, _⟩ := h; rfl
/-! ### rules -/
structure RuleM where
  start : Nat
  steps : List (List (Option Nat))
def dOp : Option Nat → D
  | none => .non
  | some s => .int (s : Nat)
def dStep (row : List (Option Nat)) : D := .tup (row.map dOp)
def ruleF (r : RuleM) : List (Str × D) := [("start", .int (r.start : Nat)), ("steps", .tup (r.steps.map dStep))]
def dRule (C : Addr) (r : RuleM) : D := .obj C (ruleF r)
structure WfRu (L : Nat) (r : RuleM) : Prop where
  s0 : r.start < r.steps.length
  n : r.steps.length ≤ 100
  L1 : L ≤ 100
  row : ∀ row ∈ r.steps, row.length = L ∧ ∀ s, some s ∈ row → s < r.steps.length
def rstI (r : RuleM) (s l : Nat) : Option Nat := (r.steps.getD s []).getD l none
def afterI (r : RuleM) (text : List Nat) : Option Nat := text.foldl (fun s l => s.bind fun s => rstI r s l) (some r.start)
def letsI (r : RuleM) (text : List Nat) (l : Nat) : Bool := ((afterI r text).bind fun s => rstI r s l).isSome
theorem step_wf {L : Nat} {r : RuleM} (h : WfRu L r) {s l s' : Nat} (hs : s < r.steps.length) (hl : l < L) (e : rstI r s l = some s') : s' < r.steps.length := by
  unfold rstI at e
  rw [getD_lt hs] at e
  have hr := h.row _ (List.getElem_mem hs)
  rw [getD_lt (by rw [hr.1]; exact hl)] at e
  exact hr.2 s' (by rw [← e]; exact List.getElem_mem _)
theorem after_wf {L : Nat} {r : RuleM} (h : WfRu L r) : ∀ (text : List Nat) (o : Option Nat), (∀ l ∈ text, l < L) → (∀ s, o = some s → s < r.steps.length) → ∀ s', text.foldl (fun s l => s.bind fun s => rstI r s l) o = some s' → s' < r.steps.length
  | [], o, _, ho, s', e => ho s' e
  | l :: t, o, hl, ho, s', e => after_wf h t (o.bind fun s => rstI r s l) (fun x hx => hl x (List.mem_cons_of_mem _ hx)) (fun s2 e2 => by
      cases o with
      | none => cases e2
      | some s => exact step_wf h (ho s rfl) (hl l (List.mem_cons_self ..)) e2) s' e
theorem afterI_wf {L : Nat} {r : RuleM} (h : WfRu L r) {text : List Nat} (hl : ∀ l ∈ text, l < L) {s : Nat} (e : afterI r text = some s) : s < r.steps.length := after_wf h text _ hl (fun s e => by cases e; exact h.s0) s e
def countedI (r : Option RuleM) (ws : List Int) (text : List Nat) : List Int := match r with
  | none => ws
  | some r => (List.range ws.length).map fun l => if letsI r text l then ws.getD l 0 else 0
theorem counted_len {r : Option RuleM} {ws : List Int} {text : List Nat} : (countedI r ws text).length = ws.length := by
  cases r with
  | none => rfl
  | some r => show ((List.range ws.length).map _).length = _; rw [List.length_map, List.length_range]
theorem counted_nn {r : Option RuleM} {ws : List Int} {text : List Nat} (h : ∀ x ∈ ws, 0 ≤ x) : ∀ x ∈ countedI r ws text, 0 ≤ x := by
  cases r with
  | none => exact h
  | some r =>
    intro x hx
    obtain ⟨l, hl, rfl⟩ := List.mem_map.mp (show x ∈ (List.range ws.length).map _ from hx)
    have hl := List.mem_range.mp hl
    split
    · rw [getD_lt hl]; exact h _ (List.getElem_mem hl)
    · exact Int.le_refl _
noncomputable def choiceI (r : Option RuleM) (tape : List Int) (ws : List Int) (text : List Nat) : Option Nat :=
  if (countedI r ws text).sum = 0 then none
  else if tape = [] then some (argI (countedI r ws text))
  else some (byI (countedI r ws text) (tape.getD (text.length % tape.length) 0 % (countedI r ws text).sum))
/-! ### asks -/
structure AskM where
  prompt : List Nat
  most : Nat
  stops : List (List Nat)
  tape : List Int
  rule : Option RuleM
def dTx (t : List Nat) : D := .tup (dL t)
def dRu (CR : Addr) : Option RuleM → D
  | none => .non
  | some r => dRule CR r
def askF (CR : Addr) (a : AskM) : List (Str × D) := [("prompt", dTx a.prompt), ("most", .int (a.most : Nat)), ("stops", .tup (a.stops.map dTx)), ("tape", .tup (a.tape.map .int)), ("rule", dRu CR a.rule)]
def dAsk (C CR : Addr) (a : AskM) : D := .obj C (askF CR a)
structure WfA (L : Nat) (a : AskM) : Prop where
  p0 : 0 < a.prompt.length
  p1 : a.prompt.length ≤ 100
  pl : ∀ l ∈ a.prompt, l < L
  m0 : 1 ≤ a.most
  m1 : a.most ≤ 30
  st : a.stops.length ≤ 100 ∧ ∀ s ∈ a.stops, s.length ≤ 100 ∧ ∀ l ∈ s, l < L
  tl : a.tape.length ≤ 100
  ru : ∀ r, a.rule = some r → WfRu L r
/-- the longest stop at the text's end -/
def endsI (text stop : List Nat) : Bool := decide (stop.length ≤ text.length) && decide (text.drop (text.length - stop.length) = stop)
def stopI (stops : List (List Nat)) (text : List Nat) : Nat := stops.foldl (fun n s => if endsI text s then max n s.length else n) 0
/-- behind a choice: the text, and the word -/
def withI (e : Option Nat) (a : AskM) (text : List Nat) : Option Nat → List Nat × Option Str
  | none => (text, some "stuck")
  | some c => if some c = e then (text, some "end")
    else if 0 < stopI a.stops (text ++ [c]) then ((text ++ [c]).take ((text ++ [c]).length - stopI a.stops (text ++ [c])), some "stop")
    else if a.most ≤ (text ++ [c]).length then (text ++ [c], some "most")
    else (text ++ [c], none)
def dWd : Option Str → D
  | none => .non
  | some w => .str w
/-- the weights behind these letters -/
def wtsI (n : NetM) (ls : List Nat) : List Int := (rowI n (rowsI n (ls.take (ls.length - 1))) (ls.getD (ls.length - 1) 0)).weights
/-- the text behind k turns -/
noncomputable def goI (n : NetM) (e : Option Nat) (a : AskM) (begun : List Nat) : Nat → List Nat × Option Str
  | 0 => (begun, none)
  | k + 1 => match goI n e a begun k with
    | (t, none) => withI e a t (choiceI a.rule a.tape (wtsI n (a.prompt ++ t)) t)
    | z => z

theorem shaped_intsT (ns : List Int) : SeqAt.shaped (.tuple (ns.map PyData.int)) = true := by
  unfold SeqAt.shaped
  rw [Bool.and_eq_true]
  refine ⟨canLay_ints ns, decide_eq_true ?_⟩
  have := depth_ints ns
  show _ + 1 ≤ 64
  omega
theorem eqvAll_ints : ∀ a b : List Int, PyData.eqvAll (a.map PyData.int) (b.map PyData.int) = decide (a = b)
  | [], [] => by simp [PyData.eqvAll]
  | [], _ :: _ => by simp [PyData.eqvAll]
  | _ :: _, [] => by simp [PyData.eqvAll]
  | x :: a, y :: b => by
    simp only [List.map_cons, PyData.eqvAll, eqvAll_ints a b]
    by_cases h : x = y
    · subst h; simp [PyData.eqv]
    · simp [PyData.eqv, h]
theorem eqv_intsT (a b : List Int) : PyData.eqv (.tuple (a.map PyData.int)) (.tuple (b.map PyData.int)) = decide (a = b) := by rw [PyData.eqv]; exact eqvAll_ints a b
theorem eqv_intsL (a b : List Int) : PyData.eqv (.list (a.map PyData.int)) (.list (b.map PyData.int)) = decide (a = b) := by rw [PyData.eqv]; exact eqvAll_ints a b
theorem py_tx (t : List Nat) : Py (dTx t) (.tuple ((t.map Int.ofNat).map .int)) := .tup (pys_ints _)
theorem ofNat_inj {a b : List Nat} : a.map Int.ofNat = b.map Int.ofNat ↔ a = b := ⟨fun h => List.map_inj_right (fun _ _ h => Int.ofNat.inj h) |>.mp h, fun h => by rw [h]⟩
theorem od_eqTx {c : Ct} {A : AS} {Q : QE} {a b : List Nat} (q : Q A (.val (.bl (decide (a = b))))) : OpD c (rEqA c.K) (.val (dTx a)) (.val (dTx b)) A Q :=
  od_eqD (py_tx a) (py_tx b) (shaped_intsT _) (shaped_intsT _) (b := decide (a = b)) (by rw [eqv_intsT]; exact decide_eq_decide.mpr ofNat_inj) q
theorem seqTx (t : List Nat) : Seq (dTx t) (t.map Int.ofNat) := .inr rfl
theorem seqL (t : List Nat) : Seq (.lst (dL t)) (t.map Int.ofNat) := .inl rfl
theorem dOp_some {s : Nat} : dOp (some s) = .int (s : Nat) := rfl
/-! ### what the defs promise -/
section
variable (C CA CR : Addr)
def C_check_letters : Contract := fun ds O R _ => ∃ n e d, ∃ ls : List Nat, ds = [dNet C n e, d] ∧ Seq d (ls.map Int.ofNat) ∧ (∀ l ∈ ls, l < n.emb.length) ∧ n.emb.length ≤ 1000 ∧ R O .non
def C_check_ask : Contract := fun ds O R _ => ∃ n e a, ds = [dNet C n e, dAsk CA CR a] ∧ WfA n.emb.length a ∧ n.emb.length ≤ 1000 ∧ R O .non
def C_stop_at_end : Contract := fun ds O R _ => ∃ (stops : List (List Nat)) (text : List Nat), ds = [.tup (stops.map dTx), dTx text] ∧ R O (.int (stopI stops text : Nat))
def C_with_choice : Contract := fun ds O R _ => ∃ n e a, ∃ text : List Nat, ∃ ch : Option Nat, ds = [dNet C n (dOp e), dAsk CA CR a, dTx text, dOp ch] ∧ text.length ≤ 1000 ∧ R O (.tup [dTx (withI e a text ch).1, dWd (withI e a text ch).2])
def C_Rule___init__ : Contract := fun ds O R _ => ∃ (i : Nat) (r : RuleM), ds = [.ptr i, .int (r.start : Nat), .tup (r.steps.map dStep)] ∧ O[i]? = some (.ins CR []) ∧ r.steps.length ≤ 1000 ∧ R (O.set i (.ins CR (ruleF r))) .non
def C_Rule_after : Contract := fun ds O R _ => ∃ r L d, ∃ text : List Nat, ds = [dRule CR r, d] ∧ Seq d (text.map Int.ofNat) ∧ WfRu L r ∧ (∀ l ∈ text, l < L) ∧ R O (dOp (afterI r text))
def C_Rule_lets : Contract := fun ds O R _ => ∃ r L d, ∃ text : List Nat, ∃ l : Nat, ds = [dRule CR r, d, .int (l : Nat)] ∧ Seq d (text.map Int.ofNat) ∧ WfRu L r ∧ (∀ l ∈ text, l < L) ∧ l < L ∧ R O (.bl (letsI r text l))
def C_Ask___init__ : Contract := fun ds O R _ => ∃ (i : Nat) (a : AskM), ds = [.ptr i, dTx a.prompt, .int (a.most : Nat), .tup (a.stops.map dTx), .tup (a.tape.map .int), dRu CR a.rule] ∧ O[i]? = some (.ins CA []) ∧ 1 ≤ a.most ∧ a.most ≤ 30 ∧ a.stops.length ≤ 1000 ∧ R (O.set i (.ins CA (askF CR a))) .non
def C_Ask_counted : Contract := fun ds O R _ => ∃ a L d ws t, ∃ text : List Nat, ds = [dAsk CA CR a, d, t] ∧ Seq d ws ∧ Seq t (text.map Int.ofNat) ∧ (∀ r, a.rule = some r → WfRu L r) ∧ ws.length ≤ L ∧ L ≤ 100 ∧ (∀ l ∈ text, l < L) ∧ ∀ d', Seq d' (countedI a.rule ws text) → R O d'
def C_Ask_choice : Contract := fun ds O R _ => ∃ a L d ws t, ∃ text : List Nat, ds = [dAsk CA CR a, d, t] ∧ Seq d ws ∧ Seq t (text.map Int.ofNat) ∧ (∀ r, a.rule = some r → WfRu L r) ∧ 0 < ws.length ∧ ws.length ≤ L ∧ L ≤ 100 ∧ (∀ x ∈ ws, 0 ≤ x) ∧ (∀ l ∈ text, l < L) ∧ text.length ≤ 1000 ∧ a.tape.length ≤ 100 ∧ ((∀ c, choiceI a.rule a.tape ws text = some c → c < ws.length) → R O (dOp (choiceI a.rule a.tape ws text)))
def C_written : Contract := fun ds O R _ => ∃ n e a d, ∃ begun : List Nat, ds = [dNet C n (dOp e), dAsk CA CR a, d] ∧ Seq d (begun.map Int.ofNat) ∧ WfN n ∧ n.out.length = n.emb.length ∧ WfA n.emb.length a ∧ (∀ l ∈ begun, l < n.emb.length) ∧ begun.length < a.most ∧ NoLstO O ∧ ∀ k t w, goI n e a begun k = (t, some w) → R O (.tup [dTx t, .str w])
variable {C CA CR}
theorem len_check_letters : ∀ ds O R X, C_check_letters C ds O R X → ds.length = 2 := fun _ _ _ _ h => by obtain ⟨_, _, _, _, rfl, _⟩ := h; rfl
theorem len_check_ask : ∀ ds O R X, C_check_ask C CA CR ds O R X → ds.length = 2 := fun _ _ _ _ h => by obtain ⟨_, _, _, rfl, _⟩ := h; rfl
theorem len_stop_at_end : ∀ ds O R X, C_stop_at_end ds O R X → ds.length = 2 := fun _ _ _ _ h => by obtain ⟨_, _, rfl, _⟩ := h; rfl
theorem len_with_choice : ∀ ds O R X, C_with_choice C CA CR ds O R X → ds.length = 4 := fun _ _ _ _ h => by obtain ⟨_, _, _, _, _, rfl, _⟩ := h; rfl
theorem len_Rule___init__ : ∀ ds O R X, C_Rule___init__ CR ds O R X → ds.length = 3 := fun _ _ _ _ h => by obtain ⟨_, _, rfl, _⟩ := h; rfl
theorem len_Rule_after : ∀ ds O R X, C_Rule_after CR ds O R X → ds.length = 2 := fun _ _ _ _ h => by obtain ⟨_, _, _, _, rfl, _⟩ := h; rfl
theorem len_Rule_lets : ∀ ds O R X, C_Rule_lets CR ds O R X → ds.length = 3 := fun _ _ _ _ h => by obtain ⟨_, _, _, _, _, rfl, _⟩ := h; rfl
theorem len_Ask___init__ : ∀ ds O R X, C_Ask___init__ CA CR ds O R X → ds.length = 6 := fun _ _ _ _ h => by obtain ⟨_, _, rfl, _⟩ := h; rfl
theorem len_Ask_counted : ∀ ds O R X, C_Ask_counted CA CR ds O R X → ds.length = 3 := fun _ _ _ _ h => by obtain ⟨_, _, _, _, _, _, rfl, _⟩ := h; rfl
theorem len_Ask_choice : ∀ ds O R X, C_Ask_choice CA CR ds O R X → ds.length = 3 := fun _ _ _ _ h => by obtain ⟨_, _, _, _, _, _, rfl, _⟩ := h; rfl
theorem len_written : ∀ ds O R X, C_written C CA CR ds O R X → ds.length = 3 := fun _ _ _ _ h => by obtain ⟨_, _, _, _, _, rfl, _⟩ := h; rfl
end
theorem frame_enum {c : Ct} {A : AS} {ta : TA} {d : D} {ns : List Int} {Q : AS → List D → Prop} (hd : Seq d ns) (h : WA c ta A fun A1 es => es = [d] ∧ Q A1 ((List.range ns.length).map fun i => .sct [.int (i : Nat), .int (ns.getD i 0)])) : WI c (iEnumA c.K ta) A Q := by
  have e : enumD (ns.map D.int) = (List.range ns.length).map fun i => .sct [.int (i : Nat), .int (ns.getD i 0)] := by
    unfold enumD
    rw [List.length_map]
    apply List.map_congr_left
    intro i hi
    have hi := List.mem_range.mp hi
    rw [getD_lt (by rw [List.length_map]; exact hi), List.getElem_map, getD_lt hi]
  rcases hd with rfl | rfl
  · exact wi_enumL fun F G m σ H S E Qc k => h F G m σ H S E Qc fun F' m' A' vs H' ds e1 p S' R ⟨h1, h2⟩ => k F' m' A' vs H' ds e1 p S' R ⟨_, h1, by rw [e]; exact h2⟩
  · exact wi_enumT fun F G m σ H S E Qc k => h F G m σ H S E Qc fun F' m' A' vs H' ds e1 p S' R ⟨h1, h2⟩ => k F' m' A' vs H' ds e1 p S' R ⟨_, .inl h1, by rw [e]; exact h2⟩
/-! ### C(.., k = v, ..) -/
theorem we_makeKF {c : Ct} {A : AS} {Q : QE} {C : Addr} {Φ : Contract} {E : XK} {t tk : TA} {n m : Nat} {gV : List V → List V → List V} (gD : List D → List D → List D) (hg : ∀ F mm vs zs ds es, Reps c.K F mm vs ds → Reps c.K F mm zs es → Reps c.K F mm (gV vs zs) (gD ds es))
    (h : WA c t A fun A1 ds => WA c tk A1 fun A2 es => ds.length = n ∧ es.length = m ∧ Φ (gD (.ptr A2.o.length :: ds) es) (A2.o ++ [.ins C []]) (fun O' d => d = .non ∧ ∃ fs, O'[A2.o.length]? = some (.ins C fs) ∧ Q ⟨A2.s, O'.set A2.o.length .gone⟩ (.val (.obj C fs))) (fun _ _ _ => False)) : WE c (tMakeK C n m (SpA c.K Φ) gV E t tk) A Q := fun F G mm σ H S Eo Qc k =>
  h F G mm σ H S Eo _ fun F0 m0 A0 vs H0 ds e0 p0 S0 R0 q0 => q0 F0 G m0 σ H0 S0 (Eo.mono e0 p0) _ fun F1 m1 A1 zs H1 es e1 p1 S1 R1 ⟨l1, l2, q⟩ => by
    refine ⟨by rw [R0.len, l1], by rw [R1.len, l2], fun p dx hp hd n => ?_⟩
    have S2 := S1.insNew (C := C) hp hd n
    have ex : Ex F1 (upd F1 dx (.own p)) := ex_upd (S1.h.fresh hd).1
    have pr : Pre m1 (m1 ++ [p]) := Pre.app
    have gp : (m1 ++ [p])[A1.o.length]? = some p := by rw [← S1.h.len, List.getElem?_append_right (Nat.le_refl _), Nat.sub_self]; rfl
    refine ⟨upd F1 dx (.own p), _, m1 ++ [p], A1.o ++ [.ins C []], _, _, _, S2.call, hg _ _ _ _ _ _ (.cons (.ptr gp) (R0.mono (e1.trans ex) (p1.trans pr))) (R1.mono ex pr), q, fun F' m' O' w d H' e3 p3 hs r rr => ?_, fun F' m' O' C dx fvs fs H' e p hs fx rf xx => xx.elim⟩
    obtain ⟨ed, fs, eo, rr⟩ := rr
    subst ed
    cases r
    obtain ⟨F4, e4, S4, R4⟩ := (S2.back e3 p3 hs).insFrz (p3 _ _ gp) eo
    exact ⟨rfl, k F4 m' _ _ H' (.val (.obj C fs)) ((((e0.trans e1).trans ex).trans e3).trans e4) (((p0.trans p1).trans pr).trans p3) S4 R4 rr⟩
end AL
namespace AL
theorem stop_le (stops : List (List Nat)) (text : List Nat) : stopI stops text ≤ text.length := by
  have : ∀ (ss : List (List Nat)) (n : Nat), n ≤ text.length → ss.foldl (fun n s => if endsI text s then max n s.length else n) n ≤ text.length := fun ss => by
    induction ss with
    | nil => intro n h; exact h
    | cons s r ih =>
      intro n h
      refine ih _ ?_
      show (if endsI text s = true then max n s.length else n) ≤ _
      split
      · rename_i c
        unfold endsI at c
        rw [Bool.and_eq_true] at c
        have := of_decide_eq_true c.1
        omega
      · exact h
  exact this stops 0 (Nat.zero_le _)
end AL
namespace AL
open PySem L2
theorem goI_succ {n : NetM} {e : Option Nat} {a : AskM} {b t : List Nat} {k : Nat} (h : goI n e a b k = (t, none)) : goI n e a b (k + 1) = withI e a t (choiceI a.rule a.tape (wtsI n (a.prompt ++ t)) t) := by
  simp only [goI, h]
theorem goI_stay {n : NetM} {e : Option Nat} {a : AskM} {b t : List Nat} {w : Str} {k : Nat} (h : goI n e a b k = (t, some w)) : ∀ j : Nat, goI n e a b (k + j) = (t, some w)
  | 0 => h
  | j + 1 => by
    show goI n e a b (k + j + 1) = _
    simp only [goI, goI_stay h j]
theorem goI_uniq {n : NetM} {e : Option Nat} {a : AskM} {b t t' : List Nat} {w w' : Str} {k k' : Nat} (h : goI n e a b k = (t, some w)) (h' : goI n e a b k' = (t', some w')) : t = t' ∧ w = w' := by
  have e1 := goI_stay h k'
  have e2 := goI_stay h' k
  rw [Nat.add_comm] at e2
  rw [e1] at e2
  cases e2; exact ⟨rfl, rfl⟩
theorem withI_none {e : Option Nat} {a : AskM} {t : List Nat} {ch : Option Nat} (h : (withI e a t ch).2 = none) : ∃ c, ch = some c ∧ (withI e a t ch).1 = t ++ [c] ∧ t.length + 1 < a.most := by
  cases ch with
  | none => simp [withI] at h
  | some c =>
    refine ⟨c, rfl, ?_⟩
    simp only [withI] at h ⊢
    split at h
    · cases h
    · split at h
      · cases h
      · split at h
        · cases h
        · rename_i h1 h2 h3
          rw [if_neg h1, if_neg h2, if_neg h3]
          refine ⟨rfl, ?_⟩
          rw [List.length_append, List.length_singleton] at h3; omega
theorem wts_get {n : NetM} {ls : List Nat} (h : 0 < ls.length) : (rowsI n ls)[ls.length - 1]? = some (rowI n (rowsI n (ls.take (ls.length - 1))) (ls.getD (ls.length - 1) 0)) := by
  rw [rows_get (List.getElem?_eq_getElem (show ls.length - 1 < ls.length by omega)), getD_lt (by omega)]
theorem wtsI_len {n : NetM} {ls : List Nat} (h : 0 < ls.length) : (wtsI n ls).length = n.out.length := rows_wts (ls := ls) _ (List.mem_of_getElem? (wts_get h))
theorem wtsI_bd {n : NetM} (hw : WfN n) {ls : List Nat} : ∀ x ∈ wtsI n ls, 1 ≤ x ∧ x ≤ n.p := wts_bd hw _ _
end AL
namespace AL
open PySem L2
theorem cb_tupS {c : Ct} {A : AS} {Q : QE} {d : D} {ns : List Int} (h : Seq d ns) (q : Q A (.val (.tup (ns.map .int)))) : CbD c (rTupP c.K) [.val d] A Q := by
  rcases h with rfl | rfl
  · exact cb_tupL rfl q
  · exact cb_tupT rfl q
end AL
namespace AL
open PySem L2
/-! ### the laws' own rules, stops, tapes -/
def dRuT : Option RuleM → D
  | none => .non
  | some r => .tup [.int (r.start : Nat), .tup (r.steps.map dStep)]
def C__law_after : Contract := fun ds O R _ => ∃ r L d, ∃ text : List Nat, ds = [dRuT (some r), d] ∧ Seq d (text.map Int.ofNat) ∧ WfRu L r ∧ (∀ l ∈ text, l < L) ∧ R O (dOp (afterI r text))
def C__law_counted : Contract := fun ds O R _ => ∃ ru L d ws t, ∃ text : List Nat, ds = [d, dRuT ru, t] ∧ Seq d ws ∧ Seq t (text.map Int.ofNat) ∧ (∀ r, ru = some r → WfRu L r) ∧ ws.length ≤ L ∧ L ≤ 100 ∧ (∀ l ∈ text, l < L) ∧ R O (.lst ((countedI ru ws text).map .int))
def C__law_choice : Contract := fun ds O R _ => ∃ ru tape L d ws t, ∃ text : List Nat, ds = [d, dRuT ru, .tup (tape.map .int), t] ∧ Seq d ws ∧ Seq t (text.map Int.ofNat) ∧ (∀ r, ru = some r → WfRu L r) ∧ 0 < ws.length ∧ ws.length ≤ L ∧ L ≤ 100 ∧ (∀ x ∈ ws, 0 ≤ x) ∧ (∀ l ∈ text, l < L) ∧ text.length ≤ 1000 ∧ tape.length ≤ 100 ∧ ((∀ c, choiceI ru tape ws text = some c → c < ws.length) → R O (dOp (choiceI ru tape ws text)))
def C__law_rule : Contract := fun ds O R _ => ∃ ns : List Int, ∃ k L : Nat, ds = [.lst (ns.map .int), .int (k : Nat), .int (L : Nat)] ∧ AllN ns ∧ 0 < L ∧ L ≤ 12 ∧ k + 3 + 6 * L ≤ ns.length ∧ ns.length ≤ 1000 ∧ ∀ ru, (∀ r, ru = some r → WfRu L r) → R O (dRuT ru)
def C__law_stops : Contract := fun ds O R _ => ∃ ns : List Int, ∃ k L : Nat, ds = [.lst (ns.map .int), .int (k : Nat), .int (L : Nat)] ∧ AllN ns ∧ 0 < L ∧ k + 30 ≤ ns.length ∧ ns.length ≤ 1000 ∧ ∀ stops : List (List Nat), stops.length ≤ 4 → (∀ s ∈ stops, s.length ≤ 4 ∧ ∀ l ∈ s, l < L) → R O (.tup (stops.map dTx))
def C__law_tape : Contract := fun ds O R _ => ∃ ns : List Int, ∃ k : Nat, ds = [.lst (ns.map .int), .int (k : Nat)] ∧ AllN ns ∧ k + 30 ≤ ns.length ∧ ns.length ≤ 1000 ∧ ∀ tape : List Int, tape.length ≤ 12 → R O (.tup (tape.map .int))
def C__law_ends : Contract := fun ds O R _ => ∃ d, ∃ text stop : List Nat, ds = [d, dTx stop] ∧ Seq d (text.map Int.ofNat) ∧ R O (.bl (endsI text stop))
def C__law_stopped : Contract := fun ds O R _ => ∃ d, ∃ text : List Nat, ∃ stops : List (List Nat), ds = [d, .tup (stops.map dTx)] ∧ Seq d (text.map Int.ofNat) ∧ R O (.int (stopI stops text : Nat))
def dEnd : List Nat × Option Str → D
  | (t, some w) => .tup [dTx t, .str w]
  | (_, none) => .non
def C__law_ended : Contract := fun ds O R _ => ∃ e a, ∃ text : List Nat, ∃ ch : Option Nat, ds = [dOp ch, dOp e, .lst (dL text), .int (a.most : Nat), .tup (a.stops.map dTx)] ∧ text.length < a.most ∧ a.most ≤ 1000 ∧ R O (dEnd (withI e a text ch))
def dAskT (a : AskM) : D := .tup [dTx a.prompt, .int (a.most : Nat), .tup (a.stops.map dTx), .tup (a.tape.map .int), dRuT a.rule]
theorem len__law_after : ∀ ds O R X, C__law_after ds O R X → ds.length = 2 := fun _ _ _ _ h => by obtain ⟨_, _, _, _, rfl, _⟩ := h; rfl
theorem len__law_counted : ∀ ds O R X, C__law_counted ds O R X → ds.length = 3 := fun _ _ _ _ h => by obtain ⟨_, _, _, _, _, _, rfl, _⟩ := h; rfl
theorem len__law_choice : ∀ ds O R X, C__law_choice ds O R X → ds.length = 4 := fun _ _ _ _ h => by obtain ⟨_, _, _, _, _, _, _, rfl, _⟩ := h; rfl
theorem len__law_rule : ∀ ds O R X, C__law_rule ds O R X → ds.length = 3 := fun _ _ _ _ h => by obtain ⟨_, _, _, rfl, _⟩ := h; rfl
theorem len__law_stops : ∀ ds O R X, C__law_stops ds O R X → ds.length = 3 := fun _ _ _ _ h => by obtain ⟨_, _, _, rfl, _⟩ := h; rfl
theorem len__law_tape : ∀ ds O R X, C__law_tape ds O R X → ds.length = 2 := fun _ _ _ _ h => by obtain ⟨_, _, rfl, _⟩ := h; rfl
theorem len__law_ends : ∀ ds O R X, C__law_ends ds O R X → ds.length = 2 := fun _ _ _ _ h => by obtain ⟨_, _, _, rfl, _⟩ := h; rfl
theorem len__law_stopped : ∀ ds O R X, C__law_stopped ds O R X → ds.length = 2 := fun _ _ _ _ h => by obtain ⟨_, _, _, rfl, _⟩ := h; rfl
theorem len__law_ended : ∀ ds O R X, C__law_ended ds O R X → ds.length = 5 := fun _ _ _ _ h => by obtain ⟨_, _, _, _, rfl, _⟩ := h; rfl
/-- a place of a mixed row goes over from the one row to the other -/
theorem mix_next {cs ws : List Int} {i : Nat} {c : Int} (hl : cs.length = ws.length) (hi : cs[i]? = some c) : (cs.take i ++ ws.drop i).set i c = cs.take (i + 1) ++ ws.drop (i + 1) := by
  have h := (List.getElem?_eq_some_iff.mp hi).1
  have hw : i < ws.length := by omega
  have ht : (cs.take i).length = i := by rw [List.length_take]; omega
  rw [List.set_append_right _ _ (by omega), ht, Nat.sub_self, List.drop_eq_getElem_cons hw, List.set_cons_zero, take_succ hi, List.append_assoc]; rfl
theorem mix_same {cs ws : List Int} {i : Nat} {c : Int} (hi : cs[i]? = some c) (hw : ws[i]? = some c) : cs.take i ++ ws.drop i = cs.take (i + 1) ++ ws.drop (i + 1) := by
  rw [take_succ hi, drop_at hw, List.append_assoc]; rfl
theorem counted_at {r : RuleM} {ws : List Int} {text : List Nat} {i : Nat} (hi : i < ws.length) : (countedI (some r) ws text)[i]? = some (if letsI r text i then ws.getD i 0 else 0) := by
  show ((List.range ws.length).map _)[i]? = _
  rw [List.getElem?_map, List.getElem?_range hi]; rfl
end AL
namespace AL
open PySem L2
/-- a slice from a place on -/
theorem we_slF {c : Ct} {A : AS} {Q : QE} {ls : List Nat} {d : D} {i : Nat} {te : TE} (hi : A.s[i]? = some (some (.val d))) (hd : Seq d (ls.map Int.ofNat)) (h : WE c te A fun A1 r => ∃ m : Nat, r = .val (.int (m : Nat)) ∧ m ≤ ls.length ∧ ∀ d', Seq d' ((ls.drop m).map Int.ofNat) → Q A1 (.val d')) : WE c (tSl (rSlAA c.K) (tVar i) (tPart te) tNoPart) A Q := by
  have e : ∀ m : Nat, m ≤ ls.length → cutD ((ls.map Int.ofNat).map D.int) (some (m : Int)) none = ((ls.drop m).map Int.ofNat).map D.int := fun m hm => by rw [cutD_from (by rw [List.length_map]; exact hm), ← List.map_drop]
  rcases hd with rfl | rfl
  · refine we_slL (we_var hi (wo_some (h.imp fun A1 r z => ?_)))
    obtain ⟨m, rfl, hm, q⟩ := z
    exact ⟨m, rfl, wo_none ⟨_, rfl, rfl, trivial, by rw [e m hm]; exact q _ (.inl rfl)⟩⟩
  · refine we_slT (we_var hi (wo_some (h.imp fun A1 r z => ?_)))
    obtain ⟨m, rfl, hm, q⟩ := z
    exact ⟨m, rfl, wo_none ⟨_, rfl, by rw [e m hm]; exact q _ (.inr rfl)⟩⟩
end AL
namespace AL
open PySem L2
theorem withI_len {e : Option Nat} {a : AskM} {t : List Nat} {ch : Option Nat} (h : t.length < a.most) : (withI e a t ch).1.length ≤ a.most := by
  cases ch with
  | none => show t.length ≤ _; omega
  | some c =>
    have hl : (t ++ [c]).length = t.length + 1 := by rw [List.length_append]; rfl
    simp only [withI]
    split
    · show t.length ≤ _; omega
    · split
      · show (List.take _ _).length ≤ _; rw [List.length_take]; omega
      · split
        · show (t ++ [c]).length ≤ _; omega
        · show (t ++ [c]).length ≤ _; omega
theorem goI_len {n : NetM} {e : Option Nat} {a : AskM} {b : List Nat} (hb : b.length < a.most) : ∀ k : Nat, (goI n e a b k).1.length ≤ a.most ∧ ((goI n e a b k).2 = none → (goI n e a b k).1.length < a.most)
  | 0 => ⟨Nat.le_of_lt hb, fun _ => hb⟩
  | k + 1 => by
    have ih := goI_len (n := n) (e := e) hb k
    cases h : goI n e a b k with
    | mk t w =>
    rw [h] at ih
    cases w with
    | some w => rw [show goI n e a b (k + 1) = (t, some w) from goI_stay h 1]; exact ⟨ih.1, fun z => nomatch z⟩
    | none =>
      rw [goI_succ h]
      refine ⟨withI_len (ih.2 rfl), fun z => ?_⟩
      obtain ⟨c, _, e1, e2⟩ := withI_none z
      rw [e1, List.length_append]; exact e2
theorem noLstO_gone {O : List Cell} (h : NoLstO O) (j : Nat) : NoLstO (O ++ List.replicate j .gone) := fun x hx => by
  rcases List.mem_append.mp hx with z | z
  · exact h x z
  · rw [List.eq_of_mem_replicate z]; exact .gone
theorem sq_empty {K : PySem.W.Frag} {a : Addr} (h : PTup K (fun _ => none) a []) (F : Hp) (m : List Addr) : Rep K F m (.ref a) (.tup []) := by
  refine .tup ?_ .nil
  rcases h with ⟨_, h⟩ | h
  · cases h
  · exact .inr h
end AL

namespace AL
open PySem L2
/-! ### cells that change: dicts, lists, fields -/
section
variable {κ : Type} [DecidableEq κ]
def valD (kvs : List (κ × D)) (k : κ) : Option D := (kvs.find? fun kv => decide (kv.1 = k)).map (·.2)
def putKD (kvs : List (κ × D)) (k : κ) (v : D) : List (κ × D) :=
  if (kvs.any fun kv => decide (kv.1 = k)) = true then kvs.map fun kv => if kv.1 = k then (kv.1, v) else kv else kvs ++ [(k, v)]
variable {K : PySem.W.Frag} {F : Hp} {m : List Addr}
theorem RepK.val : ∀ {kv : List (κ × V)} {kd : List (κ × D)} (k : κ), RepK K F m kv kd → (∀ d, valD kd k = some d → ∃ v, valV kv k = some v ∧ Rep K F m v d) ∧ (valD kd k = none → valV kv k = none)
  | _, _, k, .nil => ⟨fun d h => by simp [valD] at h, fun _ => rfl⟩
  | _, _, k, .cons (k := k') (v := v) (d := d) a r => by
    by_cases e : k' = k
    · have e1 : ∀ r : List (κ × D), valD ((k', d) :: r) k = some d := fun r => by simp [valD, List.find?_cons, e]
      exact ⟨fun d' h => by rw [e1] at h; cases h; exact ⟨v, valV_pos e, a⟩, fun h => by rw [e1] at h; cases h⟩
    · have e1 : ∀ r : List (κ × D), valD ((k', d) :: r) k = valD r k := fun r => by simp [valD, List.find?_cons, e]
      have ih := RepK.val k r
      exact ⟨fun d' h => by rw [e1] at h; rw [valV_neg e]; exact ih.1 d' h, fun h => by rw [e1] at h; rw [valV_neg e]; exact ih.2 h⟩
theorem RepK.any : ∀ {kv : List (κ × V)} {kd : List (κ × D)} (k : κ), RepK K F m kv kd → (kv.any fun kv => decide (kv.1 = k)) = (kd.any fun kv => decide (kv.1 = k))
  | _, _, _, .nil => rfl
  | _, _, k, .cons _ r => by rw [List.any_cons, List.any_cons, RepK.any k r]
theorem RepK.repl {y : V} {d : D} (x : Rep K F m y d) : ∀ {kv : List (κ × V)} {kd : List (κ × D)} (k : κ), RepK K F m kv kd → RepK K F m (kv.map fun kv => if kv.1 = k then (kv.1, y) else kv) (kd.map fun kv => if kv.1 = k then (kv.1, d) else kv)
  | _, _, _, .nil => .nil
  | _, _, k, .cons (k := k') a r => by
    rw [List.map_cons, List.map_cons]
    by_cases e : k' = k
    · simp only [e, if_true]; exact .cons x (RepK.repl x k r)
    · simp only [e, if_false]; exact .cons a (RepK.repl x k r)
theorem RepK.snoc {y : V} {d : D} (x : Rep K F m y d) : ∀ {kv : List (κ × V)} {kd : List (κ × D)} (k : κ), RepK K F m kv kd → RepK K F m (kv ++ [(k, y)]) (kd ++ [(k, d)])
  | _, _, _, .nil => .cons x .nil
  | _, _, k, .cons a r => .cons a (RepK.snoc x k r)
theorem RepK.put {y : V} {d : D} (x : Rep K F m y d) {kv : List (κ × V)} {kd : List (κ × D)} (k : κ) (r : RepK K F m kv kd) : RepK K F m (putK kv k y) (putKD kd k d) := by
  unfold putK putKD
  rw [r.any k]
  split
  · exact r.repl x k
  · exact r.snoc x k
theorem RepK.len : ∀ {kv : List (κ × V)} {kd : List (κ × D)}, RepK K F m kv kd → kv.length = kd.length
  | _, _, .nil => rfl
  | _, _, .cons _ r => by rw [List.length_cons, List.length_cons, RepK.len r]
end
def keyD : D → Option Key
  | .int i => some (.inl i)
  | .str x => some (.inr x)
  | _ => none
theorem keyD_ok {K : PySem.W.Frag} {F : Hp} {m : List Addr} {v : V} {d : D} {k : Key} (R : Rep K F m v d) (h : keyD d = some k) : v = kV k := by
  cases R <;> simp only [keyD, Option.some.injEq, reduceCtorEq] at h <;> subst h <;> rfl
/-- an object that is nobody's becomes a cell -/
theorem Sim.addCell {K : PySem.W.Frag} {F G : Hp} {m : List Addr} {A : AS} {σ : St} {H : Hp} {p : Addr} {c : Cell} (S1 : Sim K F G m A σ H) (f : F p = none) (g : G p = none) (mm : ∀ n : Nat, m[n]? ≠ some p) (no : ¬ IsOwn A.s σ p) (he : ∃ o, H p = some o)
    (lc : c.live) (hx : CellAt K F (m ++ [p]) H p c) : Sim K F G (m ++ [p]) ⟨A.s, A.o ++ [c]⟩ σ H := by
  have pr : Pre m (m ++ [p]) := Pre.app
  refine ⟨⟨S1.h.exF, S1.h.exG, S1.h.dj, by rw [List.length_append, List.length_append, S1.h.len]; rfl, fun i a d z1 z2 l => ?_, fun i j a z1 z2 => ?_, fun i a z => ?_, fun i a z => ?_, fun i a z1 z2 => ?_⟩, S1.s.go (Evl.Ex.refl _) pr fun i x a z1 z2 => ?_⟩
  · by_cases z : i < m.length
    · rw [List.getElem?_append_left z] at z1
      rw [List.getElem?_append_left (by rw [← S1.h.len]; exact z)] at z2
      obtain ⟨x1, x2, x3⟩ := S1.h.cell i a d z1 z2 l
      exact ⟨x1, x2, x3.mono (fun _ _ h => h) pr rfl⟩
    · have hl := (List.getElem?_eq_some_iff.mp z1).1
      rw [List.length_append] at hl
      have ei : i = m.length := by simp only [List.length_cons, List.length_nil] at hl; omega
      subst ei
      rw [List.getElem?_append_right (Nat.le_refl _), Nat.sub_self] at z1
      rw [List.getElem?_append_right (by rw [S1.h.len]; exact Nat.le_refl _), S1.h.len, Nat.sub_self] at z2
      cases z1; cases z2
      exact ⟨f, g, hx⟩
  · by_cases z : i < m.length
    · rw [List.getElem?_append_left z] at z1
      by_cases y : j < m.length
      · rw [List.getElem?_append_left y] at z2; exact S1.h.inj i j a z1 z2
      · have hl := (List.getElem?_eq_some_iff.mp z2).1
        rw [List.length_append] at hl
        have ej : j = m.length := by simp only [List.length_cons, List.length_nil] at hl; omega
        subst ej
        rw [List.getElem?_append_right (Nat.le_refl _), Nat.sub_self] at z2
        cases z2
        exact absurd z1 (mm i)
    · have hl := (List.getElem?_eq_some_iff.mp z1).1
      rw [List.length_append] at hl
      have ei : i = m.length := by simp only [List.length_cons, List.length_nil] at hl; omega
      subst ei
      rw [List.getElem?_append_right (Nat.le_refl _), Nat.sub_self] at z1
      cases z1
      by_cases y : j < m.length
      · rw [List.getElem?_append_left y] at z2; exact absurd z2 (mm j)
      · have hl := (List.getElem?_eq_some_iff.mp z2).1
        rw [List.length_append] at hl
        simp only [List.length_cons, List.length_nil] at hl; omega
  · by_cases y : i < m.length
    · rw [List.getElem?_append_left y] at z; exact S1.h.here i a z
    · have hl := (List.getElem?_eq_some_iff.mp z).1
      rw [List.length_append] at hl
      have ei : i = m.length := by simp only [List.length_cons, List.length_nil] at hl; omega
      subst ei
      rw [List.getElem?_append_right (Nat.le_refl _), Nat.sub_self] at z
      cases z; exact he
  · by_cases y : i < m.length
    · rw [List.getElem?_append_left y] at z; exact S1.h.mG i a z
    · have hl := (List.getElem?_eq_some_iff.mp z).1
      rw [List.length_append] at hl
      have ei : i = m.length := by simp only [List.length_cons, List.length_nil] at hl; omega
      subst ei
      rw [List.getElem?_append_right (Nat.le_refl _), Nat.sub_self] at z
      cases z; exact g
  · by_cases y : i < m.length
    · rw [List.getElem?_append_left y] at z1
      rw [List.getElem?_append_left (by rw [← S1.h.len]; exact y)] at z2
      exact S1.h.gn i a z1 z2
    · have hl := (List.getElem?_eq_some_iff.mp z1).1
      rw [List.length_append] at hl
      have ei : i = m.length := by simp only [List.length_cons, List.length_nil] at hl; omega
      subst ei
      rw [List.getElem?_append_right (by rw [S1.h.len]; exact Nat.le_refl _), S1.h.len, Nat.sub_self] at z2
      cases z2; exact lc.elim
  · obtain ⟨b, q, l, f', g', mm', cc⟩ := S1.s.ownAt z1
    rw [z2] at q; cases q
    have np : a ≠ p := fun z => no ⟨i, x, z1, z ▸ z2⟩
    refine ⟨f', fun n e => ?_, rfl⟩
    by_cases y : n < m.length
    · rw [List.getElem?_append_left y] at e; exact mm' n e
    · have hl := (List.getElem?_eq_some_iff.mp e).1
      rw [List.length_append] at hl
      have ei : n = m.length := by simp only [List.length_cons, List.length_nil] at hl; omega
      subst ei
      rw [List.getElem?_append_right (Nat.le_refl _), Nat.sub_self] at e
      cases e; exact np rfl
/-- the state with a cell changed -/
theorem Sim.cset {K : PySem.W.Frag} {F G : Hp} {m : List Addr} {A : AS} {σ : St} {H : Hp} {n : Nat} {p : Addr} {o : HO} {c c' : Cell} (S : Sim K F G m A σ H) (hm : m[n]? = some p) (hc : A.o[n]? = some c) (l : c.live) (l' : c'.live) (hx : CellAt K F m (upd H p o) p c') :
    Sim K F G m ⟨A.s, A.o.set n c'⟩ σ (upd H p o) := ⟨S.h.cset hm hc l l' hx, S.s.go (Evl.Ex.refl _) (Pre.refl _) fun i z a y1 y2 => by
    obtain ⟨b, qb, l, f', g', mm, cc⟩ := S.s.ownAt y1
    rw [y2] at qb; cases qb
    exact ⟨f', mm, upd_ne fun z => mm n (by rw [z]; exact hm)⟩⟩
section
variable {c : Ct} {A : AS} {te ta tb tl td ty tv : TE} {t u tt : TT} {x y : RV} {Q : QE} {nx bk ct : AS → Prop} {rt : List Cell → D → Prop}
theorem ptr_at {K : PySem.W.Frag} {F G : Hp} {m : List Addr} {A : AS} {σ : St} {H : Hp} {v : V} {n : Nat} {ce : Cell} (S : Sim K F G m A σ H) (R : Rep K F m v (.ptr n)) (hc : A.o[n]? = some ce) (l : ce.live) : ∃ a, v = .ref a ∧ m[n]? = some a ∧ CellAt K F m H a ce := by
  cases R with
  | ptr em => exact ⟨_, rfl, em, (S.h.cell n _ _ em hc l).2.2⟩
/-- d[k] -/
theorem we_dget (h : WE c td A fun A1 x => WE c ty A1 fun A2 y => ∃ n kvs dk k d, x = .val (.ptr n) ∧ A2.o[n]? = some (.dK kvs) ∧ y = .val dk ∧ keyD dk = some k ∧ valD kvs k = some d ∧ Q A2 (.val d)) : WE c (tDGet td ty) A Q := fun F G m σ H S E Qc kc =>
  h F G m σ H S E _ fun F1 m1 A1 v H1 x e1 p1 S1 R1 q1 => q1 F1 G m1 σ H1 S1 (E.mono e1 p1) _ fun F2 m2 A2 w H2 y e2 p2 S2 R2 ⟨n, kvs, dk, k, d, ex, hc, ey, hk, hv, q⟩ => by
    subst ex ey
    have R1' : Rep c.K F2 m2 v (.ptr n) := Rep.mono e2 p2 R1
    obtain ⟨a, rfl, hm, kv, ha, rk⟩ := ptr_at S2 R1' hc trivial
    have ek := keyD_ok (show Rep c.K F2 m2 w dk from R2) hk
    subst ek
    obtain ⟨v, hvv, rv⟩ := (rk.val k).1 d hv
    exact ⟨a, v, rfl, .inl ⟨kv, k, .inl ha, rfl, hvv.symm⟩, kc F2 m2 A2 v H2 (.val d) (e1.trans e2) (p1.trans p2) S2 rv q⟩
/-- k in d -/
theorem we_din (h : WE c ty A fun A1 y => WE c td A1 fun A2 x => ∃ n kvs dk k, x = .val (.ptr n) ∧ A2.o[n]? = some (.dK kvs) ∧ y = .val dk ∧ keyD dk = some k ∧ Q A2 (.val (.bl (valD kvs k).isSome))) : WE c (tDIn ty td) A Q := fun F G m σ H S E Qc kc =>
  h F G m σ H S E _ fun F1 m1 A1 w H1 y e1 p1 S1 R1 q1 => q1 F1 G m1 σ H1 S1 (E.mono e1 p1) _ fun F2 m2 A2 v H2 x e2 p2 S2 R2 ⟨n, kvs, dk, k, ex, hc, ey, hk, q⟩ => by
    subst ex ey
    obtain ⟨a, rfl, hm, kv, ha, rk⟩ := ptr_at S2 R2 hc trivial
    have ek := keyD_ok (show Rep c.K F1 m1 w dk from R1) hk
    subst ek
    refine ⟨a, valV kv k, rfl, .inl ⟨kv, k, .inl ha, rfl, rfl⟩, kc F2 m2 A2 _ H2 (.val (.bl (valD kvs k).isSome)) (e1.trans e2) (p1.trans p2) S2 ?_ q⟩
    have : (valV kv k).isSome = (valD kvs k).isSome := by
      cases z : valD kvs k with
      | none => rw [(rk.val k).2 z]; rfl
      | some d => obtain ⟨v, hv, _⟩ := (rk.val k).1 d z; rw [hv]; rfl
    rw [this]; exact .bl _
theorem we_dnin (h : WE c ty A fun A1 y => WE c td A1 fun A2 x => ∃ n kvs dk k, x = .val (.ptr n) ∧ A2.o[n]? = some (.dK kvs) ∧ y = .val dk ∧ keyD dk = some k ∧ Q A2 (.val (.bl (!(valD kvs k).isSome)))) : WE c (tDNotIn ty td) A Q := fun F G m σ H S E Qc kc =>
  h F G m σ H S E _ fun F1 m1 A1 w H1 y e1 p1 S1 R1 q1 => q1 F1 G m1 σ H1 S1 (E.mono e1 p1) _ fun F2 m2 A2 v H2 x e2 p2 S2 R2 ⟨n, kvs, dk, k, ex, hc, ey, hk, q⟩ => by
    subst ex ey
    obtain ⟨a, rfl, hm, kv, ha, rk⟩ := ptr_at S2 R2 hc trivial
    have ek := keyD_ok (show Rep c.K F1 m1 w dk from R1) hk
    subst ek
    refine ⟨a, valV kv k, rfl, .inl ⟨kv, k, .inl ha, rfl, rfl⟩, kc F2 m2 A2 _ H2 (.val (.bl (!(valD kvs k).isSome))) (e1.trans e2) (p1.trans p2) S2 ?_ q⟩
    have : (valV kv k).isSome = (valD kvs k).isSome := by
      cases z : valD kvs k with
      | none => rw [(rk.val k).2 z]; rfl
      | some d => obtain ⟨v, hv, _⟩ := (rk.val k).1 d z; rw [hv]; rfl
    rw [this]; exact .bl _
/-- d[k] = e -/
theorem vs_dput (h : WE c tv A fun A0 r => Frz A0 r fun A1 d => WE c td A1 fun A2 x => WE c ty A2 fun A3 y => ∃ n kvs dk k, x = .val (.ptr n) ∧ A3.o[n]? = some (.dK kvs) ∧ y = .val dk ∧ keyD dk = some k ∧ kvs.length < 100000 ∧ nx ⟨A3.s, A3.o.set n (.dK (putKD kvs k d))⟩) :
    WS c (sDPut td ty tv) A ⟨nx, rt, bk, ct⟩ := fun F G m σ H S E Dc kc => (WE.frz h) F G m σ H S E _ fun F0 m0 A0 v0 H0 r e0 p0 S0 R0 ⟨d, er, q0⟩ => by
  subst er
  refine q0 F0 G m0 σ H0 S0 (E.mono e0 p0) _ fun F1 m1 A1 v H1 x e1 p1 S1 R1 q1 => q1 F1 G m1 σ H1 S1 (E.mono (e0.trans e1) (p0.trans p1)) _ fun F2 m2 A2 w H2 y e2 p2 S2 R2 ⟨n, kvs, dk, k, ex, hc, ey, hk, hl, q⟩ => ?_
  subst ex ey
  have R1' : Rep c.K F2 m2 v (.ptr n) := Rep.mono e2 p2 R1
  have R0' : Rep c.K F2 m2 v0 d := Rep.mono (e1.trans e2) (p1.trans p2) R0
  obtain ⟨a, rfl, hm, kv, ha, rk⟩ := ptr_at S2 R1' hc trivial
  have ek := keyD_ok (show Rep c.K F2 m2 w dk from R2) hk
  subst ek
  refine ⟨a, _, rfl, .inl ⟨kv, k, ha, rfl, Nat.lt_of_lt_of_le (by rw [rk.len]; exact hl) (by decide), rfl⟩, kc.nx F2 m2 ⟨A2.s, A2.o.set n (.dK (putKD kvs k d))⟩ σ _ ((e0.trans e1).trans e2) ((p0.trans p1).trans p2) (S2.cset (c' := .dK (putKD kvs k d)) hm hc trivial trivial ⟨_, upd_same, rk.put R0' k⟩) q⟩
/-- {} -/
theorem we_dnewK (q : Q ⟨A.s, A.o ++ [.dK []]⟩ (.val (.ptr A.o.length))) : WE c tDNewK A Q := fun F G m σ H S E Qc kc p hp => by
  obtain ⟨f, g, mm⟩ := S.h.fresh hp
  exact kc F (m ++ [p]) ⟨A.s, A.o ++ [.dK []]⟩ (.ref p) _ (.val (.ptr A.o.length)) (Evl.Ex.refl _) Pre.app ((S.new (o := .dK []) hp).addCell (c := .dK []) f g mm (S.notOwn hp) ⟨_, upd_same⟩ trivial ⟨[], upd_same, .nil⟩) (show Rep c.K _ _ _ _ from .ptr (by rw [← S.h.len, List.getElem?_append_right (Nat.le_refl _), Nat.sub_self]; rfl)) q
/-- the pairs of a display, by their texts' keys -/
def WPs (c : Ct) : List (TE × TE) → AS → (AS → List (Key × D) → Prop) → Prop
  | [], A, Q => Q A []
  | (tk, tv) :: r, A, Q => WE c tk A fun A1 x => ∃ dk k, x = .val dk ∧ keyD dk = some k ∧ WE c tv A1 fun A2 y => Frz A2 y fun A3 d => WPs c r A3 fun A4 kvs => Q A4 ((k, d) :: kvs)
theorem wps_ok : ∀ (trs : List (TE × TE)) {A : AS} {Q : AS → List (Key × D) → Prop}, WPs c trs A Q → ∀ F G m σ H, Sim c.K F G m A σ H → EOk c F G m → ∀ Qc : List (V × V) → Hp → Prop,
    (∀ F' m' A' kv kvs H', Ex F F' → Pre m m' → Sim c.K F' G m' A' σ H' → RepK c.K F' m' kv kvs → Q A' kvs → Qc (kv.map fun kv => (kV kv.1, kv.2)) H') → tPairs trs σ H Qc
  | [], A, Q, h, F, G, m, σ, H, S, E, Qc, kc => kc F m A [] [] H (Evl.Ex.refl _) (Pre.refl _) S .nil h
  | (tk, tv) :: r, A, Q, h, F, G, m, σ, H, S, E, Qc, kc => h F G m σ H S E _ fun F1 m1 A1 v H1 x e1 p1 S1 R1 ⟨dk, k, ex, hk, q1⟩ => by
    subst ex
    have ek := keyD_ok (show Rep c.K F1 m1 v dk from R1) hk
    subst ek
    refine (WE.frz q1) F1 G m1 σ H1 S1 (E.mono e1 p1) _ fun F2 m2 A2 w H2 y e2 p2 S2 R2 ⟨d, ey, q2⟩ => ?_
    subst ey
    refine wps_ok r q2 F2 G m2 σ H2 S2 (E.mono (e1.trans e2) (p1.trans p2)) _ fun F3 m3 A3 kv kvs H3 e3 p3 S3 R3 q3 => ?_
    exact kc F3 m3 A3 ((k, w) :: kv) ((k, d) :: kvs) H3 ((e1.trans e2).trans e3) ((p1.trans p2).trans p3) S3 (.cons (Rep.mono e3 p3 R2) R3) q3
def mergeKD (kvs more : List (Key × D)) : List (Key × D) := more.foldl (fun acc kv => putKD acc kv.1 kv.2) kvs
theorem RepK.merge {K : PySem.W.Frag} {F : Hp} {m : List Addr} : ∀ {more : List (Key × V)} {mored : List (Key × D)} {kv : List (Key × V)} {kd : List (Key × D)}, RepK K F m more mored → RepK K F m kv kd → RepK K F m (mergeK kv more) (mergeKD kd mored)
  | _, _, _, _, .nil, h => h
  | _, _, _, _, .cons (k := k) (v := v) (d := d) (vs := vs) (ds := ds) a r, h => show RepK K F m (mergeK (putK _ k v) vs) (mergeKD (putKD _ k d) ds) from RepK.merge r (h.put a _)
/-- {k: v, ..} -/
theorem we_disp {trs : List (TE × TE)} (h : WPs c trs A fun A1 kvs => kvs.length ≤ 15 ∧ Q ⟨A1.s, A1.o ++ [.dK (mergeKD [] kvs)]⟩ (.val (.ptr A1.o.length))) : WE c (tDisp trs) A Q := fun F G m σ H S E Qc kc p hp => by
  have gp : G p = none := (S.h.fresh hp).2.1
  have sub : ∀ (o : HO) a u, G a = some u → upd G p o a = some u := fun o a u e => by rw [upd_ne (ne_of_none e gp)]; exact e
  refine wps_ok trs h F (upd G p (.dK [])) m σ _ (S.addG hp) (E.weakG (sub _)) _ fun F1 m1 A1 kv kvs H1 e1 p1 S1 R1 ⟨hl, q⟩ => ?_
  have hH : H1 p = some (.dK []) := S1.h.exG p _ upd_same
  have fp : F1 p = none := by
    cases y : F1 p with
    | none => rfl
    | some u => have z := S1.h.dj p u y; rw [upd_same] at z; cases z
  have mp : ∀ n : Nat, m1[n]? ≠ some p := fun n e => by have z := S1.h.mG n p e; rw [upd_same] at z; cases z
  have np : ¬ IsOwn A1.s σ p := fun o => by have z := (S1.s.isOwn o).2.1; rw [upd_same] at z; cases z
  refine ⟨hH, kv, rfl, by rw [R1.len]; exact hl, ?_⟩
  have S2 : Sim c.K F1 G m1 A1 σ (upd H1 p (.dK (mergeK [] kv))) := (S1.setG (o' := .dK (mergeK [] kv))).weakG (sub _)
  exact kc F1 (m1 ++ [p]) ⟨A1.s, A1.o ++ [.dK (mergeKD [] kvs)]⟩ (.ref p) _ (.val (.ptr A1.o.length)) e1 (p1.trans Pre.app) (S2.addCell (c := .dK (mergeKD [] kvs)) fp gp mp np ⟨_, upd_same⟩ trivial ⟨_, upd_same, (RepK.merge (R1.mono (Evl.Ex.refl _) Pre.app) .nil)⟩)
    (show Rep c.K _ _ _ _ from .ptr (by rw [← S1.h.len, List.getElem?_append_right (Nat.le_refl _), Nat.sub_self]; rfl)) q
/-! ### lists that are cells -/
/-- xs[i] = e -/
theorem vs_setP (h : WE c te A fun A0 r => Frz A0 r fun A1 d => WE c tl A1 fun A2 x => WE c tb A2 fun A3 y => ∃ n ds, ∃ i : Int, ∃ j : Nat, x = .val (.ptr n) ∧ A3.o[n]? = some (.lst ds) ∧ y = .val (.int i) ∧ ixN ds.length i = some j ∧ nx ⟨A3.s, A3.o.set n (.lst (ds.set j d))⟩) :
    WS c (tAsg te (gSub tl tb rSetL)) A ⟨nx, rt, bk, ct⟩ := fun F G m σ H S E Dc kc => (WE.frz h) F G m σ H S E _ fun F0 m0 A0 v0 H0 r e0 p0 S0 R0 ⟨d, er, q0⟩ => by
  subst er
  refine q0 F0 G m0 σ H0 S0 (E.mono e0 p0) _ fun F1 m1 A1 v H1 x e1 p1 S1 R1 q1 => q1 F1 G m1 σ H1 S1 (E.mono (e0.trans e1) (p0.trans p1)) _ fun F2 m2 A2 w H2 y e2 p2 S2 R2 ⟨n, ds, i, j, ex, hc, ey, hj, q⟩ => ?_
  subst ex ey
  have R1' : Rep c.K F2 m2 v (.ptr n) := Rep.mono e2 p2 R1
  have R0' : Rep c.K F2 m2 v0 d := Rep.mono (e1.trans e2) (p1.trans p2) R0
  obtain ⟨a, rfl, hm, vs, ha, rv⟩ := ptr_at S2 R1' hc trivial
  cases R2
  exact ⟨a, vs, i, j, rfl, rfl, ha, by rw [rv.len]; exact hj, kc.nx F2 m2 ⟨A2.s, A2.o.set n (.lst (ds.set j d))⟩ σ _ ((e0.trans e1).trans e2) ((p0.trans p1).trans p2) (S2.cset (c' := .lst (ds.set j d)) hm hc trivial trivial ⟨_, upd_same, Reps.set R0' j rv⟩) q⟩
/-- xs.append(e) -/
theorem vs_appendP (h : WE c tl A fun A1 x => ∃ n ds0, x = .val (.ptr n) ∧ A1.o[n]? = some (.lst ds0) ∧ WE c te A1 fun A2 r => Frz A2 r fun A3 d => ∃ ds, A3.o[n]? = some (.lst ds) ∧ ds.length < 100000 ∧ nx ⟨A3.s, A3.o.set n (.lst (ds ++ [d]))⟩) :
    WS c (tDrop (tBM c.K "list" rAppend tl (tCons te tNil))) A ⟨nx, rt, bk, ct⟩ := fun F G m σ H S E Dc kc => h F G m σ H S E _ fun F1 m1 A1 v H1 x e1 p1 S1 R1 ⟨n, ds0, ex, hc0, q1⟩ => by
  subst ex
  obtain ⟨a, rfl, hm, vs0, ha0, _⟩ := ptr_at S1 R1 hc0 trivial
  refine ⟨.inl ⟨rfl, vs0, .inl (.inl ha0)⟩, (WE.frz q1) F1 G m1 σ H1 S1 (E.mono e1 p1) _ fun F2 m2 A2 w H2 r e2 p2 S2 R2 ⟨d, er, ds, hc, hl, q⟩ => ?_⟩
  subst er
  have R1' : Rep c.K F2 m2 (.ref a) (.ptr n) := Rep.mono e2 p2 R1
  obtain ⟨b, eb, hm2, vs, ha, rv⟩ := ptr_at S2 R1' hc trivial
  cases eb
  exact ⟨a, vs, w, rfl, rfl, ha, Nat.lt_of_lt_of_le (by rw [rv.len]; exact hl) (by decide), kc.nx F2 m2 ⟨A2.s, A2.o.set n (.lst (ds ++ [d]))⟩ σ _ (e1.trans e2) (p1.trans p2) (S2.cset (c' := .lst (ds ++ [d])) hm2 hc trivial trivial ⟨_, upd_same, rv.app (.cons R2 .nil)⟩) q⟩
end
end AL

namespace AL
open PySem L2 PySem.Spec PyProof.Rows
section
variable {X : Cx}
/-- xs[i], xs a list, by values -/
theorem get_list : PGet X (rIxL X.K) := by
  intro pins s σ H x y v u Q I rx ry h
  obtain ⟨p, xs, i, z, rfl, rfl, hq, he, q⟩ := h
  cases rx
  obtain ⟨t, rfl⟩ := ry
  obtain ⟨its, r, pl, hz⟩ := I.list hq
  obtain ⟨j, h1, h2, h3, h4, h5⟩ := atI_get he
  obtain ⟨w, ew, rw'⟩ := r.get h2
  have hl := r.length
  have hn := line63
  have fin : EP X pins σ Q w s := ⟨z, H, I, rw', q⟩
  by_cases h0 : 0 ≤ i
  · have hj : i.toNat = j := by
      rw [seqIndex_of h0 h5] at h1
      exact Option.some.inj h1
    exact wpAny_getItem_list pl.isList h0 (by omega) (by rw [hj]; simpa using ew) fin
  · have hj : (i + (its.toArray.size : Int)).toNat = j := by
      rw [seqIndex_neg (by omega) h4] at h1
      rw [List.size_toArray, ← hl]
      exact Option.some.inj h1
    exact wpAny_getItem_list_neg pl.isList (by omega) (by rw [List.size_toArray] <;> omega) (by omega) (by rw [hj]; simpa using ew) fin
end
theorem augK {X : Cx} {K : PySem.W.Frag} {st : Stmt} {to ti te : TE} {tip : TIp} (h : X.K = K) (p : PS X st (tAugS to ti te (rIxL X.K) tip rSetL)) : PS X st (tAugS to ti te (rIxL K) tip rSetL) := h ▸ p
section
variable {c : Ct} {A : AS} {te ta tb tl td ty tv : TE} {t u tt : TT} {x y : RV} {Q : QE} {nx bk ct : AS → Prop} {rt : List Cell → D → Prop}
/-- xs[i] += e and its kin, of ints -/
theorem vs_augP {f : Int → Int → Int} (h : WE c tl A fun A1 x => WE c tb A1 fun A2 y => ∃ n ds, ∃ i : Int, ∃ j : Nat, ∃ a : Int, x = .val (.ptr n) ∧ A2.o[n]? = some (.lst ds) ∧ y = .val (.int i) ∧ ixN ds.length i = some j ∧ ds[j]? = some (.int a) ∧
      WE c te A2 fun A3 r => ∃ b : Int, r = .val (.int b) ∧ ∃ ds', A3.o[n]? = some (.lst ds') ∧ ixN ds'.length i = some j ∧ nx ⟨A3.s, A3.o.set n (.lst (ds'.set j (.int (f a b))))⟩) :
    WS c (tAugS tl tb te (rIxL c.K) (ipI f) rSetL) A ⟨nx, rt, bk, ct⟩ := fun F G m σ H S E Dc kc => h F G m σ H S E _ fun F1 m1 A1 v H1 x e1 p1 S1 R1 q1 => q1 F1 G m1 σ H1 S1 (E.mono e1 p1) _ fun F2 m2 A2 w H2 y e2 p2 S2 R2 ⟨n, ds, i, j, a, ex, hc, ey, hj, hd, q2⟩ => by
  subst ex ey
  have R1' : Rep c.K F2 m2 v (.ptr n) := Rep.mono e2 p2 R1
  obtain ⟨ad, rfl, hm, vs, ha, rv⟩ := ptr_at S2 R1' hc trivial
  cases R2
  obtain ⟨va, hva, rva⟩ := rv.get hd
  cases rva
  refine ⟨ad, vs, i, _, rfl, rfl, .inl (.inl ha), by unfold atI; rw [rv.len, hj]; exact hva, q2 F2 G m2 σ H2 S2 (E.mono (e1.trans e2) (p1.trans p2)) _ fun F3 m3 A3 z H3 r e3 p3 S3 R3 ⟨b, er, ds', hc3, hj3, q3⟩ => ?_⟩
  subst er
  cases R3
  have R1'' : Rep c.K F3 m3 (.ref ad) (.ptr n) := Rep.mono e3 p3 R1'
  obtain ⟨ad', ed, hm3, vs3, ha3, rv3⟩ := ptr_at S3 R1'' hc3 trivial
  cases ed
  exact ⟨a, b, rfl, rfl, ad, vs3, i, j, rfl, rfl, ha3, by rw [rv3.len]; exact hj3, kc.nx F3 m3 ⟨A3.s, A3.o.set n (.lst (ds'.set j (.int (f a b))))⟩ σ _ ((e1.trans e2).trans e3) ((p1.trans p2).trans p3) (S3.cset (c' := .lst (ds'.set j (.int (f a b)))) hm3 hc3 trivial trivial ⟨_, upd_same, Reps.set (.int _) j rv3⟩) q3⟩
/-- name += e, of ints -/
theorem vs_augN {i : Nat} {f : Int → Int → Int} {a : Int} (h0 : A.s[i]? = some (some (.val (.int a)))) (h : WE c te A fun A1 r => ∃ b : Int, r = .val (.int b) ∧ nx (A1.setS i (.val (.int (f a b))))) : WS c (tAug i te (ipI f)) A ⟨nx, rt, bk, ct⟩ := fun F G m σ H S E Dc kc => by
  obtain ⟨v, e, r⟩ := S.s.valAt h0
  cases r
  refine ⟨_, e, h F G m σ H S E _ fun F1 m1 A1 w H1 r e1 p1 S1 R1 ⟨b, er, q⟩ => ?_⟩
  subst er
  cases R1
  exact ⟨a, b, rfl, rfl, kc.nx F1 m1 _ _ H1 e1 p1 (S1.setV (Rep.int _)) q⟩
/-- o.f += e, of ints; o a cell -/
theorem vs_fldaug {fn : Str} {rd : V → V → Hp → VK → Prop} {f : Int → Int → Int} (hr : ∀ (i j : Int) H Q, Q (V.int (f i j)) H → rd (.int i) (.int j) H Q) (h : WE c ta A fun A1 x => ∃ n C fs, ∃ a : Int, x = .val (.ptr n) ∧ A1.o[n]? = some (.ins C fs) ∧ Cls c.K C ∧ NoAttr c.K C fn ∧ fs.lookup fn = some (.int a) ∧
      WE c te A1 fun A2 r => ∃ b : Int, r = .val (.int b) ∧ ∃ fs', A2.o[n]? = some (.ins C fs') ∧ fs'.length < 900 ∧ nx ⟨A2.s, A2.o.set n (.ins C (putD fn (.int (f a b)) fs'))⟩) :
    WS c (sFldAug c.K ta te rd fn) A ⟨nx, rt, bk, ct⟩ := fun F G m σ H S E Dc kc => h F G m σ H S E _ fun F1 m1 A1 v H1 x e1 p1 S1 R1 ⟨n, C, fs, a, ex, hc, hC, hn, hl, q1⟩ => by
  subst ex
  obtain ⟨ad, rfl, hm, dx, fv, ha, rf⟩ := ptr_at S1 R1 hc trivial
  obtain ⟨w, hw, rw_⟩ := rf.look hl
  cases rw_
  refine ⟨ad, C, dx, fv, _, rfl, ha, hC, hn, hw, q1 F1 G m1 σ H1 S1 (E.mono e1 p1) _ fun F2 m2 A2 z H2 r e2 p2 S2 R2 ⟨b, er, fs', hc2, hlen, q2⟩ => ?_⟩
  subst er
  cases R2
  have R1' : Rep c.K F2 m2 (.ref ad) (.ptr n) := Rep.mono e2 p2 R1
  obtain ⟨ad', ed, hm2, dx2, fv2, ha2, rf2⟩ := ptr_at S2 R1' hc2 trivial
  cases ed
  refine hr a b _ _ ⟨dx2, fv2, ha2, by rw [rf2.len]; omega, kc.nx F2 m2 ⟨A2.s, A2.o.set n (.ins C (putD fn (.int (f a b)) fs'))⟩ σ _ (e1.trans e2) (p1.trans p2) (S2.cset (c' := .ins C (putD fn (.int (f a b)) fs')) hm2 hc2 trivial trivial ⟨dx2, _, upd_same, rf2.put (Rep.int _)⟩) q2⟩
theorem rAdd_ok (i j : Int) (H : Hp) (Q : VK) (q : Q (V.int (i + j)) H) : rAdd (.int i) (.int j) H Q := ⟨i, j, rfl, rfl, q⟩
theorem rSub_ok (i j : Int) (H : Hp) (Q : VK) (q : Q (V.int (i - j)) H) : rSub (.int i) (.int j) H Q := ⟨i, j, rfl, rfl, q⟩
/-- list(range(n)) -/
theorem wn_listRg {Q : AS → List D → Prop} (h : WE c te A fun A1 r => ∃ n : Int, r = .val (.int n) ∧ 0 ≤ n ∧ n ≤ 1000000 ∧ Q A1 (intsD 0 n.toNat)) : WN c (tLstRg (tRg1 te)) A Q := fun F G m σ H S E Qc kc => h F G m σ H S E _ fun F1 m1 A1 v H1 r e1 p1 S1 R1 ⟨n, er, h0, h1, q⟩ => by
  subst er
  cases R1
  refine ⟨n, rfl, RgOk.of_le (by omega) (by omega) (by omega) (by omega), fun p hp => kc F1 m1 A1 p _ _ _ e1 p1 (S1.new hp) (S1.h.fresh hp).1 (S1.h.fresh hp).2.1 (S1.h.fresh hp).2.2 (S1.notOwn hp) upd_same ?_ q⟩
  unfold rgV intsD
  rw [Int.sub_zero]
  have : ∀ xs : List Nat, Reps c.K F1 m1 (xs.map fun i => V.int (0 + (i : Nat))) (xs.map fun i => D.int (0 + (i : Nat))) := fun xs => by
    induction xs with
    | nil => exact .nil
    | cons x r ih => exact .cons (.int _) ih
  exact this _
end
theorem huOf {n : Nat} (h : n + 64 < cLine) : n + 1 < cLine := by omega
end AL
namespace AL
open PySem L2
section
variable {c : Ct} {A : AS} {te : TE} {tt : TT}
/-- a comprehension by an invariant of the cells and of what is made so far -/
theorem wn_lcI {wi : TI} {g : TG} {vs : List Nat} {Q : AS → List D → Prop} (hg : GOk g vs)
    (h : WI c wi A fun A1 ds => noOwnB A1.s vs = true ∧ ds.length < 100000 ∧ ∃ I : Nat → List Cell → List D → Prop, I 0 A1.o [] ∧
      (∀ i d O acc, ds[i]? = some d → I i O acc → WG c g d ⟨wipeA A1.s vs, O⟩ fun A2 => WT c tt A2 fun A3 b => (b = true → WE c te A3 fun A4 r => Frz A4 r fun A5 e => I (i + 1) A5.o (acc ++ [e]) ∧ ∀ j, j ∉ vs → A5.s[j]? = A1.s[j]?) ∧
        (b = false → I (i + 1) A3.o acc ∧ ∀ j, j ∉ vs → A3.s[j]? = A1.s[j]?)) ∧ ∀ O acc, I ds.length O acc → Q ⟨A1.s, O⟩ acc) :
    WN c (tLc wi g tt te vs) A Q := fun F G m σ H S E Qc k => h F G m σ H S E _ fun F1 m1 A1 J H1 ds e1 p1 S1 RJ ⟨no', hlen, I, hI0, hs, hd⟩ => by
  have no := noOwn_of no'
  intro Dl hD
  have gD : G Dl = none := (S1.h.fresh hD).2.1
  have sub : ∀ (o : HO) a u, G a = some u → upd G Dl o a = some u := fun o a u e => by rw [upd_ne (ne_of_none e gD)]; exact e
  have nD := S1.notOwn hD
  refine ⟨fun i n H2 => n = ds.length - i ∧ i ≤ ds.length ∧ ∃ F2 m2 acc accD O, Ex F1 F2 ∧ Pre m1 m2 ∧ Sim c.K F2 (upd G Dl (.lst acc)) m2 ⟨A1.s, O⟩ σ H2 ∧ Reps c.K F2 m2 acc accD ∧ I i O accD ∧ accD.length ≤ i,
    ⟨_, rfl, Nat.zero_le _, F1, m1, [], [], A1.o, Evl.Ex.refl _, Pre.refl _, S1.addG hD, .nil, hI0, Nat.le_refl _⟩, fun i n H2 hw => ?_⟩
  obtain ⟨rfl, hi, F2, m2, acc, accD, O, e2, p2, S2, R2, q2, la⟩ := hw
  obtain ⟨r1, r2⟩ := RJ F2 _ m2 ⟨A1.s, O⟩ σ H2 e2 p2 S2 i
  have hacc : acc.length ≤ i := by rw [R2.len]; exact la
  by_cases hl : i < ds.length
  · obtain ⟨g1, g2⟩ := r1 _ (List.getElem?_eq_getElem hl)
    refine .inr ⟨g1, fun H3 => i + 1 ≤ ds.length ∧ ∃ F2 m2 acc accD O, Ex F1 F2 ∧ Pre m1 m2 ∧ Sim c.K F2 (upd G Dl (.lst acc)) m2 ⟨A1.s, O⟩ σ H3 ∧ Reps c.K F2 m2 acc accD ∧ I (i + 1) O accD ∧ accD.length ≤ i + 1, fun H3 hN => ⟨_, by omega, rfl, hN⟩, fun x H3 hy => ?_⟩
    obtain ⟨F3, e3, S3, R3⟩ := g2 x H3 hy
    have E3 : EOk c F3 (upd G Dl (.lst acc)) m2 := (E.weakG (sub _)).mono ((e1.trans e2).trans e3) (p1.trans p2)
    have S3w : Sim c.K F3 (upd G Dl (.lst acc)) m2 ⟨wipeA A1.s vs, O⟩ (wipe σ vs) H3 := ⟨S3.h, S3.s.wipe vs⟩
    have ww : wipe (wipe σ vs) vs = wipe σ vs := by
      apply List.ext_getElem?
      intro j
      by_cases hj : j ∈ vs
      · have z : ∀ (us : List Nat) (τ : St), j ∈ us → (wipe τ us)[j]? = if j < τ.length then some none else none := fun us => by
          induction us with
          | nil => intro τ h; cases h
          | cons u us ih =>
            intro τ h
            unfold wipe
            by_cases y : u = j
            · subst y
              by_cases hl : u < τ.length
              · rw [List.getElem?_set_self (by rw [wipe_length]; exact hl), if_pos hl]
              · rw [if_neg hl, List.getElem?_eq_none (by rw [List.length_set, wipe_length]; omega)]
            · rw [List.getElem?_set_ne y]
              exact ih τ (by simpa [show ¬ j = u from fun z => y z.symm] using h)
        rw [z vs _ hj, z vs _ hj, wipe_length]
      · rw [wipe_not hj]
    have hgx := hg x (wipe σ vs) H3 (fun σ2 H4 => tt σ2 H4 fun b H5 => if b = true then te σ2 H5 fun y H6 => ∃ acc', H6 Dl = some (.lst acc') ∧ acc'.length < sizeLine ∧ (i + 1 ≤ ds.length ∧ ∃ F2 m2 acc accD O, Ex F1 F2 ∧ Pre m1 m2 ∧ Sim c.K F2 (upd G Dl (.lst acc)) m2 ⟨A1.s, O⟩ σ (upd H6 Dl (.lst (acc' ++ [y]))) ∧ Reps c.K F2 m2 acc accD ∧ I (i + 1) O accD ∧ accD.length ≤ i + 1) else
      (i + 1 ≤ ds.length ∧ ∃ F2 m2 acc accD O, Ex F1 F2 ∧ Pre m1 m2 ∧ Sim c.K F2 (upd G Dl (.lst acc)) m2 ⟨A1.s, O⟩ σ H5 ∧ Reps c.K F2 m2 acc accD ∧ I (i + 1) O accD ∧ accD.length ≤ i + 1))
    rw [ww] at hgx
    refine hgx (hs i _ O accD (List.getElem?_eq_getElem hl) q2 F3 _ m2 (wipe σ vs) H3 x S3w R3 E3 _ fun F4 m4 A4 σ4 H4 e4 p4 S4 q4 ew => ?_)
    have x4 := e2.trans (e3.trans e4)
    have y4 := p2.trans p4
    refine q4 F4 _ m4 σ4 H4 S4 (E3.mono e4 p4) _ fun F5 m5 A5 b H5 e5 p5 S5 q5 => ?_
    cases b with
    | false =>
      obtain ⟨h1, h3⟩ := q5.2 rfl
      show i + 1 ≤ ds.length ∧ _
      exact ⟨hl, F5, m5, acc, accD, A5.o, x4.trans e5, y4.trans p5, S2.unwipeO S5 (e3.trans (e4.trans e5)) (p4.trans p5) h3 ew no, R2.mono (e3.trans (e4.trans e5)) (p4.trans p5), h1, by omega⟩
    | true =>
      show te σ4 H5 _
      refine (WE.frz (q5.1 rfl)) F5 _ m5 σ4 H5 S5 (E3.mono (e4.trans e5) (p4.trans p5)) _ fun F6 m6 A6 y H6 r e6 p6 S6 R6 q6 => ?_
      obtain ⟨d, er, h1, h3⟩ := q6
      subst er
      have z6 := e3.trans (e4.trans (e5.trans e6))
      have w6 := p4.trans (p5.trans p6)
      refine ⟨acc, S6.h.exG Dl _ upd_same, Nat.lt_of_le_of_lt hacc (Nat.lt_of_lt_of_le (Nat.lt_trans hl hlen) (by decide)), hl, F6, m6, acc ++ [y], accD ++ [d], A6.o, e2.trans z6, p2.trans w6, (S2.unwipeO S6 z6 w6 h3 ew no : Sim c.K F6 _ m6 ⟨A1.s, A6.o⟩ σ _).setG, (R2.mono z6 w6).app (.cons R6 .nil), h1, by rw [List.length_append, List.length_singleton]; omega⟩
  · have ei : i = ds.length := by omega
    subst ei
    have gs := S2.h.exG Dl _ upd_same
    have fD : F2 Dl = none := by
      cases y : F2 Dl with
      | none => rfl
      | some u => have z := S2.h.dj Dl u y; rw [upd_same] at z; cases z
    exact .inl ⟨r2 (Nat.le_refl _), k F2 m2 ⟨A1.s, O⟩ Dl acc H2 _ (e1.trans e2) (p1.trans p2) (S2.weakG (sub _)) fD gD (fun n e => by have z := S2.h.mG n Dl e; rw [upd_same] at z; cases z) nD gs R2 (hd O accD q2)⟩
end
end AL
namespace AL
open PySem L2
section
variable {c : Ct} {A : AS} {te td ty tv tk : TE} {Q : QE}
theorem vs_seqDP {td ty tv : TE} {t2 : TS} {nx bk ct : AS → Prop} {rt : List Cell → D → Prop} (h : WS c (sDPut td ty tv) A ⟨fun A1 => WS c t2 A1 ⟨nx, rt, bk, ct⟩, rt, bk, ct⟩) : WS c (tSeq (sDPut td ty tv) t2) A ⟨nx, rt, bk, ct⟩ := ws_seq h
theorem vs_seqAS {to ti te : TE} {tget : V → V → Hp → VK → Prop} {tip : TIp} {tset : TSet} {t2 : TS} {nx bk ct : AS → Prop} {rt : List Cell → D → Prop} (h : WS c (tAugS to ti te tget tip tset) A ⟨fun A1 => WS c t2 A1 ⟨nx, rt, bk, ct⟩, rt, bk, ct⟩) : WS c (tSeq (tAugS to ti te tget tip tset) t2) A ⟨nx, rt, bk, ct⟩ := ws_seq h
theorem vs_seqFA {K : PySem.W.Frag} {ta tv : TE} {rd : V → V → Hp → VK → Prop} {f : Str} {t2 : TS} {nx bk ct : AS → Prop} {rt : List Cell → D → Prop} (h : WS c (sFldAug K ta tv rd f) A ⟨fun A1 => WS c t2 A1 ⟨nx, rt, bk, ct⟩, rt, bk, ct⟩) : WS c (tSeq (sFldAug K ta tv rd f) t2) A ⟨nx, rt, bk, ct⟩ := ws_seq h
theorem vs_seqAN {i : Nat} {te : TE} {ti : TIp} {t2 : TS} {nx bk ct : AS → Prop} {rt : List Cell → D → Prop} (h : WS c (tAug i te ti) A ⟨fun A1 => WS c t2 A1 ⟨nx, rt, bk, ct⟩, rt, bk, ct⟩) : WS c (tSeq (tAug i te ti) t2) A ⟨nx, rt, bk, ct⟩ := ws_seq h
theorem wps_nil {Q : AS → List (Key × D) → Prop} (q : Q A []) : WPs c [] A Q := q
theorem wps_cons {r : List (TE × TE)} {Q : AS → List (Key × D) → Prop} (h : WE c tk A fun A1 x => ∃ dk k, x = .val dk ∧ keyD dk = some k ∧ WE c tv A1 fun A2 y => Frz A2 y fun A3 d => WPs c r A3 fun A4 kvs => Q A4 ((k, d) :: kvs)) : WPs c ((tk, tv) :: r) A Q := h
theorem key_go {dk : D} {k : Key} {P : Key → Prop} (hk : keyD dk = some k) (q : P k) : ∃ dk' k', RV.val dk = .val dk' ∧ keyD dk' = some k' ∧ P k' := ⟨dk, k, rfl, hk, q⟩
theorem dget_go {O : List Cell} {n : Nat} {kvs : List (Key × D)} {dk : D} {k : Key} {d : D} {P : D → Prop} (hc : O[n]? = some (.dK kvs)) (hk : keyD dk = some k) (hv : valD kvs k = some d) (q : P d) :
    ∃ n' kvs' dk' k' d', RV.val (.ptr n) = .val (.ptr n') ∧ O[n']? = some (.dK kvs') ∧ RV.val dk = .val dk' ∧ keyD dk' = some k' ∧ valD kvs' k' = some d' ∧ P d' := ⟨n, kvs, dk, k, d, rfl, hc, rfl, hk, hv, q⟩
theorem din_go {O : List Cell} {n : Nat} {kvs : List (Key × D)} {dk : D} {k : Key} {P : List (Key × D) → Key → Prop} (hc : O[n]? = some (.dK kvs)) (hk : keyD dk = some k) (q : P kvs k) :
    ∃ n' kvs' dk' k', RV.val (.ptr n) = .val (.ptr n') ∧ O[n']? = some (.dK kvs') ∧ RV.val dk = .val dk' ∧ keyD dk' = some k' ∧ P kvs' k' := ⟨n, kvs, dk, k, rfl, hc, rfl, hk, q⟩
theorem vs_dputN {nx bk ct : AS → Prop} {rt : List Cell → D → Prop} (h : WE c tv A fun A0 r => Frz A0 r fun A1 d => WE c td A1 fun A2 x => WE c ty A2 fun A3 y => ∃ n kvs dk k kv2, x = .val (.ptr n) ∧ A3.o[n]? = some (.dK kvs) ∧ y = .val dk ∧ keyD dk = some k ∧ kvs.length < 100000 ∧ putKD kvs k d = kv2 ∧ nx ⟨A3.s, A3.o.set n (.dK kv2)⟩) :
    WS c (sDPut td ty tv) A ⟨nx, rt, bk, ct⟩ := vs_dput (h.imp fun A0 r z => frz_imp z fun A1 d z => z.imp fun A2 x z => z.imp fun A3 y ⟨n, kvs, dk, k, kv2, h1, h2, h3, h4, h5, h6, h7⟩ => ⟨n, kvs, dk, k, h1, h2, h3, h4, h5, by rw [h6]; exact h7⟩)
theorem dput_go {O : List Cell} {n : Nat} {kvs kv2 : List (Key × D)} {dk d : D} {k : Key} {P : Nat → List (Key × D) → Prop} (hc : O[n]? = some (.dK kvs)) (hk : keyD dk = some k) (hl : kvs.length < 100000) (hp : putKD kvs k d = kv2) (q : P n kv2) :
    ∃ n' kvs' dk' k' kv2', RV.val (.ptr n) = .val (.ptr n') ∧ O[n']? = some (.dK kvs') ∧ RV.val dk = .val dk' ∧ keyD dk' = some k' ∧ kvs'.length < 100000 ∧ putKD kvs' k' d = kv2' ∧ P n' kv2' := ⟨n, kvs, dk, k, kv2, rfl, hc, rfl, hk, hl, hp, q⟩
theorem getset {O : List Cell} {n : Nat} {x : Cell} (h : n < O.length) : (O.set n x)[n]? = some x := by rw [List.getElem?_set_self h]
theorem getset_ne {O : List Cell} {n m : Nat} {x : Cell} (h : n ≠ m) : (O.set n x)[m]? = O[m]? := List.getElem?_set_ne h
theorem getset_go {O : List Cell} {n m : Nat} {x y : Cell} (h : n ≠ m) (q : O[m]? = some y) : (O.set n x)[m]? = some y := by rw [List.getElem?_set_ne h]; exact q
end
end AL
local macro_rules | `(tactic| walk_at "put") => `(tactic| rfl)
local macro_rules | `(tactic| walk_at "cell") => `(tactic| first | assumption | (refine AL.getset ?_; first | omega | (simp only [AL.AS.setS, List.length_set]; omega)) | (refine AL.getset_go ?_ ?_; (first | omega | assumption | (apply Ne.symm; assumption)); walk_at "cell") | rfl)
local macro_rules | `(tactic| walk_at "am1") => `(tactic| (with_reducible first
  | refine' AL.vs_seqDP ?_
  | refine' AL.vs_seqAS ?_
  | refine' AL.vs_seqFA ?_
  | refine' AL.vs_seqAN ?_
  | refine AL.we_dget ?_
  | refine AL.we_din ?_
  | refine AL.we_dnin ?_
  | refine AL.vs_dputN ?_
  | refine AL.we_disp ?_
  | refine AL.wps_cons ?_
  | refine AL.wps_nil ?_))
local macro_rules | `(tactic| walk_at "am2") => `(tactic| first
  | ((with_reducible refine' AL.dget_go ?hc ?hk ?hv ?_); (case hc => walk_at "cell"); (case hk => rfl); (case hv => rfl))
  | ((with_reducible refine' AL.din_go ?hc ?hk ?_); (case hc => walk_at "cell"); (case hk => rfl))
  | ((with_reducible refine' AL.dput_go ?hc ?hk ?hl ?hp ?_); (case hc => walk_at "cell"); (case hk => rfl); (case hl => exact Nat.le_of_ble_eq_true rfl); (case hp => walk_at "put"))
  | ((with_reducible refine' AL.key_go ?hk ?_); (case hk => rfl)))
local macro_rules | `(tactic| walk_at "alm") => `(tactic| ((repeat (first | walk_at "als1" | walk_at "am1" | walk_at "am2" | walk_at "al2")); all_goals (try dsimp only [AL.as_eta])))
local macro_rules | `(tactic| walk_at "almn") => `(tactic| ((repeat (first | walk_at "als1" | walk_at "am1" | walk_at "am2" | walk_at "aln1" | walk_at "al2")); all_goals (try dsimp only [AL.as_eta])))
namespace AL
open PySem L2
section
variable {c : Ct} {A : AS} {te td ty tv tk ta tb tl : TE} {Q : QE}
theorem lsC {A : AS} {n : Nat} {ds : List D} (hc : A.o[n]? = some (.lst ds)) : lsOf A (.val (.ptr n)) = some ds := by simp only [lsOf, hc]
theorem od_ixC {n : Nat} {ns : List Int} {i : Int} (hc : A.o[n]? = some (.lst (ns.map .int))) (h0 : 0 ≤ i) (h1 : i < (ns.length : Int)) (q : Q A (.val (.int (ns.getD i.toNat 0)))) : OpD c (L2.rIx c.K) (.val (.ptr n)) (.val (.int i)) A Q := od_ixI (lsC hc) h0 h1 q
theorem od_ixCn {n : Nat} {ns : List Int} {j : Nat} (hc : A.o[n]? = some (.lst (ns.map .int))) (h1 : j < ns.length) (q : Q A (.val (.int (ns.getD j 0)))) : OpD c (L2.rIx c.K) (.val (.ptr n)) (.val (.int (j : Nat))) A Q := od_ixC hc (by omega) (by omega) (by rw [Int.toNat_natCast]; exact q)
theorem od_ixVn {ns : List Int} {j : Nat} (h1 : j < ns.length) (q : Q A (.val (.int (ns.getD j 0)))) : OpD c (L2.rIx c.K) (.val (.tup (ns.map .int))) (.val (.int (j : Nat))) A Q := od_ixT rfl (atI_ints (by omega) (by omega)) (by rw [Int.toNat_natCast]; exact q)
theorem od_ixLn {ns : List Int} {j : Nat} (h1 : j < ns.length) (q : Q A (.val (.int (ns.getD j 0)))) : OpD c (L2.rIx c.K) (.val (.lst (ns.map .int))) (.val (.int (j : Nat))) A Q := od_ixI rfl (by omega) (by omega) (by rw [Int.toNat_natCast]; exact q)
theorem cb_tupC {n : Nat} {ds : List D} (hc : A.o[n]? = some (.lst ds)) (q : Q A (.val (.tup ds))) : CbD c (rTupP c.K) [.val (.ptr n)] A Q := cb_tupL (lsC hc) q
theorem cn_listC {n : Nat} {ds : List D} {Q : AS → List D → Prop} (hc : A.o[n]? = some (.lst ds)) (q : Q A ds) : CbN c (rListA c.K) [.val (.ptr n)] A Q := cn_listL (lsC hc) q
theorem cb_lenC {n : Nat} {ds : List D} (hc : A.o[n]? = some (.lst ds)) (q : Q A (.val (.int (ds.length : Int)))) : CbD c (rLenA c.K) [.val (.ptr n)] A Q := cb_lenL (lsC hc) q
theorem setP_go {O : List Cell} {n : Nat} {ds : List D} {i : Int} {j : Nat} {P : Nat → List D → Nat → Prop} (hc : O[n]? = some (.lst ds)) (hj : ixN ds.length i = some j) (q : P n ds j) :
    ∃ n' ds', ∃ i' : Int, ∃ j' : Nat, RV.val (.ptr n) = .val (.ptr n') ∧ O[n']? = some (.lst ds') ∧ RV.val (.int i) = .val (.int i') ∧ ixN ds'.length i' = some j' ∧ P n' ds' j' := ⟨n, ds, i, j, rfl, hc, rfl, hj, q⟩
theorem insC {A : AS} {n : Nat} {C : Addr} {fs : List (Str × D)} (hc : A.o[n]? = some (.ins C fs)) : insOf A (.val (.ptr n)) = some (C, fs) := by simp only [insOf, hc]
theorem fld_goC {n : Nat} {f : Str} {P : D → Prop} {C : Addr} {fs : List (Str × D)} {d : D} (hc : A.o[n]? = some (.ins C fs)) (hC : Cls c.K C) (hn : NoAttr c.K C f) (hl : fs.lookup f = some d) (q : P d) : ∃ C fs d, insOf A (.val (.ptr n)) = some (C, fs) ∧ Cls c.K C ∧ NoAttr c.K C f ∧ fs.lookup f = some d ∧ P d := ⟨C, fs, d, insC hc, hC, hn, hl, q⟩
theorem mth_goC {n : Nat} {C : Addr} {mm : Str} {fs : List (Str × D)} {P : D → Prop} (hc : A.o[n]? = some (.ins C fs)) (hl : fs.lookup mm = none) (p : P (.ptr n)) : ∃ d' fs, RV.val (.ptr n) = .val d' ∧ insOf A (.val d') = some (C, fs) ∧ fs.lookup mm = none ∧ P d' := ⟨_, fs, rfl, insC hc, hl, p⟩
theorem prp_goC {n : Nat} {C : Addr} {fs : List (Str × D)} {P : D → Prop} (hc : A.o[n]? = some (.ins C fs)) (p : P (.ptr n)) : ∃ d' fs, RV.val (.ptr n) = .val d' ∧ insOf A (.val d') = some (C, fs) ∧ P d' := ⟨_, fs, rfl, insC hc, p⟩
end
end AL
local macro_rules | `(tactic| walk_at "am1") => `(tactic| (with_reducible first
  | refine AL.vs_setP ?_
  | refine AL.vs_augP ?_
  | refine AL.wn_listRg ?_))
local macro_rules | `(tactic| walk_at "am2") => `(tactic| first
  | ((with_reducible refine' AL.od_ixCn ?hc ?h1 ?_); (case hc => walk_at "cell"); (case h1 => omega))
  | ((with_reducible refine' AL.od_ixVn ?h1 ?_); (case h1 => omega))
  | ((with_reducible refine' AL.od_ixLn ?h1 ?_); (case h1 => omega))
  | ((with_reducible refine' AL.od_ixC ?hc ?h0 ?h1 ?_); (case hc => walk_at "cell"); (case h0 => omega); (case h1 => omega))
  | ((with_reducible refine' AL.fld_goC ?hc ?hC ?hn ?hl ?_); (case hc => walk_at "cell"); (case hC => assumption); (case hn => assumption); (case hl => rfl))
  | ((with_reducible refine' AL.mth_goC ?hc ?hl ?_); (case hc => walk_at "cell"); (case hl => rfl))
  | ((with_reducible refine' AL.prp_goC ?hc ?_); (case hc => walk_at "cell"))
  | ((with_reducible refine' AL.cb_tupC ?hc ?_); (case hc => walk_at "cell"))
  | ((with_reducible refine' AL.cn_listC ?hc ?_); (case hc => walk_at "cell"))
  | ((with_reducible refine' AL.cb_lenC ?hc ?_); (case hc => walk_at "cell")))
local macro_rules | `(tactic| walk_at "alsc1") => `(tactic| (with_reducible first
  | refine' AL.vs_seqA ?_
  | refine' AL.vs_seqD ?_
  | refine' AL.vs_seqO ?_
  | refine AL.vs_ret ?_
  | refine AL.vs_asg ?_
  | refine AL.vs_own ?_
  | refine AL.vs_next ?_
  | refine AL.frz_val ?_
  | refine AL.we_int ?_
  | refine AL.we_bl ?_
  | refine AL.we_non ?_
  | refine AL.we_str ?_
  | refine AL.we_op ?_
  | refine AL.we_cb ?_
  | refine AL.we_tup ?_
  | refine AL.we_call0 ?_
  | refine AL.we_meth ?_
  | refine AL.we_prop ?_
  | refine AL.we_fld ?_
  | refine AL.wa_nil ?_
  | refine AL.wa_cons ?_
  | refine AL.war_nil ?_
  | refine AL.war_cons ?_
  | refine AL.stays_val ?_
  | refine AL.od_add ?_
  | refine AL.od_sub ?_
  | refine AL.ex_int ?_))
local macro_rules | `(tactic| walk_at "almc") => `(tactic| ((repeat (first | walk_at "alsc1" | walk_at "am1" | walk_at "am2" | walk_at "al2")); all_goals (try dsimp only [AL.as_eta])))
local macro_rules | `(tactic| walk_at "fl") => `(tactic| try simp only [AL.as_eta, AL.AS.setS, AL.AS.wipe, AL.updS, AL.wipeA, AL.entry, List.set, List.map_cons, List.map_nil, List.length_cons, List.length_nil, List.replicate, List.cons_append, List.nil_append, Nat.reduceAdd, Nat.reduceSub, Nat.reduceLeDiff, Nat.sub_self, List.set_set])

/-! Dicts whose keys are tuples of ints, as cells. -/
namespace AL
open PySem L2 PySem.Spec PyProof.Rows
section
variable {K : PySem.W.Frag} {F : Hp} {m : List Addr}
theorem RepT.val : ∀ {kva : TK} {kd : List (List Int × D)} (k : List Int), RepT K F m kva kd → (∀ d, valD kd k = some d → ∃ v, valT kva k = some v ∧ Rep K F m v d) ∧ (valD kd k = none → valT kva k = none)
  | _, _, k, .nil => ⟨fun d h => by simp [valD] at h, fun _ => rfl⟩
  | _, _, k, .cons (k := k0) (b := b) (v := v) (d := d) (vs := vs) (ds := ds) hb a r => by
    by_cases e : k0 = k
    · have e1 : valD ((k0, d) :: ds) k = some d := by simp [valD, List.find?_cons, e]
      have e2 : valT ((k0, b, v) :: vs) k = some v := by simp [valT, List.find?_cons, e]
      rw [e1, e2]
      exact ⟨fun d' h => by cases h; exact ⟨v, rfl, a⟩, fun h => nomatch h⟩
    · have e1 : valD ((k0, d) :: ds) k = valD ds k := by simp [valD, List.find?_cons, e]
      have e2 : valT ((k0, b, v) :: vs) k = valT vs k := by simp [valT, List.find?_cons, e]
      rw [e1, e2]
      exact RepT.val k r
theorem RepT.some_eq {kva : TK} {kd : List (List Int × D)} (k : List Int) (r : RepT K F m kva kd) : (valT kva k).isSome = (valD kd k).isSome := by
  cases z : valD kd k with
  | none => rw [(r.val k).2 z]; rfl
  | some d => obtain ⟨v, hv, _⟩ := (r.val k).1 d z; rw [hv]; rfl
theorem RepT.keys : ∀ {kva : TK} {kd : List (List Int × D)}, RepT K F m kva kd → ∀ x ∈ kva, PTup K F x.2.1 (x.1.map .int)
  | _, _, .nil, x, h => nomatch h
  | _, _, .cons hb a r, x, h => by
    rcases List.mem_cons.mp h with e | h
    · subst e; exact hb
    · exact RepT.keys r x h
theorem RepT.len : ∀ {kva : TK} {kd : List (List Int × D)}, RepT K F m kva kd → kva.length = kd.length
  | _, _, .nil => rfl
  | _, _, .cons _ _ r => by rw [List.length_cons, List.length_cons, RepT.len r]
theorem RepT.any (k : List Int) : ∀ {kva : TK} {kd : List (List Int × D)}, RepT K F m kva kd → (kva.any fun x => decide (x.1 = k)) = (kd.any fun kv => decide (kv.1 = k))
  | _, _, .nil => rfl
  | _, _, .cons _ _ r => by rw [List.any_cons, List.any_cons, RepT.any k r]
theorem RepT.repl {y : V} {d : D} (x : Rep K F m y d) (k : List Int) : ∀ {kva : TK} {kd : List (List Int × D)}, RepT K F m kva kd → RepT K F m (kva.map fun x => if x.1 = k then (x.1, x.2.1, y) else x) (kd.map fun kv => if kv.1 = k then (kv.1, d) else kv)
  | _, _, .nil => .nil
  | _, _, .cons (k := k0) hb a r => by
    rw [List.map_cons, List.map_cons]
    by_cases e : k0 = k
    · rw [if_pos e, if_pos e]; exact .cons hb x (RepT.repl x k r)
    · rw [if_neg e, if_neg e]; exact .cons hb a (RepT.repl x k r)
theorem RepT.snoc {k : List Int} {b : Addr} {y : V} {d : D} (hb : PTup K F b (k.map .int)) (x : Rep K F m y d) : ∀ {kva : TK} {kd : List (List Int × D)}, RepT K F m kva kd → RepT K F m (kva ++ [(k, b, y)]) (kd ++ [(k, d)])
  | _, _, .nil => .cons hb x .nil
  | _, _, .cons hb' a r => .cons hb' a (RepT.snoc hb x r)
theorem RepT.put {k : List Int} {b : Addr} {y : V} {d : D} (hb : PTup K F b (k.map .int)) (x : Rep K F m y d) {kva : TK} {kd : List (List Int × D)} (r : RepT K F m kva kd) : RepT K F m (putT1 kva k b y) (putKD kd k d) := by
  unfold putT1 putKD
  rw [r.any k]
  split
  · exact r.repl x k
  · exact r.snoc hb x
theorem ints_V : ∀ {k : List Int} {vs : List V}, Reps K F m vs (k.map .int) → vs = k.map .int
  | [], _, .nil => rfl
  | _ :: _, _, .cons a r => by cases a; rw [List.map_cons, ints_V r]
theorem key_tup {v : V} {k : List Int} (R : Rep K F m v (.tup (k.map .int))) : ∃ b, v = .ref b ∧ PTup K F b (k.map .int) := by
  cases R with
  | tup h r => rw [ints_V r] at h; exact ⟨_, rfl, h⟩
end
section
variable {c : Ct} {A : AS} {td ty tv : TE} {Q : QE} {nx bk ct : AS → Prop} {rt : List Cell → D → Prop}
theorem we_tget (h : WE c td A fun A1 x => WE c ty A1 fun A2 y => ∃ n kvs k d, x = .val (.ptr n) ∧ A2.o[n]? = some (.dT kvs) ∧ y = .val (.tup (k.map .int)) ∧ valD kvs k = some d ∧ Q A2 (.val d)) : WE c (tTGet c.K td ty) A Q := fun F G m σ H S E Qc kc =>
  h F G m σ H S E _ fun F1 m1 A1 v H1 x e1 p1 S1 R1 q1 => q1 F1 G m1 σ H1 S1 (E.mono e1 p1) _ fun F2 m2 A2 w H2 y e2 p2 S2 R2 ⟨n, kvs, k, d, ex, hc, ey, hv, q⟩ => by
    subst ex ey
    have R1' : Rep c.K F2 m2 v (.ptr n) := Rep.mono e2 p2 R1
    obtain ⟨a, rfl, hm, kva, ha, rk⟩ := ptr_at S2 R1' hc trivial
    obtain ⟨b, rfl, hb⟩ := key_tup (show Rep c.K F2 m2 w (.tup (k.map .int)) from R2)
    obtain ⟨v, hvv, rv⟩ := (rk.val k).1 d hv
    exact ⟨a, v, rfl, ⟨kva, k, b, ha, fun x hx => (rk.keys x hx).mono S2.h.exF, rfl, hb.mono S2.h.exF, hvv.symm⟩, kc F2 m2 A2 v H2 (.val d) (e1.trans e2) (p1.trans p2) S2 rv q⟩
theorem we_tin (h : WE c ty A fun A1 y => WE c td A1 fun A2 x => ∃ n kvs k, x = .val (.ptr n) ∧ A2.o[n]? = some (.dT kvs) ∧ y = .val (.tup (k.map .int)) ∧ Q A2 (.val (.bl (valD kvs k).isSome))) : WE c (tTIn c.K ty td) A Q := fun F G m σ H S E Qc kc =>
  h F G m σ H S E _ fun F1 m1 A1 w H1 y e1 p1 S1 R1 q1 => q1 F1 G m1 σ H1 S1 (E.mono e1 p1) _ fun F2 m2 A2 v H2 x e2 p2 S2 R2 ⟨n, kvs, k, ex, hc, ey, q⟩ => by
    subst ex ey
    obtain ⟨a, rfl, hm, kva, ha, rk⟩ := ptr_at S2 R2 hc trivial
    obtain ⟨b, rfl, hb⟩ := key_tup (show Rep c.K F1 m1 w (.tup (k.map .int)) from R1)
    refine ⟨a, valT kva k, rfl, ⟨kva, k, b, ha, fun x hx => (rk.keys x hx).mono S2.h.exF, rfl, (hb.mono e2).mono S2.h.exF, rfl⟩, kc F2 m2 A2 _ H2 (.val (.bl (valD kvs k).isSome)) (e1.trans e2) (p1.trans p2) S2 ?_ q⟩
    rw [rk.some_eq k]; exact .bl _
theorem we_tnin (h : WE c ty A fun A1 y => WE c td A1 fun A2 x => ∃ n kvs k, x = .val (.ptr n) ∧ A2.o[n]? = some (.dT kvs) ∧ y = .val (.tup (k.map .int)) ∧ Q A2 (.val (.bl (!(valD kvs k).isSome)))) : WE c (tTNotIn c.K ty td) A Q := fun F G m σ H S E Qc kc =>
  h F G m σ H S E _ fun F1 m1 A1 w H1 y e1 p1 S1 R1 q1 => q1 F1 G m1 σ H1 S1 (E.mono e1 p1) _ fun F2 m2 A2 v H2 x e2 p2 S2 R2 ⟨n, kvs, k, ex, hc, ey, q⟩ => by
    subst ex ey
    obtain ⟨a, rfl, hm, kva, ha, rk⟩ := ptr_at S2 R2 hc trivial
    obtain ⟨b, rfl, hb⟩ := key_tup (show Rep c.K F1 m1 w (.tup (k.map .int)) from R1)
    refine ⟨a, valT kva k, rfl, ⟨kva, k, b, ha, fun x hx => (rk.keys x hx).mono S2.h.exF, rfl, (hb.mono e2).mono S2.h.exF, rfl⟩, kc F2 m2 A2 _ H2 (.val (.bl (!(valD kvs k).isSome))) (e1.trans e2) (p1.trans p2) S2 ?_ q⟩
    rw [rk.some_eq k]; exact .bl _
theorem vs_tput (h : WE c tv A fun A0 r => Frz A0 r fun A1 d => WE c td A1 fun A2 x => WE c ty A2 fun A3 y => ∃ n kvs k, x = .val (.ptr n) ∧ A3.o[n]? = some (.dT kvs) ∧ y = .val (.tup (k.map .int)) ∧ kvs.length < 100000 ∧ nx ⟨A3.s, A3.o.set n (.dT (putKD kvs k d))⟩) :
    WS c (sTPut c.K td ty tv) A ⟨nx, rt, bk, ct⟩ := fun F G m σ H S E Dc kc => (WE.frz h) F G m σ H S E _ fun F0 m0 A0 v0 H0 r e0 p0 S0 R0 ⟨d, er, q0⟩ => by
  subst er
  refine q0 F0 G m0 σ H0 S0 (E.mono e0 p0) _ fun F1 m1 A1 v H1 x e1 p1 S1 R1 q1 => q1 F1 G m1 σ H1 S1 (E.mono (e0.trans e1) (p0.trans p1)) _ fun F2 m2 A2 w H2 y e2 p2 S2 R2 ⟨n, kvs, k, ex, hc, ey, hl, q⟩ => ?_
  subst ex ey
  have R1' : Rep c.K F2 m2 v (.ptr n) := Rep.mono e2 p2 R1
  have R0' : Rep c.K F2 m2 v0 d := Rep.mono (e1.trans e2) (p1.trans p2) R0
  obtain ⟨a, rfl, hm, kva, ha, rk⟩ := ptr_at S2 R1' hc trivial
  obtain ⟨b, rfl, hb⟩ := key_tup (show Rep c.K F2 m2 w (.tup (k.map .int)) from R2)
  exact ⟨a, _, rfl, ⟨kva, k, b, ha, fun x hx => (rk.keys x hx).mono S2.h.exF, rfl, hb.mono S2.h.exF, Nat.lt_of_lt_of_le (by rw [rk.len]; exact hl) (by decide), rfl⟩, kc.nx F2 m2 ⟨A2.s, A2.o.set n (.dT (putKD kvs k d))⟩ σ _ ((e0.trans e1).trans e2) ((p0.trans p1).trans p2) (S2.cset (c' := .dT (putKD kvs k d)) hm hc trivial trivial ⟨_, upd_same, rk.put hb R0'⟩) q⟩
theorem we_tnew (q : Q ⟨A.s, A.o ++ [.dT []]⟩ (.val (.ptr A.o.length))) : WE c tTNew A Q := fun F G m σ H S E Qc kc p hp => by
  obtain ⟨f, g, mm⟩ := S.h.fresh hp
  exact kc F (m ++ [p]) ⟨A.s, A.o ++ [.dT []]⟩ (.ref p) _ (.val (.ptr A.o.length)) (Evl.Ex.refl _) Pre.app ((S.new (o := dE p []) hp).addCell (c := .dT []) f g mm (S.notOwn hp) ⟨_, upd_same⟩ trivial ⟨[], upd_same, .nil⟩) (show Rep c.K _ _ _ _ from .ptr (by rw [← S.h.len, List.getElem?_append_right (Nat.le_refl _), Nat.sub_self]; rfl)) q
theorem vs_seqTP {K : PySem.W.Frag} {td ty tv : TE} {t2 : TS} {nx bk ct : AS → Prop} {rt : List Cell → D → Prop} (h : WS c (sTPut K td ty tv) A ⟨fun A1 => WS c t2 A1 ⟨nx, rt, bk, ct⟩, rt, bk, ct⟩) : WS c (tSeq (sTPut K td ty tv) t2) A ⟨nx, rt, bk, ct⟩ := ws_seq h
/-- values of a dict after a put -/
theorem valD_put {κ α : Type} [DecidableEq κ] {kvs : List (κ × D)} {k k2 : κ} {d : D} : valD (putKD kvs k d) k2 = if k = k2 then some d else valD kvs k2 := by
  unfold putKD
  by_cases h : (kvs.any fun kv => decide (kv.1 = k)) = true
  · rw [if_pos h]
    clear α
    induction kvs with
    | nil => simp at h
    | cons x r ih =>
      rw [List.map_cons]
      rw [List.any_cons] at h
      by_cases e : x.1 = k
      · rw [if_pos e]
        by_cases e2 : k = k2
        · rw [if_pos e2]
          simp [valD, List.find?_cons, e, e2]
        · rw [if_neg e2]
          have n1 : ¬ x.1 = k2 := fun z => e2 (e.symm.trans z)
          have a1 : valD ((x.1, d) :: r.map fun kv => if kv.1 = k then (kv.1, d) else kv) k2 = valD (r.map fun kv => if kv.1 = k then (kv.1, d) else kv) k2 := by simp [valD, List.find?_cons, n1]
          have a2 : valD (x :: r) k2 = valD r k2 := by simp [valD, List.find?_cons, n1]
          rw [a1, a2]
          by_cases hr : (r.any fun kv => decide (kv.1 = k)) = true
          · have := ih hr
            rw [if_neg e2] at this
            exact this
          · have hm : (r.map fun kv => if kv.1 = k then (kv.1, d) else kv) = r := by
              conv => rhs; rw [← List.map_id r]
              apply List.map_congr_left
              intro z hz
              rw [if_neg (fun q => hr (List.any_eq_true.mpr ⟨z, hz, by simp [q]⟩))]; rfl
            rw [hm]
      · rw [if_neg e]
        have h' : (r.any fun kv => decide (kv.1 = k)) = true := by simpa [e] using h
        have ih := ih h'
        by_cases e3 : x.1 = k2
        · have n2 : ¬ k = k2 := fun z => e (e3.trans z.symm)
          rw [if_neg n2]
          simp [valD, List.find?_cons, e3]
        · have a1 : valD (x :: r.map fun kv => if kv.1 = k then (kv.1, d) else kv) k2 = valD (r.map fun kv => if kv.1 = k then (kv.1, d) else kv) k2 := by simp [valD, List.find?_cons, e3]
          have a2 : valD (x :: r) k2 = valD r k2 := by simp [valD, List.find?_cons, e3]
          rw [a1, a2]
          exact ih
  · rw [if_neg h]
    unfold valD
    rw [List.find?_append]
    by_cases e2 : k = k2
    · rw [if_pos e2]
      subst e2
      have hn : (kvs.find? fun kv => decide (kv.1 = k)) = none := List.find?_eq_none.mpr fun z hz q => h (List.any_eq_true.mpr ⟨z, hz, q⟩)
      rw [hn]; simp
    · rw [if_neg e2]
      cases kvs.find? fun kv => decide (kv.1 = k2) <;> simp [e2]
theorem putKD_len {κ : Type} [DecidableEq κ] {kvs : List (κ × D)} {k : κ} {d : D} : (putKD kvs k d).length ≤ kvs.length + 1 := by
  unfold putKD
  split
  · rw [List.length_map]; omega
  · rw [List.length_append]; simp
end
end AL

/-! Dicts whose keys are pairs of a tuple of ints and an int, as cells. -/
namespace AL
open PySem L2 PySem.Spec PyProof.Rows
section
variable {K : PySem.W.Frag} {F : Hp} {m : List Addr}
theorem RepN.val : ∀ {kva : TKN} {kd : List (NKey × D)} (k : NKey), RepN K F m kva kd → (∀ d, valD kd k = some d → ∃ v, valN kva k = some v ∧ Rep K F m v d) ∧ (valD kd k = none → valN kva k = none)
  | _, _, k, .nil => ⟨fun d h => by simp [valD] at h, fun _ => rfl⟩
  | _, _, k, .cons (k := k0) (b := b) (v := v) (d := d) (vs := vs) (ds := ds) hb a r => by
    by_cases e : k0 = k
    · have e1 : valD ((k0, d) :: ds) k = some d := by simp [valD, List.find?_cons, e]
      have e2 : valN ((k0, b, v) :: vs) k = some v := by simp [valN, List.find?_cons, e]
      rw [e1, e2]
      exact ⟨fun d' h => by cases h; exact ⟨v, rfl, a⟩, fun h => nomatch h⟩
    · have e1 : valD ((k0, d) :: ds) k = valD ds k := by simp [valD, List.find?_cons, e]
      have e2 : valN ((k0, b, v) :: vs) k = valN vs k := by simp [valN, List.find?_cons, e]
      rw [e1, e2]
      exact RepN.val k r
theorem RepN.some_eq {kva : TKN} {kd : List (NKey × D)} (k : NKey) (r : RepN K F m kva kd) : (valN kva k).isSome = (valD kd k).isSome := by
  cases z : valD kd k with
  | none => rw [(r.val k).2 z]; rfl
  | some d => obtain ⟨v, hv, _⟩ := (r.val k).1 d z; rw [hv]; rfl
theorem RepN.keys : ∀ {kva : TKN} {kd : List (NKey × D)}, RepN K F m kva kd → ∀ x ∈ kva, PNK K F x.2.1 x.1
  | _, _, .nil, x, h => nomatch h
  | _, _, .cons hb a r, x, h => by
    rcases List.mem_cons.mp h with e | h
    · subst e; exact hb
    · exact RepN.keys r x h
theorem RepN.len : ∀ {kva : TKN} {kd : List (NKey × D)}, RepN K F m kva kd → kva.length = kd.length
  | _, _, .nil => rfl
  | _, _, .cons _ _ r => by rw [List.length_cons, List.length_cons, RepN.len r]
theorem RepN.any (k : NKey) : ∀ {kva : TKN} {kd : List (NKey × D)}, RepN K F m kva kd → (kva.any fun x => decide (x.1 = k)) = (kd.any fun kv => decide (kv.1 = k))
  | _, _, .nil => rfl
  | _, _, .cons _ _ r => by rw [List.any_cons, List.any_cons, RepN.any k r]
theorem RepN.repl {y : V} {d : D} (x : Rep K F m y d) (k : NKey) : ∀ {kva : TKN} {kd : List (NKey × D)}, RepN K F m kva kd → RepN K F m (kva.map fun x => if x.1 = k then (x.1, x.2.1, y) else x) (kd.map fun kv => if kv.1 = k then (kv.1, d) else kv)
  | _, _, .nil => .nil
  | _, _, .cons (k := k0) hb a r => by
    rw [List.map_cons, List.map_cons]
    by_cases e : k0 = k
    · rw [if_pos e, if_pos e]; exact .cons hb x (RepN.repl x k r)
    · rw [if_neg e, if_neg e]; exact .cons hb a (RepN.repl x k r)
theorem RepN.snoc {k : NKey} {b : Addr} {y : V} {d : D} (hb : PNK K F b k) (x : Rep K F m y d) : ∀ {kva : TKN} {kd : List (NKey × D)}, RepN K F m kva kd → RepN K F m (kva ++ [(k, b, y)]) (kd ++ [(k, d)])
  | _, _, .nil => .cons hb x .nil
  | _, _, .cons hb' a r => .cons hb' a (RepN.snoc hb x r)
theorem RepN.put {k : NKey} {b : Addr} {y : V} {d : D} (hb : PNK K F b k) (x : Rep K F m y d) {kva : TKN} {kd : List (NKey × D)} (r : RepN K F m kva kd) : RepN K F m (putN1 kva k b y) (putKD kd k d) := by
  unfold putN1 putKD
  rw [r.any k]
  split
  · exact r.repl x k
  · exact r.snoc hb x
abbrev dNK (k : NKey) : D := .tup [.tup (k.1.map .int), .int k.2]
theorem key_pair {v : V} {k : NKey} (R : Rep K F m v (dNK k)) : ∃ b, v = .ref b ∧ PNK K F b k := by
  cases R with
  | tup h r =>
    cases r with
    | cons r1 r =>
      cases r with
      | cons r2 r =>
        cases r
        obtain ⟨b1, rfl, h1⟩ := key_tup r1
        cases r2
        exact ⟨_, rfl, b1, h, h1⟩
theorem PNK.mono {F' : Hp} {b : Addr} {k : NKey} (h : PNK K F b k) (e : Ex F F') : PNK K F' b k := let ⟨b1, h1, h2⟩ := h; ⟨b1, h1.mono e, h2.mono e⟩
end
section
variable {c : Ct} {A : AS} {td ty tv : TE} {Q : QE} {nx bk ct : AS → Prop} {rt : List Cell → D → Prop}
theorem we_nget (h : WE c td A fun A1 x => WE c ty A1 fun A2 y => ∃ n kvs k d, x = .val (.ptr n) ∧ A2.o[n]? = some (.dN kvs) ∧ y = .val (dNK k) ∧ valD kvs k = some d ∧ Q A2 (.val d)) : WE c (tNGet c.K td ty) A Q := fun F G m σ H S E Qc kc =>
  h F G m σ H S E _ fun F1 m1 A1 v H1 x e1 p1 S1 R1 q1 => q1 F1 G m1 σ H1 S1 (E.mono e1 p1) _ fun F2 m2 A2 w H2 y e2 p2 S2 R2 ⟨n, kvs, k, d, ex, hc, ey, hv, q⟩ => by
    subst ex ey
    have R1' : Rep c.K F2 m2 v (.ptr n) := Rep.mono e2 p2 R1
    obtain ⟨a, rfl, hm, kva, ha, rk⟩ := ptr_at S2 R1' hc trivial
    obtain ⟨b, rfl, hb⟩ := key_pair (show Rep c.K F2 m2 w (dNK k) from R2)
    obtain ⟨v, hvv, rv⟩ := (rk.val k).1 d hv
    exact ⟨a, v, rfl, ⟨kva, k, b, ha, fun x hx => (rk.keys x hx).mono S2.h.exF, rfl, hb.mono S2.h.exF, hvv.symm⟩, kc F2 m2 A2 v H2 (.val d) (e1.trans e2) (p1.trans p2) S2 rv q⟩
theorem we_nin (h : WE c ty A fun A1 y => WE c td A1 fun A2 x => ∃ n kvs k, x = .val (.ptr n) ∧ A2.o[n]? = some (.dN kvs) ∧ y = .val (dNK k) ∧ Q A2 (.val (.bl (valD kvs k).isSome))) : WE c (tNIn c.K ty td) A Q := fun F G m σ H S E Qc kc =>
  h F G m σ H S E _ fun F1 m1 A1 w H1 y e1 p1 S1 R1 q1 => q1 F1 G m1 σ H1 S1 (E.mono e1 p1) _ fun F2 m2 A2 v H2 x e2 p2 S2 R2 ⟨n, kvs, k, ex, hc, ey, q⟩ => by
    subst ex ey
    obtain ⟨a, rfl, hm, kva, ha, rk⟩ := ptr_at S2 R2 hc trivial
    obtain ⟨b, rfl, hb⟩ := key_pair (show Rep c.K F1 m1 w (dNK k) from R1)
    refine ⟨a, valN kva k, rfl, ⟨kva, k, b, ha, fun x hx => (rk.keys x hx).mono S2.h.exF, rfl, (hb.mono e2).mono S2.h.exF, rfl⟩, kc F2 m2 A2 _ H2 (.val (.bl (valD kvs k).isSome)) (e1.trans e2) (p1.trans p2) S2 ?_ q⟩
    rw [rk.some_eq k]; exact .bl _
theorem we_nnin (h : WE c ty A fun A1 y => WE c td A1 fun A2 x => ∃ n kvs k, x = .val (.ptr n) ∧ A2.o[n]? = some (.dN kvs) ∧ y = .val (dNK k) ∧ Q A2 (.val (.bl (!(valD kvs k).isSome)))) : WE c (tNNotIn c.K ty td) A Q := fun F G m σ H S E Qc kc =>
  h F G m σ H S E _ fun F1 m1 A1 w H1 y e1 p1 S1 R1 q1 => q1 F1 G m1 σ H1 S1 (E.mono e1 p1) _ fun F2 m2 A2 v H2 x e2 p2 S2 R2 ⟨n, kvs, k, ex, hc, ey, q⟩ => by
    subst ex ey
    obtain ⟨a, rfl, hm, kva, ha, rk⟩ := ptr_at S2 R2 hc trivial
    obtain ⟨b, rfl, hb⟩ := key_pair (show Rep c.K F1 m1 w (dNK k) from R1)
    refine ⟨a, valN kva k, rfl, ⟨kva, k, b, ha, fun x hx => (rk.keys x hx).mono S2.h.exF, rfl, (hb.mono e2).mono S2.h.exF, rfl⟩, kc F2 m2 A2 _ H2 (.val (.bl (!(valD kvs k).isSome))) (e1.trans e2) (p1.trans p2) S2 ?_ q⟩
    rw [rk.some_eq k]; exact .bl _
theorem vs_nput (h : WE c tv A fun A0 r => Frz A0 r fun A1 d => WE c td A1 fun A2 x => WE c ty A2 fun A3 y => ∃ n kvs k, x = .val (.ptr n) ∧ A3.o[n]? = some (.dN kvs) ∧ y = .val (dNK k) ∧ kvs.length < 100000 ∧ nx ⟨A3.s, A3.o.set n (.dN (putKD kvs k d))⟩) :
    WS c (sNPut c.K td ty tv) A ⟨nx, rt, bk, ct⟩ := fun F G m σ H S E Dc kc => (WE.frz h) F G m σ H S E _ fun F0 m0 A0 v0 H0 r e0 p0 S0 R0 ⟨d, er, q0⟩ => by
  subst er
  refine q0 F0 G m0 σ H0 S0 (E.mono e0 p0) _ fun F1 m1 A1 v H1 x e1 p1 S1 R1 q1 => q1 F1 G m1 σ H1 S1 (E.mono (e0.trans e1) (p0.trans p1)) _ fun F2 m2 A2 w H2 y e2 p2 S2 R2 ⟨n, kvs, k, ex, hc, ey, hl, q⟩ => ?_
  subst ex ey
  have R1' : Rep c.K F2 m2 v (.ptr n) := Rep.mono e2 p2 R1
  have R0' : Rep c.K F2 m2 v0 d := Rep.mono (e1.trans e2) (p1.trans p2) R0
  obtain ⟨a, rfl, hm, kva, ha, rk⟩ := ptr_at S2 R1' hc trivial
  obtain ⟨b, rfl, hb⟩ := key_pair (show Rep c.K F2 m2 w (dNK k) from R2)
  exact ⟨a, _, rfl, ⟨kva, k, b, ha, fun x hx => (rk.keys x hx).mono S2.h.exF, rfl, hb.mono S2.h.exF, Nat.lt_of_lt_of_le (by rw [rk.len]; exact hl) (by decide), rfl⟩, kc.nx F2 m2 ⟨A2.s, A2.o.set n (.dN (putKD kvs k d))⟩ σ _ ((e0.trans e1).trans e2) ((p0.trans p1).trans p2) (S2.cset (c' := .dN (putKD kvs k d)) hm hc trivial trivial ⟨_, upd_same, rk.put hb R0'⟩) q⟩
theorem we_nnew (q : Q ⟨A.s, A.o ++ [.dN []]⟩ (.val (.ptr A.o.length))) : WE c tNNew A Q := fun F G m σ H S E Qc kc p hp => by
  obtain ⟨f, g, mm⟩ := S.h.fresh hp
  exact kc F (m ++ [p]) ⟨A.s, A.o ++ [.dN []]⟩ (.ref p) _ (.val (.ptr A.o.length)) (Evl.Ex.refl _) Pre.app ((S.new (o := dNE p []) hp).addCell (c := .dN []) f g mm (S.notOwn hp) ⟨_, upd_same⟩ trivial ⟨[], upd_same, .nil⟩) (show Rep c.K _ _ _ _ from .ptr (by rw [← S.h.len, List.getElem?_append_right (Nat.le_refl _), Nat.sub_self]; rfl)) q
theorem huN {n : Nat} (h : n + 64 < cLine) : n + 9 < cLine := by omega
theorem vs_seqNP {K : PySem.W.Frag} {td ty tv : TE} {t2 : TS} {nx bk ct : AS → Prop} {rt : List Cell → D → Prop} (h : WS c (sNPut K td ty tv) A ⟨fun A1 => WS c t2 A1 ⟨nx, rt, bk, ct⟩, rt, bk, ct⟩) : WS c (tSeq (sNPut K td ty tv) t2) A ⟨nx, rt, bk, ct⟩ := ws_seq h
end
end AL

namespace AT
open PySem L2 AL
/-! ### a tape, a dict of names -/
structure TapeM where
  cells : List Int
  at_ : Int
  great : Int
  left : Int
  seed : Int
  turn : Int
def tapeF (t : TapeM) : List (Key × D) := [(.inr "cells", .lst (t.cells.map .int)), (.inr "at", .int t.at_), (.inr "great", .int t.great), (.inr "left", .int t.left), (.inr "seed", .int t.seed), (.inr "turn", .int t.turn)]
def cTape (t : TapeM) : Cell := .dK (tapeF t)
theorem put_at (t : TapeM) (x : Int) : putKD (tapeF t) (.inr "at") (.int x) = tapeF { t with at_ := x } := rfl
theorem put_great (t : TapeM) (x : Int) : putKD (tapeF t) (.inr "great") (.int x) = tapeF { t with great := x } := rfl
theorem put_left (t : TapeM) (x : Int) : putKD (tapeF t) (.inr "left") (.int x) = tapeF { t with left := x } := rfl
theorem put_seed (t : TapeM) (x : Int) : putKD (tapeF t) (.inr "seed") (.int x) = tapeF { t with seed := x } := rfl
theorem put_turn (t : TapeM) (x : Int) : putKD (tapeF t) (.inr "turn") (.int x) = tapeF { t with turn := x } := rfl
def C__law_mixed : Contract := fun ds O R _ => ∃ a b : Int, ds = [.int a, .int b] ∧ ∀ v : Int, 0 ≤ v → R O (.int v)
def C__law_tape : Contract := fun ds O R _ => ∃ ns : List Int, ds = [.scr (ns.map .int)] ∧ ns.length ≤ 1000 ∧ R (O ++ [cTape ⟨ns, 0, 0, 0, 7, 0⟩]) (.ptr O.length)
def C__law_draw : Contract := fun ds O R _ => ∃ n t, ∃ many : Int, ds = [.ptr n, .int many] ∧ O[n]? = some (cTape t) ∧ 0 ≤ t.at_ ∧ 0 < many ∧ ∀ t' v, 0 ≤ TapeM.at_ t' → 0 ≤ v → v < many → R (O.set n (cTape t')) (.int v)
def C__law_pick : Contract := fun ds O R _ => ∃ n t xs, ds = [.ptr n, .lst xs] ∧ O[n]? = some (cTape t) ∧ 0 ≤ t.at_ ∧ 0 < xs.length ∧ xs.length ≤ 1000 ∧ ∀ t' v, 0 ≤ TapeM.at_ t' → v ∈ xs → R (O.set n (cTape t')) v
theorem len__law_mixed : ∀ ds O R X, C__law_mixed ds O R X → ds.length = 2 := fun _ _ _ _ h => by obtain ⟨_, _, rfl, _⟩ := h; rfl
theorem len__law_tape : ∀ ds O R X, C__law_tape ds O R X → ds.length = 1 := fun _ _ _ _ h => by obtain ⟨_, rfl, _⟩ := h; rfl
theorem len__law_draw : ∀ ds O R X, C__law_draw ds O R X → ds.length = 2 := fun _ _ _ _ h => by obtain ⟨_, _, _, rfl, _⟩ := h; rfl
theorem len__law_pick : ∀ ds O R X, C__law_pick ds O R X → ds.length = 2 := fun _ _ _ _ h => by obtain ⟨_, _, _, rfl, _⟩ := h; rfl
end AT
local macro_rules | `(tactic| walk_at "tp") => `(tactic| try simp only [List.set_set, AL.AS.setS])
local macro_rules | `(tactic| walk_at "put") => `(tactic| first | exact AT.put_at _ _ | exact AT.put_great _ _ | exact AT.put_left _ _ | exact AT.put_seed _ _ | exact AT.put_turn _ _)

set_option maxHeartbeats 4000000
namespace AL
open PySem L2
/-- C(e), an own error with the field f -/
def tMk1 (C : Addr) (f : Str) (ta : TA) : St → Hp → XK → Prop := fun σ H Q => ta σ H fun vs H1 => ∃ v, vs = [v] ∧ ∀ d, H1 d = none → Q (.ref C) (some d) (upd H1 d (.xd [(f, v)]))
/-- raise C(e) -/
def tRaise1 (C : Addr) (f : Str) (W : WX) (ta : TA) : TS := fun _ σ H => tMk1 C f ta σ H fun cls d H' => W cls d σ H'
end AL
namespace PySem
namespace EXnumber
open PySem.W PySem.Calls PyProof.Rows PySem.HandSPX
def arA (p1 p2 : Pos) : Arguments := { posonlyargs := [], args := [{ arg := "self", annotation := none, pos := p1 }, { arg := "number", annotation := none, pos := p2 }], vararg := none, kwonlyargs := [], kw_defaults := [], kwarg := none, defaults := [] }
def boB (q1 q2 q3 q4 : Pos) : List Stmt := [.Assign [.Attribute (.Name "self" q1) "number" q2] (.Name "number" q3) q4]
def scS : Scope := { kind := .function, names := [(PySem.Str.ofString "self", .local), (PySem.Str.ofString "number", .local)], isGenerator := false, isCoroutine := false, more := [] }
/-- the written part of such a class, cn at C, its __init__ at fI -/
structure Txt (K : Frag) (mg : Str → Option Value) (cn qual : Str) (C fI : Addr) : Prop where
  gC : mg cn = some (.ref C)
  cls : ∃ nm q N bs bm sn sub ab col dd k0 k1 k2 k3 k5, K.lookup C = some (excClassObj nm q C N bs bm true sn sub ab col dd k0 k1 k2 k3 k5 "ValueError.__new__") ∧ refsVE bm = true
  sa : findIn K (.ref C) "__setattr__" = some (some (.builtin "object.__setattr__"))
  noN : findIn K (.ref C) "number" = some none
  iC : findIn K (.ref C) "__init__" = some (some (.ref fI))
  tC : typeIn K (.ref fI) = some (.type "function")
  kC : keepIn K (.ref C) = true
  exC : subIn K (.ref C) (.type "BaseException") = some true
  tyC : typeIn K (.ref C) = some (.type "type")
  fn : ∃ (oc : Value) (od : Option Addr) (doc pm : Value) (an : Option Addr) (cdv ct : Value) (osl : Array (Option Value)) (p1 p2 q1 q2 q3 q4 : Pos),
    K.lookup fI = some ⟨oc, od, .func (fnOf "__init__" qual (arA p1 p2) (boB q1 q2 q3 q4) scS .none .none doc pm an cdv ct), osl⟩ ∧ codeIn K cdv qual = true
theorem sz1 (v : Value) : [v].length ≤ sizeLine := by rw [sizeLine_eq]; exact (by decide : 1 ≤ 16777216)
theorem ldL {M : Model} {s : Shared} {name : Str} {scope : Scope} {L a : Addr} {cd : Value} {m : Str → Option Value} {x : Str} {pos : Pos} {v : Value} {Q : Value → Shared → Prop} {A : Around} {E : Value → Shared → Prop} (hn : s.heap.Ns L m) (hv : m x = some v) (h : Q v s)
    (hk : scope.kind = .function := by rfl) (hl : (envOfC name scope L a cd).kindOf x = some .local := by rfl) (hd : (x == ("__debug__" : Str)) = false := by decide) :
    wpAny M A (eval (.Name x pos) (envOfC name scope L a cd)) Q E s := wpAny_Name (wpAny_loadName_local hk hl hn hv h) hd
/-- a new error behind its __init__ -/
structure Init1 (h h' : Heap) (x C dx t1 : Addr) (v : Value) : Prop where
  keep : ∀ b o, b ≠ x → h.get? b = some o → h'.get? b = some o
  obj : h'.get? x = some { cls := .ref C, dict := some dx, data := .fields #[.ref t1, .none, .none, .none, .bool false, .none] }
  dbig : h.objs.size ≤ dx
  dne : dx ≠ x
  ns : h'.Ns1 dx (fun y => if y = "number" then some v else none)
/-- an error that is made -/
structure Made1 (h h' : Heap) (e C d : Addr) (v : Value) : Prop where
  keep : ∀ b o, h.get? b = some o → h'.get? b = some o
  new : h.objs.size ≤ e
  obj : ∃ t1 : Addr, h'.get? e = some { cls := .ref C, dict := some d, data := .fields #[.ref t1, .none, .none, .none, .bool false, .none] }
  dbig : h.objs.size ≤ d
  dne : d ≠ e
  ns : h'.Ns1 d (fun y => if y = "number" then some v else none)
section
variable {prog : Program} {w : World} {A : Around} {E : Value → Shared → Prop} {R : Result → Shared → Prop} {s : Shared} {K : Frag} {mg : Str → Option Value} {cn qual : Str} {C fI : Addr}
theorem init1 (T : Txt K mg cn qual C fI) {x t0 : Addr} {v : Value} (X : K.In s.heap) (hlim : s.heap.NoLimit) (hx : s.heap.get? x = some (excO C t0)) (hroom : A.depth < recursionLimit)
    (hq : ∀ h' tk dx, Init1 s.heap h' x C dx t0 v → R (.ok (.ret .none)) { s with heap := h', toks := tk }) :
    codeAny (model prog w) A (.call (.ref fI) ⟨[.ref x, v], []⟩) R s := by
  obtain ⟨oc, od, doc, pm, an, cdv, ct, osl, p1, p2, q1, q2, q3, q4, ho, hcd⟩ := T.fn
  obtain ⟨nm, q, N, bs, bm, sn, sub, ab, col, dd, k0, k1, k2, k3, k5, hC, hbm⟩ := T.cls
  have hcl : clsIn K C = some { name := nm, bases := bs, mro := .ref C :: bm, ns := N, qualname := q, hasDict := true, slotNames := sn, subclasses := sub, abstract := ab, collection := col, hasDel := false } := by unfold clsIn; rw [hC] <;> rfl
  refine Att.call_fn (binds := [("self", .ref x), ("number", v)]) X hlim ho hcd hroom (BindsTo.of_eq (by first | rfl | with_unfolding_all rfl)) (by first | rfl | decide | with_unfolding_all rfl) (fun s₁ IC => ?_) rfl rfl rfl
  obtain ⟨h₁, tk₁, rfl⟩ := IC.toInCall.same
  have k : ∀ b o, s.heap.get? b = some o → h₁.get? b = some o := IC.toInCall.keep
  have hn := IC.toInCall.ns
  have X₁ : K.In h₁ := X.keeps k
  have hx₁ := k _ _ hx
  show wpAny _ _ (execs _ _) _ _ _
  refine wpAny_execs_cons (plainObj_wpAny_Assign_Attribute ?_)
  refine ldL (v := v) hn (by first | rfl | with_unfolding_all rfl | kernel_rfl) (ldL (v := .ref x) hn (by first | rfl | with_unfolding_all rfl | kernel_rfl) ?_)
  refine set_plain X₁ (ox := excO C t0) (od := none) ⟨hx₁, rfl, rfl, trivial⟩ T.sa ?_
  refine exc_osa X₁ hx₁ hcl (show refsVE (.ref C :: bm) = true from hbm) rfl T.noN (fun h₃ tk₃ dx k₃ dn dne hx₃ hn₃ => ?_)
  show wpAny _ _ (execs _ _) _ _ _
  have z : s.heap.objs.size < h₁.objs.size := hn.lt
  exact wpAny_execs_nil (hq h₃ tk₃ dx ⟨fun b o hb e => k₃ b o hb (k b o e), hx₃, Nat.le_of_lt (Nat.lt_of_lt_of_le z dn), dne, hn₃⟩)
theorem made1 (T : Txt K mg cn qual C fI) {v : Value} (X : K.In s.heap) (hlim : s.heap.NoLimit) (hroom : A.depth + 1 < recursionLimit)
    (hq : ∀ h' tk e d, Made1 s.heap h' e C d v → R (.ok (.ret (.ref e))) { s with heap := h', toks := tk }) :
    codeAny (model prog w) A (.call (.ref C) ⟨[v], []⟩) R s := by
  obtain ⟨nm, q, N, bs, bm, sn, sub, ab, col, dd, k0, k1, k2, k3, k5, hC, hbm⟩ := T.cls
  obtain ⟨hp, g, dr, tk, os⟩ := s
  have k : ∀ b o, hp.get? b = some o → ((hp.push (kdv_tup [v])).push (excO C hp.objs.size)).get? b = some o := fun b o e => Heap.get?_push_of_some _ (Heap.get?_push_of_some _ e)
  have hget : ((hp.push (kdv_tup [v])).push (excO C hp.objs.size)).get? (hp.objs.size + 1) = some (excO C hp.objs.size) := by heap_get
  refine call_own F.excBase_ValueError (fun X => refsVE_contains X bm hbm) (X _ _ hC) (looks_findIn X T.iC) (fun self => bind_fn X self T.tC) (sz1 v) ?_
  refine init1 (s := ⟨(hp.push (kdv_tup [v])).push (excO C hp.objs.size), g, dr, tk, os⟩) T (X.keeps k) (hlim.keeps k) hget ?_ fun h' tk' dx ⟨k', hx, dn, dne, hns⟩ => ?_
  · show A.depth + 1 < recursionLimit
    exact hroom
  · have old : ∀ b o, hp.get? b = some o → h'.get? b = some o := fun b o e => k' b o (Nat.ne_of_lt (Nat.lt_succ_of_lt (Heap.lt_size e))) (k b o e)
    have z : hp.objs.size + 1 + 1 ≤ dx := by
      first
        | (simpa only [Heap.size_push] using dn)
        | exact dn
        | (have q := dn; rw [Heap.size_push, Heap.size_push] at q; exact q)
    exact ⟨rfl, hq h' tk' (hp.objs.size + 1) dx ⟨old, Nat.le_succ _, ⟨_, hx⟩, Nat.le_trans (Nat.le_trans (Nat.le_succ _) (Nat.le_succ _)) z, dne, hns⟩⟩
end
end EXnumber
end PySem
namespace L2N
open PySem PySem.Spec PyProof.Rows L2
theorem relOnumber {v : V} {v' : Value} (r : RelV v v') (f : Str) : RelO (List.lookup f [(("number" : Str), v)]) (if f = "number" then some v' else none) := by
  by_cases hw : f = "number"
  · subst hw
    rw [if_pos rfl]
    have q : List.lookup ("number" : Str) [(("number" : Str), v)] = some v := by simp [List.lookup]
    rw [q]; exact r
  · rw [if_neg hw]
    have qw : (f == ("number" : Str)) = false := by simpa using hw
    have q2 : List.lookup f [(("number" : Str), v)] = none := by simp [List.lookup, qw]
    rw [q2]; trivial
section
variable {X : Cx} {C fI : Addr} {cn qual : Str}
theorem pmknumber {a : Expr} {ta : TA} {p pos : Pos} {k : Nat} (T : PySem.EXnumber.Txt X.K X.mg cn qual C fI) (hr : Room k X.A) (ha : PA X [a] ta) (hg : Gl X cn) (hdb : (cn == ("__debug__" : Str)) = false := by decide)
    (he : starEach (a :: []) X.env = (false, eval a X.env) :: starEach [] X.env := by rfl) (hpl : (backTo pos (starEach [] X.env)).any (·.1) = false := by rfl) :
    PMk X (.Call (.Name cn p) [a] [] pos) (AL.tMk1 C "number" ta) := by
  intro pins s σ H Q I h
  refine wpAny_Call_Name_kw (ld_glob I hg T.gC ?_ hdb)
  refine PySem.W.callWith_K (h₀ := X.base) I.ok.mod.kin T.kC (thn (ha.run pos pins s σ H _ I h) fun us s1 hh => ?_) he hpl
  obtain ⟨vs, H1, I1, r1, v, ev, q1⟩ := hh
  subst ev
  refine ⟨I1.kIn, ?_⟩
  cases r1 with
  | cons rv rn =>
    rename_i v' us'
    cases rn
    show wpAny _ _ (call (.ref C) [v']) _ _ _
    have hlim := I1.nolimit
    obtain ⟨hp, g, dr, tk, os⟩ := s1
    refine wpAny_call (PySem.EXnumber.made1 T I1.kIn hlim (by have := hr.dp; omega) fun h' tk' e d M => ?_)
    show MkP X pins σ Q (.ref e) ⟨h', g, dr, tk', os⟩
    obtain ⟨t1, hoe⟩ := M.obj
    have hns := M.ns
    obtain ⟨G', g1, g2⟩ := restrict h' fun b => decide (b ≠ e)
    have gk : ∀ b, b ≠ e → G'.get? b = h'.get? b := fun b hb => g1 b (decide_eq_true hb)
    have ge : G'.get? e = none := g2 e (by simp)
    have old : ∀ b o, hp.get? b = some o → G'.get? b = some o := fun b o q => (gk b (Nat.ne_of_lt (Nat.lt_of_lt_of_le (Heap.lt_size q) M.new))).trans (M.keep b o q)
    have ob : ObjOk X.prog X.w (upd H1 d (.xd [(("number" : Str), v)])) G' d (.xd [(("number" : Str), v)]) :=
      ⟨_, hns.at (fun o q => (gk d M.dne).trans q), fun f => relOnumber rv f⟩
    have J : Inv X pins σ (upd H1 d (.xd [(("number" : Str), v)])) ⟨G', g, dr, tk', os⟩ := I1.laid (t' := tk') old M.dbig ob
    refine ⟨e, _, _, ⟨G', g, dr, tk', os⟩, _, .ref C, some d, rfl, J, fun b o q => ?_, ge, hoe, ⟨rfl, rfl, fun vs z => by cases z; rfl⟩, rfl, rfl, ?_, rfl, I1.bare, raises_own T.exC T.tyC, q1 d (I1.hok.fresh M.dbig)⟩
    · by_cases hb : b = e
      · have q' : G'.get? b = some o := q
        rw [hb, ge] at q'; cases q'
      · exact (gk b hb).symm.trans q
    · rw [upd_ne (Ne.symm M.dne)]
      exact I1.hok.fresh M.new
end
end L2N
namespace PySem
namespace EXletter
open PySem.W PySem.Calls PyProof.Rows PySem.HandSPX
def arA (p1 p2 : Pos) : Arguments := { posonlyargs := [], args := [{ arg := "self", annotation := none, pos := p1 }, { arg := "letter", annotation := none, pos := p2 }], vararg := none, kwonlyargs := [], kw_defaults := [], kwarg := none, defaults := [] }
def boB (q1 q2 q3 q4 : Pos) : List Stmt := [.Assign [.Attribute (.Name "self" q1) "letter" q2] (.Name "letter" q3) q4]
def scS : Scope := { kind := .function, names := [(PySem.Str.ofString "self", .local), (PySem.Str.ofString "letter", .local)], isGenerator := false, isCoroutine := false, more := [] }
/-- the written part of such a class, cn at C, its __init__ at fI -/
structure Txt (K : Frag) (mg : Str → Option Value) (cn qual : Str) (C fI : Addr) : Prop where
  gC : mg cn = some (.ref C)
  cls : ∃ nm q N bs bm sn sub ab col dd k0 k1 k2 k3 k5, K.lookup C = some (excClassObj nm q C N bs bm true sn sub ab col dd k0 k1 k2 k3 k5 "ValueError.__new__") ∧ refsVE bm = true
  sa : findIn K (.ref C) "__setattr__" = some (some (.builtin "object.__setattr__"))
  noN : findIn K (.ref C) "letter" = some none
  iC : findIn K (.ref C) "__init__" = some (some (.ref fI))
  tC : typeIn K (.ref fI) = some (.type "function")
  kC : keepIn K (.ref C) = true
  exC : subIn K (.ref C) (.type "BaseException") = some true
  tyC : typeIn K (.ref C) = some (.type "type")
  fn : ∃ (oc : Value) (od : Option Addr) (doc pm : Value) (an : Option Addr) (cdv ct : Value) (osl : Array (Option Value)) (p1 p2 q1 q2 q3 q4 : Pos),
    K.lookup fI = some ⟨oc, od, .func (fnOf "__init__" qual (arA p1 p2) (boB q1 q2 q3 q4) scS .none .none doc pm an cdv ct), osl⟩ ∧ codeIn K cdv qual = true
theorem sz1 (v : Value) : [v].length ≤ sizeLine := by rw [sizeLine_eq]; exact (by decide : 1 ≤ 16777216)
theorem ldL {M : Model} {s : Shared} {name : Str} {scope : Scope} {L a : Addr} {cd : Value} {m : Str → Option Value} {x : Str} {pos : Pos} {v : Value} {Q : Value → Shared → Prop} {A : Around} {E : Value → Shared → Prop} (hn : s.heap.Ns L m) (hv : m x = some v) (h : Q v s)
    (hk : scope.kind = .function := by rfl) (hl : (envOfC name scope L a cd).kindOf x = some .local := by rfl) (hd : (x == ("__debug__" : Str)) = false := by decide) :
    wpAny M A (eval (.Name x pos) (envOfC name scope L a cd)) Q E s := wpAny_Name (wpAny_loadName_local hk hl hn hv h) hd
/-- a new error behind its __init__ -/
structure Init1 (h h' : Heap) (x C dx t1 : Addr) (v : Value) : Prop where
  keep : ∀ b o, b ≠ x → h.get? b = some o → h'.get? b = some o
  obj : h'.get? x = some { cls := .ref C, dict := some dx, data := .fields #[.ref t1, .none, .none, .none, .bool false, .none] }
  dbig : h.objs.size ≤ dx
  dne : dx ≠ x
  ns : h'.Ns1 dx (fun y => if y = "letter" then some v else none)
/-- an error that is made -/
structure Made1 (h h' : Heap) (e C d : Addr) (v : Value) : Prop where
  keep : ∀ b o, h.get? b = some o → h'.get? b = some o
  new : h.objs.size ≤ e
  obj : ∃ t1 : Addr, h'.get? e = some { cls := .ref C, dict := some d, data := .fields #[.ref t1, .none, .none, .none, .bool false, .none] }
  dbig : h.objs.size ≤ d
  dne : d ≠ e
  ns : h'.Ns1 d (fun y => if y = "letter" then some v else none)
section
variable {prog : Program} {w : World} {A : Around} {E : Value → Shared → Prop} {R : Result → Shared → Prop} {s : Shared} {K : Frag} {mg : Str → Option Value} {cn qual : Str} {C fI : Addr}
theorem init1 (T : Txt K mg cn qual C fI) {x t0 : Addr} {v : Value} (X : K.In s.heap) (hlim : s.heap.NoLimit) (hx : s.heap.get? x = some (excO C t0)) (hroom : A.depth < recursionLimit)
    (hq : ∀ h' tk dx, Init1 s.heap h' x C dx t0 v → R (.ok (.ret .none)) { s with heap := h', toks := tk }) :
    codeAny (model prog w) A (.call (.ref fI) ⟨[.ref x, v], []⟩) R s := by
  obtain ⟨oc, od, doc, pm, an, cdv, ct, osl, p1, p2, q1, q2, q3, q4, ho, hcd⟩ := T.fn
  obtain ⟨nm, q, N, bs, bm, sn, sub, ab, col, dd, k0, k1, k2, k3, k5, hC, hbm⟩ := T.cls
  have hcl : clsIn K C = some { name := nm, bases := bs, mro := .ref C :: bm, ns := N, qualname := q, hasDict := true, slotNames := sn, subclasses := sub, abstract := ab, collection := col, hasDel := false } := by unfold clsIn; rw [hC] <;> rfl
  refine Att.call_fn (binds := [("self", .ref x), ("letter", v)]) X hlim ho hcd hroom (BindsTo.of_eq (by first | rfl | with_unfolding_all rfl)) (by first | rfl | decide | with_unfolding_all rfl) (fun s₁ IC => ?_) rfl rfl rfl
  obtain ⟨h₁, tk₁, rfl⟩ := IC.toInCall.same
  have k : ∀ b o, s.heap.get? b = some o → h₁.get? b = some o := IC.toInCall.keep
  have hn := IC.toInCall.ns
  have X₁ : K.In h₁ := X.keeps k
  have hx₁ := k _ _ hx
  show wpAny _ _ (execs _ _) _ _ _
  refine wpAny_execs_cons (plainObj_wpAny_Assign_Attribute ?_)
  refine ldL (v := v) hn (by first | rfl | with_unfolding_all rfl | kernel_rfl) (ldL (v := .ref x) hn (by first | rfl | with_unfolding_all rfl | kernel_rfl) ?_)
  refine set_plain X₁ (ox := excO C t0) (od := none) ⟨hx₁, rfl, rfl, trivial⟩ T.sa ?_
  refine exc_osa X₁ hx₁ hcl (show refsVE (.ref C :: bm) = true from hbm) rfl T.noN (fun h₃ tk₃ dx k₃ dn dne hx₃ hn₃ => ?_)
  show wpAny _ _ (execs _ _) _ _ _
  have z : s.heap.objs.size < h₁.objs.size := hn.lt
  exact wpAny_execs_nil (hq h₃ tk₃ dx ⟨fun b o hb e => k₃ b o hb (k b o e), hx₃, Nat.le_of_lt (Nat.lt_of_lt_of_le z dn), dne, hn₃⟩)
theorem made1 (T : Txt K mg cn qual C fI) {v : Value} (X : K.In s.heap) (hlim : s.heap.NoLimit) (hroom : A.depth + 1 < recursionLimit)
    (hq : ∀ h' tk e d, Made1 s.heap h' e C d v → R (.ok (.ret (.ref e))) { s with heap := h', toks := tk }) :
    codeAny (model prog w) A (.call (.ref C) ⟨[v], []⟩) R s := by
  obtain ⟨nm, q, N, bs, bm, sn, sub, ab, col, dd, k0, k1, k2, k3, k5, hC, hbm⟩ := T.cls
  obtain ⟨hp, g, dr, tk, os⟩ := s
  have k : ∀ b o, hp.get? b = some o → ((hp.push (kdv_tup [v])).push (excO C hp.objs.size)).get? b = some o := fun b o e => Heap.get?_push_of_some _ (Heap.get?_push_of_some _ e)
  have hget : ((hp.push (kdv_tup [v])).push (excO C hp.objs.size)).get? (hp.objs.size + 1) = some (excO C hp.objs.size) := by heap_get
  refine call_own F.excBase_ValueError (fun X => refsVE_contains X bm hbm) (X _ _ hC) (looks_findIn X T.iC) (fun self => bind_fn X self T.tC) (sz1 v) ?_
  refine init1 (s := ⟨(hp.push (kdv_tup [v])).push (excO C hp.objs.size), g, dr, tk, os⟩) T (X.keeps k) (hlim.keeps k) hget ?_ fun h' tk' dx ⟨k', hx, dn, dne, hns⟩ => ?_
  · show A.depth + 1 < recursionLimit
    exact hroom
  · have old : ∀ b o, hp.get? b = some o → h'.get? b = some o := fun b o e => k' b o (Nat.ne_of_lt (Nat.lt_succ_of_lt (Heap.lt_size e))) (k b o e)
    have z : hp.objs.size + 1 + 1 ≤ dx := by
      first
        | (simpa only [Heap.size_push] using dn)
        | exact dn
        | (have q := dn; rw [Heap.size_push, Heap.size_push] at q; exact q)
    exact ⟨rfl, hq h' tk' (hp.objs.size + 1) dx ⟨old, Nat.le_succ _, ⟨_, hx⟩, Nat.le_trans (Nat.le_trans (Nat.le_succ _) (Nat.le_succ _)) z, dne, hns⟩⟩
end
end EXletter
end PySem
namespace L2N
open PySem PySem.Spec PyProof.Rows L2
theorem relOletter {v : V} {v' : Value} (r : RelV v v') (f : Str) : RelO (List.lookup f [(("letter" : Str), v)]) (if f = "letter" then some v' else none) := by
  by_cases hw : f = "letter"
  · subst hw
    rw [if_pos rfl]
    have q : List.lookup ("letter" : Str) [(("letter" : Str), v)] = some v := by simp [List.lookup]
    rw [q]; exact r
  · rw [if_neg hw]
    have qw : (f == ("letter" : Str)) = false := by simpa using hw
    have q2 : List.lookup f [(("letter" : Str), v)] = none := by simp [List.lookup, qw]
    rw [q2]; trivial
section
variable {X : Cx} {C fI : Addr} {cn qual : Str}
theorem pmkletter {a : Expr} {ta : TA} {p pos : Pos} {k : Nat} (T : PySem.EXletter.Txt X.K X.mg cn qual C fI) (hr : Room k X.A) (ha : PA X [a] ta) (hg : Gl X cn) (hdb : (cn == ("__debug__" : Str)) = false := by decide)
    (he : starEach (a :: []) X.env = (false, eval a X.env) :: starEach [] X.env := by rfl) (hpl : (backTo pos (starEach [] X.env)).any (·.1) = false := by rfl) :
    PMk X (.Call (.Name cn p) [a] [] pos) (AL.tMk1 C "letter" ta) := by
  intro pins s σ H Q I h
  refine wpAny_Call_Name_kw (ld_glob I hg T.gC ?_ hdb)
  refine PySem.W.callWith_K (h₀ := X.base) I.ok.mod.kin T.kC (thn (ha.run pos pins s σ H _ I h) fun us s1 hh => ?_) he hpl
  obtain ⟨vs, H1, I1, r1, v, ev, q1⟩ := hh
  subst ev
  refine ⟨I1.kIn, ?_⟩
  cases r1 with
  | cons rv rn =>
    rename_i v' us'
    cases rn
    show wpAny _ _ (call (.ref C) [v']) _ _ _
    have hlim := I1.nolimit
    obtain ⟨hp, g, dr, tk, os⟩ := s1
    refine wpAny_call (PySem.EXletter.made1 T I1.kIn hlim (by have := hr.dp; omega) fun h' tk' e d M => ?_)
    show MkP X pins σ Q (.ref e) ⟨h', g, dr, tk', os⟩
    obtain ⟨t1, hoe⟩ := M.obj
    have hns := M.ns
    obtain ⟨G', g1, g2⟩ := restrict h' fun b => decide (b ≠ e)
    have gk : ∀ b, b ≠ e → G'.get? b = h'.get? b := fun b hb => g1 b (decide_eq_true hb)
    have ge : G'.get? e = none := g2 e (by simp)
    have old : ∀ b o, hp.get? b = some o → G'.get? b = some o := fun b o q => (gk b (Nat.ne_of_lt (Nat.lt_of_lt_of_le (Heap.lt_size q) M.new))).trans (M.keep b o q)
    have ob : ObjOk X.prog X.w (upd H1 d (.xd [(("letter" : Str), v)])) G' d (.xd [(("letter" : Str), v)]) :=
      ⟨_, hns.at (fun o q => (gk d M.dne).trans q), fun f => relOletter rv f⟩
    have J : Inv X pins σ (upd H1 d (.xd [(("letter" : Str), v)])) ⟨G', g, dr, tk', os⟩ := I1.laid (t' := tk') old M.dbig ob
    refine ⟨e, _, _, ⟨G', g, dr, tk', os⟩, _, .ref C, some d, rfl, J, fun b o q => ?_, ge, hoe, ⟨rfl, rfl, fun vs z => by cases z; rfl⟩, rfl, rfl, ?_, rfl, I1.bare, raises_own T.exC T.tyC, q1 d (I1.hok.fresh M.dbig)⟩
    · by_cases hb : b = e
      · have q' : G'.get? b = some o := q
        rw [hb, ge] at q'; cases q'
      · exact (gk b hb).symm.trans q
    · rw [upd_ne (Ne.symm M.dne)]
      exact I1.hok.fresh M.new
end
end L2N
namespace PySem
namespace EXmany
open PySem.W PySem.Calls PyProof.Rows PySem.HandSPX
def arA (p1 p2 : Pos) : Arguments := { posonlyargs := [], args := [{ arg := "self", annotation := none, pos := p1 }, { arg := "many", annotation := none, pos := p2 }], vararg := none, kwonlyargs := [], kw_defaults := [], kwarg := none, defaults := [] }
def boB (q1 q2 q3 q4 : Pos) : List Stmt := [.Assign [.Attribute (.Name "self" q1) "many" q2] (.Name "many" q3) q4]
def scS : Scope := { kind := .function, names := [(PySem.Str.ofString "self", .local), (PySem.Str.ofString "many", .local)], isGenerator := false, isCoroutine := false, more := [] }
/-- the written part of such a class, cn at C, its __init__ at fI -/
structure Txt (K : Frag) (mg : Str → Option Value) (cn qual : Str) (C fI : Addr) : Prop where
  gC : mg cn = some (.ref C)
  cls : ∃ nm q N bs bm sn sub ab col dd k0 k1 k2 k3 k5, K.lookup C = some (excClassObj nm q C N bs bm true sn sub ab col dd k0 k1 k2 k3 k5 "ValueError.__new__") ∧ refsVE bm = true
  sa : findIn K (.ref C) "__setattr__" = some (some (.builtin "object.__setattr__"))
  noN : findIn K (.ref C) "many" = some none
  iC : findIn K (.ref C) "__init__" = some (some (.ref fI))
  tC : typeIn K (.ref fI) = some (.type "function")
  kC : keepIn K (.ref C) = true
  exC : subIn K (.ref C) (.type "BaseException") = some true
  tyC : typeIn K (.ref C) = some (.type "type")
  fn : ∃ (oc : Value) (od : Option Addr) (doc pm : Value) (an : Option Addr) (cdv ct : Value) (osl : Array (Option Value)) (p1 p2 q1 q2 q3 q4 : Pos),
    K.lookup fI = some ⟨oc, od, .func (fnOf "__init__" qual (arA p1 p2) (boB q1 q2 q3 q4) scS .none .none doc pm an cdv ct), osl⟩ ∧ codeIn K cdv qual = true
theorem sz1 (v : Value) : [v].length ≤ sizeLine := by rw [sizeLine_eq]; exact (by decide : 1 ≤ 16777216)
theorem ldL {M : Model} {s : Shared} {name : Str} {scope : Scope} {L a : Addr} {cd : Value} {m : Str → Option Value} {x : Str} {pos : Pos} {v : Value} {Q : Value → Shared → Prop} {A : Around} {E : Value → Shared → Prop} (hn : s.heap.Ns L m) (hv : m x = some v) (h : Q v s)
    (hk : scope.kind = .function := by rfl) (hl : (envOfC name scope L a cd).kindOf x = some .local := by rfl) (hd : (x == ("__debug__" : Str)) = false := by decide) :
    wpAny M A (eval (.Name x pos) (envOfC name scope L a cd)) Q E s := wpAny_Name (wpAny_loadName_local hk hl hn hv h) hd
/-- a new error behind its __init__ -/
structure Init1 (h h' : Heap) (x C dx t1 : Addr) (v : Value) : Prop where
  keep : ∀ b o, b ≠ x → h.get? b = some o → h'.get? b = some o
  obj : h'.get? x = some { cls := .ref C, dict := some dx, data := .fields #[.ref t1, .none, .none, .none, .bool false, .none] }
  dbig : h.objs.size ≤ dx
  dne : dx ≠ x
  ns : h'.Ns1 dx (fun y => if y = "many" then some v else none)
/-- an error that is made -/
structure Made1 (h h' : Heap) (e C d : Addr) (v : Value) : Prop where
  keep : ∀ b o, h.get? b = some o → h'.get? b = some o
  new : h.objs.size ≤ e
  obj : ∃ t1 : Addr, h'.get? e = some { cls := .ref C, dict := some d, data := .fields #[.ref t1, .none, .none, .none, .bool false, .none] }
  dbig : h.objs.size ≤ d
  dne : d ≠ e
  ns : h'.Ns1 d (fun y => if y = "many" then some v else none)
section
variable {prog : Program} {w : World} {A : Around} {E : Value → Shared → Prop} {R : Result → Shared → Prop} {s : Shared} {K : Frag} {mg : Str → Option Value} {cn qual : Str} {C fI : Addr}
theorem init1 (T : Txt K mg cn qual C fI) {x t0 : Addr} {v : Value} (X : K.In s.heap) (hlim : s.heap.NoLimit) (hx : s.heap.get? x = some (excO C t0)) (hroom : A.depth < recursionLimit)
    (hq : ∀ h' tk dx, Init1 s.heap h' x C dx t0 v → R (.ok (.ret .none)) { s with heap := h', toks := tk }) :
    codeAny (model prog w) A (.call (.ref fI) ⟨[.ref x, v], []⟩) R s := by
  obtain ⟨oc, od, doc, pm, an, cdv, ct, osl, p1, p2, q1, q2, q3, q4, ho, hcd⟩ := T.fn
  obtain ⟨nm, q, N, bs, bm, sn, sub, ab, col, dd, k0, k1, k2, k3, k5, hC, hbm⟩ := T.cls
  have hcl : clsIn K C = some { name := nm, bases := bs, mro := .ref C :: bm, ns := N, qualname := q, hasDict := true, slotNames := sn, subclasses := sub, abstract := ab, collection := col, hasDel := false } := by unfold clsIn; rw [hC] <;> rfl
  refine Att.call_fn (binds := [("self", .ref x), ("many", v)]) X hlim ho hcd hroom (BindsTo.of_eq (by first | rfl | with_unfolding_all rfl)) (by first | rfl | decide | with_unfolding_all rfl) (fun s₁ IC => ?_) rfl rfl rfl
  obtain ⟨h₁, tk₁, rfl⟩ := IC.toInCall.same
  have k : ∀ b o, s.heap.get? b = some o → h₁.get? b = some o := IC.toInCall.keep
  have hn := IC.toInCall.ns
  have X₁ : K.In h₁ := X.keeps k
  have hx₁ := k _ _ hx
  show wpAny _ _ (execs _ _) _ _ _
  refine wpAny_execs_cons (plainObj_wpAny_Assign_Attribute ?_)
  refine ldL (v := v) hn (by first | rfl | with_unfolding_all rfl | kernel_rfl) (ldL (v := .ref x) hn (by first | rfl | with_unfolding_all rfl | kernel_rfl) ?_)
  refine set_plain X₁ (ox := excO C t0) (od := none) ⟨hx₁, rfl, rfl, trivial⟩ T.sa ?_
  refine exc_osa X₁ hx₁ hcl (show refsVE (.ref C :: bm) = true from hbm) rfl T.noN (fun h₃ tk₃ dx k₃ dn dne hx₃ hn₃ => ?_)
  show wpAny _ _ (execs _ _) _ _ _
  have z : s.heap.objs.size < h₁.objs.size := hn.lt
  exact wpAny_execs_nil (hq h₃ tk₃ dx ⟨fun b o hb e => k₃ b o hb (k b o e), hx₃, Nat.le_of_lt (Nat.lt_of_lt_of_le z dn), dne, hn₃⟩)
theorem made1 (T : Txt K mg cn qual C fI) {v : Value} (X : K.In s.heap) (hlim : s.heap.NoLimit) (hroom : A.depth + 1 < recursionLimit)
    (hq : ∀ h' tk e d, Made1 s.heap h' e C d v → R (.ok (.ret (.ref e))) { s with heap := h', toks := tk }) :
    codeAny (model prog w) A (.call (.ref C) ⟨[v], []⟩) R s := by
  obtain ⟨nm, q, N, bs, bm, sn, sub, ab, col, dd, k0, k1, k2, k3, k5, hC, hbm⟩ := T.cls
  obtain ⟨hp, g, dr, tk, os⟩ := s
  have k : ∀ b o, hp.get? b = some o → ((hp.push (kdv_tup [v])).push (excO C hp.objs.size)).get? b = some o := fun b o e => Heap.get?_push_of_some _ (Heap.get?_push_of_some _ e)
  have hget : ((hp.push (kdv_tup [v])).push (excO C hp.objs.size)).get? (hp.objs.size + 1) = some (excO C hp.objs.size) := by heap_get
  refine call_own F.excBase_ValueError (fun X => refsVE_contains X bm hbm) (X _ _ hC) (looks_findIn X T.iC) (fun self => bind_fn X self T.tC) (sz1 v) ?_
  refine init1 (s := ⟨(hp.push (kdv_tup [v])).push (excO C hp.objs.size), g, dr, tk, os⟩) T (X.keeps k) (hlim.keeps k) hget ?_ fun h' tk' dx ⟨k', hx, dn, dne, hns⟩ => ?_
  · show A.depth + 1 < recursionLimit
    exact hroom
  · have old : ∀ b o, hp.get? b = some o → h'.get? b = some o := fun b o e => k' b o (Nat.ne_of_lt (Nat.lt_succ_of_lt (Heap.lt_size e))) (k b o e)
    have z : hp.objs.size + 1 + 1 ≤ dx := by
      first
        | (simpa only [Heap.size_push] using dn)
        | exact dn
        | (have q := dn; rw [Heap.size_push, Heap.size_push] at q; exact q)
    exact ⟨rfl, hq h' tk' (hp.objs.size + 1) dx ⟨old, Nat.le_succ _, ⟨_, hx⟩, Nat.le_trans (Nat.le_trans (Nat.le_succ _) (Nat.le_succ _)) z, dne, hns⟩⟩
end
end EXmany
end PySem
namespace L2N
open PySem PySem.Spec PyProof.Rows L2
theorem relOmany {v : V} {v' : Value} (r : RelV v v') (f : Str) : RelO (List.lookup f [(("many" : Str), v)]) (if f = "many" then some v' else none) := by
  by_cases hw : f = "many"
  · subst hw
    rw [if_pos rfl]
    have q : List.lookup ("many" : Str) [(("many" : Str), v)] = some v := by simp [List.lookup]
    rw [q]; exact r
  · rw [if_neg hw]
    have qw : (f == ("many" : Str)) = false := by simpa using hw
    have q2 : List.lookup f [(("many" : Str), v)] = none := by simp [List.lookup, qw]
    rw [q2]; trivial
section
variable {X : Cx} {C fI : Addr} {cn qual : Str}
theorem pmkmany {a : Expr} {ta : TA} {p pos : Pos} {k : Nat} (T : PySem.EXmany.Txt X.K X.mg cn qual C fI) (hr : Room k X.A) (ha : PA X [a] ta) (hg : Gl X cn) (hdb : (cn == ("__debug__" : Str)) = false := by decide)
    (he : starEach (a :: []) X.env = (false, eval a X.env) :: starEach [] X.env := by rfl) (hpl : (backTo pos (starEach [] X.env)).any (·.1) = false := by rfl) :
    PMk X (.Call (.Name cn p) [a] [] pos) (AL.tMk1 C "many" ta) := by
  intro pins s σ H Q I h
  refine wpAny_Call_Name_kw (ld_glob I hg T.gC ?_ hdb)
  refine PySem.W.callWith_K (h₀ := X.base) I.ok.mod.kin T.kC (thn (ha.run pos pins s σ H _ I h) fun us s1 hh => ?_) he hpl
  obtain ⟨vs, H1, I1, r1, v, ev, q1⟩ := hh
  subst ev
  refine ⟨I1.kIn, ?_⟩
  cases r1 with
  | cons rv rn =>
    rename_i v' us'
    cases rn
    show wpAny _ _ (call (.ref C) [v']) _ _ _
    have hlim := I1.nolimit
    obtain ⟨hp, g, dr, tk, os⟩ := s1
    refine wpAny_call (PySem.EXmany.made1 T I1.kIn hlim (by have := hr.dp; omega) fun h' tk' e d M => ?_)
    show MkP X pins σ Q (.ref e) ⟨h', g, dr, tk', os⟩
    obtain ⟨t1, hoe⟩ := M.obj
    have hns := M.ns
    obtain ⟨G', g1, g2⟩ := restrict h' fun b => decide (b ≠ e)
    have gk : ∀ b, b ≠ e → G'.get? b = h'.get? b := fun b hb => g1 b (decide_eq_true hb)
    have ge : G'.get? e = none := g2 e (by simp)
    have old : ∀ b o, hp.get? b = some o → G'.get? b = some o := fun b o q => (gk b (Nat.ne_of_lt (Nat.lt_of_lt_of_le (Heap.lt_size q) M.new))).trans (M.keep b o q)
    have ob : ObjOk X.prog X.w (upd H1 d (.xd [(("many" : Str), v)])) G' d (.xd [(("many" : Str), v)]) :=
      ⟨_, hns.at (fun o q => (gk d M.dne).trans q), fun f => relOmany rv f⟩
    have J : Inv X pins σ (upd H1 d (.xd [(("many" : Str), v)])) ⟨G', g, dr, tk', os⟩ := I1.laid (t' := tk') old M.dbig ob
    refine ⟨e, _, _, ⟨G', g, dr, tk', os⟩, _, .ref C, some d, rfl, J, fun b o q => ?_, ge, hoe, ⟨rfl, rfl, fun vs z => by cases z; rfl⟩, rfl, rfl, ?_, rfl, I1.bare, raises_own T.exC T.tyC, q1 d (I1.hok.fresh M.dbig)⟩
    · by_cases hb : b = e
      · have q' : G'.get? b = some o := q
        rw [hb, ge] at q'; cases q'
      · exact (gk b hb).symm.trans q
    · rw [upd_ne (Ne.symm M.dne)]
      exact I1.hok.fresh M.new
end
end L2N
namespace PySem
namespace EXblock
open PySem.W PySem.Calls PyProof.Rows PySem.HandSPX
def arA (p1 p2 : Pos) : Arguments := { posonlyargs := [], args := [{ arg := "self", annotation := none, pos := p1 }, { arg := "block", annotation := none, pos := p2 }], vararg := none, kwonlyargs := [], kw_defaults := [], kwarg := none, defaults := [] }
def boB (q1 q2 q3 q4 : Pos) : List Stmt := [.Assign [.Attribute (.Name "self" q1) "block" q2] (.Name "block" q3) q4]
def scS : Scope := { kind := .function, names := [(PySem.Str.ofString "self", .local), (PySem.Str.ofString "block", .local)], isGenerator := false, isCoroutine := false, more := [] }
/-- the written part of such a class, cn at C, its __init__ at fI -/
structure Txt (K : Frag) (mg : Str → Option Value) (cn qual : Str) (C fI : Addr) : Prop where
  gC : mg cn = some (.ref C)
  cls : ∃ nm q N bs bm sn sub ab col dd k0 k1 k2 k3 k5, K.lookup C = some (excClassObj nm q C N bs bm true sn sub ab col dd k0 k1 k2 k3 k5 "ValueError.__new__") ∧ refsVE bm = true
  sa : findIn K (.ref C) "__setattr__" = some (some (.builtin "object.__setattr__"))
  noN : findIn K (.ref C) "block" = some none
  iC : findIn K (.ref C) "__init__" = some (some (.ref fI))
  tC : typeIn K (.ref fI) = some (.type "function")
  kC : keepIn K (.ref C) = true
  exC : subIn K (.ref C) (.type "BaseException") = some true
  tyC : typeIn K (.ref C) = some (.type "type")
  fn : ∃ (oc : Value) (od : Option Addr) (doc pm : Value) (an : Option Addr) (cdv ct : Value) (osl : Array (Option Value)) (p1 p2 q1 q2 q3 q4 : Pos),
    K.lookup fI = some ⟨oc, od, .func (fnOf "__init__" qual (arA p1 p2) (boB q1 q2 q3 q4) scS .none .none doc pm an cdv ct), osl⟩ ∧ codeIn K cdv qual = true
theorem sz1 (v : Value) : [v].length ≤ sizeLine := by rw [sizeLine_eq]; exact (by decide : 1 ≤ 16777216)
theorem ldL {M : Model} {s : Shared} {name : Str} {scope : Scope} {L a : Addr} {cd : Value} {m : Str → Option Value} {x : Str} {pos : Pos} {v : Value} {Q : Value → Shared → Prop} {A : Around} {E : Value → Shared → Prop} (hn : s.heap.Ns L m) (hv : m x = some v) (h : Q v s)
    (hk : scope.kind = .function := by rfl) (hl : (envOfC name scope L a cd).kindOf x = some .local := by rfl) (hd : (x == ("__debug__" : Str)) = false := by decide) :
    wpAny M A (eval (.Name x pos) (envOfC name scope L a cd)) Q E s := wpAny_Name (wpAny_loadName_local hk hl hn hv h) hd
/-- a new error behind its __init__ -/
structure Init1 (h h' : Heap) (x C dx t1 : Addr) (v : Value) : Prop where
  keep : ∀ b o, b ≠ x → h.get? b = some o → h'.get? b = some o
  obj : h'.get? x = some { cls := .ref C, dict := some dx, data := .fields #[.ref t1, .none, .none, .none, .bool false, .none] }
  dbig : h.objs.size ≤ dx
  dne : dx ≠ x
  ns : h'.Ns1 dx (fun y => if y = "block" then some v else none)
/-- an error that is made -/
structure Made1 (h h' : Heap) (e C d : Addr) (v : Value) : Prop where
  keep : ∀ b o, h.get? b = some o → h'.get? b = some o
  new : h.objs.size ≤ e
  obj : ∃ t1 : Addr, h'.get? e = some { cls := .ref C, dict := some d, data := .fields #[.ref t1, .none, .none, .none, .bool false, .none] }
  dbig : h.objs.size ≤ d
  dne : d ≠ e
  ns : h'.Ns1 d (fun y => if y = "block" then some v else none)
section
variable {prog : Program} {w : World} {A : Around} {E : Value → Shared → Prop} {R : Result → Shared → Prop} {s : Shared} {K : Frag} {mg : Str → Option Value} {cn qual : Str} {C fI : Addr}
theorem init1 (T : Txt K mg cn qual C fI) {x t0 : Addr} {v : Value} (X : K.In s.heap) (hlim : s.heap.NoLimit) (hx : s.heap.get? x = some (excO C t0)) (hroom : A.depth < recursionLimit)
    (hq : ∀ h' tk dx, Init1 s.heap h' x C dx t0 v → R (.ok (.ret .none)) { s with heap := h', toks := tk }) :
    codeAny (model prog w) A (.call (.ref fI) ⟨[.ref x, v], []⟩) R s := by
  obtain ⟨oc, od, doc, pm, an, cdv, ct, osl, p1, p2, q1, q2, q3, q4, ho, hcd⟩ := T.fn
  obtain ⟨nm, q, N, bs, bm, sn, sub, ab, col, dd, k0, k1, k2, k3, k5, hC, hbm⟩ := T.cls
  have hcl : clsIn K C = some { name := nm, bases := bs, mro := .ref C :: bm, ns := N, qualname := q, hasDict := true, slotNames := sn, subclasses := sub, abstract := ab, collection := col, hasDel := false } := by unfold clsIn; rw [hC] <;> rfl
  refine Att.call_fn (binds := [("self", .ref x), ("block", v)]) X hlim ho hcd hroom (BindsTo.of_eq (by first | rfl | with_unfolding_all rfl)) (by first | rfl | decide | with_unfolding_all rfl) (fun s₁ IC => ?_) rfl rfl rfl
  obtain ⟨h₁, tk₁, rfl⟩ := IC.toInCall.same
  have k : ∀ b o, s.heap.get? b = some o → h₁.get? b = some o := IC.toInCall.keep
  have hn := IC.toInCall.ns
  have X₁ : K.In h₁ := X.keeps k
  have hx₁ := k _ _ hx
  show wpAny _ _ (execs _ _) _ _ _
  refine wpAny_execs_cons (plainObj_wpAny_Assign_Attribute ?_)
  refine ldL (v := v) hn (by first | rfl | with_unfolding_all rfl | kernel_rfl) (ldL (v := .ref x) hn (by first | rfl | with_unfolding_all rfl | kernel_rfl) ?_)
  refine set_plain X₁ (ox := excO C t0) (od := none) ⟨hx₁, rfl, rfl, trivial⟩ T.sa ?_
  refine exc_osa X₁ hx₁ hcl (show refsVE (.ref C :: bm) = true from hbm) rfl T.noN (fun h₃ tk₃ dx k₃ dn dne hx₃ hn₃ => ?_)
  show wpAny _ _ (execs _ _) _ _ _
  have z : s.heap.objs.size < h₁.objs.size := hn.lt
  exact wpAny_execs_nil (hq h₃ tk₃ dx ⟨fun b o hb e => k₃ b o hb (k b o e), hx₃, Nat.le_of_lt (Nat.lt_of_lt_of_le z dn), dne, hn₃⟩)
theorem made1 (T : Txt K mg cn qual C fI) {v : Value} (X : K.In s.heap) (hlim : s.heap.NoLimit) (hroom : A.depth + 1 < recursionLimit)
    (hq : ∀ h' tk e d, Made1 s.heap h' e C d v → R (.ok (.ret (.ref e))) { s with heap := h', toks := tk }) :
    codeAny (model prog w) A (.call (.ref C) ⟨[v], []⟩) R s := by
  obtain ⟨nm, q, N, bs, bm, sn, sub, ab, col, dd, k0, k1, k2, k3, k5, hC, hbm⟩ := T.cls
  obtain ⟨hp, g, dr, tk, os⟩ := s
  have k : ∀ b o, hp.get? b = some o → ((hp.push (kdv_tup [v])).push (excO C hp.objs.size)).get? b = some o := fun b o e => Heap.get?_push_of_some _ (Heap.get?_push_of_some _ e)
  have hget : ((hp.push (kdv_tup [v])).push (excO C hp.objs.size)).get? (hp.objs.size + 1) = some (excO C hp.objs.size) := by heap_get
  refine call_own F.excBase_ValueError (fun X => refsVE_contains X bm hbm) (X _ _ hC) (looks_findIn X T.iC) (fun self => bind_fn X self T.tC) (sz1 v) ?_
  refine init1 (s := ⟨(hp.push (kdv_tup [v])).push (excO C hp.objs.size), g, dr, tk, os⟩) T (X.keeps k) (hlim.keeps k) hget ?_ fun h' tk' dx ⟨k', hx, dn, dne, hns⟩ => ?_
  · show A.depth + 1 < recursionLimit
    exact hroom
  · have old : ∀ b o, hp.get? b = some o → h'.get? b = some o := fun b o e => k' b o (Nat.ne_of_lt (Nat.lt_succ_of_lt (Heap.lt_size e))) (k b o e)
    have z : hp.objs.size + 1 + 1 ≤ dx := by
      first
        | (simpa only [Heap.size_push] using dn)
        | exact dn
        | (have q := dn; rw [Heap.size_push, Heap.size_push] at q; exact q)
    exact ⟨rfl, hq h' tk' (hp.objs.size + 1) dx ⟨old, Nat.le_succ _, ⟨_, hx⟩, Nat.le_trans (Nat.le_trans (Nat.le_succ _) (Nat.le_succ _)) z, dne, hns⟩⟩
end
end EXblock
end PySem
namespace L2N
open PySem PySem.Spec PyProof.Rows L2
theorem relOblock {v : V} {v' : Value} (r : RelV v v') (f : Str) : RelO (List.lookup f [(("block" : Str), v)]) (if f = "block" then some v' else none) := by
  by_cases hw : f = "block"
  · subst hw
    rw [if_pos rfl]
    have q : List.lookup ("block" : Str) [(("block" : Str), v)] = some v := by simp [List.lookup]
    rw [q]; exact r
  · rw [if_neg hw]
    have qw : (f == ("block" : Str)) = false := by simpa using hw
    have q2 : List.lookup f [(("block" : Str), v)] = none := by simp [List.lookup, qw]
    rw [q2]; trivial
section
variable {X : Cx} {C fI : Addr} {cn qual : Str}
theorem pmkblock {a : Expr} {ta : TA} {p pos : Pos} {k : Nat} (T : PySem.EXblock.Txt X.K X.mg cn qual C fI) (hr : Room k X.A) (ha : PA X [a] ta) (hg : Gl X cn) (hdb : (cn == ("__debug__" : Str)) = false := by decide)
    (he : starEach (a :: []) X.env = (false, eval a X.env) :: starEach [] X.env := by rfl) (hpl : (backTo pos (starEach [] X.env)).any (·.1) = false := by rfl) :
    PMk X (.Call (.Name cn p) [a] [] pos) (AL.tMk1 C "block" ta) := by
  intro pins s σ H Q I h
  refine wpAny_Call_Name_kw (ld_glob I hg T.gC ?_ hdb)
  refine PySem.W.callWith_K (h₀ := X.base) I.ok.mod.kin T.kC (thn (ha.run pos pins s σ H _ I h) fun us s1 hh => ?_) he hpl
  obtain ⟨vs, H1, I1, r1, v, ev, q1⟩ := hh
  subst ev
  refine ⟨I1.kIn, ?_⟩
  cases r1 with
  | cons rv rn =>
    rename_i v' us'
    cases rn
    show wpAny _ _ (call (.ref C) [v']) _ _ _
    have hlim := I1.nolimit
    obtain ⟨hp, g, dr, tk, os⟩ := s1
    refine wpAny_call (PySem.EXblock.made1 T I1.kIn hlim (by have := hr.dp; omega) fun h' tk' e d M => ?_)
    show MkP X pins σ Q (.ref e) ⟨h', g, dr, tk', os⟩
    obtain ⟨t1, hoe⟩ := M.obj
    have hns := M.ns
    obtain ⟨G', g1, g2⟩ := restrict h' fun b => decide (b ≠ e)
    have gk : ∀ b, b ≠ e → G'.get? b = h'.get? b := fun b hb => g1 b (decide_eq_true hb)
    have ge : G'.get? e = none := g2 e (by simp)
    have old : ∀ b o, hp.get? b = some o → G'.get? b = some o := fun b o q => (gk b (Nat.ne_of_lt (Nat.lt_of_lt_of_le (Heap.lt_size q) M.new))).trans (M.keep b o q)
    have ob : ObjOk X.prog X.w (upd H1 d (.xd [(("block" : Str), v)])) G' d (.xd [(("block" : Str), v)]) :=
      ⟨_, hns.at (fun o q => (gk d M.dne).trans q), fun f => relOblock rv f⟩
    have J : Inv X pins σ (upd H1 d (.xd [(("block" : Str), v)])) ⟨G', g, dr, tk', os⟩ := I1.laid (t' := tk') old M.dbig ob
    refine ⟨e, _, _, ⟨G', g, dr, tk', os⟩, _, .ref C, some d, rfl, J, fun b o q => ?_, ge, hoe, ⟨rfl, rfl, fun vs z => by cases z; rfl⟩, rfl, rfl, ?_, rfl, I1.bare, raises_own T.exC T.tyC, q1 d (I1.hok.fresh M.dbig)⟩
    · by_cases hb : b = e
      · have q' : G'.get? b = some o := q
        rw [hb, ge] at q'; cases q'
      · exact (gk b hb).symm.trans q
    · rw [upd_ne (Ne.symm M.dne)]
      exact I1.hok.fresh M.new
end
end L2N
namespace PySem
namespace EXticket
open PySem.W PySem.Calls PyProof.Rows PySem.HandSPX
def arA (p1 p2 : Pos) : Arguments := { posonlyargs := [], args := [{ arg := "self", annotation := none, pos := p1 }, { arg := "ticket", annotation := none, pos := p2 }], vararg := none, kwonlyargs := [], kw_defaults := [], kwarg := none, defaults := [] }
def boB (q1 q2 q3 q4 : Pos) : List Stmt := [.Assign [.Attribute (.Name "self" q1) "ticket" q2] (.Name "ticket" q3) q4]
def scS : Scope := { kind := .function, names := [(PySem.Str.ofString "self", .local), (PySem.Str.ofString "ticket", .local)], isGenerator := false, isCoroutine := false, more := [] }
/-- the written part of such a class, cn at C, its __init__ at fI -/
structure Txt (K : Frag) (mg : Str → Option Value) (cn qual : Str) (C fI : Addr) : Prop where
  gC : mg cn = some (.ref C)
  cls : ∃ nm q N bs bm sn sub ab col dd k0 k1 k2 k3 k5, K.lookup C = some (excClassObj nm q C N bs bm true sn sub ab col dd k0 k1 k2 k3 k5 "ValueError.__new__") ∧ refsVE bm = true
  sa : findIn K (.ref C) "__setattr__" = some (some (.builtin "object.__setattr__"))
  noN : findIn K (.ref C) "ticket" = some none
  iC : findIn K (.ref C) "__init__" = some (some (.ref fI))
  tC : typeIn K (.ref fI) = some (.type "function")
  kC : keepIn K (.ref C) = true
  exC : subIn K (.ref C) (.type "BaseException") = some true
  tyC : typeIn K (.ref C) = some (.type "type")
  fn : ∃ (oc : Value) (od : Option Addr) (doc pm : Value) (an : Option Addr) (cdv ct : Value) (osl : Array (Option Value)) (p1 p2 q1 q2 q3 q4 : Pos),
    K.lookup fI = some ⟨oc, od, .func (fnOf "__init__" qual (arA p1 p2) (boB q1 q2 q3 q4) scS .none .none doc pm an cdv ct), osl⟩ ∧ codeIn K cdv qual = true
theorem sz1 (v : Value) : [v].length ≤ sizeLine := by rw [sizeLine_eq]; exact (by decide : 1 ≤ 16777216)
theorem ldL {M : Model} {s : Shared} {name : Str} {scope : Scope} {L a : Addr} {cd : Value} {m : Str → Option Value} {x : Str} {pos : Pos} {v : Value} {Q : Value → Shared → Prop} {A : Around} {E : Value → Shared → Prop} (hn : s.heap.Ns L m) (hv : m x = some v) (h : Q v s)
    (hk : scope.kind = .function := by rfl) (hl : (envOfC name scope L a cd).kindOf x = some .local := by rfl) (hd : (x == ("__debug__" : Str)) = false := by decide) :
    wpAny M A (eval (.Name x pos) (envOfC name scope L a cd)) Q E s := wpAny_Name (wpAny_loadName_local hk hl hn hv h) hd
/-- a new error behind its __init__ -/
structure Init1 (h h' : Heap) (x C dx t1 : Addr) (v : Value) : Prop where
  keep : ∀ b o, b ≠ x → h.get? b = some o → h'.get? b = some o
  obj : h'.get? x = some { cls := .ref C, dict := some dx, data := .fields #[.ref t1, .none, .none, .none, .bool false, .none] }
  dbig : h.objs.size ≤ dx
  dne : dx ≠ x
  ns : h'.Ns1 dx (fun y => if y = "ticket" then some v else none)
/-- an error that is made -/
structure Made1 (h h' : Heap) (e C d : Addr) (v : Value) : Prop where
  keep : ∀ b o, h.get? b = some o → h'.get? b = some o
  new : h.objs.size ≤ e
  obj : ∃ t1 : Addr, h'.get? e = some { cls := .ref C, dict := some d, data := .fields #[.ref t1, .none, .none, .none, .bool false, .none] }
  dbig : h.objs.size ≤ d
  dne : d ≠ e
  ns : h'.Ns1 d (fun y => if y = "ticket" then some v else none)
section
variable {prog : Program} {w : World} {A : Around} {E : Value → Shared → Prop} {R : Result → Shared → Prop} {s : Shared} {K : Frag} {mg : Str → Option Value} {cn qual : Str} {C fI : Addr}
theorem init1 (T : Txt K mg cn qual C fI) {x t0 : Addr} {v : Value} (X : K.In s.heap) (hlim : s.heap.NoLimit) (hx : s.heap.get? x = some (excO C t0)) (hroom : A.depth < recursionLimit)
    (hq : ∀ h' tk dx, Init1 s.heap h' x C dx t0 v → R (.ok (.ret .none)) { s with heap := h', toks := tk }) :
    codeAny (model prog w) A (.call (.ref fI) ⟨[.ref x, v], []⟩) R s := by
  obtain ⟨oc, od, doc, pm, an, cdv, ct, osl, p1, p2, q1, q2, q3, q4, ho, hcd⟩ := T.fn
  obtain ⟨nm, q, N, bs, bm, sn, sub, ab, col, dd, k0, k1, k2, k3, k5, hC, hbm⟩ := T.cls
  have hcl : clsIn K C = some { name := nm, bases := bs, mro := .ref C :: bm, ns := N, qualname := q, hasDict := true, slotNames := sn, subclasses := sub, abstract := ab, collection := col, hasDel := false } := by unfold clsIn; rw [hC] <;> rfl
  refine Att.call_fn (binds := [("self", .ref x), ("ticket", v)]) X hlim ho hcd hroom (BindsTo.of_eq (by first | rfl | with_unfolding_all rfl)) (by first | rfl | decide | with_unfolding_all rfl) (fun s₁ IC => ?_) rfl rfl rfl
  obtain ⟨h₁, tk₁, rfl⟩ := IC.toInCall.same
  have k : ∀ b o, s.heap.get? b = some o → h₁.get? b = some o := IC.toInCall.keep
  have hn := IC.toInCall.ns
  have X₁ : K.In h₁ := X.keeps k
  have hx₁ := k _ _ hx
  show wpAny _ _ (execs _ _) _ _ _
  refine wpAny_execs_cons (plainObj_wpAny_Assign_Attribute ?_)
  refine ldL (v := v) hn (by first | rfl | with_unfolding_all rfl | kernel_rfl) (ldL (v := .ref x) hn (by first | rfl | with_unfolding_all rfl | kernel_rfl) ?_)
  refine set_plain X₁ (ox := excO C t0) (od := none) ⟨hx₁, rfl, rfl, trivial⟩ T.sa ?_
  refine exc_osa X₁ hx₁ hcl (show refsVE (.ref C :: bm) = true from hbm) rfl T.noN (fun h₃ tk₃ dx k₃ dn dne hx₃ hn₃ => ?_)
  show wpAny _ _ (execs _ _) _ _ _
  have z : s.heap.objs.size < h₁.objs.size := hn.lt
  exact wpAny_execs_nil (hq h₃ tk₃ dx ⟨fun b o hb e => k₃ b o hb (k b o e), hx₃, Nat.le_of_lt (Nat.lt_of_lt_of_le z dn), dne, hn₃⟩)
theorem made1 (T : Txt K mg cn qual C fI) {v : Value} (X : K.In s.heap) (hlim : s.heap.NoLimit) (hroom : A.depth + 1 < recursionLimit)
    (hq : ∀ h' tk e d, Made1 s.heap h' e C d v → R (.ok (.ret (.ref e))) { s with heap := h', toks := tk }) :
    codeAny (model prog w) A (.call (.ref C) ⟨[v], []⟩) R s := by
  obtain ⟨nm, q, N, bs, bm, sn, sub, ab, col, dd, k0, k1, k2, k3, k5, hC, hbm⟩ := T.cls
  obtain ⟨hp, g, dr, tk, os⟩ := s
  have k : ∀ b o, hp.get? b = some o → ((hp.push (kdv_tup [v])).push (excO C hp.objs.size)).get? b = some o := fun b o e => Heap.get?_push_of_some _ (Heap.get?_push_of_some _ e)
  have hget : ((hp.push (kdv_tup [v])).push (excO C hp.objs.size)).get? (hp.objs.size + 1) = some (excO C hp.objs.size) := by heap_get
  refine call_own F.excBase_ValueError (fun X => refsVE_contains X bm hbm) (X _ _ hC) (looks_findIn X T.iC) (fun self => bind_fn X self T.tC) (sz1 v) ?_
  refine init1 (s := ⟨(hp.push (kdv_tup [v])).push (excO C hp.objs.size), g, dr, tk, os⟩) T (X.keeps k) (hlim.keeps k) hget ?_ fun h' tk' dx ⟨k', hx, dn, dne, hns⟩ => ?_
  · show A.depth + 1 < recursionLimit
    exact hroom
  · have old : ∀ b o, hp.get? b = some o → h'.get? b = some o := fun b o e => k' b o (Nat.ne_of_lt (Nat.lt_succ_of_lt (Heap.lt_size e))) (k b o e)
    have z : hp.objs.size + 1 + 1 ≤ dx := by
      first
        | (simpa only [Heap.size_push] using dn)
        | exact dn
        | (have q := dn; rw [Heap.size_push, Heap.size_push] at q; exact q)
    exact ⟨rfl, hq h' tk' (hp.objs.size + 1) dx ⟨old, Nat.le_succ _, ⟨_, hx⟩, Nat.le_trans (Nat.le_trans (Nat.le_succ _) (Nat.le_succ _)) z, dne, hns⟩⟩
end
end EXticket
end PySem
namespace L2N
open PySem PySem.Spec PyProof.Rows L2
theorem relOticket {v : V} {v' : Value} (r : RelV v v') (f : Str) : RelO (List.lookup f [(("ticket" : Str), v)]) (if f = "ticket" then some v' else none) := by
  by_cases hw : f = "ticket"
  · subst hw
    rw [if_pos rfl]
    have q : List.lookup ("ticket" : Str) [(("ticket" : Str), v)] = some v := by simp [List.lookup]
    rw [q]; exact r
  · rw [if_neg hw]
    have qw : (f == ("ticket" : Str)) = false := by simpa using hw
    have q2 : List.lookup f [(("ticket" : Str), v)] = none := by simp [List.lookup, qw]
    rw [q2]; trivial
section
variable {X : Cx} {C fI : Addr} {cn qual : Str}
theorem pmkticket {a : Expr} {ta : TA} {p pos : Pos} {k : Nat} (T : PySem.EXticket.Txt X.K X.mg cn qual C fI) (hr : Room k X.A) (ha : PA X [a] ta) (hg : Gl X cn) (hdb : (cn == ("__debug__" : Str)) = false := by decide)
    (he : starEach (a :: []) X.env = (false, eval a X.env) :: starEach [] X.env := by rfl) (hpl : (backTo pos (starEach [] X.env)).any (·.1) = false := by rfl) :
    PMk X (.Call (.Name cn p) [a] [] pos) (AL.tMk1 C "ticket" ta) := by
  intro pins s σ H Q I h
  refine wpAny_Call_Name_kw (ld_glob I hg T.gC ?_ hdb)
  refine PySem.W.callWith_K (h₀ := X.base) I.ok.mod.kin T.kC (thn (ha.run pos pins s σ H _ I h) fun us s1 hh => ?_) he hpl
  obtain ⟨vs, H1, I1, r1, v, ev, q1⟩ := hh
  subst ev
  refine ⟨I1.kIn, ?_⟩
  cases r1 with
  | cons rv rn =>
    rename_i v' us'
    cases rn
    show wpAny _ _ (call (.ref C) [v']) _ _ _
    have hlim := I1.nolimit
    obtain ⟨hp, g, dr, tk, os⟩ := s1
    refine wpAny_call (PySem.EXticket.made1 T I1.kIn hlim (by have := hr.dp; omega) fun h' tk' e d M => ?_)
    show MkP X pins σ Q (.ref e) ⟨h', g, dr, tk', os⟩
    obtain ⟨t1, hoe⟩ := M.obj
    have hns := M.ns
    obtain ⟨G', g1, g2⟩ := restrict h' fun b => decide (b ≠ e)
    have gk : ∀ b, b ≠ e → G'.get? b = h'.get? b := fun b hb => g1 b (decide_eq_true hb)
    have ge : G'.get? e = none := g2 e (by simp)
    have old : ∀ b o, hp.get? b = some o → G'.get? b = some o := fun b o q => (gk b (Nat.ne_of_lt (Nat.lt_of_lt_of_le (Heap.lt_size q) M.new))).trans (M.keep b o q)
    have ob : ObjOk X.prog X.w (upd H1 d (.xd [(("ticket" : Str), v)])) G' d (.xd [(("ticket" : Str), v)]) :=
      ⟨_, hns.at (fun o q => (gk d M.dne).trans q), fun f => relOticket rv f⟩
    have J : Inv X pins σ (upd H1 d (.xd [(("ticket" : Str), v)])) ⟨G', g, dr, tk', os⟩ := I1.laid (t' := tk') old M.dbig ob
    refine ⟨e, _, _, ⟨G', g, dr, tk', os⟩, _, .ref C, some d, rfl, J, fun b o q => ?_, ge, hoe, ⟨rfl, rfl, fun vs z => by cases z; rfl⟩, rfl, rfl, ?_, rfl, I1.bare, raises_own T.exC T.tyC, q1 d (I1.hok.fresh M.dbig)⟩
    · by_cases hb : b = e
      · have q' : G'.get? b = some o := q
        rw [hb, ge] at q'; cases q'
      · exact (gk b hb).symm.trans q
    · rw [upd_ne (Ne.symm M.dne)]
      exact I1.hok.fresh M.new
end
end L2N
namespace PySem
namespace EXhouse
open PySem.W PySem.Calls PyProof.Rows PySem.HandSPX
def arA (p1 p2 : Pos) : Arguments := { posonlyargs := [], args := [{ arg := "self", annotation := none, pos := p1 }, { arg := "house", annotation := none, pos := p2 }], vararg := none, kwonlyargs := [], kw_defaults := [], kwarg := none, defaults := [] }
def boB (q1 q2 q3 q4 : Pos) : List Stmt := [.Assign [.Attribute (.Name "self" q1) "house" q2] (.Name "house" q3) q4]
def scS : Scope := { kind := .function, names := [(PySem.Str.ofString "self", .local), (PySem.Str.ofString "house", .local)], isGenerator := false, isCoroutine := false, more := [] }
/-- the written part of such a class, cn at C, its __init__ at fI -/
structure Txt (K : Frag) (mg : Str → Option Value) (cn qual : Str) (C fI : Addr) : Prop where
  gC : mg cn = some (.ref C)
  cls : ∃ nm q N bs bm sn sub ab col dd k0 k1 k2 k3 k5, K.lookup C = some (excClassObj nm q C N bs bm true sn sub ab col dd k0 k1 k2 k3 k5 "ValueError.__new__") ∧ refsVE bm = true
  sa : findIn K (.ref C) "__setattr__" = some (some (.builtin "object.__setattr__"))
  noN : findIn K (.ref C) "house" = some none
  iC : findIn K (.ref C) "__init__" = some (some (.ref fI))
  tC : typeIn K (.ref fI) = some (.type "function")
  kC : keepIn K (.ref C) = true
  exC : subIn K (.ref C) (.type "BaseException") = some true
  tyC : typeIn K (.ref C) = some (.type "type")
  fn : ∃ (oc : Value) (od : Option Addr) (doc pm : Value) (an : Option Addr) (cdv ct : Value) (osl : Array (Option Value)) (p1 p2 q1 q2 q3 q4 : Pos),
    K.lookup fI = some ⟨oc, od, .func (fnOf "__init__" qual (arA p1 p2) (boB q1 q2 q3 q4) scS .none .none doc pm an cdv ct), osl⟩ ∧ codeIn K cdv qual = true
theorem sz1 (v : Value) : [v].length ≤ sizeLine := by rw [sizeLine_eq]; exact (by decide : 1 ≤ 16777216)
theorem ldL {M : Model} {s : Shared} {name : Str} {scope : Scope} {L a : Addr} {cd : Value} {m : Str → Option Value} {x : Str} {pos : Pos} {v : Value} {Q : Value → Shared → Prop} {A : Around} {E : Value → Shared → Prop} (hn : s.heap.Ns L m) (hv : m x = some v) (h : Q v s)
    (hk : scope.kind = .function := by rfl) (hl : (envOfC name scope L a cd).kindOf x = some .local := by rfl) (hd : (x == ("__debug__" : Str)) = false := by decide) :
    wpAny M A (eval (.Name x pos) (envOfC name scope L a cd)) Q E s := wpAny_Name (wpAny_loadName_local hk hl hn hv h) hd
/-- a new error behind its __init__ -/
structure Init1 (h h' : Heap) (x C dx t1 : Addr) (v : Value) : Prop where
  keep : ∀ b o, b ≠ x → h.get? b = some o → h'.get? b = some o
  obj : h'.get? x = some { cls := .ref C, dict := some dx, data := .fields #[.ref t1, .none, .none, .none, .bool false, .none] }
  dbig : h.objs.size ≤ dx
  dne : dx ≠ x
  ns : h'.Ns1 dx (fun y => if y = "house" then some v else none)
/-- an error that is made -/
structure Made1 (h h' : Heap) (e C d : Addr) (v : Value) : Prop where
  keep : ∀ b o, h.get? b = some o → h'.get? b = some o
  new : h.objs.size ≤ e
  obj : ∃ t1 : Addr, h'.get? e = some { cls := .ref C, dict := some d, data := .fields #[.ref t1, .none, .none, .none, .bool false, .none] }
  dbig : h.objs.size ≤ d
  dne : d ≠ e
  ns : h'.Ns1 d (fun y => if y = "house" then some v else none)
section
variable {prog : Program} {w : World} {A : Around} {E : Value → Shared → Prop} {R : Result → Shared → Prop} {s : Shared} {K : Frag} {mg : Str → Option Value} {cn qual : Str} {C fI : Addr}
theorem init1 (T : Txt K mg cn qual C fI) {x t0 : Addr} {v : Value} (X : K.In s.heap) (hlim : s.heap.NoLimit) (hx : s.heap.get? x = some (excO C t0)) (hroom : A.depth < recursionLimit)
    (hq : ∀ h' tk dx, Init1 s.heap h' x C dx t0 v → R (.ok (.ret .none)) { s with heap := h', toks := tk }) :
    codeAny (model prog w) A (.call (.ref fI) ⟨[.ref x, v], []⟩) R s := by
  obtain ⟨oc, od, doc, pm, an, cdv, ct, osl, p1, p2, q1, q2, q3, q4, ho, hcd⟩ := T.fn
  obtain ⟨nm, q, N, bs, bm, sn, sub, ab, col, dd, k0, k1, k2, k3, k5, hC, hbm⟩ := T.cls
  have hcl : clsIn K C = some { name := nm, bases := bs, mro := .ref C :: bm, ns := N, qualname := q, hasDict := true, slotNames := sn, subclasses := sub, abstract := ab, collection := col, hasDel := false } := by unfold clsIn; rw [hC] <;> rfl
  refine Att.call_fn (binds := [("self", .ref x), ("house", v)]) X hlim ho hcd hroom (BindsTo.of_eq (by first | rfl | with_unfolding_all rfl)) (by first | rfl | decide | with_unfolding_all rfl) (fun s₁ IC => ?_) rfl rfl rfl
  obtain ⟨h₁, tk₁, rfl⟩ := IC.toInCall.same
  have k : ∀ b o, s.heap.get? b = some o → h₁.get? b = some o := IC.toInCall.keep
  have hn := IC.toInCall.ns
  have X₁ : K.In h₁ := X.keeps k
  have hx₁ := k _ _ hx
  show wpAny _ _ (execs _ _) _ _ _
  refine wpAny_execs_cons (plainObj_wpAny_Assign_Attribute ?_)
  refine ldL (v := v) hn (by first | rfl | with_unfolding_all rfl | kernel_rfl) (ldL (v := .ref x) hn (by first | rfl | with_unfolding_all rfl | kernel_rfl) ?_)
  refine set_plain X₁ (ox := excO C t0) (od := none) ⟨hx₁, rfl, rfl, trivial⟩ T.sa ?_
  refine exc_osa X₁ hx₁ hcl (show refsVE (.ref C :: bm) = true from hbm) rfl T.noN (fun h₃ tk₃ dx k₃ dn dne hx₃ hn₃ => ?_)
  show wpAny _ _ (execs _ _) _ _ _
  have z : s.heap.objs.size < h₁.objs.size := hn.lt
  exact wpAny_execs_nil (hq h₃ tk₃ dx ⟨fun b o hb e => k₃ b o hb (k b o e), hx₃, Nat.le_of_lt (Nat.lt_of_lt_of_le z dn), dne, hn₃⟩)
theorem made1 (T : Txt K mg cn qual C fI) {v : Value} (X : K.In s.heap) (hlim : s.heap.NoLimit) (hroom : A.depth + 1 < recursionLimit)
    (hq : ∀ h' tk e d, Made1 s.heap h' e C d v → R (.ok (.ret (.ref e))) { s with heap := h', toks := tk }) :
    codeAny (model prog w) A (.call (.ref C) ⟨[v], []⟩) R s := by
  obtain ⟨nm, q, N, bs, bm, sn, sub, ab, col, dd, k0, k1, k2, k3, k5, hC, hbm⟩ := T.cls
  obtain ⟨hp, g, dr, tk, os⟩ := s
  have k : ∀ b o, hp.get? b = some o → ((hp.push (kdv_tup [v])).push (excO C hp.objs.size)).get? b = some o := fun b o e => Heap.get?_push_of_some _ (Heap.get?_push_of_some _ e)
  have hget : ((hp.push (kdv_tup [v])).push (excO C hp.objs.size)).get? (hp.objs.size + 1) = some (excO C hp.objs.size) := by heap_get
  refine call_own F.excBase_ValueError (fun X => refsVE_contains X bm hbm) (X _ _ hC) (looks_findIn X T.iC) (fun self => bind_fn X self T.tC) (sz1 v) ?_
  refine init1 (s := ⟨(hp.push (kdv_tup [v])).push (excO C hp.objs.size), g, dr, tk, os⟩) T (X.keeps k) (hlim.keeps k) hget ?_ fun h' tk' dx ⟨k', hx, dn, dne, hns⟩ => ?_
  · show A.depth + 1 < recursionLimit
    exact hroom
  · have old : ∀ b o, hp.get? b = some o → h'.get? b = some o := fun b o e => k' b o (Nat.ne_of_lt (Nat.lt_succ_of_lt (Heap.lt_size e))) (k b o e)
    have z : hp.objs.size + 1 + 1 ≤ dx := by
      first
        | (simpa only [Heap.size_push] using dn)
        | exact dn
        | (have q := dn; rw [Heap.size_push, Heap.size_push] at q; exact q)
    exact ⟨rfl, hq h' tk' (hp.objs.size + 1) dx ⟨old, Nat.le_succ _, ⟨_, hx⟩, Nat.le_trans (Nat.le_trans (Nat.le_succ _) (Nat.le_succ _)) z, dne, hns⟩⟩
end
end EXhouse
end PySem
namespace L2N
open PySem PySem.Spec PyProof.Rows L2
theorem relOhouse {v : V} {v' : Value} (r : RelV v v') (f : Str) : RelO (List.lookup f [(("house" : Str), v)]) (if f = "house" then some v' else none) := by
  by_cases hw : f = "house"
  · subst hw
    rw [if_pos rfl]
    have q : List.lookup ("house" : Str) [(("house" : Str), v)] = some v := by simp [List.lookup]
    rw [q]; exact r
  · rw [if_neg hw]
    have qw : (f == ("house" : Str)) = false := by simpa using hw
    have q2 : List.lookup f [(("house" : Str), v)] = none := by simp [List.lookup, qw]
    rw [q2]; trivial
section
variable {X : Cx} {C fI : Addr} {cn qual : Str}
theorem pmkhouse {a : Expr} {ta : TA} {p pos : Pos} {k : Nat} (T : PySem.EXhouse.Txt X.K X.mg cn qual C fI) (hr : Room k X.A) (ha : PA X [a] ta) (hg : Gl X cn) (hdb : (cn == ("__debug__" : Str)) = false := by decide)
    (he : starEach (a :: []) X.env = (false, eval a X.env) :: starEach [] X.env := by rfl) (hpl : (backTo pos (starEach [] X.env)).any (·.1) = false := by rfl) :
    PMk X (.Call (.Name cn p) [a] [] pos) (AL.tMk1 C "house" ta) := by
  intro pins s σ H Q I h
  refine wpAny_Call_Name_kw (ld_glob I hg T.gC ?_ hdb)
  refine PySem.W.callWith_K (h₀ := X.base) I.ok.mod.kin T.kC (thn (ha.run pos pins s σ H _ I h) fun us s1 hh => ?_) he hpl
  obtain ⟨vs, H1, I1, r1, v, ev, q1⟩ := hh
  subst ev
  refine ⟨I1.kIn, ?_⟩
  cases r1 with
  | cons rv rn =>
    rename_i v' us'
    cases rn
    show wpAny _ _ (call (.ref C) [v']) _ _ _
    have hlim := I1.nolimit
    obtain ⟨hp, g, dr, tk, os⟩ := s1
    refine wpAny_call (PySem.EXhouse.made1 T I1.kIn hlim (by have := hr.dp; omega) fun h' tk' e d M => ?_)
    show MkP X pins σ Q (.ref e) ⟨h', g, dr, tk', os⟩
    obtain ⟨t1, hoe⟩ := M.obj
    have hns := M.ns
    obtain ⟨G', g1, g2⟩ := restrict h' fun b => decide (b ≠ e)
    have gk : ∀ b, b ≠ e → G'.get? b = h'.get? b := fun b hb => g1 b (decide_eq_true hb)
    have ge : G'.get? e = none := g2 e (by simp)
    have old : ∀ b o, hp.get? b = some o → G'.get? b = some o := fun b o q => (gk b (Nat.ne_of_lt (Nat.lt_of_lt_of_le (Heap.lt_size q) M.new))).trans (M.keep b o q)
    have ob : ObjOk X.prog X.w (upd H1 d (.xd [(("house" : Str), v)])) G' d (.xd [(("house" : Str), v)]) :=
      ⟨_, hns.at (fun o q => (gk d M.dne).trans q), fun f => relOhouse rv f⟩
    have J : Inv X pins σ (upd H1 d (.xd [(("house" : Str), v)])) ⟨G', g, dr, tk', os⟩ := I1.laid (t' := tk') old M.dbig ob
    refine ⟨e, _, _, ⟨G', g, dr, tk', os⟩, _, .ref C, some d, rfl, J, fun b o q => ?_, ge, hoe, ⟨rfl, rfl, fun vs z => by cases z; rfl⟩, rfl, rfl, ?_, rfl, I1.bare, raises_own T.exC T.tyC, q1 d (I1.hok.fresh M.dbig)⟩
    · by_cases hb : b = e
      · have q' : G'.get? b = some o := q
        rw [hb, ge] at q'; cases q'
      · exact (gk b hb).symm.trans q
    · rw [upd_ne (Ne.symm M.dne)]
      exact I1.hok.fresh M.new
end
end L2N

set_option maxHeartbeats 4000000
namespace AL
open PySem PySem.Spec PyProof.Rows L2
/-! ### what leaves a def -/
theorem passN0 {X : Cx} : Passes (L2N.CX X.prog X.w) X E0 := fun _ _ _ _ _ _ _ ⟨_, _, _, _, _, _, _, _, _, _, _, _, z⟩ => z.elim
theorem takesN0 {X : Cx} : L2N.Takes X (fun _ _ _ _ => False) := fun _ _ ⟨_, _, _, _, _, _, _, _, _, _, _, _, _, _, _, _, z⟩ => z.elim
/-- the context is a def's own body, its wish about exceptions is E -/
structure IsDef (X : Cx) (E : XK) : Prop where
  st : X.stack = X.env :: X.outer
  fr : X.env.frame = some X.env.locals
  ex : X.ex = []
  xe : ∃ E₁, X.xe = fun e s' => wpAny (model X.prog X.w) X.A (leaving X.env e) (fun _ s'' => L2N.CX X.prog X.w X.outer X.H_0 X.s_0 E e s'') E₁ s'
theorem isDef {P : Program} {w : World} {K : PySem.W.Frag} {mg : Str → Option Value} {base : Heap} {N : List Str} {qual : Str} {sc : Scope} {f : Addr} {cd : Value} {A : Around} {outer : List Env} {s : Shared} {H : Hp} {E : XK} :
    IsDef (cxOf (L2N.CX P w) P w K mg base N qual sc f cd A outer s H E) E := ⟨rfl, rfl, rfl, _, rfl⟩
theorem IsDef.tk {X : Cx} {E : XK} (d : IsDef X E) : L2N.Takes X (fun cls d _ H => E cls d H) := by
  obtain ⟨a, b, c, E₁, e⟩ := d
  exact L2N.takes_of a b c e
theorem IsDef.own {X : Cx} {E : XK} (d : IsDef X E) : PassesOwn (model X.prog X.w) X.A X.env X.xe := by
  obtain ⟨a, b, c, E₁, e⟩ := d
  exact passes_of e
theorem IsDef.pass {X : Cx} {E : XK} (d : IsDef X E) : Passes (L2N.CX X.prog X.w) X E := L2N.passes_call d.tk fun _ _ _ _ h => h
section
variable {P : Program} {w : World} {K : PySem.W.Frag} {mg : Str → Option Value} {base : Heap}
/-- a def that may raise, by its body -/
theorem okN {x qual : Str} {st : Stmt} {f : Addr} {fd : FuncData} {N ps : List Str} {k : Nat} {sp : Sp} (F : Fun K x qual st f fd) (S : FnScope N ps (defScope st)) (len : ∀ vs H Q E, sp vs H Q E → vs.length = ps.length)
    (hb : ∀ (cdv : Value) (A : Around) (outer : List Env) (s : Shared) (H : Hp) (vs : List V) (Q : VK) (E : XK), Room k (A.deeper (envOfC qual (defScope st) s.heap.objs.size f cdv)) → sp vs H Q E → ∃ t, PSs (cxOf (L2N.CX P w) P w K mg base N qual (defScope st) f cdv A outer s H E) (defBody st) t ∧ t { nx := fun _ H' => Q .non H', rt := Q } (start N vs) H) :
    FnOk P w K mg base (L2N.CX P w) (k + 1) f fd ps sp := by
  obtain ⟨_, _, _, _, _, _, _, _, _, e, l, c⟩ := F.ex
  subst e
  exact fn_of l c S len (hb _)
end
/-- raise C(e), an own error with one field -/
theorem ps_raise1 {X : Cx} {W : WX} {e : Expr} {C : Addr} {f : Str} {ta : TA} {pos : Pos} (hc : X.calm = true) (tk : L2N.Takes X W) (he : L2N.PMk X e (tMk1 C f ta)) : PS X (.Raise (some e) none pos) (tRaise1 C f W ta) := L2N.ps_raise hc tk he
theorem ws_raise1 {c : Ct} {A : AS} {B : EA} {C : Addr} {f : Str} {E : XK} {ta : TA} (hE : ∀ σ, c.E σ = E) (h : WA c ta A fun A1 ds => ∃ d, ds = [d] ∧ c.X A1 C [(f, d)]) : WS c (tRaise1 C f (fun cls d _ H => E cls d H) ta) A B := fun F G m σ H S Eo Dc k =>
  h F G m σ H S Eo _ fun F1 m1 A1 vs H1 ds e1 p1 S1 R1 ⟨d, ed, q⟩ => by
    subst ed
    cases R1 with
    | cons rv rn =>
    rename_i v vs'
    cases rn
    refine ⟨v, rfl, fun dx hdx => ?_⟩
    have ex : Ex F1 (upd F1 dx (.xd [(f, v)])) := ex_upd (S1.h.fresh hdx).1
    have z := Eo.x _ m1 A1 σ _ C dx [(f, v)] [(f, d)] (e1.trans ex) p1 (S1.frz hdx) upd_same (.cons (Rep.mono ex (Pre.refl _) rv) .nil) q
    rw [hE] at z; exact z
/-! ### try: body, except C as e: suite -/
def tTry (K : PySem.W.Frag) (cE : Value) (i : Nat) (ts : Addr → Value → Option Addr → TS) (tb : WX → TS) : TS := fun D σ H => tb (L2.wAs K cE i ts (fun _ _ _ _ => False) D) D σ H
theorem ps_try1 {X : Cx} {x n : Str} {cE : Value} {i : Nat} {body suite : List Stmt} {b₀ : Stmt} {np pos pos' : Pos} {tb : WX → TS} {ts : Addr → Value → Option Addr → TS} (hs : X.stack = X.env :: X.outer) (hf : X.env.frame = some X.env.locals) (hN : X.N.Nodup) (hi : X.N[i]? = some n) (hln : X.env.kindOf n = some .local) (hc : Names X x cE)
    (hb : ∀ (W : WX) (pn : List (Addr × Obj)) (xe : Value → Shared → Prop), L2N.Takes (X.tr pn xe) W → PSs (X.tr pn xe) body (tb W))
    (hsu : ∀ (a : Addr) (oe : Obj) (cls : Value) (d : Option Addr) (pn : List (Addr × Obj)), Zc cls d oe → (∃ vs, oe.data = .fields vs) → PSs (X.suite a ((a, oe) :: pn)) (b₀ :: suite) (ts a cls d)) :
    PS X (.Try body [.ExceptHandler (some (.Name x np)) (some n) (b₀ :: suite) pos'] [] [] pos) (tTry X.K cE i ts tb) := L2N.ps_try_as hs hf hN hi hln hc takesN0 (fun W pn xe tk _ => hb W pn xe tk) fun a oe cls d pn hz hf => hsu a oe cls d pn hz.zc hf
/-- what the body's exception must be good for -/
def Caught (c : Ct) (cE : Value) (i : Nat) (ts : Addr → Value → Option Addr → TS) (B : EA) (A : AS) (C : Addr) (fs : List (Str × D)) : Prop :=
  PySem.W.exmOne c.K (.ref C) cE = some true ∧ ∀ a dx, WS ⟨c.K, fun _ _ _ _ => True, fun _ _ _ => False, some (dx, fs)⟩ (ts a (.ref C) (some dx)) ⟨A.s.set i (some (.val (.cls a))), A.o⟩
    ⟨fun A => B.nx ⟨A.s.set i none, A.o⟩, B.rt, fun A => B.bk ⟨A.s.set i none, A.o⟩, fun A => B.ct ⟨A.s.set i none, A.o⟩⟩
theorem ws_try {c : Ct} {A : AS} {B : EA} {cE : Value} {i : Nat} {ts : Addr → Value → Option Addr → TS} {tb : WX → TS} (h : ∀ W : WX, WS ⟨c.K, L2.WE W, Caught c cE i ts B, none⟩ (tb W) A B) : WS c (tTry c.K cE i ts tb) A B := fun F G m σ H S Eo Dc k => by
  refine h _ F G m σ H S ⟨fun F' m' A' σ' H' C dx fvs fs e p S' fx rf ⟨hm, hsu⟩ => ⟨true, hm, fun _ a na => ?_, fun z => nomatch z⟩, fun _ _ z => nomatch z⟩ Dc ⟨k.nx, k.rt, k.bk, k.ct⟩
  have gone : ∀ {F2 : Hp} {m2 : List Addr} {A2 : AS} {σ2 : L2.St} {H2 : Hp}, Sim c.K F2 G m2 A2 σ2 H2 → Sim c.K F2 G m2 ⟨A2.s.set i none, A2.o⟩ (σ2.set i none) H2 := fun S2 => ⟨S2.h, S2.s.forget⟩
  refine hsu a dx F' G m' (σ'.set i (some (.ref a))) H' ⟨S'.h, ?_⟩ ⟨fun _ _ _ _ _ _ _ _ _ _ _ _ _ _ z => z.elim, fun d2 f2 z => by cases z; exact ⟨fvs, fx, rf⟩⟩ _ ⟨fun F2 m2 A2 σ2 H2 e2 p2 S2 z => ?_, fun F2 m2 O2 v d H2 e2 p2 S2 R z => ?_, fun F2 m2 A2 σ2 H2 e2 p2 S2 z => ?_, fun F2 m2 A2 σ2 H2 e2 p2 S2 z => ?_⟩
  · have s1 := (S'.s.forget (i := i) (x := some (.ref a))).setV (i := i) (v := .ref a) (d := .cls a) (Rep.cls a)
    rw [List.set_set, List.set_set] at s1
    exact s1
  · exact k.nx F2 m2 _ _ H2 (e.trans e2) (p.trans p2) (gone S2) z
  · exact k.rt F2 m2 O2 v d H2 (e.trans e2) (p.trans p2) S2 R z
  · exact k.bk F2 m2 _ _ H2 (e.trans e2) (p.trans p2) (gone S2) z
  · exact k.ct F2 m2 _ _ H2 (e.trans e2) (p.trans p2) (gone S2) z
/-! ### calls whose exception is wished for at the caller's slots -/
section
variable {c : Ct} {A : AS} {Q : QE} {Φ : Contract} {E : L2.St → XK} {t tk : TA} {n m : Nat} {gV : List V → List V → List V}
theorem we_callS {dvs : List V} {dds : List D} (hE : ∀ σ, c.E σ = E σ) (hd : ∀ F m, Reps c.K F m dvs dds) (h : WA c t A fun A1 ds => Φ (ds ++ dds) A1.o (fun O' d => Q ⟨A1.s, O'⟩ (.val d)) (fun O' C fs => c.X ⟨A1.s, O'⟩ C fs)) : WE c (tCallSD (SpA c.K Φ) dvs E t) A Q := fun F G m σ H S Eo Qc k =>
  h F G m σ H S Eo _ fun F1 m1 A1 vs H1 ds e1 p1 S1 R1 q =>
    ⟨F1, callG A1.s σ G H1, m1, A1.o, ds ++ dds, _, _, S1.call, R1.app (hd _ _), q, fun F' m' O' v d H' e p hs r rr => k F' m' ⟨A1.s, O'⟩ v H' (.val d) (e1.trans e) (p1.trans p) (S1.back e p hs) r rr,
      fun F' m' O' C dx fvs fs H' e p hs fx rf xx => by
        have z := Eo.x F' m' ⟨A1.s, O'⟩ σ H' C dx fvs fs (e1.trans e) (p1.trans p) (S1.back e p hs) fx rf xx
        rw [hE] at z; exact z⟩
/-- f(e, .., k = v, ..) -/
def tCallNS (n m : Nat) (sp : Sp) (gV : List V → List V → List V) (E : L2.St → XK) (t tk : TA) : TE := fun σ H Q => t σ H fun vs H1 => tk σ H1 fun zs H2 => vs.length = n ∧ zs.length = m ∧ sp (gV vs zs) H2 Q (E σ)
theorem we_callNS (gD : List D → List D → List D) (hg : ∀ F mm vs zs ds es, Reps c.K F mm vs ds → Reps c.K F mm zs es → Reps c.K F mm (gV vs zs) (gD ds es)) (hE : ∀ σ, c.E σ = E σ)
    (h : WA c t A fun A1 ds => WA c tk A1 fun A2 es => ds.length = n ∧ es.length = m ∧ Φ (gD ds es) A2.o (fun O' d => Q ⟨A2.s, O'⟩ (.val d)) (fun O' C fs => c.X ⟨A2.s, O'⟩ C fs)) : WE c (tCallNS n m (SpA c.K Φ) gV E t tk) A Q := fun F G mm σ H S Eo Qc k =>
  h F G mm σ H S Eo _ fun F1 m1 A1 vs H1 ds e1 p1 S1 R1 q1 => q1 F1 G m1 σ H1 S1 (Eo.mono e1 p1) _ fun F2 m2 A2 zs H2 es e2 p2 S2 R2 ⟨l1, l2, q⟩ =>
    ⟨R1.len.trans l1, R2.len.trans l2, F2, callG A2.s σ G H2, m2, A2.o, gD ds es, _, _, S2.call, hg _ _ _ _ _ _ (R1.mono e2 p2) R2, q, fun F' m' O' v d H' e p hs r rr => k F' m' ⟨A2.s, O'⟩ v H' (.val d) ((e1.trans e2).trans e) ((p1.trans p2).trans p) (S2.back e p hs) r rr,
      fun F' m' O' C dx fvs fs H' e p hs fx rf xx => by
        have z := Eo.x F' m' ⟨A2.s, O'⟩ σ H' C dx fvs fs ((e1.trans e2).trans e) ((p1.trans p2).trans p) (S2.back e p hs) fx rf xx
        rw [hE] at z; exact z⟩
theorem we_callN {E0 : XK} (gD : List D → List D → List D) (hg : ∀ F mm vs zs ds es, Reps c.K F mm vs ds → Reps c.K F mm zs es → Reps c.K F mm (gV vs zs) (gD ds es))
    (h : WA c t A fun A1 ds => WA c tk A1 fun A2 es => ds.length = n ∧ es.length = m ∧ Φ (gD ds es) A2.o (fun O' d => Q ⟨A2.s, O'⟩ (.val d)) (fun _ _ _ => False)) : WE c (tCallN n m (SpA c.K Φ) gV E0 t tk) A Q := fun F G mm σ H S Eo Qc k =>
  h F G mm σ H S Eo _ fun F1 m1 A1 vs H1 ds e1 p1 S1 R1 q1 => q1 F1 G m1 σ H1 S1 (Eo.mono e1 p1) _ fun F2 m2 A2 zs H2 es e2 p2 S2 R2 ⟨l1, l2, q⟩ =>
    ⟨R1.len.trans l1, R2.len.trans l2, F2, callG A2.s σ G H2, m2, A2.o, gD ds es, _, _, S2.call, hg _ _ _ _ _ _ (R1.mono e2 p2) R2, q, fun F' m' O' v d H' e p hs r rr => k F' m' ⟨A2.s, O'⟩ v H' (.val d) ((e1.trans e2).trans e) ((p1.trans p2).trans p) (S2.back e p hs) r rr, fun _ _ _ _ _ _ _ _ _ _ _ _ _ xx => xx.elim⟩
end
section
variable {X : Cx} {CX : CXT} {k n : Nat} {f : Addr} {fd : FuncData} {ps ks : List Str} {sp : Sp} {E : L2.St → XK} {x : Str} {p pos : Pos} {e : Expr} {es : List Expr} {kws : List Keyword} {t tk : TA} {g : List Value → List Value → List Value} {gV : List V → List V → List V}
theorem pe_callNS (G : FnOk X.prog X.w X.K X.mg X.base CX k f fd ps sp) (hr : Room k X.A) (hg : Gl X x) (hm : X.mg x = some (.ref f)) (hk : PySem.W.keepIn X.K (.ref f) = true) (hb : KBn X.K fd ps n ks g gV) (hx : ∀ σ, PassesAt CX X σ (E σ)) (ha : PA X (e :: es) t) (hkw : PK X kws tk)
    (h1 : (backToKw pos (keywordEach kws X.env)).all (·.1.isSome) = true := by rfl) (h2 : (backToKw pos (keywordEach kws X.env)).filterMap (·.1) = ks := by rfl) (h3 : (x == ("__debug__" : Str)) = false := by decide) (h4 : starEach (e :: es) X.env = (false, eval e X.env) :: starEach es X.env := by rfl)
    (h5 : ((backTo pos (starEach (e :: es) X.env)).any (·.1) || (backToKw pos (keywordEach kws X.env)).any (·.1.isNone)) = false := by rfl) : PE X (.Call (.Name x p) (e :: es) kws pos) (tCallNS n ks.length sp gV E t tk) :=
  ⟨fun pins s σ H Q I h => wpAny_Call_Name_kw (ld_glob I hg hm (PySem.W.callWith_KW (h₀ := X.base) I.ok.mod.kin hk h1 (thn (ha.run pos pins s σ H _ I h) fun us s1 ⟨vs, H1, I1, r, q⟩ => thn (hkw.run pos pins s1 σ H1 _ I1 q) fun ws s2 ⟨zs, H2, I2, rz, l1, l2, q2⟩ => ⟨I2.kIn, by
    rw [h2]
    refine wpAny_call (codeAny_mono (G.run X.A X.stack s2 H2 ⟨us, ks.zip ws⟩ _ _ Q (E σ) hr I2.env0 (hb.to s2 us ws I2.kIn (r.length.symm.trans l1) (rz.length.symm.trans l2)) (hb.rel r rz) q2) fun y s' hq => ?_)
    match y, hq with
    | .error z, hq => exact hx σ pins H2 s2 z s' I2 hq
    | .ok (.ret u), hq => exact I2.after hq⟩) h5 h4) h3)⟩
end
/-! ### defs called where nothing shows itself (no repr is under way) -/
structure FnG (P : Program) (w : World) (K : PySem.W.Frag) (mg : Str → Option Value) (base : Heap) (CX : CXT) (k : Nat) (f : Addr) (fd : FuncData) (ps : List Str) (sp : Sp) : Prop where
  len : ∀ vs H Q E, sp vs H Q E → vs.length = ps.length
  go : ∀ (A : Around) (outer : List Env) (s : Shared) (H : Hp) (args : Args) (us : List Value) (vs : List V) (Q : VK) (E : XK), Room k A → A.guards = some [] → Env0 P w K mg base A outer s H → BindsTo s fd args (ps.zip us) → Vals vs us → sp vs H Q E → codeAny (model P w) A (.call (.ref f) args) (CR CX outer P w H s Q E) s
theorem FnG.mono {P : Program} {w : World} {K : PySem.W.Frag} {mg : Str → Option Value} {base : Heap} {CX : CXT} {j k : Nat} {f : Addr} {fd : FuncData} {ps : List Str} {sp : Sp} (F : FnG P w K mg base CX j f fd ps sp) (h : j ≤ k) : FnG P w K mg base CX k f fd ps sp := ⟨F.len, fun A outer s H args us vs Q E hr => F.go A outer s H args us vs Q E (hr.mono h)⟩
section
variable {P : Program} {w : World} {K : PySem.W.Frag} {mg : Str → Option Value} {base : Heap}
theorem okG {x qual : Str} {st : Stmt} {f : Addr} {fd : FuncData} {N ps : List Str} {k : Nat} {sp : Sp} (F : Fun K x qual st f fd) (S : FnScope N ps (defScope st)) (len : ∀ vs H Q E, sp vs H Q E → vs.length = ps.length)
    (hb : ∀ (cdv : Value) (A : Around) (outer : List Env) (s : Shared) (H : Hp) (vs : List V) (Q : VK) (E : XK), Room k (A.deeper (envOfC qual (defScope st) s.heap.objs.size f cdv)) → A.guards = some [] → sp vs H Q E → ∃ t, PSs (cxOf CX0 P w K mg base N qual (defScope st) f cdv A outer s H E).nox (defBody st) t ∧ t { nx := fun _ H' => Q .non H', rt := Q } (start N vs) H) :
    FnG P w K mg base CX0 (k + 1) f fd ps sp := by
  obtain ⟨_, _, _, _, _, _, cdv, _, _, e, lk, hcd⟩ := F.ex
  subst e
  refine ⟨len, fun A outer s H args us vs Q E hr hg e0 ba r hsp => ?_⟩
  have kX : K.In s.heap := e0.mod.kin.keeps fun b o z => (e0.bs b o z).1
  obtain ⟨t, ht, hq⟩ := hb cdv A outer s H vs Q E (hr.deeper _) hg hsp
  refine codeAny_call_function hr.depth (kX _ _ lk) rfl S.co S.gen rfl (PySem.W.codeRec_of kX hcd) (ba _ _ _ _ (wpAny_newFunctionEnv_cells S.kind (fun yv hy => (S.par yv.1 (List.of_mem_zip (show (yv.1, yv.2) ∈ _ from hy)).1).imp id fun q => ⟨q, PySem.W.cellsFrom_some _ _ _ (.inl q)⟩) fun env he s1 z => ?_))
  subst he
  refine ⟨(e0.mod.nolimit.keeps fun b o z => (e0.bs b o z).1).keeps z.toInCall.keep, codeAny_func (wpAny_mono (ht.nox.run [] s1 (start N vs) H _ (inv_start S hr.hd e0 (len _ _ _ _ hsp) r z) hq) (fun fl s' y => ?_) fun _ _ y => y)⟩
  match fl, y with
  | .ret u, ⟨v, _, H', J, rv, q⟩ => exact ⟨v, H', J.os, J.bare, J.base, J.hok, rv, q⟩
  | .next, ⟨_, H', J, q⟩ => exact ⟨.non, H', J.os, J.bare, J.base, J.hok, rfl, q⟩
  | .brk, ⟨_, _, _, q⟩ => exact q.elim
  | .cont, ⟨_, _, _, q⟩ => exact q.elim
end
theorem pe_callG {X : Cx} {CX : CXT} {k : Nat} {f : Addr} {fd : FuncData} {ps : List Str} {sp : Sp} {E : XK} {x : Str} {p pos : Pos} {e : Expr} {es : List Expr} {t : TA} (G : FnG X.prog X.w X.K X.mg X.base CX k f fd ps sp) (hr : Room k X.A) (hd : X.A.guards = some []) (hg : Gl X x) (hm : X.mg x = some (.ref f)) (hk : PySem.W.keepIn X.K (.ref f) = true) (hb : Binds X.K fd ps []) (hx : Passes CX X E) (ha : PA X (e :: es) t)
    (h3 : (x == ("__debug__" : Str)) = false := by decide) (h4 : starEach (e :: es) X.env = (false, eval e X.env) :: starEach es X.env := by rfl) (h5 : (backTo pos (starEach es X.env)).any (·.1) = false := by rfl) : PE X (.Call (.Name x p) (e :: es) [] pos) (tCall sp [] E t) :=
  ⟨fun pins s σ H Q I h => wpAny_Call_Name_kw (ld_glob I hg hm (PySem.W.callWith_K (h₀ := X.base) I.ok.mod.kin hk (thn (ha.run pos pins s σ H _ I h) fun us s1 ⟨vs, H1, I1, r, q⟩ => ⟨I1.kIn, by
    have q : sp vs H1 Q E := by simpa using q
    have bl := hb s1 us I1.kIn (by rw [List.append_nil, ← r.length]; exact G.len _ _ _ _ q)
    rw [List.append_nil] at bl
    refine wpAny_call (codeAny_mono (G.go X.A X.stack s1 H1 ⟨us, []⟩ us vs Q E hr hd I1.env0 bl r q) fun y s' hq => ?_)
    match y, hq with
    | .error z, hq => exact hx pins σ H1 s1 z s' I1 hq
    | .ok (.ret u), hq => exact I1.after hq⟩) h4 h5) h3)⟩
/-! ### in an except suite -/
/-- what an own error's class must say -/
structure ExC (K : PySem.W.Frag) (D : Addr) : Prop where
  cl : (PySem.W.clsIn K D).isSome = true
  ga : PySem.W.findIn K (.ref D) "__getattribute__" = some (some (.builtin "BaseException.__getattribute__"))
  gg : PySem.W.findIn K (.ref D) "__getattr__" = some none
  su : PySem.W.subIn K (.ref D) (.type "BaseException") = some true
  ca : PySem.W.findIn K (.ref D) "__class__" = some (some (.builtin "object.__class__"))
  cg : PySem.W.specialIn K (.builtin "object.__class__") "__get__" = some (some (.builtin "getset_descriptor.__get__"))
  tk : PySem.W.takesIn K (.builtin "object.__class__") = some true
  mo : PySem.W.mroIn K D (.type "object") = some true
  hd : PySem.W.hasDictIn K D = true
/-- isinstance(e, c), e the exception that the suite holds -/
def rIsX (K : PySem.W.Frag) (a : Addr) (cls : Value) (d : Option Addr) : List V → Hp → VK → Prop := fun xs H Q => ∃ (D dd : Addr) (fs : List (Str × V)) (z : V) (b : Bool), cls = .ref D ∧ d = some dd ∧ ExC K D ∧ H dd = some (.xd fs) ∧ xs = [.ref a, z] ∧
  ((∃ cv : Value, (∀ u, RelV z u → u = cv) ∧ PySem.W.kitOne K (.ref D) cv = some b) ∨ (∃ (tp : Addr) (vs : List V), z = .ref tp ∧ PTup K H tp vs ∧ ∀ us, Vals vs us → PySem.W.kitAny K (.ref D) us = some b)) ∧ Q (.bl b) H
theorem call_isX {X : Cx} {a : Addr} {oe : Obj} {cls : Value} {d : Option Addr} {pn : List (Addr × Obj)} (hz : Zc cls d oe) (hf : ∃ vs, oe.data = .fields vs) : CallR (X.suite a ((a, oe) :: pn)) (.builtin "isinstance") (rIsX X.K a cls d) := by
  intro pins s σ H xs us Q I r h
  obtain ⟨D, dd, fs, z, b, rfl, rfl, C, hx, rfl, e, q⟩ := h
  match us, r with
  | [_, u], .cons rx (.cons rt .nil) =>
    cases rx
    have hget := (I.pin (a, oe) (List.mem_append.mpr (.inl List.mem_cons_self))).1
    obtain ⟨vs, hv⟩ := hf
    obtain ⟨mA, hns, _⟩ : ObjOk X.prog X.w H s.heap dd (.xd fs) := I.hok dd _ hx
    obtain ⟨od, ho, _⟩ := lookIn_ns hns
    have J : PySem.W.InstAt s.heap a oe D (some od) := ⟨hget, hz.1, by unfold PySem.W.notCls; rw [hv] <;> rfl, by rw [hz.2]; exact ho⟩
    have kx := PySem.W.kitx_exc (x := a) (ox := oe) (od := some od) C.cl C.ga C.gg C.su C.ca C.cg C.tk C.mo
    rcases e with ⟨cv, hcv, e⟩ | ⟨tp, vs, rfl, ht, e⟩
    · have eu := hcv _ rt
      subst eu
      exact PySem.W.kia_one kx I.kIn J e (fun y => nomatch y) fun tk => ⟨.bl b, H, I.kept (t' := tk) fun _ _ y => y, rfl, q⟩
    · cases rt
      rcases ht with ⟨its, ht⟩ | ⟨its, n, sl, lk, _, rv⟩
      case inr =>
        obtain ⟨its⟩ := its
        exact PySem.W.kia_tup kx I.kIn J (I.kIn _ _ lk) (e its rv) (fun y => nomatch y) fun tk => ⟨.bl b, H, I.kept (t' := tk) fun _ _ y => y, rfl, q⟩
      obtain ⟨go, _, us, rv, ob, eo, _, n, ed⟩ := I.hok tp _ ht
      have eb : tupObj its = ob := Option.some.inj (go.symm.trans eo)
      subst eb
      have ed' : Data.seq its.toArray = Data.seq us.toArray n := ed
      cases ed'
      exact PySem.W.kia_tup kx I.kIn J (n := 0) (sl := #[]) go (e its rv) (fun y => nomatch y) fun tk => ⟨.bl b, H, I.kept (t' := tk) fun _ _ y => y, rfl, q⟩
theorem reps_cls {K : PySem.W.Frag} {F : Hp} {m : List Addr} : ∀ {Cs : List Addr} {vs : List V}, Reps K F m vs (Cs.map .cls) → vs = Cs.map .ref
  | [], _, .nil => rfl
  | _ :: _, _, .cons (.cls _) r => by rw [reps_cls r]; rfl
theorem vals_refs : ∀ {Cs : List Addr} {us : List Value}, Vals (Cs.map V.ref) us → us = Cs.map .ref
  | [], _, .nil => rfl
  | C :: Cs, _, .cons r rr => by
    have e : _ = Value.ref C := r
    rw [e, vals_refs rr]; rfl
section
variable {c : Ct} {A : AS} {Q : QE} {a C dd : Addr} {fs : List (Str × D)} {b : Bool}
theorem cb_isC {C2 : Addr} (hv : c.hv = some (dd, fs)) (x : ExC c.K C) (h : PySem.W.kitOne c.K (.ref C) (.ref C2) = some b) (q : Q A (.val (.bl b))) : CbD c (rIsX c.K a (.ref C) (some dd)) [.val (.cls a), .val (.cls C2)] A Q := fun F G m σ H vs S E R Qc k => by
  obtain ⟨v, w, rfl, R1, R2⟩ := rs2 R
  cases R1; cases R2
  obtain ⟨fvs, z1, z2⟩ := E.h dd fs hv
  exact ⟨C, dd, fvs, _, b, rfl, rfl, x, S.h.exF _ _ z1, rfl, .inl ⟨.ref C2, fun u y => y, h⟩, k F m A _ H (.val (.bl b)) (Evl.Ex.refl F) (Pre.refl m) S (Rep.bl b) q⟩
theorem cb_isT {n : String} (hv : c.hv = some (dd, fs)) (x : ExC c.K C) (h : PySem.W.kitOne c.K (.ref C) (.type n) = some b) (q : Q A (.val (.bl b))) : CbD c (rIsX c.K a (.ref C) (some dd)) [.val (.cls a), .val (.ty n)] A Q := fun F G m σ H vs S E R Qc k => by
  obtain ⟨v, w, rfl, R1, R2⟩ := rs2 R
  cases R1; cases R2
  obtain ⟨fvs, z1, z2⟩ := E.h dd fs hv
  exact ⟨C, dd, fvs, _, b, rfl, rfl, x, S.h.exF _ _ z1, rfl, .inl ⟨.type n, fun u y => y, h⟩, k F m A _ H (.val (.bl b)) (Evl.Ex.refl F) (Pre.refl m) S (Rep.bl b) q⟩
theorem cb_isS (Cs : List Addr) (hv : c.hv = some (dd, fs)) (x : ExC c.K C) (h : PySem.W.kitAny c.K (.ref C) (Cs.map .ref) = some b) (q : Q A (.val (.bl b))) : CbD c (rIsX c.K a (.ref C) (some dd)) [.val (.cls a), .val (.tup (Cs.map .cls))] A Q := fun F G m σ H vs S E R Qc k => by
  obtain ⟨v, w, rfl, R1, R2⟩ := rs2 R
  cases R1
  cases R2 with
  | tup pt rv =>
    have ev := reps_cls rv
    subst ev
    obtain ⟨fvs, z1, z2⟩ := E.h dd fs hv
    exact ⟨C, dd, fvs, _, b, rfl, rfl, x, S.h.exF _ _ z1, rfl, .inr ⟨_, _, rfl, pt.mono S.h.exF, fun us y => by rw [vals_refs y]; exact h⟩, k F m A _ H (.val (.bl b)) (Evl.Ex.refl F) (Pre.refl m) S (Rep.bl b) q⟩
/-- e.f -/
theorem we_xf {f : Str} {d : D} {i : Nat} (hi : A.s[i]? = some (some (.val (.cls a)))) (hv : c.hv = some (dd, fs)) (hl : fs.lookup f = some d) (q : Q A (.val d)) : WE c (tXf a (.ref C) (some dd) C f (tVar i)) A Q := fun F G m σ H S E Qc k => by
  obtain ⟨v, e, r⟩ := S.s.valAt hi
  cases r
  obtain ⟨fvs, z1, z2⟩ := E.h dd fs hv
  obtain ⟨v, l, r⟩ := z2.look hl
  exact ⟨_, e, rfl, rfl, dd, fvs, v, rfl, S.h.exF _ _ z1, l, k F m A v H (.val d) (Evl.Ex.refl F) (Pre.refl m) S r q⟩
end
/-! ### repr -/
/-- what is shown as it stands, without end -/
def Shows (p : PyData) : Prop := p.showable = true ∧ p.hasDict = false ∧ p.depth ≤ 50 ∧ p.shown.length ≤ sizeLine ∧ match p with
  | .int a => a.natAbs.log2 < 1920
  | _ => True
def rRepr (K : PySem.W.Frag) : List V → Hp → VK → Prop := fun xs H Q => ∃ (v : V) (p : PyData), xs = [v] ∧ Dp K H v p ∧ Shows p ∧ Q (.str p.shown) H
theorem call_repr {X : Cx} (hg : X.A.guards = some []) (hu : X.A.units + 64 < cLine) : CallR X (.builtin "repr") (rRepr X.K) := by
  intro pins s σ H xs us Q I r h
  obtain ⟨v, p, rfl, dp, ⟨h1, h2, h3, h4, h5⟩, q⟩ := h
  match us, r with
  | [u], .cons rx .nil =>
    cases dp with
    | non => cases rx; exact PySem.P.repr_of_none ⟨.str _, H, I.tok _, ⟨_, rfl⟩, q⟩
    | bl b => cases rx; exact PySem.P.repr_of_bool ⟨.str _, H, I.tok _, ⟨_, rfl⟩, by cases b <;> exact q⟩
    | int i =>
      obtain ⟨t, rfl⟩ := rx
      exact PySem.P.repr_of_int h5 ⟨.str _, H, I.tok _, ⟨_, rfl⟩, q⟩
    | str x =>
      obtain ⟨t, rfl⟩ := rx
      exact PySem.P.repr_of_str ⟨.str _, H, I.tok _, ⟨_, rfl⟩, q⟩ h4
    | lst a b =>
      obtain ⟨as, rd⟩ := Dp.reads I _ _ _ (.lst a b) rx
      cases rx
      exact PySem.repr_of_reads' rd h1 (fun y => by rw [h2] at y; cases y) hg (by omega) (fun _ _ y => y) (fun h' tk tk2 k => ⟨.str _, H, I.kept (h' := h') (t' := tk2) k, ⟨_, rfl⟩, q⟩) h4
    | tup a b =>
      obtain ⟨as, rd⟩ := Dp.reads I _ _ _ (.tup a b) rx
      cases rx
      exact PySem.repr_of_reads' rd h1 (fun y => by rw [h2] at y; cases y) hg (by omega) (fun _ _ y => y) (fun h' tk tk2 k => ⟨.str _, H, I.kept (h' := h') (t' := tk2) k, ⟨_, rfl⟩, q⟩) h4
theorem cb_repr {c : Ct} {A : AS} {Q : QE} {d : D} {p : PyData} (hp : Py d p) (hs : Shows p) (q : Q A (.val (.str p.shown))) : CbD c (rRepr c.K) [.val d] A Q := fun F G m σ H vs S E R Qc k => by
  obtain ⟨v, rfl, R1⟩ := rs1 R
  exact ⟨v, p, rfl, Py.dp S.h.exF hp R1, hs, k F m A _ H (.val (.str p.shown)) (Evl.Ex.refl F) (Pre.refl m) S (Rep.str _) q⟩
/-! ### the law's own call -/
section
variable {P : Program} {w : World} {K : PySem.W.Frag} {mg mb : Str → Option Value} {k : Nat} {fa a : Addr} {fd : FuncData} {x : Str} {sp : Sp} {z : Shared} {us : List Value} {ns : List Int}
/-- the wished end of the law's call -/
def EndG (z : Shared) (r : Result) (z' : Shared) : Prop := r = .ok (.ret (.bool true)) ∧ OldK z.heap z'.heap ∧ z'.os = z.os ∧ AllBare z'.gens
theorem coreG (KX : K.In z.heap) (hns : z.heap.Ns mainGlobals mg) (hb : z.heap.Ns builtinsNs mb) (hbb : ∀ y : Str, y ≠ "__name__" → mb y = bootBuiltins y) (hlim : z.heap.NoLimit) (hg : z.gens = #[]) (ha : z.heap.get? a = some { cls := .type "list", data := .seq us.toArray }) (hr : Room k callerA)
    (F : ∀ base : Heap, K.In base → base.Ns mainGlobals mg → FnG P w K mg base CX0 k fa fd [x] sp) (hbind : ∀ (s : Shared) (u : Value), BindsTo s fd ⟨[u], []⟩ [(x, u)]) {H : Hp} (hO : Only H) (hsp : sp [.ref a] H (fun v _ => v = .bl true) fun _ _ _ => False) (ok : HOk P w H z.heap)
    (hA : ∀ b, H b ≠ none → b = a) (hK : H a ≠ none → K.lookup a = none) : codeAny (model P w) callerA (.call (.ref fa) ⟨[.ref a], []⟩) (EndG z) z := by
  have ofN : ∀ {b : Addr}, (b = a → H b = none) → H b = none := fun {b} f => by
    by_cases y : H b = none
    · exact y
    · exact f (hA b y)
  have nsB : ∀ {b : Addr} {m : Str → Option Value}, z.heap.Ns b m → (hidT z.heap H).Ns b m := fun {b m} ⟨o, es, ep, e1, e2, e3⟩ => ⟨o, es, ep, hidT_get e1 (ofN fun y => by
    subst y
    rw [ha] at e1
    cases e1
    cases (show Data.seq us.toArray _ = Data.dict es ep from e2)), e2, e3⟩
  have kB : K.In (hidT z.heap H) := fun b o e => hidT_get (KX b o e) (ofN fun y => by
    subst y
    by_cases y : H b = none
    · exact y
    · rw [hK y] at e; cases e)
  obtain ⟨mc, l1, l2⟩ := hlim
  have env : Env0 P w K mg (hidT z.heap H) callerA [] z H := ⟨rfl, ⟨kB, nsB hns, ⟨mb, nsB hb, hbb⟩, ⟨mc, nsB l1, l2⟩⟩, fun b o e => of_hidT e, Nat.le_of_eq (hidT_size _ _), trivial, fun b y => absurd (show b ∈ ([] : List Addr) from y) (List.not_mem_nil), ok, AllBare.of_eq hg⟩
  refine codeAny_mono ((F _ kB (nsB hns)).go callerA [] z H ⟨[.ref a], []⟩ [.ref a] [.ref a] _ _ hr rfl env (hbind z (.ref a)) (.cons rfl .nil) hsp) fun r z' y => ?_
  match r, y with
  | .ok (.ret u), ⟨v, H', os, bare, un, ok', rv, q⟩ =>
    obtain rfl : v = .bl true := q
    obtain rfl : u = Value.bool true := rv
    refine ⟨rfl, OldK.of_keep fun b o e => ?_, os, bare⟩
    rcases hO b with y | ⟨ob, xs, y⟩
    · exact un.keep b o e y (fun y => absurd (show b ∈ ([] : List Addr) from y) (List.not_mem_nil)) (by simp)
    · have e1 := (ok b _ y).1
      have e2 := (ok' b _ (un.frzs b ob _ y)).1
      rw [e] at e1
      cases e1
      exact e2
theorem law_callG (KX : K.In z.heap) (hns : z.heap.Ns mainGlobals mg) (hb : z.heap.Ns builtinsNs mb) (hbb : ∀ y : Str, y ≠ "__name__" → mb y = bootBuiltins y) (hlim : z.heap.NoLimit) (hg : z.gens = #[]) (ha : z.heap.get? a = some { cls := .type "list", data := .seq us.toArray }) (hi : IntsAre us ns) (hl : ns.length ≤ sizeLine) (hr : Room k callerA)
    (F : ∀ base : Heap, K.In base → base.Ns mainGlobals mg → FnG P w K mg base CX0 k fa fd [x] sp) (hbind : ∀ (s : Shared) (u : Value), BindsTo s fd ⟨[u], []⟩ [(x, u)]) (hsp : ∀ H : Hp, Only H → SqL K H a (ns.map V.int) → sp [.ref a] H (fun v _ => v = .bl true) fun _ _ _ => False) :
    codeAny (model P w) callerA (.call (.ref fa) ⟨[.ref a], []⟩) (EndG z) z := by
  have rv := vals_ints hi
  cases e : K.lookup a with
  | some o =>
    have e2 := KX a o e
    rw [ha] at e2
    cases e2
    have hO : Only (fun _ => none) := fun _ => .inl rfl
    exact coreG KX hns hb hbb hlim hg ha hr F hbind hO (hsp _ hO (.inr ⟨_, us.toArray, _, e, rfl, rfl, rfl, by rw [List.size_toArray, hi.length]; exact hl, by simpa using rv⟩)) (fun b u y => by cases (show (none : Option HO) = some u from y)) (fun b y => absurd rfl y) fun y => absurd rfl y
  | none =>
    let L : HO := .frz { cls := .type "list", data := .seq us.toArray } (.lst (ns.map V.int))
    have at_ : ∀ b u, upd (fun _ => none) a L b = some u → b = a ∧ u = L := fun b u y => by
      by_cases q : b = a
      · subst q; rw [upd_same] at y; cases y; exact ⟨rfl, rfl⟩
      · rw [upd_ne q] at y; cases (show (none : Option HO) = some u from y)
    have hO : Only (upd (fun _ => none) a L) := fun b => by
      cases q : upd (fun _ => none) a L b with
      | none => exact .inl rfl
      | some u => exact .inr ⟨_, _, by rw [(at_ b u q).2]⟩
    refine coreG KX hns hb hbb hlim hg ha hr F hbind hO (hsp _ hO (.inl (.inr ⟨_, upd_same⟩))) (fun b u y => ?_) (fun b y => ?_) fun _ => e
    · obtain ⟨y1, y2⟩ := at_ b u y
      subst y1; subst y2
      exact ⟨ha, by rw [List.length_map]; exact hl, us, _, rv, ha⟩
    · cases q : upd (fun _ => none) a L b with
      | none => exact absurd q y
      | some u => exact (at_ b u q).1
end
theorem walk_ofG {l : PySem.W.OpenLaw} {n k : Nat} {q : Program} {loose : List Str} {XP : (Str → Option Value) → Heap → Prop} {YP : World → Heap → Prop} {d : DefRec} {K : Params → PySem.W.Frag} {sp : World → Sp} {x : Str} (hn : l.most = some n) (hn2 : n ≤ sizeLine) (hdf : d.params.defaults = []) (hr : Room k callerA)
    (hY : ∀ (w : World) (h : Heap), YP w h → (K w.params).In h)
    (F : ∀ (w : World) (mg : Str → Option Value) (fa : Addr) (h : Heap), (K w.params).In h → h.Ns mainGlobals mg → mg d.name = some (.ref fa) → ∃ fd : FuncData, (∀ (s : Shared) (u : Value), BindsTo s fd ⟨[u], []⟩ [(x, u)]) ∧ ∀ base : Heap, (K w.params).In base → base.Ns mainGlobals mg → FnG l.prog w (K w.params) mg base CX0 k fa fd [x] (sp w))
    (hsp : ∀ (w : World) (H : Hp) (a : Addr) (ns : List Int), ns.length ≤ n → Only H → SqL (K w.params) H a (ns.map V.int) → sp w [.ref a] H (fun v _ => v = .bl true) fun _ _ _ => False) : PySem.W.WalkO q loose XP YP l.row.toRowW d [] (fun f vs => PySem.call f vs) := by
  refine Att.attach_call hn hdf fun w s₀ s₁ mg mb fa o pm cd doc a vs ns G Y ho hd hcd hmg hobj hints hlen hg => ?_
  obtain ⟨fd, hb, hF⟩ := F w mg fa _ (hY w _ Y) G.T.g hmg
  exact law_callG (hY w _ Y) G.T.g G.T.b G.T.builtins G.T.nolimit hg hobj hints (Nat.le_trans hlen hn2) hr hF hb fun H hO hS => hsp w H a ns hlen hO hS
theorem call_reprK {X : Cx} {K : PySem.W.Frag} (hK : X.K = K) (hg : X.A.guards = some []) (hu : X.A.units + 64 < cLine) : CallR X (.builtin "repr") (rRepr K) := hK ▸ call_repr hg hu
theorem call_isXK {X : Cx} {K : PySem.W.Frag} {a : Addr} {oe : Obj} {cls : Value} {d : Option Addr} {pn : List (Addr × Obj)} (hK : X.K = K) (hz : Zc cls d oe) (hf : ∃ vs, oe.data = .fields vs) : CallR (X.suite a ((a, oe) :: pn)) (.builtin "isinstance") (rIsX K a cls d) := hK ▸ call_isX hz hf
theorem ps_try1K {X : Cx} {K : PySem.W.Frag} {x n : Str} {cE : Value} {i : Nat} {body suite : List Stmt} {b₀ : Stmt} {np pos pos' : Pos} {tb : WX → TS} {ts : Addr → Value → Option Addr → TS} (hK : X.K = K) (hs : X.stack = X.env :: X.outer) (hf : X.env.frame = some X.env.locals) (hN : X.N.Nodup) (hi : X.N[i]? = some n) (hln : X.env.kindOf n = some .local) (hc : Names X x cE)
    (hb : ∀ (W : WX) (pn : List (Addr × Obj)) (xe : Value → Shared → Prop), L2N.Takes (X.tr pn xe) W → PSs (X.tr pn xe) body (tb W))
    (hsu : ∀ (a : Addr) (oe : Obj) (cls : Value) (d : Option Addr) (pn : List (Addr × Obj)), Zc cls d oe → (∃ vs, oe.data = .fields vs) → PSs (X.suite a ((a, oe) :: pn)) (b₀ :: suite) (ts a cls d)) :
    PS X (.Try body [.ExceptHandler (some (.Name x np)) (some n) (b₀ :: suite) pos'] [] [] pos) (tTry K cE i ts tb) := hK ▸ ps_try1 hs hf hN hi hln hc hb hsu
theorem we_callX0 {c : Ct} {A : AS} {Q : QE} {Φ : Contract} {E : XK} {t : TA} (hE : ∀ σ, c.E σ = E) (h : WA c t A fun A1 ds => Φ ds A1.o (fun O' d => Q ⟨A1.s, O'⟩ (.val d)) (fun O' C fs => c.X ⟨A1.s, O'⟩ C fs)) : WE c (tCall (SpA c.K Φ) [] E t) A Q :=
  we_callX (dds := []) hE (fun _ _ => .nil) (by simpa using h)
theorem we_callS0 {c : Ct} {A : AS} {Q : QE} {Φ : Contract} {E : L2.St → XK} {t : TA} (hE : ∀ σ, c.E σ = E σ) (h : WA c t A fun A1 ds => Φ ds A1.o (fun O' d => Q ⟨A1.s, O'⟩ (.val d)) (fun O' C fs => c.X ⟨A1.s, O'⟩ C fs)) : WE c (tCallSD (SpA c.K Φ) [] E t) A Q :=
  we_callS (dds := []) hE (fun _ _ => .nil) (by simpa using h)
end AL

set_option maxHeartbeats 4000000
namespace AL
open PySem PySem.Spec PyProof.Rows L2
/-! ### an own list that is given back, and taken -/
mutual
inductive Plain : D → Prop where
  | non : Plain .non
  | bl (b : Bool) : Plain (.bl b)
  | int (i : Int) : Plain (.int i)
  | str (x : Str) : Plain (.str x)
  | tup {ds : List D} : Plains ds → Plain (.tup ds)
inductive Plains : List D → Prop where
  | nil : Plains []
  | cons {d : D} {ds : List D} : Plain d → Plains ds → Plains (d :: ds)
end
theorem plains_map {α : Type} {f : α → D} (h : ∀ a, Plain (f a)) : ∀ xs : List α, Plains (xs.map f)
  | [] => .nil
  | x :: xs => .cons (h x) (plains_map h xs)
section
variable {K : PySem.W.Frag} {F : Hp} {m m' : List Addr}
mutual
theorem Plain.any : ∀ {d : D} {v : V}, Plain d → Rep K F m v d → Rep K F m' v d
  | _, _, .non, .non => .non
  | _, _, .bl b, .bl _ => .bl b
  | _, _, .int i, .int _ => .int i
  | _, _, .str x, .str _ => .str x
  | _, _, .tup h, .tup a r => .tup a (Plains.any h r)
theorem Plains.any : ∀ {d : List D} {v : List V}, Plains d → Reps K F m v d → Reps K F m' v d
  | _, _, .nil, .nil => .nil
  | _, _, .cons h t, .cons a r => .cons (Plain.any h a) (Plains.any t r)
end
end
def AllGone (O : List Cell) : Prop := ∀ c ∈ O, c = Cell.gone
theorem allGone_rep (j : Nat) : AllGone (List.replicate j .gone) := fun _ h => List.eq_of_mem_replicate h
theorem AllGone.noLst {O : List Cell} (h : AllGone O) : NoLstO O := fun c hc => by rw [h c hc]; exact .gone
section
variable {c : Ct} {A : AS}
theorem wn_takeOwn {i : Nat} {ds : List D} {Q : AS → List D → Prop} (h : A.s[i]? = some (some (.own (.lst ds)))) (q : Q ⟨A.s.set i none, A.o⟩ ds) : WN c (tVar i) A Q := fun F G m σ H S E Qc k => by
  obtain ⟨a, e, _, f, g, mm, vs, hv, rv⟩ := S.s.ownAt h
  refine ⟨.ref a, e, k F m ⟨A.s.set i none, A.o⟩ a vs H ds (Evl.Ex.refl F) (Pre.refl m) ⟨S.h, S.s.forget1 i⟩ f g mm (fun ⟨j, c', z1, z2⟩ => ?_) hv rv q⟩
  by_cases y : i = j
  · subst y
    have z1 : (A.s.set i none)[i]? = some (some (.own c')) := z1
    rw [List.getElem?_set_self (List.getElem?_eq_some_iff.mp h).1] at z1
    cases z1
  · have z1 : (A.s.set i none)[j]? = some (some (.own c')) := z1
    rw [List.getElem?_set_ne y] at z1
    exact S.s.own i j _ _ _ y h z1 e z2
theorem last_one {m m' : List Addr} {n : Nat} (p : Pre m m') (l : m.length = n) (l' : m'.length = n + 1) : ∃ a, m' = m ++ [a] := by
  have hn : n < m'.length := by omega
  refine ⟨m'[n], List.ext_getElem? fun i => ?_⟩
  by_cases z : i < m.length
  · rw [List.getElem?_append_left z, List.getElem?_eq_getElem z]
    exact p i _ (List.getElem?_eq_getElem z)
  · rw [List.getElem?_append_right (by omega)]
    by_cases y : i = n
    · subst y
      rw [l, Nat.sub_self, List.getElem?_eq_getElem hn]; rfl
    · rw [List.getElem?_eq_none (by omega), List.getElem?_eq_none (by simp; omega)]
theorem HS.cutG {K : PySem.W.Frag} {F G H : Hp} {m : List Addr} {O : List Cell} {x : Cell} {a : Addr} (h : HS K F G (m ++ [a]) (O ++ [x]) H) (g : AllGone O) : HS K F G m O H := by
  have l : m.length = O.length := by have := h.len; simp at this; exact this
  have up : ∀ (n : Nat) b, m[n]? = some b → (m ++ [a])[n]? = some b := fun n b e => by rw [List.getElem?_append_left (List.getElem?_eq_some_iff.mp e).1]; exact e
  refine ⟨h.exF, h.exG, h.dj, l, fun n b c e1 e2 lv => ?_, fun n n' b e1 e2 => h.inj n n' b (up _ _ e1) (up _ _ e2), fun n b e => h.here n b (up _ _ e), fun n b e => h.mG n b (up _ _ e), fun n b e1 e2 => h.gn n b (up _ _ e1) ?_⟩
  · have z := g c (List.mem_of_getElem? e2)
    subst z
    exact lv.elim
  · rw [List.getElem?_append_left (by have := (List.getElem?_eq_some_iff.mp e1).1; omega)]; exact e2
/-- what a call gives back, a new list at the end of the cells, becomes the name's own -/
theorem wn_call {Φ : Contract} {E : XK} {t : TA} {Q : AS → List D → Prop} (h : WA c t A fun A1 ds => AllGone A1.o ∧ Φ ds A1.o (fun O' d => ∃ es, O' = A1.o ++ [.lst es] ∧ d = .ptr A1.o.length ∧ Plains es ∧ Q A1 es) (fun _ _ _ => False)) : WN c (tCall (SpA c.K Φ) [] E t) A Q := fun F G m σ H S Eo Qc k =>
  h F G m σ H S Eo _ fun F1 m1 A1 vs H1 ds e1 p1 S1 R1 ⟨hg, q⟩ =>
    ⟨F1, callG A1.s σ G H1, m1, A1.o, ds, _, _, S1.call, by rw [List.append_nil]; exact R1, q, fun F' m' O' v d H' e p hs r ⟨es, eO, ed, pl, qq⟩ => by
      subst eO; subst ed
      obtain ⟨a, rfl⟩ := last_one p S1.h.len (by have := hs.len; rw [List.length_append] at this; exact this)
      have ea : (m1 ++ [a])[A1.o.length]? = some a := by rw [← S1.h.len, List.getElem?_append_right (Nat.le_refl _), Nat.sub_self]; rfl
      cases r with
      | ptr r =>
        rw [ea] at r
        cases r
        obtain ⟨f, cg, ws, hv, rw_⟩ := hs.cell _ a (.lst es) ea (by rw [List.getElem?_append_right (Nat.le_refl _), Nat.sub_self]; rfl) trivial
        have no : ¬ IsOwn A1.s σ a := fun z => by
          obtain ⟨_, _, _, u, hu⟩ := S1.s.isOwn z
          rw [callG_own z, hu] at cg; cases cg
        refine k F' m1 A1 a ws H' es (e1.trans e) p1 (S1.back e (Pre.refl _) (hs.cutG hg)) f (by rw [callG_not no] at cg; exact cg) (fun n z => ?_) no hv (pl.any rw_) qq
        have y := hs.inj n A1.o.length a (by rw [List.getElem?_append_left (List.getElem?_eq_some_iff.mp z).1]; exact z) ea
        have := (List.getElem?_eq_some_iff.mp z).1
        rw [S1.h.len] at this; omega, fun _ _ _ _ _ _ _ _ _ _ _ _ _ xx => xx.elim⟩
end
end AL

set_option maxHeartbeats 4000000
namespace AL
open PySem PySem.Spec PyProof.Rows L2
/-! ### a def that is handed the exception which the suite holds -/
theorem _root_.L2H.RoomH.units {k : Nat} {A : Around} (r : L2H.RoomH k A) : A.units + 64 < cLine := by have := r.un; omega
abbrev SpX := Addr → Value → Option Addr → Sp
structure FnE (P : Program) (w : World) (K : PySem.W.Frag) (mg : Str → Option Value) (base : Heap) (k : Nat) (f : Addr) (fd : FuncData) (y : Str) (sp : SpX) : Prop where
  go : ∀ (A : Around) (outer : List Env) (s : Shared) (H : Hp) (args : Args) (us : List Value) (Q : VK) (E : XK) (p : Addr × Obj) (cls : Value) (d : Option Addr), L2H.RoomH k A → A.guards = some [] → L2H.Hot1 A p → L2H.PinOk outer H s p → Zc cls d p.2 → (∃ vs, p.2.data = .fields vs) →
    Env0 P w K mg base A outer s H → BindsTo s fd args ([y].zip us) → Vals [.ref p.1] us → sp p.1 cls d [.ref p.1] H Q E → codeAny (model P w) A (.call (.ref f) args) (CR CX0 outer P w H s Q E) s
theorem FnE.mono {P : Program} {w : World} {K : PySem.W.Frag} {mg : Str → Option Value} {base : Heap} {j k : Nat} {f : Addr} {fd : FuncData} {y : Str} {sp : SpX} (F : FnE P w K mg base j f fd y sp) (h : j ≤ k) : FnE P w K mg base k f fd y sp := ⟨fun A outer s H args us Q E p cls d hr => F.go A outer s H args us Q E p cls d (hr.mono h)⟩
section
variable {P : Program} {w : World} {K : PySem.W.Frag} {mg : Str → Option Value} {base : Heap}
theorem okEx {x qual : Str} {st : Stmt} {f : Addr} {fd : FuncData} {N : List Str} {y : Str} {k : Nat} {sp : SpX} (F : Fun K x qual st f fd) (S : FnScope N [y] (defScope st))
    (hb : ∀ (cdv : Value) (A : Around) (outer : List Env) (s : Shared) (H : Hp) (Q : VK) (E : XK) (p : Addr × Obj) (cls : Value) (d : Option Addr), Zc cls d p.2 → (∃ vs, p.2.data = .fields vs) → A.guards = some [] → L2H.RoomH k (A.deeper (envOfC qual (defScope st) s.heap.objs.size f cdv)) → sp p.1 cls d [.ref p.1] H Q E →
      ∃ t, PSs (L2H.cxH CX0 P w K mg base N qual (defScope st) f cdv A outer s H E p) (defBody st) t ∧ t { nx := fun _ H' => Q .non H', rt := Q } (start N [.ref p.1]) H) :
    FnE P w K mg base (k + 1) f fd y sp := by
  obtain ⟨_, _, _, _, _, _, cdv, _, _, e, lk, hcd⟩ := F.ex
  subst e
  refine ⟨fun A outer s H args us Q E p cls d hr hg hot hpin hz hf e0 ba r hsp => ?_⟩
  have kX : K.In s.heap := e0.mod.kin.keeps fun b o z => (e0.bs b o z).1
  have lim : s.heap.NoLimit := e0.mod.nolimit.keeps fun b o e => (e0.bs b o e).1
  have hkind : ∀ z ∈ [y].zip us, (defScope st).names.lookup z.1 = some .local ∨ ((defScope st).names.lookup z.1 = some .cell ∧ ((cellsFrom (s.heap.objs.size + 1) (defScope st).names []).lookup z.1).isSome = true) := fun ⟨n, v⟩ hy => by
    rcases S.par n (List.of_mem_zip hy).1 with q | q
    · exact .inl q
    · exact .inr ⟨q, PySem.W.cellsFrom_some _ _ _ (.inl q)⟩
  refine codeAny_call_function hr.depth (kX _ _ lk) rfl S.co S.gen rfl (PySem.W.codeRec_of kX hcd) (ba _ _ _ _ ?_)
  refine wpAny_newFunctionEnv_cells S.kind hkind fun env he s1 x => ?_
  subst he
  refine ⟨lim.keeps x.toInCall.keep, codeAny_func ?_⟩
  obtain ⟨t, ht, hq⟩ := hb cdv A outer s H Q E p cls d hz hf hg (hr.deeper _) hsp
  have I : Inv (L2H.cxH CX0 P w K mg base N qual (defScope st) f cdv A outer s H E p) [] (L2.start N [.ref p.1]) H s1 := L2H.inv_startH S hpin e0 rfl r x
  refine wpAny_mono (ht.run [] s1 (L2.start N [.ref p.1]) H _ I hq) (fun fl s' hs => ?_) fun e s' hs => hs
  match fl, hs with
  | .ret u, ⟨v, _, H', J, rv, q⟩ => exact ⟨v, H', J.os, J.bare, J.base, J.hok, rv, q⟩
  | .next, ⟨_, H', J, q⟩ => exact ⟨.non, H', J.os, J.bare, J.base, J.hok, rfl, q⟩
  | .brk, ⟨_, _, _, q⟩ => exact q.elim
  | .cont, ⟨_, _, _, q⟩ => exact q.elim
end
/-- f(e), e the exception -/
def tCallE (sp : SpX) (a : Addr) (cls : Value) (d : Option Addr) (ta : TA) : TE := fun σ H Q => ta σ H fun vs H1 => vs = [.ref a] ∧ sp a cls d [.ref a] H1 Q (fun _ _ _ => False)
theorem pe_callE {X : Cx} {k : Nat} {f : Addr} {fd : FuncData} {y : Str} {sp : SpX} {x : Str} {p pos : Pos} {e : Expr} {t : TA} {a : Addr} {oe : Obj} {cls : Value} {d : Option Addr} {pn : List (Addr × Obj)}
    (G : FnE X.prog X.w X.K X.mg X.base k f fd y sp) (hr : L2H.RoomH k X.A) (hd : X.A.guards = some []) (hz : L2N.Zn cls d oe) (hf : ∃ vs, oe.data = .fields vs) (hg : Gl (X.suite a ((a, oe) :: pn)) x) (hm : X.mg x = some (.ref f)) (hk : PySem.W.keepIn X.K (.ref f) = true) (hb : Binds X.K fd [y] [])
    (ha : PA (X.suite a ((a, oe) :: pn)) [e] t)
    (h3 : (x == ("__debug__" : Str)) = false := by decide) (h4 : starEach [e] X.env = (false, eval e X.env) :: starEach [] X.env := by rfl) (h5 : (backTo pos (starEach [] X.env)).any (·.1) = false := by rfl) : PE (X.suite a ((a, oe) :: pn)) (.Call (.Name x p) [e] [] pos) (tCallE sp a cls d t) := by
  have hot : L2H.Hot1 (X.suite a ((a, oe) :: pn)).A (a, oe) := ⟨rfl, by obtain ⟨vs, hv⟩ := hf; exact ⟨vs, hv, hz.2.2 vs hv⟩⟩
  refine ⟨fun pins s σ H Q I h => wpAny_Call_Name_kw (ld_glob I hg hm (PySem.W.callWith_K (h₀ := X.base) I.ok.mod.kin hk (thn (ha.run pos pins s σ H _ I h) fun us s1 ⟨vs, H1, I1, r, ev, q⟩ => ⟨I1.kIn, ?_⟩) h4 h5) h3)⟩
  · subst ev
    have hl : us.length = 1 := r.length.symm
    have bl := hb s1 us I1.kIn (by rw [List.append_nil]; exact hl)
    rw [List.append_nil] at bl
    have P1 := I1.pin (a, oe) (List.mem_append_left _ List.mem_cons_self)
    have hpin : L2H.PinOk X.stack H1 s1 (a, oe) := ⟨P1.1, P1.2.1, fun hm => (List.mem_cons.mp (I1.stkSub a hm)).elim P1.2.2.1 P1.2.2.2.1, P1.2.2.2.2⟩
    refine wpAny_call (codeAny_mono (G.go _ X.stack s1 H1 ⟨us, []⟩ us Q (fun _ _ _ => False) (a, oe) cls d ⟨hr.dp, hr.un⟩ hd hot hpin hz.zc hf I1.env0 bl r q) fun y s' hq => ?_)
    match y, hq with
    | .error z, hq => exact (show False from hq).elim
    | .ok (.ret u), hq => exact I1.after hq
/-- its promise in the abstract: C the exception's class, fs its fields -/
def SpE (K : PySem.W.Frag) (Φ : Addr → List (Str × D) → List Cell → (List Cell → D → Prop) → Prop) : SpX := fun a cls d vs H Q E => ∃ (F G : Hp) (m : List Addr) (O : List Cell) (R : List Cell → D → Prop) (C dx : Addr) (fvs : List (Str × V)) (fs : List (Str × D)),
  vs = [.ref a] ∧ cls = .ref C ∧ d = some dx ∧ HS K F G m O H ∧ F dx = some (.xd fvs) ∧ RepF K F m fvs fs ∧ Φ C fs O R ∧ ∀ F' m' O' v e H', Ex F F' → Pre m m' → HS K F' G m' O' H' → Rep K F' m' v e → R O' e → Q v H'
theorem we_callE {c : Ct} {A : AS} {Q : QE} {a C dd : Addr} {fs : List (Str × D)} {i : Nat} {Φ : Addr → List (Str × D) → List Cell → (List Cell → D → Prop) → Prop} (hi : A.s[i]? = some (some (.val (.cls a)))) (hv : c.hv = some (dd, fs)) (h : Φ C fs A.o fun O' d => Q ⟨A.s, O'⟩ (.val d)) : WE c (tCallE (SpE c.K Φ) a (.ref C) (some dd) (tCons (tVar i) tNil)) A Q := fun F G m σ H S E Qc k => by
  obtain ⟨v, e, r⟩ := S.s.valAt hi
  cases r
  obtain ⟨fvs, z1, z2⟩ := E.h dd fs hv
  exact ⟨_, e, rfl, F, callG A.s σ G H, m, A.o, _, C, dd, fvs, fs, rfl, rfl, rfl, S.call, z1, z2, h, fun F' m' O' v d H' e p hs rr q => k F' m' ⟨A.s, O'⟩ v H' (.val d) e p (S.back e p hs) rr q⟩
theorem SpE.cls {K : PySem.W.Frag} {Φ : Addr → List (Str × D) → List Cell → (List Cell → D → Prop) → Prop} {a : Addr} {cls : Value} {d : Option Addr} {vs : List V} {H : Hp} {Q : VK} {E : XK} (h : SpE K Φ a cls d vs H Q E) : ∃ C dx : Addr, cls = .ref C ∧ d = some dx := by
  obtain ⟨F, G, m, O, R, C, dx, fvs, fs, -, h1, h2, -⟩ := h
  exact ⟨C, dx, h1, h2⟩
/-- its body -/
theorem run_bodyE {K : PySem.W.Frag} {Φ : Addr → List (Str × D) → List Cell → (List Cell → D → Prop) → Prop} {t : TS} {N : List Str} {a C dx : Addr} {H : Hp} {Q : VK} {E : XK} (h : SpE K Φ a (.ref C) (some dx) [.ref a] H Q E)
    (hb : ∀ fs O R (c : Ct), K = c.K → c.hv = some (dx, fs) → Φ C fs O R → WS c t ⟨entry N.length [.cls a], O⟩ ⟨fun A => R A.o .non, R, fun _ => False, fun _ => False⟩) : t { nx := fun _ H' => Q .non H', rt := Q } (L2.start N [.ref a]) H := by
  obtain ⟨F, G, m, O, R, C', dx', fvs, fs, -, e1, e2, hs, hx, rf, p, q⟩ := h
  cases e1; cases e2
  exact hb fs O R ⟨K, fun _ _ _ _ => True, fun _ _ _ => False, some (dx, fs)⟩ rfl rfl p F G m (L2.start N [.ref a]) H ⟨hs, entry_ok (.cons (.cls a) .nil)⟩ ⟨fun _ _ _ _ _ _ _ _ _ _ _ _ _ _ z => z.elim, fun d2 f2 z => by cases z; exact ⟨fvs, hx, rf⟩⟩ _ ⟨fun F' m' A' σ' H' e p S z => q F' m' A'.o .non .non H' e p S.h .non z, fun F' m' O' v d H' e p S R z => q F' m' O' v d H' e p S R z, fun _ _ _ _ _ _ _ _ z => z.elim, fun _ _ _ _ _ _ _ _ z => z.elim⟩
theorem call_isP {X : Cx} {a : Addr} {oe : Obj} {cls : Value} {d : Option Addr} (hp : (a, oe) ∈ X.pn) (hz : Zc cls d oe) (hf : ∃ vs, oe.data = .fields vs) : CallR X (.builtin "isinstance") (rIsX X.K a cls d) := by
  intro pins s σ H xs us Q I r h
  obtain ⟨D, dd, fs, z, b, rfl, rfl, C, hx, rfl, e, q⟩ := h
  match us, r with
  | [_, u], .cons rx (.cons rt .nil) =>
    cases rx
    have hget := (I.pin (a, oe) (List.mem_append_left _ hp)).1
    obtain ⟨vs, hv⟩ := hf
    obtain ⟨mA, hns, _⟩ : ObjOk X.prog X.w H s.heap dd (.xd fs) := I.hok dd _ hx
    obtain ⟨od, ho, _⟩ := lookIn_ns hns
    have J : PySem.W.InstAt s.heap a oe D (some od) := ⟨hget, hz.1, by unfold PySem.W.notCls; rw [hv] <;> rfl, by rw [hz.2]; exact ho⟩
    have kx := PySem.W.kitx_exc (x := a) (ox := oe) (od := some od) C.cl C.ga C.gg C.su C.ca C.cg C.tk C.mo
    rcases e with ⟨cv, hcv, e⟩ | ⟨tp, vs, rfl, ht, e⟩
    · have eu := hcv _ rt
      subst eu
      exact PySem.W.kia_one kx I.kIn J e (fun y => nomatch y) fun tk => ⟨.bl b, H, I.kept (t' := tk) fun _ _ y => y, rfl, q⟩
    · cases rt
      rcases ht with ⟨its, ht⟩ | ⟨its, n, sl, lk, _, rv⟩
      case inr =>
        obtain ⟨its⟩ := its
        exact PySem.W.kia_tup kx I.kIn J (I.kIn _ _ lk) (e its rv) (fun y => nomatch y) fun tk => ⟨.bl b, H, I.kept (t' := tk) fun _ _ y => y, rfl, q⟩
      obtain ⟨go, _, us, rv, ob, eo, _, n, ed⟩ := I.hok tp _ ht
      have eb : tupObj its = ob := Option.some.inj (go.symm.trans eo)
      subst eb
      have ed' : Data.seq its.toArray = Data.seq us.toArray n := ed
      cases ed'
      exact PySem.W.kia_tup kx I.kIn J (n := 0) (sl := #[]) go (e its rv) (fun y => nomatch y) fun tk => ⟨.bl b, H, I.kept (t' := tk) fun _ _ y => y, rfl, q⟩
theorem pe_xfP {X : Cx} {a C : Addr} {oe : Obj} {cls : Value} {d : Option Addr} {e : Expr} {te : TE} {pos : Pos} {n : Str} (hp : (a, oe) ∈ X.pn) (T : XfC X.K C) (hno : PySem.W.findIn X.K (.ref C) n = some none)
    (hz : Zc cls d oe) (hf : ∃ vs, oe.data = .fields vs) (he : PE X e te) (hb : attributeBase e n X.env (eval e X.env) = eval e X.env := by rfl) : PE X (.Attribute e n pos) (tXf a cls d C n te) := by
  refine ⟨fun pins s σ H Q I h => ?_⟩
  refine attr_of hb (thn (he.run pins s σ H _ I h) fun u s1 hh => ?_)
  obtain ⟨x, H1, I1, rx, ex, ec, dd, fs, v, ed, ea, l, q⟩ := hh
  subst ex
  obtain rfl : u = Value.ref a := rx
  subst ec
  subst ed
  obtain ⟨ha, _⟩ := I1.pin (a, oe) (List.mem_append_left _ hp)
  obtain ⟨vs, hd⟩ := hf
  have hx : ObjOk X.prog X.w H1 s1.heap dd (.xd fs) := I1.hok dd _ ea
  obtain ⟨mA, hns, hr⟩ := hx
  obtain ⟨od, ho, hl⟩ := lookIn_ns hns
  obtain ⟨u, hu, ru⟩ := RelO.some_of (v := v) (o := mA n) (by rw [← l]; exact hr n)
  have J : PySem.W.InstAt s1.heap a oe C (some od) := ⟨ha, hz.1, by unfold PySem.W.notCls; rw [hd] <;> rfl, by rw [hz.2]; exact ho⟩
  exact HandSPX.exc_get I1.kIn J T.ga T.gg T.exC (PySem.W.findObj_own T.hdC hno rfl (by rw [hl, hu])) (handed_of ru) ⟨v, H1, I1.tok _, ru, q⟩
theorem call_isPK {X : Cx} {K : PySem.W.Frag} {a : Addr} {oe : Obj} {cls : Value} {d : Option Addr} (hK : X.K = K) (hp : (a, oe) ∈ X.pn) (hz : Zc cls d oe) (hf : ∃ vs, oe.data = .fields vs) : CallR X (.builtin "isinstance") (rIsX K a cls d) := hK ▸ call_isP hp hz hf
/-- a try whose suite knows that the context is None -/
theorem ps_try1N {X : Cx} {K : PySem.W.Frag} {x n : Str} {cE : Value} {i : Nat} {body suite : List Stmt} {b₀ : Stmt} {np pos pos' : Pos} {tb : WX → TS} {ts : Addr → Value → Option Addr → TS} (hK : X.K = K) (hs : X.stack = X.env :: X.outer) (hf : X.env.frame = some X.env.locals) (hN : X.N.Nodup) (hi : X.N[i]? = some n) (hln : X.env.kindOf n = some .local) (hc : Names X x cE)
    (hb : ∀ (W : WX) (pn : List (Addr × Obj)) (xe : Value → Shared → Prop), L2N.Takes (X.tr pn xe) W → PSs (X.tr pn xe) body (tb W))
    (hsu : ∀ (a : Addr) (oe : Obj) (cls : Value) (d : Option Addr) (pn : List (Addr × Obj)), L2N.Zn cls d oe → (∃ vs, oe.data = .fields vs) → PSs (X.suite a ((a, oe) :: pn)) (b₀ :: suite) (ts a cls d)) :
    PS X (.Try body [.ExceptHandler (some (.Name x np)) (some n) (b₀ :: suite) pos'] [] [] pos) (tTry K cE i ts tb) := hK ▸ L2N.ps_try_as hs hf hN hi hln hc takesN0 (fun W pn xe tk _ => hb W pn xe tk) fun a oe cls d pn hz hf => hsu a oe cls d pn hz hf
end AL

set_option maxHeartbeats 4000000
namespace AL
open PySem PySem.Spec PyProof.Rows L2
/-! ### methods and makings within a try -/
section
variable {X : Cx} {CX : CXT} {k n : Nat} {f C : Addr} {fd : FuncData} {ps ks : List Str} {sp : Sp} {dvs : List V} {ds : List Value} {E : L2.St → XK} {x m : Str} {p pos apos : Pos} {e o : Expr} {es : List Expr} {ta : TE} {t : TA}
def tMethS (C : Addr) (m : Str) (sp : Sp) (E : L2.St → XK) (ta : TE) (t : TA) : TE := fun σ H Q => ta σ H fun x H1 => ∃ a dx fs, x = .ref a ∧ H1 a = some (.ins C dx fs) ∧ fs.lookup m = none ∧ t σ H1 fun vs H2 => sp (x :: vs) H2 Q (E σ)
theorem pe_methS {pl : Sem Bool} (he : PE X o ta) (c : Cls X.K C) (hm : Meth X.K C m f) (F : FnOk X.prog X.w X.K X.mg X.base CX k f fd ps sp) (hr : Room k X.A) (hb : Binds X.K fd ps []) (hx : ∀ σ, PassesAt CX X σ (E σ)) (ha : PA X (e :: es) t)
    (hst : starEach (e :: es) X.env = (false, eval e X.env) :: starEach es X.env := by rfl) (hpl : (backTo pos (starEach es X.env)).any (·.1) = false := by rfl)
    (ht : eval (.Call (.Attribute o m apos) (e :: es) [] pos) X.env = (do
      let ov ← eval o X.env
      standAt apos.atName
      let (f, first) ← holding [ov] (getMethod ov m pl)
      callWith pos f first (backTo pos (starEach (e :: es) X.env)) (backToKw pos (keywordEach [] X.env))) := by rfl) :
    PE X (.Call (.Attribute o m apos) (e :: es) [] pos) (tMethS C m sp E ta t) := by
  refine ⟨fun pins s σ H Q I h => ?_⟩
  refine PySem.W.methodCall_KW (pl := pl) (thn (he.run pins s σ H _ I h) fun u s1 ⟨x, H1, I1, rx, a, dx, fs, ex, ea, l, q⟩ => ?_) ht
  subst ex
  obtain rfl : u = Value.ref a := rx
  refine getmeth_ok I1 ea c hm l ?_
  refine PySem.W.callWith_K (first := [.ref a]) (h₀ := X.base) I.ok.mod.kin hm.kp (thn (ha.run pos pins s1 σ H1 _ I1 q) fun us s2 ⟨vs, H2, I2, r, q2⟩ => ⟨I2.kIn, ?_⟩) hst hpl
  exact run_fnS (us := .ref a :: us) (vs := .ref a :: vs) F hr hb (hx σ) I2 (.cons rfl r) q2
theorem pe_meth0S {pl : Sem Bool} (he : PE X o ta) (c : Cls X.K C) (hm : Meth X.K C m f) (F : FnOk X.prog X.w X.K X.mg X.base CX k f fd ps sp) (hr : Room k X.A) (hb : Binds X.K fd ps []) (hx : ∀ σ, PassesAt CX X σ (E σ))
    (ht : eval (.Call (.Attribute o m apos) [] [] pos) X.env = (do
      let ov ← eval o X.env
      standAt apos.atName
      let (f, first) ← holding [ov] (getMethod ov m pl)
      callWith pos f first (backTo pos (starEach [] X.env)) (backToKw pos (keywordEach [] X.env))) := by rfl) :
    PE X (.Call (.Attribute o m apos) [] [] pos) (tMethS C m sp E ta tNil) := by
  refine ⟨fun pins s σ H Q I h => ?_⟩
  refine PySem.W.methodCall_KW (pl := pl) (thn (he.run pins s σ H _ I h) fun u s1 ⟨x, H1, I1, rx, a, dx, fs, ex, ea, l, q⟩ => ?_) ht
  subst ex
  obtain rfl : u = Value.ref a := rx
  refine getmeth_ok I1 ea c hm l ?_
  exact PySem.W.callWith_K0 (first := [.ref a]) I1.kIn hm.kp (run_fnS (us := [.ref a]) (vs := [.ref a]) F hr hb (hx σ) I1 (.cons rfl .nil) q)
theorem run_makeS {pins : List (Addr × Obj)} {σ : L2.St} {H : Hp} {s : Shared} {Q : VK} {us : List Value} {vs : List V} (M : Mk X.K C f) (F : FnOk X.prog X.w X.K X.mg X.base CX k f fd ps sp) (hr : Room (k + 1) X.A) (hb : Binds X.K fd ps ds) (hd : Vals dvs ds)
    (hx : PassesAt CX X σ (E σ)) (I : Inv X pins σ H s) (r : Vals vs us)
    (h : ∀ x dx, H x = none → H dx = none → dx ≠ x → sp (.ref x :: (vs ++ dvs)) (upd (upd H dx (.own x)) x (.ins C dx [])) (fun v H2 => v = .non ∧ Q (.ref x) H2) (E σ)) :
    wpAny (model X.prog X.w) X.A (call (.ref C) us) (EP X pins σ Q) X.xe s := by
  have hq := h (s.heap.objs.size + 1) s.heap.objs.size (I.hok.fresh (Nat.le_succ _)) (I.hok.fresh (Nat.le_refl _)) (Nat.ne_of_lt (Nat.lt_succ_self _))
  have I2 := Inv.made (C := C) I
  have r2 : Vals (V.ref (s.heap.objs.size + 1) :: (vs ++ dvs)) (Value.ref (s.heap.objs.size + 1) :: (us ++ ds)) := .cons rfl (r.append hd)
  have hl : (Value.ref (s.heap.objs.size + 1) :: us ++ ds).length = ps.length := by
    have e := r2.length
    rw [F.len _ _ _ _ hq] at e
    exact e.symm
  refine wpAny_call (make_map (f := f) I.kIn M.makes M.init (beq_iff_eq.mp M.fn) (codeAny_mono (F.run _ X.stack _ _ ⟨Value.ref (s.heap.objs.size + 1) :: us, []⟩ (Value.ref (s.heap.objs.size + 1) :: (us ++ ds)) _ _ (E σ) (hr.make C us [])
    (I2.env0.make C us []) (hb _ (Value.ref (s.heap.objs.size + 1) :: us) I2.kIn hl) r2 hq) fun r s' hq' => ?_))
  cases r with
  | error e => exact hx pins _ _ e s' I2 hq'
  | ok fl =>
    cases fl with
    | ret u =>
      obtain ⟨v, H', I3, rv, ev, q3⟩ := I2.after hq'
      subst ev
      exact ⟨rv, ⟨V.ref (s.heap.objs.size + 1), H', I3, rfl, q3⟩⟩
    | next => exact False.elim hq'
    | brk => exact False.elim hq'
    | cont => exact False.elim hq'
def tMakeS (C : Addr) (sp : Sp) (dvs : List V) (E : L2.St → XK) (t : TA) : TE := fun σ H Q => t σ H fun vs H1 => ∀ x dx, H1 x = none → H1 dx = none → dx ≠ x →
  sp (.ref x :: (vs ++ dvs)) (upd (upd H1 dx (.own x)) x (.ins C dx [])) (fun v H2 => v = .non ∧ Q (.ref x) H2) (E σ)
theorem pe_makeS (M : Mk X.K C f) (F : FnOk X.prog X.w X.K X.mg X.base CX k f fd ps sp) (hr : Room (k + 1) X.A) (hg : Gl X x) (hm : X.mg x = some (.ref C)) (hb : Binds X.K fd ps ds) (hd : Vals dvs ds) (hx : ∀ σ, PassesAt CX X σ (E σ))
    (ha : PA X (e :: es) t) (hdb : (x == ("__debug__" : Str)) = false := by decide) (he : starEach (e :: es) X.env = (false, eval e X.env) :: starEach es X.env := by rfl) (hpl : (backTo pos (starEach es X.env)).any (·.1) = false := by rfl) :
    PE X (.Call (.Name x p) (e :: es) [] pos) (tMakeS C sp dvs E t) := by
  refine ⟨fun pins s σ H Q I h => ?_⟩
  refine wpAny_Call_Name_kw (ld_glob I hg hm ?_ hdb)
  refine PySem.W.callWith_K (h₀ := X.base) I.ok.mod.kin M.kp (thn (ha.run pos pins s σ H _ I h) fun us s1 ⟨vs, H1, I1, r, q⟩ => ⟨I1.kIn, ?_⟩) he hpl
  exact run_makeS M F hr hb hd (hx σ) I1 r q
def tMakeKS (C : Addr) (n m : Nat) (sp : Sp) (gV : List V → List V → List V) (E : L2.St → XK) (t tk : TA) : TE := fun σ H Q => t σ H fun vs H1 => tk σ H1 fun zs H2 => vs.length = n ∧ zs.length = m ∧ ∀ x dx, H2 x = none → H2 dx = none → dx ≠ x →
  sp (gV (.ref x :: vs) zs) (upd (upd H2 dx (.own x)) x (.ins C dx [])) (fun v H3 => v = .non ∧ Q (.ref x) H3) (E σ)
end
section
variable {X : Cx} {CX : CXT} {k n : Nat} {f C : Addr} {fd : FuncData} {ps ks : List Str} {sp : Sp} {E : L2.St → XK} {x : Str} {p pos : Pos} {e : Expr} {es : List Expr} {kws : List Keyword} {t tk : TA} {g : List Value → List Value → List Value} {gV : List V → List V → List V}
theorem run_makeKS {pins : List (Addr × Obj)} {σ : L2.St} {H : Hp} {s : Shared} {Q : VK} {us ws : List Value} {vs zs : List V} (M : Mk X.K C f) (F : FnOk X.prog X.w X.K X.mg X.base CX k f fd ps sp) (hr : Room (k + 1) X.A) (hb : KBn X.K fd ps (n + 1) ks g gV) (hx : PassesAt CX X σ (E σ))
    (I : Inv X pins σ H s) (r : Vals vs us) (rz : Vals zs ws) (l1 : vs.length = n) (l2 : zs.length = ks.length)
    (h : ∀ x dx, H x = none → H dx = none → dx ≠ x → sp (gV (.ref x :: vs) zs) (upd (upd H dx (.own x)) x (.ins C dx [])) (fun v H2 => v = .non ∧ Q (.ref x) H2) (E σ)) :
    wpAny (model X.prog X.w) X.A (call (.ref C) us (ks.zip ws)) (EP X pins σ Q) X.xe s := by
  have hq := h (s.heap.objs.size + 1) s.heap.objs.size (I.hok.fresh (Nat.le_succ _)) (I.hok.fresh (Nat.le_refl _)) (Nat.ne_of_lt (Nat.lt_succ_self _))
  have I2 := Inv.made (C := C) I
  have r1 : Vals (V.ref (s.heap.objs.size + 1) :: vs) (Value.ref (s.heap.objs.size + 1) :: us) := .cons rfl r
  have r2 := hb.rel r1 rz
  have n1 : (Value.ref (s.heap.objs.size + 1) :: us).length = n + 1 := by
    rw [List.length_cons, ← r.length, l1]
  refine wpAny_call (make_map (f := f) I.kIn M.makes M.init (beq_iff_eq.mp M.fn) (codeAny_mono (F.run _ X.stack _ _ ⟨Value.ref (s.heap.objs.size + 1) :: us, ks.zip ws⟩ (g (Value.ref (s.heap.objs.size + 1) :: us) ws) _ _ (E σ) (hr.make C us (ks.zip ws))
    (I2.env0.make C us (ks.zip ws)) (hb.to _ (Value.ref (s.heap.objs.size + 1) :: us) ws I2.kIn n1 (rz.length.symm.trans l2)) r2 hq) fun r s' hq' => ?_))
  cases r with
  | error e => exact hx pins _ _ e s' I2 hq'
  | ok fl =>
    cases fl with
    | ret u =>
      obtain ⟨v, H', I3, rv, ev, q3⟩ := I2.after hq'
      subst ev
      exact ⟨rv, ⟨V.ref (s.heap.objs.size + 1), H', I3, rfl, q3⟩⟩
    | next => exact False.elim hq'
    | brk => exact False.elim hq'
    | cont => exact False.elim hq'
theorem pe_makeKS (M : Mk X.K C f) (F : FnOk X.prog X.w X.K X.mg X.base CX k f fd ps sp) (hr : Room (k + 1) X.A) (hg : Gl X x) (hm : X.mg x = some (.ref C)) (hb : KBn X.K fd ps (n + 1) ks g gV) (hx : ∀ σ, PassesAt CX X σ (E σ)) (ha : PA X (e :: es) t) (hkw : PK X kws tk)
    (hall : (backToKw pos (keywordEach kws X.env)).all (·.1.isSome) = true := by rfl) (hks : (backToKw pos (keywordEach kws X.env)).filterMap (·.1) = ks := by rfl) (hdb : (x == ("__debug__" : Str)) = false := by decide)
    (he : starEach (e :: es) X.env = (false, eval e X.env) :: starEach es X.env := by rfl) (hpl : ((backTo pos (starEach (e :: es) X.env)).any (·.1) || (backToKw pos (keywordEach kws X.env)).any (·.1.isNone)) = false := by rfl) :
    PE X (.Call (.Name x p) (e :: es) kws pos) (tMakeKS C n ks.length sp gV E t tk) := by
  refine ⟨fun pins s σ H Q I h => ?_⟩
  refine wpAny_Call_Name_kw (ld_glob I hg hm ?_ hdb)
  refine PySem.W.callWith_KW (h₀ := X.base) I.ok.mod.kin M.kp hall (thn (ha.run pos pins s σ H _ I h) fun us s1 ⟨vs, H1, I1, r, q⟩ => ?_) hpl he
  refine thn (hkw.run pos pins s1 σ H1 _ I1 q) fun ws s2 ⟨zs, H2, I2, rz, l1, l2, q2⟩ => ⟨I2.kIn, ?_⟩
  rw [hks]
  exact run_makeKS M F hr hb (hx σ) I2 r rz l1 l2 q2
end
section
variable {c : Ct} {A : AS} {Q : QE} {C : Addr} {Φ : Contract} {E : L2.St → XK} {t tk : TA} {ta : TE} {mm : Str} {n m : Nat} {gV : List V → List V → List V}
theorem we_methS (hE : ∀ σ, c.E σ = E σ) (h : WE c ta A fun A1 x => ∃ d fs, x = .val d ∧ insOf A1 (.val d) = some (C, fs) ∧ fs.lookup mm = none ∧ WA c t A1 fun A2 ds => Φ (d :: ds) A2.o (fun O' e => Q ⟨A2.s, O'⟩ (.val e)) (fun O' C fs => c.X ⟨A2.s, O'⟩ C fs)) :
    WE c (tMethS C mm (SpA c.K Φ) E ta t) A Q := fun F G m σ H S Eo Qc k => h F G m σ H S Eo _ fun F1 m1 A1 v H1 x e1 p1 S1 R1 ⟨d, fs, ex, hi, hl, q⟩ => by
  subst ex
  obtain ⟨a, dx, fv, rfl, hv, rf⟩ := rep_ins S1 R1 hi
  refine ⟨a, dx, fv, rfl, hv, rf.look0 hl, q F1 G m1 σ H1 S1 (Eo.mono e1 p1) _ fun F2 m2 A2 vs H2 ds e2 p2 S2 R2 q2 => ?_⟩
  refine ⟨F2, callG A2.s σ G H2, m2, A2.o, d :: ds, _, _, S2.call, .cons (Rep.mono e2 p2 R1) R2, q2, fun F' m' O' w e H' e3 p3 hs r rr => k F' m' ⟨A2.s, O'⟩ w H' (.val e) ((e1.trans e2).trans e3) ((p1.trans p2).trans p3) (S2.back e3 p3 hs) r rr, fun F' m' O' C dx fvs fs H' e p hs fx rf xx => ?_⟩
  have z := Eo.x F' m' ⟨A2.s, O'⟩ σ H' C dx fvs fs ((e1.trans e2).trans e) ((p1.trans p2).trans p) (S2.back e p hs) fx rf xx
  rw [hE] at z; exact z
theorem we_makeX {E0 : XK} (hE : ∀ σ, c.E σ = E0) (h : WA c t A fun A1 ds => Φ (.ptr A1.o.length :: ds) (A1.o ++ [.ins C []]) (fun O' d => d = .non ∧ Q ⟨A1.s, O'⟩ (.val (.ptr A1.o.length))) (fun O' C fs => c.X ⟨A1.s, O'⟩ C fs)) : WE c (tMake C (SpA c.K Φ) [] E0 t) A Q := fun F G m σ H S Eo Qc k =>
  h F G m σ H S Eo _ fun F1 m1 A1 vs H1 ds e1 p1 S1 R1 q => by
    intro p dx hp hd n
    have S2 := S1.insNew (C := C) hp hd n
    have ex : Ex F1 (upd F1 dx (.own p)) := ex_upd (S1.h.fresh hd).1
    have pr : Pre m1 (m1 ++ [p]) := Pre.app
    have gp : (m1 ++ [p])[A1.o.length]? = some p := by rw [← S1.h.len, List.getElem?_append_right (Nat.le_refl _), Nat.sub_self]; rfl
    refine ⟨upd F1 dx (.own p), _, m1 ++ [p], A1.o ++ [.ins C []], .ptr A1.o.length :: ds, _, _, S2.call, .cons (.ptr gp) (by simpa using R1.mono ex pr), q, fun F' m' O' w d H' e3 p3 hs r rr => ?_, fun F' m' O' C dx fvs fs H' e p hs fx rf xx => ?_⟩
    · obtain ⟨ed, rr⟩ := rr
      subst ed
      cases r
      exact ⟨rfl, k F' m' ⟨A1.s, O'⟩ _ H' (.val (.ptr A1.o.length)) ((e1.trans ex).trans e3) ((p1.trans pr).trans p3) (S2.back e3 p3 hs) (show Rep c.K F' m' _ _ from .ptr (p3 _ _ gp)) rr⟩
    · have z := Eo.x F' m' ⟨A1.s, O'⟩ σ H' C dx fvs fs ((e1.trans ex).trans e) ((p1.trans pr).trans p) (S2.back e p hs) fx rf xx
      rw [hE] at z; exact z
theorem we_makeS (hE : ∀ σ, c.E σ = E σ) (h : WA c t A fun A1 ds => Φ (.ptr A1.o.length :: ds) (A1.o ++ [.ins C []]) (fun O' d => d = .non ∧ Q ⟨A1.s, O'⟩ (.val (.ptr A1.o.length))) (fun O' C fs => c.X ⟨A1.s, O'⟩ C fs)) : WE c (tMakeS C (SpA c.K Φ) [] E t) A Q := fun F G m σ H S Eo Qc k =>
  h F G m σ H S Eo _ fun F1 m1 A1 vs H1 ds e1 p1 S1 R1 q => by
    intro p dx hp hd n
    have S2 := S1.insNew (C := C) hp hd n
    have ex : Ex F1 (upd F1 dx (.own p)) := ex_upd (S1.h.fresh hd).1
    have pr : Pre m1 (m1 ++ [p]) := Pre.app
    have gp : (m1 ++ [p])[A1.o.length]? = some p := by rw [← S1.h.len, List.getElem?_append_right (Nat.le_refl _), Nat.sub_self]; rfl
    refine ⟨upd F1 dx (.own p), _, m1 ++ [p], A1.o ++ [.ins C []], .ptr A1.o.length :: ds, _, _, S2.call, .cons (.ptr gp) (by simpa using R1.mono ex pr), q, fun F' m' O' w d H' e3 p3 hs r rr => ?_, fun F' m' O' C dx fvs fs H' e p hs fx rf xx => ?_⟩
    · obtain ⟨ed, rr⟩ := rr
      subst ed
      cases r
      exact ⟨rfl, k F' m' ⟨A1.s, O'⟩ _ H' (.val (.ptr A1.o.length)) ((e1.trans ex).trans e3) ((p1.trans pr).trans p3) (S2.back e3 p3 hs) (show Rep c.K F' m' _ _ from .ptr (p3 _ _ gp)) rr⟩
    · have z := Eo.x F' m' ⟨A1.s, O'⟩ σ H' C dx fvs fs ((e1.trans ex).trans e) ((p1.trans pr).trans p) (S2.back e p hs) fx rf xx
      rw [hE] at z; exact z
theorem we_makeKS (gD : List D → List D → List D) (hg : ∀ F mm vs zs ds es, Reps c.K F mm vs ds → Reps c.K F mm zs es → Reps c.K F mm (gV vs zs) (gD ds es)) (hE : ∀ σ, c.E σ = E σ)
    (h : WA c t A fun A1 ds => WA c tk A1 fun A2 es => ds.length = n ∧ es.length = m ∧ Φ (gD (.ptr A2.o.length :: ds) es) (A2.o ++ [.ins C []]) (fun O' d => d = .non ∧ Q ⟨A2.s, O'⟩ (.val (.ptr A2.o.length))) (fun O' C fs => c.X ⟨A2.s, O'⟩ C fs)) : WE c (tMakeKS C n m (SpA c.K Φ) gV E t tk) A Q := fun F G mm σ H S Eo Qc k =>
  h F G mm σ H S Eo _ fun F0 m0 A0 vs H0 ds e0 p0 S0 R0 q0 => q0 F0 G m0 σ H0 S0 (Eo.mono e0 p0) _ fun F1 m1 A1 zs H1 es e1 p1 S1 R1 ⟨l1, l2, q⟩ => by
    refine ⟨by rw [R0.len, l1], by rw [R1.len, l2], fun p dx hp hd n => ?_⟩
    have S2 := S1.insNew (C := C) hp hd n
    have ex : Ex F1 (upd F1 dx (.own p)) := ex_upd (S1.h.fresh hd).1
    have pr : Pre m1 (m1 ++ [p]) := Pre.app
    have gp : (m1 ++ [p])[A1.o.length]? = some p := by rw [← S1.h.len, List.getElem?_append_right (Nat.le_refl _), Nat.sub_self]; rfl
    refine ⟨upd F1 dx (.own p), _, m1 ++ [p], A1.o ++ [.ins C []], _, _, _, S2.call, hg _ _ _ _ _ _ (.cons (.ptr gp) (R0.mono (e1.trans ex) (p1.trans pr))) (R1.mono ex pr), q, fun F' m' O' w d H' e3 p3 hs r rr => ?_, fun F' m' O' C dx fvs fs H' e p hs fx rf xx => ?_⟩
    · obtain ⟨ed, rr⟩ := rr
      subst ed
      cases r
      exact ⟨rfl, k F' m' ⟨A1.s, O'⟩ _ H' (.val (.ptr A1.o.length)) (((e0.trans e1).trans ex).trans e3) (((p0.trans p1).trans pr).trans p3) (S2.back e3 p3 hs) (show Rep c.K F' m' _ _ from .ptr (p3 _ _ gp)) rr⟩
    · have z := Eo.x F' m' ⟨A1.s, O'⟩ σ H' C dx fvs fs (((e0.trans e1).trans ex).trans e) (((p0.trans p1).trans pr).trans p) (S2.back e p hs) fx rf xx
      rw [hE] at z; exact z
end
end AL

namespace AL
open PySem L2
theorem ka_nil {K : PySem.W.Frag} {t : Value} : PySem.W.kitAny K t [] = some false := rfl
theorem ka_no {K : PySem.W.Frag} {t c : Value} {r : List Value} {b : Bool} (h : PySem.W.kitOne K t c = some false) (q : PySem.W.kitAny K t r = some b) : PySem.W.kitAny K t (c :: r) = some b := by
  unfold PySem.W.kitAny; rw [h]; exact q
theorem ka_yes {K : PySem.W.Frag} {t c : Value} {r : List Value} (h : PySem.W.kitOne K t c = some true) : PySem.W.kitAny K t (c :: r) = some true := by
  unfold PySem.W.kitAny; rw [h]
def clsAll : List D → Option (List Addr)
  | [] => some []
  | .cls a :: r => (clsAll r).map (a :: ·)
  | _ => none
theorem clsAll_eq : ∀ {ds : List D} {Cs : List Addr}, clsAll ds = some Cs → ds = Cs.map .cls
  | [], Cs, h => by cases h; rfl
  | .cls a :: r, Cs, h => by
    unfold clsAll at h
    cases e : clsAll r with
    | none => rw [e] at h; cases h
    | some x => rw [e] at h; cases h; rw [clsAll_eq e]; rfl
  | .non :: _, _, h => by simp [clsAll] at h
  | .bl _ :: _, _, h => by simp [clsAll] at h
  | .int _ :: _, _, h => by simp [clsAll] at h
  | .str _ :: _, _, h => by simp [clsAll] at h
  | .lst _ :: _, _, h => by simp [clsAll] at h
  | .tup _ :: _, _, h => by simp [clsAll] at h
  | .scr _ :: _, _, h => by simp [clsAll] at h
  | .sct _ :: _, _, h => by simp [clsAll] at h
  | .ptr _ :: _, _, h => by simp [clsAll] at h
  | .obj _ _ :: _, _, h => by simp [clsAll] at h
  | .ty _ :: _, _, h => by simp [clsAll] at h
section
variable {c : Ct} {A : AS} {Q : QE} {a C dd : Addr} {fs : List (Str × D)} {b : Bool}
theorem cb_isS2 {ds : List D} {Cs : List Addr} (hv : c.hv = some (dd, fs)) (x : ExC c.K C) (hc : clsAll ds = some Cs) (h : PySem.W.kitAny c.K (.ref C) (Cs.map .ref) = some b) (q : Q A (.val (.bl b))) : CbD c (rIsX c.K a (.ref C) (some dd)) [.val (.cls a), .val (.tup ds)] A Q := by
  rw [clsAll_eq hc]; exact cb_isS Cs hv x h q
theorem strOk_of (x : String) : PyData.strOk (Str.ofString x) = true := by
  unfold PyData.strOk
  rw [PySem.Str.ofString_eq_toList]
  show (Array.all _ _) = true
  rw [List.all_toArray, List.all_map]
  refine List.all_eq_true.mpr fun ch _ => ?_
  show decide (ch.toNat < 0x110000) = true
  refine decide_eq_true ?_
  have v := ch.valid
  have : ch.toNat = ch.val.toNat := rfl
  rcases v with v | v
  · omega
  · omega
theorem can_str1 {s : Str} (hs : PyData.strOk s = true) : (PyData.list [.str s]).canLay0 = true := layAll (ps := [.str s]) fun p hp => by rw [List.mem_singleton.mp hp]; unfold PyData.canLay0; exact hs
theorem shaped_str1 {s : Str} (hs : PyData.strOk s = true) : SeqAt.shaped (.list [.str s]) = true := by
  unfold SeqAt.shaped
  rw [can_str1 hs, Bool.true_and]
  exact decide_eq_true (Nat.le_trans (Nat.succ_le_succ (depAll (ps := [.str s]) (n := 0) fun p hp => by rw [List.mem_singleton.mp hp]; exact Nat.le_refl _)) (by decide))
/-- an own list of one text is [text] -/
theorem od_eqStr1 {i : Nat} {s : Str} (hs : PyData.strOk s = true) (h : A.s[i]? = some (some (.own (.lst [.str s])))) (q : Q A (.val (.bl true))) : OpD c (rEqA c.K) (.slot i) (.val (.lst [.str s])) A Q :=
  od_eqD (p := .list [.str s]) (q := .list [.str s]) (b := true) ⟨_, _, h, .cons (.str s) .nil, rfl⟩ (.lst (.cons (.str s) .nil)) (shaped_str1 hs) (shaped_str1 hs) (SeqAt.eqv_refl _ (can_str1 hs)) q
theorem cb_isSF {ds : List D} {Cs : List Addr} (hv : c.hv = some (dd, fs)) (x : ExC c.K C) (hc : clsAll ds = some Cs) (h : PySem.W.kitAny c.K (.ref C) (Cs.map .ref) = some false) (q : Q A (.val (.bl false))) : CbD c (rIsX c.K a (.ref C) (some dd)) [.val (.cls a), .val (.tup ds)] A Q := cb_isS2 hv x hc h q
theorem cb_isST {ds : List D} {Cs : List Addr} (hv : c.hv = some (dd, fs)) (x : ExC c.K C) (hc : clsAll ds = some Cs) (h : PySem.W.kitAny c.K (.ref C) (Cs.map .ref) = some true) (q : Q A (.val (.bl true))) : CbD c (rIsX c.K a (.ref C) (some dd)) [.val (.cls a), .val (.tup ds)] A Q := cb_isS2 hv x hc h q
theorem we_cls {C : Addr} (q : Q A (.val (.cls C))) : WE c (tC (.ref C)) A Q := we_C (fun _ _ => .cls _) q
theorem app_go {i : Nat} {ds : List D} {P : List D → Prop} (h : A.s[i]? = some (some (.own (.lst ds)))) (hl : ds.length < 100000) (q : P ds) : ∃ ds, A.s[i]? = some (some (.own (.lst ds))) ∧ ds.length < 100000 ∧ P ds := ⟨ds, h, hl, q⟩
def inB (lo hi : Int) : List D → Prop
  | [] => True
  | .int v :: r => (lo ≤ v ∧ v ≤ hi) ∧ inB lo hi r
  | _ => False
theorem inB_at {lo hi : Int} : ∀ {ds : List D}, inB lo hi ds → ∀ d ∈ ds, ∃ v : Int, d = .int v ∧ lo ≤ v ∧ v ≤ hi
  | [], _, d, h => by cases h
  | .int v :: r, h, d, hd => by
    rcases List.mem_cons.mp hd with rfl | hd
    · exact ⟨v, rfl, h.1⟩
    · exact inB_at h.2 d hd
  | .non :: _, h, _, _ => h.elim
  | .bl _ :: _, h, _, _ => h.elim
  | .str _ :: _, h, _, _ => h.elim
  | .lst _ :: _, h, _, _ => h.elim
  | .tup _ :: _, h, _, _ => h.elim
  | .scr _ :: _, h, _, _ => h.elim
  | .sct _ :: _, h, _, _ => h.elim
  | .ptr _ :: _, h, _, _ => h.elim
  | .obj _ _ :: _, h, _, _ => h.elim
  | .ty _ :: _, h, _, _ => h.elim
  | .cls _ :: _, h, _, _ => h.elim
/-- one of several numbers, by their bounds -/
theorem od_pickN (lo hi : Nat) {x : RV} {ds : List D} {i : Int} (hx : lsOf A x = some ds) (h0 : 0 ≤ i) (h1 : i < (ds.length : Int)) (hb : inB lo hi ds) (q : ∀ v : Nat, lo ≤ v → v ≤ hi → Q A (.val (.int (v : Nat)))) : OpD c (L2.rIx c.K) x (.val (.int i)) A Q :=
  od_ixAll hx h0 h1 (inB_at hb) fun d ⟨v, ed, a, b⟩ => by
    have z := q v.toNat (by omega) (by omega)
    rw [show ((v.toNat : Nat) : Int) = v by omega] at z
    rw [ed]; exact z
theorem dL_tk {ls : List Nat} {k : Nat} : cutD (dL ls) none (some (k : Int)) = dL (ls.take k) := by unfold dL; rw [cutD_tn, ← List.map_take]
theorem natOf {x : Int} (lo hi : Nat) (h1 : (lo : Int) ≤ x) (h2 : x ≤ (hi : Int)) : ∃ w : Nat, x = (w : Int) ∧ lo ≤ w ∧ w ≤ hi := ⟨x.toNat, by omega, by omega, by omega⟩
end
end AL
local macro_rules | `(tactic| walk_at "pk") => `(tactic| (simp only [List.length_cons, List.length_nil, List.length_append]; omega))
local macro_rules | `(tactic| walk_at "inb") => `(tactic| ((try simp only [List.cons_append, List.nil_append]); repeat (first | exact trivial | refine ⟨⟨by omega, by omega⟩, ?_⟩)))
local macro_rules | `(tactic| walk_at "go1") => `(tactic| first
  | ((with_reducible refine' AL.app_go ?h ?hl ?_); (case h => rfl); (case hl => first | exact Nat.le_of_ble_eq_true rfl | omega | (simp only [List.length_map, List.length_append, List.length_cons, List.length_nil]; omega)))
  | ((with_reducible refine' AL.od_ixT ?h1 ?h2 ?_); (case h1 => rfl); (case h2 => exact AL.atI_of (by decide) rfl))
  | ((with_reducible refine' AL.od_ixL ?h1 ?h2 ?_); (case h1 => rfl); (case h2 => exact AL.atI_of (by decide) rfl)))
local macro_rules | `(tactic| walk_at "go") => `(tactic| ((repeat (first | walk_at "als1" | walk_at "am1" | walk_at "go1" | walk_at "am2" | walk_at "aln1" | walk_at "al2")); all_goals (try dsimp only [AL.as_eta])))
local macro_rules | `(tactic| walk_at "kany") => `(tactic| first | exact AL.ka_nil | (refine AL.ka_yes ?_; assumption) | (refine AL.ka_no ?_ ?_; assumption; walk_at "kany"))
local macro_rules | `(tactic| walk_at "alx1") => `(tactic| first
  | (with_reducible refine' AL.we_cls ?_)
  | ((with_reducible refine' AL.cb_isC ?hv ?x ?h ?_); (case hv => first | rfl | assumption); (case x => assumption); (case h => assumption))
  | ((with_reducible refine' AL.cb_isT ?hv ?x ?h ?_); (case hv => first | rfl | assumption); (case x => assumption); (case h => assumption))
  | ((with_reducible refine' AL.cb_isSF ?hv ?x ?hc ?h ?_); (case hv => first | rfl | assumption); (case x => assumption); (case hc => rfl); (case h => walk_at "kany"))
  | ((with_reducible refine' AL.cb_isST ?hv ?x ?hc ?h ?_); (case hv => first | rfl | assumption); (case x => assumption); (case hc => rfl); (case h => walk_at "kany"))
  | ((with_reducible refine' AL.we_xf ?hi ?hv ?hl ?_); (case hi => rfl); (case hv => first | rfl | assumption); (case hl => rfl))
  | ((with_reducible refine' AL.we_callE ?hi ?hv ?_); (case hi => rfl); (case hv => first | rfl | assumption))
  | ((with_reducible refine' AL.cb_repr ?hp ?hs ?_); (case hp => assumption); (case hs => assumption)))
local macro_rules | `(tactic| walk_at "alx") => `(tactic| ((repeat (first | walk_at "al1" | walk_at "alx1" | walk_at "go1" | walk_at "am1" | walk_at "am2" | walk_at "al2")); all_goals (try dsimp only [AL.as_eta])))

namespace AL
open PySem L2
/-! ### walks over a list that is a cell -/
def RealN (K : PySem.W.Frag) (F0 : Hp) (m0 : List Addr) (J : It) (n : Nat) : Prop := ∀ F G m A σ H ds, Ex F0 F → Pre m0 m → Sim K F G m A σ H → A.o[n]? = some (Cell.lst ds) → ∀ i,
  (∀ d, ds[i]? = some d → J.go i H ∧ ∀ x H', J.yld i H x H' → H' = H ∧ Rep K F m x d) ∧ (ds.length ≤ i → J.stop i H)
theorem real_n {K : PySem.W.Frag} {F : Hp} {m : List Addr} {a : Addr} {n : Nat} (em : m[n]? = some a) : RealN K F m (Itl K a) n := fun F2 G m2 A2 σ H ds e p S hc i => by
  obtain ⟨_, _, vs, ha, rv⟩ := S.h.cell n a _ (p n a em) hc trivial
  have hs : SqL K H a vs := .inl (.inl ha)
  refine ⟨fun d hd => ?_, fun hl => ⟨vs, hs, by rw [rv.len]; exact hl⟩⟩
  obtain ⟨v, hv, r⟩ := rv.get hd
  refine ⟨⟨vs, v, hs, hv⟩, fun x H' y => ?_⟩
  obtain ⟨rfl, y⟩ := y
  have e2 := y vs hs
  rw [hv] at e2; cases e2
  exact ⟨rfl, r⟩
section
variable {c : Ct} {A : AS} {te ta tb tl : TE} {t u tt : TT} {x y : RV} {Q : QE}
theorem wi_cell (Rc : AS → Nat → List D → Prop) (h : WE c tl A fun A1 r => ∃ n ds, r = .val (.ptr n) ∧ A1.o[n]? = some (.lst ds) ∧ Rc A1 n ds) : ∀ F G m σ H, Sim c.K F G m A σ H → EOk c F G m → ∀ R : It → Hp → Prop,
    (∀ F' m' A' J H' n ds, Ex F F' → Pre m m' → Sim c.K F' G m' A' σ H' → RealN c.K F' m' J n → A'.o[n]? = some (.lst ds) → Rc A' n ds → R J H') → iSeq c.K tl σ H R := fun F G m σ H S E R k =>
  h F G m σ H S E _ fun F1 m1 A1 v H1 r e1 p1 S1 R1 ⟨n, ds, er, hc, q⟩ => by
    subst er
    cases R1 with
    | ptr em =>
      obtain ⟨_, _, vs, ha, rv⟩ := S1.h.cell n _ _ em hc trivial
      exact ⟨_, _, rfl, .inl ⟨.inl (.inl ha), k F1 m1 A1 _ H1 n ds e1 p1 S1 (real_n em) hc q⟩⟩
end
section
variable {c : Ct} {A : AS} {t t1 t2 tb : TS} {nx bk ct : AS → Prop} {rt : List Cell → D → Prop} {tl : TE}
/-- a loop over a cell that stays as it is -/
theorem vs_forC {g : TG} {α : Type} (vs : List Nat) (st : α → List (Nat × Option SV)) (oc : α → List Cell) (P : List D → Nat → α → Prop)
    (h : WE c tl A fun A1 r => ∃ n ds, r = .val (.ptr n) ∧ A1.o[n]? = some (.lst ds) ∧ (∀ i a, P ds i a → (oc a)[n]? = some (.lst ds)) ∧ (∃ a, A1.wipe vs = ⟨updS (wipeA A1.s vs) (st a), oc a⟩ ∧ P ds 0 a) ∧
      (∀ i d a, ds[i]? = some d → P ds i a → WG c g d ⟨updS (wipeA A1.s vs) (st a), oc a⟩ fun A3 => WS c tb A3 ⟨fun (A4 : AS) => ∃ a', A4.wipe vs = ⟨updS (wipeA A1.s vs) (st a'), oc a'⟩ ∧ P ds (i + 1) a', rt, fun A4 => nx (A4.wipe vs), fun (A4 : AS) => ∃ a', A4.wipe vs = ⟨updS (wipeA A1.s vs) (st a'), oc a'⟩ ∧ P ds (i + 1) a'⟩) ∧
      ∀ a, P ds ds.length a → nx ⟨updS (wipeA A1.s vs) (st a), oc a⟩) :
    WS c (tFor (iSeq c.K tl) g tb) A ⟨nx, rt, bk, ct⟩ := vs_wipeE vs (fun F G m σ H S E Dc k => by
  refine wi_cell (fun A1 n ds => (∀ i a, P ds i a → (oc a)[n]? = some (.lst ds)) ∧ ∃ I : Nat → AS → Prop, (∀ i A2, I i A2 → ∃ a, A2.wipe vs = ⟨updS (wipeA A1.s vs) (st a), oc a⟩ ∧ P ds i a) ∧ I 0 A1 ∧ (∀ i d A2, ds[i]? = some d → I i A2 → WG c g d A2 fun A3 => WS c tb A3 ⟨I (i + 1), rt, fun A4 => nx (A4.wipe vs), I (i + 1)⟩) ∧ ∀ A2, I ds.length A2 → nx (A2.wipe vs))
    (h.imp fun A1 r ⟨n, ds, er, hc, hP, h0, hs, hd⟩ => ⟨n, ds, er, hc, hP, fun i A2 => ∃ a, A2.wipe vs = ⟨updS (wipeA A1.s vs) (st a), oc a⟩ ∧ P ds i a, fun _ _ z => z, h0, fun i d A2 hi ⟨a, ea, pa⟩ => WG.wipe vs (by rw [ea]; exact hs i d a hi pa), fun A2 ⟨a, ea, pa⟩ => by rw [ea]; exact hd a pa⟩)
    F G m σ H S E _ fun F1 m1 A1 J H1 n0 ds e1 p1 S1 RJ hc ⟨hP, I, hI, h0, hs, hd⟩ => ?_
  refine ⟨fun i n σ2 H2 => n = ds.length - i ∧ i ≤ ds.length ∧ ∃ F2 m2 A2, Ex F1 F2 ∧ Pre m1 m2 ∧ Sim c.K F2 G m2 A2 σ2 H2 ∧ I i A2, ⟨_, rfl, Nat.zero_le _, F1, m1, A1, Evl.Ex.refl _, Pre.refl _, S1, h0⟩, fun i n σ2 H2 hw => ?_⟩
  obtain ⟨rfl, hi, F2, m2, A2, e2, p2, S2, q2⟩ := hw
  have hc2 : A2.o[n0]? = some (.lst ds) := by
    obtain ⟨a, ea, pa⟩ := hI i A2 q2
    have := hP i a pa
    rwa [← show A2.o = oc a from congrArg AS.o ea] at this
  obtain ⟨r1, r2⟩ := RJ F2 G m2 A2 σ2 H2 ds e2 p2 S2 hc2 i
  by_cases hl : i < ds.length
  · obtain ⟨g1, g2⟩ := r1 _ (List.getElem?_eq_getElem hl)
    refine .inr ⟨g1, fun σ3 H3 => ∃ F3 m3 A3, Ex F1 F3 ∧ Pre m1 m3 ∧ Sim c.K F3 G m3 A3 σ3 H3 ∧ I (i + 1) A3, fun σ3 H3 hN => ?_, fun x H3 hy => ?_⟩
    · exact ⟨ds.length - (i + 1), by omega, rfl, hl, hN⟩
    · obtain ⟨rfl, R3⟩ := g2 x H3 hy
      refine hs i _ A2 (List.getElem?_eq_getElem hl) q2 F2 G m2 σ2 _ x S2 R3 (E.mono (e1.trans e2) (p1.trans p2)) _ fun F4 m4 A4 σ4 H4 e4 p4 S4 q4 => ?_
      have f1 := e2.trans e4
      have f2 := p2.trans p4
      refine q4 F4 G m4 σ4 H4 S4 (E.mono (e1.trans f1) (p1.trans f2)) _ ⟨fun F5 m5 A5 σ5 H5 e5 p5 S5 q5 => ⟨F5, m5, A5, f1.trans e5, f2.trans p5, S5, q5⟩, (k.mono (e1.trans f1) (p1.trans f2)).rt, fun F5 m5 A5 σ5 H5 e5 p5 S5 q5 => k.nx F5 m5 A5 σ5 H5 ((e1.trans f1).trans e5) ((p1.trans f2).trans p5) S5 q5, fun F5 m5 A5 σ5 H5 e5 p5 S5 q5 => ⟨F5, m5, A5, f1.trans e5, f2.trans p5, S5, q5⟩⟩
  · have : i = ds.length := by omega
    subst this
    exact .inl ⟨r2 (Nat.le_refl _), k.nx F2 m2 A2 σ2 H2 (e1.trans e2) (p1.trans p2) S2 (hd A2 q2)⟩)
end
end AL
namespace AL
open PySem L2
section
variable {c : Ct} {A : AS} {te : TE} {tt : TT}
/-- a comprehension by an invariant of the cells and of what is made so far -/
theorem wn_lcC {tl : TE} {g : TG} {vs : List Nat} {Q : AS → List D → Prop} (hg : GOk g vs)
    (h : WE c tl A fun A1 r => ∃ n ds, r = .val (.ptr n) ∧ A1.o[n]? = some (.lst ds) ∧ noOwnB A1.s vs = true ∧ ds.length < 100000 ∧ ∃ I : Nat → List Cell → List D → Prop, I 0 A1.o [] ∧ (∀ i O acc, I i O acc → O[n]? = some (.lst ds)) ∧
      (∀ i d O acc, ds[i]? = some d → I i O acc → WG c g d ⟨wipeA A1.s vs, O⟩ fun A2 => WT c tt A2 fun A3 b => (b = true → WE c te A3 fun A4 r => Frz A4 r fun A5 e => I (i + 1) A5.o (acc ++ [e]) ∧ ∀ j, j ∉ vs → A5.s[j]? = A1.s[j]?) ∧
        (b = false → I (i + 1) A3.o acc ∧ ∀ j, j ∉ vs → A3.s[j]? = A1.s[j]?)) ∧ ∀ O acc, I ds.length O acc → Q ⟨A1.s, O⟩ acc) :
    WN c (tLc (iSeq c.K tl) g tt te vs) A Q := fun F G m σ H S E Qc k => wi_cell _ h F G m σ H S E _ fun F1 m1 A1 J H1 n0 ds e1 p1 S1 RJ hc0 ⟨no', hlen, I, hI0, hP, hs, hd⟩ => by
  have no := noOwn_of no'
  intro Dl hD
  have gD : G Dl = none := (S1.h.fresh hD).2.1
  have sub : ∀ (o : HO) a u, G a = some u → upd G Dl o a = some u := fun o a u e => by rw [upd_ne (ne_of_none e gD)]; exact e
  have nD := S1.notOwn hD
  refine ⟨fun i n H2 => n = ds.length - i ∧ i ≤ ds.length ∧ ∃ F2 m2 acc accD O, Ex F1 F2 ∧ Pre m1 m2 ∧ Sim c.K F2 (upd G Dl (.lst acc)) m2 ⟨A1.s, O⟩ σ H2 ∧ Reps c.K F2 m2 acc accD ∧ I i O accD ∧ accD.length ≤ i,
    ⟨_, rfl, Nat.zero_le _, F1, m1, [], [], A1.o, Evl.Ex.refl _, Pre.refl _, S1.addG hD, .nil, hI0, Nat.le_refl _⟩, fun i n H2 hw => ?_⟩
  obtain ⟨rfl, hi, F2, m2, acc, accD, O, e2, p2, S2, R2, q2, la⟩ := hw
  obtain ⟨r1, r2⟩ := RJ F2 _ m2 ⟨A1.s, O⟩ σ H2 ds e2 p2 S2 (hP i O accD q2) i
  have hacc : acc.length ≤ i := by rw [R2.len]; exact la
  by_cases hl : i < ds.length
  · obtain ⟨g1, g2⟩ := r1 _ (List.getElem?_eq_getElem hl)
    refine .inr ⟨g1, fun H3 => i + 1 ≤ ds.length ∧ ∃ F2 m2 acc accD O, Ex F1 F2 ∧ Pre m1 m2 ∧ Sim c.K F2 (upd G Dl (.lst acc)) m2 ⟨A1.s, O⟩ σ H3 ∧ Reps c.K F2 m2 acc accD ∧ I (i + 1) O accD ∧ accD.length ≤ i + 1, fun H3 hN => ⟨_, by omega, rfl, hN⟩, fun x H3 hy => ?_⟩
    obtain ⟨eH, R3⟩ := g2 x H3 hy
    subst eH
    have S3 := S2
    have e3 : Ex F2 F2 := Evl.Ex.refl F2
    let F3 := F2
    have E3 : EOk c F3 (upd G Dl (.lst acc)) m2 := (E.weakG (sub _)).mono ((e1.trans e2).trans e3) (p1.trans p2)
    have S3w : Sim c.K F3 (upd G Dl (.lst acc)) m2 ⟨wipeA A1.s vs, O⟩ (wipe σ vs) H3 := ⟨S3.h, S3.s.wipe vs⟩
    have ww : wipe (wipe σ vs) vs = wipe σ vs := by
      apply List.ext_getElem?
      intro j
      by_cases hj : j ∈ vs
      · have z : ∀ (us : List Nat) (τ : St), j ∈ us → (wipe τ us)[j]? = if j < τ.length then some none else none := fun us => by
          induction us with
          | nil => intro τ h; cases h
          | cons u us ih =>
            intro τ h
            unfold wipe
            by_cases y : u = j
            · subst y
              by_cases hl : u < τ.length
              · rw [List.getElem?_set_self (by rw [wipe_length]; exact hl), if_pos hl]
              · rw [if_neg hl, List.getElem?_eq_none (by rw [List.length_set, wipe_length]; omega)]
            · rw [List.getElem?_set_ne y]
              exact ih τ (by simpa [show ¬ j = u from fun z => y z.symm] using h)
        rw [z vs _ hj, z vs _ hj, wipe_length]
      · rw [wipe_not hj]
    have hgx := hg x (wipe σ vs) H3 (fun σ2 H4 => tt σ2 H4 fun b H5 => if b = true then te σ2 H5 fun y H6 => ∃ acc', H6 Dl = some (.lst acc') ∧ acc'.length < sizeLine ∧ (i + 1 ≤ ds.length ∧ ∃ F2 m2 acc accD O, Ex F1 F2 ∧ Pre m1 m2 ∧ Sim c.K F2 (upd G Dl (.lst acc)) m2 ⟨A1.s, O⟩ σ (upd H6 Dl (.lst (acc' ++ [y]))) ∧ Reps c.K F2 m2 acc accD ∧ I (i + 1) O accD ∧ accD.length ≤ i + 1) else
      (i + 1 ≤ ds.length ∧ ∃ F2 m2 acc accD O, Ex F1 F2 ∧ Pre m1 m2 ∧ Sim c.K F2 (upd G Dl (.lst acc)) m2 ⟨A1.s, O⟩ σ H5 ∧ Reps c.K F2 m2 acc accD ∧ I (i + 1) O accD ∧ accD.length ≤ i + 1))
    rw [ww] at hgx
    refine hgx (hs i _ O accD (List.getElem?_eq_getElem hl) q2 F3 _ m2 (wipe σ vs) H3 x S3w R3 E3 _ fun F4 m4 A4 σ4 H4 e4 p4 S4 q4 ew => ?_)
    have x4 := e2.trans (e3.trans e4)
    have y4 := p2.trans p4
    refine q4 F4 _ m4 σ4 H4 S4 (E3.mono e4 p4) _ fun F5 m5 A5 b H5 e5 p5 S5 q5 => ?_
    cases b with
    | false =>
      obtain ⟨h1, h3⟩ := q5.2 rfl
      show i + 1 ≤ ds.length ∧ _
      exact ⟨hl, F5, m5, acc, accD, A5.o, x4.trans e5, y4.trans p5, S2.unwipeO S5 (e3.trans (e4.trans e5)) (p4.trans p5) h3 ew no, R2.mono (e3.trans (e4.trans e5)) (p4.trans p5), h1, by omega⟩
    | true =>
      show te σ4 H5 _
      refine (WE.frz (q5.1 rfl)) F5 _ m5 σ4 H5 S5 (E3.mono (e4.trans e5) (p4.trans p5)) _ fun F6 m6 A6 y H6 r e6 p6 S6 R6 q6 => ?_
      obtain ⟨d, er, h1, h3⟩ := q6
      subst er
      have z6 := e3.trans (e4.trans (e5.trans e6))
      have w6 := p4.trans (p5.trans p6)
      refine ⟨acc, S6.h.exG Dl _ upd_same, Nat.lt_of_le_of_lt hacc (Nat.lt_of_lt_of_le (Nat.lt_trans hl hlen) (by decide)), hl, F6, m6, acc ++ [y], accD ++ [d], A6.o, e2.trans z6, p2.trans w6, (S2.unwipeO S6 z6 w6 h3 ew no : Sim c.K F6 _ m6 ⟨A1.s, A6.o⟩ σ _).setG, (R2.mono z6 w6).app (.cons R6 .nil), h1, by rw [List.length_append, List.length_singleton]; omega⟩
  · have ei : i = ds.length := by omega
    subst ei
    have gs := S2.h.exG Dl _ upd_same
    have fD : F2 Dl = none := by
      cases y : F2 Dl with
      | none => rfl
      | some u => have z := S2.h.dj Dl u y; rw [upd_same] at z; cases z
    exact .inl ⟨r2 (Nat.le_refl _), k F2 m2 ⟨A1.s, O⟩ Dl acc H2 _ (e1.trans e2) (p1.trans p2) (S2.weakG (sub _)) fD gD (fun n e => by have z := S2.h.mG n Dl e; rw [upd_same] at z; cases z) nD gs R2 (hd O accD q2)⟩
end
end AL

namespace AU
open PySem L2 AL
/-! ### values of any kind, numbers among them -/
inductive Odd : D → Prop where
  | int (i : Int) : Odd (.int i)
  | bl (b : Bool) : Odd (.bl b)
  | non : Odd .non
  | str (x : Str) : Odd (.str x)
  | tup (ds : List D) : Odd (.tup ds)
  | lst (ds : List D) : Odd (.lst ds)
def isIntD : D → Bool
  | .int _ => true
  | _ => false
def isFromD (d : D) (a b : Int) : Bool := match d with
  | .int n => decide (a ≤ n) && decide (n ≤ b)
  | _ => false
theorem isFromD_int {n a b : Int} : isFromD (.int n) a b = (decide (a ≤ n) && decide (n ≤ b)) := rfl
theorem isFromD_yes {d : D} {a b : Int} (h : isFromD d a b = true) : ∃ n : Int, d = .int n ∧ a ≤ n ∧ n ≤ b := by
  cases d <;> simp [isFromD] at h
  exact ⟨_, rfl, h⟩
theorem isFromD_of {n a b : Int} (h1 : a ≤ n) (h2 : n ≤ b) : isFromD (.int n) a b = true := by rw [isFromD_int, decide_eq_true h1, decide_eq_true h2]; rfl
def C_is_integer : Contract := fun ds O R _ => ∃ d, ds = [d] ∧ Odd d ∧ R O (.bl (isIntD d))
def C_is_from : Contract := fun ds O R _ => ∃ d, ∃ a b : Int, ds = [d, .int a, .int b] ∧ Odd d ∧ R O (.bl (isFromD d a b))
theorem len_is_integer : ∀ ds O R X, C_is_integer ds O R X → ds.length = 1 := fun _ _ _ _ h => by obtain ⟨_, rfl, _⟩ := h; rfl
theorem len_is_from : ∀ ds O R X, C_is_from ds O R X → ds.length = 3 := fun _ _ _ _ h => by obtain ⟨_, _, _, rfl, _⟩ := h; rfl
/-! ### what can be shown -/
theorem shows_int {i : Int} (h : i.natAbs < 2 ^ 100) : Shows (.int i) := by
  have hl : i.natAbs.log2 < 1920 := by
    by_cases h0 : i.natAbs = 0
    · rw [h0]; decide
    · have := (Nat.log2_lt h0).mpr (show i.natAbs < 2 ^ 100 from h)
      omega
  refine ⟨by show PyData.showable _ = true; unfold PyData.showable; exact decide_eq_true hl, rfl, by show PyData.depth _ ≤ 50; unfold PyData.depth; decide, ?_, hl⟩
  show (PyData.shown (.int i)).length ≤ sizeLine
  unfold PyData.shown
  exact int_text_fits hl
theorem shows_bool (b : Bool) : Shows (.bool b) := ⟨by unfold PyData.showable; rfl, by unfold PyData.hasDict; rfl, by unfold PyData.depth; decide, by unfold PyData.shown; cases b <;> decide, trivial⟩
theorem shows_none : Shows .none := ⟨by unfold PyData.showable; rfl, by unfold PyData.hasDict; rfl, by unfold PyData.depth; decide, by unfold PyData.shown; decide, trivial⟩
/-- odd values that can be shown -/
def OddS (d : D) : Prop := Odd d ∧ ∃ p, Py d p ∧ Shows p ∧ PyData.strOk p.shown = true
theorem oddS_int {i : Int} (h : i.natAbs < 2 ^ 100) : OddS (.int i) := ⟨.int i, .int i, .int i, shows_int h, by unfold PyData.shown; exact strOk_of _⟩
theorem oddS_lt {i : Int} (h1 : -5000 ≤ i) (h2 : i ≤ 5000) : OddS (.int i) := oddS_int (Nat.lt_of_le_of_lt (show i.natAbs ≤ 5000 by omega) (by decide))
theorem oddS_bl (b : Bool) : OddS (.bl b) := ⟨.bl b, _, .bl b, shows_bool b, by cases b <;> decide +kernel⟩
theorem oddS_str (x : Str) (h : Shows (.str x)) (h2 : PyData.strOk (PyData.shown (.str x)) = true) : OddS (.str x) := ⟨.str x, _, .str x, h, h2⟩
theorem oddS_s0 : OddS (.str "0") := oddS_str _ ⟨by unfold PyData.showable; rfl, by unfold PyData.hasDict; rfl, by unfold PyData.depth; decide, by unfold PyData.shown; decide +kernel, trivial⟩ (by decide +kernel)
theorem oddS_s : OddS (.str "") := oddS_str _ ⟨by unfold PyData.showable; rfl, by unfold PyData.hasDict; rfl, by unfold PyData.depth; decide, by unfold PyData.shown; decide +kernel, trivial⟩ (by decide +kernel)
theorem oddS_t0 : OddS (.tup [.int 0]) := ⟨.tup _, .tuple [.int 0], .tup (.cons (.int 0) .nil), ⟨by decide +kernel, by decide +kernel, by decide +kernel, by decide +kernel, trivial⟩, by decide +kernel⟩
theorem oddS_l0 : OddS (.lst [.int 0]) := ⟨.lst _, .list [.int 0], .lst (.cons (.int 0) .nil), ⟨by decide +kernel, by decide +kernel, by decide +kernel, by decide +kernel, trivial⟩, by decide +kernel⟩
theorem oddS_t1 : OddS (.tup [.int 1]) := ⟨.tup _, .tuple [.int 1], .tup (.cons (.int 1) .nil), ⟨by decide +kernel, by decide +kernel, by decide +kernel, by decide +kernel, trivial⟩, by decide +kernel⟩
theorem oddS_l1 : OddS (.lst [.int 1]) := ⟨.lst _, .list [.int 1], .lst (.cons (.int 1) .nil), ⟨by decide +kernel, by decide +kernel, by decide +kernel, by decide +kernel, trivial⟩, by decide +kernel⟩
theorem oddS_t : OddS (.tup []) := ⟨.tup _, .tuple [], .tup .nil, ⟨by decide +kernel, by decide +kernel, by decide +kernel, by decide +kernel, trivial⟩, by decide +kernel⟩
theorem isFromD_hi {n a b : Int} (h : b < n) : isFromD (.int n) a b = false := by rw [isFromD_int, decide_eq_false (show ¬ n ≤ b by omega), Bool.and_false]
theorem isFromD_lo {n a b : Int} (h : n < a) : isFromD (.int n) a b = false := by rw [isFromD_int, decide_eq_false (show ¬ a ≤ n by omega), Bool.false_and]
theorem oddS_non : OddS .non := ⟨.non, _, .non, shows_none, by decide +kernel⟩
/-! ### errors, told -/
def C__law_kinds (CN CR CA CH : Addr) : Addr → List (Str × D) → List Cell → (List Cell → D → Prop) → Prop := fun C fs O R => ∃ d p, Py d p ∧ Shows p ∧
  ((C = CN ∧ fs = [(("number" : Str), d)] ∧ R O (.tup [.str "InvalidNumber", .str p.shown])) ∨ (C = CR ∧ fs = [(("many" : Str), d)] ∧ R O (.tup [.str "NoRoom", .str p.shown])) ∨
   (C = CA ∧ fs = [(("block" : Str), d)] ∧ R O (.tup [.str "NotAlone", .str p.shown])) ∨ (C = CH ∧ fs = [(("block" : Str), d)] ∧ R O (.tup [.str "NotHeld", .str p.shown])))
/-! ### a store -/
structure StoreM where
  many : Nat
  size : Nat
  held : List Nat
  kept : List (List D)
def dN (xs : List Nat) : List D := xs.map fun x => D.int (x : Nat)
theorem dN_len {xs : List Nat} : (dN xs).length = xs.length := List.length_map ..
theorem dN_set {xs : List Nat} {i x : Nat} : (dN xs).set i (.int (x : Nat)) = dN (xs.set i x) := by unfold dN; rw [List.map_set]
theorem dN_get {xs : List Nat} {i : Nat} (h : i < xs.length) : atI (dN xs) (i : Int) = some (.int (xs.getD i 0 : Nat)) := atI_map (by omega) (by rw [Int.toNat_natCast, List.getElem?_eq_getElem h, getD_lt h])
def storeF (s : StoreM) (h k : Nat) : List (Str × D) := [("many", .int (s.many : Nat)), ("size", .int (s.size : Nat)), ("_held", .ptr h), ("_kept", .ptr k)]
structure WfS (s : StoreM) : Prop where
  m1 : 1 ≤ s.many
  m60 : s.many ≤ 60
  s1 : 1 ≤ s.size
  s8 : s.size ≤ 8
  hl : s.held.length = s.many
  kl : s.kept.length = s.many
  rw : ∀ r ∈ s.kept, r.length ≤ s.size
  fr : ∀ b : Nat, s.held.getD b 0 = 0 → s.kept.getD b [] = []
structure StoreAt (C : Addr) (O : List Cell) (n h k : Nat) (s : StoreM) : Prop where
  ins : O[n]? = some (.ins C (storeF s h k))
  held : O[h]? = some (.lst (dN s.held))
  kept : O[k]? = some (.lst (s.kept.map .tup))
  ne : h ≠ k
  wf : WfS s
theorem StoreAt.nh {C : Addr} {O : List Cell} {n h k : Nat} {s : StoreM} (a : StoreAt C O n h k s) : n ≠ h := fun e => by have x := a.ins; rw [e, a.held] at x; cases x
theorem StoreAt.nk {C : Addr} {O : List Cell} {n h k : Nat} {s : StoreM} (a : StoreAt C O n h k s) : n ≠ k := fun e => by have x := a.ins; rw [e, a.kept] at x; cases x
theorem getD_set {α : Type} {xs : List α} {i j : Nat} {x d : α} (h : i < xs.length) : (xs.set i x).getD j d = if i = j then x else xs.getD j d := by
  by_cases e : i = j
  · subst e; rw [if_pos rfl]; simp [List.getD, List.getElem?_set_self h]
  · rw [if_neg e]; simp [List.getD, List.getElem?_set_ne e]
/-- a store with other counts -/
theorem StoreAt.setH {C : Addr} {O : List Cell} {n h k : Nat} {s : StoreM} (a : StoreAt C O n h k s) {b x : Nat} (hb : b < s.many) (hx : x = 0 → s.kept.getD b [] = []) : StoreAt C (O.set h (.lst (dN (s.held.set b x)))) n h k { s with held := s.held.set b x } where
  ins := by rw [List.getElem?_set_ne (Ne.symm a.nh)]; exact a.ins
  held := by rw [List.getElem?_set_self (List.getElem?_eq_some_iff.mp a.held).1]
  kept := by rw [List.getElem?_set_ne a.ne]; exact a.kept
  ne := a.ne
  wf := ⟨a.wf.m1, a.wf.m60, a.wf.s1, a.wf.s8, by show (s.held.set b x).length = _; rw [List.length_set]; exact a.wf.hl, a.wf.kl, a.wf.rw, fun j hj => by
    have hj2 : (s.held.set b x).getD j 0 = 0 := hj
    clear hj
    rw [getD_set (by rw [a.wf.hl]; exact hb)] at hj2
    show s.kept.getD j [] = []
    split at hj2
    · rename_i e; subst e; exact hx hj2
    · exact a.wf.fr j hj2⟩
theorem StoreAt.setK {C : Addr} {O : List Cell} {n h k : Nat} {s : StoreM} (a : StoreAt C O n h k s) {b : Nat} {x : List D} (hb : b < s.many) (hx : x.length ≤ s.size) (h0 : s.held.getD b 0 = 0 → x = []) : StoreAt C (O.set k (.lst ((s.kept.set b x).map .tup))) n h k { s with kept := s.kept.set b x } where
  ins := by rw [List.getElem?_set_ne (Ne.symm a.nk)]; exact a.ins
  held := by rw [List.getElem?_set_ne (Ne.symm a.ne)]; exact a.held
  kept := by rw [List.getElem?_set_self (List.getElem?_eq_some_iff.mp a.kept).1]
  ne := a.ne
  wf := ⟨a.wf.m1, a.wf.m60, a.wf.s1, a.wf.s8, a.wf.hl, by show (s.kept.set b x).length = _; rw [List.length_set]; exact a.wf.kl, fun r hr => by
    rcases List.mem_or_eq_of_mem_set hr with h | h
    · exact a.wf.rw r h
    · exact h ▸ hx, fun j hj => by
    show (s.kept.set b x).getD j [] = []
    rw [getD_set (by rw [a.wf.kl]; exact hb)]
    split
    · rename_i e; subst e; exact h0 hj
    · exact a.wf.fr j hj⟩
/-- the block that a value names -/
def blockOf (s : StoreM) (d : D) : Option Nat := if isFromD d 0 ((s.many : Nat) - 1 : Int) then (match d with | .int i => some i.toNat | _ => none) else none
def heldOf (s : StoreM) (d : D) : Option Nat := (blockOf s d).filter fun b => decide (0 < s.held.getD b 0)
def aloneOf (s : StoreM) (d : D) : Option Nat := (heldOf s d).filter fun b => decide (s.held.getD b 0 ≤ 1)
theorem blockOf_some {s : StoreM} {d : D} {b : Nat} (h : blockOf s d = some b) : d = .int (b : Nat) ∧ b < s.many := by
  unfold blockOf at h
  split at h
  · rename_i z
    obtain ⟨n, rfl, h1, h2⟩ := isFromD_yes z
    simp only [Option.some.injEq] at h
    exact ⟨by rw [← h, Int.toNat_of_nonneg h1], by omega⟩
  · cases h
theorem blockOf_int {s : StoreM} {b : Nat} (h : b < s.many) : blockOf s (.int (b : Nat)) = some b := by
  unfold blockOf
  rw [if_pos (isFromD_of (by omega) (by omega))]; simp
theorem heldOf_some {s : StoreM} {d : D} {b : Nat} (h : heldOf s d = some b) : d = .int (b : Nat) ∧ b < s.many ∧ 0 < s.held.getD b 0 := by
  unfold heldOf at h
  obtain ⟨h1, h2⟩ := Option.filter_eq_some_iff.mp h
  exact ⟨(blockOf_some h1).1, (blockOf_some h1).2, of_decide_eq_true h2⟩
theorem heldOf_int {s : StoreM} {b : Nat} (h : b < s.many) (h0 : 0 < s.held.getD b 0) : heldOf s (.int (b : Nat)) = some b := by
  unfold heldOf; rw [blockOf_int h]; exact if_pos (decide_eq_true h0)
theorem heldOf_none {s : StoreM} {d : D} {b : Nat} (h : blockOf s d = some b) (h0 : s.held.getD b 0 = 0) : heldOf s d = none := by
  unfold heldOf; rw [h]; exact if_neg (by show ¬ decide (0 < s.held.getD b 0) = true; rw [h0]; decide)
theorem heldOf_some' {s : StoreM} {d : D} {b : Nat} (h : blockOf s d = some b) (h0 : s.held.getD b 0 ≠ 0) : heldOf s d = some b := by
  unfold heldOf; rw [h]; exact if_pos (decide_eq_true (by omega))
theorem heldOf_none' {s : StoreM} {d : D} (h : blockOf s d = none) : heldOf s d = none := by unfold heldOf; rw [h]; rfl
/-- the lowest free block -/
def lowest (s : StoreM) : Option Nat := if 0 ∈ s.held then some (s.held.idxOf 0) else none
def freeOf (s : StoreM) : Nat := s.held.count 0
section
variable (CS CN CR CA CH : Addr)
def C_Store___init__ : Contract := fun ds O R X => ∃ (i : Nat) (d e : D), ds = [.ptr i, d, e] ∧ O[i]? = some (.ins CS []) ∧ Odd d ∧ Odd e ∧
  (isFromD d 1 60 = false → X O CN [("number", d)]) ∧ (isFromD d 1 60 = true → isFromD e 1 8 = false → X O CN [("number", e)]) ∧
  ∀ m z : Nat, d = .int (m : Nat) → e = .int (z : Nat) → 1 ≤ m → m ≤ 60 → 1 ≤ z → z ≤ 8 →
    R ((O ++ [Cell.lst (dN (List.replicate m 0)), Cell.lst ((List.replicate m []).map D.tup)]).set i (.ins CS (storeF ⟨m, z, List.replicate m 0, List.replicate m []⟩ O.length (O.length + 1)))) .non
def C_Store_free : Contract := fun ds O R _ => ∃ n h k s, ds = [.ptr n] ∧ StoreAt CS O n h k s ∧ R O (.int (freeOf s : Nat))
def C_Store_take : Contract := fun ds O R X => ∃ n h k s, ds = [.ptr n] ∧ StoreAt CS O n h k s ∧ (∀ b, lowest s = some b → R (O.set h (.lst (dN (s.held.set b 1)))) (.int (b : Nat))) ∧ (lowest s = none → X O CR [("many", .int 1)])
def C_Store__check_block : Contract := fun ds O R X => ∃ n h k s d, ds = [.ptr n, d] ∧ StoreAt CS O n h k s ∧ Odd d ∧ (∀ b, blockOf s d = some b → R O .non) ∧ (blockOf s d = none → X O CH [("block", d)])
def C_Store__check_held : Contract := fun ds O R X => ∃ n h k s d, ds = [.ptr n, d] ∧ StoreAt CS O n h k s ∧ Odd d ∧ (∀ b, heldOf s d = some b → R O .non) ∧ (heldOf s d = none → X O CH [("block", d)])
def C_Store__check_alone : Contract := fun ds O R X => ∃ n h k s d, ds = [.ptr n, d] ∧ StoreAt CS O n h k s ∧ Odd d ∧ (∀ b, heldOf s d = some b → s.held.getD b 0 ≤ 1 → R O .non) ∧ (heldOf s d = none → X O CH [("block", d)]) ∧ (∀ b, heldOf s d = some b → 1 < s.held.getD b 0 → X O CA [("block", d)])
def C_Store_hold : Contract := fun ds O R X => ∃ n h k s d, ds = [.ptr n, d] ∧ StoreAt CS O n h k s ∧ Odd d ∧ (∀ b, heldOf s d = some b → R (O.set h (.lst (dN (s.held.set b (s.held.getD b 0 + 1))))) .non) ∧ (heldOf s d = none → X O CH [("block", d)])
def releaseO (O : List Cell) (h k : Nat) (s : StoreM) (b : Nat) : List Cell := if s.held.getD b 0 = 1 then (O.set h (.lst (dN (s.held.set b 0)))).set k (.lst ((s.kept.set b []).map .tup)) else O.set h (.lst (dN (s.held.set b (s.held.getD b 0 - 1))))
def releaseM (s : StoreM) (b : Nat) : StoreM := if s.held.getD b 0 = 1 then { s with held := s.held.set b 0, kept := s.kept.set b [] } else { s with held := s.held.set b (s.held.getD b 0 - 1) }
theorem StoreAt.release {C : Addr} {O : List Cell} {n h k : Nat} {s : StoreM} (a : StoreAt C O n h k s) {b : Nat} (hb : b < s.many) (hh : 0 < s.held.getD b 0) : StoreAt C (releaseO O h k s b) n h k (releaseM s b) := by
  unfold releaseO releaseM
  split
  · refine ⟨?_, ?_, ?_, a.ne, ⟨a.wf.m1, a.wf.m60, a.wf.s1, a.wf.s8, by show (s.held.set b 0).length = _; rw [List.length_set]; exact a.wf.hl, by show (s.kept.set b []).length = _; rw [List.length_set]; exact a.wf.kl, fun r hr => ?_, fun j hj => ?_⟩⟩
    · rw [List.getElem?_set_ne (Ne.symm a.nk), List.getElem?_set_ne (Ne.symm a.nh)]; exact a.ins
    · rw [List.getElem?_set_ne (Ne.symm a.ne), List.getElem?_set_self (List.getElem?_eq_some_iff.mp a.held).1]
    · rw [List.getElem?_set_self (by rw [List.length_set]; exact (List.getElem?_eq_some_iff.mp a.kept).1)]
    · rcases List.mem_or_eq_of_mem_set hr with h | h
      · exact a.wf.rw r h
      · rw [h]; exact Nat.zero_le _
    · have hj : (s.held.set b 0).getD j 0 = 0 := hj
      show (s.kept.set b []).getD j [] = []
      rw [getD_set (by rw [a.wf.kl]; exact hb)]
      rw [getD_set (by rw [a.wf.hl]; exact hb)] at hj
      split
      · rfl
      · rename_i e; rw [if_neg e] at hj; exact a.wf.fr j hj
  · exact a.setH hb (by omega)
theorem releaseM_held {s : StoreM} {b : Nat} : (releaseM s b).held = s.held.set b (s.held.getD b 0 - 1) := by
  unfold releaseM
  split
  · rename_i e; show s.held.set b 0 = _; rw [e]
  · rfl
theorem releaseM_many {s : StoreM} {b : Nat} : (releaseM s b).many = s.many ∧ (releaseM s b).size = s.size := by
  unfold releaseM; split <;> exact ⟨rfl, rfl⟩
theorem blockOf_isFrom {s : StoreM} {d : D} : isFromD d 0 ((s.many : Nat) - 1 : Int) = (blockOf s d).isSome := by
  unfold blockOf
  cases h : isFromD d 0 ((s.many : Nat) - 1 : Int) with
  | true => obtain ⟨n, rfl, _, _⟩ := isFromD_yes h; rfl
  | false => rfl
theorem dN_dL (xs : List Nat) : dN xs = (xs.map Int.ofNat).map .int := by unfold dN; rw [List.map_map]; rfl
theorem lowest_none {s : StoreM} : lowest s = none ↔ freeOf s = 0 := by
  unfold lowest freeOf
  rw [List.count_eq_zero]
  constructor
  · intro h; split at h
    · cases h
    · assumption
  · intro h; rw [if_neg h]
theorem lowest_some {s : StoreM} {b : Nat} (h : lowest s = some b) : b < s.held.length ∧ s.held.getD b 1 = 0 ∧ ∀ m : Nat, m < b → s.held.getD m 0 ≠ 0 := by
  unfold lowest at h
  split at h
  · rename_i e
    cases h
    have hl := List.idxOf_lt_length_of_mem e
    refine ⟨hl, ?_, fun m hm => ?_⟩
    · rw [getD_lt hl]; exact List.getElem_idxOf hl
    · unfold List.idxOf at hm hl
      have := List.not_of_lt_findIdx hm
      rw [getD_lt (by omega)]
      simpa using this
  · cases h
def C_Store_release : Contract := fun ds O R X => ∃ n h k s d, ds = [.ptr n, d] ∧ StoreAt CS O n h k s ∧ Odd d ∧ (∀ b, heldOf s d = some b → R (releaseO O h k s b) .non) ∧ (heldOf s d = none → X O CH [("block", d)])
def C_Store_rows : Contract := fun ds O R X => ∃ n h k s d, ds = [.ptr n, d] ∧ StoreAt CS O n h k s ∧ Odd d ∧ (∀ b, heldOf s d = some b → R O (.tup (s.kept.getD b []))) ∧ (heldOf s d = none → X O CH [("block", d)])
def C_Store_holders : Contract := fun ds O R X => ∃ n h k s d, ds = [.ptr n, d] ∧ StoreAt CS O n h k s ∧ Odd d ∧ (∀ b, blockOf s d = some b → R O (.int (s.held.getD b 0 : Nat))) ∧ (blockOf s d = none → X O CH [("block", d)])
end
theorem storeAt_new {C : Addr} {O : List Cell} {i m z : Nat} (hi : i < O.length) (h1 : 1 ≤ m) (h2 : m ≤ 60) (h3 : 1 ≤ z) (h4 : z ≤ 8) : StoreAt C ((O ++ [Cell.lst (dN (List.replicate m 0)), Cell.lst ((List.replicate m []).map D.tup)]).set i (.ins C (storeF ⟨m, z, List.replicate m 0, List.replicate m []⟩ O.length (O.length + 1)))) i O.length (O.length + 1) ⟨m, z, List.replicate m 0, List.replicate m []⟩ := by
  have e1 : ∀ x y : Cell, (O ++ [x, y])[O.length]? = some x := fun x y => by simp
  have e2 : ∀ x y : Cell, (O ++ [x, y])[O.length + 1]? = some y := fun x y => by rw [List.getElem?_append_right (by omega), show O.length + 1 - O.length = 1 by omega]; rfl
  refine ⟨?_, ?_, ?_, by omega, ⟨h1, h2, h3, h4, List.length_replicate, List.length_replicate, fun r hr => ?_, fun b _ => ?_⟩⟩
  · rw [List.getElem?_set_self (by rw [List.length_append]; omega)]
  · rw [List.getElem?_set_ne (by omega), e1]
  · rw [List.getElem?_set_ne (by omega), e2]
  · rw [List.eq_of_mem_replicate hr]; exact Nat.zero_le _
  · show (List.replicate m []).getD b [] = []
    by_cases h : b < m
    · rw [getD_lt (by rw [List.length_replicate]; exact h), List.getElem_replicate]
    · rw [getD_ge (by rw [List.length_replicate]; omega)]
theorem len_Store___init__ {CS CN : Addr} : ∀ ds O R X, C_Store___init__ CS CN ds O R X → ds.length = 3 := fun _ _ _ _ h => by obtain ⟨_, _, _, rfl, _⟩ := h; rfl
theorem len_Store_free {CS : Addr} : ∀ ds O R X, C_Store_free CS ds O R X → ds.length = 1 := fun _ _ _ _ h => by obtain ⟨_, _, _, _, rfl, _⟩ := h; rfl
theorem len_Store_take {CS CR : Addr} : ∀ ds O R X, C_Store_take CS CR ds O R X → ds.length = 1 := fun _ _ _ _ h => by obtain ⟨_, _, _, _, rfl, _⟩ := h; rfl
theorem len_Store__check_block {CS CH : Addr} : ∀ ds O R X, C_Store__check_block CS CH ds O R X → ds.length = 2 := fun _ _ _ _ h => by obtain ⟨_, _, _, _, _, rfl, _⟩ := h; rfl
theorem len_Store__check_held {CS CH : Addr} : ∀ ds O R X, C_Store__check_held CS CH ds O R X → ds.length = 2 := fun _ _ _ _ h => by obtain ⟨_, _, _, _, _, rfl, _⟩ := h; rfl
theorem len_Store__check_alone {CS CA CH : Addr} : ∀ ds O R X, C_Store__check_alone CS CA CH ds O R X → ds.length = 2 := fun _ _ _ _ h => by obtain ⟨_, _, _, _, _, rfl, _⟩ := h; rfl
theorem len_Store_hold {CS CH : Addr} : ∀ ds O R X, C_Store_hold CS CH ds O R X → ds.length = 2 := fun _ _ _ _ h => by obtain ⟨_, _, _, _, _, rfl, _⟩ := h; rfl
theorem len_Store_release {CS CH : Addr} : ∀ ds O R X, C_Store_release CS CH ds O R X → ds.length = 2 := fun _ _ _ _ h => by obtain ⟨_, _, _, _, _, rfl, _⟩ := h; rfl
theorem len_Store_rows {CS CH : Addr} : ∀ ds O R X, C_Store_rows CS CH ds O R X → ds.length = 2 := fun _ _ _ _ h => by obtain ⟨_, _, _, _, _, rfl, _⟩ := h; rfl
theorem len_Store_holders {CS CH : Addr} : ∀ ds O R X, C_Store_holders CS CH ds O R X → ds.length = 2 := fun _ _ _ _ h => by obtain ⟨_, _, _, _, _, rfl, _⟩ := h; rfl
section
variable {c : Ct} {A : AS} {Q : QE}
theorem od_ixDc {n j : Nat} {xs : List Nat} (hc : A.o[n]? = some (.lst (dN xs))) (h1 : j < xs.length) (q : Q A (.val (.int (xs.getD j 0 : Nat)))) : OpD c (L2.rIx c.K) (.val (.ptr n)) (.val (.int (j : Nat))) A Q := od_ixL (lsC hc) (dN_get h1) q
theorem od_ixDs {i j : Nat} {xs : List Nat} (hc : A.s[i]? = some (some (.own (.lst (dN xs))))) (h1 : j < xs.length) (q : Q A (.val (.int (xs.getD j 0 : Nat)))) : OpD c (L2.rIx c.K) (.slot i) (.val (.int (j : Nat))) A Q := od_ixL (show lsOf A (.slot i) = some (dN xs) by simp only [lsOf, hc]) (dN_get h1) q
theorem we_countL {to : TE} {t : TA} (h : WE c to A fun A1 x => ∃ ds0, lsOf A1 x = some ds0 ∧ WAr c t A1 fun A2 rs => ∃ (ns : List Int) (y : Int), rs = [.val (.int y)] ∧ Stays A1 A2 x ∧ lsOf A2 x = some (ns.map .int) ∧ Q A2 (.val (.int (ns.count y : Nat)))) : WE c (tBM c.K "list" (rCntI c.K) to t) A Q := fun F G m σ H S E Qc k =>
  h F G m σ H S E _ fun F1 m1 A1 v H1 x e1 p1 S1 R1 ⟨ds0, l0, q⟩ => by
    obtain ⟨a, vs, rfl, hs, rv⟩ := rep_ls S1 R1 l0
    refine ⟨.inl ⟨rfl, vs, hs⟩, q F1 G m1 σ H1 S1 (E.mono e1 p1) _ fun F2 m2 A2 ws H2 rs e2 p2 S2 R2 q2 => ?_⟩
    obtain ⟨ns, y, er, st, l2, q3⟩ := q2
    subst er
    obtain ⟨w, rfl, rw_⟩ := rs1 R2
    cases rw_
    obtain ⟨b, us, eb, hu, ru⟩ := rep_ls S2 (R1.stay e2 p2 st) l2
    cases eb
    rw [ru.ints] at hu
    exact ⟨a, ns, y, rfl, rfl, hu, k F2 m2 A2 _ H2 (.val (.int (ns.count y : Nat))) (e1.trans e2) (p1.trans p2) S2 (Rep.int _) q3⟩
theorem ixN_n {n j : Nat} (h : j < n) : ixN n (j : Int) = some j := Evl.ixN_nat h
end
end AU
namespace AU
open PySem L2 AL
theorem oks_nil {k : Nat} : ∀ d ∈ ([] : List D), okE k d := fun _ h => nomatch h
theorem oks_cons {k : Nat} {x : D} {xs : List D} (h : okE k x) (r : ∀ d ∈ xs, okE k d) : ∀ d ∈ x :: xs, okE k d := fun d hd => by
  rcases List.mem_cons.mp hd with rfl | hd
  · exact h
  · exact r d hd
theorem okE_tup {k : Nat} {ds : List D} (hl : ds.length < 1000) (h : ∀ d ∈ ds, okE k d) : okE (k + 1) (.tup ds) := ⟨hl, h⟩
theorem same_self {k : Nat} {d : D} {O : List Cell} {R : List Cell → D → Prop} {X : XO} (h : okE k d) (q : R O (.bl true)) : C__law_same k [d, d] O R X := ⟨d, d, rfl, okD_of k d h, h, by rw [same_refl k d h]; exact q⟩
theorem keepj {s : List (Option SV)} {vs : List Nat} {x : Option SV} {v : Nat} (hv : v ∈ vs) {j : Nat} (hj : j ∉ vs) : ((wipeA s vs).set v x)[j]? = s[j]? := by
  rw [List.getElem?_set_ne (by intro z; exact hj (z ▸ hv))]; exact wipe_keeps hj
theorem isFromD_sub {d : D} {a b a' : Int} (h : isFromD d a b = false) (h2 : a ≤ a') : isFromD d a' b = false := by
  cases d <;> try rfl
  rename_i n
  rw [isFromD_int] at h ⊢
  by_cases h3 : n ≤ b
  · rw [decide_eq_true h3, Bool.and_true] at h ⊢
    have := of_decide_eq_false h
    exact decide_eq_false (by omega)
  · rw [decide_eq_false h3, Bool.and_false]
theorem count_of (xs : List Nat) : (xs.map Int.ofNat).count 0 = xs.count 0 := by
  induction xs with
  | nil => rfl
  | cons x r ih =>
    rw [List.map_cons, List.count_cons, List.count_cons, ih]
    cases x <;> rfl
section
variable {c : Ct} {A : AS} {t : TT} {t1 t2 : TS} {nx bk ct : AS → Prop} {rt : List Cell → D → Prop} {Q : QE}
theorem lowest_in {s : StoreM} : decide ((0 : Int) ∈ s.held.map Int.ofNat) = (lowest s).isSome := by
  unfold lowest
  have e : (0 : Int) ∈ s.held.map Int.ofNat ↔ 0 ∈ s.held := by
    constructor
    · intro h
      obtain ⟨x, hx, he⟩ := List.mem_map.mp h
      have : x = 0 := by have : (x : Int) = 0 := he; omega
      exact this ▸ hx
    · intro h; exact List.mem_map.mpr ⟨0, h, rfl⟩
  by_cases h : 0 ∈ s.held
  · rw [if_pos h, decide_eq_true (e.mpr h)]; rfl
  · rw [if_neg h, decide_eq_false (fun z => h (e.mp z))]; rfl
theorem we_index0 {i : Nat} {s : StoreM} {b : Nat} (h : A.s[i]? = some (some (.own (.lst (dN s.held))))) (hb : lowest s = some b) (q : Q A (.val (.int (b : Nat)))) : AL.WE c (tIndexA c.K (tVar i) (tCons (tC (.int 0)) tNil)) A Q := by
  obtain ⟨hbl, hb0, hbn⟩ := lowest_some hb
  have hls : lsOf A (.slot i) = some (dN s.held) := by simp only [lsOf, h]
  refine we_indexL (we_own h ?_)
  refine ⟨_, hls, war_cons (we_int (war_nil ⟨trivial, ?_⟩))⟩
  refine ⟨s.held.map Int.ofNat, 0, b, rfl, rfl, by rw [← dN_dL]; exact hls, ?_, fun m hm => ?_, q⟩
  · rw [List.getElem?_map, List.getElem?_eq_getElem hbl]
    rw [getD_lt hbl] at hb0
    show some (Int.ofNat _) = _
    rw [hb0]; rfl
  · have := hbn m hm
    rw [getD_lt (by omega)] at this
    rw [List.getElem?_map, List.getElem?_eq_getElem (by omega)]
    intro z
    have z : ((s.held[m]'(by omega) : Nat) : Int) = 0 := Option.some.inj z
    omega
theorem pys_N (xs : List Nat) : Pys (dN xs) ((xs.map Int.ofNat).map PyData.int) := by rw [dN_dL]; exact pys_ints _
/-- a test, by what it tells -/
theorem vs_ifC (P N : Prop) (h : WT c t A fun A1 b => A1 = A ∧ (b = true → P) ∧ (b = false → N)) (h1 : P → WS c t1 A ⟨nx, rt, bk, ct⟩) (h2 : N → WS c t2 A ⟨nx, rt, bk, ct⟩) : WS c (tIfS t t1 t2) A ⟨nx, rt, bk, ct⟩ :=
  vs_if fun F G m σ H S E Qc k => h F G m σ H S E Qc fun F' m' A' b H' e p S' ⟨ea, z1, z2⟩ => k F' m' A' b H' e p S' (by subst ea; exact ⟨fun hb => h1 (z1 hb), fun hb => h2 (z2 hb)⟩)
/-- a statement that ends in just one state -/
theorem vs_cutE {B : AS} (h1 : WS c t1 A ⟨fun A1 => A1 = B, rt, bk, ct⟩) (h2 : WS c t2 B ⟨nx, rt, bk, ct⟩) : WS c (tSeq t1 t2) A ⟨nx, rt, bk, ct⟩ := vs_cut (fun A1 => A1 = B) h1 fun A1 e => by subst e; exact h2
theorem od_inOwn {i : Nat} {x : Int} {xs : List Nat} (h : A.s[i]? = some (some (.own (.lst (dN xs))))) (q : Q A (.val (.bl (decide (x ∈ xs.map Int.ofNat))))) : OpD c (rInA c.K) (.val (.int x)) (.slot i) A Q := fun F G m σ H v w S E R1 R2 Qc k => by
  cases R1
  obtain ⟨e1, _, e2⟩ := R2
  obtain ⟨a, ea, _, _, _, _, vs, hv, rv⟩ := S.s.ownAt h
  rw [e1] at ea; cases ea
  rw [dN_dL] at rv
  rw [rv.ints] at hv
  refine ⟨a, _, rfl, .inl (.inl (.inl hv)), rfl, flat_intsV _, ?_⟩
  show Qc (.bl (inV (.int x) ((xs.map Int.ofNat).map V.int))) H
  rw [inV_ints]
  exact k F m A _ H (.val (.bl _)) (Evl.Ex.refl F) (Pre.refl m) S (Rep.bl _) q
end
end AU
local macro_rules | `(tactic| walk_at "oke") => `(tactic| (repeat (first | exact trivial | refine AU.okE_tup (Nat.le_of_ble_eq_true rfl) ?_ | exact AU.oks_nil | refine AU.oks_cons ?_ ?_)))
local macro_rules | `(tactic| walk_at "go1") => `(tactic| first
  | ((with_reducible refine' AL.cb_repr ?hp ?hs ?_); (case hp => assumption); (case hs => assumption))
  | ((with_reducible refine' AU.od_ixDc ?hc ?h1 ?_); (case hc => walk_at "cell"); (case h1 => omega))
  | ((with_reducible refine' AU.od_ixDs ?hc ?h1 ?_); (case hc => rfl); (case h1 => omega))
  | ((with_reducible refine' AL.app_go ?h ?hl ?_); (case h => rfl); (case hl => first | exact Nat.le_of_ble_eq_true rfl | omega | (simp only [List.length_map, List.length_append, List.length_cons, List.length_nil]; omega)))
  | ((with_reducible refine' AL.od_ixT ?h1 ?h2 ?_); (case h1 => rfl); (case h2 => exact AL.atI_of (by decide) rfl))
  | ((with_reducible refine' AL.od_ixL ?h1 ?h2 ?_); (case h1 => rfl); (case h2 => exact AL.atI_of (by decide) rfl)))
local macro_rules | `(tactic| walk_at "gos1") => `(tactic| (with_reducible first
  | refine' AL.vs_seqA ?_
  | refine' AL.vs_seqD ?_
  | refine' AL.vs_seqO ?_
  | refine AL.vs_ret ?_
  | refine AL.vs_asg ?_
  | refine AL.vs_own ?_
  | refine AL.vs_next ?_
  | refine AL.vs_break ?_
  | refine AL.vs_cont ?_
  | refine AL.vs_retN ?_
  | refine AL.frz_val ?_
  | refine AL.we_int ?_
  | refine AL.we_bl ?_
  | refine AL.we_non ?_
  | refine AL.we_str ?_
  | refine AL.we_ty ?_
  | refine AL.we_op ?_
  | refine AL.we_un ?_
  | refine AL.we_and ?_
  | refine AL.we_or ?_
  | refine AL.we_not ?_
  | refine AL.we_if ?_
  | refine AL.we_ofList ?_
  | refine AL.we_cb ?_
  | refine AL.we_tup ?_
  | refine AL.we_call0 ?_
  | refine AL.vb_call ?_
  | refine AL.vb_meth ?_
  | refine AL.we_meth ?_
  | refine AL.we_prop ?_
  | refine AL.we_fld ?_
  | refine AL.wt_test ?_
  | refine AL.wt_B ?_
  | refine AL.wt_and ?_
  | refine AL.wt_or ?_
  | refine AL.wt_not ?_
  | refine AL.wa_nil ?_
  | refine AL.wa_cons ?_
  | refine AL.war_nil ?_
  | refine AL.war_cons ?_
  | refine AL.wo_none ?_
  | refine AL.wo_some ?_
  | refine AL.wg_name ?_
  | refine AL.wgs_nil ?_
  | refine AL.wgs_cons ?_
  | refine AL.stays_val ?_
  | refine AL.brT ?_
  | refine AL.brF ?_
  | refine AL.brTn ?_
  | refine AL.brFn ?_
  | refine AL.ex_bl ?_
  | refine AL.ex_int ?_
  | refine AL.od_add ?_
  | refine AL.od_sub ?_
  | refine AL.od_lt ?_
  | refine AL.od_le ?_
  | refine AL.od_gt ?_
  | refine AL.od_ge ?_
  | refine AL.ud_neg ?_
  | refine AL.cb_int ?_
  | refine AL.cb_intB ?_
  | refine AL.cb_abs ?_
  | refine AL.cb_max2 ?_
  | refine AL.cb_min2 ?_
  | refine AL.we_ofLst ?_
  | refine AL.we_ofLc ?_
  | refine AL.wn_lst ?_
  | refine AL.wn_cb ?_
  | refine AL.wi_seq ?_
  | refine AL.wi_r1 ?_
  | refine AL.wi_r2 ?_))
local macro_rules | `(tactic| walk_at "gom") => `(tactic| ((repeat (first | walk_at "gos1" | walk_at "am1" | walk_at "go1" | walk_at "am2" | walk_at "aln1" | walk_at "al2")); all_goals (try dsimp only [AL.as_eta])))

/-! sorted of a list of pure data, the result as one list -/
namespace AL
open PySem PySem.Spec PyProof.Rows L2
mutual
def encD : D → PyData
  | .non => .none
  | .bl b => .bool b
  | .int i => .int i
  | .str x => .str x
  | .lst ds => .list (encDs ds)
  | .scr ds => .list (encDs ds)
  | .tup ds => .tuple (encDs ds)
  | .sct ds => .tuple (encDs ds)
  | .ptr _ => .none
  | .obj _ _ => .none
  | .cls _ => .none
  | .ty _ => .none
def encDs : List D → List PyData
  | [] => []
  | d :: ds => encD d :: encDs ds
end
theorem encDs_map : ∀ ds : List D, encDs ds = ds.map encD
  | [] => rfl
  | d :: ds => by rw [encDs, encDs_map ds]; rfl
mutual
inductive PureD : D → Prop where
  | non : PureD .non
  | bl (b : Bool) : PureD (.bl b)
  | int (i : Int) : PureD (.int i)
  | str (x : Str) : PureD (.str x)
  | lst {ds : List D} : PureDs ds → PureD (.lst ds)
  | scr {ds : List D} : PureDs ds → PureD (.scr ds)
  | tup {ds : List D} : PureDs ds → PureD (.tup ds)
  | sct {ds : List D} : PureDs ds → PureD (.sct ds)
inductive PureDs : List D → Prop where
  | nil : PureDs []
  | cons {d : D} {ds : List D} : PureD d → PureDs ds → PureDs (d :: ds)
end
mutual
theorem PureD.py : ∀ {d : D}, PureD d → Py d (encD d)
  | _, .non => by unfold encD; exact .non
  | _, .bl b => by unfold encD; exact .bl b
  | _, .int i => by unfold encD; exact .int i
  | _, .str x => by unfold encD; exact .str x
  | _, .lst h => by unfold encD; exact .lst (PureDs.pys h)
  | _, .scr h => by unfold encD; exact .scr (PureDs.pys h)
  | _, .tup h => by unfold encD; exact .tup (PureDs.pys h)
  | _, .sct h => by unfold encD; exact .sct (PureDs.pys h)
theorem PureDs.pys : ∀ {ds : List D}, PureDs ds → Pys ds (encDs ds)
  | _, .nil => by unfold encDs; exact .nil
  | _, .cons h t => by unfold encDs; exact .cons (PureD.py h) (PureDs.pys t)
end
theorem pureDs_map {α : Type} {f : α → D} (h : ∀ a, PureD (f a)) : ∀ xs : List α, PureDs (xs.map f)
  | [] => .nil
  | x :: xs => .cons (h x) (pureDs_map h xs)
/-- sorted, of data -/
abbrev leD : D → D → Bool := PySem.W.dataLe false encD
def sortD (ds : List D) : List D := ds.mergeSort leD
/-- these can be sorted -/
structure SortOk (ds : List D) : Prop where
  al : PySem.W.AllAlike (ds.map encD)
  so : PySem.W.Sortable (ds.map encD)
  dp : ∀ d ∈ ds, (encD d).depth ≤ 8
  pu : ∀ d ∈ ds, PureD d
def rSortD (K : PySem.W.Frag) : List V → Hp → VK → Prop := fun xs H Q => ∃ (a : Addr) (bs : List (V × D)), xs = [.ref a] ∧ SqL K H a (bs.map (·.1)) ∧ (∀ b ∈ bs, Dp K H b.1 (encD b.2)) ∧ PySem.W.AllAlike (bs.map fun b => encD b.2) ∧ PySem.W.Sortable (bs.map fun b => encD b.2) ∧ (∀ b ∈ bs, (encD b.2).depth ≤ 8) ∧
  ∀ p, H p = none → Q (.ref p) (upd H p (.lst ((bs.mergeSort (PySem.W.dataLe false fun b => encD b.2)).map (·.1))))
theorem each_of : ∀ {bs : List (V × D)} {us : List Value}, Vals (bs.map (·.1)) us → PySem.W.EachIs (fun (u : Value) (b : V × D) => RelV b.1 u) us bs
  | [], us, r => by rw [List.map_nil] at r; cases r; exact .nil
  | b :: bs, us, r => by rw [List.map_cons] at r; cases r with | cons h t => exact .cons h (each_of t)
theorem vals_of : ∀ {bs : List (V × D)} {us : List Value}, PySem.W.EachIs (fun (u : Value) (b : V × D) => RelV b.1 u) us bs → Vals (bs.map (·.1)) us
  | _, _, .nil => .nil
  | _, _, .cons h t => by rw [List.map_cons]; exact .cons h (vals_of t)
theorem each_reads {X : Cx} {pins : List (Addr × Obj)} {σ : L2.St} {H : Hp} {s : Shared} (I : Inv X pins σ H s) : ∀ {bs : List (V × D)} {us : List Value}, (∀ b ∈ bs, Dp X.K H b.1 (encD b.2)) → PySem.W.EachIs (fun (u : Value) (b : V × D) => RelV b.1 u) us bs → PySem.W.EachIs (fun (u : Value) (b : V × D) => ∃ as, Reads s.heap u (encD b.2) as) us bs
  | _, _, _, .nil => .nil
  | _, _, hd, .cons h t => .cons (Dp.reads I _ _ _ (hd _ List.mem_cons_self) h) (each_reads I (fun b hb => hd b (List.mem_cons_of_mem _ hb)) t)
theorem cr_sortD {X : Cx} (hu : X.A.units + 64 < cLine) : CallR X (.builtin "sorted") (rSortD X.K) := by
  intro pins s σ H xs us Q I r h
  obtain ⟨a, bs, rfl, hs, hd, hal, hk, hdep, q⟩ := h
  obtain ⟨its, rv, hl, hz⟩ := I.list hs
  obtain ⟨u, rfl, ru⟩ := vals1 r
  obtain rfl : u = Value.ref a := ru
  have e := each_of rv
  have hbl : bs.length ≤ sizeLine := by rw [List.length_map] at hz; exact hz
  refine PySem.W.sorted_data (R := fun u b => RelV b.1 u) (enc := fun b => encD b.2) hl.isList e (each_reads I hd e) hal hk hbl (fun b hb => by have := hdep b hb; omega) fun out hlen eo => ?_
  have ho := sortedAll_at s.heap its (List.toArray out)
  obtain ⟨n, hn⟩ : ∃ n, (sortedAll s.heap its (List.toArray out)).get? (s.heap.objs.size + 1) = some (seqObj "list" (List.toArray out) n) := by
    first | exact ⟨_, ho⟩ | exact ho
  refine ⟨.ref (s.heap.objs.size + 1), upd H (s.heap.objs.size + 1) (.lst ((bs.mergeSort (PySem.W.dataLe false fun b => encD b.2)).map (·.1))), I.laid (t' := s.toks) (fun b o e => sortedAll_old e) (Nat.le_succ _) ⟨?_, out, n, vals_of eo, hn⟩, rfl, q _ (I.hok.fresh (Nat.le_succ _))⟩
  rw [List.length_map, List.length_mergeSort]
  exact hbl
theorem cr_sortDK {X : Cx} {K : PySem.W.Frag} (hK : X.K = K) (hu : X.A.units + 64 < cLine) : CallR X (.builtin "sorted") (rSortD K) := hK ▸ cr_sortD hu
/-! ### in the abstract -/
theorem reps_zip {K : PySem.W.Frag} {F : Hp} {m : List Addr} : ∀ {vs : List V} {ds : List D}, Reps K F m vs ds → ∀ b ∈ vs.zip ds, Rep K F m b.1 b.2
  | _, _, .nil, b, h => nomatch h
  | _, _, .cons a r, b, h => by
    rw [List.zip_cons_cons] at h
    rcases List.mem_cons.mp h with e | h
    · subst e; exact a
    · exact reps_zip r b h
theorem reps_unzip {K : PySem.W.Frag} {F : Hp} {m : List Addr} : ∀ {bs : List (V × D)}, (∀ b ∈ bs, Rep K F m b.1 b.2) → Reps K F m (bs.map (·.1)) (bs.map (·.2))
  | [], _ => .nil
  | b :: bs, h => .cons (h b List.mem_cons_self) (reps_unzip fun x hx => h x (List.mem_cons_of_mem _ hx))
section
variable {c : Ct} {A : AS} {x : RV}
theorem cn_sortD {ds : List D} {Q : AS → List D → Prop} (h : lsOf A x = some ds) (ok : SortOk ds) (q : Q A (sortD ds)) : CbN c (rSortD c.K) [x] A Q := fun F G m σ H vs S E R Qc k => by
  obtain ⟨v, rfl, r⟩ := rs1 R
  obtain ⟨a, vs, rfl, hs, rv⟩ := rep_ls S r h
  have hl := rv.len
  have e1 : (vs.zip ds).map (·.1) = vs := List.map_fst_zip (by omega)
  have e2 : (vs.zip ds).map (·.2) = ds := List.map_snd_zip (by omega)
  have hz := reps_zip rv
  have hmem : ∀ b ∈ vs.zip ds, b.2 ∈ ds := fun b hb => by rw [← e2]; exact List.mem_map.mpr ⟨b, hb, rfl⟩
  have e3 : (vs.zip ds).map (fun b => encD b.2) = ds.map encD := by (conv => rhs; rw [← e2, List.map_map]); rfl
  refine ⟨a, vs.zip ds, rfl, by rw [e1]; exact hs, fun b hb => (ok.pu _ (hmem b hb)).py.dp S.h.exF (hz b hb), by rw [e3]; exact ok.al, by rw [e3]; exact ok.so, fun b hb => ok.dp _ (hmem b hb), fun p hp => ?_⟩
  have e4 : ((vs.zip ds).mergeSort (PySem.W.dataLe false fun b => encD b.2)).map (·.2) = sortD ds := by
    unfold sortD
    rw [List.map_mergeSort (r := PySem.W.dataLe false fun b : V × D => encD b.2) (s := leD) (f := Prod.snd) (l := vs.zip ds) (fun a ha b hb => rfl)]
    rw [e2]
  have rr := reps_unzip (K := c.K) (F := F) (m := m) (bs := (vs.zip ds).mergeSort (PySem.W.dataLe false fun b => encD b.2)) fun b hb => hz b (List.mem_mergeSort.mp hb)
  rw [e4] at rr
  exact k F m A p _ _ (sortD ds) (Evl.Ex.refl F) (Pre.refl m) (S.new hp) (S.h.fresh hp).1 (S.h.fresh hp).2.1 (S.h.fresh hp).2.2 (S.notOwn hp) upd_same rr q
end
end AL

/-! Data whose lists may be cells: compared, shown, walked. -/
namespace AL
open PySem L2
mutual
inductive PyO (O : List Cell) : D → PyData → Prop where
  | non : PyO O .non .none
  | bl (b : Bool) : PyO O (.bl b) (.bool b)
  | int (i : Int) : PyO O (.int i) (.int i)
  | str (x : Str) : PyO O (.str x) (.str x)
  | lst {ds : List D} {ps : List PyData} : PyOs O ds ps → PyO O (.lst ds) (.list ps)
  | tup {ds : List D} {ps : List PyData} : PyOs O ds ps → PyO O (.tup ds) (.tuple ps)
  | ptr {n : Nat} {ds : List D} {ps : List PyData} : O[n]? = some (.lst ds) → PyOs O ds ps → PyO O (.ptr n) (.list ps)
inductive PyOs (O : List Cell) : List D → List PyData → Prop where
  | nil : PyOs O [] []
  | cons {d : D} {p : PyData} {ds : List D} {ps : List PyData} : PyO O d p → PyOs O ds ps → PyOs O (d :: ds) (p :: ps)
end
section
variable {K : PySem.W.Frag} {F G H : Hp} {m : List Addr} {O : List Cell}
mutual
theorem PyO.dp (S : HS K F G m O H) : ∀ {d : D} {p : PyData} {v : V}, PyO O d p → Rep K F m v d → Dp K H v p
  | _, _, _, .non, .non => .non
  | _, _, _, .bl b, .bl _ => .bl b
  | _, _, _, .int i, .int _ => .int i
  | _, _, _, .str x, .str _ => .str x
  | _, _, _, .lst h, .lst a r => .lst (.inl (.inl (S.exF _ _ a))) (PyOs.dp S h r)
  | _, _, _, .tup h, .tup a r => .tup (Evl.ex_t S.exF a.seq) (PyOs.dp S h r)
  | _, _, _, .ptr e h, .ptr em => by
    obtain ⟨_, _, vs, hv, rv⟩ := S.cell _ _ _ em e trivial
    exact .lst (.inl (.inl hv)) (PyOs.dp S h rv)
theorem PyOs.dp (S : HS K F G m O H) : ∀ {d : List D} {p : List PyData} {v : List V}, PyOs O d p → Reps K F m v d → DpAll K H v p
  | _, _, _, .nil, .nil => .nil
  | _, _, _, .cons h t, .cons a r => .cons (PyO.dp S h a) (PyOs.dp S t r)
end
end
theorem pyOs_map {α : Type} {O : List Cell} {f : α → D} {g : α → PyData} (h : ∀ a, PyO O (f a) (g a)) : ∀ xs : List α, PyOs O (xs.map f) (xs.map g)
  | [] => .nil
  | x :: xs => .cons (h x) (pyOs_map h xs)
theorem pyOs_get {O : List Cell} : ∀ {ds : List D} {ps : List PyData}, ds.length = ps.length → (∀ (i : Nat) d p, ds[i]? = some d → ps[i]? = some p → PyO O d p) → PyOs O ds ps
  | [], [], _, _ => .nil
  | [], _ :: _, h, _ => by simp at h
  | _ :: _, [], h, _ => by simp at h
  | d :: ds, p :: ps, h, k => .cons (k 0 d p rfl rfl) (pyOs_get (by simpa using h) fun i d p h1 h2 => k (i + 1) d p h1 h2)
theorem pyOs_ints {O : List Cell} (ns : List Int) : PyOs O (ns.map .int) (ns.map .int) := pyOs_map (fun i => .int i) ns
/-- a value, or an own list, by what stands in the cells -/
def PyRO (A : AS) (r : RV) (p : PyData) : Prop := match r with
  | .val d => PyO A.o d p
  | .slot i => ∃ ds ps, A.s[i]? = some (some (.own (.lst ds))) ∧ PyOs A.o ds ps ∧ p = .list ps
section
variable {c : Ct} {A : AS} {x y : RV} {Q : QE}
theorem PyRO.dp {K : PySem.W.Frag} {F G H : Hp} {m : List Addr} {σ : St} {v : V} {r : RV} {p : PyData} (S : Sim K F G m A σ H) (R : RepR K F m A σ v r) (h : PyRO A r p) : Dp K H v p := by
  cases r with
  | slot i =>
    obtain ⟨ds, ps, e, hp, rfl⟩ := h
    obtain ⟨e1, x, e2⟩ := R
    obtain ⟨a, q, _, _, _, _, vs, hv, rv⟩ := S.s.ownAt e
    rw [e1] at q; cases q
    exact .lst (.inl (.inl hv)) (hp.dp S.h rv)
  | val d => exact PyO.dp S.h h R
theorem od_eqO {p q : PyData} {b : Bool} (hx : PyRO A x p) (hy : PyRO A y q) (s1 : SeqAt.shaped p = true) (s2 : SeqAt.shaped q = true) (hb : PyData.eqv p q = b) (k : Q A (.val (.bl b))) : OpD c (rEqA c.K) x y A Q := fun F G m σ H v w S E R1 R2 Qc kc =>
  .inr ⟨p, q, hx.dp S R1, hy.dp S R2, s1, s2, by rw [hb]; exact kc F m A _ H (.val (.bl b)) (Evl.Ex.refl F) (Pre.refl m) S (Rep.bl b) k⟩
theorem od_neO {p q : PyData} {b : Bool} (hx : PyRO A x p) (hy : PyRO A y q) (s1 : SeqAt.shaped p = true) (s2 : SeqAt.shaped q = true) (hb : PyData.eqv p q = b) (k : Q A (.val (.bl (!b)))) : OpD c (rNeA c.K) x y A Q := fun F G m σ H v w S E R1 R2 Qc kc =>
  .inr ⟨p, q, hx.dp S R1, hy.dp S R2, s1, s2, by rw [hb]; exact kc F m A _ H (.val (.bl (!b))) (Evl.Ex.refl F) (Pre.refl m) S (Rep.bl (!b)) k⟩
theorem cb_reprO {d : D} {p : PyData} (hp : PyO A.o d p) (hs : Shows p) (q : Q A (.val (.str p.shown))) : CbD c (rRepr c.K) [.val d] A Q := fun F G m σ H vs S E R Qc k => by
  obtain ⟨v, rfl, R1⟩ := rs1 R
  exact ⟨v, p, rfl, PyO.dp S.h hp R1, hs, k F m A _ H (.val (.str p.shown)) (Evl.Ex.refl F) (Pre.refl m) S (Rep.str _) q⟩
end
/-! ### sequences: lists, tuples, cells -/
def SeqO (O : List Cell) (d : D) (ds : List D) : Prop := d = .lst ds ∨ d = .tup ds ∨ ∃ n, d = .ptr n ∧ O[n]? = some (.lst ds)
theorem SeqO.set {O : List Cell} {d : D} {ds : List D} {i : Nat} {C : Addr} {fs : List (Str × D)} {c : Cell} (h : SeqO O d ds) (hi : O[i]? = some (.ins C fs)) : SeqO (O.set i c) d ds := by
  rcases h with h | h | ⟨n, h, hn⟩
  · exact .inl h
  · exact .inr (.inl h)
  · refine .inr (.inr ⟨n, h, ?_⟩)
    have ne : i ≠ n := fun e => by rw [e, hn] at hi; cases hi
    rw [List.getElem?_set_ne ne]; exact hn
theorem SeqO.app {O P : List Cell} {d : D} {ds : List D} (h : SeqO O d ds) : SeqO (O ++ P) d ds := by
  rcases h with h | h | ⟨n, h, hn⟩
  · exact .inl h
  · exact .inr (.inl h)
  · refine .inr (.inr ⟨n, h, ?_⟩)
    rw [List.getElem?_append_left (List.getElem?_eq_some_iff.mp hn).1]; exact hn
theorem SeqO.py {O : List Cell} {d : D} {ds : List D} {ps : List PyData} (h : SeqO O d ds) (hp : PyOs O ds ps) : PyO O d (.list ps) ∨ PyO O d (.tuple ps) := by
  rcases h with rfl | rfl | ⟨n, rfl, hn⟩
  · exact .inl (.lst hp)
  · exact .inr (.tup hp)
  · exact .inl (.ptr hn hp)
section
variable {c : Ct} {A : AS} {te tl : TE} {Q : QE}
theorem cb_tupO {d : D} {ds : List D} (h : SeqO A.o d ds) (q : Q A (.val (.tup ds))) : CbD c (rTupP c.K) [.val d] A Q := by
  rcases h with rfl | rfl | ⟨n, rfl, hn⟩
  · exact cb_tupL rfl q
  · exact cb_tupT rfl q
  · exact cb_tupL (by simp only [lsOf, hn]) q
theorem cn_listO {d : D} {ds : List D} {Q : AS → List D → Prop} (h : SeqO A.o d ds) (q : Q A ds) : CbN c (rListA c.K) [.val d] A Q := by
  rcases h with rfl | rfl | ⟨n, rfl, hn⟩
  · exact cn_listL rfl q
  · exact cn_listT rfl q
  · exact cn_listL (by simp only [lsOf, hn]) q
theorem cb_lenO {d : D} {ds : List D} (h : SeqO A.o d ds) (q : Q A (.val (.int (ds.length : Int)))) : CbD c (rLenA c.K) [.val d] A Q := by
  rcases h with rfl | rfl | ⟨n, rfl, hn⟩
  · exact cb_lenL rfl q
  · exact cb_lenT rfl q
  · exact cb_lenL (by simp only [lsOf, hn]) q
theorem od_ixO {d : D} {ds : List D} {i : Int} {x : D} (h : SeqO A.o d ds) (hx : atI ds i = some x) (q : Q A (.val x)) : OpD c (rIx c.K) (.val d) (.val (.int i)) A Q := by
  rcases h with rfl | rfl | ⟨n, rfl, hn⟩
  · exact od_ixL rfl hx q
  · exact od_ixT rfl hx q
  · exact od_ixL (by simp only [lsOf, hn]) hx q
/-- a comprehension over a sequence in a slot whose elements touch no cell -/
theorem wn_lcV {g : TG} {vs : List Nat} {i : Nat} {d : D} {ds es : List D} {Q : AS → List D → Prop} (hg : GOk g vs) (hi : A.s[i]? = some (some (.val d))) (hd : SeqO A.o d ds) (no : noOwnB A.s vs = true) (hl : ds.length < 100000) (he : es.length = ds.length)
    (hs : ∀ (j : Nat) (x : D), ds[j]? = some x → WG c g x ⟨wipeA A.s vs, A.o⟩ fun A2 => WE c te A2 fun A4 r => Frz A4 r fun A5 e => es[j]? = some e ∧ A5.o = A.o ∧ ∀ q, q ∉ vs → A5.s[q]? = A.s[q]?) (q : Q A es) : WN c (tLc (iSeq c.K (tVar i)) g tYes te vs) A Q := by
  have step : ∀ (j : Nat) (x : D) (O : List Cell) (acc : List D), ds[j]? = some x → (O = A.o ∧ acc = es.take j) → WG c g x ⟨wipeA A.s vs, O⟩ fun A2 => WT c tYes A2 fun A3 b => (b = true → WE c te A3 fun A4 r => Frz A4 r fun A5 e => (A5.o = A.o ∧ acc ++ [e] = es.take (j + 1)) ∧ ∀ q, q ∉ vs → A5.s[q]? = A.s[q]?) ∧
        (b = false → (A3.o = A.o ∧ acc = es.take (j + 1)) ∧ ∀ q, q ∉ vs → A3.s[q]? = A.s[q]?) := by
    rintro j x O acc hx ⟨rfl, rfl⟩
    intro F G m σ H v S R E Qc k
    refine hs j x hx F G m σ H v S R E Qc fun F2 m2 A2 σ2 H2 e2 p2 S2 q2 => k F2 m2 A2 σ2 H2 e2 p2 S2 (wt_yes ⟨fun _ => ?_, fun b => nomatch b⟩)
    refine q2.imp fun A4 r q4 => frz_imp q4 fun A5 e5 ⟨h1, h2, h3⟩ => ⟨⟨h2, ?_⟩, h3⟩
    rw [List.take_add_one, h1]; rfl
  rcases hd with rfl | rfl | ⟨n, rfl, hn⟩
  · exact wn_lcI hg (wi_seq (we_var hi (frz_val ⟨ds, rfl, no, hl, fun j O acc => O = A.o ∧ acc = es.take j, ⟨rfl, rfl⟩, step, fun O acc ⟨h1, h2⟩ => by rw [h1, h2, ← he, List.take_length]; exact q⟩)))
  · exact wn_lcI hg (wi_seq (we_var hi (frz_val ⟨ds, rfl, no, hl, fun j O acc => O = A.o ∧ acc = es.take j, ⟨rfl, rfl⟩, step, fun O acc ⟨h1, h2⟩ => by rw [h1, h2, ← he, List.take_length]; exact q⟩)))
  · exact wn_lcC hg (we_var hi ⟨n, ds, rfl, hn, no, hl, fun j O acc => O = A.o ∧ acc = es.take j, ⟨rfl, rfl⟩, fun j O acc ⟨h1, _⟩ => by rw [h1]; exact hn, step, fun O acc ⟨h1, h2⟩ => by rw [h1, h2, ← he, List.take_length]; exact q⟩)
end
/-! ### what equality says -/
theorem eqvAll_map {α : Type} [DecidableEq α] {f : α → PyData} (h : ∀ a b, PyData.eqv (f a) (f b) = decide (a = b)) : ∀ xs ys : List α, PyData.eqvAll (xs.map f) (ys.map f) = decide (xs = ys)
  | [], [] => by simp [PyData.eqvAll]
  | [], _ :: _ => by simp [PyData.eqvAll]
  | _ :: _, [] => by simp [PyData.eqvAll]
  | x :: a, y :: b => by
    simp only [List.map_cons, PyData.eqvAll, eqvAll_map h a b, h]
    by_cases e : x = y
    · subst e; simp
    · simp [e]
theorem eqv_mapL {α : Type} [DecidableEq α] {f : α → PyData} (h : ∀ a b, PyData.eqv (f a) (f b) = decide (a = b)) (xs ys : List α) : PyData.eqv (.list (xs.map f)) (.list (ys.map f)) = decide (xs = ys) := by rw [PyData.eqv]; exact eqvAll_map h xs ys
theorem eqv_mapT {α : Type} [DecidableEq α] {f : α → PyData} (h : ∀ a b, PyData.eqv (f a) (f b) = decide (a = b)) (xs ys : List α) : PyData.eqv (.tuple (xs.map f)) (.tuple (ys.map f)) = decide (xs = ys) := by rw [PyData.eqv]; exact eqvAll_map h xs ys
def pOp : Option Nat → PyData
  | none => .none
  | some n => .int (n : Nat)
theorem eqv_op : ∀ a b : Option Nat, PyData.eqv (pOp a) (pOp b) = decide (a = b)
  | none, none => by simp [pOp, PyData.eqv]
  | none, some _ => by simp [pOp, PyData.eqv]
  | some _, none => by simp [pOp, PyData.eqv]
  | some a, some b => by
    simp only [pOp, PyData.eqv, Option.some.injEq]
    exact decide_eq_decide.mpr (by omega)
def pStepL (row : List (Option Nat)) : PyData := .list (row.map pOp)
def pStepT (row : List (Option Nat)) : PyData := .tuple (row.map pOp)
theorem eqv_stepL (a b : List (Option Nat)) : PyData.eqv (pStepL a) (pStepL b) = decide (a = b) := eqv_mapL eqv_op a b
theorem eqv_stepT (a b : List (Option Nat)) : PyData.eqv (pStepT a) (pStepT b) = decide (a = b) := eqv_mapT eqv_op a b
theorem layL {α : Type} {f : α → PyData} {xs : List α} (h : ∀ x, (f x).canLay0 = true) : (PyData.list (xs.map f)).canLay0 = true := layAll (ps := xs.map f) fun p hp => by obtain ⟨x, _, rfl⟩ := List.mem_map.mp hp; exact h x
theorem depL {α : Type} {f : α → PyData} {xs : List α} {n : Nat} (h : ∀ x, (f x).depth ≤ n) : (PyData.list (xs.map f)).depth ≤ n + 1 := Nat.succ_le_succ (depAll (ps := xs.map f) fun p hp => by obtain ⟨x, _, rfl⟩ := List.mem_map.mp hp; exact h x)
theorem can_op (o : Option Nat) : (pOp o).canLay0 = true := by cases o <;> rfl
theorem dep_op (o : Option Nat) : (pOp o).depth ≤ 0 := by cases o <;> exact Nat.le_refl _
theorem shaped_of {p : PyData} {n : Nat} (h : p.canLay0 = true) (d : p.depth ≤ n) (hn : n ≤ 64) : SeqAt.shaped p = true := by
  unfold SeqAt.shaped
  rw [Bool.and_eq_true]
  exact ⟨h, decide_eq_true (Nat.le_trans d hn)⟩
theorem shaped_stepsL (xs : List (List (Option Nat))) : SeqAt.shaped (.list (xs.map pStepL)) = true := shaped_of (layL fun _ => layL can_op) (depL fun _ => depL dep_op) (by decide)
theorem shaped_stepsT (xs : List (List (Option Nat))) : SeqAt.shaped (.tuple (xs.map pStepT)) = true := shaped_of (layTup fun _ => layTup can_op) (depTup fun _ => depTup dep_op) (by decide)
theorem pyO_op {O : List Cell} (o : Option Nat) : PyO O (dOp o) (pOp o) := by
  cases o with
  | none => exact .non
  | some n => exact .int _
theorem py_op (o : Option Nat) : Py (dOp o) (pOp o) := by
  cases o with
  | none => exact .non
  | some n => exact .int _
theorem py_steps (xs : List (List (Option Nat))) : Py (.tup (xs.map dStep)) (.tuple (xs.map pStepT)) := .tup (pysMap (fun row => .tup (pysMap py_op row)) xs)
end AL

/-! Deadlines: the earliest first. -/
namespace BE
open PySem L2 AL PySem.W
open PyProof.Rows hiding encD
/-- a need: ticket, how many, by when -/
abbrev Nd := Int × Int × Int
abbrev dNd (n : Nd) : D := .tup [.int n.1, .int n.2.1, .int n.2.2]
abbrev dO (n : Nd) : D := .tup [.int n.2.2, .int n.1, .int n.2.1]
abbrev dTw (n : Nd) : D := .tup [.int n.1, .int n.2.1]
theorem enc_dO (n : Nd) : encD (dO n) = .tuple [.int n.2.2, .int n.1, .int n.2.1] := by simp [dO, encD, encDs]
def sortN (ns : List Nd) : List Nd := ns.mergeSort fun a b => leD (dO a) (dO b)
theorem sort_ord (ns : List Nd) : sortD (ns.map dO) = (sortN ns).map dO := by
  unfold sortD sortN
  rw [List.map_mergeSort (r := fun a b => leD (dO a) (dO b)) (s := leD) (f := dO) (l := ns) (fun a ha b hb => rfl)]
theorem ok_ord (ns : List Nd) : SortOk (ns.map dO) := by
  have e : (ns.map dO).map encD = ns.map fun n => PyData.tuple [.int n.2.2, .int n.1, .int n.2.1] := by
    rw [List.map_map]; exact List.map_congr_left fun n _ => enc_dO n
  refine ⟨?_, ?_, ?_, ?_⟩
  · rw [e]; exact PySem.W.AllAlike.of fun b b' => by rw [PySem.W.alike]; rfl
  · rw [e]; refine .inl fun d hd => ?_
    obtain ⟨n, _, rfl⟩ := List.mem_map.mp hd
    exact ⟨_, _, rfl⟩
  · intro d hd
    obtain ⟨n, _, rfl⟩ := List.mem_map.mp hd
    rw [enc_dO]; simp [PyData.depth, PyData.depthAll]
  · intro d hd
    obtain ⟨n, _, rfl⟩ := List.mem_map.mp hd
    exact .tup (.cons (.int _) (.cons (.int _) (.cons (.int _) .nil)))
theorem sortN_perm (ns : List Nd) : (sortN ns).Perm ns := List.mergeSort_perm ..
theorem le_by {a b : Nd} (h : leD (dO a) (dO b) = true) : a.2.2 ≤ b.2.2 := by
  rw [show leD (dO a) (dO b) = !lexLt itemOrd (keyToks (encD (dO b))) (keyToks (encD (dO a))) from rfl, enc_dO, enc_dO] at h
  simp only [keyToks, keyToksAll, List.cons_append, List.nil_append] at h
  by_cases z : a.2.2 ≤ b.2.2
  · exact z
  · exfalso
    rw [lex_self] at h
    have ne : (Sum.inl b.2.2 : Int ⊕ List Nat) ≠ .inl a.2.2 := fun q => z (by injection q with q; omega)
    rw [lex_diff (O := itemOrd) ne] at h
    simp [itemLt] at h
    omega
theorem sortN_sorted (ns : List Nd) : (sortN ns).Pairwise fun a b => a.2.2 ≤ b.2.2 := by
  have t := sort_pairwise (sortLe_total (listOrd itemOrd) false fun n : Nd => keyToks (encD (dO n))) ns
  exact t.imp fun h => le_by h
/-- the first deadline that is missed -/
def lateF : Int → List Nd → Option Int
  | _, [] => none
  | u, n :: r => if u + n.2.1 > n.2.2 then some n.2.2 else lateF (u + n.2.1) r
def latesF : Int → List Nd → List Int
  | _, [] => []
  | u, n :: r => (if u + n.2.1 > n.2.2 then [n.2.2] else []) ++ latesF (u + n.2.1) r
theorem lates_head : ∀ (u : Int) (l : List Nd), (latesF u l).head? = lateF u l
  | _, [] => rfl
  | u, n :: r => by
    unfold latesF lateF
    by_cases h : u + n.2.1 > n.2.2
    · rw [if_pos h, if_pos h]; rfl
    · rw [if_neg h, if_neg h]; exact lates_head _ r
def useF (u : Int) (l : List Nd) : Int := l.foldl (fun u n => u + n.2.1) u
theorem useF_snoc (u : Int) (l : List Nd) (n : Nd) : useF u (l ++ [n]) = useF u l + n.2.1 := by unfold useF; rw [List.foldl_append]; rfl
theorem lates_snoc : ∀ (u : Int) (l : List Nd) (n : Nd), latesF u (l ++ [n]) = latesF u l ++ (if useF u l + n.2.1 > n.2.2 then [n.2.2] else [])
  | u, [], n => by
    show (if u + n.2.1 > n.2.2 then [n.2.2] else []) ++ latesF (u + n.2.1) [] = [] ++ (if u + n.2.1 > n.2.2 then [n.2.2] else [])
    simp [latesF]
  | u, m :: r, n => by
    show (if u + m.2.1 > m.2.2 then [m.2.2] else []) ++ latesF (u + m.2.1) (r ++ [n]) = ((if u + m.2.1 > m.2.2 then [m.2.2] else []) ++ latesF (u + m.2.1) r) ++ _
    rw [lates_snoc _ r n, List.append_assoc]; rfl
theorem late_app : ∀ (u : Int) (l r : List Nd), lateF u l = none → lateF u (l ++ r) = lateF (useF u l) r
  | u, [], r, _ => rfl
  | u, m :: l, r, h => by
    unfold lateF at h
    show lateF u (m :: (l ++ r)) = lateF (useF (u + m.2.1) l) r
    by_cases c : u + m.2.1 > m.2.2
    · rw [if_pos c] at h; cases h
    · rw [if_neg c] at h
      rw [lateF, if_neg c]
      exact late_app _ l r h
/-- what is needed by d -/
def sumN (ns : List Nd) (d : Int) : Int := ns.foldr (fun n s => (if n.2.2 ≤ d then n.2.1 else 0) + s) 0
theorem sumN_cons (n : Nd) (ns : List Nd) (d : Int) : sumN (n :: ns) d = (if n.2.2 ≤ d then n.2.1 else 0) + sumN ns d := rfl
theorem sumN_perm {l l' : List Nd} (h : l.Perm l') (d : Int) : sumN l d = sumN l' d := by
  induction h with
  | nil => rfl
  | cons x _ ih => rw [sumN_cons, sumN_cons, ih]
  | swap x y l => rw [sumN_cons, sumN_cons, sumN_cons, sumN_cons]; omega
  | trans _ _ a b => exact a.trans b
theorem sumN_none {d : Int} : ∀ {ns : List Nd}, (∀ n ∈ ns, ¬ n.2.2 ≤ d) → sumN ns d = 0
  | [], _ => rfl
  | n :: ns, h => by rw [sumN_cons, if_neg (h n (List.mem_cons_self ..)), sumN_none fun m hm => h m (List.mem_cons_of_mem _ hm)]; rfl
theorem sumN_nonneg {d : Int} : ∀ {ns : List Nd}, (∀ n ∈ ns, 1 ≤ n.2.1) → 0 ≤ sumN ns d
  | [], _ => Int.le_refl _
  | n :: ns, h => by
    rw [sumN_cons]
    have := sumN_nonneg (d := d) (ns := ns) fun m hm => h m (List.mem_cons_of_mem _ hm)
    have := h n (List.mem_cons_self ..)
    split <;> omega
theorem late_iff : ∀ (l : List Nd) (u : Int), l.Pairwise (fun a b => a.2.2 ≤ b.2.2) → (∀ n ∈ l, 1 ≤ n.2.1) → (lateF u l = none ↔ ∀ d, (∃ n ∈ l, n.2.2 ≤ d) → u + sumN l d ≤ d)
  | [], u, _, _ => ⟨fun _ d ⟨n, h, _⟩ => (nomatch h), fun _ => rfl⟩
  | n :: r, u, hs, hm => by
    rw [List.pairwise_cons] at hs
    have h1 := hm n (List.mem_cons_self ..)
    have hr : ∀ m ∈ r, 1 ≤ m.2.1 := fun m h => hm m (List.mem_cons_of_mem _ h)
    have ih := late_iff r (u + n.2.1) hs.2 hr
    have iff1 : lateF u (n :: r) = none ↔ ¬ u + n.2.1 > n.2.2 ∧ lateF (u + n.2.1) r = none := by
      rw [lateF]
      by_cases c : u + n.2.1 > n.2.2
      · rw [if_pos c]; exact ⟨fun h => (nomatch h), fun h => absurd c h.1⟩
      · rw [if_neg c]; exact ⟨fun h => ⟨c, h⟩, fun h => h.2⟩
    rw [iff1, ih]
    constructor
    · rintro ⟨c, h⟩ d ⟨m, hm', hd⟩
      have hnd : n.2.2 ≤ d := by
        rcases List.mem_cons.mp hm' with e | e
        · rw [← e]; exact hd
        · have := hs.1 m e; omega
      rw [sumN_cons, if_pos hnd]
      by_cases q : ∃ m ∈ r, m.2.2 ≤ d
      · have := h d q; omega
      · have : sumN r d = 0 := sumN_none fun m hm z => q ⟨m, hm, z⟩
        omega
    · intro h
      refine ⟨fun c => ?_, fun d ⟨m, hm', hd⟩ => ?_⟩
      · have := h n.2.2 ⟨n, List.mem_cons_self .., Int.le_refl _⟩
        rw [sumN_cons, if_pos (Int.le_refl _)] at this
        have := sumN_nonneg (d := n.2.2) hr
        omega
      · have hnd : n.2.2 ≤ d := by have := hs.1 m hm'; omega
        have := h d ⟨m, List.mem_cons_of_mem _ hm', hd⟩
        rw [sumN_cons, if_pos hnd] at this
        omega
/-- all is in time -/
def Feas (ns : List Nd) : Prop := ∀ d, 0 ≤ d → sumN ns d ≤ d
theorem plan_feas {ns : List Nd} (hm : ∀ n ∈ ns, 1 ≤ n.2.1) (hb : ∀ n ∈ ns, 1 ≤ n.2.2) : lateF 0 (sortN ns) = none ↔ Feas ns := by
  have hp := sortN_perm ns
  rw [late_iff (sortN ns) 0 (sortN_sorted ns) fun n h => hm n (hp.mem_iff.mp h)]
  constructor
  · intro h d hd
    by_cases q : ∃ n ∈ ns, n.2.2 ≤ d
    · obtain ⟨n, hn, z⟩ := q
      have := h d ⟨n, hp.mem_iff.mpr hn, z⟩
      rw [sumN_perm hp] at this; omega
    · rw [sumN_none fun m hm z => q ⟨m, hm, z⟩]; exact hd
  · rintro h d ⟨n, hn, z⟩
    have := hb n (hp.mem_iff.mp hn)
    rw [sumN_perm hp]
    have := h d (by omega)
    omega
/-! ### trying all -/
/-- of what is left, what is needed by d -/
def sumL : List Nd → List Int → Int → Int
  | n :: ns, x :: xs, d => (if n.2.2 ≤ d then x else 0) + sumL ns xs d
  | _, _, _ => 0
theorem sumL_start : ∀ (ns : List Nd) (d : Int), sumL ns (ns.map (·.2.1)) d = sumN ns d
  | [], _ => rfl
  | n :: ns, d => by rw [List.map_cons, sumL, sumN_cons, sumL_start ns d]
theorem sumL_set : ∀ (ns : List Nd) (xs : List Int) (i : Nat) (n : Nd) (x y d : Int), ns[i]? = some n → xs[i]? = some x → sumL ns (xs.set i y) d = sumL ns xs d + (if n.2.2 ≤ d then y - x else 0)
  | [], _, i, _, _, _, _, h, _ => by simp at h
  | _ :: _, [], i, _, _, _, _, _, h => by simp at h
  | n :: ns, x :: xs, 0, n', x', y, d, h1, h2 => by
    simp only [List.getElem?_cons_zero, Option.some.injEq] at h1 h2
    subst h1 h2
    rw [List.set_cons_zero, sumL, sumL]
    split <;> omega
  | n :: ns, x :: xs, i + 1, n', x', y, d, h1, h2 => by
    simp only [List.getElem?_cons_succ] at h1 h2
    rw [List.set_cons_succ, sumL, sumL, sumL_set ns xs i n' x' y d h1 h2]
    omega
theorem sumL_zero {d : Int} : ∀ (ns : List Nd) (xs : List Int), (∀ x ∈ xs, x = 0) → sumL ns xs d = 0
  | n :: ns, x :: xs, h => by
    rw [sumL, sumL_zero ns xs fun y hy => h y (List.mem_cons_of_mem _ hy), h x (List.mem_cons_self ..)]
    split <;> rfl
  | [], _, _ => by unfold sumL; rfl
  | _ :: _, [], _ => by unfold sumL; rfl
theorem sumL_none {d : Int} : ∀ (ns : List Nd) (xs : List Int), (∀ (i : Nat) n x, ns[i]? = some n → xs[i]? = some x → n.2.2 ≤ d → x = 0) → sumL ns xs d = 0
  | n :: ns, x :: xs, h => by
    rw [sumL, sumL_none ns xs fun i n' x' a b => h (i + 1) n' x' (by simpa using a) (by simpa using b)]
    have := h 0 n x rfl rfl
    split
    · rename_i c; rw [this c]; rfl
    · rfl
  | [], _, _ => by unfold sumL; rfl
  | _ :: _, [], _ => by unfold sumL; rfl
theorem sumL_nonneg {d : Int} : ∀ (ns : List Nd) (xs : List Int), (∀ x ∈ xs, 0 ≤ x) → 0 ≤ sumL ns xs d
  | n :: ns, x :: xs, h => by
    have := sumL_nonneg (d := d) ns xs fun y hy => h y (List.mem_cons_of_mem _ hy)
    have := h x (List.mem_cons_self ..)
    rw [sumL]
    split <;> omega
  | [], _, _ => by unfold sumL; exact Int.le_refl _
  | _ :: _, [], _ => by unfold sumL; exact Int.le_refl _
theorem sumL_ge {d : Int} : ∀ (ns : List Nd) (xs : List Int) (i : Nat) (n : Nd) (x : Int), (∀ x ∈ xs, 0 ≤ x) → ns[i]? = some n → xs[i]? = some x → n.2.2 ≤ d → x ≤ sumL ns xs d
  | [], _, i, _, _, _, h, _, _ => by simp at h
  | _ :: _, [], i, _, _, _, _, h, _ => by simp at h
  | n :: ns, x :: xs, 0, n', x', h, h1, h2, hd => by
    simp only [List.getElem?_cons_zero, Option.some.injEq] at h1 h2
    subst h1 h2
    have := sumL_nonneg (d := d) ns xs fun y hy => h y (List.mem_cons_of_mem _ hy)
    rw [sumL, if_pos hd]; omega
  | n :: ns, x :: xs, i + 1, n', x', h, h1, h2, hd => by
    simp only [List.getElem?_cons_succ] at h1 h2
    have := sumL_ge ns xs i n' x' (fun y hy => h y (List.mem_cons_of_mem _ hy)) h1 h2 hd
    have := h x (List.mem_cons_self ..)
    rw [sumL]
    split <;> omega
def tot : List Int → Int
  | [] => 0
  | x :: xs => x + tot xs
theorem tot_set : ∀ (xs : List Int) (i : Nat) (x y : Int), xs[i]? = some x → tot (xs.set i y) = tot xs + (y - x)
  | [], i, _, _, h => by simp at h
  | z :: xs, 0, x, y, h => by
    simp only [List.getElem?_cons_zero, Option.some.injEq] at h
    subst h
    rw [List.set_cons_zero, tot, tot]; omega
  | z :: xs, i + 1, x, y, h => by
    simp only [List.getElem?_cons_succ] at h
    rw [List.set_cons_succ, tot, tot, tot_set xs i x y h]; omega
theorem tot_zero : ∀ {xs : List Int}, (∀ x ∈ xs, 0 ≤ x) → tot xs = 0 → ∀ x ∈ xs, x = 0
  | [], _, _ => fun x h => nomatch h
  | z :: xs, h, e => by
    rw [tot] at e
    have h0 := h z (List.mem_cons_self ..)
    have hr : ∀ x ∈ xs, 0 ≤ x := fun x hx => h x (List.mem_cons_of_mem _ hx)
    have nn : ∀ {ys : List Int}, (∀ y ∈ ys, 0 ≤ y) → 0 ≤ tot ys := by
      intro ys
      induction ys with
      | nil => intro _; exact Int.le_refl _
      | cons a b ih => intro q; have := ih fun y hy => q y (List.mem_cons_of_mem _ hy); have := q a (List.mem_cons_self ..); rw [tot]; omega
    have h1 := nn hr
    intro x hx
    rcases List.mem_cons.mp hx with q | q
    · omega
    · exact tot_zero hr (by omega) x q
structure Snd (ns : List Nd) (k : Int) (xs : List Int) : Prop where
  len : xs.length = ns.length
  nn : ∀ x ∈ xs, 0 ≤ x ∧ x ≤ 1000
  le : ∀ d, 0 ≤ d → sumN ns d ≤ sumL ns xs d + min k d
structure Cmp (ns : List Nd) (T k : Int) (xs : List Int) : Prop where
  le : ∀ d, 0 ≤ d → sumL ns xs d ≤ max (d - k) 0
  tot : tot xs = T - k
theorem Snd.start {ns : List Nd} (h : ∀ n ∈ ns, 1 ≤ n.2.1 ∧ n.2.1 ≤ 1000) : Snd ns 0 (ns.map (·.2.1)) := ⟨List.length_map _, fun x hx => by
  obtain ⟨n, hn, rfl⟩ := List.mem_map.mp hx
  have := h n hn; omega, fun d hd => by rw [sumL_start]; omega⟩
theorem Cmp.start {ns : List Nd} (h : Feas ns) : Cmp ns (BE.tot (ns.map (·.2.1))) 0 (ns.map (·.2.1)) := ⟨fun d hd => by rw [sumL_start]; have := h d hd; omega, by omega⟩
theorem mem_set {xs : List Int} {i : Nat} {x y : Int} (h : y ∈ xs.set i x) : y ∈ xs ∨ y = x := List.mem_or_eq_of_mem_set h
theorem Snd.step {ns : List Nd} {k : Int} {xs : List Int} (h : Snd ns k xs) {i : Nat} {n : Nd} {x : Int} (h1 : ns[i]? = some n) (h2 : xs[i]? = some x) (hx : 0 < x) (hk : 0 ≤ k) (hb : k + 1 ≤ n.2.2) : Snd ns (k + 1) (xs.set i (x - 1)) := ⟨by rw [List.length_set]; exact h.len, fun y hy => by
  have hxm := h.nn x (List.mem_of_getElem? h2)
  rcases mem_set hy with z | z
  · exact h.nn y z
  · omega, fun d hd => by
  rw [sumL_set ns xs i n x _ d h1 h2]
  have := h.le d hd
  split <;> omega⟩
theorem Snd.done {ns : List Nd} {k : Int} {xs : List Int} (h : Snd ns k xs) (hz : ∀ x ∈ xs, x = 0) : Feas ns := fun d hd => by
  have := h.le d hd
  rw [sumL_zero ns xs hz] at this
  omega
theorem least {P : Nat → Prop} {f : Nat → Int} (dec : ∀ j, P j ∨ ¬ P j) : ∀ n : Nat, (∃ i, i < n ∧ P i) → ∃ i, i < n ∧ P i ∧ ∀ j, j < n → P j → f i ≤ f j
  | 0, ⟨_, h, _⟩ => absurd h (Nat.not_lt_zero _)
  | n + 1, ⟨i, hi, hp⟩ => by
    by_cases q : ∃ i, i < n ∧ P i
    · obtain ⟨m, hm, pm, hl⟩ := least (f := f) dec n q
      by_cases pn : P n ∧ f n ≤ f m
      · exact ⟨n, by omega, pn.1, fun j hj pj => by
          by_cases e : j = n
          · rw [e]; exact Int.le_refl _
          · have := hl j (by omega) pj; have := pn.2; omega⟩
      · exact ⟨m, by omega, pm, fun j hj pj => by
          by_cases e : j = n
          · subst e
            have : ¬ f j ≤ f m := fun z => pn ⟨pj, z⟩
            omega
          · exact hl j (by omega) pj⟩
    · have e : i = n := by
        by_cases z : i = n
        · exact z
        · exact absurd ⟨i, by omega, hp⟩ q
      subst e
      exact ⟨i, by omega, hp, fun j hj pj => by
        by_cases e : j = i
        · rw [e]; exact Int.le_refl _
        · exact absurd ⟨j, by omega, pj⟩ q⟩
theorem Cmp.step {ns : List Nd} {T k : Int} {xs : List Int} (h : Cmp ns T k xs) (hl : xs.length = ns.length) (nn : ∀ x ∈ xs, 0 ≤ x) (hb : ∀ n ∈ ns, 1 ≤ n.2.2) (hk : 0 ≤ k) (hz : ¬ ∀ x ∈ xs, x = 0) :
    ∃ (i : Nat) (n : Nd) (x : Int), ns[i]? = some n ∧ xs[i]? = some x ∧ 0 < x ∧ k + 1 ≤ n.2.2 ∧ Cmp ns T (k + 1) (xs.set i (x - 1)) := by
  have ex : ∃ i, i < ns.length ∧ 0 < xs.getD i 0 := by
    refine Classical.byContradiction fun q => hz fun x hx => ?_
    obtain ⟨i, hi, e⟩ := List.getElem_of_mem hx
    have h0 := nn x hx
    have : ¬ 0 < xs.getD i 0 := fun z => q ⟨i, by omega, z⟩
    rw [List.getD_eq_getElem?_getD, List.getElem?_eq_getElem hi, Option.getD_some, e] at this
    omega
  obtain ⟨i, hi, hp, hm⟩ := least (P := fun i => 0 < xs.getD i 0) (f := fun i => (ns.getD i (0, 0, 0)).2.2) (fun j => Classical.em _) ns.length ex
  have hix : i < xs.length := by omega
  have e1 : ns[i]? = some ns[i] := List.getElem?_eq_getElem hi
  have e2 : xs[i]? = some xs[i] := List.getElem?_eq_getElem hix
  have ex : xs.getD i 0 = xs[i] := by rw [List.getD_eq_getElem?_getD, e2]; rfl
  have en : ns.getD i (0, 0, 0) = ns[i] := by rw [List.getD_eq_getElem?_getD, e1]; rfl
  rw [ex] at hp
  have hb1 := hb ns[i] (List.getElem_mem hi)
  have ge := sumL_ge (d := (ns[i]).2.2) ns xs i ns[i] xs[i] nn e1 e2 (Int.le_refl _)
  have le := h.le (ns[i]).2.2 (by omega)
  refine ⟨i, ns[i], xs[i], e1, e2, hp, by omega, ⟨fun d hd => ?_, ?_⟩⟩
  · rw [sumL_set ns xs i ns[i] xs[i] _ d e1 e2]
    by_cases c : (ns[i]).2.2 ≤ d
    · rw [if_pos c]
      have := h.le d hd
      have := sumL_ge (d := d) ns xs i ns[i] xs[i] nn e1 e2 c
      omega
    · rw [if_neg c]
      rw [sumL_none ns xs fun j n x a b cc => by
        have h0 := nn x (List.mem_of_getElem? b)
        refine Classical.byContradiction fun q => ?_
        have hj := (List.getElem?_eq_some_iff.mp a).1
        have := hm j hj (by show 0 < xs.getD j 0; rw [List.getD_eq_getElem?_getD, b, Option.getD_some]; omega)
        rw [en, show ns.getD j (0, 0, 0) = n by rw [List.getD_eq_getElem?_getD, a]; rfl] at this
        omega]
      omega
  · rw [tot_set xs i _ _ e2, h.tot]; omega
end BE
namespace AL
open PySem L2
/-- a list of our own is given out for good -/
theorem vs_frzS {c : Ct} {A : AS} {i : Nat} {ds : List D} {t : TS} {B : EA} (h : A.s[i]? = some (some (.own (.lst ds)))) (k : WS c t (A.setS i (.val (.lst ds))) B) : WS c t A B := fun F G m σ H S E Dc kc => by
  obtain ⟨a, q, l, f, g, mm, vs, hv, rv⟩ := S.s.ownAt h
  obtain ⟨F', A', d, e, S', R, e2⟩ := frz_ok (r := .slot i) (k := fun A' _ => A' = A.setS i (.val (.lst ds))) S ⟨q, _, h⟩ (by simp [Frz, h])
  subst e2
  exact k F' G m σ H S' (E.mono e (Pre.refl m)) Dc (kc.mono e (Pre.refl m))
end AL
namespace BE
open PySem L2 AL PySem.W
open PyProof.Rows hiding encD
def dPlan (ns : List Nd) : D := match lateF 0 (sortN ns) with
  | none => .tup [.tup ((sortN ns).map dTw), .non]
  | some b => .tup [.non, .int b]
def C_deadline_plan : Contract := fun ds O R _ => ∃ d ns, ds = [d] ∧ SeqO O d (ns.map dNd) ∧ ns.length ≤ 1000 ∧ R O (dPlan ns)
theorem len_deadline_plan : ∀ ds O R X, C_deadline_plan ds O R X → ds.length = 1 := fun _ _ _ _ h => by obtain ⟨_, _, rfl, _⟩ := h; rfl
def C__law_due : Contract := fun ds O R _ => ∃ d ns, ds = [d] ∧ SeqO O d (ns.map dNd) ∧ ns.length ≤ 1000 ∧ R O (dPlan ns)
theorem len__law_due : ∀ ds O R X, C__law_due ds O R X → ds.length = 1 := fun _ _ _ _ h => by obtain ⟨_, _, rfl, _⟩ := h; rfl
def C__law_can_be : Contract := fun ds O R _ => ∃ ns : List Nd, ds = [.lst (ns.map dNd)] ∧ 0 < ns.length ∧ ns.length ≤ 3 ∧ (∀ n ∈ ns, 1 ≤ n.2.1 ∧ n.2.1 ≤ 3 ∧ 1 ≤ n.2.2) ∧ ∀ kvs b, (b = true ↔ Feas ns) → R (O ++ [.dN kvs]) (.bl b)
theorem len__law_can_be : ∀ ds O R X, C__law_can_be ds O R X → ds.length = 1 := fun _ _ _ _ h => by obtain ⟨_, rfl, _⟩ := h; rfl
def C__law_small_right : Contract := fun ds O R _ => ∃ n t, ds = [.ptr n] ∧ O[n]? = some (AT.cTape t) ∧ 0 ≤ t.at_ ∧ ∀ t' kvs, 0 ≤ AT.TapeM.at_ t' → R (O.set n (AT.cTape t') ++ [.dN kvs]) (.bl true)
theorem len__law_small_right : ∀ ds O R X, C__law_small_right ds O R X → ds.length = 1 := fun _ _ _ _ h => by obtain ⟨_, _, rfl, _⟩ := h; rfl
theorem sortN_len (ns : List Nd) : (sortN ns).length = ns.length := (sortN_perm ns).length_eq
end BE
namespace BE
open PySem L2 AL PySem.W
open PyProof.Rows hiding encD
theorem gok3 {K : PySem.W.Frag} {i j k n : Nat} {vs : List Nat} (hi : i ∈ vs) (hj : j ∈ vs) (hk : k ∈ vs) : GOk (gTup K n (gCons (gName i) (gCons (gName j) (gCons (gName k) gNil)))) vs :=
  gok_tup (gsok_cons mono_name (mono_cons mono_name (mono_cons mono_name mono_nil)) (gok_name hi) (gsok_cons mono_name (mono_cons mono_name mono_nil) (gok_name hj) (gsok_cons mono_name mono_nil (gok_name hk) gsok_nil)))
theorem map_at {α : Type} {f : α → D} {xs : List α} {j : Nat} {x : D} (h : (xs.map f)[j]? = some x) : ∃ a, xs[j]? = some a ∧ x = f a := by
  rw [List.getElem?_map] at h
  cases e : xs[j]? with
  | none => rw [e] at h; cases h
  | some a => rw [e] at h; cases h; exact ⟨a, rfl, rfl⟩
theorem take_at {α : Type} {l : List α} {i : Nat} {n : α} (h : l[i]? = some n) : l.take (i + 1) = l.take i ++ [n] := by rw [List.take_add_one, h]; rfl
theorem split_at {α : Type} {l : List α} {i : Nat} {n : α} (h : l[i]? = some n) : l = l.take i ++ n :: l.drop (i + 1) := by
  have hi := (List.getElem?_eq_some_iff.mp h).1
  have e : l.drop i = n :: l.drop (i + 1) := by rw [List.drop_eq_getElem_cons hi]; congr 1; exact (List.getElem?_eq_some_iff.mp h).2
  rw [← e, List.take_append_drop]
theorem late_hit {l : List Nd} {i : Nat} {n : Nd} (hn : l[i]? = some n) (h : lateF 0 (l.take i) = none) (c : useF 0 (l.take i) + n.2.1 > n.2.2) : lateF 0 l = some n.2.2 := by
  rw [split_at hn, late_app _ _ _ h, lateF, if_pos c]
theorem late_go {l : List Nd} {i : Nat} {n : Nd} (hn : l[i]? = some n) (h : lateF 0 (l.take i) = none) (c : ¬ useF 0 (l.take i) + n.2.1 > n.2.2) : lateF 0 (l.take (i + 1)) = none := by
  rw [take_at hn, late_app _ _ _ h, lateF, if_neg c, lateF]
theorem use_go {l : List Nd} {i : Nat} {n : Nd} (hn : l[i]? = some n) : useF 0 (l.take (i + 1)) = useF 0 (l.take i) + n.2.1 := by rw [take_at hn, useF_snoc]
theorem plan_late {ns : List Nd} {b : Int} (h : lateF 0 (sortN ns) = some b) : dPlan ns = .tup [.non, .int b] := by unfold dPlan; rw [h]
theorem plan_ok {ns : List Nd} (h : lateF 0 (sortN ns) = none) : dPlan ns = .tup [.tup ((sortN ns).map dTw), .non] := by unfold dPlan; rw [h]
end BE
theorem AL.Keeps.q {vs : List Nat} {A A' : AL.AS} (h : AL.Keeps vs A A') : ∀ q, q ∉ vs → A'.s[q]? = A.s[q]? := h.2
namespace BE
open PySem L2 AL PySem.W
theorem pyOs_I {O : List Cell} : ∀ ns : List Int, PyOs O (ns.map .int) (ns.map .int)
  | [] => .nil
  | n :: ns => .cons (.int n) (pyOs_I ns)
theorem lates_none : ∀ (l : List Nd) (u : Int), latesF u l = [] → lateF u l = none := fun l u h => by rw [← lates_head, h]; rfl
theorem lates_some {l : List Nd} {u : Int} {b : Int} {r : List Int} (h : latesF u l = b :: r) : lateF u l = some b := by rw [← lates_head, h]; rfl
end BE
namespace BE
open PySem L2 AL PySem.W
/-- a front -/
abbrev dF (k : Int) (xs : List Int) : D := dNK (xs, k)
/-- what has been looked at -/
def Looked (ns : List Nd) (i : Nat) (fl mo : List (List Int)) (j a : Nat) : Prop :=
  ∀ (p at_ : Nat) (xs : List Int) (n : Nd) (x : Int), fl[p]? = some xs → ns[at_]? = some n → xs[at_]? = some x → (p < j ∨ p = j ∧ at_ < a) → 0 < x → (i : Int) + 1 ≤ n.2.2 → xs.set at_ (x - 1) ∈ mo
theorem Looked.mono {ns : List Nd} {i : Nat} {fl mo mo' : List (List Int)} {j a : Nat} (h : Looked ns i fl mo j a) (hs : ∀ x ∈ mo, x ∈ mo') : Looked ns i fl mo' j a :=
  fun p t xs n x h1 h2 h3 h4 h5 h6 => hs _ (h p t xs n x h1 h2 h3 h4 h5 h6)
theorem Looked.next {ns : List Nd} {i : Nat} {fl mo : List (List Int)} {j a : Nat} (h : Looked ns i fl mo j a) {xs : List Int} {n : Nd} {x : Int} (e1 : fl[j]? = some xs) (e2 : ns[a]? = some n) (e3 : xs[a]? = some x) (hm : 0 < x → (i : Int) + 1 ≤ n.2.2 → xs.set a (x - 1) ∈ mo) : Looked ns i fl mo j (a + 1) :=
  fun p t xs' n' x' h1 h2 h3 h4 h5 h6 => by
    by_cases z : p = j ∧ t = a
    · obtain ⟨rfl, rfl⟩ := z
      rw [e1] at h1; cases h1
      rw [e2] at h2; cases h2
      rw [e3] at h3; cases h3
      exact hm h5 h6
    · exact h p t xs' n' x' h1 h2 h3 (by omega) h5 h6
theorem Looked.row {ns : List Nd} {i : Nat} {fl mo : List (List Int)} {j a : Nat} (h : Looked ns i fl mo j a) (ha : ns.length ≤ a) : Looked ns i fl mo (j + 1) 0 :=
  fun p t xs n x h1 h2 h3 h4 h5 h6 => h p t xs n x h1 h2 h3 (by
    have := (List.getElem?_eq_some_iff.mp h2).1
    omega) h5 h6
/-- the state of the search -/
structure Srch (ns : List Nd) (T : Int) (i : Nat) (fl : List (List Int)) (kvs : List (NKey × D)) : Prop where
  snd : ∀ xs ∈ fl, Snd ns i xs
  cmp : Feas ns → ∃ xs ∈ fl, Cmp ns T i xs
  lf : fl.length ≤ 3 ^ i
  lk : 2 * kvs.length + 3 ≤ 3 ^ (i + 1)
  old : ∀ kv ∈ kvs, kv.1.2 ≤ i
/-- in the midst of it -/
structure Mid (ns : List Nd) (i : Nat) (fl : List (List Int)) (kvs : List (NKey × D)) (j a : Nat) (mo : List (List Int)) (kvs' : List (NKey × D)) : Prop where
  snd : ∀ xs ∈ mo, Snd ns ((i : Int) + 1) xs
  look : Looked ns i fl mo j a
  nz : ∀ (p : Nat) xs, p < j → fl[p]? = some xs → ¬ ∀ x ∈ xs, x = 0
  lm : mo.length ≤ 3 * j + a
  lk : kvs'.length ≤ kvs.length + mo.length
  old : ∀ kv ∈ kvs', kv.1.2 ≤ i ∨ (kv.1.2 = (i : Int) + 1 ∧ kv.1.1 ∈ mo)
theorem Srch.start {ns : List Nd} (hn : ∀ n ∈ ns, 1 ≤ n.2.1 ∧ n.2.1 ≤ 3 ∧ 1 ≤ n.2.2) : Srch ns (tot (ns.map (·.2.1))) 0 [ns.map (·.2.1)] [] where
  snd := fun xs hx => by
    rw [List.mem_singleton] at hx; subst hx
    exact Snd.start fun n h => by have := hn n h; omega
  cmp := fun h => ⟨_, List.mem_singleton.mpr rfl, Cmp.start h⟩
  lf := by simp
  lk := by simp
  old := fun _ h => nomatch h
theorem Srch.mid {ns : List Nd} {T : Int} {i : Nat} {fl : List (List Int)} {kvs : List (NKey × D)} (h : Srch ns T i fl kvs) : Mid ns i fl kvs 0 0 [] kvs where
  snd := fun _ h => nomatch h
  look := fun p t xs n x h1 h2 h3 h4 => by omega
  nz := fun p xs h => absurd h (Nat.not_lt_zero _)
  lm := Nat.zero_le _
  lk := Nat.le_refl _
  old := fun kv hk => .inl (h.old kv hk)
theorem Mid.row {ns : List Nd} {i : Nat} {fl : List (List Int)} {kvs kvs' : List (NKey × D)} {j a : Nat} {mo : List (List Int)} (h : Mid ns i fl kvs j a mo kvs') (ha : ns.length ≤ a) (h3 : a ≤ 3) {xs : List Int} (e : fl[j]? = some xs) (hz : ¬ ∀ x ∈ xs, x = 0) : Mid ns i fl kvs (j + 1) 0 mo kvs' where
  snd := h.snd
  look := h.look.row ha
  nz := fun p xs' hp e' => by
    by_cases z : p = j
    · subst z; rw [e] at e'; cases e'; exact hz
    · exact h.nz p xs' (by omega) e'
  lm := by have := h.lm; omega
  lk := h.lk
  old := h.old
/-- nothing new -/
theorem Mid.same {ns : List Nd} {i : Nat} {fl : List (List Int)} {kvs kvs' : List (NKey × D)} {j a : Nat} {mo : List (List Int)} (h : Mid ns i fl kvs j a mo kvs') {xs : List Int} {n : Nd} {x : Int} (e1 : fl[j]? = some xs) (e2 : ns[a]? = some n) (e3 : xs[a]? = some x) (hm : 0 < x → (i : Int) + 1 ≤ n.2.2 → xs.set a (x - 1) ∈ mo) : Mid ns i fl kvs j (a + 1) mo kvs' where
  snd := h.snd
  look := h.look.next e1 e2 e3 hm
  nz := h.nz
  lm := by have := h.lm; omega
  lk := h.lk
  old := h.old
/-- known already -/
theorem Mid.seen {ns : List Nd} {i : Nat} {fl : List (List Int)} {kvs kvs' : List (NKey × D)} {j a : Nat} {mo : List (List Int)} (h : Mid ns i fl kvs j a mo kvs') {ys : List Int} (hs : (valD kvs' (ys, (i : Int) + 1)).isSome = true) : ys ∈ mo := by
  unfold valD at hs
  rw [Option.isSome_map] at hs
  obtain ⟨kv, hk⟩ := Option.isSome_iff_exists.mp hs
  have e := List.find?_some hk
  have e : kv.1 = (ys, (i : Int) + 1) := by simpa using e
  rcases h.old kv (List.mem_of_find?_eq_some hk) with z | z
  · rw [e] at z; exact absurd z (by show ¬ (i : Int) + 1 ≤ i; omega)
  · rw [e] at z; exact z.2
/-- a new one -/
theorem Mid.new {ns : List Nd} {i : Nat} {fl : List (List Int)} {kvs kvs' : List (NKey × D)} {j a : Nat} {mo : List (List Int)} {T : Int} (hS : Srch ns T i fl kvs) (h : Mid ns i fl kvs j a mo kvs') {xs : List Int} {n : Nd} {x : Int} (e1 : fl[j]? = some xs) (e2 : ns[a]? = some n) (e3 : xs[a]? = some x) (hx : 0 < x) (hb : (i : Int) + 1 ≤ n.2.2) (d : D) :
    Mid ns i fl kvs j (a + 1) (mo ++ [xs.set a (x - 1)]) (putKD kvs' (xs.set a (x - 1), (i : Int) + 1) d) where
  snd := fun ys hy => by
    rcases List.mem_append.mp hy with z | z
    · exact h.snd ys z
    · rw [List.mem_singleton] at z; subst z
      exact (hS.snd xs (List.mem_of_getElem? e1)).step e2 e3 hx (by omega) hb
  look := (h.look.mono fun y hy => List.mem_append_left _ hy).next e1 e2 e3 fun _ _ => List.mem_append_right _ (List.mem_singleton.mpr rfl)
  nz := h.nz
  lm := by have := h.lm; rw [List.length_append, List.length_singleton]; omega
  lk := by
    have := h.lk
    have : (putKD kvs' (xs.set a (x - 1), (i : Int) + 1) d).length ≤ kvs'.length + 1 := by
      unfold putKD
      split
      · rw [List.length_map]; omega
      · rw [List.length_append]; simp
    rw [List.length_append, List.length_singleton]; omega
  old := fun kv hk => by
    unfold putKD at hk
    split at hk
    · obtain ⟨kv', hk', rfl⟩ := List.mem_map.mp hk
      have key : ∀ q : NKey × D, q.1 = kv'.1 → q.1.2 ≤ i ∨ (q.1.2 = (i : Int) + 1 ∧ q.1.1 ∈ mo ++ [xs.set a (x - 1)]) := fun q e => by
        rw [e]
        rcases h.old kv' hk' with z | z
        · exact .inl z
        · exact .inr ⟨z.1, List.mem_append_left _ z.2⟩
      refine key _ ?_
      by_cases c : kv'.1 = (xs.set a (x - 1), (i : Int) + 1)
      · rw [if_pos c]
      · rw [if_neg c]
    · rcases List.mem_append.mp hk with z | z
      · rcases h.old kv z with y | y
        · exact .inl y
        · exact .inr ⟨y.1, List.mem_append_left _ y.2⟩
      · rw [List.mem_singleton] at z; subst z
        exact .inr ⟨rfl, List.mem_append_right _ (List.mem_singleton.mpr rfl)⟩
theorem Mid.done {ns : List Nd} {i : Nat} {fl : List (List Int)} {kvs kvs' : List (NKey × D)} {mo : List (List Int)} {T : Int} (hS : Srch ns T i fl kvs) (hb : ∀ n ∈ ns, 1 ≤ n.2.2) (h : Mid ns i fl kvs fl.length 0 mo kvs') : Srch ns T (i + 1) mo kvs' where
  snd := fun xs hx => by have := h.snd xs hx; simpa using this
  cmp := fun hf => by
    obtain ⟨xs, hx, hc⟩ := hS.cmp hf
    obtain ⟨p, hp, e⟩ := List.getElem_of_mem hx
    have e1 : fl[p]? = some xs := by rw [List.getElem?_eq_getElem hp, e]
    have s := hS.snd xs hx
    obtain ⟨t, n, x, h1, h2, h3, h4, h5⟩ := hc.step s.len (fun y hy => (s.nn y hy).1) hb (by omega) (h.nz p xs hp e1)
    exact ⟨_, h.look p t xs n x e1 h1 h2 (.inl hp) h3 h4, by simpa using h5⟩
  lf := by have := h.lm; have := hS.lf; rw [Nat.pow_succ]; omega
  lk := by
    have := h.lm; have := hS.lf; have := h.lk; have := hS.lk
    rw [Nat.pow_succ] at this ⊢
    rw [Nat.pow_succ]
    omega
  old := fun kv hk => by
    rcases h.old kv hk with z | z
    · exact Int.le_trans z (by simp; omega)
    · rw [z.1]; simp
theorem Srch.found {ns : List Nd} {T : Int} {i : Nat} {fl : List (List Int)} {kvs : List (NKey × D)} (h : Srch ns T i fl kvs) {xs : List Int} (hx : xs ∈ fl) (hz : ∀ x ∈ xs, x = 0) : Feas ns := (h.snd xs hx).done hz
theorem tot_nn : ∀ {xs : List Int}, (∀ x ∈ xs, 0 ≤ x) → 0 ≤ tot xs
  | [], _ => Int.le_refl _
  | x :: xs, h => by
    have := tot_nn (xs := xs) fun y hy => h y (List.mem_cons_of_mem _ hy)
    have := h x (List.mem_cons_self ..)
    rw [tot]; omega
theorem Srch.over {ns : List Nd} {T : Int} {i : Nat} {fl : List (List Int)} {kvs : List (NKey × D)} (h : Srch ns T i fl kvs) (hi : T < i) : ¬ Feas ns := fun hf => by
  obtain ⟨xs, hx, hc⟩ := h.cmp hf
  have := tot_nn (xs := xs) fun y hy => ((h.snd xs hx).nn y hy).1
  have := hc.tot
  omega
theorem tot_sum : ∀ xs : List Int, xs.sum = tot xs
  | [] => rfl
  | x :: xs => by rw [List.sum_cons, tot_sum xs, tot]
theorem tot_bd {ns : List Nd} (hn : ∀ n ∈ ns, 1 ≤ n.2.1 ∧ n.2.1 ≤ 3 ∧ 1 ≤ n.2.2) : 0 ≤ tot (ns.map (·.2.1)) ∧ tot (ns.map (·.2.1)) ≤ 3 * ns.length := by
  induction ns with
  | nil => exact ⟨Int.le_refl _, by simp [tot]⟩
  | cons n r ih =>
    have := ih fun m hm => hn m (List.mem_cons_of_mem _ hm)
    have := hn n (List.mem_cons_self ..)
    rw [List.map_cons, tot, List.length_cons]
    omega
end BE
namespace BE
open PySem L2 AL PySem.W
theorem cat_set {xs : List Int} {a : Nat} {y : Int} (h : a < xs.length) : ((xs.take a).map D.int ++ [D.int y]) ++ (xs.drop (a + 1)).map D.int = (xs.set a y).map D.int := by
  rw [List.set_eq_take_append_cons_drop, if_pos h, List.map_append, List.map_cons, List.append_assoc]; rfl
theorem cut_from1 {xs : List Int} {a : Nat} (h : a < xs.length) : cutD (xs.map D.int) (some ((a : Int) + 1)) none = (xs.drop (a + 1)).map D.int := by
  rw [show (a : Int) + 1 = ((a + 1 : Nat) : Int) by omega]; exact cutD_from (by omega)
end BE
namespace BE
open PySem L2 AL PySem.W
theorem okE_plan {ns : List Nd} (h : ns.length < 1000) : okE 5 (dPlan ns) := by
  have hs := sortN_len ns
  unfold dPlan
  split
  · refine ⟨show 2 < 1000 by decide, fun d hd => ?_⟩
    simp only [List.mem_cons, List.not_mem_nil, or_false] at hd
    rcases hd with rfl | rfl
    · refine ⟨by rw [List.length_map]; omega, fun d hd => ?_⟩
      obtain ⟨n, _, rfl⟩ := List.mem_map.mp hd
      refine ⟨show 2 < 1000 by decide, fun d hd => ?_⟩
      simp only [List.mem_cons, List.not_mem_nil, or_false] at hd
      rcases hd with rfl | rfl <;> exact trivial
    · exact trivial
  · refine ⟨show 2 < 1000 by decide, fun d hd => ?_⟩
    simp only [List.mem_cons, List.not_mem_nil, or_false] at hd
    rcases hd with rfl | rfl <;> exact trivial
end BE
namespace BE
open PySem L2 AL PySem.W
abbrev pNd (n : Nd) : PyData := .tuple [.int n.1, .int n.2.1, .int n.2.2]
theorem py_nds {O : List Cell} (ns : List Nd) : PyO O (.lst (ns.map dNd)) (.list (ns.map pNd)) := .lst (pyOs_map (fun n => .tup (.cons (.int _) (.cons (.int _) (.cons (.int _) .nil)))) ns)
theorem shaped_nds (ns : List Nd) : SeqAt.shaped (.list (ns.map pNd)) = true := shaped_of (n := 3) (layL fun _ => rfl) (depL (n := 2) fun n => by simp [PyData.depth, PyData.depthAll]) (by decide)
theorem eqv_nds (ns : List Nd) : PyData.eqv (.list (ns.map pNd)) (.list (ns.map pNd)) = true := SeqAt.eqv_refl _ (SeqAt.canLay_of_shaped (shaped_nds ns))
end BE

namespace LW
open PySem L2 AL
def topS (i : Nat) : Stmt := PySem.Challenge.pw_servedalone_k57_deadlines.main.body.getD i (.Pass ⟨0, 0, 0, 0⟩)
abbrev s__law_mixed : Stmt := topS 3
abbrev n__law_mixed : List Str := ["number", "turn", "first", "second"]
/-! _law_mixed: 0 number, 1 turn, 2 first, 3 second -/
theorem sc__law_mixed : FnScope n__law_mixed ["number", "turn"] (defScope s__law_mixed) := ⟨rfl, rfl, rfl, by decide +kernel, rfl, by decide +kernel, by decide +kernel⟩
abbrev s__law_tape : Stmt := topS 4
abbrev n__law_tape : List Str := ["script"]
/-! _law_tape: 0 script -/
theorem sc__law_tape : FnScope n__law_tape ["script"] (defScope s__law_tape) := ⟨rfl, rfl, rfl, by decide +kernel, rfl, by decide +kernel, by decide +kernel⟩
abbrev s__law_draw : Stmt := topS 5
abbrev n__law_draw : List Str := ["tape", "many", "cell", "digit"]
/-! _law_draw: 0 tape, 1 many, 2 cell, 3 digit -/
theorem sc__law_draw : FnScope n__law_draw ["tape", "many"] (defScope s__law_draw) := ⟨rfl, rfl, rfl, by decide +kernel, rfl, by decide +kernel, by decide +kernel⟩
abbrev s__law_pick : Stmt := topS 6
abbrev n__law_pick : List Str := ["tape", "row"]
/-! _law_pick: 0 tape, 1 row -/
theorem sc__law_pick : FnScope n__law_pick ["tape", "row"] (defScope s__law_pick) := ⟨rfl, rfl, rfl, by decide +kernel, rfl, by decide +kernel, by decide +kernel⟩
abbrev s__law_same : Stmt := topS 7
abbrev n__law_same : List Str := ["actual", "due", "k"]
/-! _law_same: 0 actual, 1 due, 2 k -/
theorem sc__law_same : FnScope n__law_same ["actual", "due"] (defScope s__law_same) := ⟨rfl, rfl, rfl, by decide +kernel, rfl, by decide +kernel, by decide +kernel⟩
abbrev s_deadline_plan : Stmt := topS 1
abbrev n_deadline_plan : List Str := ["needs", "many", "by", "ordered", "used", "_", "ticket"]
/-! deadline_plan: 0 needs, 1 many, 2 by, 3 ordered, 4 used, 5 _, 6 ticket -/
theorem sc_deadline_plan : FnScope n_deadline_plan ["needs"] (defScope s_deadline_plan) := ⟨rfl, rfl, rfl, by decide +kernel, rfl, by decide +kernel, by decide +kernel⟩
abbrev s__law_due : Stmt := topS 8
abbrev n__law_due : List Str := ["needs", "order", "sums", "late", "k", "ticket", "many", "by"]
/-! _law_due: 0 needs, 1 order, 2 sums, 3 late, 4 k, 5 ticket, 6 many, 7 by -/
theorem sc__law_due : FnScope n__law_due ["needs"] (defScope s__law_due) := ⟨rfl, rfl, rfl, by decide +kernel, rfl, by decide +kernel, by decide +kernel⟩
abbrev s__law_can_be : Stmt := topS 9
abbrev n__law_can_be : List Str := ["needs", "fronts", "seen", "k", "more", "left", "done", "at", "rest", "one"]
/-! _law_can_be: 0 needs, 1 fronts, 2 seen, 3 k, 4 more, 5 left, 6 done, 7 at, 8 rest, 9 one -/
theorem sc__law_can_be : FnScope n__law_can_be ["needs"] (defScope s__law_can_be) := ⟨rfl, rfl, rfl, by decide +kernel, rfl, by decide +kernel, by decide +kernel⟩
abbrev s__law_small_right : Stmt := topS 10
abbrev n__law_small_right : List Str := ["tape", "needs", "k", "told"]
/-! _law_small_right: 0 tape, 1 needs, 2 k, 3 told -/
theorem sc__law_small_right : FnScope n__law_small_right ["tape"] (defScope s__law_small_right) := ⟨rfl, rfl, rfl, by decide +kernel, rfl, by decide +kernel, by decide +kernel⟩
abbrev s_law : Stmt := topS 11
abbrev n_law : List Str := ["script", "tape", "k", "needs", "tickets", "about", "at", "ticket", "many", "by", "passed"]
/-! law: 0 script, 1 tape, 2 k, 3 needs, 4 tickets, 5 about, 6 at, 7 ticket, 8 many, 9 by, 10 passed -/
theorem sc_law : FnScope n_law ["script"] (defScope s_law) := ⟨rfl, rfl, rfl, by decide +kernel, rfl, by decide +kernel, by decide +kernel⟩
open BE
def C_law : Contract := fun ds O R _ => ∃ ns : List Int, ds = [.scr (ns.map .int)] ∧ ns.length ≤ 63 ∧ O = [] ∧ ∀ O', R O' (.bl true)
theorem start_law (ns : List Int) (h : ns.length ≤ 63) (X : XO) : C_law [.scr (ns.map .int)] [] (fun _ d => d = .bl true) X := ⟨ns, rfl, h, rfl, fun _ => rfl⟩
theorem len_law : ∀ ds O R X, C_law ds O R X → ds.length = 1 := fun _ _ _ _ h => by obtain ⟨_, rfl, _⟩ := h; rfl

structure TD__law_mixed (K : PySem.W.Frag) (mg : Str → Option Value) where
  a : Addr
  fd : FuncData
  F : Fun K "_law_mixed" "_law_mixed" s__law_mixed a fd
  b : Binds K fd ["number", "turn"] []
  g : mg "_law_mixed" = some (.ref a)
structure TD__law_tape (K : PySem.W.Frag) (mg : Str → Option Value) where
  a : Addr
  fd : FuncData
  F : Fun K "_law_tape" "_law_tape" s__law_tape a fd
  b : Binds K fd ["script"] []
  g : mg "_law_tape" = some (.ref a)
structure TD__law_draw (K : PySem.W.Frag) (mg : Str → Option Value) where
  a : Addr
  fd : FuncData
  F : Fun K "_law_draw" "_law_draw" s__law_draw a fd
  b : Binds K fd ["tape", "many"] []
  g : mg "_law_draw" = some (.ref a)
structure TD__law_pick (K : PySem.W.Frag) (mg : Str → Option Value) where
  a : Addr
  fd : FuncData
  F : Fun K "_law_pick" "_law_pick" s__law_pick a fd
  b : Binds K fd ["tape", "row"] []
  g : mg "_law_pick" = some (.ref a)
structure TD__law_same (K : PySem.W.Frag) (mg : Str → Option Value) where
  a : Addr
  fd : FuncData
  F : Fun K "_law_same" "_law_same" s__law_same a fd
  b : Binds K fd ["actual", "due"] []
  g : mg "_law_same" = some (.ref a)
structure TD_deadline_plan (K : PySem.W.Frag) (mg : Str → Option Value) where
  a : Addr
  fd : FuncData
  F : Fun K "deadline_plan" "deadline_plan" s_deadline_plan a fd
  b : Binds K fd ["needs"] []
  g : mg "deadline_plan" = some (.ref a)
structure TD__law_due (K : PySem.W.Frag) (mg : Str → Option Value) where
  a : Addr
  fd : FuncData
  F : Fun K "_law_due" "_law_due" s__law_due a fd
  b : Binds K fd ["needs"] []
  g : mg "_law_due" = some (.ref a)
structure TD__law_can_be (K : PySem.W.Frag) (mg : Str → Option Value) where
  a : Addr
  fd : FuncData
  F : Fun K "_law_can_be" "_law_can_be" s__law_can_be a fd
  b : Binds K fd ["needs"] []
  g : mg "_law_can_be" = some (.ref a)
structure TD__law_small_right (K : PySem.W.Frag) (mg : Str → Option Value) where
  a : Addr
  fd : FuncData
  F : Fun K "_law_small_right" "_law_small_right" s__law_small_right a fd
  b : Binds K fd ["tape"] []
  g : mg "_law_small_right" = some (.ref a)
structure TD_law (K : PySem.W.Frag) (mg : Str → Option Value) where
  a : Addr
  fd : FuncData
  F : Fun K "law" "law" s_law a fd
  b : Binds K fd ["script"] []
  g : mg "law" = some (.ref a)
set_option maxHeartbeats 0 in
structure Tx (K : PySem.W.Frag) (mg : Str → Option Value) where
  d__law_mixed : TD__law_mixed K mg
  d__law_tape : TD__law_tape K mg
  d__law_draw : TD__law_draw K mg
  d__law_pick : TD__law_pick K mg
  d__law_same : TD__law_same K mg
  d_deadline_plan : TD_deadline_plan K mg
  d__law_due : TD__law_due K mg
  d__law_can_be : TD__law_can_be K mg
  d__law_small_right : TD__law_small_right K mg
  d_law : TD_law K mg
  m_bool : mg "bool" = none
  m_int : mg "int" = none
  m_isinstance : mg "isinstance" = none
  m_len : mg "len" = none
  m_list : mg "list" = none
  m_max : mg "max" = none
  m_min : mg "min" = none
  m_range : mg "range" = none
  m_sorted : mg "sorted" = none
  m_str : mg "str" = none
  m_sum : mg "sum" = none
  m_tuple : mg "tuple" = none
abbrev Tx.a__law_mixed {K : PySem.W.Frag} {mg : Str → Option Value} (T : Tx K mg) : Addr := T.d__law_mixed.a
abbrev Tx.fd__law_mixed {K : PySem.W.Frag} {mg : Str → Option Value} (T : Tx K mg) : FuncData := T.d__law_mixed.fd
theorem Tx.F__law_mixed {K : PySem.W.Frag} {mg : Str → Option Value} (T : Tx K mg) : Fun K "_law_mixed" "_law_mixed" s__law_mixed T.a__law_mixed T.fd__law_mixed := T.d__law_mixed.F
theorem Tx.b__law_mixed {K : PySem.W.Frag} {mg : Str → Option Value} (T : Tx K mg) : Binds K T.fd__law_mixed ["number", "turn"] [] := T.d__law_mixed.b
theorem Tx.g__law_mixed {K : PySem.W.Frag} {mg : Str → Option Value} (T : Tx K mg) : mg "_law_mixed" = some (.ref T.a__law_mixed) := T.d__law_mixed.g
abbrev Tx.a__law_tape {K : PySem.W.Frag} {mg : Str → Option Value} (T : Tx K mg) : Addr := T.d__law_tape.a
abbrev Tx.fd__law_tape {K : PySem.W.Frag} {mg : Str → Option Value} (T : Tx K mg) : FuncData := T.d__law_tape.fd
theorem Tx.F__law_tape {K : PySem.W.Frag} {mg : Str → Option Value} (T : Tx K mg) : Fun K "_law_tape" "_law_tape" s__law_tape T.a__law_tape T.fd__law_tape := T.d__law_tape.F
theorem Tx.b__law_tape {K : PySem.W.Frag} {mg : Str → Option Value} (T : Tx K mg) : Binds K T.fd__law_tape ["script"] [] := T.d__law_tape.b
theorem Tx.g__law_tape {K : PySem.W.Frag} {mg : Str → Option Value} (T : Tx K mg) : mg "_law_tape" = some (.ref T.a__law_tape) := T.d__law_tape.g
abbrev Tx.a__law_draw {K : PySem.W.Frag} {mg : Str → Option Value} (T : Tx K mg) : Addr := T.d__law_draw.a
abbrev Tx.fd__law_draw {K : PySem.W.Frag} {mg : Str → Option Value} (T : Tx K mg) : FuncData := T.d__law_draw.fd
theorem Tx.F__law_draw {K : PySem.W.Frag} {mg : Str → Option Value} (T : Tx K mg) : Fun K "_law_draw" "_law_draw" s__law_draw T.a__law_draw T.fd__law_draw := T.d__law_draw.F
theorem Tx.b__law_draw {K : PySem.W.Frag} {mg : Str → Option Value} (T : Tx K mg) : Binds K T.fd__law_draw ["tape", "many"] [] := T.d__law_draw.b
theorem Tx.g__law_draw {K : PySem.W.Frag} {mg : Str → Option Value} (T : Tx K mg) : mg "_law_draw" = some (.ref T.a__law_draw) := T.d__law_draw.g
abbrev Tx.a__law_pick {K : PySem.W.Frag} {mg : Str → Option Value} (T : Tx K mg) : Addr := T.d__law_pick.a
abbrev Tx.fd__law_pick {K : PySem.W.Frag} {mg : Str → Option Value} (T : Tx K mg) : FuncData := T.d__law_pick.fd
theorem Tx.F__law_pick {K : PySem.W.Frag} {mg : Str → Option Value} (T : Tx K mg) : Fun K "_law_pick" "_law_pick" s__law_pick T.a__law_pick T.fd__law_pick := T.d__law_pick.F
theorem Tx.b__law_pick {K : PySem.W.Frag} {mg : Str → Option Value} (T : Tx K mg) : Binds K T.fd__law_pick ["tape", "row"] [] := T.d__law_pick.b
theorem Tx.g__law_pick {K : PySem.W.Frag} {mg : Str → Option Value} (T : Tx K mg) : mg "_law_pick" = some (.ref T.a__law_pick) := T.d__law_pick.g
abbrev Tx.a__law_same {K : PySem.W.Frag} {mg : Str → Option Value} (T : Tx K mg) : Addr := T.d__law_same.a
abbrev Tx.fd__law_same {K : PySem.W.Frag} {mg : Str → Option Value} (T : Tx K mg) : FuncData := T.d__law_same.fd
theorem Tx.F__law_same {K : PySem.W.Frag} {mg : Str → Option Value} (T : Tx K mg) : Fun K "_law_same" "_law_same" s__law_same T.a__law_same T.fd__law_same := T.d__law_same.F
theorem Tx.b__law_same {K : PySem.W.Frag} {mg : Str → Option Value} (T : Tx K mg) : Binds K T.fd__law_same ["actual", "due"] [] := T.d__law_same.b
theorem Tx.g__law_same {K : PySem.W.Frag} {mg : Str → Option Value} (T : Tx K mg) : mg "_law_same" = some (.ref T.a__law_same) := T.d__law_same.g
abbrev Tx.a_deadline_plan {K : PySem.W.Frag} {mg : Str → Option Value} (T : Tx K mg) : Addr := T.d_deadline_plan.a
abbrev Tx.fd_deadline_plan {K : PySem.W.Frag} {mg : Str → Option Value} (T : Tx K mg) : FuncData := T.d_deadline_plan.fd
theorem Tx.F_deadline_plan {K : PySem.W.Frag} {mg : Str → Option Value} (T : Tx K mg) : Fun K "deadline_plan" "deadline_plan" s_deadline_plan T.a_deadline_plan T.fd_deadline_plan := T.d_deadline_plan.F
theorem Tx.b_deadline_plan {K : PySem.W.Frag} {mg : Str → Option Value} (T : Tx K mg) : Binds K T.fd_deadline_plan ["needs"] [] := T.d_deadline_plan.b
theorem Tx.g_deadline_plan {K : PySem.W.Frag} {mg : Str → Option Value} (T : Tx K mg) : mg "deadline_plan" = some (.ref T.a_deadline_plan) := T.d_deadline_plan.g
abbrev Tx.a__law_due {K : PySem.W.Frag} {mg : Str → Option Value} (T : Tx K mg) : Addr := T.d__law_due.a
abbrev Tx.fd__law_due {K : PySem.W.Frag} {mg : Str → Option Value} (T : Tx K mg) : FuncData := T.d__law_due.fd
theorem Tx.F__law_due {K : PySem.W.Frag} {mg : Str → Option Value} (T : Tx K mg) : Fun K "_law_due" "_law_due" s__law_due T.a__law_due T.fd__law_due := T.d__law_due.F
theorem Tx.b__law_due {K : PySem.W.Frag} {mg : Str → Option Value} (T : Tx K mg) : Binds K T.fd__law_due ["needs"] [] := T.d__law_due.b
theorem Tx.g__law_due {K : PySem.W.Frag} {mg : Str → Option Value} (T : Tx K mg) : mg "_law_due" = some (.ref T.a__law_due) := T.d__law_due.g
abbrev Tx.a__law_can_be {K : PySem.W.Frag} {mg : Str → Option Value} (T : Tx K mg) : Addr := T.d__law_can_be.a
abbrev Tx.fd__law_can_be {K : PySem.W.Frag} {mg : Str → Option Value} (T : Tx K mg) : FuncData := T.d__law_can_be.fd
theorem Tx.F__law_can_be {K : PySem.W.Frag} {mg : Str → Option Value} (T : Tx K mg) : Fun K "_law_can_be" "_law_can_be" s__law_can_be T.a__law_can_be T.fd__law_can_be := T.d__law_can_be.F
theorem Tx.b__law_can_be {K : PySem.W.Frag} {mg : Str → Option Value} (T : Tx K mg) : Binds K T.fd__law_can_be ["needs"] [] := T.d__law_can_be.b
theorem Tx.g__law_can_be {K : PySem.W.Frag} {mg : Str → Option Value} (T : Tx K mg) : mg "_law_can_be" = some (.ref T.a__law_can_be) := T.d__law_can_be.g
abbrev Tx.a__law_small_right {K : PySem.W.Frag} {mg : Str → Option Value} (T : Tx K mg) : Addr := T.d__law_small_right.a
abbrev Tx.fd__law_small_right {K : PySem.W.Frag} {mg : Str → Option Value} (T : Tx K mg) : FuncData := T.d__law_small_right.fd
theorem Tx.F__law_small_right {K : PySem.W.Frag} {mg : Str → Option Value} (T : Tx K mg) : Fun K "_law_small_right" "_law_small_right" s__law_small_right T.a__law_small_right T.fd__law_small_right := T.d__law_small_right.F
theorem Tx.b__law_small_right {K : PySem.W.Frag} {mg : Str → Option Value} (T : Tx K mg) : Binds K T.fd__law_small_right ["tape"] [] := T.d__law_small_right.b
theorem Tx.g__law_small_right {K : PySem.W.Frag} {mg : Str → Option Value} (T : Tx K mg) : mg "_law_small_right" = some (.ref T.a__law_small_right) := T.d__law_small_right.g
abbrev Tx.a_law {K : PySem.W.Frag} {mg : Str → Option Value} (T : Tx K mg) : Addr := T.d_law.a
abbrev Tx.fd_law {K : PySem.W.Frag} {mg : Str → Option Value} (T : Tx K mg) : FuncData := T.d_law.fd
theorem Tx.F_law {K : PySem.W.Frag} {mg : Str → Option Value} (T : Tx K mg) : Fun K "law" "law" s_law T.a_law T.fd_law := T.d_law.F
theorem Tx.b_law {K : PySem.W.Frag} {mg : Str → Option Value} (T : Tx K mg) : Binds K T.fd_law ["script"] [] := T.d_law.b
theorem Tx.g_law {K : PySem.W.Frag} {mg : Str → Option Value} (T : Tx K mg) : mg "law" = some (.ref T.a_law) := T.d_law.g
section
variable {P : Program} {w : World} {K : PySem.W.Frag} {mg : Str → Option Value} {base : Heap}
set_option maxHeartbeats 8000000 in
theorem ok__law_mixed (T : Tx K mg) : FnOk P w K mg base CX0 1 T.a__law_mixed T.fd__law_mixed ["number", "turn"] (SpA K AT.C__law_mixed) := by
  refine Fun.ok T.F__law_mixed sc__law_mixed (fun vs H Q E h => SpA.len AT.len__law_mixed h) (fun cdv A outer s H vs Q E hr h => ⟨_, (pss_cons (ps_set (i := 2) sc__law_mixed.nd rfl (.inl rfl) (pe_op op_modA (pe_callTy call_intA (by rfl) T.m_int (by decide +kernel) (pa_cons (pe_op (op_addK (K := K) rfl) (pe_op (op_addK (K := K) rfl) (pe_op op_mulA (pv 0) pe_int) (pe_op op_mulA (pv 1) pe_int)) pe_int) pa_nil)) pe_int))
      (pss_cons (ps_set (i := 3) sc__law_mixed.nd rfl (.inl rfl) (pe_op op_modA (pe_callTy call_intA (by rfl) T.m_int (by decide +kernel) (pa_cons (pe_op (op_addK (K := K) rfl) (pe_op (op_addK (K := K) rfl) (pe_op op_mulA (pv 2) pe_int) (pe_op op_divA (pv 2) pe_int)) (pe_op op_mulA (pv 1) pe_int)) pa_nil)) pe_int))
      (pss_one (ps_ret (pe_op op_modA (pe_callTy call_intA (by rfl) T.m_int (by decide +kernel) (pa_cons (pe_op (op_addK (K := K) rfl) (pe_op op_mulA (pv 3) (pv 3)) (pe_op op_divA (pv 2) pe_int)) pa_nil)) pe_int))))), run_def h (fun ds O R X c hK hE hX hp => ?_)⟩)
  subst hK; clear h hr
  try dsimp only [cxOf, Cx.nox, Cx.wish]
  obtain ⟨a, b, rfl, k⟩ := hp
  walk_at "als"
  exact k _ (by omega)

set_option maxHeartbeats 8000000 in
theorem ok__law_tape (T : Tx K mg) : FnOk P w K mg base CX0 1 T.a__law_tape T.fd__law_tape ["script"] (SpA K AT.C__law_tape) := by
  refine Fun.ok T.F__law_tape sc__law_tape (fun vs H Q E h => SpA.len AT.len__law_tape h) (fun cdv A outer s H vs Q E hr h => ⟨_, (pss_one (ps_ret (pe_disp (pps_cons pe_str (pe_callTy (call_listK (K := K) rfl) (by rfl) T.m_list (by decide +kernel) (pa_cons (pv 0) pa_nil)) (pps_cons pe_str pe_int (pps_cons pe_str pe_int (pps_cons pe_str pe_int (pps_cons pe_str pe_int (pps_cons pe_str pe_int pps_nil)))))) rfl rfl (by simp) (by decide)))), run_def h (fun ds O R X c hK hE hX hp => ?_)⟩)
  subst hK; clear h hr
  try dsimp only [cxOf, Cx.nox, Cx.wish]
  obtain ⟨ns, rfl, hl, k⟩ := hp
  walk_at "alm"
  refine ⟨Nat.le_of_ble_eq_true rfl, ?_⟩
  exact k

set_option maxHeartbeats 8000000 in
theorem ok__law_draw (T : Tx K mg) (G__law_mixed : FnOk P w K mg base CX0 1 T.a__law_mixed T.fd__law_mixed ["number", "turn"] (SpA K AT.C__law_mixed)) : FnOk P w K mg base CX0 2 T.a__law_draw T.fd__law_draw ["tape", "many"] (SpA K AT.C__law_draw) := by
  refine Fun.ok T.F__law_draw sc__law_draw (fun vs H Q E h => SpA.len AT.len__law_draw h) (fun cdv A outer s H vs Q E hr h => ⟨_, (pss_cons (ps_dput (huOf hr.units) (pv 0) pe_str (pe_op (op_addK (K := K) rfl) (pe_dget (huOf hr.units) (pv 0) pe_str (fun _ _ => rfl)) pe_int) (by rfl))
      (pss_cons (ps_if (PW.pt (pw_and (pt_cmpR (op_eqK (K := K) rfl hr.units) (pe_dget (huOf hr.units) (pv 0) pe_str (fun _ _ => rfl)) pe_int (nomark _)) (pw_and1 (pt_cmpR op_ltA (pe_dget (huOf hr.units) (pv 0) pe_str (fun _ _ => rfl)) (pe_callB (call_lenK (K := K) rfl) (by rfl) T.m_len (by decide +kernel) (pa_cons (pe_dget (huOf hr.units) (pv 0) pe_str (fun _ _ => rfl)) pa_nil)) (nomark _))))) (pss_cons (ps_set (i := 2) sc__law_draw.nd rfl (.inl rfl) (pe_ix (ix_seqK (K := K) rfl) (pe_dget (huOf hr.units) (pv 0) pe_str (fun _ _ => rfl)) (pe_dget (huOf hr.units) (pv 0) pe_str (fun _ _ => rfl)) (fun _ _ => rfl)))
      (pss_cons (ps_dput (huOf hr.units) (pv 0) pe_str (pe_op (op_addK (K := K) rfl) (pe_dget (huOf hr.units) (pv 0) pe_str (fun _ _ => rfl)) pe_int) (by rfl))
      (pss_cons (ps_dput (huOf hr.units) (pv 0) pe_str (pe_call G__law_mixed (hr.mono (by decide)) (by rfl) T.g__law_mixed T.F__law_mixed.kp T.b__law_mixed .nil pass0 (pa_cons (pe_op (op_addK (K := K) rfl) (pe_dget (huOf hr.units) (pv 0) pe_str (fun _ _ => rfl)) (pv 2)) (pa_cons (pe_dget (huOf hr.units) (pv 0) pe_str (fun _ _ => rfl)) pa_nil))) (by rfl))
      (pss_cons (ps_dput (huOf hr.units) (pv 0) pe_str pe_int (by rfl))
      (pss_one (ps_if (pt_cmpR op_geA (pv 2) (pe_op op_powA pe_int pe_int) (nomark _)) (pss_cons (ps_dput (huOf hr.units) (pv 0) pe_str (pv 2) (by rfl))
      (pss_one (ps_dput (huOf hr.units) (pv 0) pe_str pe_int (by rfl)))) pss_nil)))))) pss_nil)
      (pss_cons (ps_if (pt_cmpR op_gtA (pe_dget (huOf hr.units) (pv 0) pe_str (fun _ _ => rfl)) pe_int (nomark _)) (pss_one (ps_dput (huOf hr.units) (pv 0) pe_str (pe_op op_subA (pe_dget (huOf hr.units) (pv 0) pe_str (fun _ _ => rfl)) pe_int) (by rfl))) pss_nil)
      (pss_cons (ps_if (pt_cmpR (op_eqK (K := K) rfl hr.units) (pe_dget (huOf hr.units) (pv 0) pe_str (fun _ _ => rfl)) pe_int (nomark _)) (pss_one (ps_ret (pe_op op_modA (pe_callTy call_intA (by rfl) T.m_int (by decide +kernel) (pa_cons (pe_call G__law_mixed (hr.mono (by decide)) (by rfl) T.g__law_mixed T.F__law_mixed.kp T.b__law_mixed .nil pass0 (pa_cons (pe_dget (huOf hr.units) (pv 0) pe_str (fun _ _ => rfl)) (pa_cons (pe_dget (huOf hr.units) (pv 0) pe_str (fun _ _ => rfl)) pa_nil))) pa_nil)) (pv 1)))) pss_nil)
      (pss_cons (ps_set (i := 3) sc__law_draw.nd rfl (.inl rfl) (pe_op op_modA (pe_callTy call_intA (by rfl) T.m_int (by decide +kernel) (pa_cons (pe_dget (huOf hr.units) (pv 0) pe_str (fun _ _ => rfl)) pa_nil)) pe_int))
      (pss_cons (ps_dput (huOf hr.units) (pv 0) pe_str (pe_op op_divA (pe_dget (huOf hr.units) (pv 0) pe_str (fun _ _ => rfl)) pe_int) (by rfl))
      (pss_cons (ps_if (PW.pt (pw_or (pt_cmpR (op_eqK (K := K) rfl hr.units) (pe_dget (huOf hr.units) (pv 0) pe_str (fun _ _ => rfl)) pe_int (nomark _)) (pw_or1 (pt_cmpR (op_eqK (K := K) rfl hr.units) (pe_dget (huOf hr.units) (pv 0) pe_str (fun _ _ => rfl)) pe_int (nomark _))))) (pss_cons (ps_dput (huOf hr.units) (pv 0) pe_str pe_int (by rfl))
      (pss_one (ps_dput (huOf hr.units) (pv 0) pe_str pe_int (by rfl)))) pss_nil)
      (pss_one (ps_ret (pe_op op_modA (pe_callTy call_intA (by rfl) T.m_int (by decide +kernel) (pa_cons (pv 3) pa_nil)) (pv 1))))))))))), run_def h (fun ds O R X c hK hE hX hp => ?_)⟩)
  subst hK; clear h hr
  try dsimp only [cxOf, Cx.nox, Cx.wish]
  obtain ⟨n, t, many, rfl, hO, ht, hm, k⟩ := hp
  have hn := (List.getElem?_eq_some_iff.mp hO).1
  unfold AT.cTape at hO
  have gs : ∀ t : AT.TapeM, (O.set n (AT.cTape t))[n]? = some (.dK (AT.tapeF t)) := fun t => getset hn
  refine vs_cutI (α := AT.TapeM) [] (fun _ => []) (fun t' => O.set n (AT.cTape t')) (fun t' => 0 ≤ t'.at_) ?_ ?_
  · walk_at "alm"
    walk_at "tp"
    exact ⟨_, rfl, ht⟩
  rintro t1 ht1
  have g1 := gs t1
  walk_at "fl"
  refine vs_cutI (α := AT.TapeM) [2] (fun _ => []) (fun t' => O.set n (AT.cTape t')) (fun t' => 0 ≤ t'.at_) ?_ ?_
  · refine vs_if ?_
    walk_at "alm"
    refine ⟨fun _ => ?_, fun _ => ?_⟩
    · walk_at "alm"
      rw [List.length_map]
      refine br (fun hb => ?_) (fun hb => ?_)
      · walk_at "alm"
        refine ⟨_, _, rfl, fun v hv => ?_⟩
        walk_at "alm"
        refine vs_if ?_
        walk_at "alm"
        refine ⟨fun _ => ?_, fun _ => ?_⟩
        · walk_at "alm"
          walk_at "tp"
          exact ⟨_, rfl, by show 0 ≤ t1.at_ + 1; omega⟩
        · walk_at "alm"
          walk_at "tp"
          exact ⟨_, rfl, by show 0 ≤ t1.at_ + 1; omega⟩
      · walk_at "alm"
        exact ⟨t1, rfl, ht1⟩
    · walk_at "alm"
      exact ⟨t1, rfl, ht1⟩
  rintro t2 ht2
  have g2 := gs t2
  walk_at "fl"
  refine vs_cutI (α := AT.TapeM) [] (fun _ => []) (fun t' => O.set n (AT.cTape t')) (fun t' => 0 ≤ t'.at_) ?_ ?_
  · refine vs_if ?_
    walk_at "alm"
    refine ⟨fun _ => ?_, fun _ => ?_⟩
    · walk_at "alm"
      walk_at "tp"
      exact ⟨_, rfl, ht2⟩
    · walk_at "alm"
      exact ⟨t2, rfl, ht2⟩
  rintro t3 ht3
  have g3 := gs t3
  walk_at "fl"
  refine vs_seq (vs_if ?_)
  walk_at "alm"
  refine ⟨fun _ => ?_, fun _ => ?_⟩
  · walk_at "alm"
    refine ⟨_, _, rfl, fun v hv => ?_⟩
    walk_at "alm"
    exact k t3 _ ht3 (Int.emod_nonneg _ (by omega)) (Int.emod_lt_of_pos _ hm)
  · walk_at "alm"
    refine vs_cutI (α := AT.TapeM) [] (fun _ => []) (fun t' => O.set n (AT.cTape t')) (fun t' => 0 ≤ t'.at_) ?_ ?_
    · refine vs_if ?_
      walk_at "alm"
      refine ⟨fun _ => ?_, fun _ => ?_⟩
      · walk_at "alm"
        walk_at "tp"
        exact ⟨_, rfl, ht3⟩
      · walk_at "alm"
        refine ⟨fun _ => ?_, fun _ => ?_⟩
        · walk_at "alm"
          walk_at "tp"
          exact ⟨_, rfl, ht3⟩
        · walk_at "alm"
          walk_at "tp"
          exact ⟨_, rfl, ht3⟩
    rintro t4 ht4
    have g4 := gs t4
    walk_at "fl"
    walk_at "alm"
    exact k t4 _ ht4 (Int.emod_nonneg _ (by omega)) (Int.emod_lt_of_pos _ hm)

set_option maxHeartbeats 8000000 in
theorem ok__law_pick (T : Tx K mg) (G__law_draw : FnOk P w K mg base CX0 2 T.a__law_draw T.fd__law_draw ["tape", "many"] (SpA K AT.C__law_draw)) : FnOk P w K mg base CX0 3 T.a__law_pick T.fd__law_pick ["tape", "row"] (SpA K AT.C__law_pick) := by
  refine Fun.ok T.F__law_pick sc__law_pick (fun vs H Q E h => SpA.len AT.len__law_pick h) (fun cdv A outer s H vs Q E hr h => ⟨_, (pss_one (ps_ret (pe_ix (ix_seqK (K := K) rfl) (pv 1) (pe_call G__law_draw (hr.mono (by decide)) (by rfl) T.g__law_draw T.F__law_draw.kp T.b__law_draw .nil pass0 (pa_cons (pv 0) (pa_cons (pe_callB (call_lenK (K := K) rfl) (by rfl) T.m_len (by decide +kernel) (pa_cons (pv 1) pa_nil)) pa_nil))) (fun _ _ => rfl)))), run_def h (fun ds O R X c hK hE hX hp => ?_)⟩)
  subst hK; clear h hr
  try dsimp only [cxOf, Cx.nox, Cx.wish]
  obtain ⟨n, t, xs, rfl, hO, ht, h0, h1, k⟩ := hp
  walk_at "alm"
  refine ⟨n, t, _, rfl, hO, ht, by omega, fun t' v ht' hv0 hv1 => ?_⟩
  walk_at "alm"
  refine od_ixAll (P := fun d => d ∈ xs) rfl hv0 hv1 (fun d h => h) fun d hd => ?_
  walk_at "alm"
  exact k t' d ht' hd

set_option maxHeartbeats 8000000 in
theorem ok__law_same (T : Tx K mg) : ∀ k : Nat, FnOk P w K mg base CX0 (k + 1) T.a__law_same T.fd__law_same ["actual", "due"] (SpA K (C__law_same k)) := by
  intro k
  induction k with
  | zero => exact ⟨fun vs H Q E h => SpA.len len__law_same h, fun A outer s H args us vs Q E hr e b v h => (none__law_same h).elim⟩
  | succ k G__law_same =>
  refine T.F__law_same.ok sc__law_same (fun vs H Q E h => SpA.len len__law_same h) (fun cdv A outer s H vs Q E hr h => ⟨_, (pss_cons (ps_if (pt_val (pe_callB (call_isiK (K := K) rfl) (by rfl) T.m_isinstance (by decide +kernel) (pa_cons (pv 1) (pa_cons (pe_bltn (v := .ty "tuple") (u := .type "tuple") (by rfl) T.m_tuple (by decide +kernel) rfl) pa_nil)))) (pss_cons (ps_if (PW.pt (pw_or (pt_not (pt_val (pe_callB (call_isiK (K := K) rfl) (by rfl) T.m_isinstance (by decide +kernel) (pa_cons (pv 0) (pa_cons (pe_bltn (v := .ty "tuple") (u := .type "tuple") (by rfl) T.m_tuple (by decide +kernel) rfl) pa_nil))))) (pw_or1 (pt_cmpR (op_neK (K := K) rfl hr.units) (pe_callB (call_lenK (K := K) rfl) (by rfl) T.m_len (by decide +kernel) (pa_cons (pv 0) pa_nil)) (pe_callB (call_lenK (K := K) rfl) (by rfl) T.m_len (by decide +kernel) (pa_cons (pv 1) pa_nil)) (nomark _))))) (pss_one (ps_ret pe_bl)) pss_nil)
      (pss_cons (ps_for PassesOwn.never rfl (pi_range1 (by rfl) T.m_range (pa_cons (pe_callB (call_lenK (K := K) rfl) (by rfl) T.m_len (by decide +kernel) (pa_cons (pv 1) pa_nil)) pa_nil)) (pg_name (i := 2) sc__law_same.nd rfl (.inl rfl)) (pss_one (ps_if (pt_not (pt_val (pe_call G__law_same hr (by rfl) T.g__law_same T.F__law_same.kp T.b__law_same .nil pass0 (pa_cons (pe_ix (ix_seqK (K := K) rfl) (pv 0) (pv 2) (fun _ _ => rfl)) (pa_cons (pe_ix (ix_seqK (K := K) rfl) (pv 1) (pv 2) (fun _ _ => rfl)) pa_nil))))) (pss_one (ps_ret pe_bl)) pss_nil)))
      (pss_one (ps_ret pe_bl)))) pss_nil)
      (pss_cons (ps_if (pt_cmpR op_isA (pv 1) pe_non (nomark _)) (pss_one (ps_ret (pe_cmpR op_isA (pv 0) pe_non (nomark _)))) pss_nil)
      (pss_cons (ps_if (pt_val (pe_callB (call_isiK (K := K) rfl) (by rfl) T.m_isinstance (by decide +kernel) (pa_cons (pv 1) (pa_cons (pe_bltn (v := .ty "bool") (u := .type "bool") (by rfl) T.m_bool (by decide +kernel) rfl) pa_nil)))) (pss_one (ps_ret (pe_and (pe_callB (call_isiK (K := K) rfl) (by rfl) T.m_isinstance (by decide +kernel) (pa_cons (pv 0) (pa_cons (pe_bltn (v := .ty "bool") (u := .type "bool") (by rfl) T.m_bool (by decide +kernel) rfl) pa_nil))) (pe_one (pe_cmpR (op_eqK (K := K) rfl hr.units) (pv 0) (pv 1) (nomark _)))))) pss_nil)
      (pss_cons (ps_if (pt_val (pe_callB (call_isiK (K := K) rfl) (by rfl) T.m_isinstance (by decide +kernel) (pa_cons (pv 1) (pa_cons (pe_bltn (v := .ty "str") (u := .type "str") (by rfl) T.m_str (by decide +kernel) rfl) pa_nil)))) (pss_one (ps_ret (pe_and (pe_callB (call_isiK (K := K) rfl) (by rfl) T.m_isinstance (by decide +kernel) (pa_cons (pv 0) (pa_cons (pe_bltn (v := .ty "str") (u := .type "str") (by rfl) T.m_str (by decide +kernel) rfl) pa_nil))) (pe_one (pe_cmpR (op_eqK (K := K) rfl hr.units) (pv 0) (pv 1) (nomark _)))))) pss_nil)
      (pss_one (ps_ret (pe_and (pe_callB (call_isiK (K := K) rfl) (by rfl) T.m_isinstance (by decide +kernel) (pa_cons (pv 0) (pa_cons (pe_bltn (v := .ty "int") (u := .type "int") (by rfl) T.m_int (by decide +kernel) rfl) pa_nil))) (pe_and (pe_not (pe_callB (call_isiK (K := K) rfl) (by rfl) T.m_isinstance (by decide +kernel) (pa_cons (pv 0) (pa_cons (pe_bltn (v := .ty "bool") (u := .type "bool") (by rfl) T.m_bool (by decide +kernel) rfl) pa_nil)))) (pe_one (pe_cmpR (op_eqK (K := K) rfl hr.units) (pv 0) (pv 1) (nomark _))))))))))), run_def h (fun ds O R X c hK hE hX hp => ?_)⟩)
  subst hK; clear h hr
  try dsimp only [cxOf, Cx.nox, Cx.wish]
  obtain ⟨a, e, rfl, ha, he, q⟩ := hp
  have fin : ∀ {b : Bool}, sameK (k + 1) a e = b → R O (.bl b) := fun {b} z => z ▸ q
  cases e <;> first
    | exact (he : False).elim
    | (walk_at "al"
       cases a <;> first
        | exact (ha : False).elim
        | (walk_at "al" <;> exact fin rfl)
        | skip)
  rename_i es as
  walk_at "al"
  refine ⟨fun hb => ?_, fun hb => ?_⟩
  · walk_at "al"
    refine fin ?_
    have hb : ¬ as.length = es.length := fun z => by rw [z] at hb; simp at hb
    simp [sameK, hb]
  · have hb : as.length = es.length := by
      have z : (as.length : Int) = es.length := by simpa using hb
      omega
    walk_at "al"
    refine vs_for (fun i A => ∃ z, A = ⟨[some (.val (.tup as)), some (.val (.tup es)), z], O⟩ ∧ ∀ j : Nat, j < i → sameK k (as.getD j .non) (es.getD j .non) = true) ?_
    walk_at "al"
    have hel : es.length < 1000 := he.1
    refine ⟨_, rfl, by omega, by omega, ⟨none, rfl, fun j h => absurd h (Nat.not_lt_zero _)⟩, ?_, ?_⟩
    · rintro i d A2 hd ⟨z, rfl, hz⟩
      obtain ⟨hi, rfl⟩ := intsD_at hd
      have hi : i < es.length := by omega
      have hia : i < as.length := by omega
      walk_at "al"
      refine od_ixT (ds := as) rfl (atI_of (by omega) (show as[(0 + (i : Int)).toNat]? = some (as.getD i .non) by rw [show (0 + (i : Int)).toNat = i by omega, List.getElem?_eq_getElem hia, getD_lt hia])) ?_
      walk_at "al"
      refine od_ixT (ds := es) rfl (atI_of (by omega) (show es[(0 + (i : Int)).toNat]? = some (es.getD i .non) by rw [show (0 + (i : Int)).toNat = i by omega, List.getElem?_eq_getElem hi, getD_lt hi])) ?_
      walk_at "al"
      refine ⟨_, _, rfl, by rw [getD_lt hia]; exact ha.2 _ (List.getElem_mem hia), by rw [getD_lt hi]; exact he.2 _ (List.getElem_mem hi), ?_⟩
      walk_at "al"
      refine ⟨fun hc => ?_, fun hc => ?_⟩
      · walk_at "al"
        refine fin ?_
        have hc : sameK k (as.getD i .non) (es.getD i .non) = false := by simpa using hc
        simp only [sameK, hb, decide_true, Bool.true_and]
        exact List.all_eq_false.mpr ⟨i, List.mem_range.mpr hi, by rw [hc]; exact Bool.false_ne_true⟩
      · have hc : sameK k (as.getD i .non) (es.getD i .non) = true := by simpa using hc
        walk_at "al"
        refine ⟨_, rfl, fun j hj => ?_⟩
        by_cases e : j = i
        · subst e; exact hc
        · exact hz j (by omega)
    · rintro A2 ⟨z, rfl, hz⟩
      walk_at "al"
      refine fin ?_
      simp only [sameK, hb, decide_true, Bool.true_and]
      refine List.all_eq_true.mpr fun j hj => ?_
      rw [intsD_len] at hz
      exact hz j (by have := List.mem_range.mp hj; omega)

set_option maxHeartbeats 8000000 in
theorem ok_deadline_plan (T : Tx K mg) : FnOk P w K mg base CX0 1 T.a_deadline_plan T.fd_deadline_plan ["needs"] (SpA K BE.C_deadline_plan) := by
  refine Fun.ok T.F_deadline_plan sc_deadline_plan (fun vs H Q E h => SpA.len BE.len_deadline_plan h) (fun cdv A outer s H vs Q E hr h => ⟨_, (pss_cons (ps_set (i := 3) sc_deadline_plan.nd rfl (.inl rfl) (pe_callB (cr_sortDK (K := K) rfl hr.units) (by rfl) T.m_sorted (by decide +kernel) (pa_cons (pe_lc (own := [("ticket", 6), ("many", 1), ("by", 2)]) (g := gTup K 3 (gCons (gName 6) (gCons (gName 1) (gCons (gName 2) gNil)))) (tt := tYes) rfl sc_deadline_plan.nd (pi_K (fun K => iSeq K _) (K := K) rfl (pi_seq (pv 0))) (blkOk_by (N := n_deadline_plan) (sc := defScope s_deadline_plan) (by decide +kernel)) (fun _ _ _ _ _ => (pg_K (fun K => gTup K 3 _) (K := K) rfl (pg_tup (by rfl) (pgs_cons (pg_name (i := 6) sc_deadline_plan.nd rfl (.inl rfl)) (pgs_cons (pg_name (i := 1) sc_deadline_plan.nd rfl (.inl rfl)) (pgs_cons (pg_name (i := 2) sc_deadline_plan.nd rfl (.inl rfl)) pgs_nil)))))) (fun _ _ _ _ _ => pts_nil) (fun _ _ _ _ _ => (pe_tupP (pa_cons (pv 2) (pa_cons (pv 6) (pa_cons (pv 1) pa_nil)))))) pa_nil)))
      (pss_cons (ps_set (i := 4) sc_deadline_plan.nd rfl (.inl rfl) pe_int)
      (pss_cons (ps_for PassesOwn.never rfl (pi_K (fun K => iSeq K _) (K := K) rfl (pi_seq (pv 3))) (pg_K (fun K => gTup K 3 _) (K := K) rfl (pg_tup (by rfl) (pgs_cons (pg_name (i := 2) sc_deadline_plan.nd rfl (.inl rfl)) (pgs_cons (pg_name (i := 5) sc_deadline_plan.nd rfl (.inl rfl)) (pgs_cons (pg_name (i := 1) sc_deadline_plan.nd rfl (.inl rfl)) pgs_nil))))) (pss_cons (ps_aug (i := 4) sc_deadline_plan.nd rfl (.inl rfl) (pv 1) ip_add)
      (pss_one (ps_if (pt_cmpR op_gtA (pv 4) (pv 2) (nomark _)) (pss_one (ps_ret (pe_tupP (pa_cons pe_non (pa_cons (pv 2) pa_nil))))) pss_nil))))
      (pss_one (ps_ret (pe_tupP (pa_cons (pe_callTy (call_tupK (K := K) rfl) (by rfl) T.m_tuple (by decide +kernel) (pa_cons (pe_lc (own := [("_", 5), ("ticket", 6), ("many", 1)]) (g := gTup K 3 (gCons (gName 5) (gCons (gName 6) (gCons (gName 1) gNil)))) (tt := tYes) rfl sc_deadline_plan.nd (pi_K (fun K => iSeq K _) (K := K) rfl (pi_seq (pv 3))) (blkOk_by (N := n_deadline_plan) (sc := defScope s_deadline_plan) (by decide +kernel)) (fun _ _ _ _ _ => (pg_K (fun K => gTup K 3 _) (K := K) rfl (pg_tup (by rfl) (pgs_cons (pg_name (i := 5) sc_deadline_plan.nd rfl (.inl rfl)) (pgs_cons (pg_name (i := 6) sc_deadline_plan.nd rfl (.inl rfl)) (pgs_cons (pg_name (i := 1) sc_deadline_plan.nd rfl (.inl rfl)) pgs_nil)))))) (fun _ _ _ _ _ => pts_nil) (fun _ _ _ _ _ => (pe_tupP (pa_cons (pv 6) (pa_cons (pv 1) pa_nil))))) pa_nil)) (pa_cons pe_non pa_nil)))))))), run_def h (fun ds O R X c hK hE hX hp => ?_)⟩)
  subst hK; clear h hr
  try dsimp only [cxOf, Cx.nox, Cx.wish]
  obtain ⟨d, ns, rfl, hd, hl, k⟩ := hp
  refine vs_seq (vs_asg (we_ofN (wn_cb ?_)))
  walk_at "als"
  refine wn_lcV (ds := ns.map dNd) (es := ns.map dO) (gok3 (by decide) (by decide) (by decide)) rfl hd rfl (by rw [List.length_map]; omega) (by rw [List.length_map, List.length_map]) ?_ ?_
  · intro j x hx
    obtain ⟨n, hn, rfl⟩ := map_at hx
    refine wg_tup rfl ?_
    walk_at "al"
    refine ⟨by rw [List.getElem?_map, hn]; rfl, rfl, ?_⟩
    refine Keeps.q (A := ⟨_, O⟩) ?_
    walk_at "keeps"
  walk_at "als"
  refine cn_sortD rfl (ok_ord ns) ?_
  rw [sort_ord]
  have hsl := sortN_len ns
  generalize hso : sortN ns = so at hsl
  walk_at "als"
  refine vs_seq ?_
  walk_at "fl"
  refine vs_forI (α := Int) [1, 2, 5] (fun u => [(4, some (.val (.int u)))]) (fun _ => O) (fun _ i u => u = useF 0 (so.take i) ∧ lateF 0 (so.take i) = none) ?_
  walk_at "als"
  refine ⟨_, rfl, ⟨0, rfl, rfl, rfl⟩, ?_, ?_⟩
  · rintro i x u hx ⟨rfl, hla⟩
    obtain ⟨n, hn, rfl⟩ := map_at hx
    refine wg_tup rfl ?_
    walk_at "als"
    walk_at "fl"
    refine vs_seqAN (vs_augN (a := useF 0 (so.take i)) rfl ?_)
    walk_at "alm"
    refine vs_if ?_
    walk_at "alm"
    refine br (fun hc => ?_) (fun hc => ?_)
    · walk_at "als"
      rw [plan_late (hso ▸ late_hit hn hla hc)] at k
      exact k
    · walk_at "als"
      exact ⟨_, rfl, (use_go hn).symm, late_go hn hla hc⟩
  · rintro u ⟨rfl, hla⟩
    rw [List.length_map, List.take_length] at hla
    rw [plan_ok (hso ▸ hla), hso] at k
    walk_at "fl"
    walk_at "als"
    refine wn_lcV (ds := so.map dO) (es := so.map dTw) (gok3 (by decide) (by decide) (by decide)) rfl (.inl rfl) rfl (by rw [List.length_map]; omega) (by rw [List.length_map, List.length_map]) ?_ ?_
    · intro j x hx
      obtain ⟨n, hn, rfl⟩ := map_at hx
      refine wg_tup rfl ?_
      walk_at "al"
      refine ⟨by rw [List.getElem?_map, hn]; rfl, rfl, ?_⟩
      refine Keeps.q (A := ⟨_, O⟩) ?_
      walk_at "keeps"
    walk_at "als"
    exact k

set_option maxHeartbeats 8000000 in
theorem ok__law_due (T : Tx K mg) : FnOk P w K mg base CX0 1 T.a__law_due T.fd__law_due ["needs"] (SpA K BE.C__law_due) := by
  refine Fun.ok T.F__law_due sc__law_due (fun vs H Q E h => SpA.len BE.len__law_due h) (fun cdv A outer s H vs Q E hr h => ⟨_, (pss_cons (ps_set (i := 1) sc__law_due.nd rfl (.inl rfl) (pe_callB (cr_sortDK (K := K) rfl hr.units) (by rfl) T.m_sorted (by decide +kernel) (pa_cons (pe_lc (own := [("ticket", 5), ("many", 6), ("by", 7)]) (g := gTup K 3 (gCons (gName 5) (gCons (gName 6) (gCons (gName 7) gNil)))) (tt := tYes) rfl sc__law_due.nd (pi_K (fun K => iSeq K _) (K := K) rfl (pi_seq (pv 0))) (blkOk_by (N := n__law_due) (sc := defScope s__law_due) (by decide +kernel)) (fun _ _ _ _ _ => (pg_K (fun K => gTup K 3 _) (K := K) rfl (pg_tup (by rfl) (pgs_cons (pg_name (i := 5) sc__law_due.nd rfl (.inl rfl)) (pgs_cons (pg_name (i := 6) sc__law_due.nd rfl (.inl rfl)) (pgs_cons (pg_name (i := 7) sc__law_due.nd rfl (.inl rfl)) pgs_nil)))))) (fun _ _ _ _ _ => pts_nil) (fun _ _ _ _ _ => (pe_tupP (pa_cons (pv 7) (pa_cons (pv 5) (pa_cons (pv 6) pa_nil)))))) pa_nil)))
      (pss_cons (ps_set (i := 2) sc__law_due.nd rfl (.inl rfl) pe_int)
      (pss_cons (ps_own (ps_set (i := 3) sc__law_due.nd rfl (.inl rfl) (pe_lst pa_nil)))
      (pss_cons (ps_for PassesOwn.never rfl (pi_range1 (by rfl) T.m_range (pa_cons (pe_callB (call_lenK (K := K) rfl) (by rfl) T.m_len (by decide +kernel) (pa_cons (pv 1) pa_nil)) pa_nil)) (pg_name (i := 4) sc__law_due.nd rfl (.inl rfl)) (pss_cons (ps_set (i := 2) sc__law_due.nd rfl (.inl rfl) (pe_op (op_addK (K := K) rfl) (pv 2) (pe_ix (ix_seqK (K := K) rfl) (pe_ix (ix_seqK (K := K) rfl) (pv 1) (pv 4) (fun _ _ => rfl)) pe_int (fun _ _ => rfl))))
      (pss_one (ps_if (pt_cmpR op_gtA (pv 2) (pe_ix (ix_seqK (K := K) rfl) (pe_ix (ix_seqK (K := K) rfl) (pv 1) (pv 4) (fun _ _ => rfl)) pe_int (fun _ _ => rfl)) (nomark _)) (pss_one (ps_expr (pe_K (fun K => tBM K "list" rAppend _ _) (K := K) rfl (pe_bm PySem.F.plainAttrs_list PySem.F.slot_list_append PySem.F.type_list_append mt_append (pv 3) (pa_cons (pe_ix (ix_seqK (K := K) rfl) (pe_ix (ix_seqK (K := K) rfl) (pv 1) (pv 4) (fun _ _ => rfl)) pe_int (fun _ _ => rfl)) pa_nil))))) pss_nil))))
      (pss_cons (ps_if (pt_cmpR (op_eqK (K := K) rfl hr.units) (pv 3) (pe_lst pa_nil) (nomark _)) (pss_one (ps_ret (pe_tupP (pa_cons (pe_callTy (call_tupK (K := K) rfl) (by rfl) T.m_tuple (by decide +kernel) (pa_cons (pe_lc (own := [("by", 7), ("ticket", 5), ("many", 6)]) (g := gTup K 3 (gCons (gName 7) (gCons (gName 5) (gCons (gName 6) gNil)))) (tt := tYes) rfl sc__law_due.nd (pi_K (fun K => iSeq K _) (K := K) rfl (pi_seq (pv 1))) (blkOk_by (N := n__law_due) (sc := defScope s__law_due) (by decide +kernel)) (fun _ _ _ _ _ => (pg_K (fun K => gTup K 3 _) (K := K) rfl (pg_tup (by rfl) (pgs_cons (pg_name (i := 7) sc__law_due.nd rfl (.inl rfl)) (pgs_cons (pg_name (i := 5) sc__law_due.nd rfl (.inl rfl)) (pgs_cons (pg_name (i := 6) sc__law_due.nd rfl (.inl rfl)) pgs_nil)))))) (fun _ _ _ _ _ => pts_nil) (fun _ _ _ _ _ => (pe_tupP (pa_cons (pv 5) (pa_cons (pv 6) pa_nil))))) pa_nil)) (pa_cons pe_non pa_nil))))) pss_nil)
      (pss_one (ps_ret (pe_tupP (pa_cons pe_non (pa_cons (pe_ix (ix_seqK (K := K) rfl) (pv 3) pe_int (fun _ _ => rfl)) pa_nil)))))))))), run_def h (fun ds O R X c hK hE hX hp => ?_)⟩)
  subst hK; clear h hr
  try dsimp only [cxOf, Cx.nox, Cx.wish]
  obtain ⟨d, ns, rfl, hd, hl, k⟩ := hp
  refine vs_seq (vs_asg (we_ofN (wn_cb ?_)))
  walk_at "als"
  refine wn_lcV (ds := ns.map dNd) (es := ns.map dO) (gok3 (by decide) (by decide) (by decide)) rfl hd rfl (by rw [List.length_map]; omega) (by rw [List.length_map, List.length_map]) ?_ ?_
  · intro j x hx
    obtain ⟨n, hn, rfl⟩ := map_at hx
    refine wg_tup rfl ?_
    walk_at "al"
    refine ⟨by rw [List.getElem?_map, hn]; rfl, rfl, ?_⟩
    refine Keeps.q (A := ⟨_, O⟩) ?_
    walk_at "keeps"
  walk_at "als"
  refine cn_sortD rfl (ok_ord ns) ?_
  rw [sort_ord]
  have hsl := sortN_len ns
  generalize hso : sortN ns = so at hsl
  have hml : (so.map dO).length = so.length := List.length_map ..
  walk_at "als"
  refine vs_seq ?_
  walk_at "fl"
  refine vs_forI (α := Int × List Int) [4] (fun q => [(2, some (.val (.int q.1))), (3, some (.own (.lst (q.2.map .int))))]) (fun _ => O) (fun _ i q => q.1 = useF 0 (so.take i) ∧ q.2 = latesF 0 (so.take i) ∧ q.2.length ≤ i) ?_
  walk_at "als"
  refine ⟨_, rfl, by omega, by omega, ⟨(0, []), rfl, rfl, rfl, Nat.le_refl _⟩, ?_, ?_⟩
  · rintro i x ⟨u, la⟩ hx ⟨rfl, rfl, hla⟩
    obtain ⟨hi, rfl⟩ := intsD_at hx
    have hi : i < so.length := by omega
    have hn : so[i]? = some so[i] := List.getElem?_eq_getElem hi
    generalize so[i] = n at hn
    have hd : (so.map dO)[i]? = some (dO n) := by rw [List.getElem?_map, hn]; rfl
    have hat : atI (so.map dO) (0 + (i : Int)) = some (dO n) := atI_of (by omega) (by rw [show (0 + (i : Int)).toNat = i by omega]; exact hd)
    dsimp only at hla ⊢
    walk_at "als"
    walk_at "fl"
    walk_at "als"
    refine od_ixL (ds := so.map dO) rfl hat ?_
    walk_at "als"
    refine od_ixT rfl (show atI _ _ = some (D.int n.2.1) from rfl) ?_
    walk_at "als"
    refine vs_if ?_
    walk_at "als"
    refine od_ixL (ds := so.map dO) rfl hat ?_
    walk_at "als"
    refine od_ixT rfl (show atI _ _ = some (D.int n.2.2) from rfl) ?_
    walk_at "als"
    have hlt := lates_snoc 0 (so.take i) n
    rw [← take_at hn] at hlt
    refine br (fun hc => ?_) (fun hc => ?_)
    · rw [if_pos hc] at hlt
      walk_at "als"
      refine od_ixL (ds := so.map dO) rfl hat ?_
      walk_at "als"
      refine od_ixT rfl (show atI _ _ = some (D.int n.2.2) from rfl) ?_
      walk_at "als"
      refine ⟨_, rfl, by rw [List.length_map]; omega, (useF 0 (so.take i) + n.2.1, latesF 0 (so.take i) ++ [n.2.2]), ?_, (use_go hn).symm, hlt.symm, ?_⟩
      · walk_at "fl"
        rw [List.map_append]; rfl
      · show (latesF 0 (so.take i) ++ [n.2.2]).length ≤ i + 1
        rw [List.length_append, List.length_singleton]; omega
    · rw [if_neg hc, List.append_nil] at hlt
      walk_at "als"
      refine ⟨(_, latesF 0 (so.take i)), rfl, (use_go hn).symm, hlt.symm, ?_⟩
      show (latesF 0 (so.take i)).length ≤ i + 1
      omega
  · rintro ⟨u, la⟩ ⟨rfl, rfl, hla⟩
    rw [intsD_len, show (((so.map dO).length : Nat) : Int).toNat = so.length by omega, List.take_length] at *
    generalize hla0 : latesF 0 so = la at *
    dsimp only at hla
    walk_at "fl"
    refine vs_seq (vs_if ?_)
    walk_at "als"
    refine od_eqO (p := .list (la.map .int)) (q := .list []) (b := decide (la = [])) ⟨_, _, rfl, pyOs_I _, rfl⟩ (.lst .nil) (shaped_ints _) (shaped_ints []) (eqv_intsL la []) ?_
    walk_at "als"
    refine br (fun hc => ?_) (fun hc => ?_)
    · subst hc
      rw [plan_ok (hso ▸ lates_none _ _ hla0), hso] at k
      walk_at "als"
      refine wn_lcV (ds := so.map dO) (es := so.map dTw) (gok3 (by decide) (by decide) (by decide)) rfl (.inl rfl) rfl (by omega) (by rw [List.length_map, List.length_map]) ?_ ?_
      · intro j x hx
        obtain ⟨n, hn, rfl⟩ := map_at hx
        refine wg_tup rfl ?_
        walk_at "al"
        refine ⟨by rw [List.getElem?_map, hn]; rfl, rfl, ?_⟩
        refine Keeps.q (A := ⟨_, O⟩) ?_
        walk_at "keeps"
      walk_at "als"
      exact k
    · cases la with
      | nil => exact absurd rfl hc
      | cons b r =>
        rw [plan_late (hso ▸ lates_some hla0)] at k
        walk_at "als"
        refine od_ixL (ds := (b :: r).map .int) rfl (atI_of (by decide) (show _ = some (D.int b) from rfl)) ?_
        walk_at "als"
        exact k

set_option maxHeartbeats 8000000 in
theorem ok__law_can_be (T : Tx K mg) : FnOk P w K mg base CX0 1 T.a__law_can_be T.fd__law_can_be ["needs"] (SpA K BE.C__law_can_be) := by
  refine Fun.ok T.F__law_can_be sc__law_can_be (fun vs H Q E h => SpA.len BE.len__law_can_be h) (fun cdv A outer s H vs Q E hr h => ⟨_, (pss_cons (ps_set (i := 1) sc__law_can_be.nd rfl (.inl rfl) (pe_lst (pa_cons (pe_tupP (pa_cons (pe_callTy (call_tupK (K := K) rfl) (by rfl) T.m_tuple (by decide +kernel) (pa_cons (pe_lc (own := [("one", 9)]) (g := gName 9) (tt := tYes) rfl sc__law_can_be.nd (pi_K (fun K => iSeq K _) (K := K) rfl (pi_seq (pv 0))) (blkOk_by (N := n__law_can_be) (sc := defScope s__law_can_be) (by decide +kernel)) (fun _ _ _ _ _ => (pg_name (i := 9) sc__law_can_be.nd rfl (.inl rfl))) (fun _ _ _ _ _ => pts_nil) (fun _ _ _ _ _ => (pe_ix (ix_seqK (K := K) rfl) (pv 9) pe_int (fun _ _ => rfl)))) pa_nil)) (pa_cons pe_int pa_nil))) pa_nil)))
      (pss_cons (ps_set (i := 2) sc__law_can_be.nd rfl (.inl rfl) pe_nnew)
      (pss_cons (ps_for PassesOwn.never rfl (pi_range1 (by rfl) T.m_range (pa_cons (pe_op (op_addK (K := K) rfl) (pe_callB (call_sumK (K := K) rfl rfl) (by rfl) T.m_sum (by decide +kernel) (pa_cons (pe_lc (own := [("one", 9)]) (g := gName 9) (tt := tYes) rfl sc__law_can_be.nd (pi_K (fun K => iSeq K _) (K := K) rfl (pi_seq (pv 0))) (blkOk_by (N := n__law_can_be) (sc := defScope s__law_can_be) (by decide +kernel)) (fun _ _ _ _ _ => (pg_name (i := 9) sc__law_can_be.nd rfl (.inl rfl))) (fun _ _ _ _ _ => pts_nil) (fun _ _ _ _ _ => (pe_ix (ix_seqK (K := K) rfl) (pv 9) pe_int (fun _ _ => rfl)))) pa_nil)) pe_int) pa_nil)) (pg_name (i := 3) sc__law_can_be.nd rfl (.inl rfl)) (pss_cons (ps_own (ps_set (i := 4) sc__law_can_be.nd rfl (.inl rfl) (pe_lst pa_nil)))
      (pss_cons (ps_for PassesOwn.never rfl (pi_K (fun K => iSeq K _) (K := K) rfl (pi_seq (pv 1))) (pg_K (fun K => gTup K 2 _) (K := K) rfl (pg_tup (by rfl) (pgs_cons (pg_name (i := 5) sc__law_can_be.nd rfl (.inl rfl)) (pgs_cons (pg_name (i := 6) sc__law_can_be.nd rfl (.inl rfl)) pgs_nil)))) (pss_cons (ps_if (pt_cmpR (op_eqK (K := K) rfl hr.units) (pe_callB (call_maxK (K := K) rfl rfl) (by rfl) T.m_max (by decide +kernel) (pa_cons (pv 5) pa_nil)) pe_int (nomark _)) (pss_one (ps_ret pe_bl)) pss_nil)
      (pss_one (ps_for PassesOwn.never rfl (pi_range1 (by rfl) T.m_range (pa_cons (pe_callB (call_lenK (K := K) rfl) (by rfl) T.m_len (by decide +kernel) (pa_cons (pv 0) pa_nil)) pa_nil)) (pg_name (i := 7) sc__law_can_be.nd rfl (.inl rfl)) (pss_one (ps_if (PW.pt (pw_and (pt_cmpR op_gtA (pe_ix (ix_seqK (K := K) rfl) (pv 5) (pv 7) (fun _ _ => rfl)) pe_int (nomark _)) (pw_and1 (pt_cmpR op_leA (pe_op (op_addK (K := K) rfl) (pv 6) pe_int) (pe_ix (ix_seqK (K := K) rfl) (pe_ix (ix_seqK (K := K) rfl) (pv 0) (pv 7) (fun _ _ => rfl)) pe_int (fun _ _ => rfl)) (nomark _))))) (pss_cons (ps_set (i := 8) sc__law_can_be.nd rfl (.inl rfl) (pe_tupP (pa_cons (pe_op (op_addK (K := K) rfl) (pe_op (op_addK (K := K) rfl) (pe_slice (sl_K (K := K) rfl) (pv 5) po_none (po_some (pv 7))) (pe_tupP (pa_cons (pe_op op_subA (pe_ix (ix_seqK (K := K) rfl) (pv 5) (pv 7) (fun _ _ => rfl)) pe_int) pa_nil))) (pe_slice (sl_K (K := K) rfl) (pv 5) (po_some (pe_op (op_addK (K := K) rfl) (pv 7) pe_int)) po_none)) (pa_cons (pe_op (op_addK (K := K) rfl) (pv 6) pe_int) pa_nil))))
      (pss_one (ps_if (pt_cmp (pc_nnotin (K := K) rfl (huN hr.units) (pv 8) (pv 2)) (by rfl)) (pss_cons (ps_nput (K := K) rfl (huN hr.units) (pv 2) (pv 8) pe_bl (by rfl))
      (pss_one (ps_expr (pe_K (fun K => tBM K "list" rAppend _ _) (K := K) rfl (pe_bm PySem.F.plainAttrs_list PySem.F.slot_list_append PySem.F.type_list_append mt_append (pv 4) (pa_cons (pv 8) pa_nil)))))) pss_nil))) pss_nil))))))
      (pss_one (ps_set (i := 1) sc__law_can_be.nd rfl (.inl rfl) (pe_callTy (call_listK (K := K) rfl) (by rfl) T.m_list (by decide +kernel) (pa_cons (pv 4) pa_nil)))))))
      (pss_one (ps_ret pe_bl))))), run_def h (fun ds O R X c hK hE hX hp => ?_)⟩)
  subst hK; clear h hr
  try dsimp only [cxOf, Cx.nox, Cx.wish]
  obtain ⟨ns, rfl, h0, h3, hn, k⟩ := hp
  have hml : (ns.map dNd).length = ns.length := List.length_map ..
  have tb := tot_bd hn
  walk_at "als"
  refine wn_lcV (ds := ns.map dNd) (es := (ns.map (·.2.1)).map .int) (gok_name (by decide)) rfl (.inl rfl) rfl (by omega) (by simp) ?_ ?_
  · intro j x hx
    obtain ⟨n, hn', rfl⟩ := map_at hx
    walk_at "als"
    refine od_ixT rfl (show atI _ _ = some (D.int n.2.1) from rfl) ?_
    walk_at "als"
    refine ⟨by rw [List.getElem?_map, List.getElem?_map, hn']; rfl, rfl, ?_⟩
    refine Keeps.q (A := ⟨_, O⟩) ?_
    walk_at "keeps"
  walk_at "als"
  refine we_nnew ?_
  walk_at "als"
  walk_at "fl"
  refine vs_seq ?_
  generalize hT : tot (ns.map (·.2.1)) = T at tb
  refine vs_forI (α := Nat × List (List Int) × List (NKey × D)) [3, 4, 5, 6, 7, 8, 9] (fun q => [(1, some (.val (.lst (q.2.1.map (dF q.1)))))]) (fun q => O ++ [.dN q.2.2]) (fun _ i q => q.1 = i ∧ Srch ns T i q.2.1 q.2.2) ?_
  walk_at "als"
  refine wn_lcV (ds := ns.map dNd) (es := (ns.map (·.2.1)).map .int) (gok_name (by decide)) rfl (.inl rfl) rfl (by omega) (by simp) ?_ ?_
  · intro j x hx
    obtain ⟨n, hn', rfl⟩ := map_at hx
    walk_at "als"
    refine od_ixT rfl (show atI _ _ = some (D.int n.2.1) from rfl) ?_
    walk_at "als"
    refine ⟨by rw [List.getElem?_map, List.getElem?_map, hn']; rfl, rfl, ?_⟩
    refine Keeps.q (A := ⟨_, O ++ [.dN []]⟩) ?_
    walk_at "keeps"
  walk_at "als"
  refine cb_sumL (ns := ns.map (·.2.1)) rfl ?_
  rw [tot_sum, hT]
  walk_at "als"
  have hst : Srch ns T 0 [ns.map (·.2.1)] [] := hT ▸ Srch.start hn
  refine ⟨_, rfl, by omega, by omega, ⟨(0, [ns.map (·.2.1)], []), rfl, rfl, hst⟩, ?_, ?_⟩
  · rintro i0 x ⟨i, fl, kvs⟩ hx ⟨hii, hS⟩
    dsimp only at hii hS
    subst hii
    obtain ⟨hi, rfl⟩ := intsD_at hx
    have hi9 : i ≤ 9 := by omega
    have hp : 3 ^ i ≤ 19683 := Nat.le_trans (Nat.pow_le_pow_right (by decide) hi9) (by decide)
    have hlf := hS.lf
    have hlk := hS.lk
    rw [Nat.pow_succ] at hlk
    have hfm : (fl.map (dF i)).length = fl.length := List.length_map ..
    walk_at "als"
    walk_at "fl"
    refine vs_seq ?_
    refine vs_forI (α := List (List Int) × List (NKey × D)) [5, 6, 7, 8] (fun q => [(4, some (.own (.lst (q.1.map (dF ((i : Int) + 1))))))]) (fun q => O ++ [.dN q.2]) (fun _ j q => Mid ns i fl kvs j 0 q.1 q.2) ?_
    walk_at "als"
    refine ⟨_, rfl, ⟨([], kvs), rfl, hS.mid⟩, ?_, ?_⟩
    · rintro j x ⟨mo, kvs1⟩ hx hM
      dsimp only at hM
      obtain ⟨xs, hj, rfl⟩ := map_at hx
      have hjl := (List.getElem?_eq_some_iff.mp hj).1
      have hsn := hS.snd xs (List.mem_of_getElem? hj)
      have hxl := hsn.len
      have hxm : (xs.map D.int).length = xs.length := List.length_map ..
      refine wg_tup rfl ?_
      walk_at "als"
      walk_at "fl"
      refine vs_seq (vs_if ?_)
      walk_at "als"
      refine cb_maxT (ns := xs) rfl (by omega) fun M hM1 hM2 => ?_
      walk_at "als"
      refine br (fun hc => ?_) (fun hc => ?_)
      · walk_at "als"
        exact k _ true ⟨fun _ => hS.found (List.mem_of_getElem? hj) fun x hx => by have := hM2 x hx; have := (hsn.nn x hx).1; omega, fun _ => rfl⟩
      · have hnz : ¬ ∀ x ∈ xs, x = 0 := fun z => hc (z M hM1)
        walk_at "als"
        walk_at "fl"
        refine vs_forI (α := List (List Int) × List (NKey × D)) [7, 8] (fun q => [(4, some (.own (.lst (q.1.map (dF ((i : Int) + 1))))))]) (fun q => O ++ [.dN q.2]) (fun _ a q => Mid ns i fl kvs j a q.1 q.2) ?_
        walk_at "als"
        refine ⟨_, rfl, by omega, by omega, ⟨(mo, kvs1), rfl, hM⟩, ?_, ?_⟩
        · rintro a x ⟨mo2, kvs2⟩ hx hM2
          dsimp only at hM2
          obtain ⟨ha, rfl⟩ := intsD_at hx
          have han : a < ns.length := by omega
          have hax : a < xs.length := by omega
          have e2 : ns[a]? = some ns[a] := List.getElem?_eq_getElem han
          have e3 : xs[a]? = some xs[a] := List.getElem?_eq_getElem hax
          have hnn := hn ns[a] (List.getElem_mem han)
          generalize ns[a] = n at e2 hnn
          generalize xs[a] = x at e3
          have tn : (0 + (a : Int)).toNat = a := by omega
          have at1 : atI (xs.map D.int) (0 + (a : Int)) = some (D.int x) := atI_of (by omega) (by rw [tn, List.getElem?_map, e3]; rfl)
          have at2 : atI (ns.map dNd) (0 + (a : Int)) = some (dNd n) := atI_of (by omega) (by rw [tn, List.getElem?_map, e2]; rfl)
          have hlm := hM2.lm
          have hlk2 := hM2.lk
          rw [Int.zero_add] at at1 at2
          refine wg_name ?_
          walk_at "fl"
          rw [show (0 : Int) + (a : Int) = a from Int.zero_add _]
          refine vs_if ?_
          walk_at "als"
          refine od_ixT (ds := xs.map D.int) rfl at1 ?_
          walk_at "als"
          have same : (0 < x → (i : Int) + 1 ≤ n.2.2 → xs.set a (x - 1) ∈ mo2) → Mid ns i fl kvs j (a + 1) mo2 kvs2 := hM2.same hj e2 e3
          refine ⟨fun hx0 => ?_, fun hx0 => ?_⟩
          · have hx0 : 0 < x := by simpa using hx0
            walk_at "als"
            refine od_ixL (ds := ns.map dNd) rfl at2 ?_
            walk_at "als"
            refine od_ixT rfl (show atI _ _ = some (D.int n.2.2) from rfl) ?_
            walk_at "als"
            refine ⟨fun hb => ?_, fun hb => ?_⟩
            · have hb : (i : Int) + 1 ≤ n.2.2 := by simpa using hb
              walk_at "als"
              refine we_slT ?_
              walk_at "als"
              refine ⟨xs.map D.int, rfl, ?_⟩
              rw [cutD_tn]
              walk_at "als"
              refine od_ixT (ds := xs.map D.int) rfl at1 ?_
              walk_at "als"
              refine od_catT (by simp; omega) ?_
              refine we_slT ?_
              walk_at "als"
              refine ⟨xs.map D.int, rfl, ?_⟩
              rw [cut_from1 hax]
              walk_at "als"
              refine od_catT (by simp; omega) ?_
              rw [cat_set hax]
              walk_at "als"
              walk_at "fl"
              refine vs_if ?_
              refine wt_B ?_
              refine we_nnin ?_
              walk_at "als"
              have hck : (O ++ [Cell.dN kvs2])[O.length]? = some (.dN kvs2) := by rw [List.getElem?_append_right (Nat.le_refl _), Nat.sub_self]; rfl
              refine ⟨O.length, kvs2, (xs.set a (x - 1), (i : Int) + 1), rfl, hck, rfl, ?_⟩
              refine ⟨_, rfl, ?_⟩
              refine ⟨fun hc => ?_, fun hc => ?_⟩
              · refine vs_seqNP ?_
                refine vs_nput ?_
                walk_at "als"
                refine ⟨O.length, kvs2, (xs.set a (x - 1), (i : Int) + 1), rfl, hck, rfl, by omega, ?_⟩
                rw [show (O ++ [Cell.dN kvs2]).set O.length (.dN (putKD kvs2 (xs.set a (x - 1), (i : Int) + 1) (.bl true))) = O ++ [.dN (putKD kvs2 (xs.set a (x - 1), (i : Int) + 1) (.bl true))] by rw [List.set_append_right _ _ (Nat.le_refl _), Nat.sub_self]; rfl]
                walk_at "als"
                refine ⟨_, rfl, by rw [List.length_map]; omega, (mo2 ++ [xs.set a (x - 1)], putKD kvs2 (xs.set a (x - 1), (i : Int) + 1) (.bl true)), ?_, hM2.new hS hj e2 e3 hx0 hb _⟩
                walk_at "fl"
                rw [List.map_append]; rfl
              · have hc : (valD kvs2 (xs.set a (x - 1), (i : Int) + 1)).isSome = true := by simpa using hc
                walk_at "als"
                exact ⟨(mo2, kvs2), rfl, same fun _ _ => hM2.seen hc⟩
            · have hb : ¬ (i : Int) + 1 ≤ n.2.2 := by simpa using hb
              walk_at "als"
              refine ⟨(mo2, kvs2), rfl, same fun _ z => absurd z hb⟩
          · have hx0 : ¬ 0 < x := by simpa using hx0
            walk_at "als"
            refine ⟨(mo2, kvs2), rfl, same fun z => absurd z hx0⟩
        · rintro ⟨mo2, kvs2⟩ hM2
          dsimp only at hM2
          rw [intsD_len, show (((ns.map dNd).length : Nat) : Int).toNat = ns.length by omega] at hM2
          refine ⟨(mo2, kvs2), rfl, hM2.row (Nat.le_refl _) h3 hj hnz⟩
    · rintro ⟨mo, kvs1⟩ hM
      dsimp only at hM
      rw [hfm] at hM
      have hD := hM.done hS fun n h => (hn n h).2.2
      walk_at "fl"
      refine vs_asg (we_ofN (wn_cb ?_))
      walk_at "als"
      refine ⟨(i + 1, mo, kvs1), ?_, rfl, hD⟩
      walk_at "fl"
      rfl
  · rintro ⟨i', fl, kvs⟩ ⟨hii, hS⟩
    dsimp only at hii hS
    subst hii
    rw [intsD_len] at hS
    walk_at "als"
    exact k _ false ⟨fun h => (nomatch h), fun h => absurd h (hS.over (by omega))⟩

set_option maxHeartbeats 8000000 in
theorem ok__law_small_right (T : Tx K mg) (G__law_can_be : FnOk P w K mg base CX0 1 T.a__law_can_be T.fd__law_can_be ["needs"] (SpA K BE.C__law_can_be)) (G__law_draw : FnOk P w K mg base CX0 2 T.a__law_draw T.fd__law_draw ["tape", "many"] (SpA K AT.C__law_draw)) (G__law_due : FnOk P w K mg base CX0 1 T.a__law_due T.fd__law_due ["needs"] (SpA K BE.C__law_due)) (G__law_pick : FnOk P w K mg base CX0 3 T.a__law_pick T.fd__law_pick ["tape", "row"] (SpA K AT.C__law_pick)) (G__law_same : FnOk P w K mg base CX0 6 T.a__law_same T.fd__law_same ["actual", "due"] (SpA K (C__law_same 5))) (G_deadline_plan : FnOk P w K mg base CX0 1 T.a_deadline_plan T.fd_deadline_plan ["needs"] (SpA K BE.C_deadline_plan)) : FnOk P w K mg base CX0 7 T.a__law_small_right T.fd__law_small_right ["tape"] (SpA K BE.C__law_small_right) := by
  refine Fun.ok T.F__law_small_right sc__law_small_right (fun vs H Q E h => SpA.len BE.len__law_small_right h) (fun cdv A outer s H vs Q E hr h => ⟨_, (pss_cons (ps_own (ps_set (i := 1) sc__law_small_right.nd rfl (.inl rfl) (pe_lst pa_nil)))
      (pss_cons (ps_for PassesOwn.never rfl (pi_range1 (by rfl) T.m_range (pa_cons (pe_op (op_addK (K := K) rfl) pe_int (pe_call G__law_draw (hr.mono (by decide)) (by rfl) T.g__law_draw T.F__law_draw.kp T.b__law_draw .nil pass0 (pa_cons (pv 0) (pa_cons pe_int pa_nil)))) pa_nil)) (pg_name (i := 2) sc__law_small_right.nd rfl (.inl rfl)) (pss_one (ps_expr (pe_K (fun K => tBM K "list" rAppend _ _) (K := K) rfl (pe_bm PySem.F.plainAttrs_list PySem.F.slot_list_append PySem.F.type_list_append mt_append (pv 1) (pa_cons (pe_tupP (pa_cons (pe_call G__law_pick (hr.mono (by decide)) (by rfl) T.g__law_pick T.F__law_pick.kp T.b__law_pick .nil pass0 (pa_cons (pv 0) (pa_cons (pe_lst (pa_cons (pv 2) (pa_cons (pe_op op_subA pe_int (pv 2)) pa_nil))) pa_nil))) (pa_cons (pe_op (op_addK (K := K) rfl) pe_int (pe_call G__law_draw (hr.mono (by decide)) (by rfl) T.g__law_draw T.F__law_draw.kp T.b__law_draw .nil pass0 (pa_cons (pv 0) (pa_cons pe_int pa_nil)))) (pa_cons (pe_op (op_addK (K := K) rfl) pe_int (pe_call G__law_draw (hr.mono (by decide)) (by rfl) T.g__law_draw T.F__law_draw.kp T.b__law_draw .nil pass0 (pa_cons (pv 0) (pa_cons pe_int pa_nil)))) pa_nil)))) pa_nil))))))
      (pss_cons (ps_set (i := 3) sc__law_small_right.nd rfl (.inl rfl) (pe_call G_deadline_plan (hr.mono (by decide)) (by rfl) T.g_deadline_plan T.F_deadline_plan.kp T.b_deadline_plan .nil pass0 (pa_cons (pv 1) pa_nil)))
      (pss_cons (ps_if (pt_not (pt_val (pe_call G__law_same (hr.mono (by decide)) (by rfl) T.g__law_same T.F__law_same.kp T.b__law_same .nil pass0 (pa_cons (pv 3) (pa_cons (pe_call G__law_due (hr.mono (by decide)) (by rfl) T.g__law_due T.F__law_due.kp T.b__law_due .nil pass0 (pa_cons (pv 1) pa_nil)) pa_nil))))) (pss_one (ps_ret pe_bl)) pss_nil)
      (pss_one (ps_ret (pe_cmpR (op_eqK (K := K) rfl hr.units) (pe_cmpR op_notA (pe_ix (ix_seqK (K := K) rfl) (pv 3) pe_int (fun _ _ => rfl)) pe_non (nomark _)) (pe_call G__law_can_be (hr.mono (by decide)) (by rfl) T.g__law_can_be T.F__law_can_be.kp T.b__law_can_be .nil pass0 (pa_cons (pv 1) pa_nil)) (nomark _)))))))), run_def h (fun ds O R X c hK hE hX hp => ?_)⟩)
  subst hK; clear h hr
  try dsimp only [cxOf, Cx.nox, Cx.wish]
  obtain ⟨n, t, rfl, hO, ht, k⟩ := hp
  have hnl := (List.getElem?_eq_some_iff.mp hO).1
  have gs : ∀ t : AT.TapeM, (O.set n (AT.cTape t))[n]? = some (AT.cTape t) := fun t => getset hnl
  walk_at "alm"
  walk_at "fl"
  refine vs_seq ?_
  refine vs_forI (α := AT.TapeM × List Nd) [2, 3] (fun q => [(1, some (.own (.lst (q.2.map dNd))))]) (fun q => O.set n (AT.cTape q.1)) (fun _ i q => 0 ≤ q.1.at_ ∧ q.2.length = i ∧ ∀ m ∈ q.2, 1 ≤ m.2.1 ∧ m.2.1 ≤ 3 ∧ 1 ≤ m.2.2) ?_
  walk_at "alm"
  refine ⟨n, t, 3, rfl, hO, ht, by omega, fun t1 v ht1 hv0 hv1 => ?_⟩
  walk_at "alm"
  refine ⟨_, rfl, by omega, by omega, ⟨(t1, []), rfl, ht1, rfl, fun _ h => nomatch h⟩, ?_, ?_⟩
  · rintro i x ⟨t2, ns⟩ hx ⟨ht2, hl2, hn2⟩
    obtain ⟨hi, rfl⟩ := intsD_at hx
    dsimp only at ht2 hl2 hn2
    have g2 := gs t2
    refine wg_name ?_
    walk_at "fl"
    walk_at "alm"
    refine ⟨n, t2, _, rfl, g2, ht2, Nat.succ_pos _, Nat.le_of_ble_eq_true rfl, fun t3 d ht3 hd => ?_⟩
    obtain ⟨u, rfl⟩ : ∃ u, d = .int u := by
      simp only [List.mem_cons, List.not_mem_nil, or_false] at hd
      rcases hd with rfl | rfl <;> exact ⟨_, rfl⟩
    have g3 := gs t3
    rw [List.set_set]
    walk_at "alm"
    refine ⟨n, t3, 3, rfl, g3, ht3, by omega, fun t4 v2 ht4 h20 h21 => ?_⟩
    have g4 := gs t4
    rw [List.set_set]
    walk_at "alm"
    refine ⟨n, t4, 8, rfl, g4, ht4, by omega, fun t5 v3 ht5 h30 h31 => ?_⟩
    have g5 := gs t5
    rw [List.set_set]
    walk_at "alm"
    refine ⟨_, rfl, by rw [List.length_map]; omega, (t5, ns ++ [(u, 1 + v2, 1 + v3)]), ?_, ht5, by show (ns ++ [(u, 1 + v2, 1 + v3)]).length = i + 1; rw [List.length_append, List.length_singleton]; omega, fun m hm => ?_⟩
    · walk_at "fl"
      rw [List.map_append]; rfl
    · rcases List.mem_append.mp hm with h | h
      · exact hn2 m h
      · rw [List.mem_singleton] at h; subst h
        exact ⟨by show 1 ≤ 1 + v2; omega, by show 1 + v2 ≤ 3; omega, by show 1 ≤ 1 + v3; omega⟩
  · rintro ⟨t2, ns⟩ ⟨ht2, hl2, hn2⟩
    dsimp only at ht2 hl2 hn2
    rw [intsD_len] at hl2
    have g2 := gs t2
    have hpf := plan_feas (ns := ns) (fun n h => (hn2 n h).1) (fun n h => (hn2 n h).2.2)
    walk_at "fl"
    refine vs_frzS (i := 1) rfl ?_
    walk_at "fl"
    walk_at "alm"
    refine ⟨_, ns, rfl, .inl rfl, by omega, ?_⟩
    walk_at "alm"
    refine vs_seq (vs_if ?_)
    walk_at "alm"
    refine ⟨_, ns, rfl, .inl rfl, by omega, ?_⟩
    walk_at "alm"
    refine AU.same_self (okE_plan (by omega)) ?_
    walk_at "alm"
    have hkk : ∀ kvs, R (O.set n (AT.cTape t2) ++ [.dN kvs]) (.bl true) := fun kvs => k t2 kvs ht2
    cases hla : lateF 0 (sortN ns) with
    | none =>
      rw [plan_ok hla]
      refine od_ixT rfl (show atI _ _ = some (D.tup ((sortN ns).map dTw)) from rfl) ?_
      walk_at "alm"
      refine ⟨ns, rfl, by omega, by omega, hn2, fun kvs b hb => ?_⟩
      have hbt : b = true := hb.mpr (hpf.mp hla)
      subst hbt
      walk_at "alm"
      exact hkk kvs
    | some d0 =>
      rw [plan_late hla]
      refine od_ixT rfl (show atI _ _ = some D.non from rfl) ?_
      walk_at "alm"
      refine ⟨ns, rfl, by omega, by omega, hn2, fun kvs b hb => ?_⟩
      have hbf : b = false := by
        cases b with
        | false => rfl
        | true => have := hpf.mpr (hb.mp rfl); rw [hla] at this; cases this
      subst hbf
      walk_at "alm"
      exact hkk kvs

set_option maxHeartbeats 8000000 in
theorem ok_law (T : Tx K mg) (G__law_draw : FnOk P w K mg base CX0 2 T.a__law_draw T.fd__law_draw ["tape", "many"] (SpA K AT.C__law_draw)) (G__law_due : FnOk P w K mg base CX0 1 T.a__law_due T.fd__law_due ["needs"] (SpA K BE.C__law_due)) (G__law_pick : FnOk P w K mg base CX0 3 T.a__law_pick T.fd__law_pick ["tape", "row"] (SpA K AT.C__law_pick)) (G__law_same : FnOk P w K mg base CX0 6 T.a__law_same T.fd__law_same ["actual", "due"] (SpA K (C__law_same 5))) (G__law_small_right : FnOk P w K mg base CX0 7 T.a__law_small_right T.fd__law_small_right ["tape"] (SpA K BE.C__law_small_right)) (G__law_tape : FnOk P w K mg base CX0 1 T.a__law_tape T.fd__law_tape ["script"] (SpA K AT.C__law_tape)) (G_deadline_plan : FnOk P w K mg base CX0 1 T.a_deadline_plan T.fd_deadline_plan ["needs"] (SpA K BE.C_deadline_plan)) : FnOk P w K mg base CX0 8 T.a_law T.fd_law ["script"] (SpA K C_law) := by
  refine Fun.ok T.F_law sc_law (fun vs H Q E h => SpA.len len_law h) (fun cdv A outer s H vs Q E hr h => ⟨_, (pss_cons (ps_set (i := 1) sc_law.nd rfl (.inl rfl) (pe_call G__law_tape (hr.mono (by decide)) (by rfl) T.g__law_tape T.F__law_tape.kp T.b__law_tape .nil pass0 (pa_cons (pv 0) pa_nil)))
      (pss_cons (ps_for PassesOwn.never rfl (pi_range1 (by rfl) T.m_range (pa_cons (pe_op (op_addK (K := K) rfl) pe_int (pe_call G__law_draw (hr.mono (by decide)) (by rfl) T.g__law_draw T.F__law_draw.kp T.b__law_draw .nil pass0 (pa_cons (pv 1) (pa_cons pe_int pa_nil)))) pa_nil)) (pg_name (i := 2) sc_law.nd rfl (.inl rfl)) (pss_one (ps_if (pt_not (pt_val (pe_call G__law_small_right (hr.mono (by decide)) (by rfl) T.g__law_small_right T.F__law_small_right.kp T.b__law_small_right .nil pass0 (pa_cons (pv 1) pa_nil)))) (pss_one (ps_ret pe_bl)) pss_nil)))
      (pss_cons (ps_for PassesOwn.never rfl (pi_range1 (by rfl) T.m_range (pa_cons (pe_op (op_addK (K := K) rfl) pe_int (pe_call G__law_draw (hr.mono (by decide)) (by rfl) T.g__law_draw T.F__law_draw.kp T.b__law_draw .nil pass0 (pa_cons (pv 1) (pa_cons pe_int pa_nil)))) pa_nil)) (pg_name (i := 2) sc_law.nd rfl (.inl rfl)) (pss_cons (ps_own (ps_set (i := 3) sc_law.nd rfl (.inl rfl) (pe_lst pa_nil)))
      (pss_cons (ps_set (i := 4) sc_law.nd rfl (.inl rfl) pe_dnewK)
      (pss_cons (ps_set (i := 5) sc_law.nd rfl (.inl rfl) (pe_op (op_addK (K := K) rfl) pe_int (pe_call G__law_draw (hr.mono (by decide)) (by rfl) T.g__law_draw T.F__law_draw.kp T.b__law_draw .nil pass0 (pa_cons (pv 1) (pa_cons pe_int pa_nil)))))
      (pss_cons (ps_for PassesOwn.never rfl (pi_range1 (by rfl) T.m_range (pa_cons (pe_call G__law_pick (hr.mono (by decide)) (by rfl) T.g__law_pick T.F__law_pick.kp T.b__law_pick .nil pass0 (pa_cons (pv 1) (pa_cons (pe_lst (pa_cons pe_int (pa_cons pe_int (pa_cons pe_int (pa_cons pe_int (pa_cons (pe_call G__law_draw (hr.mono (by decide)) (by rfl) T.g__law_draw T.F__law_draw.kp T.b__law_draw .nil pass0 (pa_cons (pv 1) (pa_cons pe_int pa_nil))) pa_nil)))))) pa_nil))) pa_nil)) (pg_name (i := 6) sc_law.nd rfl (.inl rfl)) (pss_cons (ps_set (i := 7) sc_law.nd rfl (.inl rfl) (pe_call G__law_draw (hr.mono (by decide)) (by rfl) T.g__law_draw T.F__law_draw.kp T.b__law_draw .nil pass0 (pa_cons (pv 1) (pa_cons pe_int pa_nil))))
      (pss_cons (ps_set (i := 8) sc_law.nd rfl (.inl rfl) (pe_op (op_addK (K := K) rfl) pe_int (pe_call G__law_pick (hr.mono (by decide)) (by rfl) T.g__law_pick T.F__law_pick.kp T.b__law_pick .nil pass0 (pa_cons (pv 1) (pa_cons (pe_lst (pa_cons pe_int (pa_cons pe_int (pa_cons pe_int (pa_cons (pe_call G__law_draw (hr.mono (by decide)) (by rfl) T.g__law_draw T.F__law_draw.kp T.b__law_draw .nil pass0 (pa_cons (pv 1) (pa_cons pe_int pa_nil))) pa_nil))))) pa_nil)))))
      (pss_cons (ps_set (i := 9) sc_law.nd rfl (.inl rfl) (pe_op (op_addK (K := K) rfl) pe_int (pe_call G__law_pick (hr.mono (by decide)) (by rfl) T.g__law_pick T.F__law_pick.kp T.b__law_pick .nil pass0 (pa_cons (pv 1) (pa_cons (pe_lst (pa_cons (pe_op op_mulA (pv 5) (pv 6)) (pa_cons (pe_op op_mulA (pv 5) (pe_op (op_addK (K := K) rfl) pe_int (pe_call G__law_draw (hr.mono (by decide)) (by rfl) T.g__law_draw T.F__law_draw.kp T.b__law_draw .nil pass0 (pa_cons (pv 1) (pa_cons pe_int pa_nil))))) (pa_cons (pe_op (op_addK (K := K) rfl) (pe_op op_mulA pe_int (pe_call G__law_draw (hr.mono (by decide)) (by rfl) T.g__law_draw T.F__law_draw.kp T.b__law_draw .nil pass0 (pa_cons (pv 1) (pa_cons pe_int pa_nil)))) (pe_call G__law_draw (hr.mono (by decide)) (by rfl) T.g__law_draw T.F__law_draw.kp T.b__law_draw .nil pass0 (pa_cons (pv 1) (pa_cons pe_int pa_nil)))) (pa_cons pe_int pa_nil))))) pa_nil)))))
      (pss_one (ps_if (pt_cmp (pc_dnotin (huOf hr.units) (pv 7) (pv 4)) (by rfl)) (pss_cons (ps_dput (huOf hr.units) (pv 4) (pv 7) pe_bl (by rfl))
      (pss_one (ps_expr (pe_K (fun K => tBM K "list" rAppend _ _) (K := K) rfl (pe_bm PySem.F.plainAttrs_list PySem.F.slot_list_append PySem.F.type_list_append mt_append (pv 3) (pa_cons (pe_tupP (pa_cons (pv 7) (pa_cons (pv 8) (pa_cons (pe_callB (call_min2A rfl) (by rfl) T.m_min (by decide +kernel) (pa_cons pe_int (pa_cons (pv 9) pa_nil))) pa_nil)))) pa_nil)))))) pss_nil))))))
      (pss_cons (ps_set (i := 10) sc_law.nd rfl (.inl rfl) (pe_call G__law_pick (hr.mono (by decide)) (by rfl) T.g__law_pick T.F__law_pick.kp T.b__law_pick .nil pass0 (pa_cons (pv 1) (pa_cons (pe_lst (pa_cons (pe_callTy (call_listK (K := K) rfl) (by rfl) T.m_list (by decide +kernel) (pa_cons (pv 3) pa_nil)) (pa_cons (pe_callTy (call_tupK (K := K) rfl) (by rfl) T.m_tuple (by decide +kernel) (pa_cons (pv 3) pa_nil)) pa_nil))) pa_nil))))
      (pss_one (ps_if (PW.pt (pw_or (pt_not (pt_val (pe_call G__law_same (hr.mono (by decide)) (by rfl) T.g__law_same T.F__law_same.kp T.b__law_same .nil pass0 (pa_cons (pe_call G_deadline_plan (hr.mono (by decide)) (by rfl) T.g_deadline_plan T.F_deadline_plan.kp T.b_deadline_plan .nil pass0 (pa_cons (pv 10) pa_nil)) (pa_cons (pe_call G__law_due (hr.mono (by decide)) (by rfl) T.g__law_due T.F__law_due.kp T.b__law_due .nil pass0 (pa_cons (pv 3) pa_nil)) pa_nil))))) (pw_or1 (pt_cmpR (op_neK (K := K) rfl hr.units) (pe_callTy (call_listK (K := K) rfl) (by rfl) T.m_list (by decide +kernel) (pa_cons (pv 10) pa_nil)) (pv 3) (nomark _))))) (pss_one (ps_ret pe_bl)) pss_nil))))))))
      (pss_one (ps_ret pe_bl))))), run_def h (fun ds O R X c hK hE hX hp => ?_)⟩)
  subst hK; clear h hr
  try dsimp only [cxOf, Cx.nox, Cx.wish]
  obtain ⟨ns, rfl, hl, rfl, k⟩ := hp
  refine vs_seq (vs_asg ?_)
  walk_at "alm"
  refine ⟨ns, rfl, by omega, ?_⟩
  walk_at "fl"
  walk_at "alm"
  walk_at "fl"
  generalize ht0 : (⟨ns, 0, 0, 0, 7, 0⟩ : AT.TapeM) = t0
  have hta0 : 0 ≤ AT.TapeM.at_ t0 := by rw [← ht0]; exact Int.le_refl _
  clear ht0
  refine vs_seq ?_
  refine vs_forI (α := AT.TapeM × List Cell) [2] (fun _ => []) (fun q => AT.cTape q.1 :: q.2) (fun _ _ q => 0 ≤ AT.TapeM.at_ q.1) ?_
  walk_at "alm"
  refine ⟨0, t0, 3, rfl, rfl, hta0, by omega, fun t1 v ht1 hv0 hv1 => ?_⟩
  walk_at "alm"
  refine ⟨_, rfl, by omega, by omega, ⟨(t1, []), rfl, ht1⟩, ?_, ?_⟩
  · rintro i x ⟨t, r⟩ hx ht
    dsimp only at ht
    obtain ⟨hi, rfl⟩ := intsD_at hx
    refine wg_name ?_
    walk_at "fl"
    refine vs_if ?_
    walk_at "alm"
    refine ⟨0, t, rfl, rfl, ht, fun t2 kvs ht2 => ?_⟩
    walk_at "alm"
    exact ⟨(t2, r ++ [.dN kvs]), rfl, ht2⟩
  rintro ⟨t, r⟩ ht
  dsimp only at ht
  clear hta0 ht1
  walk_at "fl"
  refine vs_seq ?_
  refine vs_forI (α := AT.TapeM × List Cell) [2, 3, 4, 5, 6, 7, 8, 9, 10] (fun _ => []) (fun q => AT.cTape q.1 :: q.2) (fun _ _ q => 0 ≤ AT.TapeM.at_ q.1) ?_
  walk_at "alm"
  refine ⟨0, t, 4, rfl, rfl, ht, by omega, fun t1 v ht1 hv0 hv1 => ?_⟩
  walk_at "alm"
  refine ⟨_, rfl, by omega, by omega, ⟨(t1, r), rfl, ht1⟩, ?_, ?_⟩
  · clear ht1 ht
    rintro i x ⟨t, r⟩ hx ht
    dsimp only at ht
    obtain ⟨hi, rfl⟩ := intsD_at hx
    refine wg_name ?_
    walk_at "fl"
    walk_at "alm"
    refine we_dnewK ?_
    walk_at "alm"
    walk_at "fl"
    refine ⟨0, t, 40, rfl, rfl, ht, by omega, fun t1 v ht1 hv0 hv1 => ?_⟩
    walk_at "alm"
    walk_at "fl"
    generalize (1 : Int) + v = ab
    refine vs_seq ?_
    refine vs_forI (α := AT.TapeM × List Nd × List (Key × D)) [6, 7, 8, 9] (fun q => [(3, some (.own (.lst (q.2.1.map dNd))))]) (fun q => AT.cTape q.1 :: (r ++ [.dK q.2.2])) (fun _ i q => 0 ≤ AT.TapeM.at_ q.1 ∧ q.2.1.length ≤ i ∧ q.2.2.length ≤ i) ?_
    walk_at "alm"
    refine ⟨0, t1, 41, rfl, rfl, ht1, by omega, fun t2 v ht2 hv0 hv1 => ?_⟩
    walk_at "alm"
    refine ⟨0, t2, _, rfl, rfl, ht2, Nat.succ_pos _, Nat.le_of_ble_eq_true rfl, fun t3 d ht3 hd => ?_⟩
    obtain ⟨m, rfl, hm0, hm1⟩ : ∃ m : Int, d = .int m ∧ 0 ≤ m ∧ m ≤ 100 := by
      simp only [List.mem_cons, List.not_mem_nil, or_false] at hd
      rcases hd with rfl | rfl | rfl | rfl | rfl
      · exact ⟨0, rfl, by decide, by decide⟩
      · exact ⟨1, rfl, by decide, by decide⟩
      · exact ⟨3, rfl, by decide, by decide⟩
      · exact ⟨6, rfl, by decide, by decide⟩
      · exact ⟨_, rfl, by omega, by omega⟩
    walk_at "alm"
    refine ⟨_, rfl, by omega, by omega, ⟨(t3, [], []), rfl, ht3, Nat.zero_le _, Nat.zero_le _⟩, ?_, ?_⟩
    · rintro i x ⟨t4, ns, tk⟩ hx ⟨ht4, hnl, htl⟩
      dsimp only at ht4 hnl htl
      obtain ⟨hi, rfl⟩ := intsD_at hx
      refine wg_name ?_
      walk_at "fl"
      walk_at "alm"
      refine ⟨0, t4, 60, rfl, rfl, ht4, by omega, fun t5 ti ht5 h50 h51 => ?_⟩
      walk_at "alm"
      walk_at "fl"
      refine ⟨0, t5, 60, rfl, rfl, ht5, by omega, fun t6 v6 ht6 h60 h61 => ?_⟩
      walk_at "alm"
      refine ⟨Nat.le_of_ble_eq_true rfl, ?_⟩
      walk_at "alm"
      refine ⟨0, t6, _, rfl, rfl, ht6, Nat.succ_pos _, Nat.le_of_ble_eq_true rfl, fun t7 d ht7 hd => ?_⟩
      obtain ⟨ma, rfl⟩ : ∃ m : Int, d = .int m := by
        simp only [List.mem_cons, List.not_mem_nil, or_false] at hd
        rcases hd with rfl | rfl | rfl | rfl <;> exact ⟨_, rfl⟩
      walk_at "alm"
      refine ⟨0, t7, 6, rfl, rfl, ht7, by omega, fun t8 v8 ht8 h80 h81 => ?_⟩
      walk_at "alm"
      refine ⟨0, t8, 1000, rfl, rfl, ht8, by omega, fun t9 v9 ht9 h90 h91 => ?_⟩
      walk_at "alm"
      refine ⟨0, t9, 2, rfl, rfl, ht9, by omega, fun t10 v10 ht10 h100 h101 => ?_⟩
      walk_at "alm"
      refine ⟨0, t10, _, rfl, rfl, ht10, Nat.succ_pos _, Nat.le_of_ble_eq_true rfl, fun t11 d ht11 hd => ?_⟩
      obtain ⟨by0, rfl⟩ : ∃ m : Int, d = .int m := by
        simp only [List.mem_cons, List.not_mem_nil, or_false] at hd
        rcases hd with rfl | rfl | rfl | rfl <;> exact ⟨_, rfl⟩
      walk_at "alm"
      walk_at "fl"
      clear hd ht5 ht6 ht7 ht8 ht9 ht10 h50 h51 h60 h61 h80 h81 h90 h91 h100 h101
      have hck : (AT.cTape t11 :: (r ++ [Cell.dK tk]))[r.length + 1]? = some (.dK tk) := by
        rw [List.getElem?_cons_succ, List.getElem?_append_right (Nat.le_refl _), Nat.sub_self]; rfl
      have hset : ∀ tk2, (AT.cTape t11 :: (r ++ [Cell.dK tk])).set (r.length + 1) (.dK tk2) = AT.cTape t11 :: (r ++ [Cell.dK tk2]) := fun tk2 => by
        rw [List.set_cons_succ, List.set_append_right _ _ (Nat.le_refl _), Nat.sub_self]; rfl
      refine vs_if ?_
      walk_at "alm"
      refine ⟨fun _ => ?_, fun _ => ?_⟩
      · walk_at "alm"
        refine ⟨r.length + 1, tk, .int ti, .inl ti, putKD tk (.inl ti) (.bl true), rfl, hck, rfl, rfl, by omega, rfl, ?_⟩
        rw [hset]
        have hpl := putKD_len (kvs := tk) (k := (.inl ti : Key)) (d := .bl true)
        walk_at "alm"
        refine ⟨_, rfl, by rw [List.length_map]; omega, (t11, ns ++ [(ti, 1 + ma, if 1 + by0 < 2000 then 1 + by0 else 2000)], putKD tk (.inl ti) (.bl true)), ?_, ht11, by show (ns ++ [_]).length ≤ i + 1; rw [List.length_append, List.length_singleton]; omega, by show (putKD tk (.inl ti) (.bl true)).length ≤ i + 1; omega⟩
        walk_at "fl"
        rw [List.map_append]; rfl
      · walk_at "alm"
        exact ⟨(t11, ns, tk), rfl, ht11, by show ns.length ≤ i + 1; omega, by show tk.length ≤ i + 1; omega⟩
    · rintro ⟨t4, ns, tk⟩ ⟨ht4, hnl, htl⟩
      dsimp only at ht4 hnl htl
      rw [intsD_len] at hnl htl
      walk_at "fl"
      refine vs_frzS (i := 3) rfl ?_
      walk_at "fl"
      walk_at "alm"
      refine ⟨0, t4, _, rfl, rfl, ht4, Nat.succ_pos _, Nat.le_of_ble_eq_true rfl, fun t5 d ht5 hd => ?_⟩
      have hd : d = .lst (ns.map dNd) ∨ d = .tup (ns.map dNd) := by
        simp only [List.mem_cons, List.not_mem_nil, or_false] at hd
        exact hd
      walk_at "alm"
      walk_at "fl"
      refine vs_if ?_
      walk_at "alm"
      have hsq : ∀ O, SeqO O d (ns.map dNd) := fun O => by
        rcases hd with rfl | rfl
        · exact .inl rfl
        · exact .inr (.inl rfl)
      refine ⟨d, ns, rfl, hsq _, by omega, ?_⟩
      walk_at "alm"
      refine ⟨_, ns, rfl, .inl rfl, by omega, ?_⟩
      walk_at "alm"
      refine AU.same_self (okE_plan (by omega)) ?_
      walk_at "alm"
      refine cn_listO (hsq _) ?_
      walk_at "alm"
      refine od_neO (b := true) (show PyRO _ (.val (.lst _)) _ from py_nds ns) (show PyRO _ (.val (.lst _)) _ from py_nds ns) (shaped_nds ns) (shaped_nds ns) (eqv_nds ns) ?_
      walk_at "alm"
      exact ⟨(t5, r ++ [.dK tk]), rfl, ht5⟩
  · rintro ⟨t, r⟩ ht
    walk_at "alm"
    exact k _

end
set_option maxHeartbeats 0 in
theorem all_mk {l : PySem.W.OpenLaw} {w : World} {K : PySem.W.Frag} {h : Heap} {mg : Str → Option Value} {fa : Addr} (X : K.In h) (G : h.Ns mainGlobals mg) (hfa : mg "law" = some (.ref fa))
    {f__law_mixed : Addr} {od__law_mixed an__law_mixed : Option Addr} {sl__law_mixed : Array (Option Value)} {oc__law_mixed kV__law_mixed dc__law_mixed pm__law_mixed cd__law_mixed ct__law_mixed : Value} (A__law_mixed : PySem.W.nsIn K mainGlobals "_law_mixed" = some (some (.ref f__law_mixed))) (l__law_mixed : K.lookup f__law_mixed = some ⟨oc__law_mixed, od__law_mixed, .func (PySem.W.fnOf "_law_mixed" "_law_mixed" (defArgs s__law_mixed) (defBody s__law_mixed) (defScope s__law_mixed) .none kV__law_mixed dc__law_mixed pm__law_mixed an__law_mixed cd__law_mixed ct__law_mixed), sl__law_mixed⟩) (c__law_mixed : PySem.W.codeIn K cd__law_mixed "_law_mixed" = true) (k__law_mixed : PySem.W.keepIn K (.ref f__law_mixed) = true)
    {f__law_tape : Addr} {od__law_tape an__law_tape : Option Addr} {sl__law_tape : Array (Option Value)} {oc__law_tape kV__law_tape dc__law_tape pm__law_tape cd__law_tape ct__law_tape : Value} (A__law_tape : PySem.W.nsIn K mainGlobals "_law_tape" = some (some (.ref f__law_tape))) (l__law_tape : K.lookup f__law_tape = some ⟨oc__law_tape, od__law_tape, .func (PySem.W.fnOf "_law_tape" "_law_tape" (defArgs s__law_tape) (defBody s__law_tape) (defScope s__law_tape) .none kV__law_tape dc__law_tape pm__law_tape an__law_tape cd__law_tape ct__law_tape), sl__law_tape⟩) (c__law_tape : PySem.W.codeIn K cd__law_tape "_law_tape" = true) (k__law_tape : PySem.W.keepIn K (.ref f__law_tape) = true)
    {f__law_draw : Addr} {od__law_draw an__law_draw : Option Addr} {sl__law_draw : Array (Option Value)} {oc__law_draw kV__law_draw dc__law_draw pm__law_draw cd__law_draw ct__law_draw : Value} (A__law_draw : PySem.W.nsIn K mainGlobals "_law_draw" = some (some (.ref f__law_draw))) (l__law_draw : K.lookup f__law_draw = some ⟨oc__law_draw, od__law_draw, .func (PySem.W.fnOf "_law_draw" "_law_draw" (defArgs s__law_draw) (defBody s__law_draw) (defScope s__law_draw) .none kV__law_draw dc__law_draw pm__law_draw an__law_draw cd__law_draw ct__law_draw), sl__law_draw⟩) (c__law_draw : PySem.W.codeIn K cd__law_draw "_law_draw" = true) (k__law_draw : PySem.W.keepIn K (.ref f__law_draw) = true)
    {f__law_pick : Addr} {od__law_pick an__law_pick : Option Addr} {sl__law_pick : Array (Option Value)} {oc__law_pick kV__law_pick dc__law_pick pm__law_pick cd__law_pick ct__law_pick : Value} (A__law_pick : PySem.W.nsIn K mainGlobals "_law_pick" = some (some (.ref f__law_pick))) (l__law_pick : K.lookup f__law_pick = some ⟨oc__law_pick, od__law_pick, .func (PySem.W.fnOf "_law_pick" "_law_pick" (defArgs s__law_pick) (defBody s__law_pick) (defScope s__law_pick) .none kV__law_pick dc__law_pick pm__law_pick an__law_pick cd__law_pick ct__law_pick), sl__law_pick⟩) (c__law_pick : PySem.W.codeIn K cd__law_pick "_law_pick" = true) (k__law_pick : PySem.W.keepIn K (.ref f__law_pick) = true)
    {f__law_same : Addr} {od__law_same an__law_same : Option Addr} {sl__law_same : Array (Option Value)} {oc__law_same kV__law_same dc__law_same pm__law_same cd__law_same ct__law_same : Value} (A__law_same : PySem.W.nsIn K mainGlobals "_law_same" = some (some (.ref f__law_same))) (l__law_same : K.lookup f__law_same = some ⟨oc__law_same, od__law_same, .func (PySem.W.fnOf "_law_same" "_law_same" (defArgs s__law_same) (defBody s__law_same) (defScope s__law_same) .none kV__law_same dc__law_same pm__law_same an__law_same cd__law_same ct__law_same), sl__law_same⟩) (c__law_same : PySem.W.codeIn K cd__law_same "_law_same" = true) (k__law_same : PySem.W.keepIn K (.ref f__law_same) = true)
    {f_deadline_plan : Addr} {od_deadline_plan an_deadline_plan : Option Addr} {sl_deadline_plan : Array (Option Value)} {oc_deadline_plan kV_deadline_plan dc_deadline_plan pm_deadline_plan cd_deadline_plan ct_deadline_plan : Value} (A_deadline_plan : PySem.W.nsIn K mainGlobals "deadline_plan" = some (some (.ref f_deadline_plan))) (l_deadline_plan : K.lookup f_deadline_plan = some ⟨oc_deadline_plan, od_deadline_plan, .func (PySem.W.fnOf "deadline_plan" "deadline_plan" (defArgs s_deadline_plan) (defBody s_deadline_plan) (defScope s_deadline_plan) .none kV_deadline_plan dc_deadline_plan pm_deadline_plan an_deadline_plan cd_deadline_plan ct_deadline_plan), sl_deadline_plan⟩) (c_deadline_plan : PySem.W.codeIn K cd_deadline_plan "deadline_plan" = true) (k_deadline_plan : PySem.W.keepIn K (.ref f_deadline_plan) = true)
    {f__law_due : Addr} {od__law_due an__law_due : Option Addr} {sl__law_due : Array (Option Value)} {oc__law_due kV__law_due dc__law_due pm__law_due cd__law_due ct__law_due : Value} (A__law_due : PySem.W.nsIn K mainGlobals "_law_due" = some (some (.ref f__law_due))) (l__law_due : K.lookup f__law_due = some ⟨oc__law_due, od__law_due, .func (PySem.W.fnOf "_law_due" "_law_due" (defArgs s__law_due) (defBody s__law_due) (defScope s__law_due) .none kV__law_due dc__law_due pm__law_due an__law_due cd__law_due ct__law_due), sl__law_due⟩) (c__law_due : PySem.W.codeIn K cd__law_due "_law_due" = true) (k__law_due : PySem.W.keepIn K (.ref f__law_due) = true)
    {f__law_can_be : Addr} {od__law_can_be an__law_can_be : Option Addr} {sl__law_can_be : Array (Option Value)} {oc__law_can_be kV__law_can_be dc__law_can_be pm__law_can_be cd__law_can_be ct__law_can_be : Value} (A__law_can_be : PySem.W.nsIn K mainGlobals "_law_can_be" = some (some (.ref f__law_can_be))) (l__law_can_be : K.lookup f__law_can_be = some ⟨oc__law_can_be, od__law_can_be, .func (PySem.W.fnOf "_law_can_be" "_law_can_be" (defArgs s__law_can_be) (defBody s__law_can_be) (defScope s__law_can_be) .none kV__law_can_be dc__law_can_be pm__law_can_be an__law_can_be cd__law_can_be ct__law_can_be), sl__law_can_be⟩) (c__law_can_be : PySem.W.codeIn K cd__law_can_be "_law_can_be" = true) (k__law_can_be : PySem.W.keepIn K (.ref f__law_can_be) = true)
    {f__law_small_right : Addr} {od__law_small_right an__law_small_right : Option Addr} {sl__law_small_right : Array (Option Value)} {oc__law_small_right kV__law_small_right dc__law_small_right pm__law_small_right cd__law_small_right ct__law_small_right : Value} (A__law_small_right : PySem.W.nsIn K mainGlobals "_law_small_right" = some (some (.ref f__law_small_right))) (l__law_small_right : K.lookup f__law_small_right = some ⟨oc__law_small_right, od__law_small_right, .func (PySem.W.fnOf "_law_small_right" "_law_small_right" (defArgs s__law_small_right) (defBody s__law_small_right) (defScope s__law_small_right) .none kV__law_small_right dc__law_small_right pm__law_small_right an__law_small_right cd__law_small_right ct__law_small_right), sl__law_small_right⟩) (c__law_small_right : PySem.W.codeIn K cd__law_small_right "_law_small_right" = true) (k__law_small_right : PySem.W.keepIn K (.ref f__law_small_right) = true)
    {f_law : Addr} {od_law an_law : Option Addr} {sl_law : Array (Option Value)} {oc_law kV_law dc_law pm_law cd_law ct_law : Value} (A_law : PySem.W.nsIn K mainGlobals "law" = some (some (.ref f_law))) (l_law : K.lookup f_law = some ⟨oc_law, od_law, .func (PySem.W.fnOf "law" "law" (defArgs s_law) (defBody s_law) (defScope s_law) .none kV_law dc_law pm_law an_law cd_law ct_law), sl_law⟩) (c_law : PySem.W.codeIn K cd_law "law" = true) (k_law : PySem.W.keepIn K (.ref f_law) = true)
    (z_bool : PySem.W.nsIn K mainGlobals "bool" = some none)
    (z_int : PySem.W.nsIn K mainGlobals "int" = some none)
    (z_isinstance : PySem.W.nsIn K mainGlobals "isinstance" = some none)
    (z_len : PySem.W.nsIn K mainGlobals "len" = some none)
    (z_list : PySem.W.nsIn K mainGlobals "list" = some none)
    (z_max : PySem.W.nsIn K mainGlobals "max" = some none)
    (z_min : PySem.W.nsIn K mainGlobals "min" = some none)
    (z_range : PySem.W.nsIn K mainGlobals "range" = some none)
    (z_sorted : PySem.W.nsIn K mainGlobals "sorted" = some none)
    (z_str : PySem.W.nsIn K mainGlobals "str" = some none)
    (z_sum : PySem.W.nsIn K mainGlobals "sum" = some none)
    (z_tuple : PySem.W.nsIn K mainGlobals "tuple" = some none) :
    ∃ fd : FuncData, (∀ (s : Shared) (v : Value), BindsTo s fd ⟨[v], []⟩ [("script", v)]) ∧ ∀ base : Heap, K.In base → base.Ns mainGlobals mg → FnOk l.prog w K mg base CX0 8 fa fd ["script"] (SpA K C_law) := by
  have e := hfa.symm.trans (PySem.W.mg_of X G A_law)
  cases e
  have F__law_mixed := fun_mk (st := s__law_mixed) l__law_mixed c__law_mixed k__law_mixed
  have b__law_mixed := F__law_mixed.binds (ps := ["number", "turn"]) fun _ _ _ _ _ _ us hl => match us, hl with | [_, _], _ => rfl
  have F__law_tape := fun_mk (st := s__law_tape) l__law_tape c__law_tape k__law_tape
  have b__law_tape := F__law_tape.binds (ps := ["script"]) fun _ _ _ _ _ _ us hl => match us, hl with | [_], _ => rfl
  have F__law_draw := fun_mk (st := s__law_draw) l__law_draw c__law_draw k__law_draw
  have b__law_draw := F__law_draw.binds (ps := ["tape", "many"]) fun _ _ _ _ _ _ us hl => match us, hl with | [_, _], _ => rfl
  have F__law_pick := fun_mk (st := s__law_pick) l__law_pick c__law_pick k__law_pick
  have b__law_pick := F__law_pick.binds (ps := ["tape", "row"]) fun _ _ _ _ _ _ us hl => match us, hl with | [_, _], _ => rfl
  have F__law_same := fun_mk (st := s__law_same) l__law_same c__law_same k__law_same
  have b__law_same := F__law_same.binds (ps := ["actual", "due"]) fun _ _ _ _ _ _ us hl => match us, hl with | [_, _], _ => rfl
  have F_deadline_plan := fun_mk (st := s_deadline_plan) l_deadline_plan c_deadline_plan k_deadline_plan
  have b_deadline_plan := F_deadline_plan.binds (ps := ["needs"]) fun _ _ _ _ _ _ us hl => match us, hl with | [_], _ => rfl
  have F__law_due := fun_mk (st := s__law_due) l__law_due c__law_due k__law_due
  have b__law_due := F__law_due.binds (ps := ["needs"]) fun _ _ _ _ _ _ us hl => match us, hl with | [_], _ => rfl
  have F__law_can_be := fun_mk (st := s__law_can_be) l__law_can_be c__law_can_be k__law_can_be
  have b__law_can_be := F__law_can_be.binds (ps := ["needs"]) fun _ _ _ _ _ _ us hl => match us, hl with | [_], _ => rfl
  have F__law_small_right := fun_mk (st := s__law_small_right) l__law_small_right c__law_small_right k__law_small_right
  have b__law_small_right := F__law_small_right.binds (ps := ["tape"]) fun _ _ _ _ _ _ us hl => match us, hl with | [_], _ => rfl
  have F_law := fun_mk (st := s_law) l_law c_law k_law
  have b_law := F_law.binds (ps := ["script"]) fun _ _ _ _ _ _ us hl => match us, hl with | [_], _ => rfl
  let T : Tx K mg := { d__law_mixed := { a := _, fd := _, F := F__law_mixed, b := b__law_mixed, g := PySem.W.mg_of X G A__law_mixed }, d__law_tape := { a := _, fd := _, F := F__law_tape, b := b__law_tape, g := PySem.W.mg_of X G A__law_tape }, d__law_draw := { a := _, fd := _, F := F__law_draw, b := b__law_draw, g := PySem.W.mg_of X G A__law_draw }, d__law_pick := { a := _, fd := _, F := F__law_pick, b := b__law_pick, g := PySem.W.mg_of X G A__law_pick }, d__law_same := { a := _, fd := _, F := F__law_same, b := b__law_same, g := PySem.W.mg_of X G A__law_same }, d_deadline_plan := { a := _, fd := _, F := F_deadline_plan, b := b_deadline_plan, g := PySem.W.mg_of X G A_deadline_plan }, d__law_due := { a := _, fd := _, F := F__law_due, b := b__law_due, g := PySem.W.mg_of X G A__law_due }, d__law_can_be := { a := _, fd := _, F := F__law_can_be, b := b__law_can_be, g := PySem.W.mg_of X G A__law_can_be }, d__law_small_right := { a := _, fd := _, F := F__law_small_right, b := b__law_small_right, g := PySem.W.mg_of X G A__law_small_right }, d_law := { a := _, fd := _, F := F_law, b := b_law, g := PySem.W.mg_of X G A_law }, m_bool := PySem.W.mg_none_of X G z_bool, m_int := PySem.W.mg_none_of X G z_int, m_isinstance := PySem.W.mg_none_of X G z_isinstance, m_len := PySem.W.mg_none_of X G z_len, m_list := PySem.W.mg_none_of X G z_list, m_max := PySem.W.mg_none_of X G z_max, m_min := PySem.W.mg_none_of X G z_min, m_range := PySem.W.mg_none_of X G z_range, m_sorted := PySem.W.mg_none_of X G z_sorted, m_str := PySem.W.mg_none_of X G z_str, m_sum := PySem.W.mg_none_of X G z_sum, m_tuple := PySem.W.mg_none_of X G z_tuple }
  refine ⟨PySem.W.fnOf "law" "law" (defArgs s_law) (defBody s_law) (defScope s_law) .none kV_law dc_law pm_law an_law cd_law ct_law, fun s v => .of_eq rfl, fun base _ _ => ?_⟩
  have g__law_mixed := ok__law_mixed (P := l.prog) (w := w) (base := base) T
  have g__law_tape := ok__law_tape (P := l.prog) (w := w) (base := base) T
  have g__law_draw := ok__law_draw (P := l.prog) (w := w) (base := base) T g__law_mixed
  have g__law_pick := ok__law_pick (P := l.prog) (w := w) (base := base) T g__law_draw
  have g__law_same := fun k => ok__law_same (P := l.prog) (w := w) (base := base) T k
  have g_deadline_plan := ok_deadline_plan (P := l.prog) (w := w) (base := base) T
  have g__law_due := ok__law_due (P := l.prog) (w := w) (base := base) T
  have g__law_can_be := ok__law_can_be (P := l.prog) (w := w) (base := base) T
  have g__law_small_right := ok__law_small_right (P := l.prog) (w := w) (base := base) T g__law_can_be g__law_draw g__law_due g__law_pick (g__law_same 5) g_deadline_plan
  have g_law := ok_law (P := l.prog) (w := w) (base := base) T g__law_draw g__law_due g__law_pick (g__law_same 5) g__law_small_right g__law_tape g_deadline_plan
  exact g_law
end LW

open PySem PySem.W PyProof.Rows
set_option maxRecDepth 100000 in
set_option maxHeartbeats 0 in
theorem PySem.Challenge.cw_servedalone_k57_deadlines_holds : PySem.Challenge.rw_servedalone_k57_deadlines.Holds := by
  w_on; o_law; k_head; (case hw => w_witness2)
  k_fill
  refine L2.walk_of (l := PySem.Challenge.rw_servedalone_k57_deadlines) (n := 63) (k := 8) (x := "script") (CX := fun _ => L2.CX0) (sp := fun w => AL.SpA _ LW.C_law) rfl (by decide) rfl ⟨rfl, by decide, by decide⟩ (fun w h Y => PySem.W.kIn_of Y) ?F (fun _ _ a ns hl _ hS => AL.spa_start hS (LW.start_law ns hl)) (fun _ _ _ _ _ h => h)
  case F =>
    intro w mg fa h KX G hmg
    refine' LW.all_mk KX G hmg ?A__law_mixed ?l__law_mixed ?c__law_mixed ?k__law_mixed ?A__law_tape ?l__law_tape ?c__law_tape ?k__law_tape ?A__law_draw ?l__law_draw ?c__law_draw ?k__law_draw ?A__law_pick ?l__law_pick ?c__law_pick ?k__law_pick ?A__law_same ?l__law_same ?c__law_same ?k__law_same ?A_deadline_plan ?l_deadline_plan ?c_deadline_plan ?k_deadline_plan ?A__law_due ?l__law_due ?c__law_due ?k__law_due ?A__law_can_be ?l__law_can_be ?c__law_can_be ?k__law_can_be ?A__law_small_right ?l__law_small_right ?c__law_small_right ?k__law_small_right ?A_law ?l_law ?c_law ?k_law ?z_bool ?z_int ?z_isinstance ?z_len ?z_list ?z_max ?z_min ?z_range ?z_sorted ?z_str ?z_sum ?z_tuple
    (case A__law_mixed => k_is); (case l__law_mixed => k_is); (case c__law_mixed => k_is); (case k__law_mixed => k_is); (case A__law_tape => k_is); (case l__law_tape => k_is); (case c__law_tape => k_is); (case k__law_tape => k_is); (case A__law_draw => k_is); (case l__law_draw => k_is); (case c__law_draw => k_is); (case k__law_draw => k_is); (case A__law_pick => k_is); (case l__law_pick => k_is); (case c__law_pick => k_is); (case k__law_pick => k_is); (case A__law_same => k_is); (case l__law_same => k_is); (case c__law_same => k_is); (case k__law_same => k_is); (case A_deadline_plan => k_is); (case l_deadline_plan => k_is); (case c_deadline_plan => k_is); (case k_deadline_plan => k_is); (case A__law_due => k_is); (case l__law_due => k_is); (case c__law_due => k_is); (case k__law_due => k_is); (case A__law_can_be => k_is); (case l__law_can_be => k_is); (case c__law_can_be => k_is); (case k__law_can_be => k_is); (case A__law_small_right => k_is); (case l__law_small_right => k_is); (case c__law_small_right => k_is); (case k__law_small_right => k_is); (case A_law => k_is); (case l_law => k_is); (case c_law => k_is); (case k_law => k_is); (case z_bool => k_is); (case z_int => k_is); (case z_isinstance => k_is); (case z_len => k_is); (case z_list => k_is); (case z_max => k_is); (case z_min => k_is); (case z_range => k_is); (case z_sorted => k_is); (case z_str => k_is); (case z_sum => k_is); (case z_tuple => k_is)
