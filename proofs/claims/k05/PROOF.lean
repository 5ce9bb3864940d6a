import PyProof.Rows.All
import Wide.All
import OpenK.AllK
import Wide.FinOn
import HandS.ForMost
import HandS.Evl
import HandS.Wide
import HandS.Property
import HandS.IsInst
import HandS.Strs
import HandS.TupAny
import HandS.Exc
import HandS.TryOnly
import HandS.ExcInit
import KE.DataMinMax
import KE.GoesMore
import HandS.Zip
import HandS.Dict
import HandS.MakeKwOnly
import HandS.Conv
import HandS.ForExc
import HandS.ExcCtx
import HandS.HotCalls
import HandS.ExcIs
import HandS.ExcField
import KE.KExcIs
import KE.KIsAll
import HandS.Defaults
import HandS.CallSlots
import PyProof.ReprRoads
import PyProof.CallFns
import HandS.SetFor
import HandS.OwnEq
import HandS.Gcd
import PyProof.InstNe
import PyProof.MaxThree
import PySem.Challenge.RW_servedalone_k05_asks_and_choices
set_option Elab.async false
set_option linter.all false
set_option maxRecDepth 100000
/-! Rules of my own over the hand layer: alternatives; tuples that are known as objects; sum, max, index of tuples. -/
namespace AL
open PySem PySem.Spec PyProof.Rows L2
/-! ### alternatives -/
def orR (r s : R2) : R2 := fun x y H Q => r x y H Q ∨ s x y H Q
def orC (r s : List V → Hp → VK → Prop) : List V → Hp → VK → Prop := fun xs H Q => r xs H Q ∨ s xs H Q
def orI (r s : TI) : TI := fun σ H R => r σ H R ∨ s σ H R
def orE (r s : TE) : TE := fun σ H Q => r σ H Q ∨ s σ H Q
def orS (r s : V → Option Int → Option Int → Hp → VK → Prop) : V → Option Int → Option Int → Hp → VK → Prop := fun x a b H Q => r x a b H Q ∨ s x a b H Q
section
variable {X : Cx}
theorem op_or {f : Value → Value → Sem Value} {r s : R2} (a : OpR X f r) (b : OpR X f s) : OpR X f (orR r s) := fun pins st σ H x y v u Q I rx ry h => h.elim (a pins st σ H x y v u Q I rx ry) (b pins st σ H x y v u Q I rx ry)
theorem call_or {f : Value} {r s : List V → Hp → VK → Prop} (a : CallR X f r) (b : CallR X f s) : CallR X f (orC r s) := fun pins st σ H xs us Q I rx h => h.elim (a pins st σ H xs us Q I rx) (b pins st σ H xs us Q I rx)
theorem pi_or {tg it : Expr} {r s : TI} (a : PI X tg it r) (b : PI X tg it s) : PI X tg it (orI r s) := ⟨fun pins st σ H R I h => h.elim (a.run pins st σ H R I) (b.run pins st σ H R I)⟩
theorem pe_orE {e : Expr} {r s : TE} (a : PE X e r) (b : PE X e s) : PE X e (orE r s) := ⟨fun pins st σ H Q I h => h.elim (a.run pins st σ H Q I) (b.run pins st σ H Q I)⟩
theorem sl_or {r s : V → Option Int → Option Int → Hp → VK → Prop} (a : SlR X r) (b : SlR X s) : SlR X (orS r s) := fun pins st σ H x v vl vu lo hi sl Q I rx hs pl pu h => h.elim (a pins st σ H x v vl vu lo hi sl Q I rx hs pl pu) (b pins st σ H x v vl vu lo hi sl Q I rx hs pl pu)
end
/-! ### a tuple, known as an object -/
def tupObj (its : List Value) : Obj := { cls := .type "tuple", data := .seq its.toArray }
/-- what stands at a is just that tuple -/
def tupHO (its : List Value) (vs : List V) : HO := .frz (tupObj its) (.tup vs)
def PTup (K : PySem.W.Frag) (H : Hp) (a : Addr) (vs : List V) : Prop := (∃ its, H a = some (tupHO its vs)) ∨ ∃ (its : Array Value) (n : Nat) (sl : Array (Option Value)), K.lookup a = some ⟨.type "tuple", none, .seq its n, sl⟩ ∧ its.size ≤ sizeLine ∧ Vals vs its.toList
theorem PTup.seq {K : PySem.W.Frag} {H : Hp} {a : Addr} {vs : List V} (h : PTup K H a vs) : SqT K H a vs := by
  rcases h with ⟨its, e⟩ | ⟨its, n, sl, l, z, v⟩
  · exact .inl (.inr ⟨_, e⟩)
  · exact .inr ⟨_, _, _, l, rfl, rfl, z, v⟩
theorem PTup.mono {K : PySem.W.Frag} {F H : Hp} {a : Addr} {vs : List V} (e : Evl.Ex F H) (h : PTup K F a vs) : PTup K H a vs := by
  rcases h with ⟨its, q⟩ | h
  · exact .inl ⟨its, e _ _ q⟩
  · exact .inr h
section
variable {X : Cx} {pins : List (Addr × Obj)} {σ : L2.St} {H : Hp} {s : Shared}
theorem tup_ok {P : Program} {w : World} {h : Heap} {a : Addr} {its : List Value} {vs : List V} (z : vs.length ≤ sizeLine) (r : Vals vs its) (g : h.get? a = some (tupObj its)) : ObjOk P w H h a (tupHO its vs) :=
  ⟨g, z, its, r, tupObj its, g, rfl, 0, rfl⟩
/-- a tuple comes to stand at the heap's end -/
theorem lay_tup {h' : Heap} {its : List Value} {vs : List V} {Q : VK} (I : Inv X pins σ H s) (k : ∀ b u, s.heap.get? b = some u → h'.get? b = some u) (z : vs.length ≤ sizeLine) (r : Vals vs its) (q : ∀ p its, H p = none → Q (.ref p) (upd H p (tupHO its vs))) :
    EP X pins σ Q (.ref h'.objs.size) { s with heap := h'.push (tupObj its) } := by
  have I1 : Inv X pins σ H { s with heap := h' } := I.kept (t' := s.toks) k
  refine ⟨.ref h'.objs.size, _, I1.laid (t' := s.toks) (o := tupHO its vs) (fun b u e => ?_) (Nat.le_refl _) (tup_ok z r ?_), rfl, q _ its (I1.hok.fresh (Nat.le_refl _))⟩
  · exact Heap.get?_push_of_some _ e
  · exact Heap.get?_push_size _ rfl
def tTupP (t : TA) : TE := fun σ H Q => t σ H fun xs H1 => xs.length ≤ sizeLine ∧ ∀ p its, H1 p = none → Q (.ref p) (upd H1 p (tupHO its xs))
theorem pe_tupP {es : List Expr} {x1 : Nat} {pos : Pos} {t : TA} (h : PA X es t) : PE X (.Tuple es x1 pos) (tTupP t) := by
  constructor
  intro pins s σ H Q I hq
  refine wpAny_Tuple_spliced (wpAny_mono (h.run pos pins s σ H _ I hq) (fun us s1 g => ?_) (fun _ _ x => x))
  obtain ⟨xs, H1, I1, r, z, q⟩ := g
  exact ⟨by rw [← r.length]; exact z, lay_tup I1 (fun _ _ e => e) z r q⟩
def rTupP (K : PySem.W.Frag) : List V → Hp → VK → Prop := fun xs H Q => ∃ p ys, xs = [.ref p] ∧ ((SqL K H p ys ∧ ∀ l its, H l = none → Q (.ref l) (upd H l (tupHO its ys))) ∨ (SqT K H p ys ∧ Q (.ref p) H))
theorem call_tupP : CallR X (.type "tuple") (rTupP X.K) := by
  intro pins s σ H xs us Q I r h
  obtain ⟨p, ys, rfl, h⟩ := h
  have e := Vals.ref1 r
  subst e
  rcases h with ⟨hq, q⟩ | ⟨hq, q⟩
  · obtain ⟨its, r', pl, hz⟩ := I.list hq
    refine call_tuple_list pl.isList (fun h' kp => lay_tup I kp hz r' q) ?_
    rw [List.size_toArray, ← r'.length]; exact hz
  · obtain ⟨its, r', pl, hz⟩ := I.tuple hq
    exact call_tuple_same pl ⟨.ref p, H, I, rfl, q⟩
def rCatP (K : PySem.W.Frag) : R2 := fun x y H Q => ∃ a b xs ys, x = .ref a ∧ y = .ref b ∧ SqT K H a xs ∧ SqT K H b ys ∧ xs.length + ys.length ≤ sizeLine ∧
  (xs = [] → Q (.ref b) H) ∧ (xs ≠ [] → ys = [] → Q (.ref a) H) ∧ (xs ≠ [] → ys ≠ [] → ∀ p its, H p = none → Q (.ref p) (upd H p (tupHO its (xs ++ ys))))
theorem op_catP : OpR X (binaryOp .Add) (rCatP X.K) := by
  intro pins s σ H x y v u Q I rx ry h
  obtain ⟨a, b, xs, ys, rfl, rfl, ha, hb, hz, q0, q1, q2⟩ := h
  obtain ⟨is1, r1, p1, _⟩ := I.tuple ha
  obtain ⟨is2, r2, p2, _⟩ := I.tuple hb
  cases rx; cases ry
  cases xs with
  | nil => cases r1; exact cat_tup0 p1 p2 ⟨.ref b, H, I, rfl, q0 rfl⟩
  | cons x0 xr =>
    have nx : x0 :: xr ≠ [] := List.cons_ne_nil _ _
    refine HT.cat_tup p1 p2 (fun z => ?_) (fun z => ?_) (fun z => ?_) ?_
    · rw [z] at r1; cases r1
    · rw [z] at r2; exact ⟨.ref a, H, I, rfl, q1 nx (by cases r2; rfl)⟩
    · refine lay_tup I (fun _ _ e => e) ?_ (r1.append r2) (q2 nx fun w => z ?_)
      · rw [List.length_append]; exact hz
      · rw [w] at r2; cases r2; rfl
    · rw [← r1.length, ← r2.length]; exact hz
def rSlP (K : PySem.W.Frag) : V → Option Int → Option Int → Hp → VK → Prop := fun x lo hi H Q => ∃ a xs, x = .ref a ∧ SqT K H a xs ∧
  (HT.sIx xs.length 0 lo = 0 ∧ HT.sIx xs.length xs.length hi = xs.length → Q (.ref a) H) ∧ (¬ (HT.sIx xs.length 0 lo = 0 ∧ HT.sIx xs.length xs.length hi = xs.length) → ∀ p its, H p = none → Q (.ref p) (upd H p (tupHO its (cutV xs lo hi))))
theorem sl_tupP : SlR X (rSlP X.K) := by
  intro pins s σ H x v vl vu lo hi sl Q I rx hs pl pu h
  obtain ⟨a, xs, rfl, hx, q1, q2⟩ := h
  cases rx
  obtain ⟨its, r, ht, hz⟩ := I.tuple hx
  have hlen : its.toArray.size = xs.length := by rw [List.size_toArray, ← r.length]
  refine ⟨"tuple", _, PyProof.Rows.slot_tuple_getitem.lookup, ht.typeIs, ?_⟩
  by_cases hw : HT.sIx xs.length 0 lo = 0 ∧ HT.sIx xs.length xs.length hi = xs.length
  · exact getItem_tuple_whole ht hs pl pu (by rw [hlen]; exact hw) ⟨.ref a, H, I, rfl, q1 hw⟩
  · refine HT.getItem_tuple_cut ht hs pl pu (by rw [hlen]; exact hw) ?_ (by rw [hlen]; exact hz)
    rw [hlen]
    exact lay_tup I (fun _ _ e => e) (Nat.le_trans (cutV_length xs lo hi) hz) ((r.drop _).take _) (q2 hw)
/-! ### sum, max of a tuple of ints -/
theorem old_new {h h' : Heap} {ob : Obj} (hk : ∀ b o, b ∉ [h.objs.size] → (h.push ob).get? b = some o → h'.get? b = some o) : ∀ b o, h.get? b = some o → h'.get? b = some o := fun b o e =>
  hk b o (by
    have := Heap.lt_size e
    simp only [List.mem_cons, List.not_mem_nil, or_false]
    exact fun z => Nat.lt_irrefl _ (z ▸ this)) (Heap.get?_push_of_some _ e)
theorem sum_tup {l : Addr} {its : List Value} {ns : List Int} {A : Around} {E : Value → Shared → Prop} {Q : Value → Shared → Prop} {P : Program} {w : World} (hh : A.handled = none) (hl : s.heap.IsTuple l its.toArray) (hi : IntsAre its ns)
    (h : ∀ h' tk t', (∀ b o, s.heap.get? b = some o → h'.get? b = some o) → Q (.int ns.sum t') { s with heap := h', toks := tk }) : wpAny (model P w) A (call (.builtin "sum") [.ref l]) Q E s := by
  obtain ⟨xs, e⟩ := hi.allInts.items
  have hn : numsOf (intItems xs).toList = ns := by rw [← e]; exact hi.numsOf
  rw [nums_intItems] at hn
  rw [e] at hl
  have hlt : l < s.heap.objs.size := by obtain ⟨_, e, _⟩ := hl; exact Heap.lt_size e
  refine call_sum_walkG (wpAny_pyIter_tuple hl ?_)
  refine ⟨_, _, _, _, _, _, numAt xs, rfl, Walks.tuple (A := A.in1) hh _ l (Nat.ne_of_lt hlt) (intItems xs), ⟨⟨_, Heap.get?_push_size _ rfl, rfl, rfl⟩, hl.push _⟩, fun b hb => ?_, (fun _ _ => intItems_at), fun h' tk t' hk => ?_⟩
  · show b < (s.heap.push _).objs.size
    rw [Heap.size_push]
    simp only [List.mem_cons, List.not_mem_nil, or_false] at hb
    rcases hb with rfl | rfl
    · exact Nat.lt_succ_self _
    · exact Nat.lt_succ_of_lt hlt
  · have q := h h' tk t' (old_new hk)
    rw [preSum_eq, List.take_of_length_le (by simp [intItems]), hn]; exact q
theorem max_tup {l : Addr} {its : List Value} {ns : List Int} {A : Around} {E : Value → Shared → Prop} {Q : Value → Shared → Prop} {P : Program} {w : World} (hh : A.handled = none) (hl : s.heap.IsTuple l its.toArray) (hi : IntsAre its ns) (hne : 0 < ns.length)
    (h : ∀ h' tk M t', (∀ b o, s.heap.get? b = some o → h'.get? b = some o) → M ∈ ns → (∀ a, a ∈ ns → a ≤ M) → Q (.int M t') { s with heap := h', toks := tk }) : wpAny (model P w) A (call (.builtin "max") [.ref l]) Q E s := by
  obtain ⟨xs, e⟩ := hi.allInts.items
  have hn : numsOf (intItems xs).toList = ns := by rw [← e]; exact hi.numsOf
  rw [nums_intItems] at hn
  subst hn
  rw [e] at hl
  have hlt : l < s.heap.objs.size := by obtain ⟨_, e, _⟩ := hl; exact Heap.lt_size e
  refine call_max_walk (wpAny_pyIter_tuple hl ?_)
  refine ⟨_, _, _, _, _, _, _, rfl, Walks.tuple (A := A.in1) hh _ l (Nat.ne_of_lt hlt) (intItems xs), ⟨⟨_, Heap.get?_push_size _ rfl, rfl, rfl⟩, hl.push _⟩, fun b hb => ?_, by simpa [intItems] using hne, CmpOf.ints_gt (numAt xs) (fun _ _ => intItems_at), fun v h' tk hP hk => ?_⟩
  · show b < (s.heap.push _).objs.size
    rw [Heap.size_push]
    simp only [List.mem_cons, List.not_mem_nil, or_false] at hb
    rcases hb with rfl | rfl
    · exact Nat.lt_succ_self _
    · exact Nat.lt_succ_of_lt hlt
  · have hv := hP
    simp only [intItems, Array.size_map] at hv
    obtain ⟨t, ev⟩ := intItems_at hP
    subst ev
    obtain ⟨h1, h2⟩ := argBest_gt (numAt xs) ((intItems xs).size - 1)
    have hsz : (intItems xs).size = xs.size := by simp [intItems]
    rw [hsz] at h1 h2 ⊢
    have hx : 0 < xs.size := by simpa using hne
    refine h h' tk _ t (old_new hk) ?_ fun a ha => ?_
    · rw [numAt_eq]; exact PySem.getD_mem (by simp only [List.length_map, Array.length_toList]; exact Nat.lt_of_le_of_lt h1 (Nat.sub_lt hx Nat.one_pos))
    · obtain ⟨j, hj, rfl⟩ := mem_getD ha
      rw [List.length_map, Array.length_toList] at hj
      rw [← numAt_eq]; exact h2 j (by omega)
def rSumT (K : PySem.W.Frag) : List V → Hp → VK → Prop := fun vs H Q => ∃ (a : Addr) (ns : List Int), vs = [V.ref a] ∧ SqT K H a (ns.map V.int) ∧ Q (.int ns.sum) H
def rMaxT (K : PySem.W.Frag) : List V → Hp → VK → Prop := fun vs H Q => ∃ (a : Addr) (ns : List Int), vs = [V.ref a] ∧ SqT K H a (ns.map V.int) ∧ 0 < ns.length ∧ ∀ m, m ∈ ns → (∀ y, y ∈ ns → y ≤ m) → Q (.int m) H
theorem call_sumT (hc : X.calm = true) : CallR X (.builtin "sum") (rSumT X.K) := by
  intro pins s σ H vs us Q I r h
  obtain ⟨a, ns, rfl, hs, q⟩ := h
  obtain ⟨its, rv, hl, _⟩ := I.tuple hs
  have e := Vals.ref1 r
  subst e
  exact sum_tup (I.ok.hd hc) hl rv.ints fun h' tk t' hk => ⟨.int _, H, I.kept hk, ⟨_, rfl⟩, q⟩
theorem call_maxT (hc : X.calm = true) : CallR X (.builtin "max") (rMaxT X.K) := by
  intro pins s σ H vs us Q I r h
  obtain ⟨a, ns, rfl, hs, hne, q⟩ := h
  obtain ⟨its, rv, hl, _⟩ := I.tuple hs
  have e := Vals.ref1 r
  subst e
  exact max_tup (I.ok.hd hc) hl rv.ints hne fun h' tk m t' hk h1 h2 => ⟨.int _, H, I.kept hk, ⟨_, rfl⟩, q m h1 h2⟩
/-! ### t.index(x), t a tuple that is known as an object -/
def tIndexT (K : PySem.W.Frag) (to : TE) (t : TA) : TE := fun σ H Q => to σ H fun x H1 => ∃ a vs, x = .ref a ∧ PTup K H1 a vs ∧ t σ H1 fun xs H2 => ∃ (y : V) (j : Nat) (z : V), PTup K H2 a vs ∧ xs = [y] ∧ flatV y = true ∧ vs.all flatV = true ∧ vs[j]? = some z ∧ eqV z y = true ∧
  (∀ (m : Nat) (z' : V), m < j → vs[m]? = some z' → eqV z' y = false) ∧ Q (.int (j : Nat)) H2
theorem ptup_at (I : Inv X pins σ H s) {a : Addr} {vs : List V} (h : PTup X.K H a vs) : ∃ its n sl, s.heap.get? a = some ⟨.type "tuple", none, .seq (List.toArray its) n, sl⟩ ∧ Vals vs its := by
  rcases h with ⟨its, e⟩ | ⟨its, n, sl, l, _, v⟩
  case inr => exact ⟨its.toList, n, sl, I.kIn _ _ l, v⟩
  obtain ⟨g, z, its', r, o, g', hc, n, hd⟩ := (show ObjOk X.prog X.w H s.heap a (tupHO its vs) from I.hok a _ e)
  rw [g] at g'; cases g'
  have e2 : its.toArray = its'.toArray := by injection hd
  have e3 : its = its' := by simpa using e2
  subst e3
  exact ⟨its, _, _, g, r⟩
theorem eqU_at {vs : List V} {its : List Value} {y : V} {uy : Value} (ry : RelV y uy) (fy : flatV y = true) (r : Vals vs its) (fv : vs.all flatV = true) {j : Nat} {z : V} (hz : vs[j]? = some z) : ∃ u, its[j]? = some u ∧ eqU y u = eqV z y := by
  obtain ⟨u, hu, ru⟩ := r.get hz
  exact ⟨u, hu, eqU_of ru (flat_at fv hz)⟩
theorem call_indexT (I : Inv X pins σ H s) {a : Addr} {vs : List V} {y z : V} {uy : Value} {j : Nat} {Q : VK} (h : PTup X.K H a vs) (ry : RelV y uy) (fy : flatV y = true) (fv : vs.all flatV = true) (hz : vs[j]? = some z) (hj : eqV z y = true)
    (hn : ∀ (m : Nat) (z' : V), m < j → vs[m]? = some z' → eqV z' y = false) (q : Q (.int (j : Nat)) H) : wpAny (model X.prog X.w) X.A (call (.builtin "tuple.index") [.ref a, uy]) (EP X pins σ Q) X.xe s := by
  obtain ⟨its, n0, sl, g, r⟩ := ptup_at I h
  have hl : its.toArray.size = vs.length := by rw [List.size_toArray, ← r.length]
  have jl : j < its.toArray.size := by rw [hl]; exact (List.getElem?_eq_some_iff.mp hz).1
  refine call_meets PySem.F.slot_tuple_index ⟨_, g, rfl⟩ PySem.F.entry_tuple_index (PySem.F.args_tuple_index_2 _ _) (TI.tuple_indexAt a its.toArray n0 none sl uy (eqU y) j jl ?_ ?_)
    ⟨g, fun w hw => mem_eqAt ry fy r fv w (by simpa using hw), ⟨.int (j : Nat), H, I.tok _, ⟨_, rfl⟩, q⟩⟩
  · obtain ⟨u, hu, e⟩ := eqU_at ry fy r fv hz
    have e2 : its.toArray[j] = u := by have := (List.getElem?_eq_some_iff.mp hu).2; simpa using this
    rw [e2, e]; exact hj
  · intro m hm hmj
    have hmv : m < vs.length := by rw [← hl]; exact hm
    obtain ⟨u, hu, e⟩ := eqU_at ry fy r fv (List.getElem?_eq_getElem hmv)
    have e2 : its.toArray[m] = u := by have := (List.getElem?_eq_some_iff.mp hu).2; simpa using this
    rw [e2, e]; exact hn m _ hmj (List.getElem?_eq_getElem hmv)
theorem pe_indexT {o e : Expr} {to : TE} {t : TA} {apos cpos : Pos} {name : Str} (ho : PE X o to) (ha : PA X [e] t) (hN : Slot "tuple" name "tuple.index")
    (hbase : attributeBase o name X.env (eval o X.env) = eval o X.env := by rfl)
    (hfew : ((backTo cpos (starEach [e] X.env)).all (fun x => !x.1) && (backToKw cpos (keywordEach [] X.env)).all (fun x => x.1.isSome) && decide ([e].length + ([] : List Keyword).length + (if ([] : List Keyword).isEmpty then 0 else 1) < 30)) = true := by rfl)
    (hline : (apos.endLine == cpos.line) = true := by rfl) (hs : starEach [e] X.env = (false, eval e X.env) :: starEach [] X.env := by rfl) (hplain : (backTo cpos (starEach [] X.env)).any (·.1) = false := by rfl) :
    PE X (.Call (.Attribute o name apos) [e] [] cpos) (tIndexT X.K to t) := by
  constructor
  intro pins s σ H Q I h
  refine wpAny_Call_method_late hbase hfew hline rfl (wpAny_mono (ho.run pins s σ H _ I h) (fun v s1 g => ?_) (fun _ _ x => x))
  obtain ⟨x, H1, I1, r1, a, vs, ex, pt, q1⟩ := g
  subst ex
  cases r1
  obtain ⟨its, _, _, ga, _⟩ := ptup_at I1 pt
  refine ⟨"tuple", "tuple.index", PySem.F.plainAttrs_tuple, hN, PySem.F.type_tuple_index, ⟨_, ga, rfl⟩, fun b eb => ?_, ?_⟩
  · cases eb; exact ⟨_, ga, rfl⟩
  · have hA := ha.run cpos pins s1 σ H1 _ I1 q1
    rw [hs] at hA ⊢
    refine Calls.callWith_builtin (by show (false || (backTo cpos (starEach [] X.env)).any (·.1)) = false; rw [hplain]; rfl) (Calls.evalArgs_plain ?_)
    refine wpAny_mono hA (fun us s2 g => ?_) (fun _ _ x => x)
    obtain ⟨ys, H2, I2, r2, y, j, z, pt2, ey, fy, fv, hz, hj, hn, q⟩ := g
    subst ey
    cases r2 with
    | cons ry rt => cases rt; exact call_indexT I2 pt2 ry fy fv hz hj hn q
end
end AL

/-! enumerate over a tuple. -/
namespace AL
open PySem PySem.Spec PyProof.Rows L2
abbrev tIterOb (l : Addr) : Obj := { cls := .type "tuple_iterator", data := .fields #[.ref l, .int 0 0] }
abbrev enumOb (i : Addr) : Obj := { cls := .type "enumerate", data := .fields #[.none, .bool false, .ref i, rawInt 0, .none, .none] }
set_option maxHeartbeats 1000000 in
theorem enum_newT (l : Addr) (its : Array Value) (n : Nat) (dc : Option Addr) (sl : Array (Option Value)) :
    Meets (Builtin.«enumerate.__new__» ⟨[.type "enumerate", .ref l], []⟩) (fun _ R s => s.heap.get? l = some { cls := .type "tuple", dict := dc, data := .seq its n, slots := sl } ∧
      R (.ok (.ret (.ref (s.heap.push (tIterOb l)).objs.size))) { s with heap := (s.heap.push (tIterOb l)).push (enumOb s.heap.objs.size) }) :=
  .of_wp fun prog w A R s hh => by
    obtain ⟨hp, g, d, tk, os⟩ := s
    obtain ⟨hl, h⟩ := hh
    have hsub := PySem.sub_enumerate
    have hT : Heap.IsTuple (Shared.heap ⟨hp, g, d, tk, os⟩) l its := ⟨_, hl, rfl, n, rfl⟩
    wp_walk using PySem.AutoSeq1.wpAny_loadPart' hl
    refine wpAny_stack_any fun st => ?_
    refine wpAny_pure ?_
    split
    · rename_i c _ _ _ _ _
      cases (c == Value.type "enumerate") <;> (wp_walk using PySem.AutoSeq1.wpAny_loadPart' hl, wpAny_pyIter_tuple hT; exact ⟨_, rfl, h⟩)
    · wp_walk using PySem.AutoSeq1.wpAny_loadPart' hl, wpAny_pyIter_tuple hT
      exact ⟨_, rfl, h⟩
/-- the tuple at a, an item a turn beside its place -/
def IteT (K : PySem.W.Frag) (a : Addr) : It where
  go := fun i H => ∃ (vs : List V) (v : V), SqT K H a vs ∧ vs[i]? = some v
  yld := fun i H r H' => ∃ T v, r = .ref T ∧ H T = none ∧ H' = upd H T (.tup [.int (i : Nat), v]) ∧ ∀ vs, SqT K H a vs → vs[i]? = some v
  stop := fun i H => ∃ vs : List V, SqT K H a vs ∧ vs.length ≤ i
def EnT (a e it : Addr) (i : Nat) (h : Heap) : Prop := (∃ old, IsEnum h e it ((i : Nat) : Int) old) ∧ h.IsTupleIter it a i ∧ e ≠ it ∧ a ≠ it ∧ a ≠ e
/-- a walk that is at its end, wherever that is -/
theorem draws_end {P : Program} {w : World} {A : Around} (hh : A.handled = none) (it t : Addr) (its : Array Value) (i : Nat) (hi : its[i]? = none) :
    Draws P w A it [it, t] i (fun _ _ => True) (fun j h => j = i ∧ h.IsTupleIter it t i ∧ h.IsTuple t its) where
  live := fun j h st => by
    obtain ⟨_, ⟨o, g, _⟩, _⟩ := st
    exact ⟨o, g⟩
  frame := fun j h h' st k => ⟨st.1, st.2.1.at fun o e => k it (by simp) o e, st.2.2.at fun o e => k t (by simp) o e⟩
  item := fun j s Q E hj st _ => absurd st.1 (Nat.ne_of_lt hj)
  done := fun s Q E st q => wpAny_nextOf_tuple_end hh st.2.1 st.2.2 hi q
section
variable {X : Cx}
theorem call_enumT {A : Around} {E : Value → Shared → Prop} {P : Program} {w : World} {s : Shared} {l : Addr} {its : Array Value} {Q : Value → Shared → Prop} (hl : s.heap.IsTuple l its)
    (q : ∀ h', EnT l (s.heap.objs.size + 1) s.heap.objs.size 0 h' → (∀ b o, s.heap.get? b = some o → h'.get? b = some o) → Q (.ref (s.heap.objs.size + 1)) { s with heap := h' }) : wpAny (model P w) A (call (.type "enumerate") [.ref l]) Q E s := by
  obtain ⟨⟨cls, dc, dt, sl⟩, g, hc, n, hd⟩ := hl
  simp only at hc hd
  subst hc hd
  have lt : l < s.heap.objs.size := Heap.lt_size g
  have z : (s.heap.push (tIterOb l)).objs.size = s.heap.objs.size + 1 := Heap.size_push ..
  refine callType_new F.called_enumerate (by decide) (F.typeCall_enumerate_1 _) (F.newCall_enumerate_1 _) (fun obj => F.args_object_init_2 obj _) F.entry_enumerate_new (enum_newT l its n dc sl) ⟨g, ?_⟩
  show _ ∧ _
  rw [z]
  have ge : ((s.heap.push (tIterOb l)).push (enumOb s.heap.objs.size)).get? (s.heap.objs.size + 1) = some (enumOb s.heap.objs.size) := by
    have y := Heap.get?_push_size (s.heap.push (tIterOb l)) (o := enumOb s.heap.objs.size) rfl
    rw [z] at y
    exact y
  refine ⟨⟨_, ge, rfl⟩, q _ ⟨⟨_, ge⟩, ⟨_, Heap.get?_push_of_some _ (Heap.get?_push_size _ rfl), rfl, rfl⟩, Nat.succ_ne_self _, Nat.ne_of_lt lt, Nat.ne_of_lt (Nat.lt_succ_of_lt lt)⟩ fun b o x => ?_⟩
  exact Heap.get?_push_of_some _ (Heap.get?_push_of_some _ x)
theorem turn_enumT {P : Program} {w : World} {K : PySem.W.Frag} {elts : List Expr} {kk : Nat} {tpos : Pos} (a e it : Addr) : Turn P w K (.Tuple elts kk tpos) (IteT K a) [e, it] e (EnT a e it) where
  mem := List.mem_cons_self
  obj := fun i h st b hb => by
    obtain ⟨⟨old, ge⟩, ⟨o, go, _, gd⟩, _⟩ := st
    rcases List.mem_cons.mp hb with z | z
    · subst z; exact ⟨_, ge, fun v q => nomatch q⟩
    · rw [List.mem_singleton] at z; subst z; exact ⟨o, go, fun v q => by rw [gd] at q; cases q⟩
  keep := fun i h h' st k => by
    obtain ⟨⟨old, ge⟩, gi, n1, n2⟩ := st
    exact ⟨⟨old, k e (by simp) _ ge⟩, gi.at fun o q => k it (by simp) o q, n1, n2⟩
  item := by
    intro X hP hw hK hc i pins s σ H E I hf st hg
    subst hP hw hK
    obtain ⟨⟨old, ge⟩, gi, n1, n2, n3⟩ := st
    obtain ⟨vs, v, hq, hv⟩ := hg
    obtain ⟨its, rv, p, hz⟩ := I.tuple hq
    obtain ⟨u, hu, ru⟩ := rv.get hv
    have le : e < s.heap.objs.size := Heap.lt_size ge
    have li : it < s.heap.objs.size := by obtain ⟨_, q, _⟩ := gi; exact Heap.lt_size q
    have hi : i < its.toArray.size := by have := (List.getElem?_eq_some_iff.mp hu).1; simpa using this
    refine wpAny_pyNext_enum_itemD (Draws.tuple (A := X.A.in1) (I.ok.hd hc) it a n2 its.toArray) ge ⟨gi, p⟩ hi n1 (by simp [n1, Ne.symm n3]) fun x h' tk hx ho st' hT hsz hk => ?_
    have ex : x = u := by
      have y : its.toArray[i]? = some u := by simpa using hu
      rw [y] at hx; exact (Option.some.inj hx).symm
    subst ex
    refine ⟨_, rfl, wpAny_letOwnedTupleGo_enum (s := { s with heap := h', toks := tk + 1 }) ho fun h2 ge2 sb => ?_⟩
    have kk2 : ∀ b ob, b ∉ [e, it] → s.heap.get? b = some ob → h2.get? b = some ob := fun b ob hb q => by
      have b1 : b ≠ e := fun z => hb (by simp [z])
      have b2 : b ≠ it := fun z => hb (by simp [z])
      exact (sb.2 b b1).trans (hk b ob b1 b2 q)
    have g2 : h2.get? s.heap.objs.size = some { cls := .type "tuple", data := .seq #[.int i tk, x] } := (sb.2 _ (Nat.ne_of_gt le)).trans hT
    have new : ObjOk X.prog X.w (upd H s.heap.objs.size (.tup [.int (i : Nat), v])) h2 s.heap.objs.size (.tup [.int (i : Nat), v]) := by
      refine ⟨?_, [.int i tk, x], .cons ⟨_, rfl⟩ (.cons ru .nil), _, g2, rfl, _, rfl⟩
      show 2 ≤ sizeLine
      decide
    have I2 := I.turnedNew (t' := tk + 1) kk2 hf (Nat.le_refl _) new
    refine ⟨.ref s.heap.objs.size, _, I2, rfl, ⟨_, v, rfl, I.hok.fresh (Nat.le_refl _), rfl, fun ws hw => by rw [I.tuple_inj hw hq]; exact hv⟩, ⟨⟨x, ?_⟩, st'.1.at fun o q => (sb.2 it (Ne.symm n1)).trans q, n1, n2, n3⟩, fun b hb => ?_⟩
    · rw [show ((i + 1 : Nat) : Int) = (i : Int) + 1 by omega]
      exact ge2
    · have lb : b < s.heap.objs.size := by
        rcases List.mem_cons.mp hb with z | z
        · subst z; exact le
        · rw [List.mem_singleton] at z; subst z; exact li
      rw [upd_ne (Nat.ne_of_lt lb)]
      exact (hf b hb).1
  done := by
    intro X hP hw hK hc i pins s σ H E I hf st hg
    subst hP hw hK
    obtain ⟨⟨old, ge⟩, gi, n1, n2, n3⟩ := st
    obtain ⟨vs, hq, hv⟩ := hg
    obtain ⟨its, rv, p, hz⟩ := I.tuple hq
    obtain ⟨f0, f1, f2, f3, f4, f5⟩ := hf it (by simp)
    have no : its.toArray[i]? = none := by
      have := rv.length
      simp only [List.getElem?_toArray]
      exact List.getElem?_eq_none (by omega)
    refine wpAny_pyNext_enum_endD (draws_end (A := X.A.in1) (I.ok.hd hc) it a its.toArray i no) ge ⟨rfl, gi, p⟩ fun h' eb => ⟨rfl, ?_⟩
    exact I.turned (t' := s.toks) (fun b o hb q => eb b o hb q) f0 f1 f3 f4 f5
  self := fun A i s Q E st q => by
    obtain ⟨⟨old, ge⟩, _⟩ := st
    exact wpAny_pyIter_enum ge q
/-- enumerate of a list or a tuple -/
def iEnumA (K : PySem.W.Frag) (ta : TA) : TI := orI (iEnum K ta) fun σ H R => ta σ H fun vs H1 => ∃ a xs, vs = [.ref a] ∧ SqT K H1 a xs ∧ R (IteT K a) H1
theorem pi_enumA {e : Expr} {ta : TA} {p pos tpos : Pos} {elts : List Expr} {kk : Nat} (hg : Gl X "enumerate") (hm : X.mg "enumerate" = none) (ha : PA X [e] ta) (hs : starEach [e] X.env = [(false, eval e X.env)] := by rfl) :
    PI X (.Tuple elts kk tpos) (.Call (.Name "enumerate" p) [e] [] pos) (iEnumA X.K ta) := by
  refine pi_or (pi_enum hg hm ha hs) ⟨fun pins s σ H R I h => ?_⟩
  refine Call_ (ld_blt I hg hm boot_enumerate (PyProof.Rows.callWith_type1 (wpAny_mono (ha.run pos pins s σ H _ I h) (fun us s1 g => ?_) (fun _ _ x => x)) hs rfl))
  obtain ⟨vs, H1, I1, r1, a, xs, ex, hq, q⟩ := g
  subst ex
  have e1 := Vals.ref1 r1
  subst e1
  obtain ⟨its, rv, p', hz⟩ := I1.tuple hq
  refine call_enumT p' fun h' st hk => ?_
  obtain ⟨⟨old, ge⟩, gi, n1, n2, n3⟩ := id st
  have lz : s1.heap.objs.size ≤ s1.heap.objs.size + 1 := Nat.le_succ _
  refine wpAny_pyIter_enum ge ⟨s1.heap.objs.size + 1, [s1.heap.objs.size + 1, s1.heap.objs.size], _, _, H1, rfl, I1.kept (t' := s1.toks) hk, turn_enumT a _ _, st, fun b hb => ?_, q⟩
  rcases List.mem_cons.mp hb with z | z
  · subst z; exact I1.fpOk lz (I1.hok.fresh lz)
  · rw [List.mem_singleton] at z; subst z; exact I1.fpOk (Nat.le_refl _) (I1.hok.fresh (Nat.le_refl _))
end
end AL

/-! zip of a tuple and a list. -/
namespace AL
open PySem PySem.Spec PyProof.Rows L2
abbrev lIterOb (l : Addr) : Obj := { cls := .type "list_iterator", data := .fields #[.ref l, .int 0 0] }
abbrev zH1 (h : Heap) (a : Addr) : Heap := h.push (tIterOb a)
abbrev zH2 (h : Heap) (a b : Addr) : Heap := (zH1 h a).push (lIterOb b)
abbrev zH3 (h : Heap) (a b : Addr) : Heap := (zH2 h a b).push { cls := .type "tuple", data := .seq #[.ref h.objs.size, .ref (zH1 h a).objs.size] }
abbrev zH4 (h : Heap) (a b : Addr) : Heap := (zH3 h a b).push { cls := .type "tuple", data := .seq #[.none, .none] }
abbrev zH5 (h : Heap) (a b : Addr) : Heap := (zH4 h a b).push { cls := .type "zip", data := .fields #[.none, .bool false, .bool false, .ref (zH2 h a b).objs.size, .ref (zH3 h a b).objs.size] }
set_option maxHeartbeats 1000000 in
theorem zip_newM (a b : Addr) (xs ys : Array Value) :
    Meets (Builtin.«zip.__new__» ⟨[.type "zip", .ref a, .ref b], []⟩) (fun _ R s => s.heap.IsTuple a xs ∧ s.heap.IsList b ys ∧ R (.ok (.ret (.ref (zH4 s.heap a b).objs.size))) { s with heap := zH5 s.heap a b }) :=
  .of_wp fun prog w A R s hh => by
    obtain ⟨hp, g, d, tk, os⟩ := s
    obtain ⟨ha, hb, h⟩ := hh
    have hsub := sub_zip
    have hA : Heap.IsTuple (Shared.heap ⟨hp, g, d, tk, os⟩) a xs := ha
    have hB : Heap.IsList (Shared.heap ⟨hp.push (tIterOb a), g, d, tk, os⟩) b ys := Heap.IsList.push hb _
    wp_walk using wpAny_pyIter_tuple hA, wpAny_pyIter_list hB
    exact ⟨_, rfl, h⟩
section
variable {X : Cx}
/-- the cells of the zip at n: the two walks, what they are kept in, the zip -/
structure ZmSt (a b n : Addr) (i : Nat) (h : Heap) : Prop where
  z : IsZip h (n + 4) (n + 2) (n + 3) .none
  ti : IsPair h (n + 2) (.ref n) (.ref (n + 1))
  tO : ∃ x y, IsPair h (n + 3) x y
  i1 : h.IsTupleIter n a i
  i2 : h.IsListIter (n + 1) b i
theorem call_zipM {A : Around} {E : Value → Shared → Prop} {P : Program} {w : World} {s : Shared} {a b : Addr} {xs ys : Array Value} {Q : Value → Shared → Prop} (ha : s.heap.IsTuple a xs) (hb : s.heap.IsList b ys)
    (q : ∀ h', ZmSt a b s.heap.objs.size 0 h' → (∀ c o, s.heap.get? c = some o → h'.get? c = some o) → Q (.ref (s.heap.objs.size + 4)) { s with heap := h' }) : wpAny (model P w) A (call (.type "zip") [.ref a, .ref b]) Q E s := by
  refine callType_new F.called_zip (by decide) (F.typeCall_zip_2 _ _) (F.newCall_zip_2 _ _) (fun o => F.args_object_init_3 o _ _) F.entry_zip_new (zip_newM a b xs ys) ⟨ha, hb, ?_⟩
  generalize hh : s.heap = hp at *
  have z1 : (zH1 hp a).objs.size = hp.objs.size + 1 := Heap.size_push ..
  have z2 : (zH2 hp a b).objs.size = hp.objs.size + 2 := by rw [Heap.size_push, z1]
  have z3 : (zH3 hp a b).objs.size = hp.objs.size + 3 := by rw [Heap.size_push, z2]
  have z4 : (zH4 hp a b).objs.size = hp.objs.size + 4 := by rw [Heap.size_push, z3]
  have p : ∀ {k : Heap} {o : Obj} {c : Addr} {u : Obj}, k.get? c = some u → (k.push o).get? c = some u := fun e => Heap.get?_push_of_some _ e
  have g5 : (zH5 hp a b).get? (zH4 hp a b).objs.size = some _ := Heap.get?_push_size _ rfl
  have g4 : (zH5 hp a b).get? (zH3 hp a b).objs.size = some _ := p (Heap.get?_push_size _ rfl)
  have g3 : (zH5 hp a b).get? (zH2 hp a b).objs.size = some _ := p (p (Heap.get?_push_size _ rfl))
  have g2 : (zH5 hp a b).get? (zH1 hp a).objs.size = some _ := p (p (p (Heap.get?_push_size _ rfl)))
  have g1 : (zH5 hp a b).get? hp.objs.size = some _ := p (p (p (p (Heap.get?_push_size _ rfl))))
  show _ ∧ _
  rw [z2, z3, z4] at g5
  rw [z1, z2] at g3
  rw [z3] at g4
  rw [z1] at g2
  rw [z4]
  exact ⟨⟨_, g5, rfl⟩, q _ ⟨g5, g3, ⟨_, _, g4⟩, ⟨_, g1, rfl, rfl⟩, ⟨_, g2, rfl, rfl⟩⟩ fun c o x => p (p (p (p (p x))))⟩
/-- the tuple at a and the list at b, an item of each a turn -/
def ItM (K : PySem.W.Frag) (a b : Addr) : It where
  go := fun i H => ∃ (vs ws : List V) (v u : V), SqT K H a vs ∧ SqL K H b ws ∧ vs[i]? = some v ∧ ws[i]? = some u
  yld := fun i H r H' => ∃ T v u, r = .ref T ∧ H T = none ∧ H' = upd H T (.tup [v, u]) ∧ (∀ vs, SqT K H a vs → vs[i]? = some v) ∧ ∀ ws, SqL K H b ws → ws[i]? = some u
  stop := fun i H => ∃ vs ws : List V, SqT K H a vs ∧ SqL K H b ws ∧ (vs.length ≤ i ∨ ws.length ≤ i)
def zCells (n : Addr) : List Addr := [n + 4, n + 2, n + 3, n, n + 1]
theorem zCells_in {n c : Addr} (h : c ∈ zCells n) : c = n + 4 ∨ c = n + 2 ∨ c = n + 3 ∨ c = n ∨ c = n + 1 := by
  simpa [zCells] using h
theorem draws_endL {P : Program} {w : World} {A : Around} (hh : A.handled = none) (it t : Addr) (its : Array Value) (i : Nat) (hi : its[i]? = none) :
    Draws P w A it [it, t] i (fun _ _ => True) (fun j h => j = i ∧ h.IsListIter it t i ∧ h.IsList t its) where
  live := fun j h st => by
    obtain ⟨_, ⟨o, g, _⟩, _⟩ := st
    exact ⟨o, g⟩
  frame := fun j h h' st k => ⟨st.1, st.2.1.at fun o e => k it (by simp) o e, st.2.2.at fun o e => k t (by simp) o e⟩
  item := fun j s Q E hj st _ => absurd st.1 (Nat.ne_of_lt hj)
  done := fun s Q E st q => wpAny_nextOf_list_end hh st.2.1 st.2.2 hi q
theorem sepM {a b n : Nat} (la : a < n) (lb : b < n) : ZipSep2 (n + 4) (n + 2) (n + 3) n (n + 1) [n, a] [n + 1, b] := by
  have k : ∀ {x y c : Nat}, x ≠ c → x ≠ y → x ∉ [c, y] := fun h1 h2 h => by
    rcases List.mem_cons.mp h with z | z
    · exact h1 z
    · rw [List.mem_singleton] at z; exact h2 z
  constructor <;> first
    | exact List.mem_cons_self
    | exact (show (_ : Nat) ≠ (_ : Nat) by omega)
    | exact k (by omega) (by omega)
theorem turn_zipM {P : Program} {w : World} {K : PySem.W.Frag} {elts : List Expr} {kk : Nat} {tpos : Pos} {a b n : Addr} (la : a < n) (lb : b < n) : Turn P w K (.Tuple elts kk tpos) (ItM K a b) (zCells n) (n + 4) (ZmSt a b n) where
  mem := List.mem_cons_self
  obj := fun i h st c hc => by
    obtain ⟨gz, gi, ⟨x, y, gO⟩, ⟨o1, e1, _, d1⟩, ⟨o2, e2, _, d2⟩⟩ := st
    rcases zCells_in hc with q | q | q | q | q <;> subst q
    · exact ⟨_, gz, fun v q => nomatch q⟩
    · exact ⟨_, gi, fun v q => nomatch q⟩
    · exact ⟨_, gO, fun v q => nomatch q⟩
    · exact ⟨o1, e1, fun v q => by rw [d1] at q; cases q⟩
    · exact ⟨o2, e2, fun v q => by rw [d2] at q; cases q⟩
  keep := fun i h h' st k => by
    obtain ⟨gz, gi, ⟨x, y, gO⟩, s1, s2⟩ := st
    exact ⟨k _ (by simp [zCells]) _ gz, k _ (by simp [zCells]) _ gi, ⟨x, y, k _ (by simp [zCells]) _ gO⟩, s1.at fun o q => k _ (by simp [zCells]) o q, s2.at fun o q => k _ (by simp [zCells]) o q⟩
  item := by
    intro X hP hw hK hc i pins s σ H E I hf st hg
    subst hP hw hK
    obtain ⟨gz, gi, ⟨x0, y0, gO⟩, s1, s2⟩ := st
    obtain ⟨vs, ws, v, u, hq1, hq2, hv, hu⟩ := hg
    obtain ⟨is1, r1, p1, _⟩ := I.tuple hq1
    obtain ⟨is2, r2, p2, _⟩ := I.list hq2
    obtain ⟨v1, g1, rv1⟩ := r1.get hv
    obtain ⟨v2, g2, rv2⟩ := r2.get hu
    have l1 : i < is1.toArray.size := by have := (List.getElem?_eq_some_iff.mp g1).1; simpa using this
    have l2 : i < is2.toArray.size := by have := (List.getElem?_eq_some_iff.mp g2).1; simpa using this
    have hd := I.ok.hd hc
    have ln : n < s.heap.objs.size := by obtain ⟨_, e, _⟩ := s1; exact Heap.lt_size e
    have lz : n + 4 < s.heap.objs.size := Heap.lt_size gz
    refine wpAny_pyNext_zipD2_item (sepM la lb) (Draws.tuple (A := X.A.in1) hd n a (Nat.ne_of_lt la) is1.toArray) (Draws.list (A := X.A.in1) hd (n + 1) b (Nat.ne_of_lt (Nat.lt_succ_of_lt lb)) is2.toArray) gz gi gO ⟨s1, p1⟩ ⟨s2, p2.isList⟩ l1 l2 fun x1 x2 h' tk e1 e2 z' O' t1 t2 hT hsz hk => ?_
    have y1 : x1 = v1 := by
      have y : is1.toArray[i]? = some v1 := by simpa using g1
      rw [y] at e1; exact (Option.some.inj e1).symm
    have y2 : x2 = v2 := by
      have y : is2.toArray[i]? = some v2 := by simpa using g2
      rw [y] at e2; exact (Option.some.inj e2).symm
    subst y1 y2
    refine ⟨_, rfl, wpAny_letOwnedTupleGo_zip (s := { s with heap := h', toks := tk }) z' fun h2 z2 sb => ?_⟩
    have kk2 : ∀ c o, c ∉ zCells n → s.heap.get? c = some o → h2.get? c = some o := fun c o hc q => by
      have b1 : c ≠ n + 4 := fun z => hc (by simp [zCells, z])
      have b2 : c ≠ n + 3 := fun z => hc (by simp [zCells, z])
      have b3 : c ≠ n := fun z => hc (by simp [zCells, z])
      have b4 : c ≠ n + 1 := fun z => hc (by simp [zCells, z])
      exact (sb.2 c b1).trans (hk c o b1 b2 b3 b4 q)
    have gT : h2.get? s.heap.objs.size = some { cls := .type "tuple", data := .seq #[x1, x2] } := (sb.2 _ (Nat.ne_of_gt lz)).trans hT
    have new : ObjOk X.prog X.w (upd H s.heap.objs.size (.tup [v, u])) h2 s.heap.objs.size (.tup [v, u]) := by
      refine ⟨?_, [x1, x2], .cons rv1 (.cons rv2 .nil), _, gT, rfl, _, rfl⟩
      show 2 ≤ sizeLine
      decide
    have I2 := I.turnedNew (t' := tk) kk2 hf (Nat.le_refl _) new
    have ne : ∀ k : Nat, k ≠ 4 → n + k ≠ n + 4 := fun k hk z => hk (Nat.add_left_cancel z)
    refine ⟨.ref s.heap.objs.size, _, I2, rfl, ⟨_, v, u, rfl, I.hok.fresh (Nat.le_refl _), rfl, fun l hl => by rw [I.tuple_inj hl hq1]; exact hv, fun l hl => by rw [I.list_inj hl hq2]; exact hu⟩, ⟨z2, ?_, ⟨x1, x2, ?_⟩, ?_, ?_⟩, fun c hcm => ?_⟩
    · exact (sb.2 _ (ne 2 (by decide))).trans (hk _ _ (ne 2 (by decide)) (fun z => absurd (Nat.add_left_cancel z) (by decide)) (fun z => absurd (Nat.add_left_cancel (k := 0) (n := n) z) (by decide)) (fun z => absurd (Nat.add_left_cancel z) (by decide)) gi)
    · exact (sb.2 _ (ne 3 (by decide))).trans O'
    · exact t1.1.at fun o q => (sb.2 _ (ne 0 (by decide))).trans q
    · exact t2.1.at fun o q => (sb.2 _ (ne 1 (by decide))).trans q
    · have lc : c < s.heap.objs.size := by
        rcases zCells_in hcm with q | q | q | q | q <;> subst q
        · exact lz
        · exact Heap.lt_size gi
        · exact Heap.lt_size gO
        · exact ln
        · obtain ⟨_, e, _⟩ := s2; exact Heap.lt_size e
      rw [upd_ne (Nat.ne_of_lt lc)]
      exact (hf c hcm).1
  done := by
    intro X hP hw hK hc i pins s σ H E I hf st hg
    subst hP hw hK
    obtain ⟨gz, gi, ⟨x0, y0, gO⟩, s1, s2⟩ := st
    obtain ⟨vs, ws, hq1, hq2, he⟩ := hg
    obtain ⟨is1, r1, p1, _⟩ := I.tuple hq1
    obtain ⟨is2, r2, p2, _⟩ := I.list hq2
    have e1 := r1.length
    have e2 := r2.length
    have hd := I.ok.hd hc
    have fin : ∀ h' (tk : Nat), (∀ c o, c ≠ n + 4 → c ≠ n + 3 → c ≠ n → c ≠ n + 1 → s.heap.get? c = some o → h'.get? c = some o) → Inv X pins σ H { s with heap := h', toks := tk } := fun h' tk hk =>
      I.turnedL (ch := zCells n) (fun c o hb q => hk c o (fun z => hb (by simp [zCells, z])) (fun z => hb (by simp [zCells, z])) (fun z => hb (by simp [zCells, z])) (fun z => hb (by simp [zCells, z])) q) hf
    have no1 : vs.length ≤ i → is1.toArray[i]? = none := fun h => by simp only [List.getElem?_toArray]; exact List.getElem?_eq_none (by omega)
    have no2 : ws.length ≤ i → is2.toArray[i]? = none := fun h => by simp only [List.getElem?_toArray]; exact List.getElem?_eq_none (by omega)
    have na : a ≠ n := Nat.ne_of_lt la
    have nb : b ≠ n + 1 := Nat.ne_of_lt (Nat.lt_succ_of_lt lb)
    by_cases c1 : vs.length ≤ i
    · have D1 := draws_end (P := X.prog) (w := X.w) (A := X.A.in1) hd n a is1.toArray i (no1 c1)
      by_cases c2 : ws.length ≤ i
      · exact wpAny_pyNext_zipD2_end (sepM la lb) D1 (draws_endL (A := X.A.in1) hd (n + 1) b is2.toArray i (no2 c2)) gz gi gO ⟨rfl, s1, p1⟩ ⟨rfl, s2, p2.isList⟩ (Nat.le_refl _) (Nat.le_refl _) (.inl rfl) fun h' tk hk => ⟨rfl, fin h' tk hk⟩
      · exact wpAny_pyNext_zipD2_end (sepM la lb) D1 (Draws.list (A := X.A.in1) hd (n + 1) b nb is2.toArray) gz gi gO ⟨rfl, s1, p1⟩ ⟨s2, p2.isList⟩ (Nat.le_refl _) (by simp; omega) (.inl rfl) fun h' tk hk => ⟨rfl, fin h' tk hk⟩
    · have c2 : ws.length ≤ i := he.elim (fun z => absurd z c1) id
      exact wpAny_pyNext_zipD2_end (sepM la lb) (Draws.tuple (A := X.A.in1) hd n a na is1.toArray) (draws_endL (A := X.A.in1) hd (n + 1) b is2.toArray i (no2 c2)) gz gi gO ⟨s1, p1⟩ ⟨rfl, s2, p2.isList⟩ (by simp; omega) (Nat.le_refl _) (.inr rfl) fun h' tk hk => ⟨rfl, fin h' tk hk⟩
  self := fun A i s Q E st q => wpAny_pyIter_zip st.z q
def iZipM (K : PySem.W.Frag) (ta : TA) : TI := fun σ H R => ta σ H fun vs H1 => ∃ a b xs ys, vs = [.ref a, .ref b] ∧ SqT K H1 a xs ∧ SqL K H1 b ys ∧ R (ItM K a b) H1
theorem pi_zipM {e e2 : Expr} {ta : TA} {p pos tpos : Pos} {elts : List Expr} {kk : Nat} (hg : Gl X "zip") (hm : X.mg "zip" = none) (ha : PA X [e, e2] ta)
    (hs : starEach [e, e2] X.env = (false, eval e X.env) :: starEach [e2] X.env := by rfl) (hpl : (backTo pos (starEach [e2] X.env)).any (·.1) = false := by rfl) : PI X (.Tuple elts kk tpos) (.Call (.Name "zip" p) [e, e2] [] pos) (iZipM X.K ta) := by
  constructor
  intro pins s σ H R I h
  refine Call_ (ld_blt I hg hm PyProof.Rows.boot_zip (PyProof.Rows.callWith_type1 (wpAny_mono (ha.run pos pins s σ H _ I h) (fun us s1 g => ?_) (fun _ _ x => x)) hs hpl))
  obtain ⟨vs, H1, I1, r1, a, b, xs, ys, ex, hx, hy, q⟩ := g
  subst ex
  have e1 : us = [Value.ref a, Value.ref b] := by
    cases r1 with
    | cons q1 t => cases t with | cons q2 t => cases t; cases q1; cases q2; rfl
  subst e1
  obtain ⟨is1, rv1, p1, _⟩ := I1.tuple hx
  obtain ⟨is2, rv2, p2, _⟩ := I1.list hy
  have la : a < s1.heap.objs.size := by obtain ⟨_, e, _⟩ := id p1; exact Heap.lt_size e
  refine call_zipM p1 p2.isList fun h' st hk => wpAny_pyIter_zip st.z ⟨_, zCells s1.heap.objs.size, _, _, H1, rfl, I1.kept (t' := s1.toks) hk, turn_zipM la p2.lt, st, fun c hc => ?_, q⟩
  have lc : s1.heap.objs.size ≤ c := by
    rcases zCells_in hc with q | q | q | q | q <;> subst q <;> first | exact Nat.le_refl _ | exact Nat.le_add_right _ _
  exact I1.fpOk lc (I1.hok.fresh lc)
def iZipAA (K : PySem.W.Frag) (ta : TA) : TI := orI (RZ.iZipA K ta) (iZipM K ta)
theorem pi_zipAA {e e2 : Expr} {ta : TA} {p pos tpos : Pos} {elts : List Expr} {kk : Nat} (hg : Gl X "zip") (hm : X.mg "zip" = none) (ha : PA X [e, e2] ta)
    (hs : starEach [e, e2] X.env = (false, eval e X.env) :: starEach [e2] X.env := by rfl) (hpl : (backTo pos (starEach [e2] X.env)).any (·.1) = false := by rfl) : PI X (.Tuple elts kk tpos) (.Call (.Name "zip" p) [e, e2] [] pos) (iZipAA X.K ta) := pi_or (RZ.pi_zipA hg hm ha hs hpl) (pi_zipM hg hm ha hs hpl)
end
end AL

/-! Dicts whose keys are tuples of ints, the keys' tuples known as objects. -/
namespace AL
open PySem PySem.Spec PyProof.Rows L2
abbrev TK := List (List Int × Addr × V)
def valT (kva : TK) (k : List Int) : Option V := (kva.find? fun x => decide (x.1 = k)).map (·.2.2)
def putT1 (kva : TK) (k : List Int) (b : Addr) (v : V) : TK :=
  if (kva.any fun x => decide (x.1 = k)) = true then kva.map (fun x => if x.1 = k then (x.1, x.2.1, v) else x) else kva ++ [(k, b, v)]
abbrev KTo : List Int × Addr × V → List Int × Addr × Value → Prop := fun p q => p.1 = q.1 ∧ p.2.1 = q.2.1 ∧ RelV p.2.2 q.2.2
abbrev KTs (kva : TK) (xs : List (List Int × Addr × Value)) : Prop := Paired KTo kva xs
def DE (a : Addr) (kva : TK) : Heap → Prop := fun h => kva.length ≤ sizeLine ∧ (a == sysModules) = false ∧ ∃ xs, KTs kva xs ∧ ∃ o es ep, h.get? a = some o ∧ o.ExactDict ∧ o.data = .dict es ep ∧
  (∀ (P : Program) (w : World), es.toList = xs.map (entryOfKey (tupleKind (intKind P w)))) ∧ (xs.map (·.1)).Nodup
def dE (a : Addr) (kva : TK) : HO := .ext (DE a kva)
theorem KTs.val {kva : TK} {xs : List (List Int × Addr × Value)} (r : KTs kva xs) (k : List Int) : RelO (valT kva k) ((atKey xs k).map (·.2)) := by
  induction r with
  | nil => exact True.intro
  | @cons p q ps qs h t ih =>
    obtain ⟨h1, _, h2⟩ := h
    by_cases e : p.1 = k
    · have e' : q.1 = k := h1.symm.trans e
      have b : atKey (q :: qs) k = some q.2 := by simp [atKey, List.find?_cons, e']
      have b2 : valT (p :: ps) k = some p.2.2 := by simp [valT, List.find?_cons, e]
      rw [b, b2]; exact h2
    · have e' : ¬ q.1 = k := fun z => e (h1.trans z)
      have b : atKey (q :: qs) k = atKey qs k := by simp [atKey, List.find?_cons, e']
      have b2 : valT (p :: ps) k = valT ps k := by simp [valT, List.find?_cons, e]
      rw [b, b2]; exact ih
theorem any_find (k : List Int) : ∀ kva : TK, (kva.any fun x => decide (x.1 = k)) = (kva.find? fun x => decide (x.1 = k)).isSome
  | [] => rfl
  | x :: r => by
    rw [List.any_cons, List.find?_cons]
    cases decide (x.1 = k) with
    | true => rfl
    | false => simpa using any_find k r
theorem KTs.any {kva : TK} {xs : List (List Int × Addr × Value)} (r : KTs kva xs) (k : List Int) : (kva.any fun x => decide (x.1 = k)) = (atKey xs k).isSome := by
  have h := (r.val k).isSome_eq
  rw [Option.isSome_map] at h
  rw [← h]
  unfold valT
  rw [Option.isSome_map]
  exact any_find k kva
theorem KTs.put {kva : TK} {xs : List (List Int × Addr × Value)} (r : KTs kva xs) (k : List Int) {b : Addr} {y : V} {u : Value} (ry : RelV y u) : KTs (putT1 kva k b y) (storedH xs k b u) := by
  unfold putT1 storedH
  rw [r.any k]
  by_cases q : (atKey xs k).isSome = true
  · rw [if_pos q, if_pos q]
    clear q
    induction r with
    | nil => exact .nil
    | @cons p q ps qs h t ih =>
      rw [List.map_cons, List.map_cons]
      refine .cons ?_ ih
      obtain ⟨h1, h2, h3⟩ := h
      unfold putAt
      by_cases e : p.1 = k
      · rw [if_pos e, if_pos (h1.symm.trans e)]; exact ⟨by first | exact h1 | exact e, h2, ry⟩
      · rw [if_neg e, if_neg (fun z => e (h1.trans z))]; exact ⟨h1, h2, h3⟩
  · rw [if_neg q, if_neg q]; exact Paired.snoc r ⟨rfl, rfl, ry⟩
theorem putT1_len (kva : TK) (k : List Int) (b : Addr) (v : V) : (putT1 kva k b v).length ≤ kva.length + 1 := by
  unfold putT1
  split
  · rw [List.length_map]; omega
  · rw [List.length_append]; simp
section
variable {X : Cx} {pins : List (Addr × Obj)} {σ : L2.St} {H : Hp} {s : Shared} {a : Addr} {y v : V} {u r : Value} {o : Option V} {A : Around} {E : Value → Shared → Prop}
theorem de_ok {P : Program} {w : World} {h : Heap} {kva : TK} (x : DE a kva h) : ObjOk P w H h a (dE a kva) :=
  ⟨x, let ⟨_, _, _, _, o, _, _, g, _⟩ := x; ⟨o, g⟩, fun h1 h2 y k => let ⟨z, d, xs, r, o, es, ep, g, c⟩ := y; ⟨z, d, xs, r, o, es, ep, k o g, c⟩⟩
theorem items_int {P : Program} {w : World} : ∀ {ks : List Int} {us : List Value}, Vals (ks.map V.int) us → ItemsAre (intKind P w) ks us
  | [], _, r => by rw [List.map_nil] at r; cases r; exact .nil
  | k :: ks, _, r => by
    rw [List.map_cons] at r
    cases r with
    | cons h t =>
      obtain ⟨t', e⟩ := (show ∃ t, _ = Value.int k t from h)
      subst e
      exact .cons (by simp [intKind, Value.isInt]) (items_int t)
theorem keyT_of (I : Inv X pins σ H s) {b : Addr} {k : List Int} (h : PTup X.K H b (k.map .int)) : (tupleKind (intKind X.prog X.w)).is s.heap k b := by
  obtain ⟨its, n, sl, g, r⟩ := ptup_at I h
  exact ⟨_, its.toArray, n, g, rfl, rfl, by simpa using items_int r⟩
theorem de_of (I : Inv X pins σ H s) {kva : TK} (e : H a = some (dE a kva)) (hk : ∀ x ∈ kva, PTup X.K H x.2.1 (x.1.map .int)) : kva.length ≤ sizeLine ∧ (a == sysModules) = false ∧
    ∃ xs, KTs kva xs ∧ s.heap.DictOfH (tupleKind (intKind X.prog X.w)) a xs := by
  obtain ⟨⟨z, d, xs, r, o, es, ep, h1, h2, h3, h4, h5⟩, _⟩ := (show ObjOk X.prog X.w H s.heap a (dE a kva) from I.hok a _ e)
  refine ⟨z, d, xs, r, o, es, ep, h1, h2, h3, h4 _ _, ?_, h5⟩
  have all : ∀ {l : TK} {m : List (List Int × Addr × Value)}, KTs l m → (∀ x ∈ l, PTup X.K H x.2.1 (x.1.map .int)) → ∀ x ∈ m, (tupleKind (intKind X.prog X.w)).is s.heap x.1 x.2.1 := by
    intro l m q
    induction q with
    | nil => intro _ x hx; exact nomatch hx
    | @cons p q ps qs hq t ih =>
      intro hl x hx
      rcases List.mem_cons.mp hx with e | hx
      · subst e
        rw [← hq.1, ← hq.2.1]
        exact keyT_of I (hl p (List.mem_cons_self ..))
      · exact ih (fun y hy => hl y (List.mem_cons_of_mem _ hy)) x hx
  exact all r hk
/-- what the dict at a holds at the key y -/
def DGetT (K : PySem.W.Frag) (H : Hp) (a : Addr) (y : V) (r : Option V) : Prop := ∃ (kva : TK) (k : List Int) (b : Addr), H a = some (dE a kva) ∧ (∀ x ∈ kva, PTup K H x.2.1 (x.1.map .int)) ∧ y = .ref b ∧ PTup K H b (k.map .int) ∧ r = valT kva k
def DPutT (K : PySem.W.Frag) (H : Hp) (a : Addr) (y v : V) (H' : Hp) : Prop := ∃ (kva : TK) (k : List Int) (b : Addr), H a = some (dE a kva) ∧ (∀ x ∈ kva, PTup K H x.2.1 (x.1.map .int)) ∧ y = .ref b ∧ PTup K H b (k.map .int) ∧ kva.length < sizeLine ∧ H' = upd H a (dE a (putT1 kva k b v))
theorem d_getT {Q : Value → Shared → Prop} (hu : A.units + 1 < cLine) (I : Inv X pins σ H s) (g : DGetT X.K H a y (some v)) (ry : RelV y u) (h : ∀ w' s', Inv X pins σ H s' → RelV v w' → Q w' s') : wpAny (model X.prog X.w) A (getItem (.ref a) u) Q E s := by
  obtain ⟨kva, k, b, e, hk, ey, eb, l⟩ := g
  subst ey
  cases (show u = Value.ref b from ry)
  obtain ⟨z, hd, xs, rel, dd⟩ := de_of I e hk
  obtain ⟨w', hw, rw'⟩ := RelO.some_of (v := v) (o := (atKey xs k).map (·.2)) (by rw [l]; exact rel.val k)
  obtain ⟨p, hp, hp2⟩ := Option.map_eq_some_iff.mp hw
  refine wpAny_getItem_heap (tupleKind_room_in1 hu) (keyT_of I eb) dd hp ?_
  rw [hp2]
  exact h w' _ (I.tok _) rw'
theorem d_inT {Q : Value → Shared → Prop} (hu : A.units + 1 < cLine) (I : Inv X pins σ H s) (g : DGetT X.K H a y o) (ry : RelV y u) (h : ∀ s', Inv X pins σ H s' → Q (.bool o.isSome) s') : wpAny (model X.prog X.w) A (compareOp .In u (.ref a)) Q E s := by
  obtain ⟨kva, k, b, e, hk, ey, eb, l⟩ := g
  subst ey
  cases (show u = Value.ref b from ry)
  obtain ⟨z, hd, xs, rel, dd⟩ := de_of I e hk
  refine wpAny_in_heap (tupleKind_room_in1 hu) (keyT_of I eb) hd dd ?_
  have q := (rel.val k).isSome_eq
  rw [Option.isSome_map] at q
  rw [← q, ← l]
  exact h _ (I.tok _)
theorem d_notInT {Q : Value → Shared → Prop} (hu : A.units + 1 < cLine) (I : Inv X pins σ H s) (g : DGetT X.K H a y o) (ry : RelV y u) (h : ∀ s', Inv X pins σ H s' → Q (.bool (!o.isSome)) s') : wpAny (model X.prog X.w) A (compareOp .NotIn u (.ref a)) Q E s := by
  obtain ⟨kva, k, b, e, hk, ey, eb, l⟩ := g
  subst ey
  cases (show u = Value.ref b from ry)
  obtain ⟨z, hd, xs, rel, dd⟩ := de_of I e hk
  refine wpAny_notIn_heap (tupleKind_room_in1 hu) (keyT_of I eb) hd dd ?_
  have q := (rel.val k).isSome_eq
  rw [Option.isSome_map] at q
  rw [← q, ← l]
  exact h _ (I.tok _)
theorem d_setT {H' : Hp} {Q : Unit → Shared → Prop} (hu : A.units + 1 < cLine) (I : Inv X pins σ H s) (g : DPutT X.K H a y v H') (ry : RelV y u) (rv : RelV v r) (h : ∀ s', Inv X pins σ H' s' → Q () s') : wpAny (model X.prog X.w) A (setItem (.ref a) u r) Q E s := by
  obtain ⟨kva, k, b, e, hk, ey, eb, l, eH⟩ := g
  subst ey eH
  cases (show u = Value.ref b from ry)
  obtain ⟨z, hd, xs, rel, dd⟩ := de_of I e hk
  have hz : xs.length ≤ sizeLine := by rw [← Paired.length rel]; exact z
  have hl : (putT1 kva k b v).length ≤ sizeLine := by have := putT1_len kva k b v; omega
  refine wpAny_setItem_heap (hsz := hz) (tupleKind_room_in1 hu) (keyT_of I eb) dd fun h' dd' hs => h _ ?_
  obtain ⟨q, es, ep, hq, h2, h3, h4, _, h5⟩ := dd'
  exact d_write I (by rw [e]; exact True.intro) hs ⟨q, hq⟩ (de_ok ⟨hl, hd, _, rel.put k rv, q, es, ep, hq, h2, h3, fun _ _ => h4, h5⟩)
theorem dT_typeIs (I : Inv X pins σ H s) (g : DGetT X.K H a y o) : s.TypeIs (.ref a) "dict" := by
  obtain ⟨kva, k, b, e, hk, _⟩ := g
  obtain ⟨_, _, xs, _, dd⟩ := de_of I e hk
  exact dd.typeIs
end
/-- d[y], y in d, y not in d, d[y] = v, {} -/
def tTGet (K : PySem.W.Frag) (td ty : TE) : TE := fun σ H Q => td σ H fun x H1 => ty σ H1 fun y H2 => ∃ a v, x = .ref a ∧ DGetT K H2 a y (some v) ∧ Q v H2
def tTIn (K : PySem.W.Frag) (ty td : TE) : TE := fun σ H Q => ty σ H fun y H1 => td σ H1 fun x H2 => ∃ a o, x = .ref a ∧ DGetT K H2 a y o ∧ Q (.bl o.isSome) H2
def tTNotIn (K : PySem.W.Frag) (ty td : TE) : TE := fun σ H Q => ty σ H fun y H1 => td σ H1 fun x H2 => ∃ a o, x = .ref a ∧ DGetT K H2 a y o ∧ Q (.bl (!o.isSome)) H2
def sTPut (K : PySem.W.Frag) (td ty tv : TE) : TS := fun D σ H => tv σ H fun v H1 => td σ H1 fun x H2 => ty σ H2 fun y H3 => ∃ a H4, x = .ref a ∧ DPutT K H3 a y v H4 ∧ D.nx σ H4
def tTNew : TE := fun _ H Q => ∀ p, H p = none → Q (.ref p) (upd H p (dE p []))
section
variable {X : Cx} {K : PySem.W.Frag} {o i e value : Expr} {pos pos' tpos : Pos} {td ty tv : TE}
theorem pe_tget (hK : X.K = K) (hu : X.A.units + 1 < cLine) (ho : PE X o td) (hi : PE X i ty) (hs : NoSl i) : PE X (.Subscript o i pos) (tTGet K td ty) := by
  subst hK
  refine ⟨fun pins s σ H Q I h => ?_⟩
  refine subD_of PySem.F.slot_dict_getitem.lookup hs (thn (ho.run pins s σ H _ I h) fun u s1 ⟨x, H1, I1, rx, q1⟩ => thn (hi.run pins s1 σ H1 _ I1 q1) fun iv s2 ⟨y, H2, I2, ry, a, v, ex, g, q2⟩ => ?_)
  subst ex
  obtain rfl : u = Value.ref a := rx
  exact ⟨dT_typeIs I2 g, d_getT hu I2 g ry fun w' s3 I3 rw' => ⟨v, H2, I3, rw', q2⟩⟩
theorem pc_tin (hK : X.K = K) (hu : X.A.units + 1 < cLine) (hi : PE X i ty) (ho : PE X o td) : PC X .In i o (tTIn K ty td) := by
  subst hK
  refine ⟨fun pins s σ H Q I h => ?_⟩
  refine thn (hi.run pins s σ H _ I h) fun iv s1 ⟨y, H1, I1, ry, q1⟩ => thn (ho.run pins s1 σ H1 _ I1 q1) fun u s2 ⟨x, H2, I2, rx, a, ov, ex, g, q2⟩ => ?_
  subst ex
  obtain rfl : u = Value.ref a := rx
  exact d_inT hu I2 g ry fun s3 I3 => ⟨.bl ov.isSome, H2, I3, rfl, q2⟩
theorem pc_tnotin (hK : X.K = K) (hu : X.A.units + 1 < cLine) (hi : PE X i ty) (ho : PE X o td) : PC X .NotIn i o (tTNotIn K ty td) := by
  subst hK
  refine ⟨fun pins s σ H Q I h => ?_⟩
  refine thn (hi.run pins s σ H _ I h) fun iv s1 ⟨y, H1, I1, ry, q1⟩ => thn (ho.run pins s1 σ H1 _ I1 q1) fun u s2 ⟨x, H2, I2, rx, a, ov, ex, g, q2⟩ => ?_
  subst ex
  obtain rfl : u = Value.ref a := rx
  exact d_notInT hu I2 g ry fun s3 I3 => ⟨.bl (!ov.isSome), H2, I3, rfl, q2⟩
theorem ps_tput (hK : X.K = K) (hu : X.A.units + 1 < cLine) (ho : PE X o td) (hi : PE X i ty) (hv : PE X value tv) (hs : swapsWith value (some (.Subscript o i pos')) pos.line X.env = pure false) :
    PS X (.Assign [.Subscript o i pos'] value pos) (sTPut K td ty tv) := by
  subst hK
  refine ⟨fun pins s σ H D I h => ?_⟩
  refine wpAny_Assign_Subscript (thn (hv.run pins s σ H _ I h) fun r s1 ⟨v, H1, I1, rv, q1⟩ => thn (ho.run pins s1 σ H1 _ I1 q1) fun u s2 ⟨x, H2, I2, rx, q2⟩ => thn (hi.run pins s2 σ H2 _ I2 q2) fun iv s3 ⟨y, H3, I3, ry, a, H4, ex, g, q3⟩ => ?_) hs
  subst ex
  obtain rfl : u = Value.ref a := rx
  exact d_setT hu I3 g ry rv fun s4 I4 => ⟨σ, H4, I4, q3⟩
theorem de_empty (h : Heap) (hb : sysModules < h.objs.size) : DE h.objs.size [] (h.push { cls := .type "dict", data := .dict #[] }) :=
  ⟨Nat.zero_le _, beq_eq_false_iff_ne.mpr (Ne.symm (Nat.ne_of_lt hb)), [], .nil, _, #[], 0, Heap.get?_push_size _ rfl, ⟨rfl, rfl, rfl⟩, rfl, fun _ _ => rfl, List.nodup_nil⟩
theorem pe_tnew : PE X (.Dict [] [] pos) tTNew := ⟨fun pins s σ H Q I h =>
  wpAny_Dict_empty ⟨.ref s.heap.objs.size, _, I.laid (a := s.heap.objs.size) (o := dE s.heap.objs.size []) (t' := s.toks) (fun _ _ q => Heap.get?_push_of_some _ q) (Nat.le_refl _) (de_ok (de_empty s.heap I.big)), rfl, h _ (I.hok.fresh (Nat.le_refl _))⟩⟩
end
end AL

/-! An abstract layer over the hand layer: values as data, cells by number, frames apart. -/
namespace AL
open PySem L2
abbrev Ex := Evl.Ex
inductive D where
  | non | bl (b : Bool) | int (i : Int) | str (x : Str)
  | lst (ds : List D) | tup (ds : List D) | scr (ds : List D) | sct (ds : List D)
  | ptr (n : Nat)
  | obj (C : Addr) (fs : List (Str × D))
  | cls (a : Addr) | ty (n : String)
inductive Cell where
  | lst (ds : List D)
  | ins (C : Addr) (fs : List (Str × D))
  | dK (kvs : List (Key × D)) | dT (kvs : List (List Int × D))
  | gone
inductive SV where
  | val (d : D) | own (c : Cell)
inductive RV where
  | val (d : D) | slot (i : Nat)
structure AS where
  s : List (Option SV)
  o : List Cell
def AS.setS (A : AS) (i : Nat) (v : SV) : AS := ⟨A.s.set i (some v), A.o⟩

mutual
inductive Rep (K : PySem.W.Frag) (F : Hp) (m : List Addr) : V → D → Prop where
  | non : Rep K F m .non .non
  | bl (b : Bool) : Rep K F m (.bl b) (.bl b)
  | int (i : Int) : Rep K F m (.int i) (.int i)
  | str (x : Str) : Rep K F m (.str x) (.str x)
  | lst {a : Addr} {vs : List V} {ds : List D} : F a = some (.lst vs) → Reps K F m vs ds → Rep K F m (.ref a) (.lst ds)
  | scr {a : Addr} {vs : List V} {ds : List D} : SqL K F a vs → Reps K F m vs ds → Rep K F m (.ref a) (.scr ds)
  | sct {a : Addr} {vs : List V} {ds : List D} : SqT K F a vs → Reps K F m vs ds → Rep K F m (.ref a) (.sct ds)
  | tup {a : Addr} {vs : List V} {ds : List D} : PTup K F a vs → Reps K F m vs ds → Rep K F m (.ref a) (.tup ds)
  | ptr {n : Nat} {a : Addr} : m[n]? = some a → Rep K F m (.ref a) (.ptr n)
  | obj {a C dx : Addr} {fvs : List (Str × V)} {fs : List (Str × D)} : F a = some (.ins C dx fvs) → RepF K F m fvs fs → Rep K F m (.ref a) (.obj C fs)
  | cls (a : Addr) : Rep K F m (.ref a) (.cls a)
  | ty (n : String) : Rep K F m (.ty n) (.ty n)
inductive Reps (K : PySem.W.Frag) (F : Hp) (m : List Addr) : List V → List D → Prop where
  | nil : Reps K F m [] []
  | cons {v : V} {d : D} {vs : List V} {ds : List D} : Rep K F m v d → Reps K F m vs ds → Reps K F m (v :: vs) (d :: ds)
inductive RepF (K : PySem.W.Frag) (F : Hp) (m : List Addr) : List (Str × V) → List (Str × D) → Prop where
  | nil : RepF K F m [] []
  | cons {f : Str} {v : V} {d : D} {vs : List (Str × V)} {ds : List (Str × D)} : Rep K F m v d → RepF K F m vs ds → RepF K F m ((f, v) :: vs) ((f, d) :: ds)
end
inductive RepK {κ : Type} (K : PySem.W.Frag) (F : Hp) (m : List Addr) : List (κ × V) → List (κ × D) → Prop where
  | nil : RepK K F m [] []
  | cons {k : κ} {v : V} {d : D} {vs : List (κ × V)} {ds : List (κ × D)} : Rep K F m v d → RepK K F m vs ds → RepK K F m ((k, v) :: vs) ((k, d) :: ds)
/-- the entries of a dict whose keys are tuples of ints -/
inductive RepT (K : PySem.W.Frag) (F : Hp) (m : List Addr) : TK → List (List Int × D) → Prop where
  | nil : RepT K F m [] []
  | cons {k : List Int} {b : Addr} {v : V} {d : D} {vs : TK} {ds : List (List Int × D)} : PTup K F b (k.map .int) → Rep K F m v d → RepT K F m vs ds → RepT K F m ((k, b, v) :: vs) ((k, d) :: ds)

/-- the map of the cells grows at its end -/
def Pre (m m' : List Addr) : Prop := ∀ (n : Nat) a, m[n]? = some a → m'[n]? = some a
theorem Pre.refl (m : List Addr) : Pre m m := fun _ _ h => h
theorem Pre.trans {m m1 m2 : List Addr} (a : Pre m m1) (b : Pre m1 m2) : Pre m m2 := fun n x h => b n x (a n x h)
theorem Pre.app {m : List Addr} {p : Addr} : Pre m (m ++ [p]) := fun n a h => by
  rw [List.getElem?_append_left (List.getElem?_eq_some_iff.mp h).1]; exact h

section
variable {K : PySem.W.Frag} {F F' : Hp} {m m' : List Addr}
mutual
theorem Rep.mono (e : Ex F F') (p : Pre m m') : ∀ {v : V} {d : D}, Rep K F m v d → Rep K F' m' v d
  | _, _, .non => .non
  | _, _, .bl b => .bl b
  | _, _, .int i => .int i
  | _, _, .str x => .str x
  | _, _, .lst h r => .lst (e _ _ h) (Reps.mono e p r)
  | _, _, .scr h r => .scr (Evl.ex_l e h) (Reps.mono e p r)
  | _, _, .sct h r => .sct (Evl.ex_t e h) (Reps.mono e p r)
  | _, _, .tup h r => .tup (h.mono e) (Reps.mono e p r)
  | _, _, .ptr h => .ptr (p _ _ h)
  | _, _, .obj h r => .obj (e _ _ h) (RepF.mono e p r)
  | _, _, .cls a => .cls a
  | _, _, .ty n => .ty n
theorem Reps.mono (e : Ex F F') (p : Pre m m') : ∀ {v : List V} {d : List D}, Reps K F m v d → Reps K F' m' v d
  | _, _, .nil => .nil
  | _, _, .cons a r => .cons (Rep.mono e p a) (Reps.mono e p r)
theorem RepF.mono (e : Ex F F') (p : Pre m m') : ∀ {v : List (Str × V)} {d : List (Str × D)}, RepF K F m v d → RepF K F' m' v d
  | _, _, .nil => .nil
  | _, _, .cons a r => .cons (Rep.mono e p a) (RepF.mono e p r)
end
theorem RepK.mono {κ : Type} (e : Ex F F') (p : Pre m m') : ∀ {v : List (κ × V)} {d : List (κ × D)}, RepK K F m v d → RepK K F' m' v d
  | _, _, .nil => .nil
  | _, _, .cons a r => .cons (Rep.mono e p a) (RepK.mono e p r)
theorem RepT.mono (e : Ex F F') (p : Pre m m') : ∀ {v : TK} {d : List (List Int × D)}, RepT K F m v d → RepT K F' m' v d
  | _, _, .nil => .nil
  | _, _, .cons b a r => .cons (b.mono e) (Rep.mono e p a) (RepT.mono e p r)
theorem Reps.len : ∀ {vs : List V} {ds : List D}, Reps K F m vs ds → vs.length = ds.length
  | _, _, .nil => rfl
  | _, _, .cons _ r => by rw [List.length_cons, List.length_cons, Reps.len r]
theorem Reps.get : ∀ {vs : List V} {ds : List D} {i : Nat} {d : D}, Reps K F m vs ds → ds[i]? = some d → ∃ v, vs[i]? = some v ∧ Rep K F m v d
  | _, _, _, _, .nil, h => by simp at h
  | _, _, 0, _, .cons a _, h => by
    rw [List.getElem?_cons_zero] at h ⊢; cases h; exact ⟨_, rfl, a⟩
  | _, _, i + 1, _, .cons _ r, h => by
    rw [List.getElem?_cons_succ] at h ⊢; exact Reps.get r h
theorem Reps.app : ∀ {vs ws : List V} {ds es : List D}, Reps K F m vs ds → Reps K F m ws es → Reps K F m (vs ++ ws) (ds ++ es)
  | _, _, _, _, .nil, h => h
  | _, _, _, _, .cons a r, h => .cons a (Reps.app r h)
theorem Reps.take : ∀ {vs : List V} {ds : List D} (n : Nat), Reps K F m vs ds → Reps K F m (vs.take n) (ds.take n)
  | _, _, 0, _ => .nil
  | _, _, _ + 1, .nil => .nil
  | _, _, n + 1, .cons a r => .cons a (Reps.take n r)
theorem Reps.drop : ∀ {vs : List V} {ds : List D} (n : Nat), Reps K F m vs ds → Reps K F m (vs.drop n) (ds.drop n)
  | _, _, 0, r => r
  | _, _, _ + 1, .nil => .nil
  | _, _, n + 1, .cons a r => Reps.drop n r
theorem Reps.set {v : V} {d : D} (x : Rep K F m v d) : ∀ {vs : List V} {ds : List D} (n : Nat), Reps K F m vs ds → Reps K F m (vs.set n v) (ds.set n d)
  | _, _, _, .nil => .nil
  | _, _, 0, .cons a r => .cons x r
  | _, _, n + 1, .cons a r => .cons a (Reps.set x n r)
theorem Reps.rep {v : V} {d : D} (x : Rep K F m v d) : ∀ n : Nat, Reps K F m (List.replicate n v) (List.replicate n d)
  | 0 => .nil
  | n + 1 => .cons x (Reps.rep x n)
theorem Reps.rev : ∀ {vs : List V} {ds : List D}, Reps K F m vs ds → Reps K F m vs.reverse ds.reverse
  | _, _, .nil => .nil
  | _, _, .cons a r => by
    rw [List.reverse_cons, List.reverse_cons]; exact Reps.app (Reps.rev r) (.cons a .nil)
theorem Reps.flat {vs : List V} {ds : List D} (x : Reps K F m vs ds) : ∀ n : Nat, Reps K F m (List.replicate n vs).flatten (List.replicate n ds).flatten
  | 0 => .nil
  | n + 1 => by rw [List.replicate_succ, List.replicate_succ, List.flatten_cons, List.flatten_cons]; exact Reps.app x (Reps.flat x n)
theorem Reps.ints : ∀ {vs : List V} {ns : List Int}, Reps K F m vs (ns.map D.int) → vs = ns.map V.int
  | _, [], .nil => rfl
  | _, n :: ns, .cons a r => by
    cases a; rw [List.map_cons, Reps.ints r]
theorem reps_ints : ∀ (ns : List Int), Reps K F m (ns.map V.int) (ns.map D.int)
  | [] => .nil
  | n :: ns => .cons (.int n) (reps_ints ns)
theorem RepF.look {f : Str} {d : D} : ∀ {vs : List (Str × V)} {ds : List (Str × D)}, RepF K F m vs ds → ds.lookup f = some d → ∃ v, vs.lookup f = some v ∧ Rep K F m v d
  | _, _, .nil, h => by simp [List.lookup] at h
  | _, _, .cons (f := g) a r, h => by
    rw [List.lookup_cons] at h ⊢
    cases e : f == g with
    | true => rw [e] at h; cases h; exact ⟨_, rfl, a⟩
    | false => rw [e] at h; exact RepF.look r h
theorem RepF.look0 {f : Str} : ∀ {vs : List (Str × V)} {ds : List (Str × D)}, RepF K F m vs ds → ds.lookup f = none → vs.lookup f = none
  | _, _, .nil, _ => rfl
  | _, _, .cons (f := g) a r, h => by
    rw [List.lookup_cons] at h ⊢
    cases e : f == g with
    | true => rw [e] at h; cases h
    | false => rw [e] at h; exact RepF.look0 r h
/-- a field stored, in the abstract -/
def putD (f : Str) (v : D) : List (Str × D) → List (Str × D)
  | [] => [(f, v)]
  | (g, w) :: r => if g = f then (g, v) :: r else (g, w) :: putD f v r
theorem RepF.put {f : Str} {v : V} {d : D} (x : Rep K F m v d) : ∀ {vs : List (Str × V)} {ds : List (Str × D)}, RepF K F m vs ds → RepF K F m (putF f v vs) (putD f d ds)
  | _, _, .nil => .cons x .nil
  | _, _, .cons (f := g) a r => by
    unfold putF putD
    by_cases e : g = f
    · rw [if_pos e, if_pos e]; first | exact .cons x r | (subst e; exact .cons x r)
    · rw [if_neg e, if_neg e]; exact .cons a (RepF.put x r)
theorem RepF.len : ∀ {vs : List (Str × V)} {ds : List (Str × D)}, RepF K F m vs ds → vs.length = ds.length
  | _, _, .nil => rfl
  | _, _, .cons _ r => by rw [List.length_cons, List.length_cons, RepF.len r]
end

/-- what stands at a cell's address -/
def CellAt (K : PySem.W.Frag) (F : Hp) (m : List Addr) (H : Hp) (a : Addr) : Cell → Prop
  | .lst ds => ∃ vs, H a = some (.lst vs) ∧ Reps K F m vs ds
  | .ins C fs => ∃ dx fvs, H a = some (.ins C dx fvs) ∧ RepF K F m fvs fs
  | .dK kvs => ∃ kv, H a = some (.dK kv) ∧ RepK K F m kv kvs
  | .dT kvs => ∃ kva, H a = some (dE a kva) ∧ RepT K F m kva kvs
  | .gone => True
def Cell.live : Cell → Prop
  | .gone => False
  | _ => True
theorem CellAt.mono {K : PySem.W.Frag} {F F' H H' : Hp} {m m' : List Addr} {a : Addr} {c : Cell} (e : Ex F F') (p : Pre m m') (h : H' a = H a) (x : CellAt K F m H a c) : CellAt K F' m' H' a c := by
  cases c with
  | lst ds => obtain ⟨vs, h1, h2⟩ := x; exact ⟨vs, h.trans h1, h2.mono e p⟩
  | ins C fs => obtain ⟨dx, vs, h1, h2⟩ := x; exact ⟨dx, vs, h.trans h1, h2.mono e p⟩
  | dK kvs => obtain ⟨vs, h1, h2⟩ := x; exact ⟨vs, h.trans h1, h2.mono e p⟩
  | dT kvs => obtain ⟨vs, h1, h2⟩ := x; exact ⟨vs, h.trans h1, h2.mono e p⟩
  | gone => trivial
theorem CellAt.some {K : PySem.W.Frag} {F H : Hp} {m : List Addr} {a : Addr} {c : Cell} (x : CellAt K F m H a c) (l : c.live) : ∃ o, H a = some o := by
  cases c with
  | lst ds => obtain ⟨vs, h1, h2⟩ := x; exact ⟨_, h1⟩
  | ins C fs => obtain ⟨dx, vs, h1, h2⟩ := x; exact ⟨_, h1⟩
  | dK kvs => obtain ⟨vs, h1, h2⟩ := x; exact ⟨_, h1⟩
  | dT kvs => obtain ⟨vs, h1, h2⟩ := x; exact ⟨_, h1⟩
  | gone => exact l.elim

/-- the heap: F is frozen, G is the callers', the cells stand at m -/
structure HS (K : PySem.W.Frag) (F G : Hp) (m : List Addr) (O : List Cell) (H : Hp) : Prop where
  exF : Ex F H
  exG : Ex G H
  dj : ∀ a o, F a = some o → G a = none
  len : m.length = O.length
  cell : ∀ (n : Nat) a c, m[n]? = some a → O[n]? = some c → c.live → F a = none ∧ G a = none ∧ CellAt K F m H a c
  inj : ∀ (n n' : Nat) a, m[n]? = some a → m[n']? = some a → n = n'
  here : ∀ (n : Nat) a, m[n]? = some a → ∃ o, H a = some o
  mG : ∀ (n : Nat) a, m[n]? = some a → G a = none
  gn : ∀ (n : Nat) a, m[n]? = some a → O[n]? = some .gone → ∃ C dx fv, F a = some (.ins C dx fv)
def SlotAt (K : PySem.W.Frag) (F G : Hp) (m : List Addr) (H : Hp) : Option V → Option SV → Prop
  | _, none => True
  | some v, some (.val d) => Rep K F m v d
  | some v, some (.own c) => ∃ a, v = .ref a ∧ c.live ∧ F a = none ∧ G a = none ∧ (∀ n : Nat, m[n]? ≠ some a) ∧ CellAt K F m H a c
  | none, some _ => False
structure SS (K : PySem.W.Frag) (F G : Hp) (m : List Addr) (s : List (Option SV)) (σ : St) (H : Hp) : Prop where
  len : σ.length = s.length
  at_ : ∀ (i : Nat) x y, σ[i]? = some x → s[i]? = some y → SlotAt K F G m H x y
  own : ∀ (i j : Nat) c c' v, i ≠ j → s[i]? = some (some (.own c)) → s[j]? = some (some (.own c')) → σ[i]? = some (some v) → σ[j]? = some (some v) → False
structure Sim (K : PySem.W.Frag) (F G : Hp) (m : List Addr) (A : AS) (σ : St) (H : Hp) : Prop where
  h : HS K F G m A.o H
  s : SS K F G m A.s σ H

theorem ex_none {F H : Hp} {a : Addr} (e : Ex F H) (h : H a = none) : F a = none := Evl.fresh_back e h
section
variable {K : PySem.W.Frag} {F G : Hp} {m : List Addr} {O : List Cell} {H : Hp} {A : AS} {σ : St} {s : List (Option SV)}
theorem HS.fresh (h : HS K F G m O H) {p : Addr} (hp : H p = none) : F p = none ∧ G p = none ∧ ∀ n : Nat, m[n]? ≠ some p :=
  ⟨ex_none h.exF hp, ex_none h.exG hp, fun n e => by obtain ⟨o, q⟩ := h.here n p e; rw [hp] at q; cases q⟩
theorem ex_upd {F : Hp} {p : Addr} {o : HO} (h : F p = none) : Ex F (upd F p o) := by
  intro a u e
  rw [upd_ne (ne_of_none e h)]
  exact e
theorem ex_both {F H : Hp} {p : Addr} {o : HO} (e : Ex F H) : Ex (upd F p o) (upd H p o) := fun a u h => by
  by_cases c : a = p
  · subst c; rw [upd_same] at h ⊢; exact h
  · rw [upd_ne c] at h ⊢; exact e _ _ h
theorem ex_right {F H : Hp} {p : Addr} {o : HO} (e : Ex F H) (h : F p = none) : Ex F (upd H p o) := fun a u q => by
  rw [upd_ne (ne_of_none q h)]; exact e _ _ q
theorem CellAt.ne {a p : Addr} {c : Cell} (x : CellAt K F m H a c) (l : c.live) (hp : H p = none) : a ≠ p := by
  obtain ⟨o, q⟩ := x.some l
  exact ne_of_none q hp
/-- a new frozen object -/
theorem HS.frz (h : HS K F G m O H) {p : Addr} {o : HO} (hp : H p = none) : HS K (upd F p o) G m O (upd H p o) where
  exF := ex_both h.exF
  exG := ex_right h.exG (h.fresh hp).2.1
  dj := fun a u e => by
    by_cases c : a = p
    · subst c; exact (h.fresh hp).2.1
    · rw [upd_ne c] at e; exact h.dj _ _ e
  len := h.len
  cell := fun n a c e1 e2 l => by
    obtain ⟨x1, x2, x3⟩ := h.cell n a c e1 e2 l
    have np := x3.ne l hp
    exact ⟨by rw [upd_ne np]; exact x1, x2, x3.mono (ex_upd (h.fresh hp).1) (Pre.refl _) (upd_ne np)⟩
  inj := h.inj
  here := fun n a e => by
    obtain ⟨u, q⟩ := h.here n a e
    exact ⟨u, by rw [upd_ne (ne_of_none q hp)]; exact q⟩
  mG := h.mG
  gn := fun n a e1 e2 => by
    obtain ⟨C, dx, fv, q⟩ := h.gn n a e1 e2
    exact ⟨C, dx, fv, by rw [upd_ne (ne_of_none q (h.fresh hp).1)]; exact q⟩
/-- an object that is not the cells', nor frozen, nor the callers', is new or changes -/
theorem HS.mut (h : HS K F G m O H) {p : Addr} {o : HO} (hF : F p = none) (hG : G p = none) (hm : ∀ n : Nat, m[n]? ≠ some p) : HS K F G m O (upd H p o) where
  exF := ex_right h.exF hF
  exG := ex_right h.exG hG
  dj := h.dj
  len := h.len
  cell := fun n a c e1 e2 l => by
    obtain ⟨x1, x2, x3⟩ := h.cell n a c e1 e2 l
    have np : a ≠ p := fun z => hm n (z ▸ e1)
    exact ⟨x1, x2, x3.mono (fun _ _ h => h) (Pre.refl _) (upd_ne np)⟩
  inj := h.inj
  here := fun n a e => by
    obtain ⟨u, q⟩ := h.here n a e
    by_cases c : a = p
    · subst c; exact ⟨_, upd_same⟩
    · exact ⟨u, by rw [upd_ne c]; exact q⟩
  mG := h.mG
  gn := h.gn
/-- an own object is frozen -/
theorem HS.freeze (h : HS K F G m O H) {p : Addr} {o : HO} (hH : H p = some o) (hF : F p = none) (hG : G p = none) (hm : ∀ n : Nat, m[n]? ≠ some p) : HS K (upd F p o) G m O H where
  exF := fun a u e => by
    by_cases c : a = p
    · subst c; rw [upd_same] at e; cases e; exact hH
    · rw [upd_ne c] at e; exact h.exF _ _ e
  exG := h.exG
  dj := fun a u e => by
    by_cases c : a = p
    · subst c; exact hG
    · rw [upd_ne c] at e; exact h.dj _ _ e
  len := h.len
  cell := fun n a c e1 e2 l => by
    obtain ⟨x1, x2, x3⟩ := h.cell n a c e1 e2 l
    have np : a ≠ p := fun z => hm n (z ▸ e1)
    exact ⟨by rw [upd_ne np]; exact x1, x2, x3.mono (ex_upd hF) (Pre.refl _) rfl⟩
  inj := h.inj
  here := h.here
  mG := h.mG
  gn := fun n a e1 e2 => by
    obtain ⟨C, dx, fv, q⟩ := h.gn n a e1 e2
    exact ⟨C, dx, fv, by rw [upd_ne (ne_of_none q hF)]; exact q⟩
/-- a cell changes -/
theorem HS.cset (h : HS K F G m O H) {n : Nat} {p : Addr} {o : HO} {c c' : Cell} (hm : m[n]? = some p) (hc : O[n]? = some c) (l : c.live) (l' : c'.live) (hx : CellAt K F m (upd H p o) p c') : HS K F G m (O.set n c') (upd H p o) where
  exF := ex_right h.exF (h.cell n p c hm hc l).1
  exG := ex_right h.exG (h.cell n p c hm hc l).2.1
  dj := h.dj
  len := by rw [List.length_set]; exact h.len
  cell := fun i a d e1 e2 l' => by
    by_cases z : i = n
    · subst z
      rw [hm] at e1; cases e1
      have hlt : i < O.length := (List.getElem?_eq_some_iff.mp hc).1
      rw [List.getElem?_set_self hlt] at e2; cases e2
      exact ⟨(h.cell i p c hm hc l).1, (h.cell i p c hm hc l).2.1, hx⟩
    · rw [List.getElem?_set_ne (Ne.symm z)] at e2
      obtain ⟨x1, x2, x3⟩ := h.cell i a d e1 e2 l'
      have np : a ≠ p := fun y => z (h.inj i n p (y ▸ e1) hm)
      exact ⟨x1, x2, x3.mono (fun _ _ h => h) (Pre.refl _) (upd_ne np)⟩
  inj := h.inj
  here := fun n a e => by
    obtain ⟨u, q⟩ := h.here n a e
    by_cases c : a = p
    · subst c; exact ⟨_, upd_same⟩
    · exact ⟨u, by rw [upd_ne c]; exact q⟩
  mG := h.mG
  gn := fun i a e1 e2 => by
    by_cases z : i = n
    · subst z
      rw [List.getElem?_set_self (List.getElem?_eq_some_iff.mp hc).1] at e2
      cases e2; exact l'.elim
    · rw [List.getElem?_set_ne (Ne.symm z)] at e2
      exact h.gn i a e1 e2
/-- a new cell -/
theorem HS.cnew (h : HS K F G m O H) {p : Addr} {o : HO} {c : Cell} (hp : H p = none) (lc : c.live) (hx : CellAt K F (m ++ [p]) (upd H p o) p c) : HS K F G (m ++ [p]) (O ++ [c]) (upd H p o) where
  exF := ex_right h.exF (h.fresh hp).1
  exG := ex_right h.exG (h.fresh hp).2.1
  dj := h.dj
  len := by rw [List.length_append, List.length_append, h.len]; rfl
  cell := fun i a d e1 e2 l' => by
    by_cases z : i < m.length
    · rw [List.getElem?_append_left z] at e1
      rw [List.getElem?_append_left (by rw [← h.len]; exact z)] at e2
      obtain ⟨x1, x2, x3⟩ := h.cell i a d e1 e2 l'
      exact ⟨x1, x2, x3.mono (fun _ _ h => h) Pre.app (upd_ne (x3.ne l' hp))⟩
    · have hl := (List.getElem?_eq_some_iff.mp e1).1
      rw [List.length_append] at hl
      have ei : i = m.length := by simp only [List.length_cons, List.length_nil] at hl; omega
      subst ei
      rw [List.getElem?_append_right (Nat.le_refl _), Nat.sub_self] at e1
      rw [List.getElem?_append_right (by rw [h.len]; exact Nat.le_refl _), h.len, Nat.sub_self] at e2
      cases e1; cases e2
      exact ⟨(h.fresh hp).1, (h.fresh hp).2.1, hx⟩
  inj := fun i j a e1 e2 => by
    by_cases z : i < m.length
    · rw [List.getElem?_append_left z] at e1
      by_cases y : j < m.length
      · rw [List.getElem?_append_left y] at e2; exact h.inj i j a e1 e2
      · have hl := (List.getElem?_eq_some_iff.mp e2).1
        rw [List.length_append] at hl
        have ej : j = m.length := by simp only [List.length_cons, List.length_nil] at hl; omega
        subst ej
        rw [List.getElem?_append_right (Nat.le_refl _), Nat.sub_self] at e2
        cases e2
        exact absurd e1 ((h.fresh hp).2.2 i)
    · have hl := (List.getElem?_eq_some_iff.mp e1).1
      rw [List.length_append] at hl
      have ei : i = m.length := by simp only [List.length_cons, List.length_nil] at hl; omega
      subst ei
      rw [List.getElem?_append_right (Nat.le_refl _), Nat.sub_self] at e1
      cases e1
      by_cases y : j < m.length
      · rw [List.getElem?_append_left y] at e2; exact absurd e2 ((h.fresh hp).2.2 j)
      · have hl := (List.getElem?_eq_some_iff.mp e2).1
        rw [List.length_append] at hl
        simp only [List.length_cons, List.length_nil] at hl; omega
  here := fun i a e => by
    by_cases z : i < m.length
    · rw [List.getElem?_append_left z] at e
      obtain ⟨u, q⟩ := h.here i a e
      exact ⟨u, by rw [upd_ne (ne_of_none q hp)]; exact q⟩
    · have hl := (List.getElem?_eq_some_iff.mp e).1
      rw [List.length_append] at hl
      have ei : i = m.length := by simp only [List.length_cons, List.length_nil] at hl; omega
      subst ei
      rw [List.getElem?_append_right (Nat.le_refl _), Nat.sub_self] at e
      cases e
      exact ⟨_, upd_same⟩
  mG := fun i a e => by
    by_cases z : i < m.length
    · rw [List.getElem?_append_left z] at e
      exact h.mG i a e
    · have hl := (List.getElem?_eq_some_iff.mp e).1
      rw [List.length_append] at hl
      have ei : i = m.length := by simp only [List.length_cons, List.length_nil] at hl; omega
      subst ei
      rw [List.getElem?_append_right (Nat.le_refl _), Nat.sub_self] at e
      cases e
      exact (h.fresh hp).2.1
  gn := fun i a e1 e2 => by
    by_cases z : i < m.length
    · rw [List.getElem?_append_left z] at e1
      rw [List.getElem?_append_left (by rw [← h.len]; exact z)] at e2
      exact h.gn i a e1 e2
    · have hl := (List.getElem?_eq_some_iff.mp e1).1
      rw [List.length_append] at hl
      have ei : i = m.length := by simp only [List.length_cons, List.length_nil] at hl; omega
      subst ei
      rw [List.getElem?_append_right (by rw [h.len]; exact Nat.le_refl _), h.len, Nat.sub_self] at e2
      cases e2; exact lc.elim
/-! ### slots -/
/-- the heap, the frozen part, the cells go on; the own objects stay -/
theorem SS.go (h : SS K F G m s σ H) {F' H' : Hp} {m' : List Addr} (e : Ex F F') (p : Pre m m') (st : ∀ (i : Nat) c a, s[i]? = some (some (.own c)) → σ[i]? = some (some (.ref a)) → F' a = none ∧ (∀ n : Nat, m'[n]? ≠ some a) ∧ H' a = H a) : SS K F' G m' s σ H' where
  len := h.len
  at_ := fun i x y e1 e2 => by
    have q := h.at_ i x y e1 e2
    match x, y, q with
    | _, none, _ => cases x <;> trivial
    | some v, some (.val d), q => exact Rep.mono e p q
    | some v, some (.own c), ⟨a, ea, l, f, g, mm, cc⟩ =>
      subst ea
      obtain ⟨k1, k2, k3⟩ := st i c a e2 e1
      exact ⟨a, rfl, l, k1, g, k2, cc.mono e p k3⟩
  own := h.own
theorem SS.ownAt (h : SS K F G m s σ H) {i : Nat} {c : Cell} (e : s[i]? = some (some (.own c))) : ∃ a, σ[i]? = some (some (.ref a)) ∧ c.live ∧ F a = none ∧ G a = none ∧ (∀ n : Nat, m[n]? ≠ some a) ∧ CellAt K F m H a c := by
  have hl : i < σ.length := by rw [h.len]; exact (List.getElem?_eq_some_iff.mp e).1
  have q := h.at_ i _ _ (List.getElem?_eq_getElem hl) e
  cases z : σ[i] with
  | none => rw [z] at q; exact q.elim
  | some v =>
    rw [z] at q
    obtain ⟨a, ea, l, f, g, mm, cc⟩ := q
    exact ⟨a, by rw [List.getElem?_eq_getElem hl, z, ea], l, f, g, mm, cc⟩
theorem SS.valAt (h : SS K F G m s σ H) {i : Nat} {d : D} (e : s[i]? = some (some (.val d))) : ∃ v, σ[i]? = some (some v) ∧ Rep K F m v d := by
  have hl : i < σ.length := by rw [h.len]; exact (List.getElem?_eq_some_iff.mp e).1
  have q := h.at_ i _ _ (List.getElem?_eq_getElem hl) e
  cases z : σ[i] with
  | none => rw [z] at q; exact q.elim
  | some v =>
    rw [z] at q
    exact ⟨v, by rw [List.getElem?_eq_getElem hl, z], q⟩
theorem SS.setV (h : SS K F G m s σ H) {i : Nat} {v : V} {d : D} (r : Rep K F m v d) : SS K F G m (s.set i (some (.val d))) (σ.set i (some v)) H where
  len := by rw [List.length_set, List.length_set]; exact h.len
  at_ := fun j x y e1 e2 => by
    by_cases z : j = i
    · subst z
      have h1 : j < σ.length := by have := (List.getElem?_eq_some_iff.mp e1).1; rw [List.length_set] at this; exact this
      rw [List.getElem?_set_self h1] at e1
      rw [List.getElem?_set_self (by rw [← h.len]; exact h1)] at e2
      cases e1; cases e2; exact r
    · rw [List.getElem?_set_ne (Ne.symm z)] at e1 e2; exact h.at_ j x y e1 e2
  own := fun j k c c' u n e1 e2 e3 e4 => by
    have zj : j ≠ i := fun z => by
      subst z
      have h1 : j < s.length := by have := (List.getElem?_eq_some_iff.mp e1).1; rw [List.length_set] at this; exact this
      rw [List.getElem?_set_self h1] at e1; cases e1
    have zk : k ≠ i := fun z => by
      subst z
      have h1 : k < s.length := by have := (List.getElem?_eq_some_iff.mp e2).1; rw [List.length_set] at this; exact this
      rw [List.getElem?_set_self h1] at e2; cases e2
    rw [List.getElem?_set_ne (Ne.symm zj)] at e1 e3
    rw [List.getElem?_set_ne (Ne.symm zk)] at e2 e4
    exact h.own j k c c' u n e1 e2 e3 e4
/-- a slot gets an own object that no slot has -/
theorem SS.setO (h : SS K F G m s σ H) {i : Nat} {a : Addr} {c : Cell} (r : SlotAt K F G m H (some (.ref a)) (some (.own c))) (nw : ∀ (j : Nat) c', s[j]? = some (some (.own c')) → σ[j]? ≠ some (some (.ref a))) : SS K F G m (s.set i (some (.own c))) (σ.set i (some (.ref a))) H where
  len := by rw [List.length_set, List.length_set]; exact h.len
  at_ := fun j x y e1 e2 => by
    by_cases z : j = i
    · subst z
      have h1 : j < σ.length := by have := (List.getElem?_eq_some_iff.mp e1).1; rw [List.length_set] at this; exact this
      rw [List.getElem?_set_self h1] at e1
      rw [List.getElem?_set_self (by rw [← h.len]; exact h1)] at e2
      cases e1; cases e2; exact r
    · rw [List.getElem?_set_ne (Ne.symm z)] at e1 e2; exact h.at_ j x y e1 e2
  own := fun j k c1 c2 u n e1 e2 e3 e4 => by
    by_cases zj : j = i
    · subst zj
      have h1 : j < σ.length := by have := (List.getElem?_eq_some_iff.mp e3).1; rw [List.length_set] at this; exact this
      rw [List.getElem?_set_self h1] at e3
      cases e3
      rw [List.getElem?_set_ne n] at e2 e4
      exact nw k c2 e2 e4
    · by_cases zk : k = i
      · subst zk
        have h1 : k < σ.length := by have := (List.getElem?_eq_some_iff.mp e4).1; rw [List.length_set] at this; exact this
        rw [List.getElem?_set_self h1] at e4
        cases e4
        rw [List.getElem?_set_ne (Ne.symm n)] at e1 e3
        exact nw j c1 e1 e3
      · rw [List.getElem?_set_ne (Ne.symm zj)] at e1 e3
        rw [List.getElem?_set_ne (Ne.symm zk)] at e2 e4
        exact h.own j k c1 c2 u n e1 e2 e3 e4
/-- a slot is forgotten -/
theorem SS.forget (h : SS K F G m s σ H) {i : Nat} {x : Option V} : SS K F G m (s.set i none) (σ.set i x) H where
  len := by rw [List.length_set, List.length_set]; exact h.len
  at_ := fun j x y e1 e2 => by
    by_cases z : j = i
    · subst z
      have h1 : j < s.length := by have := (List.getElem?_eq_some_iff.mp e2).1; rw [List.length_set] at this; exact this
      rw [List.getElem?_set_self h1] at e2
      cases e2; cases x <;> trivial
    · rw [List.getElem?_set_ne (Ne.symm z)] at e1 e2; exact h.at_ j x y e1 e2
  own := fun j k c1 c2 u n e1 e2 e3 e4 => by
    have zj : j ≠ i := fun z => by
      subst z
      have h1 : j < s.length := by have := (List.getElem?_eq_some_iff.mp e1).1; rw [List.length_set] at this; exact this
      rw [List.getElem?_set_self h1] at e1; cases e1
    have zk : k ≠ i := fun z => by
      subst z
      have h1 : k < s.length := by have := (List.getElem?_eq_some_iff.mp e2).1; rw [List.length_set] at this; exact this
      rw [List.getElem?_set_self h1] at e2; cases e2
    rw [List.getElem?_set_ne (Ne.symm zj)] at e1 e3
    rw [List.getElem?_set_ne (Ne.symm zk)] at e2 e4
    exact h.own j k c1 c2 u n e1 e2 e3 e4
/-- a slot's own object becomes data -/
theorem SS.toV (h : SS K F G m s σ H) {i : Nat} {a : Addr} {c : Cell} {d : D} (hs : s[i]? = some (some (.own c))) (hσ : σ[i]? = some (some (.ref a))) (r : Rep K F m (.ref a) d) : SS K F G m (s.set i (some (.val d))) σ H := by
  have q := h.setV (i := i) r
  have e : σ.set i (some (.ref a)) = σ := by
    apply List.ext_getElem?
    intro j
    by_cases z : i = j
    · subst z
      rw [List.getElem?_set_self (List.getElem?_eq_some_iff.mp hσ).1, hσ]
    · rw [List.getElem?_set_ne z]
  rw [e] at q
  exact q
end
end AL

namespace AL
open PySem L2
/-! ### calls: the callers' part -/
section
variable {K : PySem.W.Frag} {F G : Hp} {m : List Addr} {O : List Cell} {H : Hp} {A : AS} {σ : St} {s : List (Option SV)}
def IsOwn (s : List (Option SV)) (σ : St) (a : Addr) : Prop := ∃ (i : Nat) (c : Cell), s[i]? = some (some (.own c)) ∧ σ[i]? = some (some (.ref a))
open Classical in
noncomputable def callG (s : List (Option SV)) (σ : St) (G H : Hp) : Hp := fun a => if IsOwn s σ a then H a else G a
theorem callG_own {a : Addr} (h : IsOwn s σ a) : callG s σ G H a = H a := by unfold callG; rw [if_pos h]
theorem callG_not {a : Addr} (h : ¬ IsOwn s σ a) : callG s σ G H a = G a := by unfold callG; rw [if_neg h]
theorem SS.isOwn (h : SS K F G m s σ H) {a : Addr} (o : IsOwn s σ a) : F a = none ∧ G a = none ∧ (∀ n : Nat, m[n]? ≠ some a) ∧ ∃ u, H a = some u := by
  obtain ⟨i, c, e1, e2⟩ := o
  obtain ⟨b, q, l, f, g, mm, cc⟩ := h.ownAt e1
  rw [e2] at q; cases q
  exact ⟨f, g, mm, cc.some l⟩
theorem Sim.call (h : Sim K F G m A σ H) : HS K F (callG A.s σ G H) m A.o H where
  exF := h.h.exF
  exG := fun a o e => by
    by_cases z : IsOwn A.s σ a
    · rw [callG_own z] at e; exact e
    · rw [callG_not z] at e; exact h.h.exG _ _ e
  dj := fun a o e => by
    by_cases z : IsOwn A.s σ a
    · rw [(h.s.isOwn z).1] at e; cases e
    · rw [callG_not z]; exact h.h.dj _ _ e
  len := h.h.len
  cell := fun n a c e1 e2 l => by
    obtain ⟨x1, x2, x3⟩ := h.h.cell n a c e1 e2 l
    refine ⟨x1, ?_, x3⟩
    by_cases z : IsOwn A.s σ a
    · exact absurd e1 ((h.s.isOwn z).2.2.1 n)
    · rw [callG_not z]; exact x2
  inj := h.h.inj
  here := h.h.here
  mG := fun n a e => by
    by_cases z : IsOwn A.s σ a
    · exact absurd e ((h.s.isOwn z).2.2.1 n)
    · rw [callG_not z]; exact h.h.mG n a e
  gn := h.h.gn
theorem Sim.back (h : Sim K F G m A σ H) {F' H' : Hp} {m' : List Addr} {O' : List Cell} (e : Ex F F') (p : Pre m m') (q : HS K F' (callG A.s σ G H) m' O' H') : Sim K F' G m' ⟨A.s, O'⟩ σ H' := by
  have sub : ∀ a o, G a = some o → callG A.s σ G H a = some o := fun a o g => by
    by_cases z : IsOwn A.s σ a
    · rw [(h.s.isOwn z).2.1] at g; cases g
    · rw [callG_not z]; exact g
  have non : ∀ a, callG A.s σ G H a = none → G a = none := fun a c => by
    cases g : G a with
    | none => rfl
    | some o => rw [sub a o g] at c; cases c
  refine ⟨⟨q.exF, fun a o g => q.exG _ _ (sub a o g), fun a o f => non a (q.dj a o f), q.len, fun n a c e1 e2 l => ?_, q.inj, q.here, fun n a e => non a (q.mG n a e), q.gn⟩, h.s.go e p fun i c a e1 e2 => ?_⟩
  · obtain ⟨x1, x2, x3⟩ := q.cell n a c e1 e2 l
    exact ⟨x1, non a x2, x3⟩
  · have z : IsOwn A.s σ a := ⟨i, c, e1, e2⟩
    obtain ⟨f, g, mm, u, hu⟩ := h.s.isOwn z
    have cg : callG A.s σ G H a = some u := by rw [callG_own z]; exact hu
    refine ⟨?_, fun n e => ?_, ?_⟩
    · cases y : F' a with
      | none => rfl
      | some o => rw [q.dj a o y] at cg; cases cg
    · rw [q.mG n a e] at cg; cases cg
    · rw [q.exG _ _ cg, hu]
end

/-! ### judgements -/
abbrev XA := AS → Addr → List (Str × D) → Prop
/-- the written part, what an exception is wished for, in the concrete and in the abstract -/
structure Ct where
  K : PySem.W.Frag
  E : St → XK
  X : XA
  /-- in an except suite: the held exception's dict and fields -/
  hv : Option (Addr × List (Str × D))
structure EOk (c : Ct) (F G : Hp) (m : List Addr) : Prop where
  x : ∀ F' m' A' σ' H' C dx fvs fs, Ex F F' → Pre m m' → Sim c.K F' G m' A' σ' H' → F' dx = some (.xd fvs) → RepF c.K F' m' fvs fs → c.X A' C fs → c.E σ' (.ref C) (some dx) H'
  h : ∀ dx fs, c.hv = some (dx, fs) → ∃ fvs, F dx = some (.xd fvs) ∧ RepF c.K F m fvs fs
theorem EOk.mono {c : Ct} {F F' G : Hp} {m m' : List Addr} (e : Ex F F') (p : Pre m m') (h : EOk c F G m) : EOk c F' G m' :=
  ⟨fun F2 m2 A2 σ2 H2 C dx fvs fs e2 p2 => h.x F2 m2 A2 σ2 H2 C dx fvs fs (e.trans e2) (p.trans p2), fun dx fs z => by obtain ⟨fvs, z1, z2⟩ := h.h dx fs z; exact ⟨fvs, e _ _ z1, z2.mono e p⟩⟩
def RepR (K : PySem.W.Frag) (F : Hp) (m : List Addr) (A : AS) (σ : St) (v : V) : RV → Prop
  | .val d => Rep K F m v d
  | .slot i => σ[i]? = some (some v) ∧ ∃ c, A.s[i]? = some (some (.own c))
abbrev QE := AS → RV → Prop
def WE (c : Ct) (te : TE) (A : AS) (Q : QE) : Prop := ∀ F G m σ H, Sim c.K F G m A σ H → EOk c F G m → ∀ Qc : VK,
  (∀ F' m' A' v H' r, Ex F F' → Pre m m' → Sim c.K F' G m' A' σ H' → RepR c.K F' m' A' σ v r → Q A' r → Qc v H') → te σ H Qc
/-- the value as data: an own list is frozen -/
def Frz (A : AS) (r : RV) (k : AS → D → Prop) : Prop := match r with
  | .val d => k A d
  | .slot i => match A.s[i]? with
    | some (some (.own (.lst ds))) => k (A.setS i (.val (.lst ds))) (.lst ds)
    | _ => False
/-- a new list (or tuple, dict), not frozen yet, at p -/
def WN (c : Ct) (te : TE) (A : AS) (Q : AS → List D → Prop) : Prop := ∀ F G m σ H, Sim c.K F G m A σ H → EOk c F G m → ∀ Qc : VK,
  (∀ F' m' A' p vs H' ds, Ex F F' → Pre m m' → Sim c.K F' G m' A' σ H' → F' p = none → G p = none → (∀ n : Nat, m'[n]? ≠ some p) → ¬ IsOwn A'.s σ p → H' p = some (.lst vs) → Reps c.K F' m' vs ds → Q A' ds → Qc (.ref p) H') → te σ H Qc
def WT (c : Ct) (t : TT) (A : AS) (Q : AS → Bool → Prop) : Prop := ∀ F G m σ H, Sim c.K F G m A σ H → EOk c F G m → ∀ Qc : Bool → Hp → Prop,
  (∀ F' m' A' b H', Ex F F' → Pre m m' → Sim c.K F' G m' A' σ H' → Q A' b → Qc b H') → t σ H Qc
def WA (c : Ct) (t : TA) (A : AS) (Q : AS → List D → Prop) : Prop := ∀ F G m σ H, Sim c.K F G m A σ H → EOk c F G m → ∀ Qc : List V → Hp → Prop,
  (∀ F' m' A' vs H' ds, Ex F F' → Pre m m' → Sim c.K F' G m' A' σ H' → Reps c.K F' m' vs ds → Q A' ds → Qc vs H') → t σ H Qc
def WO (c : Ct) (t : TO) (A : AS) (Q : AS → Option Int → Prop) : Prop := ∀ F G m σ H, Sim c.K F G m A σ H → EOk c F G m → ∀ Qc : Option Int → Hp → Prop,
  (∀ F' m' A' o H', Ex F F' → Pre m m' → Sim c.K F' G m' A' σ H' → Q A' o → Qc o H') → t σ H Qc
structure EA where
  nx : AS → Prop
  rt : List Cell → D → Prop
  bk : AS → Prop := fun _ => False
  ct : AS → Prop := fun _ => False
structure EndsOk (c : Ct) (F G : Hp) (m : List Addr) (B : EA) (Dc : Ends) : Prop where
  nx : ∀ F' m' A' σ' H', Ex F F' → Pre m m' → Sim c.K F' G m' A' σ' H' → B.nx A' → Dc.nx σ' H'
  rt : ∀ F' m' O' v d H', Ex F F' → Pre m m' → HS c.K F' G m' O' H' → Rep c.K F' m' v d → B.rt O' d → Dc.rt v H'
  bk : ∀ F' m' A' σ' H', Ex F F' → Pre m m' → Sim c.K F' G m' A' σ' H' → B.bk A' → Dc.bk σ' H'
  ct : ∀ F' m' A' σ' H', Ex F F' → Pre m m' → Sim c.K F' G m' A' σ' H' → B.ct A' → Dc.ct σ' H'
theorem EndsOk.mono {c : Ct} {F F' G : Hp} {m m' : List Addr} {B : EA} {Dc : Ends} (e : Ex F F') (p : Pre m m') (h : EndsOk c F G m B Dc) : EndsOk c F' G m' B Dc :=
  ⟨fun F2 m2 A2 σ2 H2 e2 p2 => h.nx F2 m2 A2 σ2 H2 (e.trans e2) (p.trans p2), fun F2 m2 O2 v d H2 e2 p2 => h.rt F2 m2 O2 v d H2 (e.trans e2) (p.trans p2), fun F2 m2 A2 σ2 H2 e2 p2 => h.bk F2 m2 A2 σ2 H2 (e.trans e2) (p.trans p2), fun F2 m2 A2 σ2 H2 e2 p2 => h.ct F2 m2 A2 σ2 H2 (e.trans e2) (p.trans p2)⟩
def WS (c : Ct) (t : TS) (A : AS) (B : EA) : Prop := ∀ F G m σ H, Sim c.K F G m A σ H → EOk c F G m → ∀ Dc : Ends, EndsOk c F G m B Dc → t Dc σ H
/-- the target of an assignment gets a value -/
def WG (c : Ct) (g : TG) (d : D) (A : AS) (Q : AS → Prop) : Prop := ∀ F G m σ H v, Sim c.K F G m A σ H → Rep c.K F m v d → EOk c F G m → ∀ Qc : St → Hp → Prop,
  (∀ F' m' A' σ' H', Ex F F' → Pre m m' → Sim c.K F' G m' A' σ' H' → Q A' → Qc σ' H') → g v σ H Qc
/-- what J walks is ds -/
def Real (K : PySem.W.Frag) (F0 : Hp) (m0 : List Addr) (J : It) (ds : List D) : Prop := ∀ F G m A σ H, Ex F0 F → Pre m0 m → Sim K F G m A σ H → ∀ i,
  (∀ d, ds[i]? = some d → J.go i H ∧ ∀ x H', J.yld i H x H' → ∃ F', Ex F F' ∧ Sim K F' G m A σ H' ∧ Rep K F' m x d) ∧ (ds.length ≤ i → J.stop i H)
def WI (c : Ct) (wi : TI) (A : AS) (Q : AS → List D → Prop) : Prop := ∀ F G m σ H, Sim c.K F G m A σ H → EOk c F G m → ∀ Rc : It → Hp → Prop,
  (∀ F' m' A' J H' ds, Ex F F' → Pre m m' → Sim c.K F' G m' A' σ H' → Real c.K F' m' J ds → Q A' ds → Rc J H') → wi σ H Rc

section
variable {c : Ct} {A : AS} {te ta tb : TE} {t u tt : TT}
/-! ### consequence -/
theorem WE.imp {Q Q' : QE} (h : WE c te A Q) (f : ∀ A r, Q A r → Q' A r) : WE c te A Q' := fun F G m σ H S E Qc k => h F G m σ H S E Qc fun F' m' A' v H' r e p S' R q => k F' m' A' v H' r e p S' R (f _ _ q)
theorem WS.imp {ts : TS} {B B' : EA} (h : WS c ts A B) (f1 : ∀ A, B.nx A → B'.nx A) (f2 : ∀ A d, B.rt A d → B'.rt A d) (f3 : ∀ A, B.bk A → B'.bk A) (f4 : ∀ A, B.ct A → B'.ct A) : WS c ts A B' := fun F G m σ H S E Dc k =>
  h F G m σ H S E Dc ⟨fun F' m' A' σ' H' e p S' q => k.nx _ _ _ _ _ e p S' (f1 _ q), fun F' m' O' v d H' e p S' R q => k.rt _ _ _ _ _ _ e p S' R (f2 _ _ q), fun F' m' A' σ' H' e p S' q => k.bk _ _ _ _ _ e p S' (f3 _ q), fun F' m' A' σ' H' e p S' q => k.ct _ _ _ _ _ e p S' (f4 _ q)⟩
/-! ### freezing -/
theorem frz_ok {K : PySem.W.Frag} {F G : Hp} {m : List Addr} {A : AS} {σ : St} {H : Hp} {v : V} {r : RV} {k : AS → D → Prop} (S : Sim K F G m A σ H) (R : RepR K F m A σ v r) (h : Frz A r k) :
    ∃ F' A' d, Ex F F' ∧ Sim K F' G m A' σ H ∧ Rep K F' m v d ∧ k A' d := by
  cases r with
  | val d => exact ⟨F, A, d, Evl.Ex.refl F, S, R, h⟩
  | slot i =>
    obtain ⟨e1, c, e2⟩ := R
    simp only [Frz, e2] at h
    cases c with
    | lst ds =>
      obtain ⟨a, q, l, f, g, mm, vs, hv, rv⟩ := S.s.ownAt e2
      rw [e1] at q; cases q
      have ex : Ex F (upd F a (.lst vs)) := ex_upd f
      have rep : Rep K (upd F a (.lst vs)) m (.ref a) (.lst ds) := .lst upd_same (rv.mono ex (Pre.refl _))
      refine ⟨upd F a (.lst vs), A.setS i (.val (.lst ds)), .lst ds, ex, ⟨S.h.freeze hv f g mm, ?_⟩, rep, h⟩
      have s1 : SS K (upd F a (.lst vs)) G m (A.s.set i none) (σ.set i (some (.ref a))) H := (S.s.forget (i := i) (x := some (.ref a))).go ex (Pre.refl _) fun j c b z1 z2 => by
        have ne : i ≠ j := fun z => by
          subst z
          have hl : i < A.s.length := by have := (List.getElem?_eq_some_iff.mp z1).1; rw [List.length_set] at this; exact this
          rw [List.getElem?_set_self hl] at z1; cases z1
        rw [List.getElem?_set_ne ne] at z1 z2
        obtain ⟨b', q, l', f', g', mm', cc⟩ := S.s.ownAt z1
        rw [z2] at q; cases q
        have nab : b ≠ a := fun z => by subst z; exact S.s.own i j _ _ _ ne e2 z1 e1 z2
        exact ⟨by rw [upd_ne nab]; exact f', mm', rfl⟩
      have s2 := s1.setV (i := i) rep
      rw [List.set_set, List.set_set] at s2
      have e : σ.set i (some (.ref a)) = σ := by
        apply List.ext_getElem?
        intro j
        by_cases z : i = j
        · subst z
          rw [List.getElem?_set_self (List.getElem?_eq_some_iff.mp e1).1, e1]
        · rw [List.getElem?_set_ne z]
      rw [e] at s2
      exact s2
    | ins _ _ => exact h.elim
    | dK _ => exact h.elim
    | dT _ => exact h.elim
    | gone => exact h.elim
/-- a value is taken as data -/
theorem WE.frz {Q : AS → D → Prop} (h : WE c te A fun A1 r => Frz A1 r Q) : WE c te A fun A1 r => ∃ d, r = .val d ∧ Q A1 d := fun F G m σ H S E Qc k =>
  h F G m σ H S E Qc fun F' m' A' v H' r e p S' R q => by
    obtain ⟨F2, A2, d, e2, S2, R2, q2⟩ := frz_ok S' R q
    exact k F2 m' A2 v H' (.val d) (e.trans e2) p S2 R2 ⟨d, rfl, q2⟩
/-! ### expressions -/
theorem we_var {i : Nat} {d : D} {Q : QE} (h : A.s[i]? = some (some (.val d))) (q : Q A (.val d)) : WE c (tVar i) A Q := fun F G m σ H S E Qc k => by
  obtain ⟨v, e, r⟩ := S.s.valAt h
  exact ⟨v, e, k F m A v H (.val d) (Evl.Ex.refl F) (Pre.refl m) S r q⟩
theorem we_own {i : Nat} {x : Cell} {Q : QE} (h : A.s[i]? = some (some (.own x))) (q : Q A (.slot i)) : WE c (tVar i) A Q := fun F G m σ H S E Qc k => by
  obtain ⟨a, e, _⟩ := S.s.ownAt h
  exact ⟨.ref a, e, k F m A (.ref a) H (.slot i) (Evl.Ex.refl F) (Pre.refl m) S ⟨e, x, h⟩ q⟩
theorem we_C {v : V} {d : D} {Q : QE} (h : ∀ F m, Rep c.K F m v d) (q : Q A (.val d)) : WE c (tC v) A Q := fun F G m σ H S E Qc k => k F m A v H (.val d) (Evl.Ex.refl F) (Pre.refl m) S (h F m) q
theorem we_non {Q : QE} (q : Q A (.val .non)) : WE c (tC .non) A Q := we_C (fun _ _ => .non) q
theorem we_bl {b : Bool} {Q : QE} (q : Q A (.val (.bl b))) : WE c (tC (.bl b)) A Q := we_C (fun _ _ => .bl b) q
theorem we_int {i : Int} {Q : QE} (q : Q A (.val (.int i))) : WE c (tC (.int i)) A Q := we_C (fun _ _ => .int i) q
theorem we_str {x : Str} {Q : QE} (q : Q A (.val (.str x))) : WE c (tC (.str x)) A Q := we_C (fun _ _ => .str x) q
/-- what an operator asks of two values, in the abstract -/
def OpD (c : Ct) (r : R2) (x y : RV) (A : AS) (Q : QE) : Prop := ∀ F G m σ H v w, Sim c.K F G m A σ H → EOk c F G m → RepR c.K F m A σ v x → RepR c.K F m A σ w y → ∀ Qc : VK,
  (∀ F' m' A' v H' r, Ex F F' → Pre m m' → Sim c.K F' G m' A' σ H' → RepR c.K F' m' A' σ v r → Q A' r → Qc v H') → r v w H Qc
/-- the first operand stays while the second is reckoned: the slot it stands in isn't frozen on the way -/
def Stays (A A' : AS) : RV → Prop
  | .val _ => True
  | .slot i => A'.s[i]? = A.s[i]?
theorem RepR.stay {K : PySem.W.Frag} {F F' : Hp} {m m' : List Addr} {A A' : AS} {σ : St} {v : V} {r : RV} (h : RepR K F m A σ v r) (e : Ex F F') (p : Pre m m') (s : Stays A A' r) : RepR K F' m' A' σ v r := by
  cases r with
  | val d => exact Rep.mono e p h
  | slot i => obtain ⟨h1, x, h2⟩ := h; exact ⟨h1, x, by rw [s]; exact h2⟩
theorem we_op {r : R2} {Q : QE} (h : WE c ta A fun A1 x => WE c tb A1 fun A2 y => Stays A1 A2 x ∧ OpD c r x y A2 Q) : WE c (tOp r ta tb) A Q := fun F G m σ H S E Qc k =>
  h F G m σ H S E _ fun F1 m1 A1 v H1 x e1 p1 S1 R1 q1 => q1 F1 G m1 σ H1 S1 (E.mono e1 p1) _ fun F2 m2 A2 w H2 y e2 p2 S2 R2 q2 =>
    q2.2 F2 G m2 σ H2 v w S2 (E.mono (e1.trans e2) (p1.trans p2)) (R1.stay e2 p2 q2.1) R2 Qc fun F3 m3 A3 v3 H3 r3 e3 p3 S3 R3 q3 => k F3 m3 A3 v3 H3 r3 ((e1.trans e2).trans e3) ((p1.trans p2).trans p3) S3 R3 q3
def UnD (c : Ct) (r : V → Hp → VK → Prop) (x : RV) (A : AS) (Q : QE) : Prop := ∀ F G m σ H v, Sim c.K F G m A σ H → EOk c F G m → RepR c.K F m A σ v x → ∀ Qc : VK,
  (∀ F' m' A' v H' r, Ex F F' → Pre m m' → Sim c.K F' G m' A' σ H' → RepR c.K F' m' A' σ v r → Q A' r → Qc v H') → r v H Qc
theorem we_un {r : V → Hp → VK → Prop} {Q : QE} (h : WE c ta A fun A1 x => UnD c r x A1 Q) : WE c (tUn r ta) A Q := fun F G m σ H S E Qc k =>
  h F G m σ H S E _ fun F1 m1 A1 v H1 x e1 p1 S1 R1 q1 => q1 F1 G m1 σ H1 v S1 (E.mono e1 p1) R1 Qc fun F3 m3 A3 v3 H3 r3 e3 p3 S3 R3 q3 => k F3 m3 A3 v3 H3 r3 (e1.trans e3) (p1.trans p3) S3 R3 q3
/-! ### tests -/
theorem wt_test {Q : AS → Bool → Prop} (h : WE c te A fun A1 x => ∃ b, x = .val (.bl b) ∧ Q A1 b) : WT c (tTest te) A Q := fun F G m σ H S E Qc k =>
  h F G m σ H S E _ fun F1 m1 A1 v H1 x e1 p1 S1 R1 ⟨b, ex, q⟩ => by
    subst ex; cases R1; exact ⟨b, rfl, k F1 m1 A1 b H1 e1 p1 S1 q⟩
theorem wt_B {Q : AS → Bool → Prop} (h : WE c te A fun A1 x => ∃ b, x = .val (.bl b) ∧ Q A1 b) : WT c (tB te) A Q := fun F G m σ H S E Qc k =>
  h F G m σ H S E _ fun F1 m1 A1 v H1 x e1 p1 S1 R1 ⟨b, ex, q⟩ => by
    subst ex; cases R1; exact ⟨b, rfl, k F1 m1 A1 b H1 e1 p1 S1 q⟩
theorem wt_and {Q : AS → Bool → Prop} (h : WT c t A fun A1 b => (b = true → WT c u A1 Q) ∧ (b = false → Q A1 false)) : WT c (tAnd t u) A Q := fun F G m σ H S E Qc k =>
  h F G m σ H S E _ fun F1 m1 A1 b H1 e1 p1 S1 q => by
    cases b with
    | true => exact q.1 rfl F1 G m1 σ H1 S1 (E.mono e1 p1) Qc fun F2 m2 A2 b2 H2 e2 p2 S2 q2 => k F2 m2 A2 b2 H2 (e1.trans e2) (p1.trans p2) S2 q2
    | false => exact k F1 m1 A1 false H1 e1 p1 S1 (q.2 rfl)
theorem wt_or {Q : AS → Bool → Prop} (h : WT c t A fun A1 b => (b = true → Q A1 true) ∧ (b = false → WT c u A1 Q)) : WT c (tOr t u) A Q := fun F G m σ H S E Qc k =>
  h F G m σ H S E _ fun F1 m1 A1 b H1 e1 p1 S1 q => by
    cases b with
    | false => exact q.2 rfl F1 G m1 σ H1 S1 (E.mono e1 p1) Qc fun F2 m2 A2 b2 H2 e2 p2 S2 q2 => k F2 m2 A2 b2 H2 (e1.trans e2) (p1.trans p2) S2 q2
    | true => exact k F1 m1 A1 true H1 e1 p1 S1 (q.1 rfl)
theorem wt_not {Q : AS → Bool → Prop} (h : WT c t A fun A1 b => Q A1 (!b)) : WT c (tNot t) A Q := fun F G m σ H S E Qc k => h F G m σ H S E _ fun F1 m1 A1 b H1 e1 p1 S1 q => k F1 m1 A1 (!b) H1 e1 p1 S1 q
theorem we_and {Q : QE} (h : WE c ta A fun A1 x => ∃ b, x = .val (.bl b) ∧ (b = true → WE c tb A1 Q) ∧ (b = false → Q A1 (.val (.bl false)))) : WE c (tAndV ta tb) A Q := fun F G m σ H S E Qc k =>
  h F G m σ H S E _ fun F1 m1 A1 v H1 x e1 p1 S1 R1 ⟨b, ex, q1, q2⟩ => by
    subst ex; cases R1
    refine ⟨b, rfl, ?_⟩
    cases b with
    | true => exact q1 rfl F1 G m1 σ H1 S1 (E.mono e1 p1) Qc fun F2 m2 A2 b2 H2 r2 e2 p2 S2 R2 q2 => k F2 m2 A2 b2 H2 r2 (e1.trans e2) (p1.trans p2) S2 R2 q2
    | false => exact k F1 m1 A1 _ H1 (.val (.bl false)) e1 p1 S1 (Rep.bl false) (q2 rfl)
theorem we_or {Q : QE} (h : WE c ta A fun A1 x => ∃ b, x = .val (.bl b) ∧ (b = true → Q A1 (.val (.bl true))) ∧ (b = false → WE c tb A1 Q)) : WE c (tOrV ta tb) A Q := fun F G m σ H S E Qc k =>
  h F G m σ H S E _ fun F1 m1 A1 v H1 x e1 p1 S1 R1 ⟨b, ex, q1, q2⟩ => by
    subst ex; cases R1
    refine ⟨b, rfl, ?_⟩
    cases b with
    | false => exact q2 rfl F1 G m1 σ H1 S1 (E.mono e1 p1) Qc fun F2 m2 A2 b2 H2 r2 e2 p2 S2 R2 q2 => k F2 m2 A2 b2 H2 r2 (e1.trans e2) (p1.trans p2) S2 R2 q2
    | true => exact k F1 m1 A1 _ H1 (.val (.bl true)) e1 p1 S1 (Rep.bl true) (q1 rfl)
theorem we_not {Q : QE} (h : WE c ta A fun A1 x => ∃ b, x = .val (.bl b) ∧ Q A1 (.val (.bl (!b)))) : WE c (tNotV ta) A Q := fun F G m σ H S E Qc k =>
  h F G m σ H S E _ fun F1 m1 A1 v H1 x e1 p1 S1 R1 ⟨b, ex, q⟩ => by
    subst ex; cases R1; exact ⟨b, rfl, k F1 m1 A1 _ H1 (.val (.bl (!b))) e1 p1 S1 (Rep.bl _) q⟩
theorem we_if {Q : QE} (h : WT c t A fun A1 b => (b = true → WE c ta A1 Q) ∧ (b = false → WE c tb A1 Q)) : WE c (tIf t ta tb) A Q := fun F G m σ H S E Qc k =>
  h F G m σ H S E _ fun F1 m1 A1 b H1 e1 p1 S1 q => by
    cases b with
    | true => exact q.1 rfl F1 G m1 σ H1 S1 (E.mono e1 p1) Qc fun F2 m2 A2 b2 H2 r2 e2 p2 S2 R2 q2 => k F2 m2 A2 b2 H2 r2 (e1.trans e2) (p1.trans p2) S2 R2 q2
    | false => exact q.2 rfl F1 G m1 σ H1 S1 (E.mono e1 p1) Qc fun F2 m2 A2 b2 H2 r2 e2 p2 S2 R2 q2 => k F2 m2 A2 b2 H2 r2 (e1.trans e2) (p1.trans p2) S2 R2 q2
/-! ### arguments -/
theorem wa_nil {Q : AS → List D → Prop} (q : Q A []) : WA c tNil A Q := fun F G m σ H S E Qc k => k F m A [] H [] (Evl.Ex.refl F) (Pre.refl m) S .nil q
theorem wa_cons {tr : TA} {Q : AS → List D → Prop} (h : WE c ta A fun A1 r => Frz A1 r fun A2 d => WA c tr A2 fun A3 ds => Q A3 (d :: ds)) : WA c (tCons ta tr) A Q := fun F G m σ H S E Qc k =>
  (WE.frz h) F G m σ H S E _ fun F1 m1 A1 v H1 x e1 p1 S1 R1 ⟨d, ex, q⟩ => by
    subst ex
    exact q F1 G m1 σ H1 S1 (E.mono e1 p1) _ fun F2 m2 A2 vs H2 ds e2 p2 S2 R2 q2 => k F2 m2 A2 _ H2 _ (e1.trans e2) (p1.trans p2) S2 (.cons (Rep.mono e2 p2 R1) R2) q2
theorem wo_none {Q : AS → Option Int → Prop} (q : Q A none) : WO c tNoPart A Q := fun F G m σ H S E Qc k => k F m A none H (Evl.Ex.refl F) (Pre.refl m) S q
theorem wo_some {Q : AS → Option Int → Prop} (h : WE c te A fun A1 x => ∃ i, x = .val (.int i) ∧ Q A1 (some i)) : WO c (tPart te) A Q := fun F G m σ H S E Qc k =>
  h F G m σ H S E _ fun F1 m1 A1 v H1 x e1 p1 S1 R1 ⟨i, ex, q⟩ => by
    subst ex; cases R1; exact ⟨i, rfl, k F1 m1 A1 (some i) H1 e1 p1 S1 q⟩
/-- a new frozen object -/
theorem Sim.frz {K : PySem.W.Frag} {F G : Hp} {m : List Addr} {A : AS} {σ : St} {H : Hp} (S : Sim K F G m A σ H) {p : Addr} {o : HO} (hp : H p = none) : Sim K (upd F p o) G m A σ (upd H p o) :=
  ⟨S.h.frz hp, S.s.go (ex_upd (S.h.fresh hp).1) (Pre.refl _) fun i c a e1 e2 => by
    obtain ⟨b, q, l, f, g, mm, cc⟩ := S.s.ownAt e1
    rw [e2] at q; cases q
    have np := cc.ne l hp
    exact ⟨by rw [upd_ne np]; exact f, mm, upd_ne np⟩⟩
/-- a new object that nobody has yet -/
theorem Sim.new {K : PySem.W.Frag} {F G : Hp} {m : List Addr} {A : AS} {σ : St} {H : Hp} (S : Sim K F G m A σ H) {p : Addr} {o : HO} (hp : H p = none) : Sim K F G m A σ (upd H p o) :=
  ⟨S.h.mut (S.h.fresh hp).1 (S.h.fresh hp).2.1 (S.h.fresh hp).2.2, S.s.go (Evl.Ex.refl F) (Pre.refl _) fun i c a e1 e2 => by
    obtain ⟨b, q, l, f, g, mm, cc⟩ := S.s.ownAt e1
    rw [e2] at q; cases q
    exact ⟨f, mm, upd_ne (cc.ne l hp)⟩⟩
theorem Sim.notOwn {K : PySem.W.Frag} {F G : Hp} {m : List Addr} {A : AS} {σ : St} {H : Hp} (S : Sim K F G m A σ H) {p : Addr} (hp : H p = none) : ¬ IsOwn A.s σ p := fun o => by
  obtain ⟨_, _, _, u, q⟩ := S.s.isOwn o
  rw [hp] at q; cases q
theorem we_tup {ta : TA} {Q : QE} (h : WA c ta A fun A1 ds => ds.length ≤ 1000 ∧ Q A1 (.val (.tup ds))) : WE c (tTupP ta) A Q := fun F G m σ H S E Qc k =>
  h F G m σ H S E _ fun F1 m1 A1 vs H1 ds e1 p1 S1 R1 ⟨hl, q⟩ => by
    refine ⟨Nat.le_trans (by rw [R1.len]; exact hl) (by decide), fun p its hp => ?_⟩
    have ex : Ex F1 (upd F1 p (tupHO its vs)) := ex_upd (S1.h.fresh hp).1
    exact k (upd F1 p (tupHO its vs)) m1 A1 _ _ (.val (.tup ds)) (e1.trans ex) p1 (S1.frz hp) (show Rep c.K _ _ _ _ from .tup (.inl ⟨its, upd_same⟩) (R1.mono ex (Pre.refl _))) q
theorem wn_lst {ta : TA} {Q : AS → List D → Prop} (h : WA c ta A fun A1 ds => ds.length ≤ 1000 ∧ Q A1 ds) : WN c (tLst ta) A Q := fun F G m σ H S E Qc k =>
  h F G m σ H S E _ fun F1 m1 A1 vs H1 ds e1 p1 S1 R1 ⟨hl, q⟩ =>
    ⟨Nat.le_trans (by rw [R1.len]; exact hl) (by decide), fun p hp =>
      k F1 m1 A1 p vs _ ds e1 p1 (S1.new hp) (S1.h.fresh hp).1 (S1.h.fresh hp).2.1 (S1.h.fresh hp).2.2 (S1.notOwn hp) upd_same R1 q⟩
/-- a new list, frozen at once -/
theorem we_ofN {Q : QE} (h : WN c te A fun A1 ds => Q A1 (.val (.lst ds))) : WE c te A Q := fun F G m σ H S E Qc k =>
  h F G m σ H S E Qc fun F1 m1 A1 p vs H1 ds e1 p1 S1 f g mm no hv R q => by
    have ex : Ex F1 (upd F1 p (.lst vs)) := ex_upd f
    refine k (upd F1 p (.lst vs)) m1 A1 _ H1 (.val (.lst ds)) (e1.trans ex) p1 ⟨S1.h.freeze hv f g mm, S1.s.go ex (Pre.refl _) fun i c a z1 z2 => ?_⟩ (show Rep c.K _ _ _ _ from .lst upd_same (R.mono ex (Pre.refl _))) q
    obtain ⟨b, q, l, f', g', mm', cc⟩ := S1.s.ownAt z1
    rw [z2] at q; cases q
    have np : a ≠ p := fun z => no ⟨i, c, z1, z ▸ z2⟩
    exact ⟨by rw [upd_ne np]; exact f', mm', rfl⟩
/-- a new list, a cell from now on -/
theorem we_cell {Q : QE} (h : WN c te A fun A1 ds => Q ⟨A1.s, A1.o ++ [.lst ds]⟩ (.val (.ptr A1.o.length))) : WE c te A Q := fun F G m σ H S E Qc k =>
  h F G m σ H S E Qc fun F1 m1 A1 p vs H1 ds e1 p1 S1 f g mm no hv R q => by
    have pr : Pre m1 (m1 ++ [p]) := Pre.app
    refine k F1 (m1 ++ [p]) ⟨A1.s, A1.o ++ [.lst ds]⟩ (.ref p) H1 (.val (.ptr A1.o.length)) e1 (p1.trans pr) ⟨?_, S1.s.go (Evl.Ex.refl _) pr fun i x a z1 z2 => ?_⟩ (show Rep c.K _ _ _ _ from .ptr ?_) q
    · refine ⟨S1.h.exF, S1.h.exG, S1.h.dj, by rw [List.length_append, List.length_append, S1.h.len]; rfl, fun i a d z1 z2 l => ?_, fun i j a z1 z2 => ?_, fun i a z => ?_, fun i a z => ?_, fun i a z1 z2 => ?_⟩
      · by_cases z : i < m1.length
        · rw [List.getElem?_append_left z] at z1
          rw [List.getElem?_append_left (by rw [← S1.h.len]; exact z)] at z2
          obtain ⟨x1, x2, x3⟩ := S1.h.cell i a d z1 z2 l
          exact ⟨x1, x2, x3.mono (fun _ _ h => h) pr rfl⟩
        · have hl := (List.getElem?_eq_some_iff.mp z1).1
          rw [List.length_append] at hl
          have ei : i = m1.length := by simp only [List.length_cons, List.length_nil] at hl; omega
          subst ei
          rw [List.getElem?_append_right (Nat.le_refl _), Nat.sub_self] at z1
          rw [List.getElem?_append_right (by rw [S1.h.len]; exact Nat.le_refl _), S1.h.len, Nat.sub_self] at z2
          cases z1; cases z2
          exact ⟨f, g, vs, hv, R.mono (fun _ _ h => h) pr⟩
      · by_cases z : i < m1.length
        · rw [List.getElem?_append_left z] at z1
          by_cases y : j < m1.length
          · rw [List.getElem?_append_left y] at z2; exact S1.h.inj i j a z1 z2
          · have hl := (List.getElem?_eq_some_iff.mp z2).1
            rw [List.length_append] at hl
            have ej : j = m1.length := by simp only [List.length_cons, List.length_nil] at hl; omega
            subst ej
            rw [List.getElem?_append_right (Nat.le_refl _), Nat.sub_self] at z2
            cases z2
            exact absurd z1 (mm i)
        · have hl := (List.getElem?_eq_some_iff.mp z1).1
          rw [List.length_append] at hl
          have ei : i = m1.length := by simp only [List.length_cons, List.length_nil] at hl; omega
          subst ei
          rw [List.getElem?_append_right (Nat.le_refl _), Nat.sub_self] at z1
          cases z1
          by_cases y : j < m1.length
          · rw [List.getElem?_append_left y] at z2; exact absurd z2 (mm j)
          · have hl := (List.getElem?_eq_some_iff.mp z2).1
            rw [List.length_append] at hl
            simp only [List.length_cons, List.length_nil] at hl; omega
      · by_cases y : i < m1.length
        · rw [List.getElem?_append_left y] at z; exact S1.h.here i a z
        · have hl := (List.getElem?_eq_some_iff.mp z).1
          rw [List.length_append] at hl
          have ei : i = m1.length := by simp only [List.length_cons, List.length_nil] at hl; omega
          subst ei
          rw [List.getElem?_append_right (Nat.le_refl _), Nat.sub_self] at z
          cases z; exact ⟨_, hv⟩
      · by_cases y : i < m1.length
        · rw [List.getElem?_append_left y] at z; exact S1.h.mG i a z
        · have hl := (List.getElem?_eq_some_iff.mp z).1
          rw [List.length_append] at hl
          have ei : i = m1.length := by simp only [List.length_cons, List.length_nil] at hl; omega
          subst ei
          rw [List.getElem?_append_right (Nat.le_refl _), Nat.sub_self] at z
          cases z; exact g
      · by_cases y : i < m1.length
        · rw [List.getElem?_append_left y] at z1
          rw [List.getElem?_append_left (by rw [← S1.h.len]; exact y)] at z2
          exact S1.h.gn i a z1 z2
        · have hl := (List.getElem?_eq_some_iff.mp z1).1
          rw [List.length_append] at hl
          have ei : i = m1.length := by simp only [List.length_cons, List.length_nil] at hl; omega
          subst ei
          rw [List.getElem?_append_right (by rw [S1.h.len]; exact Nat.le_refl _), S1.h.len, Nat.sub_self] at z2
          cases z2
    · obtain ⟨b, q, l, f', g', mm', cc⟩ := S1.s.ownAt z1
      rw [z2] at q; cases q
      have np : a ≠ p := fun z => no ⟨i, x, z1, z ▸ z2⟩
      refine ⟨f', fun n e => ?_, rfl⟩
      by_cases y : n < m1.length
      · rw [List.getElem?_append_left y] at e; exact mm' n e
      · have hl := (List.getElem?_eq_some_iff.mp e).1
        rw [List.length_append] at hl
        have ei : n = m1.length := by simp only [List.length_cons, List.length_nil] at hl; omega
        subst ei
        rw [List.getElem?_append_right (Nat.le_refl _), Nat.sub_self] at e
        cases e; exact np rfl
    · rw [← S1.h.len, List.getElem?_append_right (Nat.le_refl _), Nat.sub_self]; rfl
/-! ### statements -/
variable {B : EA} {t1 t2 : TS}
theorem ws_seq (h : WS c t1 A { B with nx := fun A1 => WS c t2 A1 B }) : WS c (tSeq t1 t2) A B := fun F G m σ H S E Dc k =>
  h F G m σ H S E _ ⟨fun F1 m1 A1 σ1 H1 e1 p1 S1 q => q F1 G m1 σ1 H1 S1 (E.mono e1 p1) Dc (k.mono e1 p1), k.rt, k.bk, k.ct⟩
theorem ws_next (q : B.nx A) : WS c tNext A B := fun F G m σ H S E Dc k => k.nx F m A σ H (Evl.Ex.refl F) (Pre.refl m) S q
theorem ws_break (q : B.bk A) : WS c tBreak A B := fun F G m σ H S E Dc k => k.bk F m A σ H (Evl.Ex.refl F) (Pre.refl m) S q
theorem ws_cont (q : B.ct A) : WS c tCont A B := fun F G m σ H S E Dc k => k.ct F m A σ H (Evl.Ex.refl F) (Pre.refl m) S q
theorem ws_drop (h : WE c te A fun A1 _ => B.nx A1) : WS c (tDrop te) A B := fun F G m σ H S E Dc k => h F G m σ H S E _ fun F1 m1 A1 v H1 r e1 p1 S1 R1 q => k.nx F1 m1 A1 σ H1 e1 p1 S1 q
theorem ws_ret (h : WE c te A fun A1 r => Frz A1 r fun A2 d => B.rt A2.o d) : WS c (tRet te) A B := fun F G m σ H S E Dc k => (WE.frz h) F G m σ H S E _ fun F1 m1 A1 v H1 r e1 p1 S1 R1 ⟨d, ex, q⟩ => by
  subst ex; exact k.rt F1 m1 A1.o v d H1 e1 p1 S1.h R1 q
theorem ws_retN (q : B.rt A.o .non) : WS c tRetN A B := fun F G m σ H S E Dc k => k.rt F m A.o .non .non H (Evl.Ex.refl F) (Pre.refl m) S.h .non q
theorem ws_if (h : WT c t A fun A1 b => (b = true → WS c t1 A1 B) ∧ (b = false → WS c t2 A1 B)) : WS c (tIfS t t1 t2) A B := fun F G m σ H S E Dc k =>
  h F G m σ H S E _ fun F1 m1 A1 b H1 e1 p1 S1 q => by
    cases b with
    | true => exact q.1 rfl F1 G m1 σ H1 S1 (E.mono e1 p1) Dc (k.mono e1 p1)
    | false => exact q.2 rfl F1 G m1 σ H1 S1 (E.mono e1 p1) Dc (k.mono e1 p1)
theorem Sim.setV {K : PySem.W.Frag} {F G : Hp} {m : List Addr} {A : AS} {σ : St} {H : Hp} (S : Sim K F G m A σ H) {i : Nat} {v : V} {d : D} (r : Rep K F m v d) : Sim K F G m (A.setS i (.val d)) (σ.set i (some v)) H := ⟨S.h, S.s.setV r⟩
theorem ws_asg {i : Nat} (h : WE c te A fun A1 r => Frz A1 r fun A2 d => B.nx (A2.setS i (.val d))) : WS c (tAsg te (gName i)) A B := fun F G m σ H S E Dc k => (WE.frz h) F G m σ H S E _ fun F1 m1 A1 v H1 r e1 p1 S1 R1 ⟨d, ex, q⟩ => by
  subst ex; exact k.nx F1 m1 _ _ H1 e1 p1 (S1.setV R1) q
/-- a new list that the name alone has -/
theorem ws_asgO {i : Nat} (h : WN c te A fun A1 ds => B.nx (A1.setS i (.own (.lst ds)))) : WS c (tAsg te (gName i)) A B := fun F G m σ H S E Dc k => h F G m σ H S E _ fun F1 m1 A1 p vs H1 ds e1 p1 S1 f g mm no hv R q =>
  k.nx F1 m1 (A1.setS i (.own (.lst ds))) (σ.set i (some (.ref p))) H1 e1 p1 ⟨S1.h, S1.s.setO ⟨p, rfl, trivial, f, g, mm, vs, hv, R⟩ fun j c' z1 z2 => no ⟨j, c', z1, z2⟩⟩ q
theorem wg_name {i : Nat} {d : D} {Q : AS → Prop} (q : Q (A.setS i (.val d))) : WG c (gName i) d A Q := fun F G m σ H v S R E Qc k => k F m _ _ H (Evl.Ex.refl F) (Pre.refl m) (S.setV R) q
def WGs (c : Ct) (g : TGs) (ds : List D) (A : AS) (Q : AS → Prop) : Prop := ∀ F G m σ H vs, Sim c.K F G m A σ H → Reps c.K F m vs ds → EOk c F G m → ∀ Qc : St → Hp → Prop,
  (∀ F' m' A' σ' H', Ex F F' → Pre m m' → Sim c.K F' G m' A' σ' H' → Q A' → Qc σ' H') → g vs σ H Qc
theorem wgs_nil {Q : AS → Prop} (q : Q A) : WGs c gNil [] A Q := fun F G m σ H vs S R E Qc k => by
  cases R; exact ⟨rfl, k F m A σ H (Evl.Ex.refl F) (Pre.refl m) S q⟩
theorem wgs_cons {g : TG} {gs : TGs} {d : D} {ds : List D} {Q : AS → Prop} (h : WG c g d A fun A1 => WGs c gs ds A1 Q) : WGs c (gCons g gs) (d :: ds) A Q := fun F G m σ H vs S R E Qc k => by
  cases R with
  | cons a r => exact ⟨_, _, rfl, h F G m σ H _ S a E _ fun F1 m1 A1 σ1 H1 e1 p1 S1 q => q F1 G m1 σ1 H1 _ S1 (r.mono e1 p1) (E.mono e1 p1) Qc fun F2 m2 A2 σ2 H2 e2 p2 S2 q2 => k F2 m2 A2 σ2 H2 (e1.trans e2) (p1.trans p2) S2 q2⟩
theorem wg_tup {n : Nat} {gs : TGs} {ds : List D} {Q : AS → Prop} (hn : ds.length = n) (h : WGs c gs ds A Q) : WG c (gTup c.K n gs) (.tup ds) A Q := fun F G m σ H v S R E Qc k => by
  cases R with
  | tup hs r => exact ⟨_, _, rfl, Evl.ex_t S.h.exF hs.seq, by rw [r.len]; exact hn, h F G m σ H _ S r E Qc k⟩
theorem wg_sct {n : Nat} {gs : TGs} {ds : List D} {Q : AS → Prop} (hn : ds.length = n) (h : WGs c gs ds A Q) : WG c (gTup c.K n gs) (.sct ds) A Q := fun F G m σ H v S R E Qc k => by
  cases R with
  | sct hs r => exact ⟨_, _, rfl, Evl.ex_t S.h.exF hs, by rw [r.len]; exact hn, h F G m σ H _ S r E Qc k⟩
theorem ws_asgG {g : TG} (h : WE c te A fun A1 r => Frz A1 r fun A2 d => WG c g d A2 B.nx) : WS c (tAsg te g) A B := fun F G m σ H S E Dc k => (WE.frz h) F G m σ H S E _ fun F1 m1 A1 v H1 r e1 p1 S1 R1 ⟨d, ex, q⟩ => by
  subst ex; exact q F1 G m1 σ H1 v S1 R1 (E.mono e1 p1) _ fun F2 m2 A2 σ2 H2 e2 p2 S2 q2 => k.nx F2 m2 A2 σ2 H2 (e1.trans e2) (p1.trans p2) S2 q2
/-! ### loops -/
theorem ws_for {wi : TI} {g : TG} {tb : TS} (I : List D → Nat → AS → Prop) (h : WI c wi A fun A1 ds => I ds 0 A1 ∧ (∀ i d A2, ds[i]? = some d → I ds i A2 → WG c g d A2 fun A3 => WS c tb A3 { nx := I ds (i + 1), ct := I ds (i + 1), bk := B.nx, rt := B.rt }) ∧ ∀ A2, I ds ds.length A2 → B.nx A2) :
    WS c (tFor wi g tb) A B := fun F G m σ H S E Dc k => h F G m σ H S E _ fun F1 m1 A1 J H1 ds e1 p1 S1 RJ ⟨h0, hs, hd⟩ => by
  refine ⟨fun i n σ2 H2 => n = ds.length - i ∧ i ≤ ds.length ∧ ∃ F2 m2 A2, Ex F1 F2 ∧ Pre m1 m2 ∧ Sim c.K F2 G m2 A2 σ2 H2 ∧ I ds i A2, ⟨_, rfl, Nat.zero_le _, F1, m1, A1, Evl.Ex.refl _, Pre.refl _, S1, h0⟩, fun i n σ2 H2 hw => ?_⟩
  obtain ⟨rfl, hi, F2, m2, A2, e2, p2, S2, q2⟩ := hw
  obtain ⟨r1, r2⟩ := RJ F2 G m2 A2 σ2 H2 e2 p2 S2 i
  by_cases hl : i < ds.length
  · obtain ⟨g1, g2⟩ := r1 _ (List.getElem?_eq_getElem hl)
    refine .inr ⟨g1, fun σ3 H3 => ∃ F3 m3 A3, Ex F1 F3 ∧ Pre m1 m3 ∧ Sim c.K F3 G m3 A3 σ3 H3 ∧ I ds (i + 1) A3, fun σ3 H3 hN => ?_, fun x H3 hy => ?_⟩
    · exact ⟨ds.length - (i + 1), by omega, rfl, hl, hN⟩
    · obtain ⟨F3, e3, S3, R3⟩ := g2 x H3 hy
      refine hs i _ A2 (List.getElem?_eq_getElem hl) q2 F3 G m2 σ2 H3 x S3 R3 (E.mono ((e1.trans e2).trans e3) (p1.trans p2)) _ fun F4 m4 A4 σ4 H4 e4 p4 S4 q4 => ?_
      have f1 := e2.trans (e3.trans e4)
      have f2 := p2.trans p4
      refine q4 F4 G m4 σ4 H4 S4 (E.mono (e1.trans f1) (p1.trans f2)) _ ⟨fun F5 m5 A5 σ5 H5 e5 p5 S5 q5 => ⟨F5, m5, A5, f1.trans e5, f2.trans p5, S5, q5⟩, (k.mono (e1.trans f1) (p1.trans f2)).rt, fun F5 m5 A5 σ5 H5 e5 p5 S5 q5 => k.nx F5 m5 A5 σ5 H5 ((e1.trans f1).trans e5) ((p1.trans f2).trans p5) S5 q5, fun F5 m5 A5 σ5 H5 e5 p5 S5 q5 => ⟨F5, m5, A5, f1.trans e5, f2.trans p5, S5, q5⟩⟩
  · have : i = ds.length := by omega
    subst this
    exact .inl ⟨r2 (Nat.le_refl _), k.nx F2 m2 A2 σ2 H2 (e1.trans e2) (p1.trans p2) S2 (hd A2 q2)⟩
theorem ws_while {tc : TT} {tb : TS} (I : Nat → AS → Prop) (n0 : Nat) (h0 : I n0 A) (hs : ∀ n A1, I n A1 → WT c tc A1 fun A2 b => (b = true → WS c tb A2 { nx := fun A3 => ∃ n', n' < n ∧ I n' A3, ct := fun A3 => ∃ n', n' < n ∧ I n' A3, bk := B.nx, rt := B.rt }) ∧ (b = false → B.nx A2)) :
    WS c (tWhile tc tb) A B := fun F G m σ H S E Dc k => by
  refine ⟨fun n σ2 H2 => ∃ F2 m2 A2, Ex F F2 ∧ Pre m m2 ∧ Sim c.K F2 G m2 A2 σ2 H2 ∧ I n A2, ⟨n0, F, m, A, Evl.Ex.refl _, Pre.refl _, S, h0⟩, fun n σ2 H2 hw => ?_⟩
  obtain ⟨F2, m2, A2, e2, p2, S2, q2⟩ := hw
  refine hs n A2 q2 F2 G m2 σ2 H2 S2 (E.mono e2 p2) _ fun F3 m3 A3 b H3 e3 p3 S3 q3 => ?_
  cases b with
  | true =>
    have f1 := e2.trans e3
    have f2 := p2.trans p3
    refine ⟨fun σ4 H4 => ∃ F4 m4 A4, Ex F F4 ∧ Pre m m4 ∧ Sim c.K F4 G m4 A4 σ4 H4 ∧ ∃ n', n' < n ∧ I n' A4, fun σ4 H4 ⟨F4, m4, A4, x1, x2, x3, n', x4, x5⟩ => ⟨n', x4, F4, m4, A4, x1, x2, x3, x5⟩, ?_⟩
    exact q3.1 rfl F3 G m3 σ2 H3 S3 (E.mono f1 f2) _ ⟨fun F5 m5 A5 σ5 H5 e5 p5 S5 q5 => ⟨F5, m5, A5, f1.trans e5, f2.trans p5, S5, q5⟩, (k.mono f1 f2).rt, fun F5 m5 A5 σ5 H5 e5 p5 S5 q5 => k.nx F5 m5 A5 σ5 H5 (f1.trans e5) (f2.trans p5) S5 q5, fun F5 m5 A5 σ5 H5 e5 p5 S5 q5 => ⟨F5, m5, A5, f1.trans e5, f2.trans p5, S5, q5⟩⟩
  | false => exact k.nx F3 m3 A3 σ2 H3 (e2.trans e3) (p2.trans p3) S3 (q3.2 rfl)
end
end AL

namespace AL
open PySem L2
/-! ### contents -/
def lsOf (A : AS) : RV → Option (List D)
  | .val (.lst ds) => some ds
  | .val (.scr ds) => some ds
  | .val (.ptr n) => match A.o[n]? with
    | some (.lst ds) => some ds
    | _ => none
  | .slot i => match A.s[i]? with
    | some (some (.own (.lst ds))) => some ds
    | _ => none
  | _ => none
def tpOf : RV → Option (List D)
  | .val (.tup ds) => some ds
  | .val (.sct ds) => some ds
  | _ => none
section
variable {K : PySem.W.Frag} {F G : Hp} {m : List Addr} {A : AS} {σ : St} {H : Hp} {v : V} {r : RV} {ds : List D}
theorem rep_ls (S : Sim K F G m A σ H) (R : RepR K F m A σ v r) (h : lsOf A r = some ds) : ∃ a vs, v = .ref a ∧ SqL K H a vs ∧ Reps K F m vs ds := by
  cases r with
  | val d =>
    cases d with
    | lst es => cases h; cases R with | lst e q => exact ⟨_, _, rfl, .inl (.inl (S.h.exF _ _ e)), q⟩
    | scr es => cases h; cases R with | scr e q => exact ⟨_, _, rfl, Evl.ex_l S.h.exF e, q⟩
    | ptr n =>
      cases R with
      | ptr e =>
        simp only [lsOf] at h
        split at h
        · rename_i es eo
          cases h
          obtain ⟨_, _, vs, hv, rv⟩ := S.h.cell n _ _ e eo trivial
          exact ⟨_, vs, rfl, .inl (.inl hv), rv⟩
        · cases h
    | _ => simp [lsOf] at h
  | slot i =>
    obtain ⟨e1, x, e2⟩ := R
    simp only [lsOf, e2] at h
    cases x with
    | lst es =>
      cases h
      obtain ⟨a, q, _, _, _, _, vs, hv, rv⟩ := S.s.ownAt e2
      rw [e1] at q; cases q
      exact ⟨a, vs, rfl, .inl (.inl hv), rv⟩
    | _ => simp at h
theorem rep_tp (S : Sim K F G m A σ H) (R : RepR K F m A σ v r) (h : tpOf r = some ds) : ∃ a vs, v = .ref a ∧ SqT K H a vs ∧ Reps K F m vs ds := by
  cases r with
  | val d =>
    cases d with
    | tup es => cases h; cases R with | tup e q => exact ⟨_, _, rfl, Evl.ex_t S.h.exF e.seq, q⟩
    | sct es => cases h; cases R with | sct e q => exact ⟨_, _, rfl, Evl.ex_t S.h.exF e, q⟩
    | _ => simp [tpOf] at h
  | slot i => simp [tpOf] at h
/-- a list that is no script: it stands exactly -/
def lxOf (A : AS) : RV → Option (List D)
  | .val (.scr _) => none
  | r => lsOf A r
theorem rep_lx (S : Sim K F G m A σ H) (R : RepR K F m A σ v r) (h : lxOf A r = some ds) : ∃ a vs, v = .ref a ∧ H a = some (.lst vs) ∧ Reps K F m vs ds := by
  cases r with
  | val d =>
    cases d with
    | lst es => cases h; cases R with | lst e q => exact ⟨_, _, rfl, S.h.exF _ _ e, q⟩
    | ptr n =>
      cases R with
      | ptr e =>
        simp only [lxOf, lsOf] at h
        split at h
        · rename_i es eo
          cases h
          obtain ⟨_, _, vs, hv, rv⟩ := S.h.cell n _ _ e eo trivial
          exact ⟨_, vs, rfl, hv, rv⟩
        · cases h
    | _ => simp [lxOf, lsOf] at h
  | slot i =>
    obtain ⟨e1, x, e2⟩ := R
    simp only [lxOf, lsOf, e2] at h
    cases x with
    | lst es =>
      cases h
      obtain ⟨a, q, _, _, _, _, vs, hv, rv⟩ := S.s.ownAt e2
      rw [e1] at q; cases q
      exact ⟨a, vs, rfl, hv, rv⟩
    | _ => simp at h
end
section
variable {c : Ct} {A : AS} {te ta tb : TE} {t u tt : TT} {x y : RV} {Q : QE}
/-! ### operators of ints -/
theorem od_I {C : Int → Int → Prop} {g : Int → Int → V} {i j n : Int} (hC : C i j) (hg : g i j = .int n) (q : Q A (.val (.int n))) : OpD c (rI C g) (.val (.int i)) (.val (.int j)) A Q := fun F G m σ H v w S E R1 R2 Qc k => by
  cases R1; cases R2
  exact ⟨i, j, rfl, rfl, hC, by rw [hg]; exact k F m A _ H (.val (.int n)) (Evl.Ex.refl F) (Pre.refl m) S (Rep.int n) q⟩
theorem od_I0 {g : Int → Int → V} {i j n : Int} (hg : g i j = .int n) (q : Q A (.val (.int n))) : OpD c (rI0 g) (.val (.int i)) (.val (.int j)) A Q := fun F G m σ H v w S E R1 R2 Qc k => by
  cases R1; cases R2
  exact ⟨i, j, rfl, rfl, by rw [hg]; exact k F m A _ H (.val (.int n)) (Evl.Ex.refl F) (Pre.refl m) S (Rep.int n) q⟩
theorem od_B0 {g : Int → Int → V} {i j : Int} {b : Bool} (hg : g i j = .bl b) (q : Q A (.val (.bl b))) : OpD c (rI0 g) (.val (.int i)) (.val (.int j)) A Q := fun F G m σ H v w S E R1 R2 Qc k => by
  cases R1; cases R2
  exact ⟨i, j, rfl, rfl, by rw [hg]; exact k F m A _ H (.val (.bl b)) (Evl.Ex.refl F) (Pre.refl m) S (Rep.bl b) q⟩
theorem od_l {r s : R2} (h : OpD c r x y A Q) : OpD c (orR r s) x y A Q := fun F G m σ H v w S E R1 R2 Qc k => .inl (h F G m σ H v w S E R1 R2 Qc k)
theorem od_r {r s : R2} (h : OpD c s x y A Q) : OpD c (orR r s) x y A Q := fun F G m σ H v w S E R1 R2 Qc k => .inr (h F G m σ H v w S E R1 R2 Qc k)
def rAddS : R2 := fun x y H Q => ∃ i j, x = .str i ∧ y = .str j ∧ i.length + j.length ≤ sizeLine ∧ Q (.str (i ++ j)) H
def rAddA (K : PySem.W.Frag) : R2 := orR (rI0 fun i j => .int (i + j)) (orR rCat (orR (rCatP K) rAddS))
def rSubA : R2 := rI0 fun i j => .int (i - j)
def rMulA : R2 := orR (rI CMul fun i j => .int (i * j)) (orR (rI CMulW fun i j => .int (i * j)) rRep)
def rDivA : R2 := orR (rI CDivN fun i j => .int (i.fdiv j)) (rI CDivW fun i j => .int (i / j))
def rModA : R2 := rI (fun _ j => j ≠ 0) fun i j => .int (i.fmod j)
def rPowA : R2 := rI CPow fun i j => .int (i ^ j.toNat)
def rLtA : R2 := rI0 fun i j => .bl (decide (i < j))
def rLeA : R2 := rI0 fun i j => .bl (decide (i ≤ j))
def rGtA : R2 := rI0 fun i j => .bl (decide (j < i))
def rGeA : R2 := rI0 fun i j => .bl (decide (j ≤ i))
def rEqA (K : PySem.W.Frag) : R2 := orR rEq (rEqD K)
def rNeA (K : PySem.W.Frag) : R2 := orR rNe (rNeD K)
def rIsA : R2 := fun x y H Q => y = .non ∧ Q (.bl (decide (x = .non))) H
def rNotA : R2 := fun x y H Q => y = .non ∧ Q (.bl (!decide (x = .non))) H
def rInA (K : PySem.W.Frag) : R2 := rIn K false
def rNinA (K : PySem.W.Frag) : R2 := rIn K true
section
variable {X : Cx}
theorem op_addA : OpR X (binaryOp .Add) (rAddA X.K) := op_or op_add (op_or op_cat (op_or op_catP op_add_str))
theorem op_subA : OpR X (binaryOp .Sub) rSubA := op_sub
theorem op_mulA : OpR X (binaryOp .Mult) rMulA := op_or op_mul (op_or op_mulW op_rep)
theorem op_divA : OpR X (binaryOp .FloorDiv) rDivA := op_or op_fdivN op_fdivW
theorem op_modA : OpR X (binaryOp .Mod) rModA := op_modN
theorem op_powA : OpR X (binaryOp .Pow) rPowA := op_pow
theorem op_ltA : OpR X (compareOp .Lt) rLtA := op_lt
theorem op_leA : OpR X (compareOp .LtE) rLeA := op_le
theorem op_gtA : OpR X (compareOp .Gt) rGtA := op_gt
theorem op_geA : OpR X (compareOp .GtE) rGeA := op_ge
theorem op_eqA (hu : X.A.units + 64 < cLine) : OpR X (compareOp .Eq) (rEqA X.K) := op_or op_eq (op_eqD hu)
theorem op_neA (hu : X.A.units + 64 < cLine) : OpR X (compareOp .NotEq) (rNeA X.K) := op_or op_ne (op_neD hu)
theorem op_isA : OpR X (compareOp .Is) rIsA := op_isN
theorem op_notA : OpR X (compareOp .IsNot) rNotA := op_notN
theorem op_inA : OpR X (compareOp .In) (rInA X.K) := op_in_seq
theorem op_ninA : OpR X (compareOp .NotIn) (rNinA X.K) := op_notIn_seq
end
theorem od_add {i j : Int} (q : Q A (.val (.int (i + j)))) : OpD c (rAddA c.K) (.val (.int i)) (.val (.int j)) A Q := od_l (od_I0 rfl q)
theorem od_sub {i j : Int} (q : Q A (.val (.int (i - j)))) : OpD c rSubA (.val (.int i)) (.val (.int j)) A Q := od_I0 rfl q
/-- one of the factors is below 2 ^ 64 -/
theorem od_mul {i j : Int} (h : CMul i j ∨ CMulW i j) (q : Q A (.val (.int (i * j)))) : OpD c rMulA (.val (.int i)) (.val (.int j)) A Q := h.elim (fun h => od_l (od_I h rfl q)) fun h => od_r (od_l (od_I h rfl q))
theorem od_div {i j : Int} (h : 0 < j ∧ (j < 1073741824 ∨ j.natAbs.log2 < 9000)) (q : Q A (.val (.int (i / j)))) : OpD c rDivA (.val (.int i)) (.val (.int j)) A Q := by
  rcases h with ⟨h0, h1 | h1⟩
  · exact od_l (od_I (C := CDivN) ⟨by omega, by omega⟩ (show V.int (i.fdiv j) = _ by rw [Int.fdiv_eq_ediv_of_nonneg _ (by omega)]) q)
  · exact od_r (od_I (C := CDivW) ⟨h0, h1⟩ rfl q)
theorem od_mod {i j : Int} (h : 0 < j) (q : Q A (.val (.int (i % j)))) : OpD c rModA (.val (.int i)) (.val (.int j)) A Q := od_I (by omega) (show V.int (i.fmod j) = _ by rw [Int.fmod_eq_emod_of_nonneg _ (by omega)]) q
theorem od_pow {i j : Int} (h : CPow i j) (q : Q A (.val (.int (i ^ j.toNat)))) : OpD c rPowA (.val (.int i)) (.val (.int j)) A Q := od_I h rfl q
theorem od_lt {i j : Int} (q : Q A (.val (.bl (decide (i < j))))) : OpD c rLtA (.val (.int i)) (.val (.int j)) A Q := od_B0 rfl q
theorem od_le {i j : Int} (q : Q A (.val (.bl (decide (i ≤ j))))) : OpD c rLeA (.val (.int i)) (.val (.int j)) A Q := od_B0 rfl q
theorem od_gt {i j : Int} (q : Q A (.val (.bl (decide (j < i))))) : OpD c rGtA (.val (.int i)) (.val (.int j)) A Q := od_B0 rfl q
theorem od_ge {i j : Int} (q : Q A (.val (.bl (decide (j ≤ i))))) : OpD c rGeA (.val (.int i)) (.val (.int j)) A Q := od_B0 rfl q
/-! ### == -/
/-- scalars, beside one another -/
def scD : D → D → Option Bool
  | .non, .non => some true
  | .int i, .int j => some (decide (i = j))
  | .bl a, .bl b => some (decide (a = b))
  | .str a, .str b => some (decide (a = b))
  | .non, .int _ => some false
  | .int _, .non => some false
  | .non, .bl _ => some false
  | .bl _, .non => some false
  | .non, .str _ => some false
  | .str _, .non => some false
  | .int _, .str _ => some false
  | .str _, .int _ => some false
  | .bl _, .str _ => some false
  | .str _, .bl _ => some false
  | _, _ => none
theorem scD_ok {K : PySem.W.Frag} {F : Hp} {m : List Addr} {v w : V} {d e : D} {b : Bool} (R1 : Rep K F m v d) (R2 : Rep K F m w e) (h : scD d e = some b) : scal v w = true ∧ decide (v = w) = b := by
  cases R1 <;> cases R2 <;> simp only [scD, Option.some.injEq, reduceCtorEq] at h <;> subst h <;> first
    | exact ⟨rfl, by simp⟩
    | exact ⟨rfl, rfl⟩
theorem od_eqS {d e : D} {b : Bool} (h : scD d e = some b) (q : Q A (.val (.bl b))) : OpD c (rEqA c.K) (.val d) (.val e) A Q := fun F G m σ H v w S E R1 R2 Qc k => by
  obtain ⟨h1, h2⟩ := scD_ok R1 R2 h
  exact .inl ⟨h1, by rw [h2]; exact k F m A _ H (.val (.bl b)) (Evl.Ex.refl F) (Pre.refl m) S (Rep.bl b) q⟩
theorem od_neS {d e : D} {b : Bool} (h : scD d e = some b) (q : Q A (.val (.bl (!b)))) : OpD c (rNeA c.K) (.val d) (.val e) A Q := fun F G m σ H v w S E R1 R2 Qc k => by
  obtain ⟨h1, h2⟩ := scD_ok R1 R2 h
  exact .inl ⟨h1, by rw [h2]; exact k F m A _ H (.val (.bl (!b))) (Evl.Ex.refl F) (Pre.refl m) S (Rep.bl (!b)) q⟩
mutual
inductive Py : D → PyData → Prop where
  | non : Py .non .none
  | bl (b : Bool) : Py (.bl b) (.bool b)
  | int (i : Int) : Py (.int i) (.int i)
  | str (x : Str) : Py (.str x) (.str x)
  | lst {ds : List D} {ps : List PyData} : Pys ds ps → Py (.lst ds) (.list ps)
  | scr {ds : List D} {ps : List PyData} : Pys ds ps → Py (.scr ds) (.list ps)
  | tup {ds : List D} {ps : List PyData} : Pys ds ps → Py (.tup ds) (.tuple ps)
  | sct {ds : List D} {ps : List PyData} : Pys ds ps → Py (.sct ds) (.tuple ps)
inductive Pys : List D → List PyData → Prop where
  | nil : Pys [] []
  | cons {d : D} {p : PyData} {ds : List D} {ps : List PyData} : Py d p → Pys ds ps → Pys (d :: ds) (p :: ps)
end
section
variable {K : PySem.W.Frag} {F H : Hp} {m : List Addr}
mutual
theorem Py.dp (e : Ex F H) : ∀ {d : D} {p : PyData} {v : V}, Py d p → Rep K F m v d → Dp K H v p
  | _, _, _, .non, .non => .non
  | _, _, _, .bl b, .bl _ => .bl b
  | _, _, _, .int i, .int _ => .int i
  | _, _, _, .str x, .str _ => .str x
  | _, _, _, .lst h, .lst a r => .lst (.inl (.inl (e _ _ a))) (Pys.dp e h r)
  | _, _, _, .scr h, .scr a r => .lst (Evl.ex_l e a) (Pys.dp e h r)
  | _, _, _, .tup h, .tup a r => .tup (Evl.ex_t e a.seq) (Pys.dp e h r)
  | _, _, _, .sct h, .sct a r => .tup (Evl.ex_t e a) (Pys.dp e h r)
theorem Pys.dp (e : Ex F H) : ∀ {d : List D} {p : List PyData} {v : List V}, Pys d p → Reps K F m v d → DpAll K H v p
  | _, _, _, .nil, .nil => .nil
  | _, _, _, .cons h t, .cons a r => .cons (Py.dp e h a) (Pys.dp e t r)
end
end
theorem pys_ints : ∀ ns : List Int, Pys (ns.map .int) (ns.map .int)
  | [] => .nil
  | n :: ns => .cons (.int n) (pys_ints ns)
theorem pys_map {α : Type} {f : α → D} {g : α → PyData} (h : ∀ a, Py (f a) (g a)) : ∀ xs : List α, Pys (xs.map f) (xs.map g)
  | [] => .nil
  | x :: xs => .cons (h x) (pys_map h xs)
/-- a value, or an own list, that is pure data -/
def PyR (A : AS) (r : RV) (p : PyData) : Prop := match r with
  | .val (.ptr n) => ∃ ds ps, A.o[n]? = some (.lst ds) ∧ Pys ds ps ∧ p = .list ps
  | .val d => Py d p
  | .slot i => ∃ ds ps, A.s[i]? = some (some (.own (.lst ds))) ∧ Pys ds ps ∧ p = .list ps
theorem PyR.dp {K : PySem.W.Frag} {F G H : Hp} {m : List Addr} {σ : St} {v : V} {r : RV} {p : PyData} (S : Sim K F G m A σ H) (R : RepR K F m A σ v r) (h : PyR A r p) : Dp K H v p := by
  cases r with
  | slot i =>
    obtain ⟨ds, ps, e, hp, rfl⟩ := h
    obtain ⟨e1, x, e2⟩ := R
    obtain ⟨a, q, _, _, _, _, vs, hv, rv⟩ := S.s.ownAt e
    rw [e1] at q; cases q
    exact .lst (.inl (.inl hv)) (hp.dp S.h.exF rv)
  | val d =>
    cases d with
    | ptr n =>
      obtain ⟨ds, ps, e, hp, rfl⟩ := h
      cases R with
      | ptr e1 =>
        obtain ⟨_, _, vs, hv, rv⟩ := S.h.cell n _ _ e1 e trivial
        exact .lst (.inl (.inl hv)) (hp.dp S.h.exF rv)
    | _ => exact Py.dp S.h.exF h R
theorem od_eqD {p q : PyData} {b : Bool} (hx : PyR A x p) (hy : PyR A y q) (s1 : SeqAt.shaped p = true) (s2 : SeqAt.shaped q = true) (hb : PyData.eqv p q = b) (k : Q A (.val (.bl b))) : OpD c (rEqA c.K) x y A Q := fun F G m σ H v w S E R1 R2 Qc kc =>
  .inr ⟨p, q, hx.dp S R1, hy.dp S R2, s1, s2, by rw [hb]; exact kc F m A _ H (.val (.bl b)) (Evl.Ex.refl F) (Pre.refl m) S (Rep.bl b) k⟩
theorem od_neD {p q : PyData} {b : Bool} (hx : PyR A x p) (hy : PyR A y q) (s1 : SeqAt.shaped p = true) (s2 : SeqAt.shaped q = true) (hb : PyData.eqv p q = b) (k : Q A (.val (.bl (!b)))) : OpD c (rNeA c.K) x y A Q := fun F G m σ H v w S E R1 R2 Qc kc =>
  .inr ⟨p, q, hx.dp S R1, hy.dp S R2, s1, s2, by rw [hb]; exact kc F m A _ H (.val (.bl (!b))) (Evl.Ex.refl F) (Pre.refl m) S (Rep.bl (!b)) k⟩
/-! ### is None -/
def isNon : RV → Bool
  | .val .non => true
  | _ => false
theorem isNon_ok {K : PySem.W.Frag} {F : Hp} {m : List Addr} {σ : St} {v : V} {H G : Hp} (S : Sim K F G m A σ H) (R : RepR K F m A σ v x) : decide (v = .non) = isNon x := by
  cases x with
  | val d => cases R <;> rfl
  | slot i =>
    obtain ⟨e1, z, e2⟩ := R
    obtain ⟨a, q, _⟩ := S.s.ownAt e2
    rw [e1] at q; cases q; rfl
theorem od_is {b : Bool} (hb : isNon x = b) (q : Q A (.val (.bl b))) : OpD c rIsA x (.val .non) A Q := fun F G m σ H v w S E R1 R2 Qc k => by
  cases R2; exact ⟨rfl, by rw [isNon_ok S R1, hb]; exact k F m A _ H (.val (.bl b)) (Evl.Ex.refl F) (Pre.refl m) S (Rep.bl b) q⟩
theorem od_not {b : Bool} (hb : isNon x = b) (q : Q A (.val (.bl (!b)))) : OpD c rNotA x (.val .non) A Q := fun F G m σ H v w S E R1 R2 Qc k => by
  cases R2; exact ⟨rfl, by rw [isNon_ok S R1, hb]; exact k F m A _ H (.val (.bl (!b))) (Evl.Ex.refl F) (Pre.refl m) S (Rep.bl (!b)) q⟩
theorem ud_neg {i : Int} (q : Q A (.val (.int (-i)))) : UnD c (rU fun i => .int (-i)) (.val (.int i)) A Q := fun F G m σ H v S E R1 Qc k => by
  cases R1; exact ⟨i, rfl, k F m A _ H (.val (.int (-i))) (Evl.Ex.refl F) (Pre.refl m) S (Rep.int _) q⟩
/-! ### places -/
theorem atI_reps {K : PySem.W.Frag} {F : Hp} {m : List Addr} {vs : List V} {ds : List D} {i : Int} {d : D} (r : Reps K F m vs ds) (h : atI ds i = some d) : ∃ v, atI vs i = some v ∧ Rep K F m v d := by
  unfold atI at h ⊢
  rw [r.len]
  cases e : ixN ds.length i with
  | none => rw [e] at h; cases h
  | some j => rw [e] at h; exact r.get h
theorem od_ixL {ds : List D} {i : Int} {d : D} (hx : lsOf A x = some ds) (hd : atI ds i = some d) (q : Q A (.val d)) : OpD c (rIx c.K) x (.val (.int i)) A Q := fun F G m σ H v w S E R1 R2 Qc k => by
  obtain ⟨a, vs, rfl, hs, r⟩ := rep_ls S R1 hx
  cases R2
  obtain ⟨v, e, rv⟩ := atI_reps r hd
  exact .inl ⟨a, vs, i, v, rfl, rfl, hs, e, k F m A _ H (.val d) (Evl.Ex.refl F) (Pre.refl m) S rv q⟩
theorem od_ixT {ds : List D} {i : Int} {d : D} (hx : tpOf x = some ds) (hd : atI ds i = some d) (q : Q A (.val d)) : OpD c (rIx c.K) x (.val (.int i)) A Q := fun F G m σ H v w S E R1 R2 Qc k => by
  obtain ⟨a, vs, rfl, hs, r⟩ := rep_tp S R1 hx
  cases R2
  obtain ⟨v, e, rv⟩ := atI_reps r hd
  exact .inr (.inl ⟨a, vs, i, v, rfl, rfl, hs, e, k F m A _ H (.val d) (Evl.Ex.refl F) (Pre.refl m) S rv q⟩)
/-! ### builtins -/
inductive RepRs (K : PySem.W.Frag) (F : Hp) (m : List Addr) (A : AS) (σ : St) : List V → List RV → Prop where
  | nil : RepRs K F m A σ [] []
  | cons {v : V} {r : RV} {vs : List V} {rs : List RV} : RepR K F m A σ v r → RepRs K F m A σ vs rs → RepRs K F m A σ (v :: vs) (r :: rs)
def WAr (c : Ct) (t : TA) (A : AS) (Q : AS → List RV → Prop) : Prop := ∀ F G m σ H, Sim c.K F G m A σ H → EOk c F G m → ∀ Qc : List V → Hp → Prop,
  (∀ F' m' A' vs H' rs, Ex F F' → Pre m m' → Sim c.K F' G m' A' σ H' → RepRs c.K F' m' A' σ vs rs → Q A' rs → Qc vs H') → t σ H Qc
theorem war_nil {Q : AS → List RV → Prop} (q : Q A []) : WAr c tNil A Q := fun F G m σ H S E Qc k => k F m A [] H [] (Evl.Ex.refl F) (Pre.refl m) S .nil q
theorem war_cons {tr : TA} {Q : AS → List RV → Prop} (h : WE c ta A fun A1 r => WAr c tr A1 fun A2 rs => Stays A1 A2 r ∧ Q A2 (r :: rs)) : WAr c (tCons ta tr) A Q := fun F G m σ H S E Qc k =>
  h F G m σ H S E _ fun F1 m1 A1 v H1 x e1 p1 S1 R1 q => q F1 G m1 σ H1 S1 (E.mono e1 p1) _ fun F2 m2 A2 vs H2 rs e2 p2 S2 R2 q2 => k F2 m2 A2 _ H2 _ (e1.trans e2) (p1.trans p2) S2 (.cons (R1.stay e2 p2 q2.1) R2) q2.2
def CbD (c : Ct) (r : List V → Hp → VK → Prop) (rs : List RV) (A : AS) (Q : QE) : Prop := ∀ F G m σ H vs, Sim c.K F G m A σ H → EOk c F G m → RepRs c.K F m A σ vs rs → ∀ Qc : VK,
  (∀ F' m' A' v H' r, Ex F F' → Pre m m' → Sim c.K F' G m' A' σ H' → RepR c.K F' m' A' σ v r → Q A' r → Qc v H') → r vs H Qc
theorem we_cb {r : List V → Hp → VK → Prop} {ta : TA} (h : WAr c ta A fun A1 rs => CbD c r rs A1 Q) : WE c (tCB r ta) A Q := fun F G m σ H S E Qc k =>
  h F G m σ H S E _ fun F1 m1 A1 vs H1 rs e1 p1 S1 R1 q => q F1 G m1 σ H1 vs S1 (E.mono e1 p1) R1 Qc fun F2 m2 A2 v H2 r e2 p2 S2 R2 q2 => k F2 m2 A2 v H2 r (e1.trans e2) (p1.trans p2) S2 R2 q2
/-- a builtin that gives a new list -/
def CbN (c : Ct) (r : List V → Hp → VK → Prop) (rs : List RV) (A : AS) (Q : AS → List D → Prop) : Prop := ∀ F G m σ H vs, Sim c.K F G m A σ H → EOk c F G m → RepRs c.K F m A σ vs rs → ∀ Qc : VK,
  (∀ F' m' A' p vs H' ds, Ex F F' → Pre m m' → Sim c.K F' G m' A' σ H' → F' p = none → G p = none → (∀ n : Nat, m'[n]? ≠ some p) → ¬ IsOwn A'.s σ p → H' p = some (.lst vs) → Reps c.K F' m' vs ds → Q A' ds → Qc (.ref p) H') → r vs H Qc
theorem wn_cb {r : List V → Hp → VK → Prop} {ta : TA} {Q : AS → List D → Prop} (h : WAr c ta A fun A1 rs => CbN c r rs A1 Q) : WN c (tCB r ta) A Q := fun F G m σ H S E Qc k =>
  h F G m σ H S E _ fun F1 m1 A1 vs H1 rs e1 p1 S1 R1 q => q F1 G m1 σ H1 vs S1 (E.mono e1 p1) R1 Qc fun F2 m2 A2 p vs2 H2 ds e2 p2 => k F2 m2 A2 p vs2 H2 ds (e1.trans e2) (p1.trans p2)
def rIntA : List V → Hp → VK → Prop := fun xs H Q => (∃ i, xs = [.int i] ∧ Q (.int i) H) ∨ ∃ k, xs = [.bl k] ∧ Q (.int (if k then 1 else 0)) H
def rAbsA : List V → Hp → VK → Prop := fun xs H Q => ∃ i, xs = [.int i] ∧ Q (.int (if i < 0 then -i else i)) H
def rLenA (K : PySem.W.Frag) : List V → Hp → VK → Prop := fun xs H Q => ∃ x n, xs = [x] ∧ LenV K x H n ∧ Q (.int n) H
def rListA (K : PySem.W.Frag) : List V → Hp → VK → Prop := fun xs H Q => ∃ p ys, xs = [.ref p] ∧ (SqL K H p ys ∨ SqT K H p ys) ∧ ∀ l, H l = none → Q (.ref l) (upd H l (.lst ys))
def rMax2A : List V → Hp → VK → Prop := fun xs H Q => ∃ i j, xs = [.int i, .int j] ∧ Q (.int (if j > i then j else i)) H
def rMin2A : List V → Hp → VK → Prop := fun xs H Q => ∃ i j, xs = [.int i, .int j] ∧ Q (.int (if j < i then j else i)) H
def rSumA (K : PySem.W.Frag) := orC (rSum K) (rSumT K)
def rMaxA (K : PySem.W.Frag) := orC (rMax K) (rMaxT K)
section
variable {X : Cx}
theorem call_intA : CallR X (.type "int") rIntA := call_int1
theorem call_absA : CallR X (.builtin "abs") rAbsA := call_abs
theorem call_lenA : CallR X (.builtin "len") (rLenA X.K) := call_len
theorem call_listA : CallR X (.type "list") (rListA X.K) := call_list_of
theorem call_max2A (hc : X.calm = true) : CallR X (.builtin "max") rMax2A := call_max2 hc
theorem call_min2A (hc : X.calm = true) : CallR X (.builtin "min") rMin2A := call_min2 hc
theorem call_sumA (hc : X.calm = true) : CallR X (.builtin "sum") (rSumA X.K) := call_or (cr_sum hc) (call_sumT hc)
theorem call_maxA (hc : X.calm = true) : CallR X (.builtin "max") (rMaxA X.K) := call_or (cr_max hc) (call_maxT hc)
end
theorem rs1 {K : PySem.W.Frag} {F : Hp} {m : List Addr} {σ : St} {vs : List V} {r : RV} (R : RepRs K F m A σ vs [r]) : ∃ v, vs = [v] ∧ RepR K F m A σ v r := by
  cases R with | cons a t => cases t; exact ⟨_, rfl, a⟩
theorem rs2 {K : PySem.W.Frag} {F : Hp} {m : List Addr} {σ : St} {vs : List V} {r s : RV} (R : RepRs K F m A σ vs [r, s]) : ∃ v w, vs = [v, w] ∧ RepR K F m A σ v r ∧ RepR K F m A σ w s := by
  cases R with | cons a t => cases t with | cons b t => cases t; exact ⟨_, _, rfl, a, b⟩
theorem cb_int {i : Int} (q : Q A (.val (.int i))) : CbD c rIntA [.val (.int i)] A Q := fun F G m σ H vs S E R Qc k => by
  obtain ⟨v, rfl, r⟩ := rs1 R; cases r
  exact .inl ⟨i, rfl, k F m A _ H (.val (.int i)) (Evl.Ex.refl F) (Pre.refl m) S (Rep.int i) q⟩
theorem cb_intB {b : Bool} (q : Q A (.val (.int (if b then 1 else 0)))) : CbD c rIntA [.val (.bl b)] A Q := fun F G m σ H vs S E R Qc k => by
  obtain ⟨v, rfl, r⟩ := rs1 R; cases r
  exact .inr ⟨b, rfl, k F m A _ H (.val (.int _)) (Evl.Ex.refl F) (Pre.refl m) S (Rep.int _) q⟩
theorem cb_abs {i : Int} (q : Q A (.val (.int (if i < 0 then -i else i)))) : CbD c rAbsA [.val (.int i)] A Q := fun F G m σ H vs S E R Qc k => by
  obtain ⟨v, rfl, r⟩ := rs1 R; cases r
  exact ⟨i, rfl, k F m A _ H (.val (.int _)) (Evl.Ex.refl F) (Pre.refl m) S (Rep.int _) q⟩
theorem cb_max2 {i j : Int} (q : Q A (.val (.int (if j > i then j else i)))) : CbD c rMax2A [.val (.int i), .val (.int j)] A Q := fun F G m σ H vs S E R Qc k => by
  obtain ⟨v, w, rfl, r, r2⟩ := rs2 R; cases r; cases r2
  exact ⟨i, j, rfl, k F m A _ H (.val (.int _)) (Evl.Ex.refl F) (Pre.refl m) S (Rep.int _) q⟩
theorem cb_min2 {i j : Int} (q : Q A (.val (.int (if j < i then j else i)))) : CbD c rMin2A [.val (.int i), .val (.int j)] A Q := fun F G m σ H vs S E R Qc k => by
  obtain ⟨v, w, rfl, r, r2⟩ := rs2 R; cases r; cases r2
  exact ⟨i, j, rfl, k F m A _ H (.val (.int _)) (Evl.Ex.refl F) (Pre.refl m) S (Rep.int _) q⟩
theorem cb_lenL {ds : List D} (h : lsOf A x = some ds) (q : Q A (.val (.int (ds.length : Int)))) : CbD c (rLenA c.K) [x] A Q := fun F G m σ H vs S E R Qc k => by
  obtain ⟨v, rfl, r⟩ := rs1 R
  obtain ⟨a, vs, rfl, hs, rv⟩ := rep_ls S r h
  exact ⟨_, ds.length, rfl, .inl ⟨vs, hs, rv.len.symm⟩, k F m A _ H (.val (.int _)) (Evl.Ex.refl F) (Pre.refl m) S (Rep.int _) q⟩
theorem cb_lenT {ds : List D} (h : tpOf x = some ds) (q : Q A (.val (.int (ds.length : Int)))) : CbD c (rLenA c.K) [x] A Q := fun F G m σ H vs S E R Qc k => by
  obtain ⟨v, rfl, r⟩ := rs1 R
  obtain ⟨a, vs, rfl, hs, rv⟩ := rep_tp S r h
  exact ⟨_, ds.length, rfl, .inr ⟨vs, hs, rv.len.symm⟩, k F m A _ H (.val (.int _)) (Evl.Ex.refl F) (Pre.refl m) S (Rep.int _) q⟩
theorem cb_sumL {ns : List Int} (h : lsOf A x = some (ns.map .int)) (q : Q A (.val (.int ns.sum))) : CbD c (rSumA c.K) [x] A Q := fun F G m σ H vs S E R Qc k => by
  obtain ⟨v, rfl, r⟩ := rs1 R
  obtain ⟨a, vs, rfl, hs, rv⟩ := rep_ls S r h
  rw [rv.ints] at hs
  exact .inl ⟨a, ns, rfl, hs, k F m A _ H (.val (.int _)) (Evl.Ex.refl F) (Pre.refl m) S (Rep.int _) q⟩
theorem cb_sumT {ns : List Int} (h : tpOf x = some (ns.map .int)) (q : Q A (.val (.int ns.sum))) : CbD c (rSumA c.K) [x] A Q := fun F G m σ H vs S E R Qc k => by
  obtain ⟨v, rfl, r⟩ := rs1 R
  obtain ⟨a, vs, rfl, hs, rv⟩ := rep_tp S r h
  rw [rv.ints] at hs
  exact .inr ⟨a, ns, rfl, hs, k F m A _ H (.val (.int _)) (Evl.Ex.refl F) (Pre.refl m) S (Rep.int _) q⟩
theorem cb_maxL {ns : List Int} (h : lsOf A x = some (ns.map .int)) (h0 : 0 < ns.length) (q : ∀ M, M ∈ ns → (∀ y, y ∈ ns → y ≤ M) → Q A (.val (.int M))) : CbD c (rMaxA c.K) [x] A Q := fun F G m σ H vs S E R Qc k => by
  obtain ⟨v, rfl, r⟩ := rs1 R
  obtain ⟨a, vs, rfl, hs, rv⟩ := rep_ls S r h
  rw [rv.ints] at hs
  exact .inl ⟨a, ns, rfl, hs, h0, fun M h1 h2 => k F m A _ H (.val (.int _)) (Evl.Ex.refl F) (Pre.refl m) S (Rep.int _) (q M h1 h2)⟩
theorem cb_maxT {ns : List Int} (h : tpOf x = some (ns.map .int)) (h0 : 0 < ns.length) (q : ∀ M, M ∈ ns → (∀ y, y ∈ ns → y ≤ M) → Q A (.val (.int M))) : CbD c (rMaxA c.K) [x] A Q := fun F G m σ H vs S E R Qc k => by
  obtain ⟨v, rfl, r⟩ := rs1 R
  obtain ⟨a, vs, rfl, hs, rv⟩ := rep_tp S r h
  rw [rv.ints] at hs
  exact .inr ⟨a, ns, rfl, hs, h0, fun M h1 h2 => k F m A _ H (.val (.int _)) (Evl.Ex.refl F) (Pre.refl m) S (Rep.int _) (q M h1 h2)⟩
theorem cn_listL {ds : List D} {Q : AS → List D → Prop} (h : lsOf A x = some ds) (q : Q A ds) : CbN c (rListA c.K) [x] A Q := fun F G m σ H vs S E R Qc k => by
  obtain ⟨v, rfl, r⟩ := rs1 R
  obtain ⟨a, vs, rfl, hs, rv⟩ := rep_ls S r h
  exact ⟨a, vs, rfl, .inl hs, fun p hp => k F m A p vs _ ds (Evl.Ex.refl F) (Pre.refl m) (S.new hp) (S.h.fresh hp).1 (S.h.fresh hp).2.1 (S.h.fresh hp).2.2 (S.notOwn hp) upd_same rv q⟩
theorem cn_listT {ds : List D} {Q : AS → List D → Prop} (h : tpOf x = some ds) (q : Q A ds) : CbN c (rListA c.K) [x] A Q := fun F G m σ H vs S E R Qc k => by
  obtain ⟨v, rfl, r⟩ := rs1 R
  obtain ⟨a, vs, rfl, hs, rv⟩ := rep_tp S r h
  exact ⟨a, vs, rfl, .inr hs, fun p hp => k F m A p vs _ ds (Evl.Ex.refl F) (Pre.refl m) (S.new hp) (S.h.fresh hp).1 (S.h.fresh hp).2.1 (S.h.fresh hp).2.2 (S.notOwn hp) upd_same rv q⟩
theorem cb_tupL {ds : List D} (h : lsOf A x = some ds) (q : Q A (.val (.tup ds))) : CbD c (rTupP c.K) [x] A Q := fun F G m σ H vs S E R Qc k => by
  obtain ⟨v, rfl, r⟩ := rs1 R
  obtain ⟨a, vs, rfl, hs, rv⟩ := rep_ls S r h
  refine ⟨a, vs, rfl, .inl ⟨hs, fun p its hp => ?_⟩⟩
  have ex : Ex F (upd F p (tupHO its vs)) := ex_upd (S.h.fresh hp).1
  exact k _ m A _ _ (.val (.tup ds)) ex (Pre.refl m) (S.frz hp) (show Rep c.K _ _ _ _ from .tup (.inl ⟨its, upd_same⟩) (rv.mono ex (Pre.refl _))) q
theorem cb_tupT {d : D} {ds : List D} (h : tpOf (.val d) = some ds) (q : Q A (.val d)) : CbD c (rTupP c.K) [.val d] A Q := fun F G m σ H vs S E R Qc k => by
  obtain ⟨v, rfl, r⟩ := rs1 R
  obtain ⟨a, vs, rfl, hs, rv⟩ := rep_tp S r h
  exact ⟨a, vs, rfl, .inr ⟨hs, k F m A _ H (.val d) (Evl.Ex.refl F) (Pre.refl m) S r q⟩⟩
/-! ### isinstance of a built-in class -/
def tyOfR (A : AS) : RV → Option String
  | .val .non => some "NoneType"
  | .val (.bl _) => some "bool"
  | .val (.int _) => some "int"
  | .val (.str _) => some "str"
  | .val (.lst _) => some "list"
  | .val (.scr _) => none
  | .val (.tup _) => some "tuple"
  | .val (.ptr n) => match A.o[n]? with
    | some (.lst _) => some "list"
    | some (.dK _) => some "dict"
    | some (.dT _) => none
    | _ => none
  | .slot i => match A.s[i]? with
    | some (some (.own (.lst _))) => some "list"
    | some (some (.own (.dK _))) => some "dict"
    | some (some (.own (.dT _))) => none
    | _ => none
  | _ => none
theorem tyOf_ok {K : PySem.W.Frag} {F G H : Hp} {m : List Addr} {σ : St} {v : V} {n : String} (S : Sim K F G m A σ H) (R : RepR K F m A σ v x) (h : tyOfR A x = some n) : TyX K H v (.type n) := by
  cases x with
  | slot i =>
    obtain ⟨e1, z, e2⟩ := R
    obtain ⟨a, q, _, _, _, _, cc⟩ := S.s.ownAt e2
    rw [e1] at q; cases q
    simp only [tyOfR, e2] at h
    cases z with
    | lst ds => cases h; obtain ⟨vs, hv, _⟩ := cc; exact .base (.lst hv)
    | dK ds => cases h; obtain ⟨vs, hv, _⟩ := cc; exact .base (.dK hv)
    | _ => simp at h
  | val d =>
    cases d with
    | non => cases h; cases R; exact .base .non
    | bl b => cases h; cases R; exact .base (.bl b)
    | int i => cases h; cases R; exact .base (.int i)
    | str i => cases h; cases R; exact .base (.str i)
    | lst ds => cases h; cases R with | lst e _ => exact .base (.lst (S.h.exF _ _ e))
    | tup ds => cases h; cases R with | tup e _ =>
      rcases e with ⟨its, q⟩ | ⟨its, n, sl, l, _⟩
      · exact .fTuple (S.h.exF _ _ q)
      · exact .kTuple l rfl
    | ptr n =>
      cases R with
      | ptr e =>
        simp only [tyOfR] at h
        cases z : A.o[n]? with
        | none => rw [z] at h; cases h
        | some c =>
          rw [z] at h
          cases c with
          | lst ds => cases h; obtain ⟨_, _, vs, hv, _⟩ := S.h.cell n _ _ e z trivial; exact .base (.lst hv)
          | dK ds => cases h; obtain ⟨_, _, vs, hv, _⟩ := S.h.cell n _ _ e z trivial; exact .base (.dK hv)
          | _ => simp at h
    | _ => simp [tyOfR] at h
theorem we_ty {n : String} (q : Q A (.val (.ty n))) : WE c (tC (.ty n)) A Q := we_C (fun _ _ => .ty n) q
inductive Isi : String → String → Bool → Prop where
  | NoneType_str : Isi "NoneType" "str" false
  | NoneType_bool : Isi "NoneType" "bool" false
  | NoneType_int : Isi "NoneType" "int" false
  | NoneType_tuple : Isi "NoneType" "tuple" false
  | NoneType_list : Isi "NoneType" "list" false
  | bool_str : Isi "bool" "str" false
  | bool_bool : Isi "bool" "bool" true
  | bool_int : Isi "bool" "int" true
  | bool_tuple : Isi "bool" "tuple" false
  | bool_list : Isi "bool" "list" false
  | int_str : Isi "int" "str" false
  | int_bool : Isi "int" "bool" false
  | int_int : Isi "int" "int" true
  | int_tuple : Isi "int" "tuple" false
  | int_list : Isi "int" "list" false
  | str_str : Isi "str" "str" true
  | str_bool : Isi "str" "bool" false
  | str_int : Isi "str" "int" false
  | str_tuple : Isi "str" "tuple" false
  | str_list : Isi "str" "list" false
  | list_str : Isi "list" "str" false
  | list_bool : Isi "list" "bool" false
  | list_int : Isi "list" "int" false
  | list_tuple : Isi "list" "tuple" false
  | list_list : Isi "list" "list" true
  | tuple_str : Isi "tuple" "str" false
  | tuple_bool : Isi "tuple" "bool" false
  | tuple_int : Isi "tuple" "int" false
  | tuple_tuple : Isi "tuple" "tuple" true
  | tuple_list : Isi "tuple" "list" false
  | dict_str : Isi "dict" "str" false
  | dict_bool : Isi "dict" "bool" false
  | dict_int : Isi "dict" "int" false
  | dict_tuple : Isi "dict" "tuple" false
  | dict_list : Isi "dict" "list" false
theorem Isi.ok {t n : String} {b : Bool} (h : Isi t n b) : kitB t n = some b := by cases h <;> decide +kernel
theorem cb_isi {n t : String} {b : Bool} (hx : tyOfR A x = some t) (hb : Isi t n b) (q : Q A (.val (.bl b))) : CbD c (rIsi c.K) [x, .val (.ty n)] A Q := fun F G m σ H vs S E R Qc k => by
  obtain ⟨v, w, rfl, r, r2⟩ := rs2 R; cases r2
  exact ⟨v, .ty n, _, _, b, rfl, .ty n, tyOf_ok S r hx, kit_ty hb.ok, k F m A _ H (.val (.bl b)) (Evl.Ex.refl F) (Pre.refl m) S (Rep.bl b) q⟩
end
end AL

namespace AL
open PySem L2
/-! ### walks over a list or a tuple -/
def iSeq (K : PySem.W.Frag) (tl : TE) : TI := fun σ H R => tl σ H fun x H1 => ∃ a xs, x = .ref a ∧ ((SqL K H1 a xs ∧ R (Itl K a) H1) ∨ (SqT K H1 a xs ∧ R (Itt K a) H1))
section
open PySem.Spec PyProof.Rows
variable {X : Cx}
theorem pi_seq {tg l : Expr} {tl : TE} (hl : PE X l tl) : PI X tg l (iSeq X.K tl) := by
  constructor
  intro pins s σ H R I h
  refine wpAny_mono (hl.run pins s σ H _ I h) (fun v s1 g => ?_) (fun _ _ x => x)
  obtain ⟨x, H1, I1, r1, a, xs, e, g⟩ := g
  subst e
  cases r1
  have fp : ∀ b ∈ [s1.heap.objs.size], FpOk X pins H1 b := fun b hb => by
    rw [List.mem_singleton] at hb
    subst hb
    exact I1.fpOk (Nat.le_refl _) (I1.hok.fresh (Nat.le_refl _))
  rcases g with ⟨hq, q⟩ | ⟨hq, q⟩
  · obtain ⟨its, rv, p, hz⟩ := I1.list hq
    exact wpAny_pyIter_list p.isList ⟨_, _, _, _, H1, rfl, I1.kept (t' := s1.toks) (fun b o e => Heap.get?_push_of_some _ e), turn_list a _, ⟨_, Heap.get?_push_size _ rfl, rfl, rfl⟩, fp, q⟩
  · obtain ⟨its, rv, p, hz⟩ := I1.tuple hq
    exact wpAny_pyIter_tuple (show s1.heap.IsTuple a its.toArray from p) ⟨_, _, _, _, H1, rfl, I1.kept (t' := s1.toks) (fun b o e => Heap.get?_push_of_some _ e), turn_tuple a _, ⟨_, Heap.get?_push_size _ rfl, rfl, rfl⟩, fp, q⟩
end
/-- what a value, taken as data, holds -/
def sqD : D → Option (List D)
  | .lst ds => some ds
  | .scr ds => some ds
  | .tup ds => some ds
  | .sct ds => some ds
  | _ => none
section
variable {c : Ct} {A : AS} {te ta tb tl : TE} {t u tt : TT} {x y : RV} {Q : QE}
theorem real_l {K : PySem.W.Frag} {F : Hp} {m : List Addr} {a : Addr} {vs : List V} {ds : List D} (h : SqL K F a vs) (r : Reps K F m vs ds) : Real K F m (Itl K a) ds := fun F2 G m2 A2 σ H e p S i =>
  have hs : SqL K H a vs := Evl.ex_l S.h.exF (Evl.ex_l e h)
  ⟨fun d hd => by
    obtain ⟨v, hv, rv⟩ := r.get hd
    refine ⟨⟨vs, v, hs, hv⟩, fun x H' y => ?_⟩
    obtain ⟨rfl, y⟩ := y
    have e2 := y vs hs
    rw [hv] at e2; cases e2
    exact ⟨F2, Evl.Ex.refl _, S, rv.mono e p⟩, fun hl => ⟨vs, hs, by rw [r.len]; exact hl⟩⟩
theorem real_t {K : PySem.W.Frag} {F : Hp} {m : List Addr} {a : Addr} {vs : List V} {ds : List D} (h : SqT K F a vs) (r : Reps K F m vs ds) : Real K F m (Itt K a) ds := fun F2 G m2 A2 σ H e p S i =>
  have hs : SqT K H a vs := Evl.ex_t S.h.exF (Evl.ex_t e h)
  ⟨fun d hd => by
    obtain ⟨v, hv, rv⟩ := r.get hd
    refine ⟨⟨vs, v, hs, hv⟩, fun x H' y => ?_⟩
    obtain ⟨rfl, y⟩ := y
    have e2 := y vs hs
    rw [hv] at e2; cases e2
    exact ⟨F2, Evl.Ex.refl _, S, rv.mono e p⟩, fun hl => ⟨vs, hs, by rw [r.len]; exact hl⟩⟩
theorem wi_seq {Q : AS → List D → Prop} (h : WE c tl A fun A1 r => Frz A1 r fun A2 d => ∃ ds, sqD d = some ds ∧ Q A2 ds) : WI c (iSeq c.K tl) A Q := fun F G m σ H S E Rc k =>
  (WE.frz h) F G m σ H S E _ fun F1 m1 A1 v H1 x e1 p1 S1 R1 ⟨d, ex, ds, hd, q⟩ => by
    subst ex
    cases d with
    | lst es => cases hd; cases R1 with | lst e r => exact ⟨_, _, rfl, .inl ⟨.inl (.inl (S1.h.exF _ _ e)), k F1 m1 A1 _ H1 ds e1 p1 S1 (real_l (.inl (.inl e)) r) q⟩⟩
    | scr es => cases hd; cases R1 with | scr e r => exact ⟨_, _, rfl, .inl ⟨Evl.ex_l S1.h.exF e, k F1 m1 A1 _ H1 ds e1 p1 S1 (real_l e r) q⟩⟩
    | tup es => cases hd; cases R1 with | tup e r => exact ⟨_, _, rfl, .inr ⟨Evl.ex_t S1.h.exF e.seq, k F1 m1 A1 _ H1 ds e1 p1 S1 (real_t e.seq r) q⟩⟩
    | sct es => cases hd; cases R1 with | sct e r => exact ⟨_, _, rfl, .inr ⟨Evl.ex_t S1.h.exF e, k F1 m1 A1 _ H1 ds e1 p1 S1 (real_t e r) q⟩⟩
    | _ => simp [sqD] at hd
/-- the ints lo, lo + 1, .., n of them -/
def intsD (lo : Int) (n : Nat) : List D := (List.range n).map fun i => .int (lo + (i : Nat))
theorem intsD_len (lo : Int) (n : Nat) : (intsD lo n).length = n := by unfold intsD; rw [List.length_map, List.length_range]
theorem intsD_at {lo : Int} {n i : Nat} {d : D} (h : (intsD lo n)[i]? = some d) : i < n ∧ d = .int (lo + (i : Nat)) := by
  have hl := (List.getElem?_eq_some_iff.mp h).1
  rw [intsD_len] at hl
  unfold intsD at h
  rw [List.getElem?_map, List.getElem?_range hl] at h
  cases h; exact ⟨hl, rfl⟩
theorem real_r {K : PySem.W.Frag} {F : Hp} {m : List Addr} {lo : Int} {n : Nat} : Real K F m (Itr lo n) (intsD lo n) := fun F2 G m2 A2 σ H e p S i =>
  ⟨fun d hd => by
    obtain ⟨h1, rfl⟩ := intsD_at hd
    refine ⟨h1, fun x H' y => ?_⟩
    obtain ⟨rfl, rfl⟩ := y
    exact ⟨F2, Evl.Ex.refl _, S, .int _⟩, fun hl => by rw [intsD_len] at hl; exact hl⟩
theorem wi_r1 {ta : TA} {Q : AS → List D → Prop} (h : WA c ta A fun A1 ds => ∃ n : Int, ds = [.int n] ∧ n < 1000000 ∧ -1000000 < n ∧ Q A1 (intsD 0 n.toNat)) : WI c (iRng1 ta) A Q := fun F G m σ H S E Rc k =>
  h F G m σ H S E _ fun F1 m1 A1 vs H1 ds e1 p1 S1 R1 ⟨n, ex, h1, h2, q⟩ => by
    subst ex
    cases R1 with
    | cons a r => cases r; cases a; exact ⟨n, rfl, by omega, by omega, k F1 m1 A1 _ H1 _ e1 p1 S1 real_r q⟩
theorem wi_r2 {ta : TA} {Q : AS → List D → Prop} (h : WA c ta A fun A1 ds => ∃ a n : Int, ds = [.int a, .int n] ∧ (a < 1000000 ∧ -1000000 < a) ∧ (n < 1000000 ∧ -1000000 < n) ∧ Q A1 (intsD a (n - a).toNat)) : WI c (iRng2 ta) A Q := fun F G m σ H S E Rc k =>
  h F G m σ H S E _ fun F1 m1 A1 vs H1 ds e1 p1 S1 R1 ⟨a0, n, ex, h1, h2, q⟩ => by
    subst ex
    cases R1 with
    | cons a r => cases r with | cons b r => cases r; cases a; cases b; exact ⟨a0, n, rfl, ⟨by omega, by omega, by omega, by omega⟩, k F1 m1 A1 _ H1 _ e1 p1 S1 real_r q⟩
/-! ### comprehensions -/
def wipeA (s : List (Option SV)) : List Nat → List (Option SV)
  | [] => s
  | v :: vs => (wipeA s vs).set v none
theorem SS.wipe {K : PySem.W.Frag} {F G : Hp} {m : List Addr} {s : List (Option SV)} {σ : St} {H : Hp} (h : SS K F G m s σ H) : ∀ vs, SS K F G m (wipeA s vs) (wipe σ vs) H
  | [] => h
  | v :: vs => (SS.wipe h vs).forget
/-- the state is as before, but for slots that are forgotten, and nothing own has changed -/
theorem wipe_own {s : List (Option SV)} : ∀ {vs : List Nat} {i : Nat} {x : SV}, (wipeA s vs)[i]? = some (some x) → s[i]? = some (some x) ∧ i ∉ vs
  | [], i, x, h => ⟨h, by simp⟩
  | v :: vs, i, x, h => by
    unfold wipeA at h
    by_cases e : v = i
    · subst e
      have hl := (List.getElem?_eq_some_iff.mp h).1
      rw [List.length_set] at hl
      rw [List.getElem?_set_self hl] at h; cases h
    · rw [List.getElem?_set_ne e] at h
      obtain ⟨h1, h2⟩ := wipe_own h
      exact ⟨h1, by simp only [List.mem_cons, not_or]; exact ⟨fun z => e z.symm, h2⟩⟩
theorem wipe_keeps {s : List (Option SV)} : ∀ {vs : List Nat} {i : Nat}, i ∉ vs → (wipeA s vs)[i]? = s[i]?
  | [], i, h => rfl
  | v :: vs, i, h => by
    simp only [List.mem_cons, not_or] at h
    unfold wipeA
    rw [List.getElem?_set_ne (fun z => h.1 z.symm)]
    exact wipe_keeps h.2
/-- no slot that the comprehension's own names take is an own object -/
def NoOwn (s : List (Option SV)) (vs : List Nat) : Prop := ∀ i ∈ vs, ∀ x : Cell, s[i]? ≠ some (some (.own x))
def GOk (g : TG) (vs : List Nat) : Prop := ∀ v σ H (Qc : St → Hp → Prop), (g v σ H fun σ2 H2 => wipe σ2 vs = wipe σ vs → Qc σ2 H2) → g v σ H fun σ2 H2 => wipe σ2 vs = wipe σ vs ∧ Qc σ2 H2
def GsOk (g : TGs) (vs : List Nat) : Prop := ∀ v σ H (Qc : St → Hp → Prop), (g v σ H fun σ2 H2 => wipe σ2 vs = wipe σ vs → Qc σ2 H2) → g v σ H fun σ2 H2 => wipe σ2 vs = wipe σ vs ∧ Qc σ2 H2
theorem wipe_set {i : Nat} {x : Option V} : ∀ {vs : List Nat} {σ : St}, i ∈ vs → wipe (σ.set i x) vs = wipe σ vs
  | v :: vs, σ, h => by
    unfold wipe
    by_cases e : i ∈ vs
    · rw [wipe_set e]
    · have ei : i = v := by simpa [e] using h
      subst ei
      have w : ∀ (us : List Nat) (τ : St) (y : Option V), (wipe (τ.set i y) us).set i none = (wipe τ us).set i none := fun us => by
        induction us with
        | nil => intro τ y; show (τ.set i y).set i none = τ.set i none; rw [List.set_set]
        | cons u us ih =>
          intro τ y
          show ((wipe (τ.set i y) us).set u none).set i none = ((wipe τ us).set u none).set i none
          by_cases z : u = i
          · subst z; rw [List.set_set, List.set_set]; exact ih τ y
          · rw [List.set_comm _ _ z, List.set_comm _ _ z, ih τ y]
      exact w vs σ x
theorem gok_name {i : Nat} {vs : List Nat} (h : i ∈ vs) : GOk (gName i) vs := fun v σ H Qc q => ⟨wipe_set h, q (wipe_set h)⟩
theorem gsok_nil {vs : List Nat} : GsOk gNil vs := fun v σ H Qc q => ⟨q.1, rfl, q.2 rfl⟩
theorem gsok_cons {g : TG} {gs : TGs} {vs : List Nat} (mg : ∀ v σ H (P Q : St → Hp → Prop), (∀ a b, P a b → Q a b) → g v σ H P → g v σ H Q) (mgs : ∀ v σ H (P Q : St → Hp → Prop), (∀ a b, P a b → Q a b) → gs v σ H P → gs v σ H Q) (h : GOk g vs) (hs : GsOk gs vs) : GsOk (gCons g gs) vs := fun v σ H Qc q => by
  obtain ⟨x, r, e, q⟩ := q
  have q1 := h x σ H (fun σ' H' => gs r σ' H' fun a b => wipe a vs = wipe σ' vs → Qc a b) (mg _ _ _ _ _ (fun a b z w => mgs _ _ _ _ _ (fun a2 b2 z2 w2 => z2 (w2.trans w)) z) q)
  refine ⟨x, r, e, mg _ _ _ _ _ (fun a b z => ?_) q1⟩
  exact mgs _ _ _ _ _ (fun a2 b2 z2 => ⟨z2.1.trans z.1, z2.2⟩) (hs _ _ _ _ z.2)
theorem gok_tup {K : PySem.W.Frag} {n : Nat} {gs : TGs} {vs : List Nat} (h : GsOk gs vs) : GOk (gTup K n gs) vs := fun v σ H Qc q => by
  obtain ⟨a, xs, e, hx, hn, q⟩ := q
  exact ⟨a, xs, e, hx, hn, h _ _ _ _ q⟩
theorem mono_name {i : Nat} : ∀ v σ H (P Q : St → Hp → Prop), (∀ a b, P a b → Q a b) → gName i v σ H P → gName i v σ H Q := fun v σ H P Q h q => h _ _ q
theorem mono_nil : ∀ v σ H (P Q : St → Hp → Prop), (∀ a b, P a b → Q a b) → gNil v σ H P → gNil v σ H Q := fun v σ H P Q h q => ⟨q.1, h _ _ q.2⟩
theorem mono_cons {g : TG} {gs : TGs} (mg : ∀ v σ H (P Q : St → Hp → Prop), (∀ a b, P a b → Q a b) → g v σ H P → g v σ H Q) (mgs : ∀ v σ H (P Q : St → Hp → Prop), (∀ a b, P a b → Q a b) → gs v σ H P → gs v σ H Q) : ∀ v σ H (P Q : St → Hp → Prop), (∀ a b, P a b → Q a b) → gCons g gs v σ H P → gCons g gs v σ H Q := fun v σ H P Q h q => by
  obtain ⟨x, r, e, q⟩ := q
  exact ⟨x, r, e, mg _ _ _ _ _ (fun a b z => mgs _ _ _ _ _ h z) q⟩
theorem gok_two {K : PySem.W.Frag} {i j n : Nat} {vs : List Nat} (hi : i ∈ vs) (hj : j ∈ vs) : GOk (gTup K n (gCons (gName i) (gCons (gName j) gNil))) vs :=
  gok_tup (gsok_cons mono_name (mono_cons mono_name mono_nil) (gok_name hi) (gsok_cons mono_name mono_nil (gok_name hj) gsok_nil))
/-! ### the callers' part less -/
theorem Sim.weakG {K : PySem.W.Frag} {F G G' : Hp} {m : List Addr} {A : AS} {σ : St} {H : Hp} (S : Sim K F G' m A σ H) (sub : ∀ a o, G a = some o → G' a = some o) : Sim K F G m A σ H := by
  have non : ∀ a, G' a = none → G a = none := fun a c => by
    cases g : G a with
    | none => rfl
    | some o => rw [sub a o g] at c; cases c
  refine ⟨⟨S.h.exF, fun a o g => S.h.exG _ _ (sub a o g), fun a o f => non a (S.h.dj a o f), S.h.len, fun n a c e1 e2 l => ?_, S.h.inj, S.h.here, fun n a e => non a (S.h.mG n a e), S.h.gn⟩, S.s.len, fun i x y e1 e2 => ?_, S.s.own⟩
  · obtain ⟨x1, x2, x3⟩ := S.h.cell n a c e1 e2 l
    exact ⟨x1, non a x2, x3⟩
  · have q := S.s.at_ i x y e1 e2
    match x, y, q with
    | _, none, _ => cases x <;> trivial
    | some v, some (.val d), q => exact q
    | some v, some (.own c), ⟨a, ea, l, f, g, mm, cc⟩ => exact ⟨a, ea, l, f, non a g, mm, cc⟩
/-- an object that is nobody's becomes the callers' -/
theorem Sim.addG {K : PySem.W.Frag} {F G : Hp} {m : List Addr} {A : AS} {σ : St} {H : Hp} (S : Sim K F G m A σ H) {p : Addr} {o : HO} (hp : H p = none) : Sim K F (upd G p o) m A σ (upd H p o) := by
  have S1 := S.new (o := o) hp
  obtain ⟨f, g, mm⟩ := S.h.fresh hp
  have no := S.notOwn hp
  have ng : ∀ a, a ≠ p → G a = none → upd G p o a = none := fun a h g => by rw [upd_ne h]; exact g
  refine ⟨⟨S1.h.exF, ex_both S.h.exG, fun a u e => ng a (ne_of_none e f) (S.h.dj a u e), S1.h.len, fun n a c e1 e2 l => ?_, S1.h.inj, S1.h.here, fun n a e => ng a (fun z => mm n (z ▸ e)) (S.h.mG n a e), S1.h.gn⟩, S1.s.len, fun i x y e1 e2 => ?_, S1.s.own⟩
  · obtain ⟨x1, x2, x3⟩ := S1.h.cell n a c e1 e2 l
    exact ⟨x1, ng a (fun z => mm n (z ▸ e1)) x2, x3⟩
  · have q := S1.s.at_ i x y e1 e2
    match x, y, q with
    | _, none, _ => cases x <;> trivial
    | some v, some (.val d), q => exact q
    | some v, some (.own c), ⟨a, ea, l, f, g, mm, cc⟩ => exact ⟨a, ea, l, f, ng a (fun z => no ⟨i, c, e2, by rw [← z, ← ea]; exact e1⟩) g, mm, cc⟩
/-- the callers' object changes -/
theorem Sim.setG {K : PySem.W.Frag} {F G : Hp} {m : List Addr} {A : AS} {σ : St} {H : Hp} {p : Addr} {o o' : HO} (S : Sim K F (upd G p o) m A σ H) : Sim K F (upd G p o') m A σ (upd H p o') := by
  have gp : upd G p o p = some o := upd_same
  have hF : F p = none := by
    cases y : F p with
    | none => rfl
    | some u => have z := S.h.dj p u y; rw [gp] at z; cases z
  have hm : ∀ n : Nat, m[n]? ≠ some p := fun n e => by have z := S.h.mG n p e; rw [gp] at z; cases z
  have non : ∀ a, upd G p o a = none → a ≠ p ∧ upd G p o' a = none := fun a z => by
    have np : a ≠ p := fun y => by subst y; rw [gp] at z; cases z
    exact ⟨np, by rw [upd_ne np] at z ⊢; exact z⟩
  refine ⟨⟨ex_right S.h.exF hF, fun a u g => ?_, fun a u e => (non a (S.h.dj a u e)).2, S.h.len, fun n a c e1 e2 l => ?_, S.h.inj, fun n a e => ?_, fun n a e => (non a (S.h.mG n a e)).2, S.h.gn⟩, S.s.len, fun i x y e1 e2 => ?_, S.s.own⟩
  · by_cases z : a = p
    · subst z; rw [upd_same] at g ⊢; exact g
    · rw [upd_ne z] at g ⊢; exact S.h.exG a u (by rw [upd_ne z]; exact g)
  · obtain ⟨x1, x2, x3⟩ := S.h.cell n a c e1 e2 l
    obtain ⟨np, g⟩ := non a x2
    exact ⟨x1, g, x3.mono (fun _ _ h => h) (Pre.refl _) (upd_ne np)⟩
  · obtain ⟨u, hu⟩ := S.h.here n a e
    exact ⟨u, by rw [upd_ne (fun z => hm n (by rw [← z]; exact e))]; exact hu⟩
  · have q := S.s.at_ i x y e1 e2
    match x, y, q with
    | _, none, _ => cases x <;> trivial
    | some v, some (.val d), q => exact q
    | some v, some (.own c), ⟨a, ea, l, f, g, mm, cc⟩ =>
      obtain ⟨np, g'⟩ := non a g
      exact ⟨a, ea, l, f, g', mm, cc.mono (fun _ _ h => h) (Pre.refl _) (upd_ne np)⟩
theorem EOk.weakG {c : Ct} {F G G' : Hp} {m : List Addr} (E : EOk c F G m) (sub : ∀ a o, G a = some o → G' a = some o) : EOk c F G' m := ⟨fun F' m' A' σ' H' C dx fvs fs e p S => E.x F' m' A' σ' H' C dx fvs fs e p (S.weakG sub), E.h⟩
theorem wipe_not {j : Nat} : ∀ {us : List Nat} {τ : St}, j ∉ us → (wipe τ us)[j]? = τ[j]?
  | [], τ, h => rfl
  | u :: us, τ, h => by
    simp only [List.mem_cons, not_or] at h
    unfold wipe
    rw [List.getElem?_set_ne (fun z => h.1 z.symm)]
    exact wipe_not h.2
/-- behind an element: the slots are as they were -/
theorem Sim.unwipe {K : PySem.W.Frag} {F F3 G G0 : Hp} {m m3 : List Addr} {A A3 : AS} {σ σ3 : St} {H H3 : Hp} {vs : List Nat} (S : Sim K F G0 m A σ H) (S3 : Sim K F3 G m3 A3 σ3 H3) (e : Ex F F3) (p : Pre m m3) (eo : A3.o = A.o) (es : ∀ j, j ∉ vs → A3.s[j]? = A.s[j]?)
    (ew : wipe σ3 vs = wipe σ vs) (no : NoOwn A.s vs) : Sim K F3 G m3 A σ H3 := by
  refine ⟨by rw [← eo]; exact S3.h, S.s.len, fun i x y e1 e2 => ?_, S.s.own⟩
  by_cases hi : i ∈ vs
  · have q := S.s.at_ i x y e1 e2
    match x, y, q, e2 with
    | _, none, _, _ => cases x <;> trivial
    | some v, some (.val d), q, _ => exact Rep.mono e p q
    | some v, some (.own c), _, e2 => exact absurd e2 (no i hi c)
  · have z1 : σ3[i]? = some x := by rw [← wipe_not hi, ew, wipe_not hi]; exact e1
    have z2 : A3.s[i]? = some y := by rw [es i hi]; exact e2
    exact S3.s.at_ i x y z1 z2
/-- what the elements are: es[i] of the i-th item, none where it is passed over; every own object stays -/
theorem wn_lc {wi : TI} {g : TG} {vs : List Nat} {Q : AS → List D → Prop} (hg : GOk g vs)
    (h : WI c wi A fun A1 ds => NoOwn A1.s vs ∧ ds.length < 100000 ∧ ∃ es : List (Option D), es.length = ds.length ∧
      (∀ (i : Nat) d, ds[i]? = some d → WG c g d ⟨wipeA A1.s vs, A1.o⟩ fun A2 => WT c tt A2 fun A3 b => (b = true → WE c te A3 fun A4 r => Frz A4 r fun A5 e => es[i]? = some (some e) ∧ A5.o = A1.o ∧ ∀ j, j ∉ vs → A5.s[j]? = A1.s[j]?) ∧
        (b = false → es[i]? = some none ∧ A3.o = A1.o ∧ ∀ j, j ∉ vs → A3.s[j]? = A1.s[j]?)) ∧ Q A1 (es.filterMap id)) :
    WN c (tLc wi g tt te vs) A Q := fun F G m σ H S E Qc k => h F G m σ H S E _ fun F1 m1 A1 J H1 ds e1 p1 S1 RJ ⟨no, hlen, es, hes, hs, q⟩ => by
  intro Dl hD
  have gD : G Dl = none := (S1.h.fresh hD).2.1
  have sub : ∀ (o : HO) a u, G a = some u → upd G Dl o a = some u := fun o a u e => by rw [upd_ne (ne_of_none e gD)]; exact e
  have nD := S1.notOwn hD
  refine ⟨fun i n H2 => n = ds.length - i ∧ i ≤ ds.length ∧ ∃ F2 m2 acc, Ex F1 F2 ∧ Pre m1 m2 ∧ Sim c.K F2 (upd G Dl (.lst acc)) m2 A1 σ H2 ∧ Reps c.K F2 m2 acc ((es.take i).filterMap id),
    ⟨_, rfl, Nat.zero_le _, F1, m1, [], Evl.Ex.refl _, Pre.refl _, S1.addG hD, .nil⟩, fun i n H2 hw => ?_⟩
  obtain ⟨rfl, hi, F2, m2, acc, e2, p2, S2, R2⟩ := hw
  obtain ⟨r1, r2⟩ := RJ F2 _ m2 A1 σ H2 e2 p2 S2 i
  have hacc : acc.length ≤ i := by
    rw [R2.len]
    refine Nat.le_trans (List.length_filterMap_le _ _) ?_
    rw [List.length_take]; exact Nat.min_le_left _ _
  by_cases hl : i < ds.length
  · obtain ⟨g1, g2⟩ := r1 _ (List.getElem?_eq_getElem hl)
    refine .inr ⟨g1, fun H3 => i + 1 ≤ ds.length ∧ ∃ F2 m2 acc, Ex F1 F2 ∧ Pre m1 m2 ∧ Sim c.K F2 (upd G Dl (.lst acc)) m2 A1 σ H3 ∧ Reps c.K F2 m2 acc ((es.take (i + 1)).filterMap id), fun H3 hN => ⟨_, by omega, rfl, hN⟩, fun x H3 hy => ?_⟩
    obtain ⟨F3, e3, S3, R3⟩ := g2 x H3 hy
    have E3 : EOk c F3 (upd G Dl (.lst acc)) m2 := (E.weakG (sub _)).mono ((e1.trans e2).trans e3) (p1.trans p2)
    have S3w : Sim c.K F3 (upd G Dl (.lst acc)) m2 ⟨wipeA A1.s vs, A1.o⟩ (wipe σ vs) H3 := ⟨S3.h, S3.s.wipe vs⟩
    have ww : wipe (wipe σ vs) vs = wipe σ vs := by
      apply List.ext_getElem?
      intro j
      by_cases hj : j ∈ vs
      · have z : ∀ (us : List Nat) (τ : St), j ∈ us → (wipe τ us)[j]? = if j < τ.length then some none else none := fun us => by
          induction us with
          | nil => intro τ h; cases h
          | cons u us ih =>
            intro τ h
            unfold wipe
            by_cases y : u = j
            · subst y
              by_cases hl : u < τ.length
              · rw [List.getElem?_set_self (by rw [wipe_length]; exact hl), if_pos hl]
              · rw [if_neg hl, List.getElem?_eq_none (by rw [List.length_set, wipe_length]; omega)]
            · rw [List.getElem?_set_ne y]
              exact ih τ (by simpa [show ¬ j = u from fun z => y z.symm] using h)
        rw [z vs _ hj, z vs _ hj, wipe_length]
      · rw [wipe_not hj]
    have hgx := hg x (wipe σ vs) H3 (fun σ2 H4 => tt σ2 H4 fun b H5 => if b = true then te σ2 H5 fun y H6 => ∃ acc', H6 Dl = some (.lst acc') ∧ acc'.length < sizeLine ∧ (i + 1 ≤ ds.length ∧ ∃ F2 m2 acc, Ex F1 F2 ∧ Pre m1 m2 ∧ Sim c.K F2 (upd G Dl (.lst acc)) m2 A1 σ (upd H6 Dl (.lst (acc' ++ [y]))) ∧ Reps c.K F2 m2 acc ((es.take (i + 1)).filterMap id)) else
      (i + 1 ≤ ds.length ∧ ∃ F2 m2 acc, Ex F1 F2 ∧ Pre m1 m2 ∧ Sim c.K F2 (upd G Dl (.lst acc)) m2 A1 σ H5 ∧ Reps c.K F2 m2 acc ((es.take (i + 1)).filterMap id)))
    rw [ww] at hgx
    refine hgx (hs i _ (List.getElem?_eq_getElem hl) F3 _ m2 (wipe σ vs) H3 x S3w R3 E3 _ fun F4 m4 A4 σ4 H4 e4 p4 S4 q4 ew => ?_)
    have x4 := e2.trans (e3.trans e4)
    have y4 := p2.trans p4
    refine q4 F4 _ m4 σ4 H4 S4 (E3.mono e4 p4) _ fun F5 m5 A5 b H5 e5 p5 S5 q5 => ?_
    have tk : ∀ o, es[i]? = some o → es.take (i + 1) = es.take i ++ [o] := fun o ho => by rw [List.take_add_one, ho]; rfl
    cases b with
    | false =>
      obtain ⟨h1, h2, h3⟩ := q5.2 rfl
      show i + 1 ≤ ds.length ∧ _
      refine ⟨hl, F5, m5, acc, x4.trans e5, y4.trans p5, S2.unwipe S5 (e3.trans (e4.trans e5)) (p4.trans p5) h2 h3 ew no, ?_⟩
      rw [tk _ h1, List.filterMap_append]
      show Reps c.K F5 m5 acc (_ ++ [])
      rw [List.append_nil]
      exact R2.mono (e3.trans (e4.trans e5)) (p4.trans p5)
    | true =>
      show te σ4 H5 _
      refine (WE.frz (q5.1 rfl)) F5 _ m5 σ4 H5 S5 (E3.mono (e4.trans e5) (p4.trans p5)) _ fun F6 m6 A6 y H6 r e6 p6 S6 R6 q6 => ?_
      obtain ⟨d, er, h1, h2, h3⟩ := q6
      subst er
      have z6 := e3.trans (e4.trans (e5.trans e6))
      have w6 := p4.trans (p5.trans p6)
      refine ⟨acc, S6.h.exG Dl _ upd_same, Nat.lt_of_le_of_lt hacc (Nat.lt_of_lt_of_le (Nat.lt_trans hl hlen) (by decide)), hl, F6, m6, acc ++ [y], e2.trans z6, p2.trans w6, (S2.unwipe S6 z6 w6 h2 h3 ew no).setG, ?_⟩
      rw [tk _ h1, List.filterMap_append]
      exact (R2.mono z6 w6).app (.cons R6 .nil)
  · have ei : i = ds.length := by omega
    subst ei
    rw [← hes, List.take_length] at R2
    have gs := S2.h.exG Dl _ upd_same
    have fD : F2 Dl = none := by
      cases y : F2 Dl with
      | none => rfl
      | some u => have z := S2.h.dj Dl u y; rw [upd_same] at z; cases z
    exact .inl ⟨r2 (Nat.le_refl _), k F2 m2 A1 Dl acc H2 _ (e1.trans e2) (p1.trans p2) (S2.weakG (sub _)) fD gD (fun n e => by have z := S2.h.mG n Dl e; rw [upd_same] at z; cases z) nD gs R2 q⟩
end
end AL

namespace AL
open PySem L2
/-! ### what a def promises, in the abstract -/
abbrev XO := List Cell → Addr → List (Str × D) → Prop
/-- arguments, cells, what follows, what is raised -/
abbrev Contract := List D → List Cell → (List Cell → D → Prop) → XO → Prop
def SpA (K : PySem.W.Frag) (Φ : Contract) : Sp := fun vs H Q E => ∃ F G m O ds R X, HS K F G m O H ∧ Reps K F m vs ds ∧ Φ ds O R X ∧
  (∀ F' m' O' v d H', Ex F F' → Pre m m' → HS K F' G m' O' H' → Rep K F' m' v d → R O' d → Q v H') ∧
  (∀ F' m' O' C dx fvs fs H', Ex F F' → Pre m m' → HS K F' G m' O' H' → F' dx = some (.xd fvs) → RepF K F' m' fvs fs → X O' C fs → E (.ref C) (some dx) H')
theorem SpA.len {K : PySem.W.Frag} {Φ : Contract} {n : Nat} (h : ∀ ds O R X, Φ ds O R X → ds.length = n) {vs : List V} {H : Hp} {Q : VK} {E : XK} (s : SpA K Φ vs H Q E) : vs.length = n := by
  obtain ⟨F, G, m, O, ds, R, X, hs, rs, p, _⟩ := s
  rw [rs.len]; exact h _ _ _ _ p
theorem SpA.imp {K : PySem.W.Frag} {Φ Ψ : Contract} (h : ∀ ds O R X, Ψ ds O R X → Φ ds O R X) (vs : List V) (H : Hp) (Q : VK) (E : XK) (s : SpA K Ψ vs H Q E) : SpA K Φ vs H Q E := by
  obtain ⟨F, G, m, O, ds, R, X, hs, rs, p, q⟩ := s
  exact ⟨F, G, m, O, ds, R, X, hs, rs, h _ _ _ _ p, q⟩
section
variable {c : Ct} {A : AS} {te ta tb tl to : TE} {t u tt : TT} {x y : RV} {Q : QE}
theorem we_callX {Φ : Contract} {E : XK} {dvs : List V} {dds : List D} {t : TA} (hE : ∀ σ, c.E σ = E) (hd : ∀ F m, Reps c.K F m dvs dds) (h : WA c t A fun A1 ds => Φ (ds ++ dds) A1.o (fun O' d => Q ⟨A1.s, O'⟩ (.val d)) (fun O' C fs => c.X ⟨A1.s, O'⟩ C fs)) : WE c (tCall (SpA c.K Φ) dvs E t) A Q := fun F G m σ H S Eo Qc k =>
  h F G m σ H S Eo _ fun F1 m1 A1 vs H1 ds e1 p1 S1 R1 q =>
    ⟨F1, callG A1.s σ G H1, m1, A1.o, ds ++ dds, _, _, S1.call, R1.app (hd _ _), q, fun F' m' O' v d H' e p hs r rr => k F' m' ⟨A1.s, O'⟩ v H' (.val d) (e1.trans e) (p1.trans p) (S1.back e p hs) r rr,
      fun F' m' O' C dx fvs fs H' e p hs fx rf xx => by
        have z := Eo.x F' m' ⟨A1.s, O'⟩ σ H' C dx fvs fs (e1.trans e) (p1.trans p) (S1.back e p hs) fx rf xx
        rw [hE] at z; exact z⟩
/-- a call of a def that lets nothing out -/
theorem we_call {Φ : Contract} {E : XK} {dvs : List V} {dds : List D} {t : TA} (hd : ∀ F m, Reps c.K F m dvs dds) (h : WA c t A fun A1 ds => Φ (ds ++ dds) A1.o (fun O' d => Q ⟨A1.s, O'⟩ (.val d)) (fun _ _ _ => False)) : WE c (tCall (SpA c.K Φ) dvs E t) A Q := fun F G m σ H S Eo Qc k =>
  h F G m σ H S Eo _ fun F1 m1 A1 vs H1 ds e1 p1 S1 R1 q =>
    ⟨F1, callG A1.s σ G H1, m1, A1.o, ds ++ dds, _, _, S1.call, R1.app (hd _ _), q, fun F' m' O' v d H' e p hs r rr => k F' m' ⟨A1.s, O'⟩ v H' (.val d) (e1.trans e) (p1.trans p) (S1.back e p hs) r rr, fun F' m' O' C dx fvs fs H' e p hs fx rf xx => xx.elim⟩
theorem we_call0 {Φ : Contract} {E : XK} {t : TA} (h : WA c t A fun A1 ds => Φ ds A1.o (fun O' d => Q ⟨A1.s, O'⟩ (.val d)) (fun _ _ _ => False)) : WE c (tCall (SpA c.K Φ) [] E t) A Q :=
  we_call (dds := []) (fun _ _ => .nil) (by simpa using h)
/-- the slots at a def's entry -/
def entry (n : Nat) (ds : List D) : List (Option SV) := ds.map (fun d => some (.val d)) ++ List.replicate (n - ds.length) none
theorem entry_ok {K : PySem.W.Frag} {F G : Hp} {m : List Addr} {H : Hp} {N : List Str} {vs : List V} {ds : List D} (r : Reps K F m vs ds) : SS K F G m (entry N.length ds) (L2.start N vs) H where
  len := by unfold entry L2.start; simp [r.len]
  at_ := fun i x y e1 e2 => by
    unfold L2.start at e1
    unfold entry at e2
    by_cases h : i < ds.length
    · rw [List.getElem?_append_left (by rw [List.length_map]; exact h), List.getElem?_map, List.getElem?_eq_getElem h] at e2
      rw [List.getElem?_append_left (by rw [List.length_map, r.len]; exact h), List.getElem?_map] at e1
      obtain ⟨v, ev, rv⟩ := r.get (List.getElem?_eq_getElem h)
      rw [ev] at e1
      cases e1; cases e2; exact rv
    · rw [List.getElem?_append_right (by rw [List.length_map]; omega)] at e2
      rw [List.getElem?_replicate] at e2
      split at e2
      · cases e2; cases x <;> trivial
      · cases e2
  own := fun i j c1 c2 v n e1 e2 e3 e4 => by
    unfold entry at e1
    by_cases h : i < ds.length
    · rw [List.getElem?_append_left (by rw [List.length_map]; exact h), List.getElem?_map, List.getElem?_eq_getElem h] at e1
      cases e1
    · rw [List.getElem?_append_right (by rw [List.length_map]; omega), List.getElem?_replicate] at e1
      split at e1 <;> cases e1
/-- a def's body keeps its promise -/
theorem run_body {K : PySem.W.Frag} {Φ : Contract} {ts : TS} {N : List Str} {vs : List V} {H : Hp} {Q : VK} {E : XK} (h : SpA K Φ vs H Q E)
    (hb : ∀ ds O R X, Φ ds O R X → WS ⟨K, fun _ => E, fun A C fs => X A.o C fs, none⟩ ts ⟨entry N.length ds, O⟩ { nx := fun A => R A.o .non, rt := R }) : ts { nx := fun _ H' => Q .non H', rt := Q } (L2.start N vs) H := by
  obtain ⟨F, G, m, O, ds, R, X, hs, rs, p, q, xq⟩ := h
  refine hb ds O R X p F G m (L2.start N vs) H ⟨hs, entry_ok rs⟩ ⟨fun F' m' A' σ' H' C dx fvs fs e pr S fx rf xx => xq F' m' A'.o C dx fvs fs H' e pr S.h fx rf xx, fun _ _ z => nomatch z⟩ _ ⟨fun F' m' A' σ' H' e pr S z => ?_, fun F' m' O' v d H' e pr hs' r z => ?_, fun F' m' A' σ' H' e pr S z => z.elim, fun F' m' A' σ' H' e pr S z => z.elim⟩
  · exact q F' m' A'.o .non .non H' e pr S.h .non z
  · exact q F' m' O' v d H' e pr hs' r z
/-! ### own lists change -/
theorem Sim.ownSet {K : PySem.W.Frag} {F G : Hp} {m : List Addr} {σ : St} {H : Hp} {i : Nat} {a : Addr} {c1 c2 : Cell} {o : HO} (S : Sim K F G m A σ H) (hs : A.s[i]? = some (some (.own c1))) (hσ : σ[i]? = some (some (.ref a))) (l : c2.live) (hc : CellAt K F m (upd H a o) a c2) :
    Sim K F G m (A.setS i (.own c2)) σ (upd H a o) := by
  obtain ⟨b, q, l1, f, g, mm, cc⟩ := S.s.ownAt hs
  rw [hσ] at q; cases q
  refine ⟨S.h.mut f g mm, by rw [S.s.len]; exact (List.length_set ..).symm, fun j x y e1 e2 => ?_, fun j k d1 d2 v n e1 e2 e3 e4 => ?_⟩
  · by_cases z : j = i
    · subst z
      have hl : j < A.s.length := (List.getElem?_eq_some_iff.mp hs).1
      have e2' : (A.s.set j (some (.own c2)))[j]? = some y := e2
      rw [List.getElem?_set_self hl] at e2'
      cases e2'
      rw [hσ] at e1; cases e1
      exact ⟨a, rfl, l, f, g, mm, hc⟩
    · have e2' : (A.s.set i (some (.own c2)))[j]? = some y := e2
      rw [List.getElem?_set_ne (Ne.symm z)] at e2'
      have q := S.s.at_ j x y e1 e2'
      match x, y, q, e1, e2' with
      | _, none, _, _, _ => cases x <;> trivial
      | some v, some (.val d), q, _, _ => exact q
      | some v, some (.own c), ⟨b, eb, lb, fb, gb, mb, cb⟩, e1, e2' =>
        subst eb
        have nab : b ≠ a := fun y => by subst y; exact S.s.own j i _ _ _ z e2' hs e1 hσ
        exact ⟨b, rfl, lb, fb, gb, mb, cb.mono (fun _ _ h => h) (Pre.refl _) (upd_ne nab)⟩
  · have old : ∀ (j : Nat) d, (A.setS i (.own c2)).s[j]? = some (some (.own d)) → ∃ d', A.s[j]? = some (some (.own d')) := fun j d e => by
      have e' : (A.s.set i (some (.own c2)))[j]? = some (some (.own d)) := e
      by_cases z : j = i
      · subst z; exact ⟨_, hs⟩
      · rw [List.getElem?_set_ne (Ne.symm z)] at e'; exact ⟨_, e'⟩
    obtain ⟨d1', z1⟩ := old j d1 e1
    obtain ⟨d2', z2⟩ := old k d2 e2
    exact S.s.own j k _ _ v n z1 z2 e3 e4
variable {B : EA}
/-- xs.append(e), xs a list that the name alone has -/
theorem ws_append {i : Nat} {ds0 : List D} (h0 : A.s[i]? = some (some (.own (.lst ds0)))) (h : WE c te A fun A1 r => Frz A1 r fun A2 d => ∃ ds, A2.s[i]? = some (some (.own (.lst ds))) ∧ ds.length < 100000 ∧ B.nx (A2.setS i (.own (.lst (ds ++ [d]))))) :
    WS c (tDrop (tBM c.K "list" rAppend (tVar i) (tCons te tNil))) A B := fun F G m σ H S E Dc k => by
  obtain ⟨a, e, _, _, _, _, vs0, hv0, _⟩ := S.s.ownAt h0
  refine ⟨.ref a, e, .inl ⟨rfl, vs0, .inl (.inl hv0)⟩, (WE.frz h) F G m σ H S E _ fun F1 m1 A1 v H1 r e1 p1 S1 R1 ⟨d, er, ds, hs, hl, q⟩ => ?_⟩
  subst er
  obtain ⟨b, eb, _, _, _, _, vs, hv, rv⟩ := S1.s.ownAt hs
  rw [e] at eb; cases eb
  exact ⟨a, vs, v, rfl, rfl, hv, Nat.lt_of_lt_of_le (by rw [rv.len]; exact hl) (by decide), k.nx F1 m1 _ σ _ e1 p1 (S1.ownSet (c2 := .lst (ds ++ [d])) hs e trivial ⟨_, upd_same, rv.app (.cons R1 .nil)⟩) q⟩
/-- xs[j] = e, xs a list that the name alone has -/
theorem ws_setitem {i : Nat} (h : WE c te A fun A1 r => Frz A1 r fun A2 d => ∃ ds0, A2.s[i]? = some (some (.own (.lst ds0))) ∧ WE c tb A2 fun A3 y => ∃ n : Int, y = .val (.int n) ∧ ∃ (ds : List D) (j : Nat), A3.s[i]? = some (some (.own (.lst ds))) ∧ ixN ds.length n = some j ∧ B.nx (A3.setS i (.own (.lst (ds.set j d))))) :
    WS c (tAsg te (gSub (tVar i) tb rSetL)) A B := fun F G m σ H S E Dc k => (WE.frz h) F G m σ H S E _ fun F1 m1 A1 v H1 r e1 p1 S1 R1 ⟨d, er, ds0, h0, q⟩ => by
  subst er
  obtain ⟨a, ea, _⟩ := S1.s.ownAt h0
  refine ⟨.ref a, ea, q F1 G m1 σ H1 S1 (E.mono e1 p1) _ fun F2 m2 A2 w H2 y e2 p2 S2 R2 ⟨n, ey, ds, j, h1, hj, q2⟩ => ?_⟩
  subst ey
  cases R2
  obtain ⟨b, eb, _, _, _, _, vs, hv, rv⟩ := S2.s.ownAt h1
  rw [ea] at eb; cases eb
  exact ⟨a, vs, n, j, rfl, rfl, hv, by rw [rv.len]; exact hj, k.nx F2 m2 _ σ _ (e1.trans e2) (p1.trans p2) (S2.ownSet (c2 := .lst (ds.set j d)) h1 ea trivial ⟨_, upd_same, Reps.set (Rep.mono e2 p2 R1) j rv⟩) q2⟩
/-! ### slices -/
def rSlAA (K : PySem.W.Frag) := orS (rSlL K) (rSlP K)
theorem sl_AA {X : Cx} : SlR X (rSlAA X.K) := sl_or sl_list sl_tupP
theorem cutV_reps {K : PySem.W.Frag} {F : Hp} {m : List Addr} {vs : List V} {ds : List D} {lo hi : Option Int} (r : Reps K F m vs ds) : Reps K F m (cutV vs lo hi) ((ds.drop (HT.sIx ds.length 0 lo)).take (HT.sIx ds.length ds.length hi - HT.sIx ds.length 0 lo)) := by
  unfold cutV; rw [r.len]; exact (r.drop _).take _
def cutD (ds : List D) (lo hi : Option Int) : List D := (ds.drop (HT.sIx ds.length 0 lo)).take (HT.sIx ds.length ds.length hi - HT.sIx ds.length 0 lo)
/-- a slice of a list: a new list -/
theorem wn_slL {ta : TE} {tlo thi : TO} {Q : AS → List D → Prop} (h : WE c ta A fun A1 x => WO c tlo A1 fun A2 lo => WO c thi A2 fun A3 hi => ∃ ds, lsOf A1 x = some ds ∧ lsOf A3 x = some ds ∧ Stays A1 A3 x ∧ Q A3 (cutD ds lo hi)) : WN c (tSl (rSlAA c.K) ta tlo thi) A Q := fun F G m σ H S E Qc k =>
  h F G m σ H S E _ fun F1 m1 A1 v H1 x e1 p1 S1 R1 q => q F1 G m1 σ H1 S1 (E.mono e1 p1) _ fun F2 m2 A2 lo H2 e2 p2 S2 q2 => q2 F2 G m2 σ H2 S2 (E.mono (e1.trans e2) (p1.trans p2)) _ fun F3 m3 A3 hi H3 e3 p3 S3 q3 => by
    obtain ⟨ds, l1, l2, st, q4⟩ := q3
    have R3 := R1.stay (e2.trans e3) (p2.trans p3) st
    obtain ⟨a, vs, rfl, hs, rv⟩ := rep_ls S3 R3 l2
    exact .inl ⟨a, vs, rfl, hs, fun p hp => k F3 m3 A3 p _ _ _ ((e1.trans e2).trans e3) ((p1.trans p2).trans p3) (S3.new hp) (S3.h.fresh hp).1 (S3.h.fresh hp).2.1 (S3.h.fresh hp).2.2 (S3.notOwn hp) upd_same (cutV_reps rv) q4⟩
/-- a slice of a tuple -/
theorem we_slT {ta : TE} {tlo thi : TO} (h : WE c ta A fun A1 x => WO c tlo A1 fun A2 lo => WO c thi A2 fun A3 hi => ∃ ds, x = .val (.tup ds) ∧ Q A3 (.val (.tup (cutD ds lo hi)))) : WE c (tSl (rSlAA c.K) ta tlo thi) A Q := fun F G m σ H S E Qc k =>
  h F G m σ H S E _ fun F1 m1 A1 v H1 x e1 p1 S1 R1 q => q F1 G m1 σ H1 S1 (E.mono e1 p1) _ fun F2 m2 A2 lo H2 e2 p2 S2 q2 => q2 F2 G m2 σ H2 S2 (E.mono (e1.trans e2) (p1.trans p2)) _ fun F3 m3 A3 hi H3 e3 p3 S3 q3 => by
    obtain ⟨ds, ex, q4⟩ := q3
    subst ex
    have R3 : Rep c.K F3 m3 v (.tup ds) := Rep.mono (e2.trans e3) (p2.trans p3) R1
    cases R3 with
    | tup pt rv =>
      rename_i a vs
      refine .inr ⟨a, vs, rfl, Evl.ex_t S3.h.exF pt.seq, fun hw => ?_, fun hw p its hp => ?_⟩
      · refine k F3 m3 A3 _ H3 (.val (.tup (cutD ds lo hi))) ((e1.trans e2).trans e3) ((p1.trans p2).trans p3) S3 ?_ q4
        show Rep c.K F3 m3 (.ref a) (.tup (cutD ds lo hi))
        refine .tup pt ?_
        have z := cutV_reps (lo := lo) (hi := hi) rv
        have z2 : cutV vs lo hi = vs := by
          unfold cutV
          rw [hw.1, hw.2, List.drop_zero, Nat.sub_zero, List.take_length]
        rw [z2] at z; exact z
      · have ex : Ex F3 (upd F3 p (tupHO its (cutV vs lo hi))) := ex_upd (S3.h.fresh hp).1
        exact k _ m3 A3 _ _ (.val (.tup (cutD ds lo hi))) (((e1.trans e2).trans e3).trans ex) ((p1.trans p2).trans p3) (S3.frz hp) (show Rep c.K _ _ _ _ from .tup (.inl ⟨its, upd_same⟩) ((cutV_reps rv).mono ex (Pre.refl _))) q4
/-! ### lists and tuples glued -/
theorem od_catT {ds es : List D} (hl : ds.length + es.length ≤ 10000) (q : Q A (.val (.tup (ds ++ es)))) : OpD c (rAddA c.K) (.val (.tup ds)) (.val (.tup es)) A Q := fun F G m σ H v w S E R1 R2 Qc k => by
  cases R1 with
  | tup pt rv =>
    rename_i a vs
    cases R2 with
    | tup pt2 rv2 =>
      rename_i b ws
      refine .inr (.inr (.inl ⟨a, b, vs, ws, rfl, rfl, Evl.ex_t S.h.exF pt.seq, Evl.ex_t S.h.exF pt2.seq, Nat.le_trans (by rw [rv.len, rv2.len]; exact hl) (by decide), fun z => ?_, fun _ z => ?_, fun _ _ p its hp => ?_⟩))
      · subst z
        have e : ds = [] := by cases rv; rfl
        subst e
        exact k F m A _ H (.val (.tup ([] ++ es))) (Evl.Ex.refl F) (Pre.refl m) S (Rep.tup pt2 rv2) q
      · subst z
        have e : es = [] := by cases rv2; rfl
        subst e
        exact k F m A _ H (.val (.tup (ds ++ []))) (Evl.Ex.refl F) (Pre.refl m) S (show Rep c.K F m _ _ by rw [List.append_nil]; exact Rep.tup pt rv) q
      · have ex : Ex F (upd F p (tupHO its (vs ++ ws))) := ex_upd (S.h.fresh hp).1
        exact k _ m A _ _ (.val (.tup (ds ++ es))) ex (Pre.refl m) (S.frz hp) (show Rep c.K _ _ _ _ from .tup (.inl ⟨its, upd_same⟩) ((rv.app rv2).mono ex (Pre.refl _))) q
/-- xs + ys, a new list -/
theorem wn_cat {ta tb : TE} {Q : AS → List D → Prop} (h : WE c ta A fun A1 x => WE c tb A1 fun A2 y => ∃ ds es, Stays A1 A2 x ∧ lxOf A2 x = some ds ∧ lxOf A2 y = some es ∧ ds.length + es.length ≤ 10000 ∧ Q A2 (ds ++ es)) : WN c (tOp (rAddA c.K) ta tb) A Q := fun F G m σ H S E Qc k =>
  h F G m σ H S E _ fun F1 m1 A1 v H1 x e1 p1 S1 R1 q => q F1 G m1 σ H1 S1 (E.mono e1 p1) _ fun F2 m2 A2 w H2 y e2 p2 S2 R2 q2 => by
    obtain ⟨ds, es, st, l1, l2, hl, q3⟩ := q2
    obtain ⟨a, vs, rfl, hv, rv⟩ := rep_lx S2 (R1.stay e2 p2 st) l1
    obtain ⟨b, ws, rfl, hw, rw_⟩ := rep_lx S2 R2 l2
    exact .inr (.inl ⟨a, b, vs, ws, rfl, rfl, hv, hw, Nat.le_trans (by rw [rv.len, rw_.len]; exact hl) (by decide), fun p hp => k F2 m2 A2 p _ _ _ (e1.trans e2) (p1.trans p2) (S2.new hp) (S2.h.fresh hp).1 (S2.h.fresh hp).2.1 (S2.h.fresh hp).2.2 (S2.notOwn hp) upd_same (rv.app rw_) q3⟩)
/-- xs * n, a new list -/
theorem wn_rep {ta tb : TE} {Q : AS → List D → Prop} (h : WE c ta A fun A1 x => WE c tb A1 fun A2 y => ∃ (ds : List D) (n : Int), y = .val (.int n) ∧ Stays A1 A2 x ∧ lxOf A2 x = some ds ∧ (-1000 < n ∧ n < 1000) ∧ ds.length * n.toNat ≤ 10000 ∧ Q A2 (List.replicate n.toNat ds).flatten) : WN c (tOp rMulA ta tb) A Q := fun F G m σ H S E Qc k =>
  h F G m σ H S E _ fun F1 m1 A1 v H1 x e1 p1 S1 R1 q => q F1 G m1 σ H1 S1 (E.mono e1 p1) _ fun F2 m2 A2 w H2 y e2 p2 S2 R2 q2 => by
    obtain ⟨ds, n, ey, st, l1, hn, hl, q3⟩ := q2
    subst ey
    cases R2
    obtain ⟨a, vs, rfl, hv, rv⟩ := rep_lx S2 (R1.stay e2 p2 st) l1
    exact .inr (.inr ⟨a, n, vs, rfl, rfl, hv, by omega, by omega, Nat.le_trans (by rw [rv.len]; exact hl) (by decide), fun p hp => k F2 m2 A2 p _ _ _ (e1.trans e2) (p1.trans p2) (S2.new hp) (S2.h.fresh hp).1 (S2.h.fresh hp).2.1 (S2.h.fresh hp).2.2 (S2.notOwn hp) upd_same (rv.flat _) q3⟩)
/-! ### xs.index(y): a list or a tuple of ints -/
def tIndexA (K : PySem.W.Frag) (to : TE) (t : TA) : TE := orE (tBM K "list" (rIndex K) to t) (tIndexT K to t)
theorem flat_intsV (ns : List Int) : (ns.map V.int).all flatV = true := by
  rw [List.all_map]; exact List.all_eq_true.mpr fun _ _ => rfl
theorem int_at {ns : List Int} {j : Nat} {z : V} (h : (ns.map V.int)[j]? = some z) : ∃ i, ns[j]? = some i ∧ z = .int i := by
  rw [List.getElem?_map] at h
  cases e : ns[j]? with
  | none => rw [e] at h; cases h
  | some i => rw [e] at h; cases h; exact ⟨i, rfl, rfl⟩
theorem eqV_int (i j : Int) : eqV (.int i) (.int j) = decide (i = j) := by
  by_cases h : i = j
  · subst h; simp [eqV]
  · simp [eqV, h]
theorem we_indexL {t : TA} (h : WE c to A fun A1 x => ∃ ds0, lsOf A1 x = some ds0 ∧ WAr c t A1 fun A2 rs => ∃ (ns : List Int) (y : Int) (j : Nat), rs = [.val (.int y)] ∧ Stays A1 A2 x ∧ lsOf A2 x = some (ns.map .int) ∧ ns[j]? = some y ∧ (∀ m : Nat, m < j → ns[m]? ≠ some y) ∧ Q A2 (.val (.int (j : Nat)))) : WE c (tIndexA c.K to t) A Q := fun F G m σ H S E Qc k =>
  .inl (h F G m σ H S E _ fun F1 m1 A1 v H1 x e1 p1 S1 R1 ⟨ds0, l0, q⟩ => by
    obtain ⟨a, vs, rfl, hs, rv⟩ := rep_ls S1 R1 l0
    refine ⟨.inl ⟨rfl, vs, hs⟩, q F1 G m1 σ H1 S1 (E.mono e1 p1) _ fun F2 m2 A2 ws H2 rs e2 p2 S2 R2 q2 => ?_⟩
    obtain ⟨ns, y, j, er, st, l2, hj, hn, q3⟩ := q2
    subst er
    obtain ⟨w, rfl, rw_⟩ := rs1 R2
    cases rw_
    obtain ⟨b, us, eb, hu, ru⟩ := rep_ls S2 (R1.stay e2 p2 st) l2
    cases eb
    rw [ru.ints] at hu
    refine ⟨a, _, .int y, j, .int y, rfl, rfl, hu, rfl, flat_intsV ns, by rw [List.getElem?_map, hj]; rfl, by rw [eqV_int]; simp, fun i z hi hz => ?_, k F2 m2 A2 _ H2 (.val (.int (j : Nat))) (e1.trans e2) (p1.trans p2) S2 (Rep.int _) q3⟩
    obtain ⟨n, h1, rfl⟩ := int_at hz
    rw [eqV_int]
    exact decide_eq_false fun z => hn i hi (z ▸ h1))
theorem we_indexT {t : TA} (h : WE c to A fun A1 x => ∃ (ns : List Int), x = .val (.tup (ns.map .int)) ∧ WAr c t A1 fun A2 rs => ∃ (y : Int) (j : Nat), rs = [.val (.int y)] ∧ ns[j]? = some y ∧ (∀ m : Nat, m < j → ns[m]? ≠ some y) ∧ Q A2 (.val (.int (j : Nat)))) : WE c (tIndexA c.K to t) A Q := fun F G m σ H S E Qc k =>
  .inr (h F G m σ H S E _ fun F1 m1 A1 v H1 x e1 p1 S1 R1 ⟨ns, ex, q⟩ => by
    subst ex
    cases R1 with
    | tup pt rv =>
      rename_i a vs
      have ev := rv.ints
      subst ev
      refine ⟨a, _, rfl, pt.mono S1.h.exF, q F1 G m1 σ H1 S1 (E.mono e1 p1) _ fun F2 m2 A2 ws H2 rs e2 p2 S2 R2 q2 => ?_⟩
      obtain ⟨y, j, er, hj, hn, q3⟩ := q2
      subst er
      obtain ⟨w, rfl, rw_⟩ := rs1 R2
      cases rw_
      refine ⟨.int y, j, .int y, (pt.mono e2).mono S2.h.exF, rfl, rfl, flat_intsV ns, by rw [List.getElem?_map, hj]; rfl, by rw [eqV_int]; simp, fun i z hi hz => ?_, k F2 m2 A2 _ H2 (.val (.int (j : Nat))) (e1.trans e2) (p1.trans p2) S2 (Rep.int _) q3⟩
      obtain ⟨n, h1, rfl⟩ := int_at hz
      rw [eqV_int]
      exact decide_eq_false fun z => hn i hi (z ▸ h1))
end
end AL

namespace AL
open PySem L2
section
variable {c : Ct} {A : AS} {te ta tb tl to : TE} {t u tt : TT} {x y : RV} {Q : QE} {B : EA}
/-! ### enumerate, zip -/
theorem Sim.tupNew {K : PySem.W.Frag} {F G : Hp} {m : List Addr} {A : AS} {σ : St} {H : Hp} (S : Sim K F G m A σ H) {p : Addr} {vs : List V} {ds : List D} (hp : H p = none) (r : Reps K F m vs ds) :
    ∃ F', Ex F F' ∧ Sim K F' G m A σ (upd H p (.tup vs)) ∧ Rep K F' m (.ref p) (.sct ds) :=
  have ex : Ex F (upd F p (.tup vs)) := ex_upd (S.h.fresh hp).1
  ⟨upd F p (.tup vs), ex, S.frz hp, .sct (.inl (.inl upd_same)) (r.mono ex (Pre.refl _))⟩
/-- place and item -/
def enumD (ds : List D) : List D := (List.range ds.length).map fun i => .sct [.int (i : Nat), ds.getD i .non]
theorem enumD_len (ds : List D) : (enumD ds).length = ds.length := by simp [enumD]
theorem getDx {α : Type} {xs : List α} {i : Nat} {d x : α} (h : xs[i]? = some x) : xs.getD i d = x := by simp [List.getD, h]
theorem enumD_at {ds : List D} {i : Nat} {d : D} (h : (enumD ds)[i]? = some d) : ∃ e, ds[i]? = some e ∧ d = .sct [.int (i : Nat), e] := by
  have hl := (List.getElem?_eq_some_iff.mp h).1
  rw [enumD_len] at hl
  unfold enumD at h
  rw [List.getElem?_map, List.getElem?_range hl] at h
  cases h
  exact ⟨_, List.getElem?_eq_getElem hl, by show D.sct [D.int (i : Nat), ds.getD i .non] = _; rw [getDx (List.getElem?_eq_getElem hl)]⟩
theorem real_eT {K : PySem.W.Frag} {F : Hp} {m : List Addr} {a : Addr} {vs : List V} {ds : List D} (h : SqT K F a vs) (r : Reps K F m vs ds) : Real K F m (IteT K a) (enumD ds) := fun F2 G m2 A2 σ H e p S i =>
  have hs : SqT K H a vs := Evl.ex_t S.h.exF (Evl.ex_t e h)
  ⟨fun d hd => by
    obtain ⟨e1, he, rfl⟩ := enumD_at hd
    obtain ⟨v, hv, rv⟩ := r.get he
    refine ⟨⟨vs, v, hs, hv⟩, fun x H' y => ?_⟩
    obtain ⟨T, v2, rfl, hT, rfl, y⟩ := y
    have e2 := y vs hs
    rw [hv] at e2; cases e2
    obtain ⟨F3, e3, S3, R3⟩ := S.tupNew hT (.cons (.int (i : Nat)) (.cons (rv.mono e p) .nil))
    exact ⟨F3, e3, S3, R3⟩, fun hl => ⟨vs, hs, by rw [r.len, ← enumD_len]; exact hl⟩⟩
theorem real_eL {K : PySem.W.Frag} {F : Hp} {m : List Addr} {a : Addr} {vs : List V} {ds : List D} (h : SqL K F a vs) (r : Reps K F m vs ds) : Real K F m (Ite K a) (enumD ds) := fun F2 G m2 A2 σ H e p S i =>
  have hs : SqL K H a vs := Evl.ex_l S.h.exF (Evl.ex_l e h)
  ⟨fun d hd => by
    obtain ⟨e1, he, rfl⟩ := enumD_at hd
    obtain ⟨v, hv, rv⟩ := r.get he
    refine ⟨⟨vs, v, hs, hv⟩, fun x H' y => ?_⟩
    obtain ⟨T, v2, rfl, hT, rfl, y⟩ := y
    have e2 := y vs hs
    rw [hv] at e2; cases e2
    obtain ⟨F3, e3, S3, R3⟩ := S.tupNew hT (.cons (.int (i : Nat)) (.cons (rv.mono e p) .nil))
    exact ⟨F3, e3, S3, R3⟩, fun hl => ⟨vs, hs, by rw [r.len, ← enumD_len]; exact hl⟩⟩
theorem wi_enumT {ta : TA} {Q : AS → List D → Prop} (h : WA c ta A fun A1 es => ∃ ds, (es = [.tup ds] ∨ es = [.sct ds]) ∧ Q A1 (enumD ds)) : WI c (iEnumA c.K ta) A Q := fun F G m σ H S E Rc k =>
  .inr (h F G m σ H S E _ fun F1 m1 A1 vs H1 es e1 p1 S1 R1 ⟨ds, ee, q⟩ => by
    rcases ee with rfl | rfl
    · cases R1 with
      | cons a r =>
        cases r
        cases a with
        | tup pt rv => exact ⟨_, _, rfl, Evl.ex_t S1.h.exF pt.seq, k F1 m1 A1 _ H1 _ e1 p1 S1 (real_eT pt.seq rv) q⟩
    · cases R1 with
      | cons a r =>
        cases r
        cases a with
        | sct pt rv => exact ⟨_, _, rfl, Evl.ex_t S1.h.exF pt, k F1 m1 A1 _ H1 _ e1 p1 S1 (real_eT pt rv) q⟩)
theorem wi_enumL {ta : TA} {Q : AS → List D → Prop} (h : WA c ta A fun A1 es => ∃ ds, es = [.lst ds] ∧ Q A1 (enumD ds)) : WI c (iEnumA c.K ta) A Q := fun F G m σ H S E Rc k =>
  .inl (h F G m σ H S E _ fun F1 m1 A1 vs H1 es e1 p1 S1 R1 ⟨ds, ee, q⟩ => by
    subst ee
    cases R1 with
    | cons a r =>
      cases r
      cases a with
      | lst pt rv => exact ⟨_, _, rfl, .inl (.inl (S1.h.exF _ _ pt)), k F1 m1 A1 _ H1 _ e1 p1 S1 (real_eL (.inl (.inl pt)) rv) q⟩)
/-- items beside one another -/
def zipD (ds es : List D) : List D := (List.range (min ds.length es.length)).map fun i => .sct [ds.getD i .non, es.getD i .non]
theorem zipD_len (ds es : List D) : (zipD ds es).length = min ds.length es.length := by simp [zipD]
theorem zipD_at {ds es : List D} {i : Nat} {d : D} (h : (zipD ds es)[i]? = some d) : ∃ a b, ds[i]? = some a ∧ es[i]? = some b ∧ d = .sct [a, b] := by
  have hl := (List.getElem?_eq_some_iff.mp h).1
  rw [zipD_len] at hl
  unfold zipD at h
  rw [List.getElem?_map, List.getElem?_range hl] at h
  cases h
  have h1 : i < ds.length := by omega
  have h2 : i < es.length := by omega
  exact ⟨_, _, List.getElem?_eq_getElem h1, List.getElem?_eq_getElem h2, by show D.sct [ds.getD i .non, es.getD i .non] = _; rw [getDx (List.getElem?_eq_getElem h1), getDx (List.getElem?_eq_getElem h2)]⟩
theorem real_zT {K : PySem.W.Frag} {F : Hp} {m : List Addr} {a b : Addr} {vs ws : List V} {ds es : List D} (h : SqT K F a vs) (r : Reps K F m vs ds) (h2 : SqT K F b ws) (r2 : Reps K F m ws es) : Real K F m (RZ.ItzT K a b) (zipD ds es) := fun F2 G m2 A2 σ H e p S i =>
  have hs : SqT K H a vs := Evl.ex_t S.h.exF (Evl.ex_t e h)
  have hs2 : SqT K H b ws := Evl.ex_t S.h.exF (Evl.ex_t e h2)
  ⟨fun d hd => by
    obtain ⟨d1, d2, z1, z2, rfl⟩ := zipD_at hd
    obtain ⟨v, hv, rv⟩ := r.get z1
    obtain ⟨w, hw, rw_⟩ := r2.get z2
    refine ⟨⟨vs, ws, v, w, hs, hs2, hv, hw⟩, fun x H' y => ?_⟩
    obtain ⟨T, v2, w2, rfl, hT, rfl, y1, y2⟩ := y
    have q1 := y1 vs hs
    rw [hv] at q1; cases q1
    have q2 := y2 ws hs2
    rw [hw] at q2; cases q2
    obtain ⟨F3, e3, S3, R3⟩ := S.tupNew hT (.cons (rv.mono e p) (.cons (rw_.mono e p) .nil))
    exact ⟨F3, e3, S3, R3⟩, fun hl => ⟨vs, ws, hs, hs2, by rw [zipD_len] at hl; rw [r.len, r2.len]; omega⟩⟩
theorem real_zM {K : PySem.W.Frag} {F : Hp} {m : List Addr} {a b : Addr} {vs ws : List V} {ds es : List D} (h : SqT K F a vs) (r : Reps K F m vs ds) (h2 : SqL K F b ws) (r2 : Reps K F m ws es) : Real K F m (ItM K a b) (zipD ds es) := fun F2 G m2 A2 σ H e p S i =>
  have hs : SqT K H a vs := Evl.ex_t S.h.exF (Evl.ex_t e h)
  have hs2 : SqL K H b ws := Evl.ex_l S.h.exF (Evl.ex_l e h2)
  ⟨fun d hd => by
    obtain ⟨d1, d2, z1, z2, rfl⟩ := zipD_at hd
    obtain ⟨v, hv, rv⟩ := r.get z1
    obtain ⟨w, hw, rw_⟩ := r2.get z2
    refine ⟨⟨vs, ws, v, w, hs, hs2, hv, hw⟩, fun x H' y => ?_⟩
    obtain ⟨T, v2, w2, rfl, hT, rfl, y1, y2⟩ := y
    have q1 := y1 vs hs
    rw [hv] at q1; cases q1
    have q2 := y2 ws hs2
    rw [hw] at q2; cases q2
    obtain ⟨F3, e3, S3, R3⟩ := S.tupNew hT (.cons (rv.mono e p) (.cons (rw_.mono e p) .nil))
    exact ⟨F3, e3, S3, R3⟩, fun hl => ⟨vs, ws, hs, hs2, by rw [zipD_len] at hl; rw [r.len, r2.len]; omega⟩⟩
theorem wi_zipT {ta : TA} {Q : AS → List D → Prop} (h : WA c ta A fun A1 xs => ∃ ds es, xs = [.tup ds, .tup es] ∧ Q A1 (zipD ds es)) : WI c (iZipAA c.K ta) A Q := fun F G m σ H S E Rc k =>
  .inl (h F G m σ H S E _ fun F1 m1 A1 vs H1 xs e1 p1 S1 R1 ⟨ds, es, ee, q⟩ => by
    subst ee
    cases R1 with
    | cons a r =>
      cases r with
      | cons b r =>
        cases r
        cases a with
        | tup pt rv => cases b with
          | tup pt2 rv2 => exact ⟨_, _, _, _, rfl, .inr ⟨Evl.ex_t S1.h.exF pt.seq, Evl.ex_t S1.h.exF pt2.seq, k F1 m1 A1 _ H1 _ e1 p1 S1 (real_zT pt.seq rv pt2.seq rv2) q⟩⟩)
theorem wi_zipM {ta : TA} {Q : AS → List D → Prop} (h : WA c ta A fun A1 xs => ∃ ds es, xs = [.tup ds, .lst es] ∧ Q A1 (zipD ds es)) : WI c (iZipAA c.K ta) A Q := fun F G m σ H S E Rc k =>
  .inr (h F G m σ H S E _ fun F1 m1 A1 vs H1 xs e1 p1 S1 R1 ⟨ds, es, ee, q⟩ => by
    subst ee
    cases R1 with
    | cons a r =>
      cases r with
      | cons b r =>
        cases r
        cases a with
        | tup pt rv => cases b with
          | lst pt2 rv2 => exact ⟨_, _, _, _, rfl, Evl.ex_t S1.h.exF pt.seq, .inl (.inl (S1.h.exF _ _ pt2)), k F1 m1 A1 _ H1 _ e1 p1 S1 (real_zM pt.seq rv (.inl (.inl pt2)) rv2) q⟩)
/-! ### instances -/
/-- the class and the attributes of an instance, frozen or a cell -/
def insOf (A : AS) : RV → Option (Addr × List (Str × D))
  | .val (.obj C fs) => some (C, fs)
  | .val (.ptr n) => match A.o[n]? with
    | some (.ins C fs) => some (C, fs)
    | _ => none
  | _ => none
theorem rep_ins {K : PySem.W.Frag} {F G : Hp} {m : List Addr} {σ : St} {H : Hp} {v : V} {C : Addr} {fs : List (Str × D)} (S : Sim K F G m A σ H) (R : RepR K F m A σ v x) (h : insOf A x = some (C, fs)) : ∃ a dx fv, v = .ref a ∧ H a = some (.ins C dx fv) ∧ RepF K F m fv fs := by
  cases x with
  | slot i => simp [insOf] at h
  | val d =>
    cases d with
    | obj C' gs => cases h; cases R with | obj e r => exact ⟨_, _, _, rfl, S.h.exF _ _ e, r⟩
    | ptr n =>
      cases R with
      | ptr e =>
        simp only [insOf] at h
        split at h
        · rename_i C' gs eo
          cases h
          obtain ⟨_, _, dx, fv, hv, rv⟩ := S.h.cell n _ _ e eo trivial
          exact ⟨_, dx, fv, rfl, hv, rv⟩
        · cases h
    | _ => simp [insOf] at h
theorem we_fld {f : Str} (h : WE c ta A fun A1 x => ∃ C fs d, insOf A1 x = some (C, fs) ∧ Cls c.K C ∧ NoAttr c.K C f ∧ fs.lookup f = some d ∧ Q A1 (.val d)) : WE c (tFld c.K ta f) A Q := fun F G m σ H S E Qc k =>
  h F G m σ H S E _ fun F1 m1 A1 v H1 x e1 p1 S1 R1 ⟨C, fs, d, hi, hC, hn, hl, q⟩ => by
    obtain ⟨a, dx, fv, rfl, hv, rf⟩ := rep_ins S1 R1 hi
    obtain ⟨w, hw, rw_⟩ := rf.look hl
    exact ⟨a, C, dx, fv, w, rfl, hv, hC, hn, hw, k F1 m1 A1 w H1 (.val d) e1 p1 S1 rw_ q⟩
/-- self.f = e, self a cell -/
theorem ws_fld {f : Str} {nx bk ct : AS → Prop} {rt : List Cell → D → Prop} (h : WE c te A fun A1 r => Frz A1 r fun A2 d => WE c ta A2 fun A3 x => ∃ n C fs, x = .val (.ptr n) ∧ A3.o[n]? = some (.ins C fs) ∧ Cls c.K C ∧ NoAttr c.K C f ∧ fs.length < 900 ∧ nx ⟨A3.s, A3.o.set n (.ins C (putD f d fs))⟩) :
    WS c (sFld c.K ta te f) A ⟨nx, rt, bk, ct⟩ := fun F G m σ H S E Dc k => (WE.frz h) F G m σ H S E _ fun F1 m1 A1 v H1 r e1 p1 S1 R1 ⟨d, er, q⟩ => by
  subst er
  refine q F1 G m1 σ H1 S1 (E.mono e1 p1) _ fun F2 m2 A2 w H2 x e2 p2 S2 R2 q2 => ?_
  obtain ⟨n, C, fs, ex, eo, hC, hn, hl, q3⟩ := q2
  subst ex
  cases R2 with
  | ptr em =>
    obtain ⟨f0, g0, dx, fv, hv, rv⟩ := S2.h.cell n _ _ em eo trivial
    have R1' : Rep c.K F2 m2 v d := Rep.mono e2 p2 R1
    refine ⟨_, C, dx, fv, rfl, hv, hC, hn, by rw [rv.len]; omega, k.nx F2 m2 ⟨A2.s, A2.o.set n (.ins C (putD f d fs))⟩ σ _ (e1.trans e2) (p1.trans p2) ⟨S2.h.cset (c' := .ins C (putD f d fs)) em eo trivial trivial ⟨dx, _, upd_same, rv.put R1'⟩, S2.s.go (Evl.Ex.refl _) (Pre.refl _) fun i z a y1 y2 => ?_⟩ q3⟩
    obtain ⟨b, qb, l, f', g', mm, cc⟩ := S2.s.ownAt y1
    rw [y2] at qb; cases qb
    exact ⟨f', mm, upd_ne fun z => mm n (by rw [z]; exact em)⟩
/-- a method of an instance -/
theorem we_meth {C : Addr} {mm : Str} {Φ : Contract} {E : XK} {t : TA} (h : WE c ta A fun A1 x => ∃ d fs, x = .val d ∧ insOf A1 (.val d) = some (C, fs) ∧ fs.lookup mm = none ∧ WA c t A1 fun A2 ds => Φ (d :: ds) A2.o (fun O' e => Q ⟨A2.s, O'⟩ (.val e)) (fun _ _ _ => False)) :
    WE c (tMeth C mm (SpA c.K Φ) [] E ta t) A Q := fun F G m σ H S Eo Qc k => h F G m σ H S Eo _ fun F1 m1 A1 v H1 x e1 p1 S1 R1 ⟨d, fs, ex, hi, hl, q⟩ => by
  subst ex
  obtain ⟨a, dx, fv, rfl, hv, rf⟩ := rep_ins S1 R1 hi
  refine ⟨a, dx, fv, rfl, hv, rf.look0 hl, q F1 G m1 σ H1 S1 (Eo.mono e1 p1) _ fun F2 m2 A2 vs H2 ds e2 p2 S2 R2 q2 => ?_⟩
  refine ⟨F2, callG A2.s σ G H2, m2, A2.o, d :: ds, _, _, S2.call, .cons (Rep.mono e2 p2 R1) (by simpa using R2), q2, fun F' m' O' w e H' e3 p3 hs r rr => k F' m' ⟨A2.s, O'⟩ w H' (.val e) ((e1.trans e2).trans e3) ((p1.trans p2).trans p3) (S2.back e3 p3 hs) r rr, fun F' m' O' C dx fvs fs H' e p hs fx rf xx => xx.elim⟩
/-- a method that may raise -/
theorem we_methX {C : Addr} {mm : Str} {Φ : Contract} {E : XK} {t : TA} (hE : ∀ σ, c.E σ = E) (h : WE c ta A fun A1 x => ∃ d fs, x = .val d ∧ insOf A1 (.val d) = some (C, fs) ∧ fs.lookup mm = none ∧ WA c t A1 fun A2 ds => Φ (d :: ds) A2.o (fun O' e => Q ⟨A2.s, O'⟩ (.val e)) (fun O' C fs => c.X ⟨A2.s, O'⟩ C fs)) :
    WE c (tMeth C mm (SpA c.K Φ) [] E ta t) A Q := fun F G m σ H S Eo Qc k => h F G m σ H S Eo _ fun F1 m1 A1 v H1 x e1 p1 S1 R1 ⟨d, fs, ex, hi, hl, q⟩ => by
  subst ex
  obtain ⟨a, dx, fv, rfl, hv, rf⟩ := rep_ins S1 R1 hi
  refine ⟨a, dx, fv, rfl, hv, rf.look0 hl, q F1 G m1 σ H1 S1 (Eo.mono e1 p1) _ fun F2 m2 A2 vs H2 ds e2 p2 S2 R2 q2 => ?_⟩
  refine ⟨F2, callG A2.s σ G H2, m2, A2.o, d :: ds, _, _, S2.call, .cons (Rep.mono e2 p2 R1) (by simpa using R2), q2, fun F' m' O' w e H' e3 p3 hs r rr => k F' m' ⟨A2.s, O'⟩ w H' (.val e) ((e1.trans e2).trans e3) ((p1.trans p2).trans p3) (S2.back e3 p3 hs) r rr, fun F' m' O' C dx fvs fs H' e p hs fx rf xx => ?_⟩
  have z := Eo.x F' m' ⟨A2.s, O'⟩ σ H' C dx fvs fs ((e1.trans e2).trans e) ((p1.trans p2).trans p) (S2.back e p hs) fx rf xx
  rw [hE] at z; exact z
/-- a property -/
theorem we_prop {C : Addr} {Φ : Contract} {E : XK} (h : WE c ta A fun A1 x => ∃ d fs, x = .val d ∧ insOf A1 (.val d) = some (C, fs) ∧ Φ [d] A1.o (fun O' e => Q ⟨A1.s, O'⟩ (.val e)) (fun _ _ _ => False)) :
    WE c (tProp C (SpA c.K Φ) [] E ta) A Q := fun F G m σ H S Eo Qc k => h F G m σ H S Eo _ fun F1 m1 A1 v H1 x e1 p1 S1 R1 ⟨d, fs, ex, hi, q⟩ => by
  subst ex
  obtain ⟨a, dx, fv, rfl, hv, rf⟩ := rep_ins S1 R1 hi
  exact ⟨a, dx, fv, rfl, hv, F1, callG A1.s σ G H1, m1, A1.o, [d], _, _, S1.call, .cons R1 .nil, q, fun F' m' O' w e H' e3 p3 hs r rr => k F' m' ⟨A1.s, O'⟩ w H' (.val e) (e1.trans e3) (p1.trans p3) (S1.back e3 p3 hs) r rr, fun F' m' O' C dx fvs fs H' e p hs fx rf xx => xx.elim⟩
/-- the heap with a new instance as a cell -/
theorem Sim.insNew {K : PySem.W.Frag} {F G : Hp} {m : List Addr} {σ : St} {H : Hp} {p dx C : Addr} (S : Sim K F G m A σ H) (hp : H p = none) (hd : H dx = none) (n : dx ≠ p) : Sim K (upd F dx (.own p)) G (m ++ [p]) ⟨A.s, A.o ++ [.ins C []]⟩ σ (upd (upd H dx (.own p)) p (.ins C dx [])) := by
  have S1 := S.frz (o := .own p) hd
  have hp1 : upd H dx (.own p) p = none := by rw [upd_ne (Ne.symm n)]; exact hp
  refine ⟨S1.h.cnew (c := .ins C []) hp1 trivial ⟨dx, [], upd_same, .nil⟩, S1.s.go (Evl.Ex.refl _) Pre.app fun i z a y1 y2 => ?_⟩
  obtain ⟨b, qb, l, f', g', mm, cc⟩ := S1.s.ownAt y1
  rw [y2] at qb; cases qb
  have np := cc.ne l hp1
  refine ⟨f', fun k e => ?_, upd_ne np⟩
  by_cases y : k < m.length
  · rw [List.getElem?_append_left y] at e; exact mm k e
  · have hl := (List.getElem?_eq_some_iff.mp e).1
    rw [List.length_append] at hl
    have ek : k = m.length := by simp only [List.length_cons, List.length_nil] at hl; omega
    subst ek
    rw [List.getElem?_append_right (Nat.le_refl _), Nat.sub_self] at e
    cases e; exact np rfl
theorem Ex.own {F : Hp} {dx p : Addr} (h : F dx = none) : Ex F (upd F dx (.own p)) := ex_upd h
/-- C(..): the instance is a cell -/
theorem we_make {C : Addr} {Φ : Contract} {E : XK} {t : TA} (h : WA c t A fun A1 ds => Φ (.ptr A1.o.length :: ds) (A1.o ++ [.ins C []]) (fun O' d => d = .non ∧ Q ⟨A1.s, O'⟩ (.val (.ptr A1.o.length))) (fun _ _ _ => False)) : WE c (tMake C (SpA c.K Φ) [] E t) A Q := fun F G m σ H S Eo Qc k =>
  h F G m σ H S Eo _ fun F1 m1 A1 vs H1 ds e1 p1 S1 R1 q => by
    intro p dx hp hd n
    have S2 := S1.insNew (C := C) hp hd n
    have ex : Ex F1 (upd F1 dx (.own p)) := ex_upd (S1.h.fresh hd).1
    have pr : Pre m1 (m1 ++ [p]) := Pre.app
    have gp : (m1 ++ [p])[A1.o.length]? = some p := by rw [← S1.h.len, List.getElem?_append_right (Nat.le_refl _), Nat.sub_self]; rfl
    refine ⟨upd F1 dx (.own p), _, m1 ++ [p], A1.o ++ [.ins C []], .ptr A1.o.length :: ds, _, _, S2.call, .cons (.ptr gp) (by simpa using R1.mono ex pr), q, fun F' m' O' w d H' e3 p3 hs r rr => ?_, fun F' m' O' C dx fvs fs H' e p hs fx rf xx => xx.elim⟩
    obtain ⟨ed, rr⟩ := rr
    subst ed
    cases r
    exact ⟨rfl, k F' m' ⟨A1.s, O'⟩ _ H' (.val (.ptr A1.o.length)) ((e1.trans ex).trans e3) ((p1.trans pr).trans p3) (S2.back e3 p3 hs) (show Rep c.K F' m' _ _ from .ptr (p3 _ _ gp)) rr⟩
/-- an instance that is a cell becomes data -/
theorem Sim.insFrz {K : PySem.W.Frag} {F G : Hp} {m : List Addr} {σ : St} {H : Hp} {n : Nat} {C p : Addr} {fs : List (Str × D)} (S : Sim K F G m A σ H) (hm : m[n]? = some p) (ho : A.o[n]? = some (.ins C fs)) : ∃ F', Ex F F' ∧ Sim K F' G m ⟨A.s, A.o.set n .gone⟩ σ H ∧ Rep K F' m (.ref p) (.obj C fs) := by
  obtain ⟨f0, g0, dx, fv, hv, rv⟩ := S.h.cell n _ _ hm ho trivial
  have ex : Ex F (upd F p (.ins C dx fv)) := ex_upd f0
  refine ⟨upd F p (.ins C dx fv), ex, ⟨⟨fun a u e => ?_, S.h.exG, fun a u e => ?_, by rw [List.length_set]; exact S.h.len, fun i a d e1 e2 l => ?_, S.h.inj, S.h.here, S.h.mG, fun i a e1 e2 => ?_⟩, S.s.go ex (Pre.refl _) fun i z a y1 y2 => ?_⟩, .obj upd_same (rv.mono ex (Pre.refl _))⟩
  · by_cases z : a = p
    · subst z; rw [upd_same] at e; cases e; exact hv
    · rw [upd_ne z] at e; exact S.h.exF _ _ e
  · by_cases z : a = p
    · subst z; exact g0
    · rw [upd_ne z] at e; exact S.h.dj _ _ e
  · by_cases z : i = n
    · subst z
      rw [List.getElem?_set_self (List.getElem?_eq_some_iff.mp ho).1] at e2
      cases e2; exact l.elim
    · rw [List.getElem?_set_ne (Ne.symm z)] at e2
      obtain ⟨x1, x2, x3⟩ := S.h.cell i a d e1 e2 l
      have np : a ≠ p := fun y => z (S.h.inj i n p (y ▸ e1) hm)
      exact ⟨by rw [upd_ne np]; exact x1, x2, x3.mono ex (Pre.refl _) rfl⟩
  · by_cases z : i = n
    · subst z
      rw [hm] at e1; cases e1
      exact ⟨C, dx, fv, upd_same⟩
    · rw [List.getElem?_set_ne (Ne.symm z)] at e2
      obtain ⟨C', dx', fv', q⟩ := S.h.gn i a e1 e2
      exact ⟨C', dx', fv', ex _ _ q⟩
  · obtain ⟨b, qb, l, f', g', mm, cc⟩ := S.s.ownAt y1
    rw [y2] at qb; cases qb
    exact ⟨by rw [upd_ne (fun y => mm n (by rw [y]; exact hm))]; exact f', mm, rfl⟩
/-- C(..): the instance never changes from now on -/
theorem we_makeF {C : Addr} {Φ : Contract} {E : XK} {t : TA} (h : WA c t A fun A1 ds => Φ (.ptr A1.o.length :: ds) (A1.o ++ [.ins C []]) (fun O' d => d = .non ∧ ∃ fs, O'[A1.o.length]? = some (.ins C fs) ∧ Q ⟨A1.s, O'.set A1.o.length .gone⟩ (.val (.obj C fs))) (fun _ _ _ => False)) : WE c (tMake C (SpA c.K Φ) [] E t) A Q := fun F G m σ H S Eo Qc k =>
  h F G m σ H S Eo _ fun F1 m1 A1 vs H1 ds e1 p1 S1 R1 q => by
    intro p dx hp hd n
    have S2 := S1.insNew (C := C) hp hd n
    have ex : Ex F1 (upd F1 dx (.own p)) := ex_upd (S1.h.fresh hd).1
    have pr : Pre m1 (m1 ++ [p]) := Pre.app
    have gp : (m1 ++ [p])[A1.o.length]? = some p := by rw [← S1.h.len, List.getElem?_append_right (Nat.le_refl _), Nat.sub_self]; rfl
    refine ⟨upd F1 dx (.own p), _, m1 ++ [p], A1.o ++ [.ins C []], .ptr A1.o.length :: ds, _, _, S2.call, .cons (.ptr gp) (by simpa using R1.mono ex pr), q, fun F' m' O' w d H' e3 p3 hs r rr => ?_, fun F' m' O' C dx fvs fs H' e p hs fx rf xx => xx.elim⟩
    obtain ⟨ed, fs, eo, rr⟩ := rr
    subst ed
    cases r
    obtain ⟨F4, e4, S4, R4⟩ := (S2.back e3 p3 hs).insFrz (p3 _ _ gp) eo
    exact ⟨rfl, k F4 m' _ _ H' (.val (.obj C fs)) (((e1.trans ex).trans e3).trans e4) ((p1.trans pr).trans p3) S4 R4 rr⟩
/-! ### in, not in: flat things -/
def flatD : D → Bool
  | .non | .bl _ | .int _ | .str _ => true
  | _ => false
theorem flatD_ok {K : PySem.W.Frag} {F : Hp} {m : List Addr} {v : V} {d : D} (R : Rep K F m v d) (h : flatD d = true) : flatV v = true := by cases R <;> first | rfl | simp [flatD] at h
theorem reps_flat {K : PySem.W.Frag} {F : Hp} {m : List Addr} : ∀ {vs : List V} {ds : List D}, Reps K F m vs ds → ds.all flatD = true → vs.all flatV = true
  | _, _, .nil, _ => rfl
  | _, _, .cons a r, h => by
    rw [List.all_cons, Bool.and_eq_true] at h ⊢
    exact ⟨flatD_ok a h.1, reps_flat r h.2⟩
theorem all_flat_ints (ns : List Int) : (ns.map D.int).all flatD = true := by rw [List.all_map]; exact List.all_eq_true.mpr fun _ _ => rfl
theorem inV_ints (i : Int) (ns : List Int) : inV (.int i) (ns.map .int) = decide (i ∈ ns) := by
  unfold inV
  rw [List.any_map]
  induction ns with
  | nil => simp
  | cons n ns ih =>
    rw [List.any_cons, ih]
    show (eqV (.int n) (.int i) || _) = _
    rw [eqV_int]
    by_cases h : n = i
    · subst h; simp
    · have h' : ¬ i = n := fun z => h z.symm
      simp [h, h']
/-- i in a row of ints -/
theorem od_inI {i : Int} {ns : List Int} {d : D} (hd : d = .lst (ns.map .int) ∨ d = .tup (ns.map .int) ∨ d = .sct (ns.map .int)) (q : Q A (.val (.bl (decide (i ∈ ns))))) : OpD c (rInA c.K) (.val (.int i)) (.val d) A Q := fun F G m σ H v w S E R1 R2 Qc k => by
  cases R1
  have go : ∀ (p : Addr), SqL c.K H p (ns.map V.int) ∨ SqT c.K H p (ns.map V.int) → rInA c.K (.int i) (.ref p) H Qc := fun p hp => by
    refine ⟨p, _, rfl, hp, rfl, flat_intsV ns, ?_⟩
    show Qc (.bl (inV (.int i) (ns.map V.int))) H
    rw [inV_ints]
    exact k F m A _ H (.val (.bl _)) (Evl.Ex.refl F) (Pre.refl m) S (Rep.bl _) q
  rcases hd with rfl | rfl | rfl
  · cases R2 with | lst e r => rw [r.ints] at e; exact go _ (.inl (.inl (.inl (S.h.exF _ _ e))))
  · cases R2 with | tup e r => rw [r.ints] at e; exact go _ (.inr (Evl.ex_t S.h.exF e.seq))
  · cases R2 with | sct e r => rw [r.ints] at e; exact go _ (.inr (Evl.ex_t S.h.exF e))
theorem od_ninI {i : Int} {ns : List Int} {d : D} (hd : d = .lst (ns.map .int) ∨ d = .tup (ns.map .int) ∨ d = .sct (ns.map .int)) (q : Q A (.val (.bl (!decide (i ∈ ns))))) : OpD c (rNinA c.K) (.val (.int i)) (.val d) A Q := fun F G m σ H v w S E R1 R2 Qc k => by
  cases R1
  have go : ∀ (p : Addr), SqL c.K H p (ns.map V.int) ∨ SqT c.K H p (ns.map V.int) → rNinA c.K (.int i) (.ref p) H Qc := fun p hp => by
    refine ⟨p, _, rfl, hp, rfl, flat_intsV ns, ?_⟩
    show Qc (.bl (!inV (.int i) (ns.map V.int))) H
    rw [inV_ints]
    exact k F m A _ H (.val (.bl _)) (Evl.Ex.refl F) (Pre.refl m) S (Rep.bl _) q
  rcases hd with rfl | rfl | rfl
  · cases R2 with | lst e r => rw [r.ints] at e; exact go _ (.inl (.inl (.inl (S.h.exF _ _ e))))
  · cases R2 with | tup e r => rw [r.ints] at e; exact go _ (.inr (Evl.ex_t S.h.exF e.seq))
  · cases R2 with | sct e r => rw [r.ints] at e; exact go _ (.inr (Evl.ex_t S.h.exF e))
/-- a row of ints that the top has written -/
theorem we_top {v : V} {ns : List Int} (h : ∃ a, v = .ref a ∧ SqT c.K (fun _ => none) a (ns.map V.int)) (q : Q A (.val (.sct (ns.map .int)))) : WE c (tC v) A Q := by
  obtain ⟨a, rfl, hs⟩ := h
  have ht : ∀ F : Hp, SqT c.K F a (ns.map V.int) := fun F => by
    rcases hs with h | h
    · rcases h with h | ⟨o, h⟩ <;> cases h
    · exact .inr h
  exact we_C (fun F m => .sct (ht F) (reps_ints ns)) q
/-! ### the chain a <= b <= c of ints -/
theorem we_chain {r r' : R2} {tc : TE} (h : WE c ta A fun A1 x => WE c tb A1 fun A2 y => Stays A1 A2 x ∧ OpD c r x y A2 fun A3 z => ∃ b, z = .val (.bl b) ∧ Stays A2 A3 y ∧ (b = true → WE c tc A3 fun A4 w => Stays A3 A4 y ∧ OpD c r' y w A4 Q) ∧ (b = false → Q A3 (.val (.bl false)))) : WE c (tChain r r' ta tb tc) A Q := fun F G m σ H S E Qc k =>
  h F G m σ H S E _ fun F1 m1 A1 v H1 x e1 p1 S1 R1 q1 => q1 F1 G m1 σ H1 S1 (E.mono e1 p1) _ fun F2 m2 A2 w H2 y e2 p2 S2 R2 q2 =>
    q2.2 F2 G m2 σ H2 v w S2 (E.mono (e1.trans e2) (p1.trans p2)) (R1.stay e2 p2 q2.1) R2 _ fun F3 m3 A3 z H3 rz e3 p3 S3 R3 ⟨b, ez, st, qt, qf⟩ => by
      subst ez
      cases R3
      refine ⟨b, rfl, ?_⟩
      cases b with
      | false => exact k F3 m3 A3 _ H3 (.val (.bl false)) ((e1.trans e2).trans e3) ((p1.trans p2).trans p3) S3 (Rep.bl false) (qf rfl)
      | true =>
        show tc σ H3 _
        have R2' := R2.stay e3 p3 st
        exact qt rfl F3 G m3 σ H3 S3 (E.mono ((e1.trans e2).trans e3) ((p1.trans p2).trans p3)) _ fun F4 m4 A4 u H4 ru e4 p4 S4 R4 q4 =>
          q4.2 F4 G m4 σ H4 w u S4 (E.mono (((e1.trans e2).trans e3).trans e4) (((p1.trans p2).trans p3).trans p4)) (R2'.stay e4 p4 q4.1) R4 Qc fun F5 m5 A5 v5 H5 r5 e5 p5 S5 R5 q5 =>
            k F5 m5 A5 v5 H5 r5 ((((e1.trans e2).trans e3).trans e4).trans e5) ((((p1.trans p2).trans p3).trans p4).trans p5) S5 R5 q5
end
end AL

namespace AL
open PySem L2
/-! ### a call that reads own lists and hands back no list -/
mutual
inductive NoLst : D → Prop where
  | non : NoLst .non
  | bl (b : Bool) : NoLst (.bl b)
  | int (i : Int) : NoLst (.int i)
  | str (x : Str) : NoLst (.str x)
  | tup {ds : List D} : NoLsts ds → NoLst (.tup ds)
  | sct {ds : List D} : NoLsts ds → NoLst (.sct ds)
  | ptr (n : Nat) : NoLst (.ptr n)
  | obj {C : Addr} {fs : List (Str × D)} : NoLstF fs → NoLst (.obj C fs)
  | cls (a : Addr) : NoLst (.cls a)
  | ty (n : String) : NoLst (.ty n)
inductive NoLsts : List D → Prop where
  | nil : NoLsts []
  | cons {d : D} {ds : List D} : NoLst d → NoLsts ds → NoLsts (d :: ds)
inductive NoLstF : List (Str × D) → Prop where
  | nil : NoLstF []
  | cons {f : Str} {d : D} {ds : List (Str × D)} : NoLst d → NoLstF ds → NoLstF ((f, d) :: ds)
end
theorem noLsts_map {α : Type} {f : α → D} (h : ∀ a, NoLst (f a)) : ∀ xs : List α, NoLsts (xs.map f)
  | [] => .nil
  | x :: xs => .cons (h x) (noLsts_map h xs)
theorem noLsts_ints (ns : List Int) : NoLsts (ns.map .int) := noLsts_map (fun n => .int n) ns
inductive NoLstC : Cell → Prop where
  | gone : NoLstC .gone
  | lst {ds : List D} : NoLsts ds → NoLstC (.lst ds)
  | ins {C : Addr} {fs : List (Str × D)} : NoLstF fs → NoLstC (.ins C fs)
  | dT {kvs : List (List Int × D)} : (∀ x ∈ kvs, NoLst x.2) → NoLstC (.dT kvs)
  | dK {kvs : List (Key × D)} : (∀ x ∈ kvs, NoLst x.2) → NoLstC (.dK kvs)
def NoLstO (O : List Cell) : Prop := ∀ c ∈ O, NoLstC c
theorem NoLstO.nil : NoLstO [] := fun c h => nomatch h
theorem NoLstO.app {O : List Cell} {c : Cell} (h : NoLstO O) (hc : NoLstC c) : NoLstO (O ++ [c]) := fun x hx => by
  rcases List.mem_append.mp hx with z | z
  · exact h x z
  · rw [List.mem_singleton] at z; subst z; exact hc
def OwnL (s : List (Option SV)) (σ : St) (a : Addr) : Prop := ∃ (i : Nat) (ds : List D), s[i]? = some (some (.own (.lst ds))) ∧ σ[i]? = some (some (.ref a))
section
variable {K : PySem.W.Frag} {F G : Hp} {m : List Addr} {A : AS} {σ : St} {H : Hp}
open Classical in
noncomputable def lendF (s : List (Option SV)) (σ : St) (F H : Hp) : Hp := fun a => if OwnL s σ a then H a else F a
open Classical in
noncomputable def lendG (s : List (Option SV)) (σ : St) (G H : Hp) : Hp := fun a => if IsOwn s σ a ∧ ¬ OwnL s σ a then H a else G a
open Classical in
noncomputable def takeF (s : List (Option SV)) (σ : St) (F : Hp) : Hp := fun a => if OwnL s σ a then none else F a
theorem lendF_y {s : List (Option SV)} {a : Addr} (h : OwnL s σ a) : lendF s σ F H a = H a := by unfold lendF; rw [if_pos h]
theorem lendF_n {s : List (Option SV)} {a : Addr} (h : ¬ OwnL s σ a) : lendF s σ F H a = F a := by unfold lendF; rw [if_neg h]
theorem takeF_y {s : List (Option SV)} {a : Addr} (h : OwnL s σ a) : takeF s σ F a = none := by unfold takeF; rw [if_pos h]
theorem takeF_n {s : List (Option SV)} {a : Addr} (h : ¬ OwnL s σ a) : takeF s σ F a = F a := by unfold takeF; rw [if_neg h]
theorem lendG_n {s : List (Option SV)} {a : Addr} (h : ¬ IsOwn s σ a) : lendG s σ G H a = G a := by unfold lendG; rw [if_neg fun z => h z.1]
theorem lendG_l {s : List (Option SV)} {a : Addr} (h : OwnL s σ a) : lendG s σ G H a = G a := by unfold lendG; rw [if_neg fun z => z.2 h]
theorem lendG_o {s : List (Option SV)} {a : Addr} (h : IsOwn s σ a) (h2 : ¬ OwnL s σ a) : lendG s σ G H a = H a := by unfold lendG; rw [if_pos ⟨h, h2⟩]
theorem OwnL.own {s : List (Option SV)} {a : Addr} (h : OwnL s σ a) : IsOwn s σ a := let ⟨i, ds, h1, h2⟩ := h; ⟨i, .lst ds, h1, h2⟩
theorem lend_ex (S : Sim K F G m A σ H) : Ex F (lendF A.s σ F H) := fun a o e => by
  have no : ¬ OwnL A.s σ a := fun z => by rw [(S.s.isOwn z.own).1] at e; cases e
  rw [lendF_n no]; exact e
theorem Sim.lend (S : Sim K F G m A σ H) : HS K (lendF A.s σ F H) (lendG A.s σ G H) m A.o H where
  exF := fun a o e => by
    by_cases z : OwnL A.s σ a
    · rw [lendF_y z] at e; exact e
    · rw [lendF_n z] at e; exact S.h.exF _ _ e
  exG := fun a o e => by
    by_cases y : IsOwn A.s σ a
    · by_cases z : OwnL A.s σ a
      · rw [lendG_l z, (S.s.isOwn y).2.1] at e; cases e
      · rw [lendG_o y z] at e; exact e
    · rw [lendG_n y] at e; exact S.h.exG _ _ e
  dj := fun a o e => by
    by_cases z : OwnL A.s σ a
    · rw [lendG_l z]; exact (S.s.isOwn z.own).2.1
    · rw [lendF_n z] at e
      have no : ¬ IsOwn A.s σ a := fun y => by rw [(S.s.isOwn y).1] at e; cases e
      rw [lendG_n no]; exact S.h.dj _ _ e
  len := S.h.len
  cell := fun n a c e1 e2 l => by
    obtain ⟨x1, x2, x3⟩ := S.h.cell n a c e1 e2 l
    have no : ¬ IsOwn A.s σ a := fun y => absurd e1 ((S.s.isOwn y).2.2.1 n)
    exact ⟨by rw [lendF_n (fun z => no z.own)]; exact x1, by rw [lendG_n no]; exact x2, x3.mono (lend_ex S) (Pre.refl _) rfl⟩
  inj := S.h.inj
  here := S.h.here
  mG := fun n a e => by
    have no : ¬ IsOwn A.s σ a := fun y => absurd e ((S.s.isOwn y).2.2.1 n)
    rw [lendG_n no]; exact S.h.mG n a e
  gn := fun n a e1 e2 => by
    obtain ⟨C, dx, fv, y⟩ := S.h.gn n a e1 e2
    exact ⟨C, dx, fv, lend_ex S a _ y⟩
/-- the own lists' addresses hold lists still -/
theorem own_lst (S : Sim K F G m A σ H) {F' : Hp} (e : Ex (lendF A.s σ F H) F') {a : Addr} (z : OwnL A.s σ a) : ∃ vs, F' a = some (.lst vs) ∧ H a = some (.lst vs) := by
  obtain ⟨i, ds, h1, h2⟩ := id z
  obtain ⟨b, q, _, _, _, _, vs, hv, _⟩ := S.s.ownAt h1
  rw [h2] at q; cases q
  exact ⟨vs, e a _ (by rw [lendF_y z]; exact hv), hv⟩
mutual
theorem Rep.less (no : ∀ a, OwnL A.s σ a → ∃ vs, F a = some (.lst vs)) : ∀ {v : V} {d : D}, Rep K F m v d → NoLst d → Rep K (takeF A.s σ F) m v d
  | _, _, .non, _ => .non
  | _, _, .bl b, _ => .bl b
  | _, _, .int i, _ => .int i
  | _, _, .str x, _ => .str x
  | _, _, .lst _ _, h => by cases h
  | _, _, .scr _ _, h => by cases h
  | _, _, .tup pt r, h => .tup (by
      rcases pt with ⟨its, e⟩ | pt
      · refine .inl ⟨its, ?_⟩
        rw [takeF_n fun z => by obtain ⟨vs, q⟩ := no _ z; rw [q] at e; cases e]; exact e
      · exact .inr pt) (Reps.less no r (by cases h; assumption))
  | _, _, .sct pt r, h => .sct (by
      rcases pt with (e | ⟨o, e⟩) | e
      · exact .inl (.inl (by rw [takeF_n fun z => by obtain ⟨vs, q⟩ := no _ z; rw [q] at e; cases e]; exact e))
      · exact .inl (.inr ⟨o, by rw [takeF_n fun z => by obtain ⟨vs, q⟩ := no _ z; rw [q] at e; cases e]; exact e⟩)
      · exact .inr e) (Reps.less no r (by cases h; assumption))
  | _, _, .ptr e, _ => .ptr e
  | _, _, .obj e r, h => .obj (by rw [takeF_n fun z => by obtain ⟨vs, q⟩ := no _ z; rw [q] at e; cases e]; exact e) (RepF.less no r (by cases h; assumption))
  | _, _, .cls a, _ => .cls a
  | _, _, .ty n, _ => .ty n
theorem Reps.less (no : ∀ a, OwnL A.s σ a → ∃ vs, F a = some (.lst vs)) : ∀ {v : List V} {d : List D}, Reps K F m v d → NoLsts d → Reps K (takeF A.s σ F) m v d
  | _, _, .nil, _ => .nil
  | _, _, .cons a r, h => .cons (Rep.less no a (by cases h; assumption)) (Reps.less no r (by cases h; assumption))
theorem RepF.less (no : ∀ a, OwnL A.s σ a → ∃ vs, F a = some (.lst vs)) : ∀ {v : List (Str × V)} {d : List (Str × D)}, RepF K F m v d → NoLstF d → RepF K (takeF A.s σ F) m v d
  | _, _, .nil, _ => .nil
  | _, _, .cons a r, h => .cons (Rep.less no a (by cases h; assumption)) (RepF.less no r (by cases h; assumption))
end
theorem RepT.less (no : ∀ a, OwnL A.s σ a → ∃ vs, F a = some (.lst vs)) : ∀ {v : TK} {d : List (List Int × D)}, RepT K F m v d → (∀ x ∈ d, NoLst x.2) → RepT K (takeF A.s σ F) m v d
  | _, _, .nil, _ => .nil
  | _, _, .cons pt a r, h => .cons (by
      rcases pt with ⟨its, e⟩ | pt
      · refine .inl ⟨its, ?_⟩
        rw [takeF_n fun z => by obtain ⟨vs, q⟩ := no _ z; rw [q] at e; cases e]; exact e
      · exact .inr pt) (Rep.less no a (h _ (List.mem_cons_self ..))) (RepT.less no r fun x hx => h x (List.mem_cons_of_mem _ hx))
theorem RepK.less {κ : Type} (no : ∀ a, OwnL A.s σ a → ∃ vs, F a = some (.lst vs)) : ∀ {v : List (κ × V)} {d : List (κ × D)}, RepK K F m v d → (∀ x ∈ d, NoLst x.2) → RepK K (takeF A.s σ F) m v d
  | _, _, .nil, _ => .nil
  | _, _, .cons a r, h => .cons (Rep.less no a (h _ (List.mem_cons_self ..))) (RepK.less no r fun x hx => h x (List.mem_cons_of_mem _ hx))
theorem Sim.took (S : Sim K F G m A σ H) {F' H' : Hp} {m' : List Addr} {O' : List Cell} (e : Ex (lendF A.s σ F H) F') (p : Pre m m') (q : HS K F' (lendG A.s σ G H) m' O' H') (hO : NoLstO O') : Ex F (takeF A.s σ F') ∧ Sim K (takeF A.s σ F') G m' ⟨A.s, O'⟩ σ H' := by
  have no : ∀ a, OwnL A.s σ a → ∃ vs, F' a = some (.lst vs) := fun a z => let ⟨vs, h, _⟩ := own_lst S e z; ⟨vs, h⟩
  have sub : ∀ a o, G a = some o → lendG A.s σ G H a = some o := fun a o g => by
    have y : ¬ IsOwn A.s σ a := fun y => by rw [(S.s.isOwn y).2.1] at g; cases g
    rw [lendG_n y]; exact g
  have non : ∀ a, lendG A.s σ G H a = none → G a = none := fun a c => by
    cases g : G a with
    | none => rfl
    | some o => rw [sub a o g] at c; cases c
  have ex : Ex F (takeF A.s σ F') := fun a o h => by
    have y : ¬ OwnL A.s σ a := fun y => by rw [(S.s.isOwn y.own).1] at h; cases h
    rw [takeF_n y]; exact e a o (lend_ex S a o h)
  have tk : ∀ a o, takeF A.s σ F' a = some o → F' a = some o := fun a o h => by
    by_cases y : OwnL A.s σ a
    · rw [takeF_y y] at h; cases h
    · rw [takeF_n y] at h; exact h
  have tn : ∀ a, F' a = none → takeF A.s σ F' a = none := fun a h => by
    by_cases y : OwnL A.s σ a
    · exact takeF_y y
    · rw [takeF_n y]; exact h
  refine ⟨ex, ⟨fun a o h => q.exF _ _ (tk a o h), fun a o g => q.exG _ _ (sub a o g), fun a o h => non a (q.dj a o (tk a o h)), q.len, fun n a c e1 e2 l => ?_, q.inj, q.here, fun n a h => non a (q.mG n a h), fun n a e1 e2 => ?_⟩, S.s.len, fun i x y e1 e2 => ?_, S.s.own⟩
  · obtain ⟨x1, x2, x3⟩ := q.cell n a c e1 e2 l
    refine ⟨tn a x1, non a x2, ?_⟩
    have hc := hO c (List.mem_of_getElem? e2)
    cases hc with
    | gone => exact l.elim
    | lst h => obtain ⟨vs, hv, rv⟩ := x3; exact ⟨vs, hv, Reps.less no rv h⟩
    | ins h => obtain ⟨dx, fv, hv, rv⟩ := x3; exact ⟨dx, fv, hv, RepF.less no rv h⟩
    | dT h => obtain ⟨kva, hv, rv⟩ := x3; exact ⟨kva, hv, RepT.less no rv h⟩
    | dK h => obtain ⟨kva, hv, rv⟩ := x3; exact ⟨kva, hv, RepK.less no rv h⟩
  · obtain ⟨C, dx, fv, y⟩ := q.gn n a e1 e2
    refine ⟨C, dx, fv, ?_⟩
    rw [takeF_n fun z => by obtain ⟨vs, h⟩ := no a z; rw [h] at y; cases y]; exact y
  · have z := S.s.at_ i x y e1 e2
    match x, y, z, e1, e2 with
    | _, none, _, _, _ => cases x <;> trivial
    | some v, some (.val d), z, _, _ => exact Rep.mono ex p z
    | some v, some (.own c), ⟨a, ea, l, f, g, mm, cc⟩, e1, e2 =>
      subst ea
      have ow : IsOwn A.s σ a := ⟨i, c, e2, e1⟩
      have key : takeF A.s σ F' a = none ∧ (∀ n : Nat, m'[n]? ≠ some a) ∧ H' a = H a := by
        by_cases y : OwnL A.s σ a
        · obtain ⟨vs, h1, h2⟩ := own_lst S e y
          refine ⟨takeF_y y, fun n h => ?_, by rw [q.exF _ _ h1, h2]⟩
          have ln : n < O'.length := by rw [← q.len]; exact (List.getElem?_eq_some_iff.mp h).1
          have en : O'[n]? = some O'[n] := List.getElem?_eq_getElem ln
          cases z : O'[n] with
          | gone =>
            rw [z] at en
            obtain ⟨C, dx, fv, y⟩ := q.gn n a h en
            rw [h1] at y; cases y
          | _ =>
            rw [z] at en
            have y := (q.cell n a _ h en trivial).1
            rw [h1] at y; cases y
        · obtain ⟨u, hu⟩ := (S.s.isOwn ow).2.2.2
          have gl : lendG A.s σ G H a = some u := by rw [lendG_o ow y]; exact hu
          refine ⟨?_, fun n h => ?_, by rw [q.exG _ _ gl, hu]⟩
          · refine tn a ?_
            cases z : F' a with
            | none => rfl
            | some o => rw [q.dj a o z] at gl; cases gl
          · have := q.mG n a h
            rw [gl] at this; cases this
      exact ⟨a, rfl, l, key.1, g, key.2.1, cc.mono ex p key.2.2⟩
variable {c : Ct} {te ta to : TE} {Q : QE}
/-- the arguments, own lists lent -/
def lent (A : AS) : List RV → Option (List D)
  | [] => some []
  | .val d :: r => (lent A r).map (d :: ·)
  | .slot i :: r => match A.s[i]? with
    | some (some (.own (.lst ds))) => (lent A r).map (.lst ds :: ·)
    | _ => none
theorem lent_ok {K : PySem.W.Frag} {F G : Hp} {m : List Addr} {A : AS} {σ : St} {H : Hp} (S : Sim K F G m A σ H) : ∀ {vs : List V} {rs : List RV} {ds : List D}, RepRs K F m A σ vs rs → lent A rs = some ds → Reps K (lendF A.s σ F H) m vs ds
  | _, _, _, .nil, h => by cases h; exact .nil
  | _, .val d :: r, ds, .cons a t, h => by
    simp only [lent, Option.map_eq_some_iff] at h
    obtain ⟨es, h1, rfl⟩ := h
    exact .cons (Rep.mono (lend_ex S) (Pre.refl _) a) (lent_ok S t h1)
  | _, .slot i :: r, ds, .cons a t, h => by
    obtain ⟨e1, x, e2⟩ := a
    simp only [lent, e2] at h
    cases x with
    | lst xs =>
      simp only [Option.map_eq_some_iff] at h
      obtain ⟨es, h1, rfl⟩ := h
      obtain ⟨b, q, _, _, _, _, ws, hv, rv⟩ := S.s.ownAt e2
      rw [e1] at q; cases q
      exact .cons (.lst (by rw [lendF_y ⟨i, xs, e2, e1⟩]; exact hv) (rv.mono (lend_ex S) (Pre.refl _))) (lent_ok S t h1)
    | _ => simp at h
/-- a call that is lent own lists, and hands back no list -/
theorem we_callB {Φ : Contract} {E : XK} {t : TA} (h : WAr c t A fun A1 rs => ∃ ds, lent A1 rs = some ds ∧ Φ ds A1.o (fun O' d => NoLst d ∧ NoLstO O' ∧ Q ⟨A1.s, O'⟩ (.val d)) (fun _ _ _ => False)) : WE c (tCall (SpA c.K Φ) [] E t) A Q := fun F G m σ H S Eo Qc k =>
  h F G m σ H S Eo _ fun F1 m1 A1 vs H1 rs e1 p1 S1 R1 ⟨ds, hl, q⟩ =>
    ⟨lendF A1.s σ F1 H1, lendG A1.s σ G H1, m1, A1.o, ds, _, _, S1.lend, by simpa using lent_ok S1 R1 hl, q, fun F' m' O' v d H' e p hs r ⟨n1, n2, rr⟩ => by
      obtain ⟨ex, S2⟩ := S1.took e p hs n2
      exact k _ m' ⟨A1.s, O'⟩ v H' (.val d) (e1.trans ex) (p1.trans p) S2 (Rep.less (fun a z => let ⟨vs, h, _⟩ := own_lst S1 e z; ⟨vs, h⟩) r n1) rr, fun F' m' O' C dx fvs fs H' e p hs fx rf xx => xx.elim⟩
/-- the same of a method -/
theorem we_methB {C : Addr} {mm : Str} {Φ : Contract} {E : XK} {t : TA} (h : WE c ta A fun A1 x => ∃ d fs, x = .val d ∧ insOf A1 (.val d) = some (C, fs) ∧ fs.lookup mm = none ∧ WAr c t A1 fun A2 rs => ∃ ds, lent A2 rs = some ds ∧ Φ (d :: ds) A2.o (fun O' e => NoLst e ∧ NoLstO O' ∧ Q ⟨A2.s, O'⟩ (.val e)) (fun _ _ _ => False)) :
    WE c (tMeth C mm (SpA c.K Φ) [] E ta t) A Q := fun F G m σ H S Eo Qc k => h F G m σ H S Eo _ fun F1 m1 A1 v H1 x e1 p1 S1 R1 ⟨d, fs, ex, hi, hl, q⟩ => by
  subst ex
  obtain ⟨a, dx, fv, rfl, hv, rf⟩ := rep_ins S1 R1 hi
  refine ⟨a, dx, fv, rfl, hv, rf.look0 hl, q F1 G m1 σ H1 S1 (Eo.mono e1 p1) _ fun F2 m2 A2 vs H2 rs e2 p2 S2 R2 ⟨ds, hl2, q2⟩ => ?_⟩
  refine ⟨lendF A2.s σ F2 H2, lendG A2.s σ G H2, m2, A2.o, d :: ds, _, _, S2.lend, .cons (Rep.mono (e2.trans (lend_ex S2)) p2 R1) (by simpa using lent_ok S2 R2 hl2), q2, fun F' m' O' w e H' e3 p3 hs r ⟨n1, n2, rr⟩ => ?_, fun F' m' O' C dx fvs fs H' e p hs fx rf xx => xx.elim⟩
  obtain ⟨ex, S3⟩ := S2.took e3 p3 hs n2
  exact k _ m' ⟨A2.s, O'⟩ w H' (.val e) ((e1.trans e2).trans ex) ((p1.trans p2).trans p3) S3 (Rep.less (fun a z => let ⟨vs, h, _⟩ := own_lst S2 e3 z; ⟨vs, h⟩) r n1) rr
end
end AL

namespace AL
open PySem L2
/-! ### lists of ints, by place -/
theorem getD_lt {α : Type} {xs : List α} {i : Nat} {d : α} (h : i < xs.length) : xs.getD i d = xs[i] := by simp [List.getD, List.getElem?_eq_getElem h]
theorem getD_ge {α : Type} {xs : List α} {i : Nat} {d : α} (h : xs.length ≤ i) : xs.getD i d = d := by simp [List.getD, List.getElem?_eq_none h]
theorem ixN_of {n : Nat} {i : Int} (h0 : 0 ≤ i) (h1 : i < (n : Int)) : ixN n i = some i.toNat := by
  have := Evl.ixN_nat (n := n) (j := i.toNat) (by omega)
  rwa [show ((i.toNat : Nat) : Int) = i by omega] at this
theorem atI_of {α : Type} {xs : List α} {i : Int} {x : α} (h0 : 0 ≤ i) (h : xs[i.toNat]? = some x) : atI xs i = some x := by
  unfold atI
  have hl := (List.getElem?_eq_some_iff.mp h).1
  rw [ixN_of h0 (by omega)]; exact h
theorem atI_nat' {α : Type} {xs : List α} {j : Nat} {x : α} (h : xs[j]? = some x) : atI xs (j : Int) = some x := atI_of (by omega) (by simpa using h)
/-- an item of a list of ints, as a number -/
theorem atI_ints {ns : List Int} {i : Int} (h0 : 0 ≤ i) (h1 : i < (ns.length : Int)) : atI (ns.map D.int) i = some (.int (ns.getD i.toNat 0)) :=
  atI_of h0 (by
    have hl : i.toNat < ns.length := by omega
    rw [List.getElem?_map, List.getElem?_eq_getElem hl, getD_lt hl]; rfl)
theorem atI_map {α : Type} {f : α → D} {xs : List α} {i : Int} {x : α} (h0 : 0 ≤ i) (h : xs[i.toNat]? = some x) : atI (xs.map f) i = some (f x) := atI_of h0 (by rw [List.getElem?_map, h]; rfl)
theorem atI_last {α : Type} {xs : List α} {x : α} : atI (xs ++ [x]) (-1) = some x := by
  unfold atI ixN
  simp only [List.length_append, List.length_cons, List.length_nil]
  rw [if_neg (by omega)]
  first
    | (rw [if_pos (by omega)]; simp; rw [show (-1 + ((xs.length : Int) + 1)).toNat = xs.length by omega]; simp)
    | (simp; rw [show (-1 + ((xs.length : Int) + 1)).toNat = xs.length by omega]; simp)
section
variable {c : Ct} {A : AS} {Q : QE} {ns : List Int}
/-- the same of a list of ints at any place it may stand in -/
theorem od_ixI {x : RV} {i : Int} (hx : lsOf A x = some (ns.map .int)) (h0 : 0 ≤ i) (h1 : i < (ns.length : Int)) (q : Q A (.val (.int (ns.getD i.toNat 0)))) : OpD c (rIx c.K) x (.val (.int i)) A Q := od_ixL hx (atI_ints h0 h1) q
theorem od_ixLast {x : RV} (hx : lsOf A x = some (ns.map .int)) (h : 0 < ns.length) (q : ∀ v ∈ ns, Q A (.val (.int v))) : OpD c (rIx c.K) x (.val (.int (-1))) A Q := by
  have hl : ns.length - 1 < ns.length := by omega
  refine od_ixL hx (d := .int ns[ns.length - 1]) ?_ (q _ (List.getElem_mem hl))
  unfold atI ixN
  rw [List.length_map, if_neg (by omega), if_pos (by omega)]
  show (ns.map D.int)[_]? = _
  rw [show (-1 + (ns.length : Int)).toNat = ns.length - 1 by omega, List.getElem?_map, List.getElem?_eq_getElem hl]; rfl
/-- an item at some place, by what all of them are -/
theorem od_ixAll {x : RV} {ds : List D} {i : Int} {P : D → Prop} (hx : lsOf A x = some ds) (h0 : 0 ≤ i) (h1 : i < (ds.length : Int)) (hP : ∀ d ∈ ds, P d) (q : ∀ d, P d → Q A (.val d)) : OpD c (rIx c.K) x (.val (.int i)) A Q := by
  have hl : i.toNat < ds.length := by omega
  exact od_ixL hx (d := ds[i.toNat]) (atI_of h0 (List.getElem?_eq_getElem hl)) (q _ (hP _ (List.getElem_mem hl)))
end
/-! ### the statements' rules, their ends apart -/
section
variable {c : Ct} {A : AS} {te ta tb tl to : TE} {t u tt : TT} {nx bk ct : AS → Prop} {rt : List Cell → D → Prop} {t1 t2 : TS} {wi : TI} {g : TG}
theorem vs_seq (h : WS c t1 A ⟨fun A1 => WS c t2 A1 ⟨nx, rt, bk, ct⟩, rt, bk, ct⟩) : WS c (tSeq t1 t2) A ⟨nx, rt, bk, ct⟩ := ws_seq h
/-- a statement, then the rest, with a word between them -/
theorem vs_cut (Mid : AS → Prop) (h : WS c t1 A ⟨Mid, rt, bk, ct⟩) (h2 : ∀ A1, Mid A1 → WS c t2 A1 ⟨nx, rt, bk, ct⟩) : WS c (tSeq t1 t2) A ⟨nx, rt, bk, ct⟩ := vs_seq (h.imp h2 (fun _ _ z => z) (fun _ z => z) (fun _ z => z))
theorem vs_seqA {g : TG} (h : WS c (tAsg te g) A ⟨fun A1 => WS c t2 A1 ⟨nx, rt, bk, ct⟩, rt, bk, ct⟩) : WS c (tSeq (tAsg te g) t2) A ⟨nx, rt, bk, ct⟩ := ws_seq h
theorem vs_seqD (h : WS c (tDrop te) A ⟨fun A1 => WS c t2 A1 ⟨nx, rt, bk, ct⟩, rt, bk, ct⟩) : WS c (tSeq (tDrop te) t2) A ⟨nx, rt, bk, ct⟩ := ws_seq h
theorem vs_next (q : nx A) : WS c tNext A ⟨nx, rt, bk, ct⟩ := ws_next q
theorem vs_break (q : bk A) : WS c tBreak A ⟨nx, rt, bk, ct⟩ := ws_break q
theorem vs_cont (q : ct A) : WS c tCont A ⟨nx, rt, bk, ct⟩ := ws_cont q
theorem vs_drop (h : WE c te A fun A1 _ => nx A1) : WS c (tDrop te) A ⟨nx, rt, bk, ct⟩ := ws_drop h
theorem vs_ret (h : WE c te A fun A1 r => Frz A1 r fun A2 d => rt A2.o d) : WS c (tRet te) A ⟨nx, rt, bk, ct⟩ := ws_ret h
theorem vs_retN (q : rt A.o .non) : WS c tRetN A ⟨nx, rt, bk, ct⟩ := ws_retN q
theorem vs_if (h : WT c t A fun A1 b => (b = true → WS c t1 A1 ⟨nx, rt, bk, ct⟩) ∧ (b = false → WS c t2 A1 ⟨nx, rt, bk, ct⟩)) : WS c (tIfS t t1 t2) A ⟨nx, rt, bk, ct⟩ := ws_if h
theorem vs_asg {i : Nat} (h : WE c te A fun A1 r => Frz A1 r fun A2 d => nx (A2.setS i (.val d))) : WS c (tAsg te (gName i)) A ⟨nx, rt, bk, ct⟩ := ws_asg h
theorem vs_asgG (h : WE c te A fun A1 r => Frz A1 r fun A2 d => WG c g d A2 nx) : WS c (tAsg te g) A ⟨nx, rt, bk, ct⟩ := ws_asgG h
theorem vs_for (I : Nat → AS → Prop) (h : WI c wi A fun A1 ds => I 0 A1 ∧ (∀ (i : Nat) d A2, ds[i]? = some d → I i A2 → WG c g d A2 fun A3 => WS c t1 A3 ⟨I (i + 1), rt, nx, I (i + 1)⟩) ∧ ∀ A2, I ds.length A2 → nx A2) :
    WS c (tFor wi g t1) A ⟨nx, rt, bk, ct⟩ := ws_for (fun _ => I) h
theorem vs_while (I : Nat → AS → Prop) (n0 : Nat) (h0 : I n0 A) (hs : ∀ n A1, I n A1 → WT c tt A1 fun A2 b => (b = true → WS c t1 A2 ⟨fun A3 => ∃ n', n' < n ∧ I n' A3, rt, nx, fun A3 => ∃ n', n' < n ∧ I n' A3⟩) ∧ (b = false → nx A2)) :
    WS c (tWhile tt t1) A ⟨nx, rt, bk, ct⟩ := ws_while I n0 h0 hs
theorem vs_append {i : Nat} {ds0 : List D} (h0 : A.s[i]? = some (some (.own (.lst ds0)))) (h : WE c te A fun A1 r => Frz A1 r fun A2 d => ∃ ds, A2.s[i]? = some (some (.own (.lst ds))) ∧ ds.length < 100000 ∧ nx (A2.setS i (.own (.lst (ds ++ [d]))))) :
    WS c (tDrop (tBM c.K "list" rAppend (tVar i) (tCons te tNil))) A ⟨nx, rt, bk, ct⟩ := ws_append h0 h
theorem vs_setitem {i : Nat} (h : WE c te A fun A1 r => Frz A1 r fun A2 d => ∃ ds0, A2.s[i]? = some (some (.own (.lst ds0))) ∧ WE c tb A2 fun A3 y => ∃ n : Int, y = .val (.int n) ∧ ∃ (ds : List D) (j : Nat), A3.s[i]? = some (some (.own (.lst ds))) ∧ ixN ds.length n = some j ∧ nx (A3.setS i (.own (.lst (ds.set j d))))) :
    WS c (tAsg te (gSub (tVar i) tb rSetL)) A ⟨nx, rt, bk, ct⟩ := ws_setitem h
end
/-! ### the rules, the written part by name -/
section
open PySem.Spec PyProof.Rows
variable {X : Cx} {K : PySem.W.Frag}
theorem op_addK (h : X.K = K) : OpR X (binaryOp .Add) (rAddA K) := h ▸ op_addA
theorem op_eqK (h : X.K = K) (hu : X.A.units + 64 < cLine) : OpR X (compareOp .Eq) (rEqA K) := h ▸ op_eqA hu
theorem op_neK (h : X.K = K) (hu : X.A.units + 64 < cLine) : OpR X (compareOp .NotEq) (rNeA K) := h ▸ op_neA hu
theorem op_inK (h : X.K = K) : OpR X (compareOp .In) (rInA K) := h ▸ op_inA
theorem op_ninK (h : X.K = K) : OpR X (compareOp .NotIn) (rNinA K) := h ▸ op_ninA
theorem ix_seqK (h : X.K = K) : IxR X (rIx K) := h ▸ ix_seq
theorem sl_K (h : X.K = K) : SlR X (rSlAA K) := h ▸ sl_AA
theorem call_lenK (h : X.K = K) : CallR X (.builtin "len") (rLenA K) := h ▸ call_lenA
theorem call_listK (h : X.K = K) : CallR X (.type "list") (rListA K) := h ▸ call_listA
theorem call_tupK (h : X.K = K) : CallR X (.type "tuple") (rTupP K) := h ▸ call_tupP
theorem call_sumK (h : X.K = K) (hc : X.calm = true) : CallR X (.builtin "sum") (rSumA K) := h ▸ call_sumA hc
theorem call_maxK (h : X.K = K) (hc : X.calm = true) : CallR X (.builtin "max") (rMaxA K) := h ▸ call_maxA hc
theorem call_isiK (h : X.K = K) : CallR X (.builtin "isinstance") (rIsi K) := h ▸ call_isi
theorem pi_K {tg it : Expr} (f : PySem.W.Frag → TI) (h : X.K = K) (p : PI X tg it (f X.K)) : PI X tg it (f K) := h ▸ p
theorem pe_K {e : Expr} (f : PySem.W.Frag → TE) (h : X.K = K) (p : PE X e (f X.K)) : PE X e (f K) := h ▸ p
theorem ps_K {st : Stmt} (f : PySem.W.Frag → TS) (h : X.K = K) (p : PS X st (f X.K)) : PS X st (f K) := h ▸ p
theorem pg_K {tg : Expr} (f : PySem.W.Frag → TG) (h : X.K = K) (p : PG X tg (f X.K)) : PG X tg (f K) := h ▸ p
end
section
variable {c : Ct} {A : AS} {Q : QE}
theorem od_catL {x y : RV} {ds es : List D} (hx : lxOf A x = some ds) (hy : lxOf A y = some es) (hl : ds.length + es.length ≤ 10000) (q : Q A (.val (.lst (ds ++ es)))) : OpD c (rAddA c.K) x y A Q := fun F G m σ H v w S E R1 R2 Qc k => by
  obtain ⟨a, vs, rfl, hv, rv⟩ := rep_lx S R1 hx
  obtain ⟨b, ws, rfl, hw, rw_⟩ := rep_lx S R2 hy
  refine .inr (.inl ⟨a, b, vs, ws, rfl, rfl, hv, hw, Nat.le_trans (by rw [rv.len, rw_.len]; exact hl) (by decide), fun p hp => ?_⟩)
  have S1 := S.new (o := .lst (vs ++ ws)) hp
  obtain ⟨f, g, mm⟩ := S.h.fresh hp
  have no := S.notOwn hp
  have ex : Ex F (upd F p (.lst (vs ++ ws))) := ex_upd f
  refine k (upd F p (.lst (vs ++ ws))) m A _ _ (.val (.lst (ds ++ es))) ex (Pre.refl _) ⟨S1.h.freeze upd_same f g mm, S1.s.go ex (Pre.refl _) fun i c a z1 z2 => ?_⟩ (show Rep c.K _ _ _ _ from .lst upd_same ((rv.app rw_).mono ex (Pre.refl _))) q
  obtain ⟨b, q, l, f', g', mm', cc⟩ := S1.s.ownAt z1
  rw [z2] at q; cases q
  have np : a ≠ p := fun z => no ⟨i, c, z1, z ▸ z2⟩
  exact ⟨by rw [upd_ne np]; exact f', mm', rfl⟩
end
theorem as_eta (A : AS) : (⟨A.s, A.o⟩ : AS) = A := rfl
/-! ### marks for the walk -/
/-- run_body, the written part read off the context -/
theorem run_def {K : PySem.W.Frag} {Φ : Contract} {ts : TS} {N : List Str} {vs : List V} {H : Hp} {Q : VK} {E : XK} (h : SpA K Φ vs H Q E)
    (hb : ∀ ds O R X (c : Ct), K = c.K → (∀ σ, c.E σ = E) → (∀ A C fs, X A.o C fs → c.X A C fs) → Φ ds O R X → WS c ts ⟨entry N.length ds, O⟩ ⟨fun A => R A.o .non, R, fun _ => False, fun _ => False⟩) : ts { nx := fun _ H' => Q .non H', rt := Q } (L2.start N vs) H :=
  run_body h fun ds O R X p => hb ds O R X ⟨K, fun _ => E, fun A C fs => X A.o C fs, none⟩ rfl (fun _ => rfl) (fun _ _ _ z => z) p
def tOwn (te : TE) (i : Nat) : TS := tAsg te (gName i)
def tCallB (sp : Sp) (E : XK) (t : TA) : TE := tCall sp [] E t
def tMethB (C : Addr) (m : Str) (sp : Sp) (E : XK) (ta : TE) (t : TA) : TE := tMeth C m sp [] E ta t
theorem pe_lend {X : Cx} {e : Expr} {sp : Sp} {E : XK} {t : TA} (h : PE X e (tCall sp [] E t)) : PE X e (tCallB sp E t) := h
theorem pe_lendM {X : Cx} {e : Expr} {C : Addr} {m : Str} {sp : Sp} {E : XK} {ta : TE} {t : TA} (h : PE X e (tMeth C m sp [] E ta t)) : PE X e (tMethB C m sp E ta t) := h
theorem ps_own {X : Cx} {st : Stmt} {te : TE} {i : Nat} (h : PS X st (tAsg te (gName i))) : PS X st (tOwn te i) := h
section
variable {c : Ct} {A : AS} {te ta tb tl to : TE} {t u tt : TT} {x y : RV} {Q : QE} {B : EA}
theorem vs_own {i : Nat} {nx bk ct : AS → Prop} {rt : List Cell → D → Prop} (h : WN c te A fun A1 ds => nx (A1.setS i (.own (.lst ds)))) : WS c (tOwn te i) A ⟨nx, rt, bk, ct⟩ := ws_asgO h
theorem we_ofLst {ta : TA} (h : WN c (tLst ta) A fun A1 ds => Q A1 (.val (.lst ds))) : WE c (tLst ta) A Q := we_ofN h
theorem we_ofLc {wi : TI} {g : TG} {vs : List Nat} (h : WN c (tLc wi g tt te vs) A fun A1 ds => Q A1 (.val (.lst ds))) : WE c (tLc wi g tt te vs) A Q := we_ofN h
theorem we_ofList {ta : TA} (h : WN c (tCB (rListA c.K) ta) A fun A1 ds => Q A1 (.val (.lst ds))) : WE c (tCB (rListA c.K) ta) A Q := we_ofN h
theorem we_slL {ta : TE} {tlo thi : TO} (h : WE c ta A fun A1 x => WO c tlo A1 fun A2 lo => WO c thi A2 fun A3 hi => ∃ ds, lsOf A1 x = some ds ∧ lsOf A3 x = some ds ∧ Stays A1 A3 x ∧ Q A3 (.val (.lst (cutD ds lo hi)))) : WE c (tSl (rSlAA c.K) ta tlo thi) A Q := we_ofN (wn_slL h)
theorem vs_seqO {i : Nat} {t2 : TS} {nx bk ct : AS → Prop} {rt : List Cell → D → Prop} (h : WS c (tOwn te i) A ⟨fun A1 => WS c t2 A1 ⟨nx, rt, bk, ct⟩, rt, bk, ct⟩) : WS c (tSeq (tOwn te i) t2) A ⟨nx, rt, bk, ct⟩ := ws_seq h
theorem vb_call {Φ : Contract} {E : XK} {t : TA} (h : WAr c t A fun A1 rs => ∃ ds, lent A1 rs = some ds ∧ Φ ds A1.o (fun O' d => NoLst d ∧ NoLstO O' ∧ Q ⟨A1.s, O'⟩ (.val d)) (fun _ _ _ => False)) : WE c (tCallB (SpA c.K Φ) E t) A Q := we_callB h
theorem vb_meth {C : Addr} {mm : Str} {Φ : Contract} {E : XK} {t : TA} (h : WE c ta A fun A1 x => ∃ d fs, x = .val d ∧ insOf A1 (.val d) = some (C, fs) ∧ fs.lookup mm = none ∧ WAr c t A1 fun A2 rs => ∃ ds, lent A2 rs = some ds ∧ Φ (d :: ds) A2.o (fun O' e => NoLst e ∧ NoLstO O' ∧ Q ⟨A2.s, O'⟩ (.val e)) (fun _ _ _ => False)) : WE c (tMethB C mm (SpA c.K Φ) E ta t) A Q := we_methB h
theorem lent_go {rs : List RV} {ds : List D} {P : List D → Prop} (h : lent A rs = some ds) (p : P ds) : ∃ ds, lent A rs = some ds ∧ P ds := ⟨ds, h, p⟩
theorem fld_go {f : Str} {x : RV} {P : D → Prop} {C : Addr} {fs : List (Str × D)} {d : D} (hi : insOf A x = some (C, fs)) (hC : Cls c.K C) (hn : NoAttr c.K C f) (hl : fs.lookup f = some d) (q : P d) : ∃ C fs d, insOf A x = some (C, fs) ∧ Cls c.K C ∧ NoAttr c.K C f ∧ fs.lookup f = some d ∧ P d := ⟨C, fs, d, hi, hC, hn, hl, q⟩
theorem mth_go {C : Addr} {mm : Str} {d : D} {fs : List (Str × D)} {P : D → Prop} (hi : insOf A (.val d) = some (C, fs)) (hl : fs.lookup mm = none) (p : P d) : ∃ d' fs, RV.val d = .val d' ∧ insOf A (.val d') = some (C, fs) ∧ fs.lookup mm = none ∧ P d' := ⟨d, fs, rfl, hi, hl, p⟩
theorem we_catL {ta tb : TE} (h : WE c ta A fun A1 x => WE c tb A1 fun A2 y => ∃ ds es, Stays A1 A2 x ∧ lxOf A2 x = some ds ∧ lxOf A2 y = some es ∧ ds.length + es.length ≤ 10000 ∧ Q A2 (.val (.lst (ds ++ es)))) : WE c (tOp (rAddA c.K) ta tb) A Q := we_ofN (wn_cat h)
theorem frz_val {d : D} {k : AS → D → Prop} (h : k A d) : Frz A (.val d) k := h
theorem frz_own {i : Nat} {ds : List D} {k : AS → D → Prop} (e : A.s[i]? = some (some (.own (.lst ds)))) (h : k (A.setS i (.val (.lst ds))) (.lst ds)) : Frz A (.slot i) k := by
  unfold Frz; simp only [e]; exact h
/-- the slots of a state, written out -/
theorem spa_start {K : PySem.W.Frag} {H : Hp} {a : Addr} {ns : List Int} {Φ : Contract} (hS : SqL K H a (ns.map V.int)) (h : ∀ X, Φ [.scr (ns.map .int)] [] (fun _ d => d = .bl true) X) : SpA K Φ [.ref a] H (fun v _ => v = .bl true) fun _ _ _ => False := by
  refine ⟨H, fun _ => none, [], [], [.scr (ns.map .int)], _, fun _ _ _ => False, ⟨Evl.Ex.refl H, fun a o h => (nomatch h), fun a o _ => rfl, rfl, fun n a c h => (by simp at h), fun n n' a h => (by simp at h), fun n a h => (by simp at h), fun n a h => (by simp at h), fun n a h => (by simp at h)⟩, .cons (.scr hS (reps_ints ns)) .nil, h _, fun F' m' O' v d H' _ _ _ r e => ?_, fun F' m' O' C dx fvs fs H' _ _ _ _ _ x => x⟩
  subst e; cases r; rfl
theorem ex_bl {b : Bool} {P : Bool → Prop} (h : P b) : ∃ b', RV.val (.bl b) = .val (.bl b') ∧ P b' := ⟨b, rfl, h⟩
theorem ex_int {i : Int} {P : Int → Prop} (h : P i) : ∃ j, RV.val (.int i) = .val (.int j) ∧ P j := ⟨i, rfl, h⟩
theorem len_ok {ds : List D} {P : Prop} (h : ds.length ≤ 1000) (p : P) : ds.length ≤ 1000 ∧ P := ⟨h, p⟩
/-- behind a test, by its Prop -/
theorem br {p : Prop} [Decidable p] {P N : Prop} (h1 : p → P) (h2 : ¬ p → N) : (decide p = true → P) ∧ (decide p = false → N) := ⟨fun h => h1 (of_decide_eq_true h), fun h => h2 (of_decide_eq_false h)⟩
theorem brT {P N : Prop} (h1 : P) : (true = true → P) ∧ (true = false → N) := ⟨fun _ => h1, (fun h => nomatch h)⟩
theorem brF {P N : Prop} (h2 : N) : (false = true → P) ∧ (false = false → N) := ⟨(fun h => nomatch h), fun _ => h2⟩
theorem brTn {P N : Prop} (h2 : N) : ((!true) = true → P) ∧ ((!true) = false → N) := ⟨(fun h => nomatch h), fun _ => h2⟩
theorem brFn {P N : Prop} (h1 : P) : ((!false) = true → P) ∧ ((!false) = false → N) := ⟨fun _ => h1, (fun h => nomatch h)⟩
theorem brN {b : Bool} {P N : Prop} (h : (b = true → N) ∧ (b = false → P)) : ((!b) = true → P) ∧ ((!b) = false → N) := by cases b <;> exact ⟨fun e => h.2 (by simpa using e), fun e => h.1 (by simpa using e)⟩
theorem stays_val {A A' : AS} {d : D} {P : Prop} (h : P) : Stays A A' (.val d) ∧ P := ⟨trivial, h⟩
theorem stays_slot {A A' : AS} {i : Nat} {P : Prop} (e : A'.s[i]? = A.s[i]?) (h : P) : Stays A A' (.slot i) ∧ P := ⟨e, h⟩
end
end AL
/-! The walk, a step: the goal's head tells the rule; what is not one of these stays. -/
local macro_rules | `(tactic| walk_at "al side") => `(tactic| first | omega | assumption | decide | (simp; done))
local macro_rules | `(tactic| walk_at "al1") => `(tactic| (with_reducible first
  | refine AL.vs_seq ?_
  | refine AL.vs_ret ?_
  | refine AL.vs_asg ?_
  | refine AL.vs_own ?_
  | refine AL.vs_if ?_
  | refine AL.vs_next ?_
  | refine AL.vs_break ?_
  | refine AL.vs_cont ?_
  | refine AL.vs_retN ?_
  | refine AL.frz_val ?_
  | refine AL.we_int ?_
  | refine AL.we_bl ?_
  | refine AL.we_non ?_
  | refine AL.we_str ?_
  | refine AL.we_ty ?_
  | refine AL.we_op ?_
  | refine AL.we_un ?_
  | refine AL.we_and ?_
  | refine AL.we_or ?_
  | refine AL.we_not ?_
  | refine AL.we_if ?_
  | refine AL.we_ofList ?_
  | refine AL.we_cb ?_
  | refine AL.we_tup ?_
  | refine AL.we_call0 ?_
  | refine AL.vb_call ?_
  | refine AL.vb_meth ?_
  | refine AL.we_meth ?_
  | refine AL.we_prop ?_
  | refine AL.we_fld ?_
  | refine AL.we_makeF ?_
  | refine AL.wt_test ?_
  | refine AL.wt_B ?_
  | refine AL.wt_and ?_
  | refine AL.wt_or ?_
  | refine AL.wt_not ?_
  | refine AL.wa_nil ?_
  | refine AL.wa_cons ?_
  | refine AL.war_nil ?_
  | refine AL.war_cons ?_
  | refine AL.wo_none ?_
  | refine AL.wo_some ?_
  | refine AL.wg_name ?_
  | refine AL.wgs_nil ?_
  | refine AL.wgs_cons ?_
  | refine AL.stays_val ?_
  | refine AL.brT ?_
  | refine AL.brF ?_
  | refine AL.brTn ?_
  | refine AL.brFn ?_
  | refine AL.ex_bl ?_
  | refine AL.ex_int ?_
  | refine AL.od_add ?_
  | refine AL.od_sub ?_
  | refine AL.od_lt ?_
  | refine AL.od_le ?_
  | refine AL.od_gt ?_
  | refine AL.od_ge ?_
  | refine AL.ud_neg ?_
  | refine AL.cb_int ?_
  | refine AL.cb_intB ?_
  | refine AL.cb_abs ?_
  | refine AL.cb_max2 ?_
  | refine AL.cb_min2 ?_
  | refine AL.we_ofLst ?_
  | refine AL.we_ofLc ?_
  | refine AL.wn_lst ?_
  | refine AL.wn_cb ?_
  | refine AL.wi_seq ?_
  | refine AL.wi_r1 ?_
  | refine AL.wi_r2 ?_))
local macro_rules | `(tactic| walk_at "als1") => `(tactic| (with_reducible first
  | refine' AL.vs_seqA ?_
  | refine' AL.vs_seqD ?_
  | refine' AL.vs_seqO ?_
  | refine AL.vs_ret ?_
  | refine AL.vs_asg ?_
  | refine AL.vs_own ?_
  | refine AL.vs_next ?_
  | refine AL.vs_break ?_
  | refine AL.vs_cont ?_
  | refine AL.vs_retN ?_
  | refine AL.frz_val ?_
  | refine AL.we_int ?_
  | refine AL.we_bl ?_
  | refine AL.we_non ?_
  | refine AL.we_str ?_
  | refine AL.we_ty ?_
  | refine AL.we_op ?_
  | refine AL.we_un ?_
  | refine AL.we_and ?_
  | refine AL.we_or ?_
  | refine AL.we_not ?_
  | refine AL.we_if ?_
  | refine AL.we_ofList ?_
  | refine AL.we_cb ?_
  | refine AL.we_tup ?_
  | refine AL.we_call0 ?_
  | refine AL.vb_call ?_
  | refine AL.vb_meth ?_
  | refine AL.we_meth ?_
  | refine AL.we_prop ?_
  | refine AL.we_fld ?_
  | refine AL.we_makeF ?_
  | refine AL.wt_test ?_
  | refine AL.wt_B ?_
  | refine AL.wt_and ?_
  | refine AL.wt_or ?_
  | refine AL.wt_not ?_
  | refine AL.wa_nil ?_
  | refine AL.wa_cons ?_
  | refine AL.war_nil ?_
  | refine AL.war_cons ?_
  | refine AL.wo_none ?_
  | refine AL.wo_some ?_
  | refine AL.wg_name ?_
  | refine AL.wgs_nil ?_
  | refine AL.wgs_cons ?_
  | refine AL.stays_val ?_
  | refine AL.brT ?_
  | refine AL.brF ?_
  | refine AL.brTn ?_
  | refine AL.brFn ?_
  | refine AL.ex_bl ?_
  | refine AL.ex_int ?_
  | refine AL.od_add ?_
  | refine AL.od_sub ?_
  | refine AL.od_lt ?_
  | refine AL.od_le ?_
  | refine AL.od_gt ?_
  | refine AL.od_ge ?_
  | refine AL.ud_neg ?_
  | refine AL.cb_int ?_
  | refine AL.cb_intB ?_
  | refine AL.cb_abs ?_
  | refine AL.cb_max2 ?_
  | refine AL.cb_min2 ?_
  | refine AL.we_ofLst ?_
  | refine AL.we_ofLc ?_
  | refine AL.wn_lst ?_
  | refine AL.wn_cb ?_
  | refine AL.wi_seq ?_
  | refine AL.wi_r1 ?_
  | refine AL.wi_r2 ?_))
local macro_rules | `(tactic| walk_at "al2") => `(tactic| first
  | ((with_reducible refine' AL.we_var ?h ?_); (case h => rfl))
  | ((with_reducible refine' AL.we_own ?h ?_); (case h => rfl))
  | ((with_reducible refine' AL.frz_own ?h ?_); (case h => rfl))
  | ((with_reducible refine' AL.stays_slot ?h ?_); (case h => rfl))
  | ((with_reducible refine' AL.od_mod ?h ?_); (case h => walk_at "al side"))
  | ((with_reducible refine' AL.od_div ?h ?_); (case h => refine ⟨?_, .inl ?_⟩ <;> walk_at "al side"))
  | ((with_reducible refine' AL.od_mul ?h ?_); (case h => first | exact .inl (.inr ⟨by decide, by decide⟩) | exact .inl (.inl ⟨by decide, by decide⟩) | exact .inl (.inr ⟨by omega, by omega⟩) | exact .inl (.inl ⟨by omega, by omega⟩)))
  | ((with_reducible refine' AL.od_pow ?h ?_); (case h => exact ⟨by decide, by decide, by decide⟩))
  | ((with_reducible refine' AL.od_eqS ?h ?_); (case h => rfl))
  | ((with_reducible refine' AL.od_neS ?h ?_); (case h => rfl))
  | ((with_reducible refine' AL.od_is (b := true) ?h ?_); (case h => rfl))
  | ((with_reducible refine' AL.od_is (b := false) ?h ?_); (case h => rfl))
  | ((with_reducible refine' AL.od_not (b := true) ?h ?_); (case h => rfl))
  | ((with_reducible refine' AL.od_not (b := false) ?h ?_); (case h => rfl))
  | ((with_reducible refine' AL.cb_isi ?h1 ?h2 ?_); (case h1 => rfl); (case h2 => constructor))
  | ((with_reducible refine' AL.cb_lenL ?h ?_); (case h => rfl))
  | ((with_reducible refine' AL.cb_lenT ?h ?_); (case h => rfl))
  | ((with_reducible refine' AL.cb_tupL ?h ?_); (case h => rfl))
  | ((with_reducible refine' AL.cb_tupT ?h ?_); (case h => rfl))
  | ((with_reducible refine' AL.cn_listL ?h ?_); (case h => rfl))
  | ((with_reducible refine' AL.cn_listT ?h ?_); (case h => rfl))
  | ((with_reducible refine' AL.wg_sct ?h ?_); (case h => rfl))
  | ((with_reducible refine' AL.wg_tup ?h ?_); (case h => rfl))
  | ((with_reducible refine' AL.lent_go ?h ?_); (case h => rfl))
  | ((with_reducible refine' AL.fld_go ?hi ?hC ?hn ?hl ?_); (case hi => rfl); (case hC => assumption); (case hn => assumption); (case hl => rfl))
  | ((with_reducible refine' AL.mth_go ?hi ?hl ?_); (case hi => rfl); (case hl => rfl))
  | ((with_reducible refine' AL.len_ok ?h ?_); (case h => exact Nat.le_of_ble_eq_true rfl))
  | ((with_reducible refine' AL.od_ixI ?h ?h0 ?h1 ?_); (case h => rfl); (case h0 => omega); (case h1 => omega))
  | ((with_reducible refine' AL.od_catL ?h ?h2 ?h3 ?_); (case h => rfl); (case h2 => rfl); (case h3 => first | omega | (simp only [List.length_map, List.length_append, List.length_cons, List.length_nil]; omega)))
  | ((with_reducible refine' AL.wn_slL ?_))
  | ((with_reducible refine' AL.vs_append ?h ?_); (case h => rfl))
  | (with_reducible refine' AL.vs_drop ?_))
local macro_rules | `(tactic| walk_at "al") => `(tactic| ((repeat (first | walk_at "al1" | walk_at "al2")); all_goals (try dsimp only [AL.as_eta])))
local macro_rules | `(tactic| walk_at "als") => `(tactic| ((repeat (first | walk_at "als1" | walk_at "al2")); all_goals (try dsimp only [AL.as_eta])))
local macro_rules | `(tactic| walk_at "flat") => `(tactic| simp only [AL.as_eta, AL.AS.setS, AL.entry, List.set, List.map, List.length_cons, List.length_nil, List.replicate, List.cons_append, List.nil_append])

namespace AL
open PySem L2
/-! ### lists of ints -/
theorem firstAt {ns : List Int} {M : Int} (h : M ∈ ns) : ∃ j : Nat, ns[j]? = some M ∧ ∀ m : Nat, m < j → ns[m]? ≠ some M := by
  induction ns with
  | nil => cases h
  | cons x r ih =>
    by_cases e : x = M
    · subst e; exact ⟨0, rfl, fun m hm => absurd hm (Nat.not_lt_zero _)⟩
    · have h' : M ∈ r := by rcases List.mem_cons.mp h with z | z; exact absurd z.symm e; exact z
      obtain ⟨j, h1, h2⟩ := ih h'
      refine ⟨j + 1, by simpa using h1, fun m hm => ?_⟩
      cases m with
      | zero => simpa using e
      | succ m => simpa using h2 m (by omega)
theorem sumTk (ns : List Int) (l : Nat) : (ns.take (l + 1)).sum = (ns.take l).sum + ns.getD l 0 := by
  rw [List.take_add_one, List.sum_append]
  cases e : ns[l]? with
  | none => simp [List.getD, e]
  | some v => simp [List.getD, e]
theorem sumNN {ns : List Int} (h : ∀ x ∈ ns, 0 ≤ x) : 0 ≤ ns.sum := by
  induction ns with
  | nil => simp
  | cons x r ih =>
    rw [List.sum_cons]
    have := h x (by simp)
    have := ih fun y hy => h y (by simp [hy])
    omega
theorem sumTkLe {ns : List Int} (h : ∀ x ∈ ns, 0 ≤ x) (a b : Nat) (hab : a ≤ b) : (ns.take a).sum ≤ (ns.take b).sum := by
  induction b with
  | zero => rw [Nat.le_zero.mp hab]; exact Int.le_refl _
  | succ b ih =>
    by_cases e : a = b + 1
    · subst e; exact Int.le_refl _
    · have h1 := ih (by omega)
      rw [sumTk]
      have : 0 ≤ ns.getD b 0 := by
        by_cases hb : b < ns.length
        · rw [getD_lt hb]; exact h _ (List.getElem_mem hb)
        · rw [getD_ge (by omega)]; exact Int.le_refl _
      omega
theorem getD_ints {ns : List Int} {P : Int → Prop} (h : ∀ x ∈ ns, P x) (h0 : P 0) (j : Nat) : P (ns.getD j 0) := by
  by_cases hb : j < ns.length
  · rw [getD_lt hb]; exact h _ (List.getElem_mem hb)
  · rw [getD_ge (by omega)]; exact h0
/-! ### a row of ints, a list or a tuple -/
def Seq (d : D) (ns : List Int) : Prop := d = .lst (ns.map .int) ∨ d = .tup (ns.map .int)
section
variable {c : Ct} {A : AS} {Q : QE} {d : D} {ns : List Int} {t : TA}
theorem cb_sumS (h : Seq d ns) (q : Q A (.val (.int ns.sum))) : CbD c (rSumA c.K) [.val d] A Q := by
  rcases h with rfl | rfl
  · exact cb_sumL rfl q
  · exact cb_sumT rfl q
theorem cb_maxS (h : Seq d ns) (h0 : 0 < ns.length) (q : ∀ M, M ∈ ns → (∀ y, y ∈ ns → y ≤ M) → Q A (.val (.int M))) : CbD c (rMaxA c.K) [.val d] A Q := by
  rcases h with rfl | rfl
  · exact cb_maxL rfl h0 q
  · exact cb_maxT rfl h0 q
theorem cb_lenS (h : Seq d ns) (q : Q A (.val (.int (ns.length : Nat)))) : CbD c (rLenA c.K) [.val d] A Q := by
  rcases h with rfl | rfl
  · exact cb_lenL rfl (by rw [List.length_map]; exact q)
  · exact cb_lenT rfl (by rw [List.length_map]; exact q)
theorem cn_listS {Q : AS → List D → Prop} (h : Seq d ns) (q : Q A (ns.map .int)) : CbN c (rListA c.K) [.val d] A Q := by
  rcases h with rfl | rfl
  · exact cn_listL rfl q
  · exact cn_listT rfl q
theorem od_ixS {i : Int} (h : Seq d ns) (h0 : 0 ≤ i) (h1 : i < (ns.length : Int)) (q : Q A (.val (.int (ns.getD i.toNat 0)))) : OpD c (rIx c.K) (.val d) (.val (.int i)) A Q := by
  rcases h with rfl | rfl
  · exact od_ixL rfl (atI_ints h0 h1) q
  · exact od_ixT rfl (atI_ints h0 h1) q
theorem we_indexS {i : Nat} (hi : A.s[i]? = some (some (.val d))) (h : Seq d ns) (q : WAr c t A fun A2 rs => ∃ (y : Int) (j : Nat), rs = [.val (.int y)] ∧ ns[j]? = some y ∧ (∀ m : Nat, m < j → ns[m]? ≠ some y) ∧ Q A2 (.val (.int (j : Nat)))) : WE c (tIndexA c.K (tVar i) t) A Q := by
  rcases h with rfl | rfl
  · refine we_indexL (we_var hi ⟨_, rfl, fun F G m σ H S E Qc k => q F G m σ H S E Qc fun F' m' A' vs H' rs e p S' R z => k F' m' A' vs H' rs e p S' R ?_⟩)
    obtain ⟨y, j, e1, e2, e3, e4⟩ := z
    exact ⟨ns, y, j, e1, trivial, rfl, e2, e3, e4⟩
  · exact we_indexT (we_var hi ⟨ns, rfl, q⟩)
end
theorem sumPos {ns : List Int} {x : Int} (h : ∀ y ∈ ns, 0 ≤ y) (hx : x ∈ ns) (h0 : 0 < x) : 0 < ns.sum := by
  induction ns with
  | nil => cases hx
  | cons y r ih =>
    rw [List.sum_cons]
    have h1 := h y (by simp)
    have h2 := sumNN (ns := r) fun z hz => h z (by simp [hz])
    rcases List.mem_cons.mp hx with e | e
    · subst e; omega
    · have := ih (fun z hz => h z (by simp [hz])) e; omega
/-! ### the drawn numbers -/
def AllN (ns : List Int) : Prop := ∀ n ∈ ns, 0 ≤ n ∧ n < 1000
theorem AllN.at (h : AllN ns) (j : Nat) : 0 ≤ ns.getD j 0 ∧ ns.getD j 0 < 1000 := getD_ints (P := fun x => 0 ≤ x ∧ x < 1000) h (by omega) j
theorem AllN.app {ns : List Int} {x : Int} (h : AllN ns) (hx : 0 ≤ x ∧ x < 1000) : AllN (ns ++ [x]) := fun n hn => by
  rcases List.mem_append.mp hn with h1 | h1
  · exact h n h1
  · rw [List.mem_singleton] at h1; subst h1; exact hx
/-- arguments, and a row of drawn numbers -/
def C__law_numbers : Contract := fun ds O R _ => ∃ cell at_ many : Int, ds = [.int cell, .int at_, .int many] ∧ 0 ≤ many ∧ many ≤ 1000 ∧ ∀ ns : List Int, (ns.length : Int) = many → AllN ns → R O (.lst (ns.map .int))
theorem len__law_numbers : ∀ ds O R X, C__law_numbers ds O R X → ds.length = 3 := fun _ _ _ _ h => by obtain ⟨_, _, _, rfl, _⟩ := h; rfl
/-! ### sameness -/
/-- data that _law_same may be asked of, to a depth -/
def okD : Nat → D → Prop
  | k + 1, .tup ds => ds.length < 1000 ∧ ∀ d ∈ ds, okD k d
  | _ + 1, .lst _ => True
  | _ + 1, .non => True
  | _ + 1, .bl _ => True
  | _ + 1, .int _ => True
  | _ + 1, .str _ => True
  | _, _ => False
def okE : Nat → D → Prop
  | k + 1, .tup ds => ds.length < 1000 ∧ ∀ d ∈ ds, okE k d
  | _ + 1, .non => True
  | _ + 1, .bl _ => True
  | _ + 1, .int _ => True
  | _ + 1, .str _ => True
  | _, _ => False
def sameK : Nat → D → D → Bool
  | k + 1, .tup ds, .tup es => decide (ds.length = es.length) && (List.range es.length).all fun i => sameK k (ds.getD i .non) (es.getD i .non)
  | _ + 1, .non, .non => true
  | _ + 1, .bl a, .bl b => decide (a = b)
  | _ + 1, .int a, .int b => decide (a = b)
  | _ + 1, .str a, .str b => decide (a = b)
  | _, _, _ => false
def C__law_same (k : Nat) : Contract := fun ds O R _ => ∃ a e, ds = [a, e] ∧ okD k a ∧ okE k e ∧ R O (.bl (sameK k a e))
theorem len__law_same {k : Nat} : ∀ ds O R X, C__law_same k ds O R X → ds.length = 2 := fun _ _ _ _ h => by obtain ⟨_, _, rfl, _⟩ := h; rfl
theorem none__law_same {K : PySem.W.Frag} {vs : List V} {H : Hp} {Q : VK} {E : XK} (h : SpA K (C__law_same 0) vs H Q E) : False := by
  obtain ⟨_, _, _, _, _, _, _, _, _, ⟨_, _, _, h, _⟩, _⟩ := h
  exact h
theorem same_int {k : Nat} {i j : Int} : sameK (k + 1) (.int i) (.int j) = decide (i = j) := rfl
end AL
namespace AL
open PySem L2
/-! ### data, compared -/
theorem canLay_ints : ∀ ns : List Int, PyData.canLayAll0 (ns.map PyData.int) = true
  | [] => rfl
  | n :: ns => by
    show (true && PyData.canLayAll0 (ns.map PyData.int)) = true
    rw [canLay_ints ns]; rfl
theorem depth_ints : ∀ ns : List Int, PyData.depthAll (ns.map PyData.int) ≤ 1
  | [] => by decide
  | n :: ns => by
    have := depth_ints ns
    show max _ _ ≤ 1
    exact Nat.max_le.mpr ⟨Nat.zero_le _, this⟩
theorem shaped_ints (ns : List Int) : SeqAt.shaped (.list (ns.map PyData.int)) = true := by
  unfold SeqAt.shaped
  rw [Bool.and_eq_true]
  refine ⟨canLay_ints ns, decide_eq_true ?_⟩
  have := depth_ints ns
  show _ + 1 ≤ 64
  omega
theorem eqv_ints (ns : List Int) : PyData.eqv (.list (ns.map PyData.int)) (.list (ns.map PyData.int)) = true := SeqAt.eqv_refl _ (canLay_ints ns)
theorem cutD_to {ds : List D} {n : Int} (h : 0 ≤ n) : cutD ds none (some n) = ds.take n.toNat := by
  unfold cutD
  rw [HT.sIx_none]
  have e := HT.sIx_nat ds.length ds.length n.toNat
  rw [show ((n.toNat : Nat) : Int) = n by omega] at e
  rw [e, List.drop_zero, Nat.sub_zero]
  by_cases hl : n.toNat ≤ ds.length
  · rw [Nat.min_eq_left hl]
  · rw [Nat.min_eq_right (by omega), List.take_length, List.take_of_length_le (by omega)]
end AL
namespace AL
open PySem L2
/-! ### comprehensions over rows that are told by a function -/
def noOwnB (s : List (Option SV)) (vs : List Nat) : Bool := vs.all fun i => match s[i]? with
  | some (some (.own _)) => false
  | _ => true
theorem noOwn_of {s : List (Option SV)} {vs : List Nat} (h : noOwnB s vs = true) : NoOwn s vs := fun i hi x e => by
  have := List.all_eq_true.mp h i hi
  rw [e] at this; cases this
/-- what an element may leave -/
def Keeps (vs : List Nat) (A A' : AS) : Prop := A'.o = A.o ∧ ∀ j, j ∉ vs → A'.s[j]? = A.s[j]?
theorem keeps_wipe {vs : List Nat} {A : AS} : Keeps vs A ⟨wipeA A.s vs, A.o⟩ := ⟨rfl, fun j h => wipe_keeps h⟩
theorem keeps_eta {vs : List Nat} {A A' : AS} (h : Keeps vs A A') : Keeps vs A ⟨A'.s, A'.o⟩ := h
theorem keeps_set {vs : List Nat} {A A' : AS} {i : Nat} {v : SV} (h : Keeps vs A A') (hi : i ∈ vs) : Keeps vs A (A'.setS i v) := ⟨h.1, fun j hj => by
  show (A'.s.set i (some v))[j]? = _
  rw [List.getElem?_set_ne (fun z => hj (by rw [← z]; exact hi))]; exact h.2 j hj⟩
section
variable {c : Ct} {A : AS} {te : TE} {Q : QE}
theorem fm_some {α β : Type} (h : α → β) : ∀ xs : List α, (xs.map (fun x => some (h x))).filterMap id = xs.map h
  | [] => rfl
  | x :: xs => by rw [List.map_cons, List.map_cons, List.filterMap_cons]; simp only [id]; rw [fm_some h xs]
theorem wt_yes {Q : AS → Bool → Prop} (q : Q A true) : WT c tYes A Q := fun F G m σ H S E Qc k => k F m A true H (Evl.Ex.refl F) (Pre.refl m) S q
theorem wn_lcM {α : Type} {wi : TI} {g : TG} {vs : List Nat} {Q : AS → List D → Prop} (f h : α → D) (hg : GOk g vs)
    (hw : WI c wi A fun A1 ds => ∃ xs : List α, ds = xs.map f ∧ noOwnB A1.s vs = true ∧ xs.length < 100000 ∧ (∀ x ∈ xs, WG c g (f x) ⟨wipeA A1.s vs, A1.o⟩ fun A2 => WE c te A2 fun A4 r => Frz A4 r fun A5 e => e = h x ∧ Keeps vs A1 A5) ∧ Q A1 (xs.map h)) :
    WN c (tLc wi g tYes te vs) A Q := wn_lc hg fun F G m σ H S E Rc k => hw F G m σ H S E Rc fun F' m' A1 J H' ds e p S' RJ ⟨xs, ed, no, hl, hs, q⟩ => by
  subst ed
  refine k F' m' A1 J H' _ e p S' RJ ⟨noOwn_of no, by rw [List.length_map]; exact hl, xs.map (fun x => some (h x)), by simp, fun i d hd => ?_, ?_⟩
  · rw [List.getElem?_map] at hd
    cases z : xs[i]? with
    | none => rw [z] at hd; cases hd
    | some x =>
      rw [z] at hd; cases hd
      intro F G m σ H v S R E Qc k
      refine hs x (List.mem_of_getElem? z) F G m σ H v S R E Qc fun F2 m2 A2 σ2 H2 e2 p2 S2 q2 => k F2 m2 A2 σ2 H2 e2 p2 S2 (wt_yes ⟨fun _ => ?_, fun b => nomatch b⟩)
      refine q2.imp fun A4 r q4 => ?_
      have : ∀ (A : AS) (r : RV) (P R : AS → D → Prop), (∀ A d, P A d → R A d) → Frz A r P → Frz A r R := fun A r P R hpr hf => by
        cases r with
        | val d => exact hpr _ _ hf
        | slot j =>
          simp only [Frz] at hf ⊢
          split at hf
          · exact hpr _ _ hf
          · exact hf.elim
      refine this A4 r _ _ (fun A5 e5 ⟨h1, h2⟩ => ⟨?_, h2.1, h2.2⟩) q4
      rw [List.getElem?_map, z, h1]; rfl
  · rw [fm_some]; exact q
theorem zipD_ints (a b : List Int) : zipD (a.map D.int) (b.map D.int) = (a.zip b).map fun p => .sct [.int p.1, .int p.2] := by
  apply List.ext_getElem?
  intro i
  by_cases h : i < min a.length b.length
  · have h1 : i < a.length := by omega
    have h2 : i < b.length := by omega
    unfold zipD
    rw [List.getElem?_map, List.getElem?_range (by simpa using h), List.getElem?_map, show (a.zip b)[i]? = some (a[i], b[i]) from List.getElem?_zip_eq_some.mpr ⟨List.getElem?_eq_getElem h1, List.getElem?_eq_getElem h2⟩]
    simp [List.getD, h1, h2]
  · rw [List.getElem?_eq_none (by rw [zipD_len]; simpa using h), List.getElem?_eq_none (by simpa using h)]
end
theorem frz_imp {A : AS} {r : RV} {k k' : AS → D → Prop} (h : Frz A r k) (f : ∀ A d, k A d → k' A d) : Frz A r k' := by
  unfold Frz at h ⊢
  split at h
  · exact f _ _ h
  · split at h
    · exact f _ _ h
    · exact h.elim
theorem vs_fldI {c : Ct} {A : AS} {te ta : TE} {f : Str} {nx bk ct : AS → Prop} {rt : List Cell → D → Prop} (h : WE c te A fun A1 r => Frz A1 r fun A2 d => WE c ta A2 fun A3 x => ∃ (i : Nat) (O : List Cell) (C : Addr) (fs : List (Str × D)), x = .val (.ptr i) ∧ A3.o = O.set i (.ins C fs) ∧ i < O.length ∧ Cls c.K C ∧ NoAttr c.K C f ∧ fs.length < 900 ∧ nx ⟨A3.s, O.set i (.ins C (putD f d fs))⟩) :
    WS c (sFld c.K ta te f) A ⟨nx, rt, bk, ct⟩ := ws_fld (h.imp fun A1 r z => (frz_imp z fun A2 d z2 => z2.imp fun A3 x ⟨i, O, C, fs, ex, eo, hi, hC, hn, hl, q⟩ => ⟨i, C, fs, ex, by rw [eo, List.getElem?_set_self hi], hC, hn, hl, by rw [eo, List.set_set]; exact q⟩))
theorem set_id {α : Type} {O : List α} {i : Nat} {x : α} (h : O[i]? = some x) : O = O.set i x ∧ i < O.length := by
  have hl := (List.getElem?_eq_some_iff.mp h).1
  refine ⟨?_, hl⟩
  have e := (List.getElem?_eq_some_iff.mp h).2
  rw [← e, List.set_getElem_self]
end AL
local macro_rules | `(tactic| walk_at "keeps") => `(tactic| (repeat (first | exact AL.keeps_wipe | refine AL.keeps_set ?_ (by decide) | (with_reducible refine AL.keeps_eta ?_))))

namespace AL
open PySem L2
/-! ### a net, in plain words -/
def dV (v : List Int) : D := .tup (v.map .int)
def dM (m : List (List Int)) : D := .tup (m.map dV)
def Bd (v : List Int) : Prop := ∀ x ∈ v, 0 ≤ x ∧ x < 100
def dotI (a b : List Int) (p : Int) : Int := ((a.zip b).map fun q => q.1 * q.2).sum % p
def timesI (m : List (List Int)) (v : List Int) (p : Int) : List Int := m.map fun r => dotI r v p
def plusI (a b : List Int) (p : Int) : List Int := (a.zip b).map fun q => (q.1 + q.2) % p
def scaledI (n : Int) (v : List Int) (p : Int) : List Int := v.map fun x => n * x % p
def squaresI (v : List Int) (p : Int) : List Int := v.map fun x => x * x % p
abbrev Pr := List Int × List Int
def dPr (k : Pr) : D := .tup [dV k.1, dV k.2]
def heardI (x q : List Int) : List Pr → Int → List Int
  | [], _ => x
  | k :: r, p => heardI (plusI x (scaledI (dotI q k.1 p) k.2 p) p) q r p
structure Lay where
  q : List (List Int)
  k : List (List Int)
  v : List (List Int)
  f : List (List Int)
  s : List (List Int)
def dLay (l : Lay) : D := .tup [dM l.q, dM l.k, dM l.v, dM l.f, dM l.s]
def layI (l : Lay) (x : List Int) (before : List Pr) (p : Int) : List Int × Pr :=
  let pr := (timesI l.k x p, timesI l.v x p)
  let x1 := heardI x (timesI l.q x p) (before ++ [pr]) p
  (plusI x1 (timesI l.s (squaresI (timesI l.f x1 p) p) p) p, pr)
structure Row where
  pairs : List Pr
  weights : List Int
def dRow (r : Row) : D := .tup [.tup (r.pairs.map dPr), dV r.weights]
structure NetM where
  p : Int
  emb : List (List Int)
  shift : List Int
  layers : List Lay
  out : List (List Int)
def dNet (C : Addr) (n : NetM) (e : D) : D := .obj C [("prime", .int n.p), ("end", e), ("_embed", dM n.emb), ("_shift", dV n.shift), ("_layers", .tup (n.layers.map dLay)), ("_out", dM n.out)]
def before (rows : List Row) (i : Nat) : List Pr := rows.map fun w => w.pairs.getD i ([], [])
def laysI (p : Int) (rows : List Row) : List Lay → Nat → List Int → List Pr → List Int × List Pr
  | [], _, x, ps => (x, ps)
  | l :: r, i, x, ps => laysI p rows r (i + 1) (layI l x (before rows i) p).1 (ps ++ [(layI l x (before rows i) p).2])
def rowI (n : NetM) (rows : List Row) (letter : Nat) : Row :=
  let z := laysI n.p rows n.layers 0 (plusI (n.emb.getD letter []) (scaledI rows.length n.shift n.p) n.p) []
  ⟨z.2, (timesI n.out z.1 n.p).map (· + 1)⟩
def rowsI (n : NetM) (letters : List Nat) : List Row := letters.foldl (fun rows l => rows ++ [rowI n rows l]) []
/-! what is well made -/
def BdM (m : List (List Int)) : Prop := m.length ≤ 100 ∧ ∀ r ∈ m, Bd r ∧ r.length ≤ 100
structure BdL (l : Lay) : Prop where
  q : BdM l.q
  k : BdM l.k
  v : BdM l.v
  f : BdM l.f
  s : BdM l.s
structure WfN (n : NetM) : Prop where
  p0 : 0 < n.p
  p1 : n.p < 100
  emb : BdM n.emb
  shift : Bd n.shift ∧ n.shift.length ≤ 100
  lay : n.layers.length ≤ 10 ∧ ∀ l ∈ n.layers, BdL l
  out : BdM n.out
def WfR (n : NetM) (r : Row) : Prop := r.pairs.length = n.layers.length ∧ ∀ k ∈ r.pairs, Bd k.2 ∧ k.2.length ≤ 100
theorem bd_mod {α : Type} {f : α → Int} {p : Int} (h0 : 0 < p) (h1 : p < 100) (xs : List α) : Bd (xs.map fun x => f x % p) := fun x hx => by
  obtain ⟨y, _, rfl⟩ := List.mem_map.mp hx
  have := Int.emod_nonneg (f y) (show p ≠ 0 by omega)
  have := Int.emod_lt_of_pos (f y) h0
  omega
theorem bd_times {m : List (List Int)} {v : List Int} {p : Int} (h0 : 0 < p) (h1 : p < 100) : Bd (timesI m v p) := bd_mod h0 h1 m
theorem bd_plus {a b : List Int} {p : Int} (h0 : 0 < p) (h1 : p < 100) : Bd (plusI a b p) := bd_mod h0 h1 _
theorem bd_scaled {n : Int} {v : List Int} {p : Int} (h0 : 0 < p) (h1 : p < 100) : Bd (scaledI n v p) := bd_mod h0 h1 _
theorem bd_squares {v : List Int} {p : Int} (h0 : 0 < p) (h1 : p < 100) : Bd (squaresI v p) := bd_mod h0 h1 _
theorem bd_heard {q : List Int} {p : Int} (h0 : 0 < p) (h1 : p < 100) : ∀ (ps : List Pr) (x : List Int), Bd x → Bd (heardI x q ps p)
  | [], x, h => h
  | k :: r, x, h => bd_heard h0 h1 r _ (bd_plus h0 h1)
theorem dotI_bd {a b : List Int} {p : Int} (h0 : 0 < p) (h1 : p < 100) : 0 ≤ dotI a b p ∧ dotI a b p < 100 := by
  have := Int.emod_nonneg ((a.zip b).map fun q => q.1 * q.2).sum (show p ≠ 0 by omega)
  have := Int.emod_lt_of_pos ((a.zip b).map fun q => q.1 * q.2).sum h0
  unfold dotI; omega
theorem plus_len {a b : List Int} {p : Int} : (plusI a b p).length ≤ a.length := by unfold plusI; rw [List.length_map, List.length_zip]; omega
theorem heard_len {q : List Int} {p : Int} : ∀ (ps : List Pr) (x : List Int), (heardI x q ps p).length ≤ x.length
  | [], x => Nat.le_refl _
  | k :: r, x => Nat.le_trans (heard_len r _) plus_len
theorem lay_len {l : Lay} {x : List Int} {ps : List Pr} {p : Int} : (layI l x ps p).1.length ≤ x.length := Nat.le_trans plus_len (heard_len _ _)
theorem lay_bd {l : Lay} {x : List Int} {ps : List Pr} {p : Int} (h0 : 0 < p) (h1 : p < 100) : Bd (layI l x ps p).1 := bd_plus h0 h1
theorem lay_pr {l : Lay} {x : List Int} {ps : List Pr} {p : Int} (h0 : 0 < p) (h1 : p < 100) (hl : BdL l) : Bd (layI l x ps p).2.2 ∧ (layI l x ps p).2.2.length ≤ 100 := ⟨bd_times h0 h1, by show (timesI _ _ _).length ≤ 100; unfold timesI; rw [List.length_map]; exact hl.v.1⟩
theorem noLst_dV (v : List Int) : NoLst (dV v) := .tup (noLsts_ints v)
theorem noLst_dM (m : List (List Int)) : NoLst (dM m) := .tup (noLsts_map noLst_dV m)
theorem noLst_dPr (k : Pr) : NoLst (dPr k) := .tup (.cons (noLst_dV _) (.cons (noLst_dV _) .nil))
theorem noLst_dRow (r : Row) : NoLst (dRow r) := .tup (.cons (.tup (noLsts_map noLst_dPr _)) (.cons (noLst_dV _) .nil))
/-! ### what the defs promise -/
section
def C_dot : Contract := fun ds O R _ => ∃ a d b p, ds = [dV a, d, .int p] ∧ Seq d b ∧ Bd a ∧ a.length ≤ 1000 ∧ 0 < p ∧ R O (.int (dotI a b p))
def C_times : Contract := fun ds O R _ => ∃ m d v p, ds = [dM m, d, .int p] ∧ Seq d v ∧ BdM m ∧ 0 < p ∧ R O (dV (timesI m v p))
def C_plus : Contract := fun ds O R _ => ∃ a b p, ds = [dV a, dV b, .int p] ∧ a.length ≤ 1000 ∧ 0 < p ∧ R O (dV (plusI a b p))
def C_scaled : Contract := fun ds O R _ => ∃ n v p, ds = [.int n, dV v, .int p] ∧ Bd v ∧ v.length ≤ 1000 ∧ 0 < p ∧ R O (dV (scaledI n v p))
def C_with_heard : Contract := fun ds O R _ => ∃ x q ps p, ds = [dV x, dV q, .lst (ps.map dPr), .int p] ∧ Bd q ∧ q.length ≤ 1000 ∧ x.length ≤ 1000 ∧ (∀ k ∈ ps, Bd k.2 ∧ k.2.length ≤ 1000) ∧ 0 < p ∧ p < 100 ∧ R O (dV (heardI x q ps p))
def behI (l : Lay) (x : List Int) (ps : List Pr) (p : Int) : List Int := plusI (heardI x (timesI l.q x p) ps p) (timesI l.s (squaresI (timesI l.f (heardI x (timesI l.q x p) ps p) p) p) p) p
def prI (l : Lay) (x : List Int) (p : Int) : Pr := (timesI l.k x p, timesI l.v x p)
theorem layI_eq {l : Lay} {x : List Int} {ps : List Pr} {p : Int} : layI l x ps p = (behI l x (ps ++ [prI l x p]) p, prI l x p) := rfl
def C_pair_of : Contract := fun ds O R _ => ∃ l x p, ds = [dLay l, dV x, .int p] ∧ BdL l ∧ 0 < p ∧ R O (dPr (prI l x p))
def C_squared : Contract := fun ds O R _ => ∃ v p, ds = [dV v, .int p] ∧ Bd v ∧ v.length ≤ 1000 ∧ 0 < p ∧ R O (dV (squaresI v p))
def C_behind_layer : Contract := fun ds O R _ => ∃ l x ps p, ds = [dLay l, dV x, .lst (ps.map dPr), .int p] ∧ BdL l ∧ Bd x ∧ x.length ≤ 100 ∧ ps.length ≤ 1000 ∧ (∀ k ∈ ps, Bd k.2 ∧ k.2.length ≤ 100) ∧ 0 < p ∧ p < 100 ∧ R O (dV (behI l x ps p))
theorem len_dot : ∀ ds O R X, C_dot ds O R X → ds.length = 3 := fun _ _ _ _ h => by obtain ⟨_, _, _, _, rfl, _⟩ := h; rfl
theorem len_times : ∀ ds O R X, C_times ds O R X → ds.length = 3 := fun _ _ _ _ h => by obtain ⟨_, _, _, _, rfl, _⟩ := h; rfl
theorem len_plus : ∀ ds O R X, C_plus ds O R X → ds.length = 3 := fun _ _ _ _ h => by obtain ⟨_, _, _, rfl, _⟩ := h; rfl
theorem len_scaled : ∀ ds O R X, C_scaled ds O R X → ds.length = 3 := fun _ _ _ _ h => by obtain ⟨_, _, _, rfl, _⟩ := h; rfl
theorem len_with_heard : ∀ ds O R X, C_with_heard ds O R X → ds.length = 4 := fun _ _ _ _ h => by obtain ⟨_, _, _, _, rfl, _⟩ := h; rfl
theorem len_pair_of : ∀ ds O R X, C_pair_of ds O R X → ds.length = 3 := fun _ _ _ _ h => by obtain ⟨_, _, _, rfl, _⟩ := h; rfl
theorem len_squared : ∀ ds O R X, C_squared ds O R X → ds.length = 2 := fun _ _ _ _ h => by obtain ⟨_, _, rfl, _⟩ := h; rfl
theorem len_behind_layer : ∀ ds O R X, C_behind_layer ds O R X → ds.length = 4 := fun _ _ _ _ h => by obtain ⟨_, _, _, _, rfl, _⟩ := h; rfl
end
theorem Seq.sq {d : D} {ns : List Int} (h : Seq d ns) : sqD d = some (ns.map .int) := by rcases h with rfl | rfl <;> rfl
theorem lays_wf {p : Int} {rows : List Row} (h0 : 0 < p) (h1 : p < 100) : ∀ (ls : List Lay) (i : Nat) (x : List Int) (ps : List Pr), (∀ l ∈ ls, BdL l) → (∀ k ∈ ps, Bd k.2 ∧ k.2.length ≤ 100) → (laysI p rows ls i x ps).2.length = ps.length + ls.length ∧ ∀ k ∈ (laysI p rows ls i x ps).2, Bd k.2 ∧ k.2.length ≤ 100
  | [], i, x, ps, hl, hp => ⟨rfl, hp⟩
  | l :: r, i, x, ps, hl, hp => by
    have h := lays_wf (rows := rows) h0 h1 r (i + 1) (layI l x (before rows i) p).1 (ps ++ [(layI l x (before rows i) p).2]) (fun l h => hl l (List.mem_cons_of_mem _ h)) (fun k hk => by
      rcases List.mem_append.mp hk with h | h
      · exact hp k h
      · rw [List.mem_singleton] at h; subst h; exact lay_pr h0 h1 (hl l (List.mem_cons_self ..)))
    refine ⟨?_, h.2⟩
    show (laysI p rows r (i + 1) _ _).2.length = _
    rw [h.1, List.length_append, List.length_cons]; simp; omega
theorem row_wf {n : NetM} (hw : WfN n) (rows : List Row) (l : Nat) : WfR n (rowI n rows l) := by
  have h := lays_wf (rows := rows) hw.p0 hw.p1 n.layers 0 (plusI (n.emb.getD l []) (scaledI rows.length n.shift n.p) n.p) [] hw.lay.2 (fun k h => (nomatch h))
  exact ⟨by have e := h.1; simp only [List.length_nil, Nat.zero_add] at e; exact e, h.2⟩
theorem rows_snoc {n : NetM} {ls : List Nat} {l : Nat} : rowsI n (ls ++ [l]) = rowsI n ls ++ [rowI n (rowsI n ls) l] := by
  unfold rowsI; rw [List.foldl_append]; rfl
theorem take_succ {α : Type} {xs : List α} {i : Nat} {x : α} (h : xs[i]? = some x) : xs.take (i + 1) = xs.take i ++ [x] := by
  rw [List.take_succ, h]; rfl
theorem rows_at {n : NetM} {ls : List Nat} {i l : Nat} (h : ls[i]? = some l) : rowsI n (ls.take (i + 1)) = rowsI n (ls.take i) ++ [rowI n (rowsI n (ls.take i)) l] := by
  rw [take_succ h, rows_snoc]
theorem rows_len {n : NetM} {ls : List Nat} : (rowsI n ls).length = ls.length := by
  have h : ∀ (m : Nat), m ≤ ls.length → (rowsI n (ls.take m)).length = m := fun m => by
    induction m with
    | zero => intro _; rfl
    | succ m ih =>
      intro hm
      have hl : m < ls.length := by omega
      rw [rows_at (List.getElem?_eq_getElem hl), List.length_append, ih (by omega)]; rfl
  have := h ls.length (Nat.le_refl _)
  rwa [List.take_length] at this
theorem rows_wf {n : NetM} (hw : WfN n) {ls : List Nat} : ∀ r ∈ rowsI n ls, WfR n r := by
  have h : ∀ (m : Nat), m ≤ ls.length → ∀ r ∈ rowsI n (ls.take m), WfR n r := fun m => by
    induction m with
    | zero => intro _ r hr; exact (nomatch hr)
    | succ m ih =>
      intro hm r hr
      have hl : m < ls.length := by omega
      rw [rows_at (List.getElem?_eq_getElem hl)] at hr
      rcases List.mem_append.mp hr with h | h
      · exact ih (by omega) r h
      · rw [List.mem_singleton] at h; subst h; exact row_wf hw _ _
  have := h ls.length (Nat.le_refl _)
  rwa [List.take_length] at this
def Wit (ns : List Int) : Prop := ns.length ≤ 100
def RowsD (d : D) (rows : List Row) : Prop := d = .lst (rows.map dRow) ∨ d = .tup (rows.map dRow)
theorem RowsD.sq {d : D} {rows : List Row} (h : RowsD d rows) : sqD d = some (rows.map dRow) := by rcases h with rfl | rfl <;> rfl
theorem cb_lenR {c : Ct} {A : AS} {Q : QE} {d : D} {rows : List Row} (h : RowsD d rows) (q : Q A (.val (.int rows.length))) : CbD c (rLenA c.K) [.val d] A Q := by
  rcases h with rfl | rfl
  · exact cb_lenL rfl (by rw [List.length_map]; exact q)
  · exact cb_lenT rfl (by rw [List.length_map]; exact q)
theorem drop_at {α : Type} {xs : List α} {i : Nat} {x : α} (h : xs[i]? = some x) : xs.drop i = x :: xs.drop (i + 1) := by
  have hi := (List.getElem?_eq_some_iff.mp h).1
  rw [List.drop_eq_getElem_cons hi]; congr 1; exact (List.getElem?_eq_some_iff.mp h).2
def PrimesL : List Int := [2, 3, 5, 7, 11, 13, 17, 19, 23, 29, 31, 37, 41, 43, 47, 53, 59, 61, 67, 71, 73, 79, 83, 89, 97]
def netF (n : NetM) (e : D) : List (Str × D) := [("prime", .int n.p), ("end", e), ("_embed", dM n.emb), ("_shift", dV n.shift), ("_layers", .tup (n.layers.map dLay)), ("_out", dM n.out)]
section
variable (C : Addr)
def C_vectors : Contract := fun ds O R _ => ∃ m, ds = [dM m] ∧ m.length ≤ 1000 ∧ R O (dM m)
def C_is_integer : Contract := fun ds O R _ => ∃ n : Int, ds = [.int n] ∧ R O (.bl true)
def C_is_from : Contract := fun ds O R _ => ∃ n a b : Int, ds = [.int n, .int a, .int b] ∧ a ≤ n ∧ n ≤ b ∧ R O (.bl true)
def C_Net___init__ : Contract := fun ds O R _ => ∃ (i : Nat) (n : NetM) (e : D), ds = [.ptr i, .int n.p, dM n.emb, dV n.shift, .tup (n.layers.map dLay), dM n.out, e] ∧ O[i]? = some (.ins C []) ∧ n.p ∈ PrimesL ∧ WfN n ∧ R (O.set i (.ins C (netF n e))) .non
def C_Net_letters : Contract := fun ds O R _ => ∃ n e, ds = [dNet C n e] ∧ n.emb.length ≤ 1000 ∧ R O (.int n.emb.length)
def C_Net_vector_of : Contract := fun ds O R _ => ∃ n e l m, ds = [dNet C n e, .int (l : Nat), .int (m : Nat)] ∧ WfN n ∧ l < n.emb.length ∧ R O (dV (plusI (n.emb.getD l []) (scaledI m n.shift n.p) n.p))
def C_Net_weights_of : Contract := fun ds O R _ => ∃ n e x, ds = [dNet C n e, dV x] ∧ WfN n ∧ R O (dV ((timesI n.out x n.p).map (· + 1)))
def C_Net_row : Contract := fun ds O R _ => ∃ n e d rows l, ds = [dNet C n e, d, .int (l : Nat)] ∧ RowsD d rows ∧ WfN n ∧ l < n.emb.length ∧ rows.length ≤ 500 ∧ (∀ r ∈ rows, WfR n r) ∧ R O (dRow (rowI n rows l))
def C_rows_of : Contract := fun ds O R _ => ∃ n e d ls, ds = [dNet C n e, d] ∧ Seq d (ls.map Int.ofNat) ∧ WfN n ∧ (∀ l ∈ ls, l < n.emb.length) ∧ ls.length ≤ 500 ∧ NoLstO O ∧ R O (.tup ((rowsI n ls).map dRow))
variable {C}
theorem len_vectors : ∀ ds O R X, C_vectors ds O R X → ds.length = 1 := fun _ _ _ _ h => by obtain ⟨_, rfl, _⟩ := h; rfl
theorem len_is_integer : ∀ ds O R X, C_is_integer ds O R X → ds.length = 1 := fun _ _ _ _ h => by obtain ⟨_, rfl, _⟩ := h; rfl
theorem len_is_from : ∀ ds O R X, C_is_from ds O R X → ds.length = 3 := fun _ _ _ _ h => by obtain ⟨_, _, _, rfl, _⟩ := h; rfl
theorem len_Net___init__ : ∀ ds O R X, C_Net___init__ C ds O R X → ds.length = 7 := fun _ _ _ _ h => by obtain ⟨_, _, _, rfl, _⟩ := h; rfl
theorem len_Net_letters : ∀ ds O R X, C_Net_letters C ds O R X → ds.length = 1 := fun _ _ _ _ h => by obtain ⟨_, _, rfl, _⟩ := h; rfl
theorem len_Net_vector_of : ∀ ds O R X, C_Net_vector_of C ds O R X → ds.length = 3 := fun _ _ _ _ h => by obtain ⟨_, _, _, _, rfl, _⟩ := h; rfl
theorem len_Net_weights_of : ∀ ds O R X, C_Net_weights_of C ds O R X → ds.length = 2 := fun _ _ _ _ h => by obtain ⟨_, _, _, rfl, _⟩ := h; rfl
theorem len_Net_row : ∀ ds O R X, C_Net_row C ds O R X → ds.length = 3 := fun _ _ _ _ h => by obtain ⟨_, _, _, _, _, rfl, _⟩ := h; rfl
theorem len_rows_of : ∀ ds O R X, C_rows_of C ds O R X → ds.length = 2 := fun _ _ _ _ h => by obtain ⟨_, _, _, _, rfl, _⟩ := h; rfl
end
/-! ### the law's own net -/
def dNetT (n : NetM) : D := .tup [.int n.p, dM n.emb, dV n.shift, .tup (n.layers.map dLay), dM n.out]
/-- all widths are w -/
def MW (w : Nat) (m : List (List Int)) : Prop := ∀ r ∈ m, r.length = w
structure LW5 (w : Nat) (l : Lay) : Prop where
  q : MW w l.q ∧ l.q.length = w
  k : MW w l.k ∧ l.k.length = w
  v : MW w l.v ∧ l.v.length = w
  f : MW w l.f ∧ l.f.length = w
  s : MW w l.s ∧ l.s.length = w
structure WidN (w : Nat) (n : NetM) : Prop where
  emb : MW w n.emb
  shift : n.shift.length = w
  lay : ∀ l ∈ n.layers, LW5 w l
  out : MW w n.out
def C__law_vector : Contract := fun ds O R _ => ∃ (ns : List Int) (a w : Nat) (p : Int), ds = [.lst (ns.map .int), .int (a : Nat), .int (w : Nat), .int p] ∧ 0 < ns.length ∧ ns.length ≤ 1000 ∧ a ≤ 100000 ∧ w ≤ 10 ∧ 0 < p ∧ p < 100 ∧ AllN ns ∧ ∀ v : List Int, v.length = w → Bd v → R O (dV v)
def C__law_net : Contract := fun ds O R _ => ∃ (ns : List Int) (l w m : Nat) (p : Int), ds = [.lst (ns.map .int), .int (l : Nat), .int (w : Nat), .int (m : Nat), .int p] ∧ 0 < ns.length ∧ ns.length ≤ 1000 ∧ AllN ns ∧ 0 < l ∧ l ≤ 13 ∧ 0 < w ∧ w ≤ 4 ∧ m ≤ 4 ∧ 0 < p ∧ p < 100 ∧ ∀ n : NetM, n.p = p → WfN n → WidN w n → n.emb.length = l → n.out.length = l → R O (dNetT n)
def C__law_dot : Contract := fun ds O R _ => ∃ d e a b p, ds = [d, e, .int p] ∧ Seq d a ∧ Seq e b ∧ Bd a ∧ a.length ≤ 100 ∧ a.length ≤ b.length ∧ 0 < p ∧ R O (.int (dotI a b p))
def C__law_times : Contract := fun ds O R _ => ∃ m d v p, ds = [dM m, d, .int p] ∧ Seq d v ∧ BdM m ∧ MW v.length m ∧ 0 < p ∧ R O (.lst ((timesI m v p).map .int))
def C__law_row : Contract := fun ds O R _ => ∃ n w rows l, ds = [dNetT n, .lst (rows.map dRow), .int (l : Nat)] ∧ WfN n ∧ WidN w n ∧ l < n.emb.length ∧ rows.length ≤ 500 ∧ (∀ r ∈ rows, WfR n r ∧ ∀ k ∈ r.pairs, Bd k.1 ∧ k.1.length = w ∧ k.2.length = w) ∧ R O (dRow (rowI n rows l))
def C__law_rows : Contract := fun ds O R _ => ∃ n w ls d, ds = [dNetT n, d] ∧ Seq d (ls.map Int.ofNat) ∧ WfN n ∧ WidN w n ∧ (∀ l ∈ ls, l < n.emb.length) ∧ ls.length ≤ 500 ∧ NoLstO O ∧ R O (.lst ((rowsI n ls).map dRow))
theorem len__law_vector : ∀ ds O R X, C__law_vector ds O R X → ds.length = 4 := fun _ _ _ _ h => by obtain ⟨_, _, _, _, rfl, _⟩ := h; rfl
theorem len__law_net : ∀ ds O R X, C__law_net ds O R X → ds.length = 5 := fun _ _ _ _ h => by obtain ⟨_, _, _, _, _, rfl, _⟩ := h; rfl
theorem len__law_dot : ∀ ds O R X, C__law_dot ds O R X → ds.length = 3 := fun _ _ _ _ h => by obtain ⟨_, _, _, _, _, rfl, _⟩ := h; rfl
theorem len__law_times : ∀ ds O R X, C__law_times ds O R X → ds.length = 3 := fun _ _ _ _ h => by obtain ⟨_, _, _, _, rfl, _⟩ := h; rfl
theorem len__law_row : ∀ ds O R X, C__law_row ds O R X → ds.length = 3 := fun _ _ _ _ h => by obtain ⟨_, _, _, _, rfl, _⟩ := h; rfl
theorem len__law_rows : ∀ ds O R X, C__law_rows ds O R X → ds.length = 2 := fun _ _ _ _ h => by obtain ⟨_, _, _, _, rfl, _⟩ := h; rfl
/-! ### the same sums, told by places -/
theorem plusG {a b : List Int} {n p : Int} (h : a.length = b.length) : ((List.range a.length).map fun k => (a.getD k 0 + n * b.getD k 0) % p) = plusI a (scaledI n b p) p := by
  apply List.ext_getElem
  · unfold plusI scaledI; simp [List.length_zip]; omega
  · intro i h1 h2
    have hi : i < a.length := by simpa using h1
    simp only [plusI, scaledI, List.getElem_map, List.getElem_range, List.getElem_zip]
    rw [getD_lt hi, getD_lt (by omega)]
    simp [Int.add_emod]
theorem plusM {a b : List Int} {p : Int} (h : a.length = b.length) : ((List.range a.length).map fun k => (a.getD k 0 + b.getD k 0) % p) = plusI a b p := by
  apply List.ext_getElem
  · unfold plusI; simp [List.length_zip]; omega
  · intro i h1 h2
    have hi : i < a.length := by simpa using h1
    simp only [plusI, List.getElem_map, List.getElem_range, List.getElem_zip]
    rw [getD_lt hi, getD_lt (by omega)]
theorem dot_mod {p : Int} : ∀ (a b : List Int), dotI a (b.map (· % p)) p = dotI a b p
  | [], _ => by simp [dotI]
  | _ :: _, [] => by simp [dotI]
  | x :: a, y :: b => by
    have h := dot_mod (p := p) a b
    simp only [dotI, List.map_cons, List.zip_cons_cons, List.sum_cons] at h ⊢
    rw [Int.add_emod, h, Int.add_emod (x * y)]
    congr 2
    rw [Int.mul_emod, Int.emod_emod, ← Int.mul_emod]
theorem times_sq {m : List (List Int)} {v : List Int} {p : Int} : timesI m (v.map fun y => y * y) p = timesI m (squaresI v p) p := by
  unfold timesI
  apply List.map_congr_left
  intro r _
  rw [← dot_mod r (v.map fun y => y * y)]
  simp [squaresI, List.map_map, Function.comp_def]
theorem rangeG {a b : List Int} {n p : Int} {w : Nat} (h : a.length = b.length) (hl : a.length = w) : ((List.range w).map fun k => D.int ((a.getD k 0 + n * b.getD k 0) % p)) = (plusI a (scaledI n b p) p).map D.int := by
  rw [← plusG h, List.map_map, hl]; rfl
theorem rangeM {a b : List Int} {p : Int} {w : Nat} (h : a.length = b.length) (hl : a.length = w) : ((List.range w).map fun k => D.int ((a.getD k 0 + b.getD k 0) % p)) = (plusI a b p).map D.int := by
  rw [← plusM h, List.map_map, hl]; rfl
theorem intsD_range (n : Nat) : intsD 0 n = (List.range n).map fun k => D.int (0 + (k : Nat)) := rfl
theorem plusI_len2 {a b : List Int} {p : Int} (h : a.length = b.length) : (plusI a b p).length = a.length := by unfold plusI; rw [List.length_map, List.length_zip]; omega
theorem z0 (k : Nat) : (0 + (k : Int)).toNat = k := by omega
theorem lays_wid {p : Int} {rows : List Row} {w : Nat} (h0 : 0 < p) (h1 : p < 100) : ∀ (ls : List Lay) (i : Nat) (x : List Int) (ps : List Pr), (∀ l ∈ ls, LW5 w l) → (∀ k ∈ ps, Bd k.1 ∧ k.1.length = w ∧ k.2.length = w) → ∀ k ∈ (laysI p rows ls i x ps).2, Bd k.1 ∧ k.1.length = w ∧ k.2.length = w
  | [], i, x, ps, hl, hp => hp
  | l :: r, i, x, ps, hl, hp => lays_wid h0 h1 r (i + 1) (layI l x (before rows i) p).1 (ps ++ [(layI l x (before rows i) p).2]) (fun l h => hl l (List.mem_cons_of_mem _ h)) (fun k hk => by
      rcases List.mem_append.mp hk with h | h
      · exact hp k h
      · rw [List.mem_singleton] at h; subst h
        have hw := hl l (List.mem_cons_self ..)
        exact ⟨bd_times h0 h1, by show (timesI _ _ _).length = _; unfold timesI; rw [List.length_map]; exact hw.k.2, by show (timesI _ _ _).length = _; unfold timesI; rw [List.length_map]; exact hw.v.2⟩)
theorem rows_wid {n : NetM} {w : Nat} (hw : WfN n) (hd : WidN w n) {ls : List Nat} : ∀ r ∈ rowsI n ls, ∀ k ∈ r.pairs, Bd k.1 ∧ k.1.length = w ∧ k.2.length = w := by
  have h : ∀ (m : Nat), m ≤ ls.length → ∀ r ∈ rowsI n (ls.take m), ∀ k ∈ r.pairs, Bd k.1 ∧ k.1.length = w ∧ k.2.length = w := fun m => by
    induction m with
    | zero => intro _ r hr; exact (nomatch hr)
    | succ m ih =>
      intro hm r hr
      have hl : m < ls.length := by omega
      rw [rows_at (List.getElem?_eq_getElem hl)] at hr
      rcases List.mem_append.mp hr with h | h
      · exact ih (by omega) r h
      · rw [List.mem_singleton] at h; subst h
        exact lays_wid hw.p0 hw.p1 n.layers 0 _ [] hd.lay (fun k h => (nomatch h))
  have := h ls.length (Nat.le_refl _)
  rwa [List.take_length] at this
theorem cutD_mid {α : Type} {f : α → D} {xs : List α} {a b : Nat} (h : a ≤ b) (hb : b ≤ xs.length) : cutD (xs.map f) (some (a : Int)) (some (b : Int)) = ((xs.drop a).take (b - a)).map f := by
  unfold cutD
  rw [HT.sIx_nat, HT.sIx_nat, List.length_map, Nat.min_eq_left hb, Nat.min_eq_left (by omega), ← List.map_drop, ← List.map_take]
theorem cutD_tn {α : Type} {f : α → D} {xs : List α} {a : Nat} : cutD (xs.map f) none (some (a : Int)) = (xs.take a).map f := by
  rw [cutD_to (by omega), List.map_take]; congr 1
def MM (w : Nat) (m : List (List Int)) : Prop := ∀ r ∈ m, Bd r ∧ r.length = w
theorem MM.bd {w : Nat} {m : List (List Int)} (h : MM w m) (hw : w ≤ 100) (hl : m.length ≤ 100) : BdM m := ⟨hl, fun r hr => ⟨(h r hr).1, by rw [(h r hr).2]; exact hw⟩⟩
theorem MM.mw {w : Nat} {m : List (List Int)} (h : MM w m) : MW w m := fun r hr => (h r hr).2
theorem MM.sub {w : Nat} {m m' : List (List Int)} (h : MM w m) (hs : ∀ r ∈ m', r ∈ m) : MM w m' := fun r hr => h r (hs r hr)
theorem sub_cut {α : Type} {xs : List α} {a b : Nat} : ∀ r ∈ (xs.drop a).take b, r ∈ xs := fun r hr => List.mem_of_mem_drop (List.mem_of_mem_take hr)
section
variable {c : Ct} {A : AS} {te : TE} {Q : QE}
theorem wi_zipS {a b : List Int} {d : D} {ta : TA} {Q : AS → List D → Prop} (hd : Seq d b) (h : WA c ta A fun A1 xs => xs = [dV a, d] ∧ Q A1 ((a.zip b).map fun p => .sct [.int p.1, .int p.2])) : WI c (iZipAA c.K ta) A Q := by
  rcases hd with rfl | rfl
  · exact wi_zipM fun F G m σ H S E Qc k => h F G m σ H S E Qc fun F' m' A' vs H' ds e p S' R ⟨h1, h2⟩ => k F' m' A' vs H' ds e p S' R ⟨_, _, h1, by rw [zipD_ints]; exact h2⟩
  · exact wi_zipT fun F G m σ H S E Qc k => h F G m σ H S E Qc fun F' m' A' vs H' ds e p S' R ⟨h1, h2⟩ => k F' m' A' vs H' ds e p S' R ⟨_, _, h1, by rw [zipD_ints]; exact h2⟩
end
end AL

namespace AL
open PySem L2
/-! ### rows compared, cut and told again -/
theorem layAll {ps : List PyData} (h : ∀ p ∈ ps, p.canLay0 = true) : PyData.canLayAll0 ps = true := by
  induction ps with
  | nil => rfl
  | cons p ps ih =>
    show (p.canLay0 && PyData.canLayAll0 ps) = true
    rw [h p (by simp), ih (fun q hq => h q (by simp [hq]))]; rfl
theorem depAll {ps : List PyData} {n : Nat} (h : ∀ p ∈ ps, p.depth ≤ n) : PyData.depthAll ps ≤ n := by
  induction ps with
  | nil => exact Nat.zero_le _
  | cons p ps ih =>
    show max _ _ ≤ n
    exact Nat.max_le.mpr ⟨h p (by simp), ih (fun q hq => h q (by simp [hq]))⟩
theorem layTup {α : Type} {f : α → PyData} {xs : List α} (h : ∀ x, (f x).canLay0 = true) : (PyData.tuple (xs.map f)).canLay0 = true := layAll (ps := xs.map f) fun p hp => by obtain ⟨x, _, rfl⟩ := List.mem_map.mp hp; exact h x
theorem depTup {α : Type} {f : α → PyData} {xs : List α} {n : Nat} (h : ∀ x, (f x).depth ≤ n) : (PyData.tuple (xs.map f)).depth ≤ n + 1 := Nat.succ_le_succ (depAll (ps := xs.map f) fun p hp => by obtain ⟨x, _, rfl⟩ := List.mem_map.mp hp; exact h x)
def pV (v : List Int) : PyData := .tuple (v.map .int)
def pPr (k : Pr) : PyData := .tuple ([k.1, k.2].map pV)
def pRow (r : Row) : PyData := .tuple ([.tuple (r.pairs.map pPr), pV r.weights])
def pRows (rs : List Row) : PyData := .tuple (rs.map pRow)
theorem pysMap {α : Type} {f : α → D} {g : α → PyData} (h : ∀ x, Py (f x) (g x)) : ∀ xs : List α, Pys (xs.map f) (xs.map g)
  | [] => .nil
  | x :: xs => .cons (h x) (pysMap h xs)
theorem py_V (v : List Int) : Py (dV v) (pV v) := .tup (pysMap (fun i => .int i) v)
theorem py_Pr (k : Pr) : Py (dPr k) (pPr k) := .tup (.cons (py_V _) (.cons (py_V _) .nil))
theorem py_Row (r : Row) : Py (dRow r) (pRow r) := .tup (.cons (.tup (pysMap py_Pr _)) (.cons (py_V _) .nil))
theorem py_Rows (rs : List Row) : Py (.tup (rs.map dRow)) (pRows rs) := .tup (pysMap py_Row _)
theorem can_V (v : List Int) : (pV v).canLay0 = true := layTup fun _ => rfl
theorem can_Pr (k : Pr) : (pPr k).canLay0 = true := layTup can_V
theorem can_Row (r : Row) : (pRow r).canLay0 = true := layAll (ps := [.tuple (r.pairs.map pPr), pV r.weights]) fun p hp => by
  simp only [List.mem_cons, List.not_mem_nil, or_false] at hp
  rcases hp with rfl | rfl
  · exact layTup can_Pr
  · exact can_V _
theorem can_Rows (rs : List Row) : (pRows rs).canLay0 = true := layTup can_Row
theorem dep_V (v : List Int) : (pV v).depth ≤ 1 := depTup (n := 0) fun _ => Nat.le_refl _
theorem dep_Pr (k : Pr) : (pPr k).depth ≤ 2 := depTup dep_V
theorem dep_Row (r : Row) : (pRow r).depth ≤ 4 := Nat.succ_le_succ (depAll (ps := [.tuple (r.pairs.map pPr), pV r.weights]) fun p hp => by
  simp only [List.mem_cons, List.not_mem_nil, or_false] at hp
  rcases hp with rfl | rfl
  · exact depTup dep_Pr
  · exact Nat.le_trans (dep_V _) (by decide))
theorem dep_Rows (rs : List Row) : (pRows rs).depth ≤ 5 := depTup dep_Row
theorem shaped_Rows (rs : List Row) : SeqAt.shaped (pRows rs) = true := by
  unfold SeqAt.shaped
  rw [Bool.and_eq_true]
  exact ⟨can_Rows rs, decide_eq_true (Nat.le_trans (dep_Rows rs) (by decide))⟩
theorem eqv_Rows (rs : List Row) : PyData.eqv (pRows rs) (pRows rs) = true := SeqAt.eqv_refl _ (can_Rows rs)
/-! sameness of rows -/
theorem same_refl : ∀ (k : Nat) (d : D), okE k d → sameK k d d = true
  | 0, d, h => by cases d <;> exact h.elim
  | k + 1, d, h => by
    cases d <;> first
      | exact (h : False).elim
      | rfl
      | (simp only [sameK, decide_true]; done)
      | skip
    rename_i ds
    have h : ds.length < 1000 ∧ ∀ d ∈ ds, okE k d := h
    simp only [sameK, decide_true, Bool.true_and]
    refine List.all_eq_true.mpr fun i hi => ?_
    have hi := List.mem_range.mp hi
    rw [getD_lt hi]
    exact same_refl k _ (h.2 _ (List.getElem_mem hi))
theorem okD_of : ∀ (k : Nat) (d : D), okE k d → okD k d
  | 0, d, h => by cases d <;> exact h.elim
  | k + 1, d, h => by
    cases d <;> first
      | exact (h : False).elim
      | exact trivial
      | skip
    rename_i ds
    have h : ds.length < 1000 ∧ ∀ d ∈ ds, okE k d := h
    exact ⟨h.1, fun d hd => okD_of k d (h.2 d hd)⟩
theorem okE_V {k : Nat} {v : List Int} (h : v.length < 1000) : okE (k + 2) (dV v) := ⟨by rw [List.length_map]; exact h, fun d hd => by obtain ⟨i, _, rfl⟩ := List.mem_map.mp hd; exact trivial⟩
theorem okE_Row {k : Nat} {r : Row} (hp : r.pairs.length < 1000) (hv : ∀ q ∈ r.pairs, q.1.length < 1000 ∧ q.2.length < 1000) (hw : r.weights.length < 1000) : okE (k + 5) (dRow r) := by
  refine ⟨by show 2 < 1000; decide, fun d hd => ?_⟩
  simp only [List.mem_cons, List.not_mem_nil, or_false] at hd
  rcases hd with rfl | rfl
  · refine ⟨by rw [List.length_map]; exact hp, fun d hd => ?_⟩
    obtain ⟨q, hq, rfl⟩ := List.mem_map.mp hd
    refine ⟨by show 2 < 1000; decide, fun d hd => ?_⟩
    simp only [List.mem_cons, List.not_mem_nil, or_false] at hd
    rcases hd with rfl | rfl
    · exact okE_V (hv q hq).1
    · exact okE_V (hv q hq).2
  · exact okE_V (k := k + 2) hw
theorem wts_len {n : NetM} (rows : List Row) (l : Nat) : (rowI n rows l).weights.length = n.out.length := by
  show (List.map _ (timesI _ _ _)).length = _
  unfold timesI; rw [List.length_map, List.length_map]
theorem rows_wts {n : NetM} {ls : List Nat} : ∀ r ∈ rowsI n ls, r.weights.length = n.out.length := by
  have h : ∀ (m : Nat), m ≤ ls.length → ∀ r ∈ rowsI n (ls.take m), r.weights.length = n.out.length := fun m => by
    induction m with
    | zero => intro _ r hr; exact (nomatch hr)
    | succ m ih =>
      intro hm r hr
      have hl : m < ls.length := by omega
      rw [rows_at (List.getElem?_eq_getElem hl)] at hr
      rcases List.mem_append.mp hr with h | h
      · exact ih (by omega) r h
      · rw [List.mem_singleton] at h; subst h; exact wts_len _ _
  have := h ls.length (Nat.le_refl _)
  rwa [List.take_length] at this
theorem okE_row {n : NetM} {w : Nat} (hw : WfN n) (hd : WidN w n) (hw1 : w < 1000) {ls : List Nat} {k : Nat} : ∀ r ∈ rowsI n ls, okE (k + 5) (dRow r) := fun r hr =>
  okE_Row (by rw [(rows_wf hw r hr).1]; have := hw.lay.1; omega) (fun q hq => by have := rows_wid hw hd r hr q hq; omega) (by rw [rows_wts r hr]; have := hw.out.1; omega)
theorem okE_rows {n : NetM} {w : Nat} (hw : WfN n) (hd : WidN w n) (hw1 : w < 1000) {ls : List Nat} (hl : ls.length < 1000) {k : Nat} : okE (k + 6) (.tup ((rowsI n ls).map dRow)) := ⟨by rw [List.length_map, rows_len]; exact hl, fun d hd' => by
  obtain ⟨r, hr, rfl⟩ := List.mem_map.mp hd'
  exact okE_row hw hd hw1 r hr⟩
/-! beginnings -/
theorem rows_take {n : NetM} : ∀ (ls : List Nat) (k : Nat), k ≤ ls.length → (rowsI n ls).take k = rowsI n (ls.take k) := by
  intro ls k hk
  have h : ∀ m, k + m ≤ ls.length → (rowsI n (ls.take (k + m))).take k = rowsI n (ls.take k) := fun m => by
    induction m with
    | zero => intro _; exact List.take_of_length_le (by rw [rows_len, List.length_take]; omega)
    | succ m ih =>
      intro hm
      have hl : k + m < ls.length := by omega
      rw [show k + (m + 1) = k + m + 1 by omega, rows_at (List.getElem?_eq_getElem hl), List.take_append_of_le_length (by rw [rows_len, List.length_take]; omega)]
      exact ih (by omega)
  have := h (ls.length - k) (by omega)
  rwa [show k + (ls.length - k) = ls.length by omega, List.take_length] at this
theorem rows_get {n : NetM} {ls : List Nat} {k l : Nat} (h : ls[k]? = some l) : (rowsI n ls)[k]? = some (rowI n (rowsI n (ls.take k)) l) := by
  have hk := (List.getElem?_eq_some_iff.mp h).1
  have e := rows_take (n := n) ls (k + 1) (by omega)
  rw [rows_at h] at e
  have e2 : ((rowsI n ls).take (k + 1))[k]? = (rowsI n ls)[k]? := List.getElem?_take_of_lt (by omega)
  rw [← e2, e, List.getElem?_append_right (by rw [rows_len, List.length_take]; omega), rows_len, List.length_take, show k - min k ls.length = 0 by omega]; rfl
/-! cuts -/
theorem cutD_from {α : Type} {f : α → D} {xs : List α} {a : Nat} (h : a ≤ xs.length) : cutD (xs.map f) (some (a : Int)) none = (xs.drop a).map f := by
  unfold cutD
  rw [HT.sIx_nat, HT.sIx_none, List.length_map, Nat.min_eq_left h, ← List.map_drop, List.take_of_length_le (by rw [List.length_map, List.length_drop]; omega)]
theorem sIx_m1 (n d : Nat) : HT.sIx n d (some (-1)) = n - 1 := by
  show (if (-1 : Int) < 0 then ((-1 : Int) + (n : Int)).toNat else min (-1 : Int).toNat n) = _
  rw [if_pos (by decide)]; omega
theorem cutD_but {α : Type} {f : α → D} {xs : List α} : cutD (xs.map f) none (some (-1)) = (xs.take (xs.length - 1)).map f := by
  unfold cutD
  rw [HT.sIx_none, sIx_m1, List.drop_zero, List.length_map, Nat.sub_zero, List.map_take]
theorem cutD_last {α : Type} {f : α → D} {xs : List α} : cutD (xs.map f) (some (-1)) none = (xs.drop (xs.length - 1)).map f := by
  unfold cutD
  rw [HT.sIx_none, sIx_m1, List.length_map, ← List.map_drop, List.take_of_length_le (by rw [List.length_map, List.length_drop]; omega)]
/-! letters -/
def dL (ls : List Nat) : List D := (ls.map Int.ofNat).map D.int
theorem dL_app {a b : List Nat} : dL (a ++ b) = dL a ++ dL b := by unfold dL; rw [List.map_append, List.map_append]
theorem dL_eq {ls : List Nat} : dL ls = ls.map fun l => D.int (l : Nat) := by unfold dL; rw [List.map_map]; rfl
theorem pick (ms : List Int) (l b c : Nat) (hl : 0 < l) {K : Nat} (hc : c ≤ K) : ∃ bs : List Nat, ((List.range c).map fun k => D.int (((ms.getD (b + k) 0 % (l : Int)).toNat : Nat))) = dL bs ∧ (∀ x ∈ bs, x < l) ∧ bs.length ≤ K ∧ bs.length = c := by
  refine ⟨(List.range c).map fun k => (ms.getD (b + k) 0 % (l : Int)).toNat, by rw [dL_eq, List.map_map]; rfl, fun x hx => ?_, by rw [List.length_map, List.length_range]; exact hc, by rw [List.length_map, List.length_range]⟩
  obtain ⟨k, _, rfl⟩ := List.mem_map.mp hx
  have h1 := Int.emod_nonneg (ms.getD (b + k) 0) (show (l : Int) ≠ 0 by omega)
  have h2 := Int.emod_lt_of_pos (ms.getD (b + k) 0) (show 0 < (l : Int) by omega)
  omega
theorem pickE {x : Int} {l : Nat} (hl : 0 < l) : (((x % (l : Int)).toNat : Nat) : Int) = x % (l : Int) := by
  have h1 := Int.emod_nonneg x (show (l : Int) ≠ 0 by omega)
  omega
theorem dL_len {ls : List Nat} : (dL ls).length = ls.length := by unfold dL; rw [List.length_map, List.length_map]
theorem dL_but {ls : List Nat} : cutD (dL ls) none (some (-1)) = dL (ls.take (ls.length - 1)) := by
  unfold dL; rw [cutD_but, List.length_map, ← List.map_take]
theorem dL_last {ls : List Nat} : cutD (dL ls) (some (-1)) none = dL (ls.drop (ls.length - 1)) := by
  unfold dL; rw [cutD_last, List.length_map, ← List.map_drop]
def C_weights_behind (C : Addr) : Contract := fun ds O R _ => ∃ n e d ls, ds = [dNet C n e, d] ∧ Seq d (ls.map Int.ofNat) ∧ WfN n ∧ (∀ l ∈ ls, l < n.emb.length) ∧ 0 < ls.length ∧ ls.length ≤ 500 ∧ NoLstO O ∧ ∀ r, (rowsI n ls)[ls.length - 1]? = some r → R O (dV r.weights)
theorem len_weights_behind {C : Addr} : ∀ ds O R X, C_weights_behind C ds O R X → ds.length = 2 := fun _ _ _ _ h => by obtain ⟨_, _, _, _, rfl, _⟩ := h; rfl
theorem atI_lastM {α : Type} {f : α → D} {xs : List α} {x : α} (h : xs[xs.length - 1]? = some x) : atI (xs.map f) (-1) = some (f x) := by
  have hl := (List.getElem?_eq_some_iff.mp h).1
  unfold atI ixN
  rw [List.length_map, if_neg (by omega), if_pos (by omega)]
  show (xs.map f)[(-1 + (xs.length : Int)).toNat]? = _
  rw [show (-1 + (xs.length : Int)).toNat = xs.length - 1 by omega, List.getElem?_map, h]; rfl
theorem py_L (ls : List Nat) : Py (.lst (dL ls)) (.list ((ls.map Int.ofNat).map .int)) := .lst (pys_ints _)
theorem wts_bd {n : NetM} (hw : WfN n) (rows : List Row) (l : Nat) : ∀ x ∈ (rowI n rows l).weights, 1 ≤ x ∧ x ≤ n.p := fun x hx => by
  obtain ⟨y, hy, rfl⟩ := List.mem_map.mp (show x ∈ List.map (· + 1) (timesI n.out _ n.p) from hx)
  obtain ⟨r, _, rfl⟩ := List.mem_map.mp hy
  have h0 := hw.p0
  have := Int.emod_nonneg ((r.zip (laysI n.p rows n.layers 0 (plusI (n.emb.getD l []) (scaledI rows.length n.shift n.p) n.p) []).1).map fun q => q.1 * q.2).sum (show n.p ≠ 0 by omega)
  have := Int.emod_lt_of_pos ((r.zip (laysI n.p rows n.layers 0 (plusI (n.emb.getD l []) (scaledI rows.length n.shift n.p) n.p) []).1).map fun q => q.1 * q.2).sum h0
  show 1 ≤ dotI _ _ _ + 1 ∧ dotI _ _ _ + 1 ≤ n.p
  unfold dotI
  omega
theorem we_slS {c : Ct} {A : AS} {Q : QE} {ls : List Nat} {d : D} {i : Nat} {te : TE} (hi : A.s[i]? = some (some (.val d))) (hd : Seq d (ls.map Int.ofNat)) (h : WE c te A fun A1 r => ∃ m : Nat, r = .val (.int (m : Nat)) ∧ ∀ d', Seq d' ((ls.take m).map Int.ofNat) → Q A1 (.val d')) : WE c (tSl (rSlAA c.K) (tVar i) tNoPart (tPart te)) A Q := by
  have e : ∀ m : Nat, cutD ((ls.map Int.ofNat).map D.int) none (some (m : Int)) = ((ls.take m).map Int.ofNat).map D.int := fun m => by rw [cutD_tn, ← List.map_take]
  rcases hd with rfl | rfl
  · refine we_slL (we_var hi (wo_none (wo_some (h.imp fun A1 r z => ?_))))
    obtain ⟨m, rfl, q⟩ := z
    exact ⟨m, rfl, _, rfl, rfl, trivial, by rw [e]; exact q _ (.inl rfl)⟩
  · refine we_slT (we_var hi (wo_none (wo_some (h.imp fun A1 r z => ?_))))
    obtain ⟨m, rfl, q⟩ := z
    exact ⟨m, rfl, _, rfl, by rw [e]; exact q _ (.inr rfl)⟩
end AL

namespace AL
open PySem L2
section
variable {c : Ct} {A : AS} {te ta tb : TE} {t u tt : TT}
/-- behind an element: the slots are as they were, the cells may have grown -/
theorem Sim.unwipeO {K : PySem.W.Frag} {F F3 G G0 : Hp} {m m3 : List Addr} {A A3 : AS} {σ σ3 : St} {H H3 : Hp} {vs : List Nat} (S : Sim K F G0 m A σ H) (S3 : Sim K F3 G m3 A3 σ3 H3) (e : Ex F F3) (p : Pre m m3) (es : ∀ j, j ∉ vs → A3.s[j]? = A.s[j]?)
    (ew : wipe σ3 vs = wipe σ vs) (no : NoOwn A.s vs) : Sim K F3 G m3 ⟨A.s, A3.o⟩ σ H3 := by
  refine ⟨S3.h, S.s.len, fun i x y e1 e2 => ?_, S.s.own⟩
  by_cases hi : i ∈ vs
  · have q := S.s.at_ i x y e1 e2
    match x, y, q, e2 with
    | _, none, _, _ => cases x <;> trivial
    | some v, some (.val d), q, _ => exact Rep.mono e p q
    | some v, some (.own c), _, e2 => exact absurd e2 (no i hi c)
  · have z1 : σ3[i]? = some x := by rw [← wipe_not hi, ew, wipe_not hi]; exact e1
    have z2 : A3.s[i]? = some y := by rw [es i hi]; exact e2
    exact S3.s.at_ i x y z1 z2
theorem wn_lcO {wi : TI} {g : TG} {vs : List Nat} {Q : AS → List D → Prop} (hg : GOk g vs)
    (h : WI c wi A fun A1 ds => NoOwn A1.s vs ∧ ds.length < 100000 ∧ ∃ oI : Nat → List Cell, oI 0 = A1.o ∧ ∃ es : List (Option D), es.length = ds.length ∧
      (∀ (i : Nat) d, ds[i]? = some d → WG c g d ⟨wipeA A1.s vs, oI i⟩ fun A2 => WT c tt A2 fun A3 b => (b = true → WE c te A3 fun A4 r => Frz A4 r fun A5 e => es[i]? = some (some e) ∧ A5.o = oI (i + 1) ∧ ∀ j, j ∉ vs → A5.s[j]? = A1.s[j]?) ∧
        (b = false → es[i]? = some none ∧ A3.o = oI (i + 1) ∧ ∀ j, j ∉ vs → A3.s[j]? = A1.s[j]?)) ∧ Q ⟨A1.s, oI ds.length⟩ (es.filterMap id)) :
    WN c (tLc wi g tt te vs) A Q := fun F G m σ H S E Qc k => h F G m σ H S E _ fun F1 m1 A1 J H1 ds e1 p1 S1 RJ ⟨no, hlen, oI, hoI, es, hes, hs, q⟩ => by
  intro Dl hD
  have gD : G Dl = none := (S1.h.fresh hD).2.1
  have sub : ∀ (o : HO) a u, G a = some u → upd G Dl o a = some u := fun o a u e => by rw [upd_ne (ne_of_none e gD)]; exact e
  have nD := S1.notOwn hD
  refine ⟨fun i n H2 => n = ds.length - i ∧ i ≤ ds.length ∧ ∃ F2 m2 acc, Ex F1 F2 ∧ Pre m1 m2 ∧ Sim c.K F2 (upd G Dl (.lst acc)) m2 ⟨A1.s, oI i⟩ σ H2 ∧ Reps c.K F2 m2 acc ((es.take i).filterMap id),
    ⟨_, rfl, Nat.zero_le _, F1, m1, [], Evl.Ex.refl _, Pre.refl _, (by rw [hoI]; exact S1.addG hD), .nil⟩, fun i n H2 hw => ?_⟩
  obtain ⟨rfl, hi, F2, m2, acc, e2, p2, S2, R2⟩ := hw
  obtain ⟨r1, r2⟩ := RJ F2 _ m2 ⟨A1.s, oI i⟩ σ H2 e2 p2 S2 i
  have hacc : acc.length ≤ i := by
    rw [R2.len]
    refine Nat.le_trans (List.length_filterMap_le _ _) ?_
    rw [List.length_take]; exact Nat.min_le_left _ _
  by_cases hl : i < ds.length
  · obtain ⟨g1, g2⟩ := r1 _ (List.getElem?_eq_getElem hl)
    refine .inr ⟨g1, fun H3 => i + 1 ≤ ds.length ∧ ∃ F2 m2 acc, Ex F1 F2 ∧ Pre m1 m2 ∧ Sim c.K F2 (upd G Dl (.lst acc)) m2 ⟨A1.s, oI (i + 1)⟩ σ H3 ∧ Reps c.K F2 m2 acc ((es.take (i + 1)).filterMap id), fun H3 hN => ⟨_, by omega, rfl, hN⟩, fun x H3 hy => ?_⟩
    obtain ⟨F3, e3, S3, R3⟩ := g2 x H3 hy
    have E3 : EOk c F3 (upd G Dl (.lst acc)) m2 := (E.weakG (sub _)).mono ((e1.trans e2).trans e3) (p1.trans p2)
    have S3w : Sim c.K F3 (upd G Dl (.lst acc)) m2 ⟨wipeA A1.s vs, oI i⟩ (wipe σ vs) H3 := ⟨S3.h, S3.s.wipe vs⟩
    have ww : wipe (wipe σ vs) vs = wipe σ vs := by
      apply List.ext_getElem?
      intro j
      by_cases hj : j ∈ vs
      · have z : ∀ (us : List Nat) (τ : St), j ∈ us → (wipe τ us)[j]? = if j < τ.length then some none else none := fun us => by
          induction us with
          | nil => intro τ h; cases h
          | cons u us ih =>
            intro τ h
            unfold wipe
            by_cases y : u = j
            · subst y
              by_cases hl : u < τ.length
              · rw [List.getElem?_set_self (by rw [wipe_length]; exact hl), if_pos hl]
              · rw [if_neg hl, List.getElem?_eq_none (by rw [List.length_set, wipe_length]; omega)]
            · rw [List.getElem?_set_ne y]
              exact ih τ (by simpa [show ¬ j = u from fun z => y z.symm] using h)
        rw [z vs _ hj, z vs _ hj, wipe_length]
      · rw [wipe_not hj]
    have hgx := hg x (wipe σ vs) H3 (fun σ2 H4 => tt σ2 H4 fun b H5 => if b = true then te σ2 H5 fun y H6 => ∃ acc', H6 Dl = some (.lst acc') ∧ acc'.length < sizeLine ∧ (i + 1 ≤ ds.length ∧ ∃ F2 m2 acc, Ex F1 F2 ∧ Pre m1 m2 ∧ Sim c.K F2 (upd G Dl (.lst acc)) m2 ⟨A1.s, oI (i + 1)⟩ σ (upd H6 Dl (.lst (acc' ++ [y]))) ∧ Reps c.K F2 m2 acc ((es.take (i + 1)).filterMap id)) else
      (i + 1 ≤ ds.length ∧ ∃ F2 m2 acc, Ex F1 F2 ∧ Pre m1 m2 ∧ Sim c.K F2 (upd G Dl (.lst acc)) m2 ⟨A1.s, oI (i + 1)⟩ σ H5 ∧ Reps c.K F2 m2 acc ((es.take (i + 1)).filterMap id)))
    rw [ww] at hgx
    refine hgx (hs i _ (List.getElem?_eq_getElem hl) F3 _ m2 (wipe σ vs) H3 x S3w R3 E3 _ fun F4 m4 A4 σ4 H4 e4 p4 S4 q4 ew => ?_)
    have x4 := e2.trans (e3.trans e4)
    have y4 := p2.trans p4
    refine q4 F4 _ m4 σ4 H4 S4 (E3.mono e4 p4) _ fun F5 m5 A5 b H5 e5 p5 S5 q5 => ?_
    have tk : ∀ o, es[i]? = some o → es.take (i + 1) = es.take i ++ [o] := fun o ho => by rw [List.take_add_one, ho]; rfl
    cases b with
    | false =>
      obtain ⟨h1, h2, h3⟩ := q5.2 rfl
      show i + 1 ≤ ds.length ∧ _
      refine ⟨hl, F5, m5, acc, x4.trans e5, y4.trans p5, h2 ▸ S2.unwipeO S5 (e3.trans (e4.trans e5)) (p4.trans p5) h3 ew no, ?_⟩
      rw [tk _ h1, List.filterMap_append]
      show Reps c.K F5 m5 acc (_ ++ [])
      rw [List.append_nil]
      exact R2.mono (e3.trans (e4.trans e5)) (p4.trans p5)
    | true =>
      show te σ4 H5 _
      refine (WE.frz (q5.1 rfl)) F5 _ m5 σ4 H5 S5 (E3.mono (e4.trans e5) (p4.trans p5)) _ fun F6 m6 A6 y H6 r e6 p6 S6 R6 q6 => ?_
      obtain ⟨d, er, h1, h2, h3⟩ := q6
      subst er
      have z6 := e3.trans (e4.trans (e5.trans e6))
      have w6 := p4.trans (p5.trans p6)
      refine ⟨acc, S6.h.exG Dl _ upd_same, Nat.lt_of_le_of_lt hacc (Nat.lt_of_lt_of_le (Nat.lt_trans hl hlen) (by decide)), hl, F6, m6, acc ++ [y], e2.trans z6, p2.trans w6, (h2 ▸ S2.unwipeO S6 z6 w6 h3 ew no : Sim c.K F6 _ m6 ⟨A1.s, oI (i + 1)⟩ σ _).setG, ?_⟩
      rw [tk _ h1, List.filterMap_append]
      exact (R2.mono z6 w6).app (.cons R6 .nil)
  · have ei : i = ds.length := by omega
    subst ei
    rw [← hes, List.take_length] at R2
    have gs := S2.h.exG Dl _ upd_same
    have fD : F2 Dl = none := by
      cases y : F2 Dl with
      | none => rfl
      | some u => have z := S2.h.dj Dl u y; rw [upd_same] at z; cases z
    exact .inl ⟨r2 (Nat.le_refl _), k F2 m2 ⟨A1.s, oI ds.length⟩ Dl acc H2 _ (e1.trans e2) (p1.trans p2) (S2.weakG (sub _)) fD gD (fun n e => by have z := S2.h.mG n Dl e; rw [upd_same] at z; cases z) nD gs R2 q⟩
/-- rows mapped, the cells growing with each -/
theorem wn_lcMO {α : Type} {wi : TI} {g : TG} {vs : List Nat} {Q : AS → List D → Prop} (f h : α → D) (hg : GOk g vs)
    (hw : WI c wi A fun A1 ds => ∃ (xs : List α) (oI : Nat → List Cell), ds = xs.map f ∧ noOwnB A1.s vs = true ∧ xs.length < 100000 ∧ oI 0 = A1.o ∧ (∀ i x, xs[i]? = some x → WG c g (f x) ⟨wipeA A1.s vs, oI i⟩ fun A2 => WE c te A2 fun A4 r => Frz A4 r fun A5 e => e = h x ∧ A5.o = oI (i + 1) ∧ ∀ j, j ∉ vs → A5.s[j]? = A1.s[j]?) ∧ Q ⟨A1.s, oI xs.length⟩ (xs.map h)) :
    WN c (tLc wi g tYes te vs) A Q := wn_lcO hg fun F G m σ H S E Rc k => hw F G m σ H S E Rc fun F' m' A1 J H' ds e p S' RJ ⟨xs, oI, ed, no, hl, h0, hs, q⟩ => by
  subst ed
  refine k F' m' A1 J H' _ e p S' RJ ⟨noOwn_of no, by rw [List.length_map]; exact hl, oI, h0, xs.map (fun x => some (h x)), by simp, fun i d hd => ?_, ?_⟩
  · rw [List.getElem?_map] at hd
    cases z : xs[i]? with
    | none => rw [z] at hd; cases hd
    | some x =>
      rw [z] at hd; cases hd
      intro F G m σ H v S R E Qc k
      refine hs i x z F G m σ H v S R E Qc fun F2 m2 A2 σ2 H2 e2 p2 S2 q2 => k F2 m2 A2 σ2 H2 e2 p2 S2 (wt_yes ⟨fun _ => ?_, fun b => nomatch b⟩)
      refine q2.imp fun A4 r q4 => ?_
      refine frz_imp q4 (fun A5 e5 ⟨h1, h2⟩ => ⟨?_, h2.1, h2.2⟩)
      rw [List.getElem?_map, z, h1]; rfl
  · rw [fm_some, List.length_map]; exact q
end
end AL

namespace AL
open PySem L2
/-! ### slots forgotten -/
theorem SS.forget1 {K : PySem.W.Frag} {F G : Hp} {m : List Addr} {s : List (Option SV)} {σ : St} {H : Hp} (h : SS K F G m s σ H) (i : Nat) : SS K F G m (s.set i none) σ H := by
  have q := h.forget (i := i) (x := (σ[i]?).getD none)
  have e : σ.set i ((σ[i]?).getD none) = σ := by
    apply List.ext_getElem?
    intro j
    by_cases z : i = j
    · subst z
      by_cases l : i < σ.length
      · rw [List.getElem?_set_self l, List.getElem?_eq_getElem l]; rfl
      · rw [List.getElem?_eq_none (by rw [List.length_set]; omega), List.getElem?_eq_none (by omega)]
    · rw [List.getElem?_set_ne z]
  rw [e] at q; exact q
theorem SS.wipe1 {K : PySem.W.Frag} {F G : Hp} {m : List Addr} {s : List (Option SV)} {σ : St} {H : Hp} (h : SS K F G m s σ H) : ∀ vs, SS K F G m (wipeA s vs) σ H
  | [] => h
  | v :: vs => (SS.wipe1 h vs).forget1 v
def AS.wipe (A : AS) (vs : List Nat) : AS := ⟨wipeA A.s vs, A.o⟩
theorem Sim.wipe1 {K : PySem.W.Frag} {F G : Hp} {m : List Addr} {A : AS} {σ : St} {H : Hp} (S : Sim K F G m A σ H) (vs : List Nat) : Sim K F G m (A.wipe vs) σ H := ⟨S.h, S.s.wipe1 vs⟩
def updS (s : List (Option SV)) : List (Nat × Option SV) → List (Option SV)
  | [] => s
  | (i, v) :: r => updS (s.set i v) r
section
variable {c : Ct} {A : AS} {t t1 t2 tb : TS} {nx bk ct : AS → Prop} {rt : List Cell → D → Prop}
theorem vs_wipe (vs : List Nat) {B : EA} (h : WS c t (A.wipe vs) B) : WS c t A B := fun F G m σ H S E Dc k => h F G m σ H (S.wipe1 vs) E Dc k
theorem WG.wipe {g : TG} {d : D} {Q : AS → Prop} (vs : List Nat) (h : WG c g d (A.wipe vs) Q) : WG c g d A Q := fun F G m σ H v S R E Qc k => h F G m σ H v (S.wipe1 vs) R E Qc k
theorem WT.wipe {tc : TT} {Q : AS → Bool → Prop} (vs : List Nat) (h : WT c tc (A.wipe vs) Q) : WT c tc A Q := fun F G m σ H S E Qc k => h F G m σ H (S.wipe1 vs) E Qc k
theorem vs_wipeE (vs : List Nat) (h : WS c t A ⟨fun A1 => nx (A1.wipe vs), rt, bk, ct⟩) : WS c t A ⟨nx, rt, bk, ct⟩ := fun F G m σ H S E Dc k =>
  h F G m σ H S E Dc ⟨fun F' m' A' σ' H' e p S' q => k.nx F' m' _ σ' H' e p (S'.wipe1 vs) q, k.rt, k.bk, k.ct⟩
/-- a loop: vs are the slots that nobody reads from one turn to the next; st the ones that are carried on; the others stay -/
theorem vs_forN {wi : TI} {g : TG} {α : Type} (vs : List Nat) (st : Nat → α → List (Nat × Option SV)) (oc : Nat → α → List Cell) (P : List D → Nat → α → Prop)
    (h : WI c wi A fun (A1 : AS) ds => (∃ a, A1.wipe vs = ⟨updS (wipeA A1.s vs) (st 0 a), oc 0 a⟩ ∧ P ds 0 a) ∧
      (∀ i d a, ds[i]? = some d → P ds i a → WG c g d ⟨updS (wipeA A1.s vs) (st i a), oc i a⟩ fun A3 => WS c tb A3 ⟨fun (A4 : AS) => ∃ a', A4.wipe vs = ⟨updS (wipeA A1.s vs) (st (i + 1) a'), oc (i + 1) a'⟩ ∧ P ds (i + 1) a', rt, fun A4 => nx (A4.wipe vs), fun (A4 : AS) => ∃ a', A4.wipe vs = ⟨updS (wipeA A1.s vs) (st (i + 1) a'), oc (i + 1) a'⟩ ∧ P ds (i + 1) a'⟩) ∧
      ∀ a, P ds ds.length a → nx ⟨updS (wipeA A1.s vs) (st ds.length a), oc ds.length a⟩) :
    WS c (tFor wi g tb) A ⟨nx, rt, bk, ct⟩ := vs_wipeE vs (fun F G m σ H S E Dc k => by
  have : WI c wi A fun A1 ds => ∃ I : List D → Nat → AS → Prop, I ds 0 A1 ∧ (∀ i d A2, ds[i]? = some d → I ds i A2 → WG c g d A2 fun A3 => WS c tb A3 ⟨I ds (i + 1), rt, fun A4 => nx (A4.wipe vs), I ds (i + 1)⟩) ∧ ∀ A2, I ds ds.length A2 → nx (A2.wipe vs) := fun F G m σ H S E Rc k =>
    h F G m σ H S E Rc fun F' m' A1 J H' ds e p S' R ⟨h0, hs, hd⟩ => k F' m' A1 J H' ds e p S' R ⟨fun ds i A2 => ∃ a, A2.wipe vs = ⟨updS (wipeA A1.s vs) (st i a), oc i a⟩ ∧ P ds i a, h0, fun i d A2 hi ⟨a, ea, pa⟩ => WG.wipe vs (by rw [ea]; exact hs i d a hi pa), fun A2 ⟨a, ea, pa⟩ => by rw [ea]; exact hd a pa⟩
  refine this F G m σ H S E _ fun F1 m1 A1 J H1 ds e1 p1 S1 RJ ⟨I, h0, hs, hd⟩ => ?_
  refine ⟨fun i n σ2 H2 => n = ds.length - i ∧ i ≤ ds.length ∧ ∃ F2 m2 A2, Ex F1 F2 ∧ Pre m1 m2 ∧ Sim c.K F2 G m2 A2 σ2 H2 ∧ I ds i A2, ⟨_, rfl, Nat.zero_le _, F1, m1, A1, Evl.Ex.refl _, Pre.refl _, S1, h0⟩, fun i n σ2 H2 hw => ?_⟩
  obtain ⟨rfl, hi, F2, m2, A2, e2, p2, S2, q2⟩ := hw
  obtain ⟨r1, r2⟩ := RJ F2 G m2 A2 σ2 H2 e2 p2 S2 i
  by_cases hl : i < ds.length
  · obtain ⟨g1, g2⟩ := r1 _ (List.getElem?_eq_getElem hl)
    refine .inr ⟨g1, fun σ3 H3 => ∃ F3 m3 A3, Ex F1 F3 ∧ Pre m1 m3 ∧ Sim c.K F3 G m3 A3 σ3 H3 ∧ I ds (i + 1) A3, fun σ3 H3 hN => ?_, fun x H3 hy => ?_⟩
    · exact ⟨ds.length - (i + 1), by omega, rfl, hl, hN⟩
    · obtain ⟨F3, e3, S3, R3⟩ := g2 x H3 hy
      refine hs i _ A2 (List.getElem?_eq_getElem hl) q2 F3 G m2 σ2 H3 x S3 R3 (E.mono ((e1.trans e2).trans e3) (p1.trans p2)) _ fun F4 m4 A4 σ4 H4 e4 p4 S4 q4 => ?_
      have f1 := e2.trans (e3.trans e4)
      have f2 := p2.trans p4
      refine q4 F4 G m4 σ4 H4 S4 (E.mono (e1.trans f1) (p1.trans f2)) _ ⟨fun F5 m5 A5 σ5 H5 e5 p5 S5 q5 => ⟨F5, m5, A5, f1.trans e5, f2.trans p5, S5, q5⟩, (k.mono (e1.trans f1) (p1.trans f2)).rt, fun F5 m5 A5 σ5 H5 e5 p5 S5 q5 => k.nx F5 m5 A5 σ5 H5 ((e1.trans f1).trans e5) ((p1.trans f2).trans p5) S5 q5, fun F5 m5 A5 σ5 H5 e5 p5 S5 q5 => ⟨F5, m5, A5, f1.trans e5, f2.trans p5, S5, q5⟩⟩
  · have : i = ds.length := by omega
    subst this
    exact .inl ⟨r2 (Nat.le_refl _), k.nx F2 m2 A2 σ2 H2 (e1.trans e2) (p1.trans p2) S2 (hd A2 q2)⟩)
/-- a loop: vs are the slots that nobody reads from one turn to the next; st the ones that are carried on; the others stay -/
theorem vs_forI {wi : TI} {g : TG} {α : Type} (vs : List Nat) (st : α → List (Nat × Option SV)) (oc : α → List Cell) (P : List D → Nat → α → Prop)
    (h : WI c wi A fun (A1 : AS) ds => (∃ a, A1.wipe vs = ⟨updS (wipeA A1.s vs) (st a), oc a⟩ ∧ P ds 0 a) ∧
      (∀ i d a, ds[i]? = some d → P ds i a → WG c g d ⟨updS (wipeA A1.s vs) (st a), oc a⟩ fun A3 => WS c tb A3 ⟨fun (A4 : AS) => ∃ a', A4.wipe vs = ⟨updS (wipeA A1.s vs) (st a'), oc a'⟩ ∧ P ds (i + 1) a', rt, fun A4 => nx (A4.wipe vs), fun (A4 : AS) => ∃ a', A4.wipe vs = ⟨updS (wipeA A1.s vs) (st a'), oc a'⟩ ∧ P ds (i + 1) a'⟩) ∧
      ∀ a, P ds ds.length a → nx ⟨updS (wipeA A1.s vs) (st a), oc a⟩) :
    WS c (tFor wi g tb) A ⟨nx, rt, bk, ct⟩ := vs_forN vs (fun _ => st) (fun _ => oc) P h
/-- a loop by a test: n goes down -/
theorem vs_whileI {tc : TT} {α : Type} (vs : List Nat) (st : α → List (Nat × Option SV)) (oc : α → List Cell) (P : Nat → α → Prop) (n0 : Nat) (a0 : α)
    (e0 : A.wipe vs = ⟨updS (wipeA A.s vs) (st a0), oc a0⟩) (h0 : P n0 a0)
    (hs : ∀ n a, P n a → WT c tc ⟨updS (wipeA A.s vs) (st a), oc a⟩ fun A2 b => (b = true → WS c tb A2 ⟨fun (A3 : AS) => ∃ n' a', n' < n ∧ A3.wipe vs = ⟨updS (wipeA A.s vs) (st a'), oc a'⟩ ∧ P n' a', rt, fun A3 => nx (A3.wipe vs), fun (A3 : AS) => ∃ n' a', n' < n ∧ A3.wipe vs = ⟨updS (wipeA A.s vs) (st a'), oc a'⟩ ∧ P n' a'⟩) ∧ (b = false → nx (A2.wipe vs))) :
    WS c (tWhile tc tb) A ⟨nx, rt, bk, ct⟩ := vs_wipeE vs (vs_while (fun n (A2 : AS) => ∃ a, A2.wipe vs = ⟨updS (wipeA A.s vs) (st a), oc a⟩ ∧ P n a) n0 ⟨a0, e0, h0⟩ fun n A1 ⟨a, ea, pa⟩ => WT.wipe vs (by
      rw [ea]
      refine fun F G m σ H S E Qc k => hs n a pa F G m σ H S E Qc fun F' m' A' b H' e p S' ⟨q1, q2⟩ => k F' m' A' b H' e p S' ⟨fun hb => (q1 hb).imp (fun A3 ⟨n', a', h1, h2, h3⟩ => ⟨n', h1, a', h2, h3⟩) (fun _ _ h => h) (fun _ h => h) (fun A3 ⟨n', a', h1, h2, h3⟩ => ⟨n', h1, a', h2, h3⟩), q2⟩))
/-- the state behind the first statement is told anew -/
theorem vs_cutI {α : Type} (vs : List Nat) (st : α → List (Nat × Option SV)) (oc : α → List Cell) (P : α → Prop)
    (h1 : WS c t1 A ⟨fun (A1 : AS) => ∃ a, A1.wipe vs = ⟨updS (wipeA A.s vs) (st a), oc a⟩ ∧ P a, rt, bk, ct⟩) (h2 : ∀ a, P a → WS c t2 ⟨updS (wipeA A.s vs) (st a), oc a⟩ ⟨nx, rt, bk, ct⟩) : WS c (tSeq t1 t2) A ⟨nx, rt, bk, ct⟩ :=
  ws_seq (h1.imp (fun A1 ⟨a, ea, pa⟩ => vs_wipe vs (by rw [ea]; exact h2 a pa)) (fun _ _ h => h) (fun _ h => h) (fun _ h => h))
variable {Q : QE}
/-- a drawn number: any below 1000 -/
theorem od_ixN {ns : List Int} {x : RV} {i : Int} (hx : lsOf A x = some (ns.map .int)) (hN : AllN ns) (h0 : 0 ≤ i) (h1 : i < (ns.length : Int)) (q : ∀ v : Int, 0 ≤ v → v < 1000 → Q A (.val (.int v))) : OpD c (rIx c.K) x (.val (.int i)) A Q :=
  od_ixL hx (atI_ints h0 h1) (q _ (hN.at _).1 (hN.at _).2)
end
end AL
namespace AL
theorem od_ixNv {c : Ct} {A : AS} {Q : QE} {ns : List Int} {i : Int} (hN : AllN ns) (h0 : 0 ≤ i) (h1 : i < (ns.length : Int)) (q : ∀ v : Int, 0 ≤ v → v < 1000 → Q A (.val (.int v))) : OpD c (L2.rIx c.K) (.val (.lst (ns.map D.int))) (.val (.int i)) A Q :=
  od_ixN rfl hN h0 h1 q
end AL
local macro_rules | `(tactic| walk_at "aln1") => `(tactic| ((with_reducible refine' AL.od_ixNv ?hN ?h0 ?h1 (fun _ _ _ => ?_)); (case hN => assumption); (case h0 => omega); (case h1 => omega)))
local macro_rules | `(tactic| walk_at "aln") => `(tactic| ((repeat (first | walk_at "als1" | walk_at "aln1" | walk_at "al2")); all_goals (try dsimp only [AL.as_eta])))
namespace AL
theorem modN {x : Int} {m : Nat} (h : 0 < m) : ∃ s : Nat, x % (m : Int) = (s : Nat) ∧ s < m := by
  have h1 := Int.emod_nonneg x (show (m : Int) ≠ 0 by omega)
  have h2 := Int.emod_lt_of_pos x (show 0 < (m : Int) by omega)
  exact ⟨(x % (m : Int)).toNat, by omega, by omega⟩
end AL
local macro_rules | `(tactic| walk_at "fl") => `(tactic| simp only [AL.as_eta, AL.AS.setS, AL.AS.wipe, AL.updS, AL.wipeA, AL.entry, List.set, List.map_cons, List.map_nil, List.length_cons, List.length_nil, List.replicate, List.cons_append, List.nil_append, Nat.reduceAdd, Nat.reduceSub, Nat.reduceLeDiff, Nat.sub_self])

namespace AL
open PySem L2
/-! ### the greatest, and by number -/
def IsArg (ns : List Int) (j : Nat) : Prop := ∃ M, ns[j]? = some M ∧ (∀ y ∈ ns, y ≤ M) ∧ ∀ m : Nat, m < j → ns[m]? ≠ some M
def IsBy (ns : List Int) (r : Int) (l : Nat) : Prop := l < ns.length ∧ (ns.take l).sum ≤ r ∧ r < (ns.take (l + 1)).sum
theorem isArg_uniq {ns : List Int} {a b : Nat} (ha : IsArg ns a) (hb : IsArg ns b) : a = b := by
  obtain ⟨M, h1, h2, h3⟩ := ha
  obtain ⟨N, g1, g2, g3⟩ := hb
  have e : M = N := by
    have := h2 N (List.mem_of_getElem? g1)
    have := g2 M (List.mem_of_getElem? h1)
    omega
  subst e
  by_cases c1 : a < b
  · exact absurd h1 (g3 a c1)
  · by_cases c2 : b < a
    · exact absurd g1 (h3 b c2)
    · omega
theorem isBy_uniq {ns : List Int} {r : Int} {a b : Nat} (hx : ∀ x ∈ ns, 0 ≤ x) (ha : IsBy ns r a) (hb : IsBy ns r b) : a = b := by
  obtain ⟨h1, h2, h3⟩ := ha
  obtain ⟨g1, g2, g3⟩ := hb
  by_cases c1 : a < b
  · have := sumTkLe hx (a + 1) b c1; omega
  · by_cases c2 : b < a
    · have := sumTkLe hx (b + 1) a c2; omega
    · omega
/-- the law's own letter, behind i turns -/
def Let (ws : List Int) (r : Int) (i L : Nat) : Prop := L ≤ i ∧ (ws.take L).sum ≤ r ∧ ∀ j : Nat, L < j → j ≤ i → r < (ws.take j).sum
theorem let_by {ws : List Int} {r : Int} {L l : Nat} (hx : ∀ x ∈ ws, 0 ≤ x) (h : Let ws r ws.length L) (b : IsBy ws r l) : l = L := by
  obtain ⟨h1, h2, h3⟩ := h
  obtain ⟨b1, b2, b3⟩ := b
  by_cases c1 : L < l
  · have := h3 l c1 (by omega); omega
  · by_cases c2 : l < L
    · have := sumTkLe hx (l + 1) L c2; omega
    · omega
open Classical in
noncomputable def argI (ns : List Int) : Nat := if h : ∃ j, IsArg ns j then h.choose else 0
theorem argI_of {ns : List Int} {j : Nat} (h : IsArg ns j) : argI ns = j := by
  unfold argI
  rw [dif_pos ⟨j, h⟩]
  exact isArg_uniq (Exists.choose_spec ⟨j, h⟩) h
open Classical in
noncomputable def byI (ns : List Int) (r : Int) : Nat := if h : ∃ j, IsBy ns r j then h.choose else 0
theorem byI_of {ns : List Int} {r : Int} {j : Nat} (hx : ∀ x ∈ ns, 0 ≤ x) (h : IsBy ns r j) : byI ns r = j := by
  unfold byI
  rw [dif_pos ⟨j, h⟩]
  exact isBy_uniq hx (Exists.choose_spec ⟨j, h⟩) h
theorem sum0_of {ns : List Int} (hx : ∀ x ∈ ns, 0 ≤ x) {M : Int} (hM : M ∈ ns) (hm : ∀ y ∈ ns, y ≤ M) : ns.sum = 0 ↔ M = 0 := by
  constructor
  · intro h
    by_cases c : 0 < M
    · have := sumPos hx hM c; omega
    · have := hx M hM; omega
  · intro h
    subst h
    have : ∀ (xs : List Int), (∀ x ∈ xs, x = 0) → xs.sum = 0 := fun xs => by
      induction xs with
      | nil => intro _; rfl
      | cons x r ih => intro h; rw [List.sum_cons, h x (List.mem_cons_self ..), ih fun y hy => h y (List.mem_cons_of_mem _ hy)]; rfl
    exact this ns fun x hx' => by have := hx x hx'; have := hm x hx'; omega
def C_greatest : Contract := fun ds O R _ => ∃ d ns, ds = [d] ∧ Seq d ns ∧ 0 < ns.length ∧ ∀ j, IsArg ns j → R O (.int (j : Nat))
def C_by_number : Contract := fun ds O R _ => ∃ d ns n, ds = [d, .int n] ∧ Seq d ns ∧ ns.length ≤ 100 ∧ (∀ x ∈ ns, 0 ≤ x) ∧ 0 < ns.sum ∧ ∀ l, IsBy ns (n % ns.sum) l → R O (.int (l : Nat))
theorem len_greatest : ∀ ds O R X, C_greatest ds O R X → ds.length = 1 := fun _ _ _ _ h => by obtain ⟨_, _, rfl, _⟩ := h; rfl
theorem len_by_number : ∀ ds O R X, C_by_number ds O R X → ds.length = 2 := fun _ _ _ _ h => by obtain ⟨_, _, _, rfl, _⟩ := h; rfl
/-! ### rules -/
structure RuleM where
  start : Nat
  steps : List (List (Option Nat))
def dOp : Option Nat → D
  | none => .non
  | some s => .int (s : Nat)
def dStep (row : List (Option Nat)) : D := .tup (row.map dOp)
def ruleF (r : RuleM) : List (Str × D) := [("start", .int (r.start : Nat)), ("steps", .tup (r.steps.map dStep))]
def dRule (C : Addr) (r : RuleM) : D := .obj C (ruleF r)
structure WfRu (L : Nat) (r : RuleM) : Prop where
  s0 : r.start < r.steps.length
  n : r.steps.length ≤ 100
  L1 : L ≤ 100
  row : ∀ row ∈ r.steps, row.length = L ∧ ∀ s, some s ∈ row → s < r.steps.length
def rstI (r : RuleM) (s l : Nat) : Option Nat := (r.steps.getD s []).getD l none
def afterI (r : RuleM) (text : List Nat) : Option Nat := text.foldl (fun s l => s.bind fun s => rstI r s l) (some r.start)
def letsI (r : RuleM) (text : List Nat) (l : Nat) : Bool := ((afterI r text).bind fun s => rstI r s l).isSome
theorem step_wf {L : Nat} {r : RuleM} (h : WfRu L r) {s l s' : Nat} (hs : s < r.steps.length) (hl : l < L) (e : rstI r s l = some s') : s' < r.steps.length := by
  unfold rstI at e
  rw [getD_lt hs] at e
  have hr := h.row _ (List.getElem_mem hs)
  rw [getD_lt (by rw [hr.1]; exact hl)] at e
  exact hr.2 s' (by rw [← e]; exact List.getElem_mem _)
theorem after_wf {L : Nat} {r : RuleM} (h : WfRu L r) : ∀ (text : List Nat) (o : Option Nat), (∀ l ∈ text, l < L) → (∀ s, o = some s → s < r.steps.length) → ∀ s', text.foldl (fun s l => s.bind fun s => rstI r s l) o = some s' → s' < r.steps.length
  | [], o, _, ho, s', e => ho s' e
  | l :: t, o, hl, ho, s', e => after_wf h t (o.bind fun s => rstI r s l) (fun x hx => hl x (List.mem_cons_of_mem _ hx)) (fun s2 e2 => by
      cases o with
      | none => cases e2
      | some s => exact step_wf h (ho s rfl) (hl l (List.mem_cons_self ..)) e2) s' e
theorem afterI_wf {L : Nat} {r : RuleM} (h : WfRu L r) {text : List Nat} (hl : ∀ l ∈ text, l < L) {s : Nat} (e : afterI r text = some s) : s < r.steps.length := after_wf h text _ hl (fun s e => by cases e; exact h.s0) s e
def countedI (r : Option RuleM) (ws : List Int) (text : List Nat) : List Int := match r with
  | none => ws
  | some r => (List.range ws.length).map fun l => if letsI r text l then ws.getD l 0 else 0
theorem counted_len {r : Option RuleM} {ws : List Int} {text : List Nat} : (countedI r ws text).length = ws.length := by
  cases r with
  | none => rfl
  | some r => show ((List.range ws.length).map _).length = _; rw [List.length_map, List.length_range]
theorem counted_nn {r : Option RuleM} {ws : List Int} {text : List Nat} (h : ∀ x ∈ ws, 0 ≤ x) : ∀ x ∈ countedI r ws text, 0 ≤ x := by
  cases r with
  | none => exact h
  | some r =>
    intro x hx
    obtain ⟨l, hl, rfl⟩ := List.mem_map.mp (show x ∈ (List.range ws.length).map _ from hx)
    have hl := List.mem_range.mp hl
    split
    · rw [getD_lt hl]; exact h _ (List.getElem_mem hl)
    · exact Int.le_refl _
noncomputable def choiceI (r : Option RuleM) (tape : List Int) (ws : List Int) (text : List Nat) : Option Nat :=
  if (countedI r ws text).sum = 0 then none
  else if tape = [] then some (argI (countedI r ws text))
  else some (byI (countedI r ws text) (tape.getD (text.length % tape.length) 0 % (countedI r ws text).sum))
/-! ### asks -/
structure AskM where
  prompt : List Nat
  most : Nat
  stops : List (List Nat)
  tape : List Int
  rule : Option RuleM
def dTx (t : List Nat) : D := .tup (dL t)
def dRu (CR : Addr) : Option RuleM → D
  | none => .non
  | some r => dRule CR r
def askF (CR : Addr) (a : AskM) : List (Str × D) := [("prompt", dTx a.prompt), ("most", .int (a.most : Nat)), ("stops", .tup (a.stops.map dTx)), ("tape", .tup (a.tape.map .int)), ("rule", dRu CR a.rule)]
def dAsk (C CR : Addr) (a : AskM) : D := .obj C (askF CR a)
structure WfA (L : Nat) (a : AskM) : Prop where
  p0 : 0 < a.prompt.length
  p1 : a.prompt.length ≤ 100
  pl : ∀ l ∈ a.prompt, l < L
  m0 : 1 ≤ a.most
  m1 : a.most ≤ 30
  st : a.stops.length ≤ 100 ∧ ∀ s ∈ a.stops, s.length ≤ 100 ∧ ∀ l ∈ s, l < L
  tl : a.tape.length ≤ 100
  ru : ∀ r, a.rule = some r → WfRu L r
/-- the longest stop at the text's end -/
def endsI (text stop : List Nat) : Bool := decide (stop.length ≤ text.length) && decide (text.drop (text.length - stop.length) = stop)
def stopI (stops : List (List Nat)) (text : List Nat) : Nat := stops.foldl (fun n s => if endsI text s then max n s.length else n) 0
/-- behind a choice: the text, and the word -/
def withI (e : Option Nat) (a : AskM) (text : List Nat) : Option Nat → List Nat × Option Str
  | none => (text, some "stuck")
  | some c => if some c = e then (text, some "end")
    else if 0 < stopI a.stops (text ++ [c]) then ((text ++ [c]).take ((text ++ [c]).length - stopI a.stops (text ++ [c])), some "stop")
    else if a.most ≤ (text ++ [c]).length then (text ++ [c], some "most")
    else (text ++ [c], none)
def dWd : Option Str → D
  | none => .non
  | some w => .str w
/-- the weights behind these letters -/
def wtsI (n : NetM) (ls : List Nat) : List Int := (rowI n (rowsI n (ls.take (ls.length - 1))) (ls.getD (ls.length - 1) 0)).weights
/-- the text behind k turns -/
noncomputable def goI (n : NetM) (e : Option Nat) (a : AskM) (begun : List Nat) : Nat → List Nat × Option Str
  | 0 => (begun, none)
  | k + 1 => match goI n e a begun k with
    | (t, none) => withI e a t (choiceI a.rule a.tape (wtsI n (a.prompt ++ t)) t)
    | z => z

theorem shaped_intsT (ns : List Int) : SeqAt.shaped (.tuple (ns.map PyData.int)) = true := by
  unfold SeqAt.shaped
  rw [Bool.and_eq_true]
  refine ⟨canLay_ints ns, decide_eq_true ?_⟩
  have := depth_ints ns
  show _ + 1 ≤ 64
  omega
theorem eqvAll_ints : ∀ a b : List Int, PyData.eqvAll (a.map PyData.int) (b.map PyData.int) = decide (a = b)
  | [], [] => by simp [PyData.eqvAll]
  | [], _ :: _ => by simp [PyData.eqvAll]
  | _ :: _, [] => by simp [PyData.eqvAll]
  | x :: a, y :: b => by
    simp only [List.map_cons, PyData.eqvAll, eqvAll_ints a b]
    by_cases h : x = y
    · subst h; simp [PyData.eqv]
    · simp [PyData.eqv, h]
theorem eqv_intsT (a b : List Int) : PyData.eqv (.tuple (a.map PyData.int)) (.tuple (b.map PyData.int)) = decide (a = b) := by rw [PyData.eqv]; exact eqvAll_ints a b
theorem eqv_intsL (a b : List Int) : PyData.eqv (.list (a.map PyData.int)) (.list (b.map PyData.int)) = decide (a = b) := by rw [PyData.eqv]; exact eqvAll_ints a b
theorem py_tx (t : List Nat) : Py (dTx t) (.tuple ((t.map Int.ofNat).map .int)) := .tup (pys_ints _)
theorem ofNat_inj {a b : List Nat} : a.map Int.ofNat = b.map Int.ofNat ↔ a = b := ⟨fun h => List.map_inj_right (fun _ _ h => Int.ofNat.inj h) |>.mp h, fun h => by rw [h]⟩
theorem od_eqTx {c : Ct} {A : AS} {Q : QE} {a b : List Nat} (q : Q A (.val (.bl (decide (a = b))))) : OpD c (rEqA c.K) (.val (dTx a)) (.val (dTx b)) A Q :=
  od_eqD (py_tx a) (py_tx b) (shaped_intsT _) (shaped_intsT _) (b := decide (a = b)) (by rw [eqv_intsT]; exact decide_eq_decide.mpr ofNat_inj) q
theorem seqTx (t : List Nat) : Seq (dTx t) (t.map Int.ofNat) := .inr rfl
theorem seqL (t : List Nat) : Seq (.lst (dL t)) (t.map Int.ofNat) := .inl rfl
theorem dOp_some {s : Nat} : dOp (some s) = .int (s : Nat) := rfl
/-! ### what the defs promise -/
section
variable (C CA CR : Addr)
def C_check_letters : Contract := fun ds O R _ => ∃ n e d, ∃ ls : List Nat, ds = [dNet C n e, d] ∧ Seq d (ls.map Int.ofNat) ∧ (∀ l ∈ ls, l < n.emb.length) ∧ n.emb.length ≤ 1000 ∧ R O .non
def C_check_ask : Contract := fun ds O R _ => ∃ n e a, ds = [dNet C n e, dAsk CA CR a] ∧ WfA n.emb.length a ∧ n.emb.length ≤ 1000 ∧ R O .non
def C_stop_at_end : Contract := fun ds O R _ => ∃ (stops : List (List Nat)) (text : List Nat), ds = [.tup (stops.map dTx), dTx text] ∧ R O (.int (stopI stops text : Nat))
def C_with_choice : Contract := fun ds O R _ => ∃ n e a, ∃ text : List Nat, ∃ ch : Option Nat, ds = [dNet C n (dOp e), dAsk CA CR a, dTx text, dOp ch] ∧ text.length ≤ 1000 ∧ R O (.tup [dTx (withI e a text ch).1, dWd (withI e a text ch).2])
def C_Rule___init__ : Contract := fun ds O R _ => ∃ (i : Nat) (r : RuleM), ds = [.ptr i, .int (r.start : Nat), .tup (r.steps.map dStep)] ∧ O[i]? = some (.ins CR []) ∧ r.steps.length ≤ 1000 ∧ R (O.set i (.ins CR (ruleF r))) .non
def C_Rule_after : Contract := fun ds O R _ => ∃ r L d, ∃ text : List Nat, ds = [dRule CR r, d] ∧ Seq d (text.map Int.ofNat) ∧ WfRu L r ∧ (∀ l ∈ text, l < L) ∧ R O (dOp (afterI r text))
def C_Rule_lets : Contract := fun ds O R _ => ∃ r L d, ∃ text : List Nat, ∃ l : Nat, ds = [dRule CR r, d, .int (l : Nat)] ∧ Seq d (text.map Int.ofNat) ∧ WfRu L r ∧ (∀ l ∈ text, l < L) ∧ l < L ∧ R O (.bl (letsI r text l))
def C_Ask___init__ : Contract := fun ds O R _ => ∃ (i : Nat) (a : AskM), ds = [.ptr i, dTx a.prompt, .int (a.most : Nat), .tup (a.stops.map dTx), .tup (a.tape.map .int), dRu CR a.rule] ∧ O[i]? = some (.ins CA []) ∧ 1 ≤ a.most ∧ a.most ≤ 30 ∧ a.stops.length ≤ 1000 ∧ R (O.set i (.ins CA (askF CR a))) .non
def C_Ask_counted : Contract := fun ds O R _ => ∃ a L d ws t, ∃ text : List Nat, ds = [dAsk CA CR a, d, t] ∧ Seq d ws ∧ Seq t (text.map Int.ofNat) ∧ (∀ r, a.rule = some r → WfRu L r) ∧ ws.length ≤ L ∧ L ≤ 100 ∧ (∀ l ∈ text, l < L) ∧ ∀ d', Seq d' (countedI a.rule ws text) → R O d'
def C_Ask_choice : Contract := fun ds O R _ => ∃ a L d ws t, ∃ text : List Nat, ds = [dAsk CA CR a, d, t] ∧ Seq d ws ∧ Seq t (text.map Int.ofNat) ∧ (∀ r, a.rule = some r → WfRu L r) ∧ 0 < ws.length ∧ ws.length ≤ L ∧ L ≤ 100 ∧ (∀ x ∈ ws, 0 ≤ x) ∧ (∀ l ∈ text, l < L) ∧ text.length ≤ 1000 ∧ a.tape.length ≤ 100 ∧ ((∀ c, choiceI a.rule a.tape ws text = some c → c < ws.length) → R O (dOp (choiceI a.rule a.tape ws text)))
def C_written : Contract := fun ds O R _ => ∃ n e a d, ∃ begun : List Nat, ds = [dNet C n (dOp e), dAsk CA CR a, d] ∧ Seq d (begun.map Int.ofNat) ∧ WfN n ∧ n.out.length = n.emb.length ∧ WfA n.emb.length a ∧ (∀ l ∈ begun, l < n.emb.length) ∧ begun.length < a.most ∧ NoLstO O ∧ ∀ k t w, goI n e a begun k = (t, some w) → R O (.tup [dTx t, .str w])
variable {C CA CR}
theorem len_check_letters : ∀ ds O R X, C_check_letters C ds O R X → ds.length = 2 := fun _ _ _ _ h => by obtain ⟨_, _, _, _, rfl, _⟩ := h; rfl
theorem len_check_ask : ∀ ds O R X, C_check_ask C CA CR ds O R X → ds.length = 2 := fun _ _ _ _ h => by obtain ⟨_, _, _, rfl, _⟩ := h; rfl
theorem len_stop_at_end : ∀ ds O R X, C_stop_at_end ds O R X → ds.length = 2 := fun _ _ _ _ h => by obtain ⟨_, _, rfl, _⟩ := h; rfl
theorem len_with_choice : ∀ ds O R X, C_with_choice C CA CR ds O R X → ds.length = 4 := fun _ _ _ _ h => by obtain ⟨_, _, _, _, _, rfl, _⟩ := h; rfl
theorem len_Rule___init__ : ∀ ds O R X, C_Rule___init__ CR ds O R X → ds.length = 3 := fun _ _ _ _ h => by obtain ⟨_, _, rfl, _⟩ := h; rfl
theorem len_Rule_after : ∀ ds O R X, C_Rule_after CR ds O R X → ds.length = 2 := fun _ _ _ _ h => by obtain ⟨_, _, _, _, rfl, _⟩ := h; rfl
theorem len_Rule_lets : ∀ ds O R X, C_Rule_lets CR ds O R X → ds.length = 3 := fun _ _ _ _ h => by obtain ⟨_, _, _, _, _, rfl, _⟩ := h; rfl
theorem len_Ask___init__ : ∀ ds O R X, C_Ask___init__ CA CR ds O R X → ds.length = 6 := fun _ _ _ _ h => by obtain ⟨_, _, rfl, _⟩ := h; rfl
theorem len_Ask_counted : ∀ ds O R X, C_Ask_counted CA CR ds O R X → ds.length = 3 := fun _ _ _ _ h => by obtain ⟨_, _, _, _, _, _, rfl, _⟩ := h; rfl
theorem len_Ask_choice : ∀ ds O R X, C_Ask_choice CA CR ds O R X → ds.length = 3 := fun _ _ _ _ h => by obtain ⟨_, _, _, _, _, _, rfl, _⟩ := h; rfl
theorem len_written : ∀ ds O R X, C_written C CA CR ds O R X → ds.length = 3 := fun _ _ _ _ h => by obtain ⟨_, _, _, _, _, rfl, _⟩ := h; rfl
end
theorem frame_enum {c : Ct} {A : AS} {ta : TA} {d : D} {ns : List Int} {Q : AS → List D → Prop} (hd : Seq d ns) (h : WA c ta A fun A1 es => es = [d] ∧ Q A1 ((List.range ns.length).map fun i => .sct [.int (i : Nat), .int (ns.getD i 0)])) : WI c (iEnumA c.K ta) A Q := by
  have e : enumD (ns.map D.int) = (List.range ns.length).map fun i => .sct [.int (i : Nat), .int (ns.getD i 0)] := by
    unfold enumD
    rw [List.length_map]
    apply List.map_congr_left
    intro i hi
    have hi := List.mem_range.mp hi
    rw [getD_lt (by rw [List.length_map]; exact hi), List.getElem_map, getD_lt hi]
  rcases hd with rfl | rfl
  · exact wi_enumL fun F G m σ H S E Qc k => h F G m σ H S E Qc fun F' m' A' vs H' ds e1 p S' R ⟨h1, h2⟩ => k F' m' A' vs H' ds e1 p S' R ⟨_, h1, by rw [e]; exact h2⟩
  · exact wi_enumT fun F G m σ H S E Qc k => h F G m σ H S E Qc fun F' m' A' vs H' ds e1 p S' R ⟨h1, h2⟩ => k F' m' A' vs H' ds e1 p S' R ⟨_, .inl h1, by rw [e]; exact h2⟩
/-! ### C(.., k = v, ..) -/
theorem we_makeKF {c : Ct} {A : AS} {Q : QE} {C : Addr} {Φ : Contract} {E : XK} {t tk : TA} {n m : Nat} {gV : List V → List V → List V} (gD : List D → List D → List D) (hg : ∀ F mm vs zs ds es, Reps c.K F mm vs ds → Reps c.K F mm zs es → Reps c.K F mm (gV vs zs) (gD ds es))
    (h : WA c t A fun A1 ds => WA c tk A1 fun A2 es => ds.length = n ∧ es.length = m ∧ Φ (gD (.ptr A2.o.length :: ds) es) (A2.o ++ [.ins C []]) (fun O' d => d = .non ∧ ∃ fs, O'[A2.o.length]? = some (.ins C fs) ∧ Q ⟨A2.s, O'.set A2.o.length .gone⟩ (.val (.obj C fs))) (fun _ _ _ => False)) : WE c (tMakeK C n m (SpA c.K Φ) gV E t tk) A Q := fun F G mm σ H S Eo Qc k =>
  h F G mm σ H S Eo _ fun F0 m0 A0 vs H0 ds e0 p0 S0 R0 q0 => q0 F0 G m0 σ H0 S0 (Eo.mono e0 p0) _ fun F1 m1 A1 zs H1 es e1 p1 S1 R1 ⟨l1, l2, q⟩ => by
    refine ⟨by rw [R0.len, l1], by rw [R1.len, l2], fun p dx hp hd n => ?_⟩
    have S2 := S1.insNew (C := C) hp hd n
    have ex : Ex F1 (upd F1 dx (.own p)) := ex_upd (S1.h.fresh hd).1
    have pr : Pre m1 (m1 ++ [p]) := Pre.app
    have gp : (m1 ++ [p])[A1.o.length]? = some p := by rw [← S1.h.len, List.getElem?_append_right (Nat.le_refl _), Nat.sub_self]; rfl
    refine ⟨upd F1 dx (.own p), _, m1 ++ [p], A1.o ++ [.ins C []], _, _, _, S2.call, hg _ _ _ _ _ _ (.cons (.ptr gp) (R0.mono (e1.trans ex) (p1.trans pr))) (R1.mono ex pr), q, fun F' m' O' w d H' e3 p3 hs r rr => ?_, fun F' m' O' C dx fvs fs H' e p hs fx rf xx => xx.elim⟩
    obtain ⟨ed, fs, eo, rr⟩ := rr
    subst ed
    cases r
    obtain ⟨F4, e4, S4, R4⟩ := (S2.back e3 p3 hs).insFrz (p3 _ _ gp) eo
    exact ⟨rfl, k F4 m' _ _ H' (.val (.obj C fs)) ((((e0.trans e1).trans ex).trans e3).trans e4) (((p0.trans p1).trans pr).trans p3) S4 R4 rr⟩
end AL
namespace AL
theorem stop_le (stops : List (List Nat)) (text : List Nat) : stopI stops text ≤ text.length := by
  have : ∀ (ss : List (List Nat)) (n : Nat), n ≤ text.length → ss.foldl (fun n s => if endsI text s then max n s.length else n) n ≤ text.length := fun ss => by
    induction ss with
    | nil => intro n h; exact h
    | cons s r ih =>
      intro n h
      refine ih _ ?_
      show (if endsI text s = true then max n s.length else n) ≤ _
      split
      · rename_i c
        unfold endsI at c
        rw [Bool.and_eq_true] at c
        have := of_decide_eq_true c.1
        omega
      · exact h
  exact this stops 0 (Nat.zero_le _)
end AL
namespace AL
open PySem L2
theorem goI_succ {n : NetM} {e : Option Nat} {a : AskM} {b t : List Nat} {k : Nat} (h : goI n e a b k = (t, none)) : goI n e a b (k + 1) = withI e a t (choiceI a.rule a.tape (wtsI n (a.prompt ++ t)) t) := by
  simp only [goI, h]
theorem goI_stay {n : NetM} {e : Option Nat} {a : AskM} {b t : List Nat} {w : Str} {k : Nat} (h : goI n e a b k = (t, some w)) : ∀ j : Nat, goI n e a b (k + j) = (t, some w)
  | 0 => h
  | j + 1 => by
    show goI n e a b (k + j + 1) = _
    simp only [goI, goI_stay h j]
theorem goI_uniq {n : NetM} {e : Option Nat} {a : AskM} {b t t' : List Nat} {w w' : Str} {k k' : Nat} (h : goI n e a b k = (t, some w)) (h' : goI n e a b k' = (t', some w')) : t = t' ∧ w = w' := by
  have e1 := goI_stay h k'
  have e2 := goI_stay h' k
  rw [Nat.add_comm] at e2
  rw [e1] at e2
  cases e2; exact ⟨rfl, rfl⟩
theorem withI_none {e : Option Nat} {a : AskM} {t : List Nat} {ch : Option Nat} (h : (withI e a t ch).2 = none) : ∃ c, ch = some c ∧ (withI e a t ch).1 = t ++ [c] ∧ t.length + 1 < a.most := by
  cases ch with
  | none => simp [withI] at h
  | some c =>
    refine ⟨c, rfl, ?_⟩
    simp only [withI] at h ⊢
    split at h
    · cases h
    · split at h
      · cases h
      · split at h
        · cases h
        · rename_i h1 h2 h3
          rw [if_neg h1, if_neg h2, if_neg h3]
          refine ⟨rfl, ?_⟩
          rw [List.length_append, List.length_singleton] at h3; omega
theorem wts_get {n : NetM} {ls : List Nat} (h : 0 < ls.length) : (rowsI n ls)[ls.length - 1]? = some (rowI n (rowsI n (ls.take (ls.length - 1))) (ls.getD (ls.length - 1) 0)) := by
  rw [rows_get (List.getElem?_eq_getElem (show ls.length - 1 < ls.length by omega)), getD_lt (by omega)]
theorem wtsI_len {n : NetM} {ls : List Nat} (h : 0 < ls.length) : (wtsI n ls).length = n.out.length := rows_wts (ls := ls) _ (List.mem_of_getElem? (wts_get h))
theorem wtsI_bd {n : NetM} (hw : WfN n) {ls : List Nat} : ∀ x ∈ wtsI n ls, 1 ≤ x ∧ x ≤ n.p := wts_bd hw _ _
end AL
namespace AL
open PySem L2
theorem cb_tupS {c : Ct} {A : AS} {Q : QE} {d : D} {ns : List Int} (h : Seq d ns) (q : Q A (.val (.tup (ns.map .int)))) : CbD c (rTupP c.K) [.val d] A Q := by
  rcases h with rfl | rfl
  · exact cb_tupL rfl q
  · exact cb_tupT rfl q
end AL
namespace AL
open PySem L2
/-! ### the laws' own rules, stops, tapes -/
def dRuT : Option RuleM → D
  | none => .non
  | some r => .tup [.int (r.start : Nat), .tup (r.steps.map dStep)]
def C__law_after : Contract := fun ds O R _ => ∃ r L d, ∃ text : List Nat, ds = [dRuT (some r), d] ∧ Seq d (text.map Int.ofNat) ∧ WfRu L r ∧ (∀ l ∈ text, l < L) ∧ R O (dOp (afterI r text))
def C__law_counted : Contract := fun ds O R _ => ∃ ru L d ws t, ∃ text : List Nat, ds = [d, dRuT ru, t] ∧ Seq d ws ∧ Seq t (text.map Int.ofNat) ∧ (∀ r, ru = some r → WfRu L r) ∧ ws.length ≤ L ∧ L ≤ 100 ∧ (∀ l ∈ text, l < L) ∧ R O (.lst ((countedI ru ws text).map .int))
def C__law_choice : Contract := fun ds O R _ => ∃ ru tape L d ws t, ∃ text : List Nat, ds = [d, dRuT ru, .tup (tape.map .int), t] ∧ Seq d ws ∧ Seq t (text.map Int.ofNat) ∧ (∀ r, ru = some r → WfRu L r) ∧ 0 < ws.length ∧ ws.length ≤ L ∧ L ≤ 100 ∧ (∀ x ∈ ws, 0 ≤ x) ∧ (∀ l ∈ text, l < L) ∧ text.length ≤ 1000 ∧ tape.length ≤ 100 ∧ ((∀ c, choiceI ru tape ws text = some c → c < ws.length) → R O (dOp (choiceI ru tape ws text)))
def C__law_rule : Contract := fun ds O R _ => ∃ ns : List Int, ∃ k L : Nat, ds = [.lst (ns.map .int), .int (k : Nat), .int (L : Nat)] ∧ AllN ns ∧ 0 < L ∧ L ≤ 12 ∧ k + 3 + 6 * L ≤ ns.length ∧ ns.length ≤ 1000 ∧ ∀ ru, (∀ r, ru = some r → WfRu L r) → R O (dRuT ru)
def C__law_stops : Contract := fun ds O R _ => ∃ ns : List Int, ∃ k L : Nat, ds = [.lst (ns.map .int), .int (k : Nat), .int (L : Nat)] ∧ AllN ns ∧ 0 < L ∧ k + 30 ≤ ns.length ∧ ns.length ≤ 1000 ∧ ∀ stops : List (List Nat), stops.length ≤ 4 → (∀ s ∈ stops, s.length ≤ 4 ∧ ∀ l ∈ s, l < L) → R O (.tup (stops.map dTx))
def C__law_tape : Contract := fun ds O R _ => ∃ ns : List Int, ∃ k : Nat, ds = [.lst (ns.map .int), .int (k : Nat)] ∧ AllN ns ∧ k + 30 ≤ ns.length ∧ ns.length ≤ 1000 ∧ ∀ tape : List Int, tape.length ≤ 12 → R O (.tup (tape.map .int))
def C__law_ends : Contract := fun ds O R _ => ∃ d, ∃ text stop : List Nat, ds = [d, dTx stop] ∧ Seq d (text.map Int.ofNat) ∧ R O (.bl (endsI text stop))
def C__law_stopped : Contract := fun ds O R _ => ∃ d, ∃ text : List Nat, ∃ stops : List (List Nat), ds = [d, .tup (stops.map dTx)] ∧ Seq d (text.map Int.ofNat) ∧ R O (.int (stopI stops text : Nat))
def dEnd : List Nat × Option Str → D
  | (t, some w) => .tup [dTx t, .str w]
  | (_, none) => .non
def C__law_ended : Contract := fun ds O R _ => ∃ e a, ∃ text : List Nat, ∃ ch : Option Nat, ds = [dOp ch, dOp e, .lst (dL text), .int (a.most : Nat), .tup (a.stops.map dTx)] ∧ text.length < a.most ∧ a.most ≤ 1000 ∧ R O (dEnd (withI e a text ch))
def dAskT (a : AskM) : D := .tup [dTx a.prompt, .int (a.most : Nat), .tup (a.stops.map dTx), .tup (a.tape.map .int), dRuT a.rule]
theorem len__law_after : ∀ ds O R X, C__law_after ds O R X → ds.length = 2 := fun _ _ _ _ h => by obtain ⟨_, _, _, _, rfl, _⟩ := h; rfl
theorem len__law_counted : ∀ ds O R X, C__law_counted ds O R X → ds.length = 3 := fun _ _ _ _ h => by obtain ⟨_, _, _, _, _, _, rfl, _⟩ := h; rfl
theorem len__law_choice : ∀ ds O R X, C__law_choice ds O R X → ds.length = 4 := fun _ _ _ _ h => by obtain ⟨_, _, _, _, _, _, _, rfl, _⟩ := h; rfl
theorem len__law_rule : ∀ ds O R X, C__law_rule ds O R X → ds.length = 3 := fun _ _ _ _ h => by obtain ⟨_, _, _, rfl, _⟩ := h; rfl
theorem len__law_stops : ∀ ds O R X, C__law_stops ds O R X → ds.length = 3 := fun _ _ _ _ h => by obtain ⟨_, _, _, rfl, _⟩ := h; rfl
theorem len__law_tape : ∀ ds O R X, C__law_tape ds O R X → ds.length = 2 := fun _ _ _ _ h => by obtain ⟨_, _, rfl, _⟩ := h; rfl
theorem len__law_ends : ∀ ds O R X, C__law_ends ds O R X → ds.length = 2 := fun _ _ _ _ h => by obtain ⟨_, _, _, rfl, _⟩ := h; rfl
theorem len__law_stopped : ∀ ds O R X, C__law_stopped ds O R X → ds.length = 2 := fun _ _ _ _ h => by obtain ⟨_, _, _, rfl, _⟩ := h; rfl
theorem len__law_ended : ∀ ds O R X, C__law_ended ds O R X → ds.length = 5 := fun _ _ _ _ h => by obtain ⟨_, _, _, _, rfl, _⟩ := h; rfl
/-- a place of a mixed row goes over from the one row to the other -/
theorem mix_next {cs ws : List Int} {i : Nat} {c : Int} (hl : cs.length = ws.length) (hi : cs[i]? = some c) : (cs.take i ++ ws.drop i).set i c = cs.take (i + 1) ++ ws.drop (i + 1) := by
  have h := (List.getElem?_eq_some_iff.mp hi).1
  have hw : i < ws.length := by omega
  have ht : (cs.take i).length = i := by rw [List.length_take]; omega
  rw [List.set_append_right _ _ (by omega), ht, Nat.sub_self, List.drop_eq_getElem_cons hw, List.set_cons_zero, take_succ hi, List.append_assoc]; rfl
theorem mix_same {cs ws : List Int} {i : Nat} {c : Int} (hi : cs[i]? = some c) (hw : ws[i]? = some c) : cs.take i ++ ws.drop i = cs.take (i + 1) ++ ws.drop (i + 1) := by
  rw [take_succ hi, drop_at hw, List.append_assoc]; rfl
theorem counted_at {r : RuleM} {ws : List Int} {text : List Nat} {i : Nat} (hi : i < ws.length) : (countedI (some r) ws text)[i]? = some (if letsI r text i then ws.getD i 0 else 0) := by
  show ((List.range ws.length).map _)[i]? = _
  rw [List.getElem?_map, List.getElem?_range hi]; rfl
end AL
namespace AL
open PySem L2
/-- a slice from a place on -/
theorem we_slF {c : Ct} {A : AS} {Q : QE} {ls : List Nat} {d : D} {i : Nat} {te : TE} (hi : A.s[i]? = some (some (.val d))) (hd : Seq d (ls.map Int.ofNat)) (h : WE c te A fun A1 r => ∃ m : Nat, r = .val (.int (m : Nat)) ∧ m ≤ ls.length ∧ ∀ d', Seq d' ((ls.drop m).map Int.ofNat) → Q A1 (.val d')) : WE c (tSl (rSlAA c.K) (tVar i) (tPart te) tNoPart) A Q := by
  have e : ∀ m : Nat, m ≤ ls.length → cutD ((ls.map Int.ofNat).map D.int) (some (m : Int)) none = ((ls.drop m).map Int.ofNat).map D.int := fun m hm => by rw [cutD_from (by rw [List.length_map]; exact hm), ← List.map_drop]
  rcases hd with rfl | rfl
  · refine we_slL (we_var hi (wo_some (h.imp fun A1 r z => ?_)))
    obtain ⟨m, rfl, hm, q⟩ := z
    exact ⟨m, rfl, wo_none ⟨_, rfl, rfl, trivial, by rw [e m hm]; exact q _ (.inl rfl)⟩⟩
  · refine we_slT (we_var hi (wo_some (h.imp fun A1 r z => ?_)))
    obtain ⟨m, rfl, hm, q⟩ := z
    exact ⟨m, rfl, wo_none ⟨_, rfl, by rw [e m hm]; exact q _ (.inr rfl)⟩⟩
end AL
namespace AL
open PySem L2
theorem withI_len {e : Option Nat} {a : AskM} {t : List Nat} {ch : Option Nat} (h : t.length < a.most) : (withI e a t ch).1.length ≤ a.most := by
  cases ch with
  | none => show t.length ≤ _; omega
  | some c =>
    have hl : (t ++ [c]).length = t.length + 1 := by rw [List.length_append]; rfl
    simp only [withI]
    split
    · show t.length ≤ _; omega
    · split
      · show (List.take _ _).length ≤ _; rw [List.length_take]; omega
      · split
        · show (t ++ [c]).length ≤ _; omega
        · show (t ++ [c]).length ≤ _; omega
theorem goI_len {n : NetM} {e : Option Nat} {a : AskM} {b : List Nat} (hb : b.length < a.most) : ∀ k : Nat, (goI n e a b k).1.length ≤ a.most ∧ ((goI n e a b k).2 = none → (goI n e a b k).1.length < a.most)
  | 0 => ⟨Nat.le_of_lt hb, fun _ => hb⟩
  | k + 1 => by
    have ih := goI_len (n := n) (e := e) hb k
    cases h : goI n e a b k with
    | mk t w =>
    rw [h] at ih
    cases w with
    | some w => rw [show goI n e a b (k + 1) = (t, some w) from goI_stay h 1]; exact ⟨ih.1, fun z => nomatch z⟩
    | none =>
      rw [goI_succ h]
      refine ⟨withI_len (ih.2 rfl), fun z => ?_⟩
      obtain ⟨c, _, e1, e2⟩ := withI_none z
      rw [e1, List.length_append]; exact e2
theorem noLstO_gone {O : List Cell} (h : NoLstO O) (j : Nat) : NoLstO (O ++ List.replicate j .gone) := fun x hx => by
  rcases List.mem_append.mp hx with z | z
  · exact h x z
  · rw [List.eq_of_mem_replicate z]; exact .gone
theorem sq_empty {K : PySem.W.Frag} {a : Addr} (h : PTup K (fun _ => none) a []) (F : Hp) (m : List Addr) : Rep K F m (.ref a) (.tup []) := by
  refine .tup ?_ .nil
  rcases h with ⟨_, h⟩ | h
  · cases h
  · exact .inr h
end AL

namespace AL
open PySem L2
/-! ### cells that change: dicts, lists, fields -/
section
variable {κ : Type} [DecidableEq κ]
def valD (kvs : List (κ × D)) (k : κ) : Option D := (kvs.find? fun kv => decide (kv.1 = k)).map (·.2)
def putKD (kvs : List (κ × D)) (k : κ) (v : D) : List (κ × D) :=
  if (kvs.any fun kv => decide (kv.1 = k)) = true then kvs.map fun kv => if kv.1 = k then (kv.1, v) else kv else kvs ++ [(k, v)]
variable {K : PySem.W.Frag} {F : Hp} {m : List Addr}
theorem RepK.val : ∀ {kv : List (κ × V)} {kd : List (κ × D)} (k : κ), RepK K F m kv kd → (∀ d, valD kd k = some d → ∃ v, valV kv k = some v ∧ Rep K F m v d) ∧ (valD kd k = none → valV kv k = none)
  | _, _, k, .nil => ⟨fun d h => by simp [valD] at h, fun _ => rfl⟩
  | _, _, k, .cons (k := k') (v := v) (d := d) a r => by
    by_cases e : k' = k
    · have e1 : ∀ r : List (κ × D), valD ((k', d) :: r) k = some d := fun r => by simp [valD, List.find?_cons, e]
      exact ⟨fun d' h => by rw [e1] at h; cases h; exact ⟨v, valV_pos e, a⟩, fun h => by rw [e1] at h; cases h⟩
    · have e1 : ∀ r : List (κ × D), valD ((k', d) :: r) k = valD r k := fun r => by simp [valD, List.find?_cons, e]
      have ih := RepK.val k r
      exact ⟨fun d' h => by rw [e1] at h; rw [valV_neg e]; exact ih.1 d' h, fun h => by rw [e1] at h; rw [valV_neg e]; exact ih.2 h⟩
theorem RepK.any : ∀ {kv : List (κ × V)} {kd : List (κ × D)} (k : κ), RepK K F m kv kd → (kv.any fun kv => decide (kv.1 = k)) = (kd.any fun kv => decide (kv.1 = k))
  | _, _, _, .nil => rfl
  | _, _, k, .cons _ r => by rw [List.any_cons, List.any_cons, RepK.any k r]
theorem RepK.repl {y : V} {d : D} (x : Rep K F m y d) : ∀ {kv : List (κ × V)} {kd : List (κ × D)} (k : κ), RepK K F m kv kd → RepK K F m (kv.map fun kv => if kv.1 = k then (kv.1, y) else kv) (kd.map fun kv => if kv.1 = k then (kv.1, d) else kv)
  | _, _, _, .nil => .nil
  | _, _, k, .cons (k := k') a r => by
    rw [List.map_cons, List.map_cons]
    by_cases e : k' = k
    · simp only [e, if_true]; exact .cons x (RepK.repl x k r)
    · simp only [e, if_false]; exact .cons a (RepK.repl x k r)
theorem RepK.snoc {y : V} {d : D} (x : Rep K F m y d) : ∀ {kv : List (κ × V)} {kd : List (κ × D)} (k : κ), RepK K F m kv kd → RepK K F m (kv ++ [(k, y)]) (kd ++ [(k, d)])
  | _, _, _, .nil => .cons x .nil
  | _, _, k, .cons a r => .cons a (RepK.snoc x k r)
theorem RepK.put {y : V} {d : D} (x : Rep K F m y d) {kv : List (κ × V)} {kd : List (κ × D)} (k : κ) (r : RepK K F m kv kd) : RepK K F m (putK kv k y) (putKD kd k d) := by
  unfold putK putKD
  rw [r.any k]
  split
  · exact r.repl x k
  · exact r.snoc x k
theorem RepK.len : ∀ {kv : List (κ × V)} {kd : List (κ × D)}, RepK K F m kv kd → kv.length = kd.length
  | _, _, .nil => rfl
  | _, _, .cons _ r => by rw [List.length_cons, List.length_cons, RepK.len r]
end
def keyD : D → Option Key
  | .int i => some (.inl i)
  | .str x => some (.inr x)
  | _ => none
theorem keyD_ok {K : PySem.W.Frag} {F : Hp} {m : List Addr} {v : V} {d : D} {k : Key} (R : Rep K F m v d) (h : keyD d = some k) : v = kV k := by
  cases R <;> simp only [keyD, Option.some.injEq, reduceCtorEq] at h <;> subst h <;> rfl
/-- an object that is nobody's becomes a cell -/
theorem Sim.addCell {K : PySem.W.Frag} {F G : Hp} {m : List Addr} {A : AS} {σ : St} {H : Hp} {p : Addr} {c : Cell} (S1 : Sim K F G m A σ H) (f : F p = none) (g : G p = none) (mm : ∀ n : Nat, m[n]? ≠ some p) (no : ¬ IsOwn A.s σ p) (he : ∃ o, H p = some o)
    (lc : c.live) (hx : CellAt K F (m ++ [p]) H p c) : Sim K F G (m ++ [p]) ⟨A.s, A.o ++ [c]⟩ σ H := by
  have pr : Pre m (m ++ [p]) := Pre.app
  refine ⟨⟨S1.h.exF, S1.h.exG, S1.h.dj, by rw [List.length_append, List.length_append, S1.h.len]; rfl, fun i a d z1 z2 l => ?_, fun i j a z1 z2 => ?_, fun i a z => ?_, fun i a z => ?_, fun i a z1 z2 => ?_⟩, S1.s.go (Evl.Ex.refl _) pr fun i x a z1 z2 => ?_⟩
  · by_cases z : i < m.length
    · rw [List.getElem?_append_left z] at z1
      rw [List.getElem?_append_left (by rw [← S1.h.len]; exact z)] at z2
      obtain ⟨x1, x2, x3⟩ := S1.h.cell i a d z1 z2 l
      exact ⟨x1, x2, x3.mono (fun _ _ h => h) pr rfl⟩
    · have hl := (List.getElem?_eq_some_iff.mp z1).1
      rw [List.length_append] at hl
      have ei : i = m.length := by simp only [List.length_cons, List.length_nil] at hl; omega
      subst ei
      rw [List.getElem?_append_right (Nat.le_refl _), Nat.sub_self] at z1
      rw [List.getElem?_append_right (by rw [S1.h.len]; exact Nat.le_refl _), S1.h.len, Nat.sub_self] at z2
      cases z1; cases z2
      exact ⟨f, g, hx⟩
  · by_cases z : i < m.length
    · rw [List.getElem?_append_left z] at z1
      by_cases y : j < m.length
      · rw [List.getElem?_append_left y] at z2; exact S1.h.inj i j a z1 z2
      · have hl := (List.getElem?_eq_some_iff.mp z2).1
        rw [List.length_append] at hl
        have ej : j = m.length := by simp only [List.length_cons, List.length_nil] at hl; omega
        subst ej
        rw [List.getElem?_append_right (Nat.le_refl _), Nat.sub_self] at z2
        cases z2
        exact absurd z1 (mm i)
    · have hl := (List.getElem?_eq_some_iff.mp z1).1
      rw [List.length_append] at hl
      have ei : i = m.length := by simp only [List.length_cons, List.length_nil] at hl; omega
      subst ei
      rw [List.getElem?_append_right (Nat.le_refl _), Nat.sub_self] at z1
      cases z1
      by_cases y : j < m.length
      · rw [List.getElem?_append_left y] at z2; exact absurd z2 (mm j)
      · have hl := (List.getElem?_eq_some_iff.mp z2).1
        rw [List.length_append] at hl
        simp only [List.length_cons, List.length_nil] at hl; omega
  · by_cases y : i < m.length
    · rw [List.getElem?_append_left y] at z; exact S1.h.here i a z
    · have hl := (List.getElem?_eq_some_iff.mp z).1
      rw [List.length_append] at hl
      have ei : i = m.length := by simp only [List.length_cons, List.length_nil] at hl; omega
      subst ei
      rw [List.getElem?_append_right (Nat.le_refl _), Nat.sub_self] at z
      cases z; exact he
  · by_cases y : i < m.length
    · rw [List.getElem?_append_left y] at z; exact S1.h.mG i a z
    · have hl := (List.getElem?_eq_some_iff.mp z).1
      rw [List.length_append] at hl
      have ei : i = m.length := by simp only [List.length_cons, List.length_nil] at hl; omega
      subst ei
      rw [List.getElem?_append_right (Nat.le_refl _), Nat.sub_self] at z
      cases z; exact g
  · by_cases y : i < m.length
    · rw [List.getElem?_append_left y] at z1
      rw [List.getElem?_append_left (by rw [← S1.h.len]; exact y)] at z2
      exact S1.h.gn i a z1 z2
    · have hl := (List.getElem?_eq_some_iff.mp z1).1
      rw [List.length_append] at hl
      have ei : i = m.length := by simp only [List.length_cons, List.length_nil] at hl; omega
      subst ei
      rw [List.getElem?_append_right (by rw [S1.h.len]; exact Nat.le_refl _), S1.h.len, Nat.sub_self] at z2
      cases z2; exact lc.elim
  · obtain ⟨b, q, l, f', g', mm', cc⟩ := S1.s.ownAt z1
    rw [z2] at q; cases q
    have np : a ≠ p := fun z => no ⟨i, x, z1, z ▸ z2⟩
    refine ⟨f', fun n e => ?_, rfl⟩
    by_cases y : n < m.length
    · rw [List.getElem?_append_left y] at e; exact mm' n e
    · have hl := (List.getElem?_eq_some_iff.mp e).1
      rw [List.length_append] at hl
      have ei : n = m.length := by simp only [List.length_cons, List.length_nil] at hl; omega
      subst ei
      rw [List.getElem?_append_right (Nat.le_refl _), Nat.sub_self] at e
      cases e; exact np rfl
/-- the state with a cell changed -/
theorem Sim.cset {K : PySem.W.Frag} {F G : Hp} {m : List Addr} {A : AS} {σ : St} {H : Hp} {n : Nat} {p : Addr} {o : HO} {c c' : Cell} (S : Sim K F G m A σ H) (hm : m[n]? = some p) (hc : A.o[n]? = some c) (l : c.live) (l' : c'.live) (hx : CellAt K F m (upd H p o) p c') :
    Sim K F G m ⟨A.s, A.o.set n c'⟩ σ (upd H p o) := ⟨S.h.cset hm hc l l' hx, S.s.go (Evl.Ex.refl _) (Pre.refl _) fun i z a y1 y2 => by
    obtain ⟨b, qb, l, f', g', mm, cc⟩ := S.s.ownAt y1
    rw [y2] at qb; cases qb
    exact ⟨f', mm, upd_ne fun z => mm n (by rw [z]; exact hm)⟩⟩
section
variable {c : Ct} {A : AS} {te ta tb tl td ty tv : TE} {t u tt : TT} {x y : RV} {Q : QE} {nx bk ct : AS → Prop} {rt : List Cell → D → Prop}
theorem ptr_at {K : PySem.W.Frag} {F G : Hp} {m : List Addr} {A : AS} {σ : St} {H : Hp} {v : V} {n : Nat} {ce : Cell} (S : Sim K F G m A σ H) (R : Rep K F m v (.ptr n)) (hc : A.o[n]? = some ce) (l : ce.live) : ∃ a, v = .ref a ∧ m[n]? = some a ∧ CellAt K F m H a ce := by
  cases R with
  | ptr em => exact ⟨_, rfl, em, (S.h.cell n _ _ em hc l).2.2⟩
/-- d[k] -/
theorem we_dget (h : WE c td A fun A1 x => WE c ty A1 fun A2 y => ∃ n kvs dk k d, x = .val (.ptr n) ∧ A2.o[n]? = some (.dK kvs) ∧ y = .val dk ∧ keyD dk = some k ∧ valD kvs k = some d ∧ Q A2 (.val d)) : WE c (tDGet td ty) A Q := fun F G m σ H S E Qc kc =>
  h F G m σ H S E _ fun F1 m1 A1 v H1 x e1 p1 S1 R1 q1 => q1 F1 G m1 σ H1 S1 (E.mono e1 p1) _ fun F2 m2 A2 w H2 y e2 p2 S2 R2 ⟨n, kvs, dk, k, d, ex, hc, ey, hk, hv, q⟩ => by
    subst ex ey
    have R1' : Rep c.K F2 m2 v (.ptr n) := Rep.mono e2 p2 R1
    obtain ⟨a, rfl, hm, kv, ha, rk⟩ := ptr_at S2 R1' hc trivial
    have ek := keyD_ok (show Rep c.K F2 m2 w dk from R2) hk
    subst ek
    obtain ⟨v, hvv, rv⟩ := (rk.val k).1 d hv
    exact ⟨a, v, rfl, .inl ⟨kv, k, .inl ha, rfl, hvv.symm⟩, kc F2 m2 A2 v H2 (.val d) (e1.trans e2) (p1.trans p2) S2 rv q⟩
/-- k in d -/
theorem we_din (h : WE c ty A fun A1 y => WE c td A1 fun A2 x => ∃ n kvs dk k, x = .val (.ptr n) ∧ A2.o[n]? = some (.dK kvs) ∧ y = .val dk ∧ keyD dk = some k ∧ Q A2 (.val (.bl (valD kvs k).isSome))) : WE c (tDIn ty td) A Q := fun F G m σ H S E Qc kc =>
  h F G m σ H S E _ fun F1 m1 A1 w H1 y e1 p1 S1 R1 q1 => q1 F1 G m1 σ H1 S1 (E.mono e1 p1) _ fun F2 m2 A2 v H2 x e2 p2 S2 R2 ⟨n, kvs, dk, k, ex, hc, ey, hk, q⟩ => by
    subst ex ey
    obtain ⟨a, rfl, hm, kv, ha, rk⟩ := ptr_at S2 R2 hc trivial
    have ek := keyD_ok (show Rep c.K F1 m1 w dk from R1) hk
    subst ek
    refine ⟨a, valV kv k, rfl, .inl ⟨kv, k, .inl ha, rfl, rfl⟩, kc F2 m2 A2 _ H2 (.val (.bl (valD kvs k).isSome)) (e1.trans e2) (p1.trans p2) S2 ?_ q⟩
    have : (valV kv k).isSome = (valD kvs k).isSome := by
      cases z : valD kvs k with
      | none => rw [(rk.val k).2 z]; rfl
      | some d => obtain ⟨v, hv, _⟩ := (rk.val k).1 d z; rw [hv]; rfl
    rw [this]; exact .bl _
theorem we_dnin (h : WE c ty A fun A1 y => WE c td A1 fun A2 x => ∃ n kvs dk k, x = .val (.ptr n) ∧ A2.o[n]? = some (.dK kvs) ∧ y = .val dk ∧ keyD dk = some k ∧ Q A2 (.val (.bl (!(valD kvs k).isSome)))) : WE c (tDNotIn ty td) A Q := fun F G m σ H S E Qc kc =>
  h F G m σ H S E _ fun F1 m1 A1 w H1 y e1 p1 S1 R1 q1 => q1 F1 G m1 σ H1 S1 (E.mono e1 p1) _ fun F2 m2 A2 v H2 x e2 p2 S2 R2 ⟨n, kvs, dk, k, ex, hc, ey, hk, q⟩ => by
    subst ex ey
    obtain ⟨a, rfl, hm, kv, ha, rk⟩ := ptr_at S2 R2 hc trivial
    have ek := keyD_ok (show Rep c.K F1 m1 w dk from R1) hk
    subst ek
    refine ⟨a, valV kv k, rfl, .inl ⟨kv, k, .inl ha, rfl, rfl⟩, kc F2 m2 A2 _ H2 (.val (.bl (!(valD kvs k).isSome))) (e1.trans e2) (p1.trans p2) S2 ?_ q⟩
    have : (valV kv k).isSome = (valD kvs k).isSome := by
      cases z : valD kvs k with
      | none => rw [(rk.val k).2 z]; rfl
      | some d => obtain ⟨v, hv, _⟩ := (rk.val k).1 d z; rw [hv]; rfl
    rw [this]; exact .bl _
/-- d[k] = e -/
theorem vs_dput (h : WE c tv A fun A0 r => Frz A0 r fun A1 d => WE c td A1 fun A2 x => WE c ty A2 fun A3 y => ∃ n kvs dk k, x = .val (.ptr n) ∧ A3.o[n]? = some (.dK kvs) ∧ y = .val dk ∧ keyD dk = some k ∧ kvs.length < 100000 ∧ nx ⟨A3.s, A3.o.set n (.dK (putKD kvs k d))⟩) :
    WS c (sDPut td ty tv) A ⟨nx, rt, bk, ct⟩ := fun F G m σ H S E Dc kc => (WE.frz h) F G m σ H S E _ fun F0 m0 A0 v0 H0 r e0 p0 S0 R0 ⟨d, er, q0⟩ => by
  subst er
  refine q0 F0 G m0 σ H0 S0 (E.mono e0 p0) _ fun F1 m1 A1 v H1 x e1 p1 S1 R1 q1 => q1 F1 G m1 σ H1 S1 (E.mono (e0.trans e1) (p0.trans p1)) _ fun F2 m2 A2 w H2 y e2 p2 S2 R2 ⟨n, kvs, dk, k, ex, hc, ey, hk, hl, q⟩ => ?_
  subst ex ey
  have R1' : Rep c.K F2 m2 v (.ptr n) := Rep.mono e2 p2 R1
  have R0' : Rep c.K F2 m2 v0 d := Rep.mono (e1.trans e2) (p1.trans p2) R0
  obtain ⟨a, rfl, hm, kv, ha, rk⟩ := ptr_at S2 R1' hc trivial
  have ek := keyD_ok (show Rep c.K F2 m2 w dk from R2) hk
  subst ek
  refine ⟨a, _, rfl, .inl ⟨kv, k, ha, rfl, Nat.lt_of_lt_of_le (by rw [rk.len]; exact hl) (by decide), rfl⟩, kc.nx F2 m2 ⟨A2.s, A2.o.set n (.dK (putKD kvs k d))⟩ σ _ ((e0.trans e1).trans e2) ((p0.trans p1).trans p2) (S2.cset (c' := .dK (putKD kvs k d)) hm hc trivial trivial ⟨_, upd_same, rk.put R0' k⟩) q⟩
/-- {} -/
theorem we_dnewK (q : Q ⟨A.s, A.o ++ [.dK []]⟩ (.val (.ptr A.o.length))) : WE c tDNewK A Q := fun F G m σ H S E Qc kc p hp => by
  obtain ⟨f, g, mm⟩ := S.h.fresh hp
  exact kc F (m ++ [p]) ⟨A.s, A.o ++ [.dK []]⟩ (.ref p) _ (.val (.ptr A.o.length)) (Evl.Ex.refl _) Pre.app ((S.new (o := .dK []) hp).addCell (c := .dK []) f g mm (S.notOwn hp) ⟨_, upd_same⟩ trivial ⟨[], upd_same, .nil⟩) (show Rep c.K _ _ _ _ from .ptr (by rw [← S.h.len, List.getElem?_append_right (Nat.le_refl _), Nat.sub_self]; rfl)) q
/-- the pairs of a display, by their texts' keys -/
def WPs (c : Ct) : List (TE × TE) → AS → (AS → List (Key × D) → Prop) → Prop
  | [], A, Q => Q A []
  | (tk, tv) :: r, A, Q => WE c tk A fun A1 x => ∃ dk k, x = .val dk ∧ keyD dk = some k ∧ WE c tv A1 fun A2 y => Frz A2 y fun A3 d => WPs c r A3 fun A4 kvs => Q A4 ((k, d) :: kvs)
theorem wps_ok : ∀ (trs : List (TE × TE)) {A : AS} {Q : AS → List (Key × D) → Prop}, WPs c trs A Q → ∀ F G m σ H, Sim c.K F G m A σ H → EOk c F G m → ∀ Qc : List (V × V) → Hp → Prop,
    (∀ F' m' A' kv kvs H', Ex F F' → Pre m m' → Sim c.K F' G m' A' σ H' → RepK c.K F' m' kv kvs → Q A' kvs → Qc (kv.map fun kv => (kV kv.1, kv.2)) H') → tPairs trs σ H Qc
  | [], A, Q, h, F, G, m, σ, H, S, E, Qc, kc => kc F m A [] [] H (Evl.Ex.refl _) (Pre.refl _) S .nil h
  | (tk, tv) :: r, A, Q, h, F, G, m, σ, H, S, E, Qc, kc => h F G m σ H S E _ fun F1 m1 A1 v H1 x e1 p1 S1 R1 ⟨dk, k, ex, hk, q1⟩ => by
    subst ex
    have ek := keyD_ok (show Rep c.K F1 m1 v dk from R1) hk
    subst ek
    refine (WE.frz q1) F1 G m1 σ H1 S1 (E.mono e1 p1) _ fun F2 m2 A2 w H2 y e2 p2 S2 R2 ⟨d, ey, q2⟩ => ?_
    subst ey
    refine wps_ok r q2 F2 G m2 σ H2 S2 (E.mono (e1.trans e2) (p1.trans p2)) _ fun F3 m3 A3 kv kvs H3 e3 p3 S3 R3 q3 => ?_
    exact kc F3 m3 A3 ((k, w) :: kv) ((k, d) :: kvs) H3 ((e1.trans e2).trans e3) ((p1.trans p2).trans p3) S3 (.cons (Rep.mono e3 p3 R2) R3) q3
def mergeKD (kvs more : List (Key × D)) : List (Key × D) := more.foldl (fun acc kv => putKD acc kv.1 kv.2) kvs
theorem RepK.merge {K : PySem.W.Frag} {F : Hp} {m : List Addr} : ∀ {more : List (Key × V)} {mored : List (Key × D)} {kv : List (Key × V)} {kd : List (Key × D)}, RepK K F m more mored → RepK K F m kv kd → RepK K F m (mergeK kv more) (mergeKD kd mored)
  | _, _, _, _, .nil, h => h
  | _, _, _, _, .cons (k := k) (v := v) (d := d) (vs := vs) (ds := ds) a r, h => show RepK K F m (mergeK (putK _ k v) vs) (mergeKD (putKD _ k d) ds) from RepK.merge r (h.put a _)
/-- {k: v, ..} -/
theorem we_disp {trs : List (TE × TE)} (h : WPs c trs A fun A1 kvs => kvs.length ≤ 15 ∧ Q ⟨A1.s, A1.o ++ [.dK (mergeKD [] kvs)]⟩ (.val (.ptr A1.o.length))) : WE c (tDisp trs) A Q := fun F G m σ H S E Qc kc p hp => by
  have gp : G p = none := (S.h.fresh hp).2.1
  have sub : ∀ (o : HO) a u, G a = some u → upd G p o a = some u := fun o a u e => by rw [upd_ne (ne_of_none e gp)]; exact e
  refine wps_ok trs h F (upd G p (.dK [])) m σ _ (S.addG hp) (E.weakG (sub _)) _ fun F1 m1 A1 kv kvs H1 e1 p1 S1 R1 ⟨hl, q⟩ => ?_
  have hH : H1 p = some (.dK []) := S1.h.exG p _ upd_same
  have fp : F1 p = none := by
    cases y : F1 p with
    | none => rfl
    | some u => have z := S1.h.dj p u y; rw [upd_same] at z; cases z
  have mp : ∀ n : Nat, m1[n]? ≠ some p := fun n e => by have z := S1.h.mG n p e; rw [upd_same] at z; cases z
  have np : ¬ IsOwn A1.s σ p := fun o => by have z := (S1.s.isOwn o).2.1; rw [upd_same] at z; cases z
  refine ⟨hH, kv, rfl, by rw [R1.len]; exact hl, ?_⟩
  have S2 : Sim c.K F1 G m1 A1 σ (upd H1 p (.dK (mergeK [] kv))) := (S1.setG (o' := .dK (mergeK [] kv))).weakG (sub _)
  exact kc F1 (m1 ++ [p]) ⟨A1.s, A1.o ++ [.dK (mergeKD [] kvs)]⟩ (.ref p) _ (.val (.ptr A1.o.length)) e1 (p1.trans Pre.app) (S2.addCell (c := .dK (mergeKD [] kvs)) fp gp mp np ⟨_, upd_same⟩ trivial ⟨_, upd_same, (RepK.merge (R1.mono (Evl.Ex.refl _) Pre.app) .nil)⟩)
    (show Rep c.K _ _ _ _ from .ptr (by rw [← S1.h.len, List.getElem?_append_right (Nat.le_refl _), Nat.sub_self]; rfl)) q
/-! ### lists that are cells -/
/-- xs[i] = e -/
theorem vs_setP (h : WE c te A fun A0 r => Frz A0 r fun A1 d => WE c tl A1 fun A2 x => WE c tb A2 fun A3 y => ∃ n ds, ∃ i : Int, ∃ j : Nat, x = .val (.ptr n) ∧ A3.o[n]? = some (.lst ds) ∧ y = .val (.int i) ∧ ixN ds.length i = some j ∧ nx ⟨A3.s, A3.o.set n (.lst (ds.set j d))⟩) :
    WS c (tAsg te (gSub tl tb rSetL)) A ⟨nx, rt, bk, ct⟩ := fun F G m σ H S E Dc kc => (WE.frz h) F G m σ H S E _ fun F0 m0 A0 v0 H0 r e0 p0 S0 R0 ⟨d, er, q0⟩ => by
  subst er
  refine q0 F0 G m0 σ H0 S0 (E.mono e0 p0) _ fun F1 m1 A1 v H1 x e1 p1 S1 R1 q1 => q1 F1 G m1 σ H1 S1 (E.mono (e0.trans e1) (p0.trans p1)) _ fun F2 m2 A2 w H2 y e2 p2 S2 R2 ⟨n, ds, i, j, ex, hc, ey, hj, q⟩ => ?_
  subst ex ey
  have R1' : Rep c.K F2 m2 v (.ptr n) := Rep.mono e2 p2 R1
  have R0' : Rep c.K F2 m2 v0 d := Rep.mono (e1.trans e2) (p1.trans p2) R0
  obtain ⟨a, rfl, hm, vs, ha, rv⟩ := ptr_at S2 R1' hc trivial
  cases R2
  exact ⟨a, vs, i, j, rfl, rfl, ha, by rw [rv.len]; exact hj, kc.nx F2 m2 ⟨A2.s, A2.o.set n (.lst (ds.set j d))⟩ σ _ ((e0.trans e1).trans e2) ((p0.trans p1).trans p2) (S2.cset (c' := .lst (ds.set j d)) hm hc trivial trivial ⟨_, upd_same, Reps.set R0' j rv⟩) q⟩
/-- xs.append(e) -/
theorem vs_appendP (h : WE c tl A fun A1 x => ∃ n ds0, x = .val (.ptr n) ∧ A1.o[n]? = some (.lst ds0) ∧ WE c te A1 fun A2 r => Frz A2 r fun A3 d => ∃ ds, A3.o[n]? = some (.lst ds) ∧ ds.length < 100000 ∧ nx ⟨A3.s, A3.o.set n (.lst (ds ++ [d]))⟩) :
    WS c (tDrop (tBM c.K "list" rAppend tl (tCons te tNil))) A ⟨nx, rt, bk, ct⟩ := fun F G m σ H S E Dc kc => h F G m σ H S E _ fun F1 m1 A1 v H1 x e1 p1 S1 R1 ⟨n, ds0, ex, hc0, q1⟩ => by
  subst ex
  obtain ⟨a, rfl, hm, vs0, ha0, _⟩ := ptr_at S1 R1 hc0 trivial
  refine ⟨.inl ⟨rfl, vs0, .inl (.inl ha0)⟩, (WE.frz q1) F1 G m1 σ H1 S1 (E.mono e1 p1) _ fun F2 m2 A2 w H2 r e2 p2 S2 R2 ⟨d, er, ds, hc, hl, q⟩ => ?_⟩
  subst er
  have R1' : Rep c.K F2 m2 (.ref a) (.ptr n) := Rep.mono e2 p2 R1
  obtain ⟨b, eb, hm2, vs, ha, rv⟩ := ptr_at S2 R1' hc trivial
  cases eb
  exact ⟨a, vs, w, rfl, rfl, ha, Nat.lt_of_lt_of_le (by rw [rv.len]; exact hl) (by decide), kc.nx F2 m2 ⟨A2.s, A2.o.set n (.lst (ds ++ [d]))⟩ σ _ (e1.trans e2) (p1.trans p2) (S2.cset (c' := .lst (ds ++ [d])) hm2 hc trivial trivial ⟨_, upd_same, rv.app (.cons R2 .nil)⟩) q⟩
end
end AL

namespace AL
open PySem L2 PySem.Spec PyProof.Rows
section
variable {X : Cx}
/-- xs[i], xs a list, by values -/
theorem get_list : PGet X (rIxL X.K) := by
  intro pins s σ H x y v u Q I rx ry h
  obtain ⟨p, xs, i, z, rfl, rfl, hq, he, q⟩ := h
  cases rx
  obtain ⟨t, rfl⟩ := ry
  obtain ⟨its, r, pl, hz⟩ := I.list hq
  obtain ⟨j, h1, h2, h3, h4, h5⟩ := atI_get he
  obtain ⟨w, ew, rw'⟩ := r.get h2
  have hl := r.length
  have hn := line63
  have fin : EP X pins σ Q w s := ⟨z, H, I, rw', q⟩
  by_cases h0 : 0 ≤ i
  · have hj : i.toNat = j := by
      rw [seqIndex_of h0 h5] at h1
      exact Option.some.inj h1
    exact wpAny_getItem_list pl.isList h0 (by omega) (by rw [hj]; simpa using ew) fin
  · have hj : (i + (its.toArray.size : Int)).toNat = j := by
      rw [seqIndex_neg (by omega) h4] at h1
      rw [List.size_toArray, ← hl]
      exact Option.some.inj h1
    exact wpAny_getItem_list_neg pl.isList (by omega) (by rw [List.size_toArray] <;> omega) (by omega) (by rw [hj]; simpa using ew) fin
end
theorem augK {X : Cx} {K : PySem.W.Frag} {st : Stmt} {to ti te : TE} {tip : TIp} (h : X.K = K) (p : PS X st (tAugS to ti te (rIxL X.K) tip rSetL)) : PS X st (tAugS to ti te (rIxL K) tip rSetL) := h ▸ p
section
variable {c : Ct} {A : AS} {te ta tb tl td ty tv : TE} {t u tt : TT} {x y : RV} {Q : QE} {nx bk ct : AS → Prop} {rt : List Cell → D → Prop}
/-- xs[i] += e and its kin, of ints -/
theorem vs_augP {f : Int → Int → Int} (h : WE c tl A fun A1 x => WE c tb A1 fun A2 y => ∃ n ds, ∃ i : Int, ∃ j : Nat, ∃ a : Int, x = .val (.ptr n) ∧ A2.o[n]? = some (.lst ds) ∧ y = .val (.int i) ∧ ixN ds.length i = some j ∧ ds[j]? = some (.int a) ∧
      WE c te A2 fun A3 r => ∃ b : Int, r = .val (.int b) ∧ ∃ ds', A3.o[n]? = some (.lst ds') ∧ ixN ds'.length i = some j ∧ nx ⟨A3.s, A3.o.set n (.lst (ds'.set j (.int (f a b))))⟩) :
    WS c (tAugS tl tb te (rIxL c.K) (ipI f) rSetL) A ⟨nx, rt, bk, ct⟩ := fun F G m σ H S E Dc kc => h F G m σ H S E _ fun F1 m1 A1 v H1 x e1 p1 S1 R1 q1 => q1 F1 G m1 σ H1 S1 (E.mono e1 p1) _ fun F2 m2 A2 w H2 y e2 p2 S2 R2 ⟨n, ds, i, j, a, ex, hc, ey, hj, hd, q2⟩ => by
  subst ex ey
  have R1' : Rep c.K F2 m2 v (.ptr n) := Rep.mono e2 p2 R1
  obtain ⟨ad, rfl, hm, vs, ha, rv⟩ := ptr_at S2 R1' hc trivial
  cases R2
  obtain ⟨va, hva, rva⟩ := rv.get hd
  cases rva
  refine ⟨ad, vs, i, _, rfl, rfl, .inl (.inl ha), by unfold atI; rw [rv.len, hj]; exact hva, q2 F2 G m2 σ H2 S2 (E.mono (e1.trans e2) (p1.trans p2)) _ fun F3 m3 A3 z H3 r e3 p3 S3 R3 ⟨b, er, ds', hc3, hj3, q3⟩ => ?_⟩
  subst er
  cases R3
  have R1'' : Rep c.K F3 m3 (.ref ad) (.ptr n) := Rep.mono e3 p3 R1'
  obtain ⟨ad', ed, hm3, vs3, ha3, rv3⟩ := ptr_at S3 R1'' hc3 trivial
  cases ed
  exact ⟨a, b, rfl, rfl, ad, vs3, i, j, rfl, rfl, ha3, by rw [rv3.len]; exact hj3, kc.nx F3 m3 ⟨A3.s, A3.o.set n (.lst (ds'.set j (.int (f a b))))⟩ σ _ ((e1.trans e2).trans e3) ((p1.trans p2).trans p3) (S3.cset (c' := .lst (ds'.set j (.int (f a b)))) hm3 hc3 trivial trivial ⟨_, upd_same, Reps.set (.int _) j rv3⟩) q3⟩
/-- name += e, of ints -/
theorem vs_augN {i : Nat} {f : Int → Int → Int} {a : Int} (h0 : A.s[i]? = some (some (.val (.int a)))) (h : WE c te A fun A1 r => ∃ b : Int, r = .val (.int b) ∧ nx (A1.setS i (.val (.int (f a b))))) : WS c (tAug i te (ipI f)) A ⟨nx, rt, bk, ct⟩ := fun F G m σ H S E Dc kc => by
  obtain ⟨v, e, r⟩ := S.s.valAt h0
  cases r
  refine ⟨_, e, h F G m σ H S E _ fun F1 m1 A1 w H1 r e1 p1 S1 R1 ⟨b, er, q⟩ => ?_⟩
  subst er
  cases R1
  exact ⟨a, b, rfl, rfl, kc.nx F1 m1 _ _ H1 e1 p1 (S1.setV (Rep.int _)) q⟩
/-- o.f += e, of ints; o a cell -/
theorem vs_fldaug {fn : Str} {rd : V → V → Hp → VK → Prop} {f : Int → Int → Int} (hr : ∀ (i j : Int) H Q, Q (V.int (f i j)) H → rd (.int i) (.int j) H Q) (h : WE c ta A fun A1 x => ∃ n C fs, ∃ a : Int, x = .val (.ptr n) ∧ A1.o[n]? = some (.ins C fs) ∧ Cls c.K C ∧ NoAttr c.K C fn ∧ fs.lookup fn = some (.int a) ∧
      WE c te A1 fun A2 r => ∃ b : Int, r = .val (.int b) ∧ ∃ fs', A2.o[n]? = some (.ins C fs') ∧ fs'.length < 900 ∧ nx ⟨A2.s, A2.o.set n (.ins C (putD fn (.int (f a b)) fs'))⟩) :
    WS c (sFldAug c.K ta te rd fn) A ⟨nx, rt, bk, ct⟩ := fun F G m σ H S E Dc kc => h F G m σ H S E _ fun F1 m1 A1 v H1 x e1 p1 S1 R1 ⟨n, C, fs, a, ex, hc, hC, hn, hl, q1⟩ => by
  subst ex
  obtain ⟨ad, rfl, hm, dx, fv, ha, rf⟩ := ptr_at S1 R1 hc trivial
  obtain ⟨w, hw, rw_⟩ := rf.look hl
  cases rw_
  refine ⟨ad, C, dx, fv, _, rfl, ha, hC, hn, hw, q1 F1 G m1 σ H1 S1 (E.mono e1 p1) _ fun F2 m2 A2 z H2 r e2 p2 S2 R2 ⟨b, er, fs', hc2, hlen, q2⟩ => ?_⟩
  subst er
  cases R2
  have R1' : Rep c.K F2 m2 (.ref ad) (.ptr n) := Rep.mono e2 p2 R1
  obtain ⟨ad', ed, hm2, dx2, fv2, ha2, rf2⟩ := ptr_at S2 R1' hc2 trivial
  cases ed
  refine hr a b _ _ ⟨dx2, fv2, ha2, by rw [rf2.len]; omega, kc.nx F2 m2 ⟨A2.s, A2.o.set n (.ins C (putD fn (.int (f a b)) fs'))⟩ σ _ (e1.trans e2) (p1.trans p2) (S2.cset (c' := .ins C (putD fn (.int (f a b)) fs')) hm2 hc2 trivial trivial ⟨dx2, _, upd_same, rf2.put (Rep.int _)⟩) q2⟩
theorem rAdd_ok (i j : Int) (H : Hp) (Q : VK) (q : Q (V.int (i + j)) H) : rAdd (.int i) (.int j) H Q := ⟨i, j, rfl, rfl, q⟩
theorem rSub_ok (i j : Int) (H : Hp) (Q : VK) (q : Q (V.int (i - j)) H) : rSub (.int i) (.int j) H Q := ⟨i, j, rfl, rfl, q⟩
/-- list(range(n)) -/
theorem wn_listRg {Q : AS → List D → Prop} (h : WE c te A fun A1 r => ∃ n : Int, r = .val (.int n) ∧ 0 ≤ n ∧ n ≤ 1000000 ∧ Q A1 (intsD 0 n.toNat)) : WN c (tLstRg (tRg1 te)) A Q := fun F G m σ H S E Qc kc => h F G m σ H S E _ fun F1 m1 A1 v H1 r e1 p1 S1 R1 ⟨n, er, h0, h1, q⟩ => by
  subst er
  cases R1
  refine ⟨n, rfl, RgOk.of_le (by omega) (by omega) (by omega) (by omega), fun p hp => kc F1 m1 A1 p _ _ _ e1 p1 (S1.new hp) (S1.h.fresh hp).1 (S1.h.fresh hp).2.1 (S1.h.fresh hp).2.2 (S1.notOwn hp) upd_same ?_ q⟩
  unfold rgV intsD
  rw [Int.sub_zero]
  have : ∀ xs : List Nat, Reps c.K F1 m1 (xs.map fun i => V.int (0 + (i : Nat))) (xs.map fun i => D.int (0 + (i : Nat))) := fun xs => by
    induction xs with
    | nil => exact .nil
    | cons x r ih => exact .cons (.int _) ih
  exact this _
end
theorem huOf {n : Nat} (h : n + 64 < cLine) : n + 1 < cLine := by omega
end AL
namespace AL
open PySem L2
section
variable {c : Ct} {A : AS} {te : TE} {tt : TT}
/-- a comprehension by an invariant of the cells and of what is made so far -/
theorem wn_lcI {wi : TI} {g : TG} {vs : List Nat} {Q : AS → List D → Prop} (hg : GOk g vs)
    (h : WI c wi A fun A1 ds => noOwnB A1.s vs = true ∧ ds.length < 100000 ∧ ∃ I : Nat → List Cell → List D → Prop, I 0 A1.o [] ∧
      (∀ i d O acc, ds[i]? = some d → I i O acc → WG c g d ⟨wipeA A1.s vs, O⟩ fun A2 => WT c tt A2 fun A3 b => (b = true → WE c te A3 fun A4 r => Frz A4 r fun A5 e => I (i + 1) A5.o (acc ++ [e]) ∧ ∀ j, j ∉ vs → A5.s[j]? = A1.s[j]?) ∧
        (b = false → I (i + 1) A3.o acc ∧ ∀ j, j ∉ vs → A3.s[j]? = A1.s[j]?)) ∧ ∀ O acc, I ds.length O acc → Q ⟨A1.s, O⟩ acc) :
    WN c (tLc wi g tt te vs) A Q := fun F G m σ H S E Qc k => h F G m σ H S E _ fun F1 m1 A1 J H1 ds e1 p1 S1 RJ ⟨no', hlen, I, hI0, hs, hd⟩ => by
  have no := noOwn_of no'
  intro Dl hD
  have gD : G Dl = none := (S1.h.fresh hD).2.1
  have sub : ∀ (o : HO) a u, G a = some u → upd G Dl o a = some u := fun o a u e => by rw [upd_ne (ne_of_none e gD)]; exact e
  have nD := S1.notOwn hD
  refine ⟨fun i n H2 => n = ds.length - i ∧ i ≤ ds.length ∧ ∃ F2 m2 acc accD O, Ex F1 F2 ∧ Pre m1 m2 ∧ Sim c.K F2 (upd G Dl (.lst acc)) m2 ⟨A1.s, O⟩ σ H2 ∧ Reps c.K F2 m2 acc accD ∧ I i O accD ∧ accD.length ≤ i,
    ⟨_, rfl, Nat.zero_le _, F1, m1, [], [], A1.o, Evl.Ex.refl _, Pre.refl _, S1.addG hD, .nil, hI0, Nat.le_refl _⟩, fun i n H2 hw => ?_⟩
  obtain ⟨rfl, hi, F2, m2, acc, accD, O, e2, p2, S2, R2, q2, la⟩ := hw
  obtain ⟨r1, r2⟩ := RJ F2 _ m2 ⟨A1.s, O⟩ σ H2 e2 p2 S2 i
  have hacc : acc.length ≤ i := by rw [R2.len]; exact la
  by_cases hl : i < ds.length
  · obtain ⟨g1, g2⟩ := r1 _ (List.getElem?_eq_getElem hl)
    refine .inr ⟨g1, fun H3 => i + 1 ≤ ds.length ∧ ∃ F2 m2 acc accD O, Ex F1 F2 ∧ Pre m1 m2 ∧ Sim c.K F2 (upd G Dl (.lst acc)) m2 ⟨A1.s, O⟩ σ H3 ∧ Reps c.K F2 m2 acc accD ∧ I (i + 1) O accD ∧ accD.length ≤ i + 1, fun H3 hN => ⟨_, by omega, rfl, hN⟩, fun x H3 hy => ?_⟩
    obtain ⟨F3, e3, S3, R3⟩ := g2 x H3 hy
    have E3 : EOk c F3 (upd G Dl (.lst acc)) m2 := (E.weakG (sub _)).mono ((e1.trans e2).trans e3) (p1.trans p2)
    have S3w : Sim c.K F3 (upd G Dl (.lst acc)) m2 ⟨wipeA A1.s vs, O⟩ (wipe σ vs) H3 := ⟨S3.h, S3.s.wipe vs⟩
    have ww : wipe (wipe σ vs) vs = wipe σ vs := by
      apply List.ext_getElem?
      intro j
      by_cases hj : j ∈ vs
      · have z : ∀ (us : List Nat) (τ : St), j ∈ us → (wipe τ us)[j]? = if j < τ.length then some none else none := fun us => by
          induction us with
          | nil => intro τ h; cases h
          | cons u us ih =>
            intro τ h
            unfold wipe
            by_cases y : u = j
            · subst y
              by_cases hl : u < τ.length
              · rw [List.getElem?_set_self (by rw [wipe_length]; exact hl), if_pos hl]
              · rw [if_neg hl, List.getElem?_eq_none (by rw [List.length_set, wipe_length]; omega)]
            · rw [List.getElem?_set_ne y]
              exact ih τ (by simpa [show ¬ j = u from fun z => y z.symm] using h)
        rw [z vs _ hj, z vs _ hj, wipe_length]
      · rw [wipe_not hj]
    have hgx := hg x (wipe σ vs) H3 (fun σ2 H4 => tt σ2 H4 fun b H5 => if b = true then te σ2 H5 fun y H6 => ∃ acc', H6 Dl = some (.lst acc') ∧ acc'.length < sizeLine ∧ (i + 1 ≤ ds.length ∧ ∃ F2 m2 acc accD O, Ex F1 F2 ∧ Pre m1 m2 ∧ Sim c.K F2 (upd G Dl (.lst acc)) m2 ⟨A1.s, O⟩ σ (upd H6 Dl (.lst (acc' ++ [y]))) ∧ Reps c.K F2 m2 acc accD ∧ I (i + 1) O accD ∧ accD.length ≤ i + 1) else
      (i + 1 ≤ ds.length ∧ ∃ F2 m2 acc accD O, Ex F1 F2 ∧ Pre m1 m2 ∧ Sim c.K F2 (upd G Dl (.lst acc)) m2 ⟨A1.s, O⟩ σ H5 ∧ Reps c.K F2 m2 acc accD ∧ I (i + 1) O accD ∧ accD.length ≤ i + 1))
    rw [ww] at hgx
    refine hgx (hs i _ O accD (List.getElem?_eq_getElem hl) q2 F3 _ m2 (wipe σ vs) H3 x S3w R3 E3 _ fun F4 m4 A4 σ4 H4 e4 p4 S4 q4 ew => ?_)
    have x4 := e2.trans (e3.trans e4)
    have y4 := p2.trans p4
    refine q4 F4 _ m4 σ4 H4 S4 (E3.mono e4 p4) _ fun F5 m5 A5 b H5 e5 p5 S5 q5 => ?_
    cases b with
    | false =>
      obtain ⟨h1, h3⟩ := q5.2 rfl
      show i + 1 ≤ ds.length ∧ _
      exact ⟨hl, F5, m5, acc, accD, A5.o, x4.trans e5, y4.trans p5, S2.unwipeO S5 (e3.trans (e4.trans e5)) (p4.trans p5) h3 ew no, R2.mono (e3.trans (e4.trans e5)) (p4.trans p5), h1, by omega⟩
    | true =>
      show te σ4 H5 _
      refine (WE.frz (q5.1 rfl)) F5 _ m5 σ4 H5 S5 (E3.mono (e4.trans e5) (p4.trans p5)) _ fun F6 m6 A6 y H6 r e6 p6 S6 R6 q6 => ?_
      obtain ⟨d, er, h1, h3⟩ := q6
      subst er
      have z6 := e3.trans (e4.trans (e5.trans e6))
      have w6 := p4.trans (p5.trans p6)
      refine ⟨acc, S6.h.exG Dl _ upd_same, Nat.lt_of_le_of_lt hacc (Nat.lt_of_lt_of_le (Nat.lt_trans hl hlen) (by decide)), hl, F6, m6, acc ++ [y], accD ++ [d], A6.o, e2.trans z6, p2.trans w6, (S2.unwipeO S6 z6 w6 h3 ew no : Sim c.K F6 _ m6 ⟨A1.s, A6.o⟩ σ _).setG, (R2.mono z6 w6).app (.cons R6 .nil), h1, by rw [List.length_append, List.length_singleton]; omega⟩
  · have ei : i = ds.length := by omega
    subst ei
    have gs := S2.h.exG Dl _ upd_same
    have fD : F2 Dl = none := by
      cases y : F2 Dl with
      | none => rfl
      | some u => have z := S2.h.dj Dl u y; rw [upd_same] at z; cases z
    exact .inl ⟨r2 (Nat.le_refl _), k F2 m2 ⟨A1.s, O⟩ Dl acc H2 _ (e1.trans e2) (p1.trans p2) (S2.weakG (sub _)) fD gD (fun n e => by have z := S2.h.mG n Dl e; rw [upd_same] at z; cases z) nD gs R2 (hd O accD q2)⟩
end
end AL
namespace AL
open PySem L2
section
variable {c : Ct} {A : AS} {te td ty tv tk : TE} {Q : QE}
theorem vs_seqDP {td ty tv : TE} {t2 : TS} {nx bk ct : AS → Prop} {rt : List Cell → D → Prop} (h : WS c (sDPut td ty tv) A ⟨fun A1 => WS c t2 A1 ⟨nx, rt, bk, ct⟩, rt, bk, ct⟩) : WS c (tSeq (sDPut td ty tv) t2) A ⟨nx, rt, bk, ct⟩ := ws_seq h
theorem vs_seqAS {to ti te : TE} {tget : V → V → Hp → VK → Prop} {tip : TIp} {tset : TSet} {t2 : TS} {nx bk ct : AS → Prop} {rt : List Cell → D → Prop} (h : WS c (tAugS to ti te tget tip tset) A ⟨fun A1 => WS c t2 A1 ⟨nx, rt, bk, ct⟩, rt, bk, ct⟩) : WS c (tSeq (tAugS to ti te tget tip tset) t2) A ⟨nx, rt, bk, ct⟩ := ws_seq h
theorem vs_seqFA {K : PySem.W.Frag} {ta tv : TE} {rd : V → V → Hp → VK → Prop} {f : Str} {t2 : TS} {nx bk ct : AS → Prop} {rt : List Cell → D → Prop} (h : WS c (sFldAug K ta tv rd f) A ⟨fun A1 => WS c t2 A1 ⟨nx, rt, bk, ct⟩, rt, bk, ct⟩) : WS c (tSeq (sFldAug K ta tv rd f) t2) A ⟨nx, rt, bk, ct⟩ := ws_seq h
theorem vs_seqAN {i : Nat} {te : TE} {ti : TIp} {t2 : TS} {nx bk ct : AS → Prop} {rt : List Cell → D → Prop} (h : WS c (tAug i te ti) A ⟨fun A1 => WS c t2 A1 ⟨nx, rt, bk, ct⟩, rt, bk, ct⟩) : WS c (tSeq (tAug i te ti) t2) A ⟨nx, rt, bk, ct⟩ := ws_seq h
theorem wps_nil {Q : AS → List (Key × D) → Prop} (q : Q A []) : WPs c [] A Q := q
theorem wps_cons {r : List (TE × TE)} {Q : AS → List (Key × D) → Prop} (h : WE c tk A fun A1 x => ∃ dk k, x = .val dk ∧ keyD dk = some k ∧ WE c tv A1 fun A2 y => Frz A2 y fun A3 d => WPs c r A3 fun A4 kvs => Q A4 ((k, d) :: kvs)) : WPs c ((tk, tv) :: r) A Q := h
theorem key_go {dk : D} {k : Key} {P : Key → Prop} (hk : keyD dk = some k) (q : P k) : ∃ dk' k', RV.val dk = .val dk' ∧ keyD dk' = some k' ∧ P k' := ⟨dk, k, rfl, hk, q⟩
theorem dget_go {O : List Cell} {n : Nat} {kvs : List (Key × D)} {dk : D} {k : Key} {d : D} {P : D → Prop} (hc : O[n]? = some (.dK kvs)) (hk : keyD dk = some k) (hv : valD kvs k = some d) (q : P d) :
    ∃ n' kvs' dk' k' d', RV.val (.ptr n) = .val (.ptr n') ∧ O[n']? = some (.dK kvs') ∧ RV.val dk = .val dk' ∧ keyD dk' = some k' ∧ valD kvs' k' = some d' ∧ P d' := ⟨n, kvs, dk, k, d, rfl, hc, rfl, hk, hv, q⟩
theorem din_go {O : List Cell} {n : Nat} {kvs : List (Key × D)} {dk : D} {k : Key} {P : List (Key × D) → Key → Prop} (hc : O[n]? = some (.dK kvs)) (hk : keyD dk = some k) (q : P kvs k) :
    ∃ n' kvs' dk' k', RV.val (.ptr n) = .val (.ptr n') ∧ O[n']? = some (.dK kvs') ∧ RV.val dk = .val dk' ∧ keyD dk' = some k' ∧ P kvs' k' := ⟨n, kvs, dk, k, rfl, hc, rfl, hk, q⟩
theorem vs_dputN {nx bk ct : AS → Prop} {rt : List Cell → D → Prop} (h : WE c tv A fun A0 r => Frz A0 r fun A1 d => WE c td A1 fun A2 x => WE c ty A2 fun A3 y => ∃ n kvs dk k kv2, x = .val (.ptr n) ∧ A3.o[n]? = some (.dK kvs) ∧ y = .val dk ∧ keyD dk = some k ∧ kvs.length < 100000 ∧ putKD kvs k d = kv2 ∧ nx ⟨A3.s, A3.o.set n (.dK kv2)⟩) :
    WS c (sDPut td ty tv) A ⟨nx, rt, bk, ct⟩ := vs_dput (h.imp fun A0 r z => frz_imp z fun A1 d z => z.imp fun A2 x z => z.imp fun A3 y ⟨n, kvs, dk, k, kv2, h1, h2, h3, h4, h5, h6, h7⟩ => ⟨n, kvs, dk, k, h1, h2, h3, h4, h5, by rw [h6]; exact h7⟩)
theorem dput_go {O : List Cell} {n : Nat} {kvs kv2 : List (Key × D)} {dk d : D} {k : Key} {P : Nat → List (Key × D) → Prop} (hc : O[n]? = some (.dK kvs)) (hk : keyD dk = some k) (hl : kvs.length < 100000) (hp : putKD kvs k d = kv2) (q : P n kv2) :
    ∃ n' kvs' dk' k' kv2', RV.val (.ptr n) = .val (.ptr n') ∧ O[n']? = some (.dK kvs') ∧ RV.val dk = .val dk' ∧ keyD dk' = some k' ∧ kvs'.length < 100000 ∧ putKD kvs' k' d = kv2' ∧ P n' kv2' := ⟨n, kvs, dk, k, kv2, rfl, hc, rfl, hk, hl, hp, q⟩
theorem getset {O : List Cell} {n : Nat} {x : Cell} (h : n < O.length) : (O.set n x)[n]? = some x := by rw [List.getElem?_set_self h]
theorem getset_ne {O : List Cell} {n m : Nat} {x : Cell} (h : n ≠ m) : (O.set n x)[m]? = O[m]? := List.getElem?_set_ne h
theorem getset_go {O : List Cell} {n m : Nat} {x y : Cell} (h : n ≠ m) (q : O[m]? = some y) : (O.set n x)[m]? = some y := by rw [List.getElem?_set_ne h]; exact q
end
end AL
local macro_rules | `(tactic| walk_at "put") => `(tactic| rfl)
local macro_rules | `(tactic| walk_at "cell") => `(tactic| first | assumption | (refine AL.getset ?_; first | omega | (simp only [AL.AS.setS, List.length_set]; omega)) | (refine AL.getset_go ?_ ?_; (first | omega | assumption | (apply Ne.symm; assumption)); walk_at "cell") | rfl)
local macro_rules | `(tactic| walk_at "am1") => `(tactic| (with_reducible first
  | refine' AL.vs_seqDP ?_
  | refine' AL.vs_seqAS ?_
  | refine' AL.vs_seqFA ?_
  | refine' AL.vs_seqAN ?_
  | refine AL.we_dget ?_
  | refine AL.we_din ?_
  | refine AL.we_dnin ?_
  | refine AL.vs_dputN ?_
  | refine AL.we_disp ?_
  | refine AL.wps_cons ?_
  | refine AL.wps_nil ?_))
local macro_rules | `(tactic| walk_at "am2") => `(tactic| first
  | ((with_reducible refine' AL.dget_go ?hc ?hk ?hv ?_); (case hc => walk_at "cell"); (case hk => rfl); (case hv => rfl))
  | ((with_reducible refine' AL.din_go ?hc ?hk ?_); (case hc => walk_at "cell"); (case hk => rfl))
  | ((with_reducible refine' AL.dput_go ?hc ?hk ?hl ?hp ?_); (case hc => walk_at "cell"); (case hk => rfl); (case hl => exact Nat.le_of_ble_eq_true rfl); (case hp => walk_at "put"))
  | ((with_reducible refine' AL.key_go ?hk ?_); (case hk => rfl)))
local macro_rules | `(tactic| walk_at "alm") => `(tactic| ((repeat (first | walk_at "als1" | walk_at "am1" | walk_at "am2" | walk_at "al2")); all_goals (try dsimp only [AL.as_eta])))
local macro_rules | `(tactic| walk_at "almn") => `(tactic| ((repeat (first | walk_at "als1" | walk_at "am1" | walk_at "am2" | walk_at "aln1" | walk_at "al2")); all_goals (try dsimp only [AL.as_eta])))
namespace AL
open PySem L2
section
variable {c : Ct} {A : AS} {te td ty tv tk ta tb tl : TE} {Q : QE}
theorem lsC {A : AS} {n : Nat} {ds : List D} (hc : A.o[n]? = some (.lst ds)) : lsOf A (.val (.ptr n)) = some ds := by simp only [lsOf, hc]
theorem od_ixC {n : Nat} {ns : List Int} {i : Int} (hc : A.o[n]? = some (.lst (ns.map .int))) (h0 : 0 ≤ i) (h1 : i < (ns.length : Int)) (q : Q A (.val (.int (ns.getD i.toNat 0)))) : OpD c (L2.rIx c.K) (.val (.ptr n)) (.val (.int i)) A Q := od_ixI (lsC hc) h0 h1 q
theorem od_ixCn {n : Nat} {ns : List Int} {j : Nat} (hc : A.o[n]? = some (.lst (ns.map .int))) (h1 : j < ns.length) (q : Q A (.val (.int (ns.getD j 0)))) : OpD c (L2.rIx c.K) (.val (.ptr n)) (.val (.int (j : Nat))) A Q := od_ixC hc (by omega) (by omega) (by rw [Int.toNat_natCast]; exact q)
theorem od_ixVn {ns : List Int} {j : Nat} (h1 : j < ns.length) (q : Q A (.val (.int (ns.getD j 0)))) : OpD c (L2.rIx c.K) (.val (.tup (ns.map .int))) (.val (.int (j : Nat))) A Q := od_ixT rfl (atI_ints (by omega) (by omega)) (by rw [Int.toNat_natCast]; exact q)
theorem od_ixLn {ns : List Int} {j : Nat} (h1 : j < ns.length) (q : Q A (.val (.int (ns.getD j 0)))) : OpD c (L2.rIx c.K) (.val (.lst (ns.map .int))) (.val (.int (j : Nat))) A Q := od_ixI rfl (by omega) (by omega) (by rw [Int.toNat_natCast]; exact q)
theorem cb_tupC {n : Nat} {ds : List D} (hc : A.o[n]? = some (.lst ds)) (q : Q A (.val (.tup ds))) : CbD c (rTupP c.K) [.val (.ptr n)] A Q := cb_tupL (lsC hc) q
theorem cn_listC {n : Nat} {ds : List D} {Q : AS → List D → Prop} (hc : A.o[n]? = some (.lst ds)) (q : Q A ds) : CbN c (rListA c.K) [.val (.ptr n)] A Q := cn_listL (lsC hc) q
theorem cb_lenC {n : Nat} {ds : List D} (hc : A.o[n]? = some (.lst ds)) (q : Q A (.val (.int (ds.length : Int)))) : CbD c (rLenA c.K) [.val (.ptr n)] A Q := cb_lenL (lsC hc) q
theorem setP_go {O : List Cell} {n : Nat} {ds : List D} {i : Int} {j : Nat} {P : Nat → List D → Nat → Prop} (hc : O[n]? = some (.lst ds)) (hj : ixN ds.length i = some j) (q : P n ds j) :
    ∃ n' ds', ∃ i' : Int, ∃ j' : Nat, RV.val (.ptr n) = .val (.ptr n') ∧ O[n']? = some (.lst ds') ∧ RV.val (.int i) = .val (.int i') ∧ ixN ds'.length i' = some j' ∧ P n' ds' j' := ⟨n, ds, i, j, rfl, hc, rfl, hj, q⟩
theorem insC {A : AS} {n : Nat} {C : Addr} {fs : List (Str × D)} (hc : A.o[n]? = some (.ins C fs)) : insOf A (.val (.ptr n)) = some (C, fs) := by simp only [insOf, hc]
theorem fld_goC {n : Nat} {f : Str} {P : D → Prop} {C : Addr} {fs : List (Str × D)} {d : D} (hc : A.o[n]? = some (.ins C fs)) (hC : Cls c.K C) (hn : NoAttr c.K C f) (hl : fs.lookup f = some d) (q : P d) : ∃ C fs d, insOf A (.val (.ptr n)) = some (C, fs) ∧ Cls c.K C ∧ NoAttr c.K C f ∧ fs.lookup f = some d ∧ P d := ⟨C, fs, d, insC hc, hC, hn, hl, q⟩
theorem mth_goC {n : Nat} {C : Addr} {mm : Str} {fs : List (Str × D)} {P : D → Prop} (hc : A.o[n]? = some (.ins C fs)) (hl : fs.lookup mm = none) (p : P (.ptr n)) : ∃ d' fs, RV.val (.ptr n) = .val d' ∧ insOf A (.val d') = some (C, fs) ∧ fs.lookup mm = none ∧ P d' := ⟨_, fs, rfl, insC hc, hl, p⟩
theorem prp_goC {n : Nat} {C : Addr} {fs : List (Str × D)} {P : D → Prop} (hc : A.o[n]? = some (.ins C fs)) (p : P (.ptr n)) : ∃ d' fs, RV.val (.ptr n) = .val d' ∧ insOf A (.val d') = some (C, fs) ∧ P d' := ⟨_, fs, rfl, insC hc, p⟩
end
end AL
local macro_rules | `(tactic| walk_at "am1") => `(tactic| (with_reducible first
  | refine AL.vs_setP ?_
  | refine AL.vs_augP ?_
  | refine AL.wn_listRg ?_))
local macro_rules | `(tactic| walk_at "am2") => `(tactic| first
  | ((with_reducible refine' AL.od_ixCn ?hc ?h1 ?_); (case hc => walk_at "cell"); (case h1 => omega))
  | ((with_reducible refine' AL.od_ixVn ?h1 ?_); (case h1 => omega))
  | ((with_reducible refine' AL.od_ixLn ?h1 ?_); (case h1 => omega))
  | ((with_reducible refine' AL.od_ixC ?hc ?h0 ?h1 ?_); (case hc => walk_at "cell"); (case h0 => omega); (case h1 => omega))
  | ((with_reducible refine' AL.fld_goC ?hc ?hC ?hn ?hl ?_); (case hc => walk_at "cell"); (case hC => assumption); (case hn => assumption); (case hl => rfl))
  | ((with_reducible refine' AL.mth_goC ?hc ?hl ?_); (case hc => walk_at "cell"); (case hl => rfl))
  | ((with_reducible refine' AL.prp_goC ?hc ?_); (case hc => walk_at "cell"))
  | ((with_reducible refine' AL.cb_tupC ?hc ?_); (case hc => walk_at "cell"))
  | ((with_reducible refine' AL.cn_listC ?hc ?_); (case hc => walk_at "cell"))
  | ((with_reducible refine' AL.cb_lenC ?hc ?_); (case hc => walk_at "cell")))
local macro_rules | `(tactic| walk_at "alsc1") => `(tactic| (with_reducible first
  | refine' AL.vs_seqA ?_
  | refine' AL.vs_seqD ?_
  | refine' AL.vs_seqO ?_
  | refine AL.vs_ret ?_
  | refine AL.vs_asg ?_
  | refine AL.vs_own ?_
  | refine AL.vs_next ?_
  | refine AL.frz_val ?_
  | refine AL.we_int ?_
  | refine AL.we_bl ?_
  | refine AL.we_non ?_
  | refine AL.we_str ?_
  | refine AL.we_op ?_
  | refine AL.we_cb ?_
  | refine AL.we_tup ?_
  | refine AL.we_call0 ?_
  | refine AL.we_meth ?_
  | refine AL.we_prop ?_
  | refine AL.we_fld ?_
  | refine AL.wa_nil ?_
  | refine AL.wa_cons ?_
  | refine AL.war_nil ?_
  | refine AL.war_cons ?_
  | refine AL.stays_val ?_
  | refine AL.od_add ?_
  | refine AL.od_sub ?_
  | refine AL.ex_int ?_))
local macro_rules | `(tactic| walk_at "almc") => `(tactic| ((repeat (first | walk_at "alsc1" | walk_at "am1" | walk_at "am2" | walk_at "al2")); all_goals (try dsimp only [AL.as_eta])))
local macro_rules | `(tactic| walk_at "fl") => `(tactic| try simp only [AL.as_eta, AL.AS.setS, AL.AS.wipe, AL.updS, AL.wipeA, AL.entry, List.set, List.map_cons, List.map_nil, List.length_cons, List.length_nil, List.replicate, List.cons_append, List.nil_append, Nat.reduceAdd, Nat.reduceSub, Nat.reduceLeDiff, Nat.sub_self, List.set_set])

/-! Dicts whose keys are tuples of ints, as cells. -/
namespace AL
open PySem L2 PySem.Spec PyProof.Rows
section
variable {K : PySem.W.Frag} {F : Hp} {m : List Addr}
theorem RepT.val : ∀ {kva : TK} {kd : List (List Int × D)} (k : List Int), RepT K F m kva kd → (∀ d, valD kd k = some d → ∃ v, valT kva k = some v ∧ Rep K F m v d) ∧ (valD kd k = none → valT kva k = none)
  | _, _, k, .nil => ⟨fun d h => by simp [valD] at h, fun _ => rfl⟩
  | _, _, k, .cons (k := k0) (b := b) (v := v) (d := d) (vs := vs) (ds := ds) hb a r => by
    by_cases e : k0 = k
    · have e1 : valD ((k0, d) :: ds) k = some d := by simp [valD, List.find?_cons, e]
      have e2 : valT ((k0, b, v) :: vs) k = some v := by simp [valT, List.find?_cons, e]
      rw [e1, e2]
      exact ⟨fun d' h => by cases h; exact ⟨v, rfl, a⟩, fun h => nomatch h⟩
    · have e1 : valD ((k0, d) :: ds) k = valD ds k := by simp [valD, List.find?_cons, e]
      have e2 : valT ((k0, b, v) :: vs) k = valT vs k := by simp [valT, List.find?_cons, e]
      rw [e1, e2]
      exact RepT.val k r
theorem RepT.some_eq {kva : TK} {kd : List (List Int × D)} (k : List Int) (r : RepT K F m kva kd) : (valT kva k).isSome = (valD kd k).isSome := by
  cases z : valD kd k with
  | none => rw [(r.val k).2 z]; rfl
  | some d => obtain ⟨v, hv, _⟩ := (r.val k).1 d z; rw [hv]; rfl
theorem RepT.keys : ∀ {kva : TK} {kd : List (List Int × D)}, RepT K F m kva kd → ∀ x ∈ kva, PTup K F x.2.1 (x.1.map .int)
  | _, _, .nil, x, h => nomatch h
  | _, _, .cons hb a r, x, h => by
    rcases List.mem_cons.mp h with e | h
    · subst e; exact hb
    · exact RepT.keys r x h
theorem RepT.len : ∀ {kva : TK} {kd : List (List Int × D)}, RepT K F m kva kd → kva.length = kd.length
  | _, _, .nil => rfl
  | _, _, .cons _ _ r => by rw [List.length_cons, List.length_cons, RepT.len r]
theorem RepT.any (k : List Int) : ∀ {kva : TK} {kd : List (List Int × D)}, RepT K F m kva kd → (kva.any fun x => decide (x.1 = k)) = (kd.any fun kv => decide (kv.1 = k))
  | _, _, .nil => rfl
  | _, _, .cons _ _ r => by rw [List.any_cons, List.any_cons, RepT.any k r]
theorem RepT.repl {y : V} {d : D} (x : Rep K F m y d) (k : List Int) : ∀ {kva : TK} {kd : List (List Int × D)}, RepT K F m kva kd → RepT K F m (kva.map fun x => if x.1 = k then (x.1, x.2.1, y) else x) (kd.map fun kv => if kv.1 = k then (kv.1, d) else kv)
  | _, _, .nil => .nil
  | _, _, .cons (k := k0) hb a r => by
    rw [List.map_cons, List.map_cons]
    by_cases e : k0 = k
    · rw [if_pos e, if_pos e]; exact .cons hb x (RepT.repl x k r)
    · rw [if_neg e, if_neg e]; exact .cons hb a (RepT.repl x k r)
theorem RepT.snoc {k : List Int} {b : Addr} {y : V} {d : D} (hb : PTup K F b (k.map .int)) (x : Rep K F m y d) : ∀ {kva : TK} {kd : List (List Int × D)}, RepT K F m kva kd → RepT K F m (kva ++ [(k, b, y)]) (kd ++ [(k, d)])
  | _, _, .nil => .cons hb x .nil
  | _, _, .cons hb' a r => .cons hb' a (RepT.snoc hb x r)
theorem RepT.put {k : List Int} {b : Addr} {y : V} {d : D} (hb : PTup K F b (k.map .int)) (x : Rep K F m y d) {kva : TK} {kd : List (List Int × D)} (r : RepT K F m kva kd) : RepT K F m (putT1 kva k b y) (putKD kd k d) := by
  unfold putT1 putKD
  rw [r.any k]
  split
  · exact r.repl x k
  · exact r.snoc hb x
theorem ints_V : ∀ {k : List Int} {vs : List V}, Reps K F m vs (k.map .int) → vs = k.map .int
  | [], _, .nil => rfl
  | _ :: _, _, .cons a r => by cases a; rw [List.map_cons, ints_V r]
theorem key_tup {v : V} {k : List Int} (R : Rep K F m v (.tup (k.map .int))) : ∃ b, v = .ref b ∧ PTup K F b (k.map .int) := by
  cases R with
  | tup h r => rw [ints_V r] at h; exact ⟨_, rfl, h⟩
end
section
variable {c : Ct} {A : AS} {td ty tv : TE} {Q : QE} {nx bk ct : AS → Prop} {rt : List Cell → D → Prop}
theorem we_tget (h : WE c td A fun A1 x => WE c ty A1 fun A2 y => ∃ n kvs k d, x = .val (.ptr n) ∧ A2.o[n]? = some (.dT kvs) ∧ y = .val (.tup (k.map .int)) ∧ valD kvs k = some d ∧ Q A2 (.val d)) : WE c (tTGet c.K td ty) A Q := fun F G m σ H S E Qc kc =>
  h F G m σ H S E _ fun F1 m1 A1 v H1 x e1 p1 S1 R1 q1 => q1 F1 G m1 σ H1 S1 (E.mono e1 p1) _ fun F2 m2 A2 w H2 y e2 p2 S2 R2 ⟨n, kvs, k, d, ex, hc, ey, hv, q⟩ => by
    subst ex ey
    have R1' : Rep c.K F2 m2 v (.ptr n) := Rep.mono e2 p2 R1
    obtain ⟨a, rfl, hm, kva, ha, rk⟩ := ptr_at S2 R1' hc trivial
    obtain ⟨b, rfl, hb⟩ := key_tup (show Rep c.K F2 m2 w (.tup (k.map .int)) from R2)
    obtain ⟨v, hvv, rv⟩ := (rk.val k).1 d hv
    exact ⟨a, v, rfl, ⟨kva, k, b, ha, fun x hx => (rk.keys x hx).mono S2.h.exF, rfl, hb.mono S2.h.exF, hvv.symm⟩, kc F2 m2 A2 v H2 (.val d) (e1.trans e2) (p1.trans p2) S2 rv q⟩
theorem we_tin (h : WE c ty A fun A1 y => WE c td A1 fun A2 x => ∃ n kvs k, x = .val (.ptr n) ∧ A2.o[n]? = some (.dT kvs) ∧ y = .val (.tup (k.map .int)) ∧ Q A2 (.val (.bl (valD kvs k).isSome))) : WE c (tTIn c.K ty td) A Q := fun F G m σ H S E Qc kc =>
  h F G m σ H S E _ fun F1 m1 A1 w H1 y e1 p1 S1 R1 q1 => q1 F1 G m1 σ H1 S1 (E.mono e1 p1) _ fun F2 m2 A2 v H2 x e2 p2 S2 R2 ⟨n, kvs, k, ex, hc, ey, q⟩ => by
    subst ex ey
    obtain ⟨a, rfl, hm, kva, ha, rk⟩ := ptr_at S2 R2 hc trivial
    obtain ⟨b, rfl, hb⟩ := key_tup (show Rep c.K F1 m1 w (.tup (k.map .int)) from R1)
    refine ⟨a, valT kva k, rfl, ⟨kva, k, b, ha, fun x hx => (rk.keys x hx).mono S2.h.exF, rfl, (hb.mono e2).mono S2.h.exF, rfl⟩, kc F2 m2 A2 _ H2 (.val (.bl (valD kvs k).isSome)) (e1.trans e2) (p1.trans p2) S2 ?_ q⟩
    rw [rk.some_eq k]; exact .bl _
theorem we_tnin (h : WE c ty A fun A1 y => WE c td A1 fun A2 x => ∃ n kvs k, x = .val (.ptr n) ∧ A2.o[n]? = some (.dT kvs) ∧ y = .val (.tup (k.map .int)) ∧ Q A2 (.val (.bl (!(valD kvs k).isSome)))) : WE c (tTNotIn c.K ty td) A Q := fun F G m σ H S E Qc kc =>
  h F G m σ H S E _ fun F1 m1 A1 w H1 y e1 p1 S1 R1 q1 => q1 F1 G m1 σ H1 S1 (E.mono e1 p1) _ fun F2 m2 A2 v H2 x e2 p2 S2 R2 ⟨n, kvs, k, ex, hc, ey, q⟩ => by
    subst ex ey
    obtain ⟨a, rfl, hm, kva, ha, rk⟩ := ptr_at S2 R2 hc trivial
    obtain ⟨b, rfl, hb⟩ := key_tup (show Rep c.K F1 m1 w (.tup (k.map .int)) from R1)
    refine ⟨a, valT kva k, rfl, ⟨kva, k, b, ha, fun x hx => (rk.keys x hx).mono S2.h.exF, rfl, (hb.mono e2).mono S2.h.exF, rfl⟩, kc F2 m2 A2 _ H2 (.val (.bl (!(valD kvs k).isSome))) (e1.trans e2) (p1.trans p2) S2 ?_ q⟩
    rw [rk.some_eq k]; exact .bl _
theorem vs_tput (h : WE c tv A fun A0 r => Frz A0 r fun A1 d => WE c td A1 fun A2 x => WE c ty A2 fun A3 y => ∃ n kvs k, x = .val (.ptr n) ∧ A3.o[n]? = some (.dT kvs) ∧ y = .val (.tup (k.map .int)) ∧ kvs.length < 100000 ∧ nx ⟨A3.s, A3.o.set n (.dT (putKD kvs k d))⟩) :
    WS c (sTPut c.K td ty tv) A ⟨nx, rt, bk, ct⟩ := fun F G m σ H S E Dc kc => (WE.frz h) F G m σ H S E _ fun F0 m0 A0 v0 H0 r e0 p0 S0 R0 ⟨d, er, q0⟩ => by
  subst er
  refine q0 F0 G m0 σ H0 S0 (E.mono e0 p0) _ fun F1 m1 A1 v H1 x e1 p1 S1 R1 q1 => q1 F1 G m1 σ H1 S1 (E.mono (e0.trans e1) (p0.trans p1)) _ fun F2 m2 A2 w H2 y e2 p2 S2 R2 ⟨n, kvs, k, ex, hc, ey, hl, q⟩ => ?_
  subst ex ey
  have R1' : Rep c.K F2 m2 v (.ptr n) := Rep.mono e2 p2 R1
  have R0' : Rep c.K F2 m2 v0 d := Rep.mono (e1.trans e2) (p1.trans p2) R0
  obtain ⟨a, rfl, hm, kva, ha, rk⟩ := ptr_at S2 R1' hc trivial
  obtain ⟨b, rfl, hb⟩ := key_tup (show Rep c.K F2 m2 w (.tup (k.map .int)) from R2)
  exact ⟨a, _, rfl, ⟨kva, k, b, ha, fun x hx => (rk.keys x hx).mono S2.h.exF, rfl, hb.mono S2.h.exF, Nat.lt_of_lt_of_le (by rw [rk.len]; exact hl) (by decide), rfl⟩, kc.nx F2 m2 ⟨A2.s, A2.o.set n (.dT (putKD kvs k d))⟩ σ _ ((e0.trans e1).trans e2) ((p0.trans p1).trans p2) (S2.cset (c' := .dT (putKD kvs k d)) hm hc trivial trivial ⟨_, upd_same, rk.put hb R0'⟩) q⟩
theorem we_tnew (q : Q ⟨A.s, A.o ++ [.dT []]⟩ (.val (.ptr A.o.length))) : WE c tTNew A Q := fun F G m σ H S E Qc kc p hp => by
  obtain ⟨f, g, mm⟩ := S.h.fresh hp
  exact kc F (m ++ [p]) ⟨A.s, A.o ++ [.dT []]⟩ (.ref p) _ (.val (.ptr A.o.length)) (Evl.Ex.refl _) Pre.app ((S.new (o := dE p []) hp).addCell (c := .dT []) f g mm (S.notOwn hp) ⟨_, upd_same⟩ trivial ⟨[], upd_same, .nil⟩) (show Rep c.K _ _ _ _ from .ptr (by rw [← S.h.len, List.getElem?_append_right (Nat.le_refl _), Nat.sub_self]; rfl)) q
theorem vs_seqTP {K : PySem.W.Frag} {td ty tv : TE} {t2 : TS} {nx bk ct : AS → Prop} {rt : List Cell → D → Prop} (h : WS c (sTPut K td ty tv) A ⟨fun A1 => WS c t2 A1 ⟨nx, rt, bk, ct⟩, rt, bk, ct⟩) : WS c (tSeq (sTPut K td ty tv) t2) A ⟨nx, rt, bk, ct⟩ := ws_seq h
/-- values of a dict after a put -/
theorem valD_put {κ α : Type} [DecidableEq κ] {kvs : List (κ × D)} {k k2 : κ} {d : D} : valD (putKD kvs k d) k2 = if k = k2 then some d else valD kvs k2 := by
  unfold putKD
  by_cases h : (kvs.any fun kv => decide (kv.1 = k)) = true
  · rw [if_pos h]
    clear α
    induction kvs with
    | nil => simp at h
    | cons x r ih =>
      rw [List.map_cons]
      rw [List.any_cons] at h
      by_cases e : x.1 = k
      · rw [if_pos e]
        by_cases e2 : k = k2
        · rw [if_pos e2]
          simp [valD, List.find?_cons, e, e2]
        · rw [if_neg e2]
          have n1 : ¬ x.1 = k2 := fun z => e2 (e.symm.trans z)
          have a1 : valD ((x.1, d) :: r.map fun kv => if kv.1 = k then (kv.1, d) else kv) k2 = valD (r.map fun kv => if kv.1 = k then (kv.1, d) else kv) k2 := by simp [valD, List.find?_cons, n1]
          have a2 : valD (x :: r) k2 = valD r k2 := by simp [valD, List.find?_cons, n1]
          rw [a1, a2]
          by_cases hr : (r.any fun kv => decide (kv.1 = k)) = true
          · have := ih hr
            rw [if_neg e2] at this
            exact this
          · have hm : (r.map fun kv => if kv.1 = k then (kv.1, d) else kv) = r := by
              conv => rhs; rw [← List.map_id r]
              apply List.map_congr_left
              intro z hz
              rw [if_neg (fun q => hr (List.any_eq_true.mpr ⟨z, hz, by simp [q]⟩))]; rfl
            rw [hm]
      · rw [if_neg e]
        have h' : (r.any fun kv => decide (kv.1 = k)) = true := by simpa [e] using h
        have ih := ih h'
        by_cases e3 : x.1 = k2
        · have n2 : ¬ k = k2 := fun z => e (e3.trans z.symm)
          rw [if_neg n2]
          simp [valD, List.find?_cons, e3]
        · have a1 : valD (x :: r.map fun kv => if kv.1 = k then (kv.1, d) else kv) k2 = valD (r.map fun kv => if kv.1 = k then (kv.1, d) else kv) k2 := by simp [valD, List.find?_cons, e3]
          have a2 : valD (x :: r) k2 = valD r k2 := by simp [valD, List.find?_cons, e3]
          rw [a1, a2]
          exact ih
  · rw [if_neg h]
    unfold valD
    rw [List.find?_append]
    by_cases e2 : k = k2
    · rw [if_pos e2]
      subst e2
      have hn : (kvs.find? fun kv => decide (kv.1 = k)) = none := List.find?_eq_none.mpr fun z hz q => h (List.any_eq_true.mpr ⟨z, hz, q⟩)
      rw [hn]; simp
    · rw [if_neg e2]
      cases kvs.find? fun kv => decide (kv.1 = k2) <;> simp [e2]
theorem putKD_len {κ : Type} [DecidableEq κ] {kvs : List (κ × D)} {k : κ} {d : D} : (putKD kvs k d).length ≤ kvs.length + 1 := by
  unfold putKD
  split
  · rw [List.length_map]; omega
  · rw [List.length_append]; simp
end
end AL

namespace AT
open PySem L2 AL
/-! ### a tape, a dict of names -/
structure TapeM where
  cells : List Int
  at_ : Int
  great : Int
  left : Int
  seed : Int
  turn : Int
def tapeF (t : TapeM) : List (Key × D) := [(.inr "cells", .lst (t.cells.map .int)), (.inr "at", .int t.at_), (.inr "great", .int t.great), (.inr "left", .int t.left), (.inr "seed", .int t.seed), (.inr "turn", .int t.turn)]
def cTape (t : TapeM) : Cell := .dK (tapeF t)
theorem put_at (t : TapeM) (x : Int) : putKD (tapeF t) (.inr "at") (.int x) = tapeF { t with at_ := x } := rfl
theorem put_great (t : TapeM) (x : Int) : putKD (tapeF t) (.inr "great") (.int x) = tapeF { t with great := x } := rfl
theorem put_left (t : TapeM) (x : Int) : putKD (tapeF t) (.inr "left") (.int x) = tapeF { t with left := x } := rfl
theorem put_seed (t : TapeM) (x : Int) : putKD (tapeF t) (.inr "seed") (.int x) = tapeF { t with seed := x } := rfl
theorem put_turn (t : TapeM) (x : Int) : putKD (tapeF t) (.inr "turn") (.int x) = tapeF { t with turn := x } := rfl
def C__law_mixed : Contract := fun ds O R _ => ∃ a b : Int, ds = [.int a, .int b] ∧ ∀ v : Int, 0 ≤ v → R O (.int v)
def C__law_tape : Contract := fun ds O R _ => ∃ ns : List Int, ds = [.scr (ns.map .int)] ∧ ns.length ≤ 1000 ∧ R (O ++ [cTape ⟨ns, 0, 0, 0, 7, 0⟩]) (.ptr O.length)
def C__law_draw : Contract := fun ds O R _ => ∃ n t, ∃ many : Int, ds = [.ptr n, .int many] ∧ O[n]? = some (cTape t) ∧ 0 ≤ t.at_ ∧ 0 < many ∧ ∀ t' v, 0 ≤ TapeM.at_ t' → 0 ≤ v → v < many → R (O.set n (cTape t')) (.int v)
def C__law_pick : Contract := fun ds O R _ => ∃ n t xs, ds = [.ptr n, .lst xs] ∧ O[n]? = some (cTape t) ∧ 0 ≤ t.at_ ∧ 0 < xs.length ∧ xs.length ≤ 1000 ∧ ∀ t' v, 0 ≤ TapeM.at_ t' → v ∈ xs → R (O.set n (cTape t')) v
theorem len__law_mixed : ∀ ds O R X, C__law_mixed ds O R X → ds.length = 2 := fun _ _ _ _ h => by obtain ⟨_, _, rfl, _⟩ := h; rfl
theorem len__law_tape : ∀ ds O R X, C__law_tape ds O R X → ds.length = 1 := fun _ _ _ _ h => by obtain ⟨_, rfl, _⟩ := h; rfl
theorem len__law_draw : ∀ ds O R X, C__law_draw ds O R X → ds.length = 2 := fun _ _ _ _ h => by obtain ⟨_, _, _, rfl, _⟩ := h; rfl
theorem len__law_pick : ∀ ds O R X, C__law_pick ds O R X → ds.length = 2 := fun _ _ _ _ h => by obtain ⟨_, _, _, rfl, _⟩ := h; rfl
end AT
local macro_rules | `(tactic| walk_at "tp") => `(tactic| try simp only [List.set_set, AL.AS.setS])
local macro_rules | `(tactic| walk_at "put") => `(tactic| first | exact AT.put_at _ _ | exact AT.put_great _ _ | exact AT.put_left _ _ | exact AT.put_seed _ _ | exact AT.put_turn _ _)

set_option maxHeartbeats 4000000
namespace AL
open PySem L2
/-- C(e), an own error with the field f -/
def tMk1 (C : Addr) (f : Str) (ta : TA) : St → Hp → XK → Prop := fun σ H Q => ta σ H fun vs H1 => ∃ v, vs = [v] ∧ ∀ d, H1 d = none → Q (.ref C) (some d) (upd H1 d (.xd [(f, v)]))
/-- raise C(e) -/
def tRaise1 (C : Addr) (f : Str) (W : WX) (ta : TA) : TS := fun _ σ H => tMk1 C f ta σ H fun cls d H' => W cls d σ H'
end AL
namespace PySem
namespace EXnumber
open PySem.W PySem.Calls PyProof.Rows PySem.HandSPX
def arA (p1 p2 : Pos) : Arguments := { posonlyargs := [], args := [{ arg := "self", annotation := none, pos := p1 }, { arg := "number", annotation := none, pos := p2 }], vararg := none, kwonlyargs := [], kw_defaults := [], kwarg := none, defaults := [] }
def boB (q1 q2 q3 q4 : Pos) : List Stmt := [.Assign [.Attribute (.Name "self" q1) "number" q2] (.Name "number" q3) q4]
def scS : Scope := { kind := .function, names := [(PySem.Str.ofString "self", .local), (PySem.Str.ofString "number", .local)], isGenerator := false, isCoroutine := false, more := [] }
/-- the written part of such a class, cn at C, its __init__ at fI -/
structure Txt (K : Frag) (mg : Str → Option Value) (cn qual : Str) (C fI : Addr) : Prop where
  gC : mg cn = some (.ref C)
  cls : ∃ nm q N bs bm sn sub ab col dd k0 k1 k2 k3 k5, K.lookup C = some (excClassObj nm q C N bs bm true sn sub ab col dd k0 k1 k2 k3 k5 "ValueError.__new__") ∧ refsVE bm = true
  sa : findIn K (.ref C) "__setattr__" = some (some (.builtin "object.__setattr__"))
  noN : findIn K (.ref C) "number" = some none
  iC : findIn K (.ref C) "__init__" = some (some (.ref fI))
  tC : typeIn K (.ref fI) = some (.type "function")
  kC : keepIn K (.ref C) = true
  exC : subIn K (.ref C) (.type "BaseException") = some true
  tyC : typeIn K (.ref C) = some (.type "type")
  fn : ∃ (oc : Value) (od : Option Addr) (doc pm : Value) (an : Option Addr) (cdv ct : Value) (osl : Array (Option Value)) (p1 p2 q1 q2 q3 q4 : Pos),
    K.lookup fI = some ⟨oc, od, .func (fnOf "__init__" qual (arA p1 p2) (boB q1 q2 q3 q4) scS .none .none doc pm an cdv ct), osl⟩ ∧ codeIn K cdv qual = true
theorem sz1 (v : Value) : [v].length ≤ sizeLine := by rw [sizeLine_eq]; exact (by decide : 1 ≤ 16777216)
theorem ldL {M : Model} {s : Shared} {name : Str} {scope : Scope} {L a : Addr} {cd : Value} {m : Str → Option Value} {x : Str} {pos : Pos} {v : Value} {Q : Value → Shared → Prop} {A : Around} {E : Value → Shared → Prop} (hn : s.heap.Ns L m) (hv : m x = some v) (h : Q v s)
    (hk : scope.kind = .function := by rfl) (hl : (envOfC name scope L a cd).kindOf x = some .local := by rfl) (hd : (x == ("__debug__" : Str)) = false := by decide) :
    wpAny M A (eval (.Name x pos) (envOfC name scope L a cd)) Q E s := wpAny_Name (wpAny_loadName_local hk hl hn hv h) hd
/-- a new error behind its __init__ -/
structure Init1 (h h' : Heap) (x C dx t1 : Addr) (v : Value) : Prop where
  keep : ∀ b o, b ≠ x → h.get? b = some o → h'.get? b = some o
  obj : h'.get? x = some { cls := .ref C, dict := some dx, data := .fields #[.ref t1, .none, .none, .none, .bool false, .none] }
  dbig : h.objs.size ≤ dx
  dne : dx ≠ x
  ns : h'.Ns1 dx (fun y => if y = "number" then some v else none)
/-- an error that is made -/
structure Made1 (h h' : Heap) (e C d : Addr) (v : Value) : Prop where
  keep : ∀ b o, h.get? b = some o → h'.get? b = some o
  new : h.objs.size ≤ e
  obj : ∃ t1 : Addr, h'.get? e = some { cls := .ref C, dict := some d, data := .fields #[.ref t1, .none, .none, .none, .bool false, .none] }
  dbig : h.objs.size ≤ d
  dne : d ≠ e
  ns : h'.Ns1 d (fun y => if y = "number" then some v else none)
section
variable {prog : Program} {w : World} {A : Around} {E : Value → Shared → Prop} {R : Result → Shared → Prop} {s : Shared} {K : Frag} {mg : Str → Option Value} {cn qual : Str} {C fI : Addr}
theorem init1 (T : Txt K mg cn qual C fI) {x t0 : Addr} {v : Value} (X : K.In s.heap) (hlim : s.heap.NoLimit) (hx : s.heap.get? x = some (excO C t0)) (hroom : A.depth < recursionLimit)
    (hq : ∀ h' tk dx, Init1 s.heap h' x C dx t0 v → R (.ok (.ret .none)) { s with heap := h', toks := tk }) :
    codeAny (model prog w) A (.call (.ref fI) ⟨[.ref x, v], []⟩) R s := by
  obtain ⟨oc, od, doc, pm, an, cdv, ct, osl, p1, p2, q1, q2, q3, q4, ho, hcd⟩ := T.fn
  obtain ⟨nm, q, N, bs, bm, sn, sub, ab, col, dd, k0, k1, k2, k3, k5, hC, hbm⟩ := T.cls
  have hcl : clsIn K C = some { name := nm, bases := bs, mro := .ref C :: bm, ns := N, qualname := q, hasDict := true, slotNames := sn, subclasses := sub, abstract := ab, collection := col, hasDel := false } := by unfold clsIn; rw [hC] <;> rfl
  refine Att.call_fn (binds := [("self", .ref x), ("number", v)]) X hlim ho hcd hroom (BindsTo.of_eq (by first | rfl | with_unfolding_all rfl)) (by first | rfl | decide | with_unfolding_all rfl) (fun s₁ IC => ?_) rfl rfl rfl
  obtain ⟨h₁, tk₁, rfl⟩ := IC.toInCall.same
  have k : ∀ b o, s.heap.get? b = some o → h₁.get? b = some o := IC.toInCall.keep
  have hn := IC.toInCall.ns
  have X₁ : K.In h₁ := X.keeps k
  have hx₁ := k _ _ hx
  show wpAny _ _ (execs _ _) _ _ _
  refine wpAny_execs_cons (plainObj_wpAny_Assign_Attribute ?_)
  refine ldL (v := v) hn (by first | rfl | with_unfolding_all rfl | kernel_rfl) (ldL (v := .ref x) hn (by first | rfl | with_unfolding_all rfl | kernel_rfl) ?_)
  refine set_plain X₁ (ox := excO C t0) (od := none) ⟨hx₁, rfl, rfl, trivial⟩ T.sa ?_
  refine exc_osa X₁ hx₁ hcl (show refsVE (.ref C :: bm) = true from hbm) rfl T.noN (fun h₃ tk₃ dx k₃ dn dne hx₃ hn₃ => ?_)
  show wpAny _ _ (execs _ _) _ _ _
  have z : s.heap.objs.size < h₁.objs.size := hn.lt
  exact wpAny_execs_nil (hq h₃ tk₃ dx ⟨fun b o hb e => k₃ b o hb (k b o e), hx₃, Nat.le_of_lt (Nat.lt_of_lt_of_le z dn), dne, hn₃⟩)
theorem made1 (T : Txt K mg cn qual C fI) {v : Value} (X : K.In s.heap) (hlim : s.heap.NoLimit) (hroom : A.depth + 1 < recursionLimit)
    (hq : ∀ h' tk e d, Made1 s.heap h' e C d v → R (.ok (.ret (.ref e))) { s with heap := h', toks := tk }) :
    codeAny (model prog w) A (.call (.ref C) ⟨[v], []⟩) R s := by
  obtain ⟨nm, q, N, bs, bm, sn, sub, ab, col, dd, k0, k1, k2, k3, k5, hC, hbm⟩ := T.cls
  obtain ⟨hp, g, dr, tk, os⟩ := s
  have k : ∀ b o, hp.get? b = some o → ((hp.push (kdv_tup [v])).push (excO C hp.objs.size)).get? b = some o := fun b o e => Heap.get?_push_of_some _ (Heap.get?_push_of_some _ e)
  have hget : ((hp.push (kdv_tup [v])).push (excO C hp.objs.size)).get? (hp.objs.size + 1) = some (excO C hp.objs.size) := by heap_get
  refine call_own F.excBase_ValueError (fun X => refsVE_contains X bm hbm) (X _ _ hC) (looks_findIn X T.iC) (fun self => bind_fn X self T.tC) (sz1 v) ?_
  refine init1 (s := ⟨(hp.push (kdv_tup [v])).push (excO C hp.objs.size), g, dr, tk, os⟩) T (X.keeps k) (hlim.keeps k) hget ?_ fun h' tk' dx ⟨k', hx, dn, dne, hns⟩ => ?_
  · show A.depth + 1 < recursionLimit
    exact hroom
  · have old : ∀ b o, hp.get? b = some o → h'.get? b = some o := fun b o e => k' b o (Nat.ne_of_lt (Nat.lt_succ_of_lt (Heap.lt_size e))) (k b o e)
    have z : hp.objs.size + 1 + 1 ≤ dx := by
      first
        | (simpa only [Heap.size_push] using dn)
        | exact dn
        | (have q := dn; rw [Heap.size_push, Heap.size_push] at q; exact q)
    exact ⟨rfl, hq h' tk' (hp.objs.size + 1) dx ⟨old, Nat.le_succ _, ⟨_, hx⟩, Nat.le_trans (Nat.le_trans (Nat.le_succ _) (Nat.le_succ _)) z, dne, hns⟩⟩
end
end EXnumber
end PySem
namespace L2N
open PySem PySem.Spec PyProof.Rows L2
theorem relOnumber {v : V} {v' : Value} (r : RelV v v') (f : Str) : RelO (List.lookup f [(("number" : Str), v)]) (if f = "number" then some v' else none) := by
  by_cases hw : f = "number"
  · subst hw
    rw [if_pos rfl]
    have q : List.lookup ("number" : Str) [(("number" : Str), v)] = some v := by simp [List.lookup]
    rw [q]; exact r
  · rw [if_neg hw]
    have qw : (f == ("number" : Str)) = false := by simpa using hw
    have q2 : List.lookup f [(("number" : Str), v)] = none := by simp [List.lookup, qw]
    rw [q2]; trivial
section
variable {X : Cx} {C fI : Addr} {cn qual : Str}
theorem pmknumber {a : Expr} {ta : TA} {p pos : Pos} {k : Nat} (T : PySem.EXnumber.Txt X.K X.mg cn qual C fI) (hr : Room k X.A) (ha : PA X [a] ta) (hg : Gl X cn) (hdb : (cn == ("__debug__" : Str)) = false := by decide)
    (he : starEach (a :: []) X.env = (false, eval a X.env) :: starEach [] X.env := by rfl) (hpl : (backTo pos (starEach [] X.env)).any (·.1) = false := by rfl) :
    PMk X (.Call (.Name cn p) [a] [] pos) (AL.tMk1 C "number" ta) := by
  intro pins s σ H Q I h
  refine wpAny_Call_Name_kw (ld_glob I hg T.gC ?_ hdb)
  refine PySem.W.callWith_K (h₀ := X.base) I.ok.mod.kin T.kC (thn (ha.run pos pins s σ H _ I h) fun us s1 hh => ?_) he hpl
  obtain ⟨vs, H1, I1, r1, v, ev, q1⟩ := hh
  subst ev
  refine ⟨I1.kIn, ?_⟩
  cases r1 with
  | cons rv rn =>
    rename_i v' us'
    cases rn
    show wpAny _ _ (call (.ref C) [v']) _ _ _
    have hlim := I1.nolimit
    obtain ⟨hp, g, dr, tk, os⟩ := s1
    refine wpAny_call (PySem.EXnumber.made1 T I1.kIn hlim (by have := hr.dp; omega) fun h' tk' e d M => ?_)
    show MkP X pins σ Q (.ref e) ⟨h', g, dr, tk', os⟩
    obtain ⟨t1, hoe⟩ := M.obj
    have hns := M.ns
    obtain ⟨G', g1, g2⟩ := restrict h' fun b => decide (b ≠ e)
    have gk : ∀ b, b ≠ e → G'.get? b = h'.get? b := fun b hb => g1 b (decide_eq_true hb)
    have ge : G'.get? e = none := g2 e (by simp)
    have old : ∀ b o, hp.get? b = some o → G'.get? b = some o := fun b o q => (gk b (Nat.ne_of_lt (Nat.lt_of_lt_of_le (Heap.lt_size q) M.new))).trans (M.keep b o q)
    have ob : ObjOk X.prog X.w (upd H1 d (.xd [(("number" : Str), v)])) G' d (.xd [(("number" : Str), v)]) :=
      ⟨_, hns.at (fun o q => (gk d M.dne).trans q), fun f => relOnumber rv f⟩
    have J : Inv X pins σ (upd H1 d (.xd [(("number" : Str), v)])) ⟨G', g, dr, tk', os⟩ := I1.laid (t' := tk') old M.dbig ob
    refine ⟨e, _, _, ⟨G', g, dr, tk', os⟩, _, .ref C, some d, rfl, J, fun b o q => ?_, ge, hoe, ⟨rfl, rfl, fun vs z => by cases z; rfl⟩, rfl, rfl, ?_, rfl, I1.bare, raises_own T.exC T.tyC, q1 d (I1.hok.fresh M.dbig)⟩
    · by_cases hb : b = e
      · have q' : G'.get? b = some o := q
        rw [hb, ge] at q'; cases q'
      · exact (gk b hb).symm.trans q
    · rw [upd_ne (Ne.symm M.dne)]
      exact I1.hok.fresh M.new
end
end L2N
namespace PySem
namespace EXletter
open PySem.W PySem.Calls PyProof.Rows PySem.HandSPX
def arA (p1 p2 : Pos) : Arguments := { posonlyargs := [], args := [{ arg := "self", annotation := none, pos := p1 }, { arg := "letter", annotation := none, pos := p2 }], vararg := none, kwonlyargs := [], kw_defaults := [], kwarg := none, defaults := [] }
def boB (q1 q2 q3 q4 : Pos) : List Stmt := [.Assign [.Attribute (.Name "self" q1) "letter" q2] (.Name "letter" q3) q4]
def scS : Scope := { kind := .function, names := [(PySem.Str.ofString "self", .local), (PySem.Str.ofString "letter", .local)], isGenerator := false, isCoroutine := false, more := [] }
/-- the written part of such a class, cn at C, its __init__ at fI -/
structure Txt (K : Frag) (mg : Str → Option Value) (cn qual : Str) (C fI : Addr) : Prop where
  gC : mg cn = some (.ref C)
  cls : ∃ nm q N bs bm sn sub ab col dd k0 k1 k2 k3 k5, K.lookup C = some (excClassObj nm q C N bs bm true sn sub ab col dd k0 k1 k2 k3 k5 "ValueError.__new__") ∧ refsVE bm = true
  sa : findIn K (.ref C) "__setattr__" = some (some (.builtin "object.__setattr__"))
  noN : findIn K (.ref C) "letter" = some none
  iC : findIn K (.ref C) "__init__" = some (some (.ref fI))
  tC : typeIn K (.ref fI) = some (.type "function")
  kC : keepIn K (.ref C) = true
  exC : subIn K (.ref C) (.type "BaseException") = some true
  tyC : typeIn K (.ref C) = some (.type "type")
  fn : ∃ (oc : Value) (od : Option Addr) (doc pm : Value) (an : Option Addr) (cdv ct : Value) (osl : Array (Option Value)) (p1 p2 q1 q2 q3 q4 : Pos),
    K.lookup fI = some ⟨oc, od, .func (fnOf "__init__" qual (arA p1 p2) (boB q1 q2 q3 q4) scS .none .none doc pm an cdv ct), osl⟩ ∧ codeIn K cdv qual = true
theorem sz1 (v : Value) : [v].length ≤ sizeLine := by rw [sizeLine_eq]; exact (by decide : 1 ≤ 16777216)
theorem ldL {M : Model} {s : Shared} {name : Str} {scope : Scope} {L a : Addr} {cd : Value} {m : Str → Option Value} {x : Str} {pos : Pos} {v : Value} {Q : Value → Shared → Prop} {A : Around} {E : Value → Shared → Prop} (hn : s.heap.Ns L m) (hv : m x = some v) (h : Q v s)
    (hk : scope.kind = .function := by rfl) (hl : (envOfC name scope L a cd).kindOf x = some .local := by rfl) (hd : (x == ("__debug__" : Str)) = false := by decide) :
    wpAny M A (eval (.Name x pos) (envOfC name scope L a cd)) Q E s := wpAny_Name (wpAny_loadName_local hk hl hn hv h) hd
/-- a new error behind its __init__ -/
structure Init1 (h h' : Heap) (x C dx t1 : Addr) (v : Value) : Prop where
  keep : ∀ b o, b ≠ x → h.get? b = some o → h'.get? b = some o
  obj : h'.get? x = some { cls := .ref C, dict := some dx, data := .fields #[.ref t1, .none, .none, .none, .bool false, .none] }
  dbig : h.objs.size ≤ dx
  dne : dx ≠ x
  ns : h'.Ns1 dx (fun y => if y = "letter" then some v else none)
/-- an error that is made -/
structure Made1 (h h' : Heap) (e C d : Addr) (v : Value) : Prop where
  keep : ∀ b o, h.get? b = some o → h'.get? b = some o
  new : h.objs.size ≤ e
  obj : ∃ t1 : Addr, h'.get? e = some { cls := .ref C, dict := some d, data := .fields #[.ref t1, .none, .none, .none, .bool false, .none] }
  dbig : h.objs.size ≤ d
  dne : d ≠ e
  ns : h'.Ns1 d (fun y => if y = "letter" then some v else none)
section
variable {prog : Program} {w : World} {A : Around} {E : Value → Shared → Prop} {R : Result → Shared → Prop} {s : Shared} {K : Frag} {mg : Str → Option Value} {cn qual : Str} {C fI : Addr}
theorem init1 (T : Txt K mg cn qual C fI) {x t0 : Addr} {v : Value} (X : K.In s.heap) (hlim : s.heap.NoLimit) (hx : s.heap.get? x = some (excO C t0)) (hroom : A.depth < recursionLimit)
    (hq : ∀ h' tk dx, Init1 s.heap h' x C dx t0 v → R (.ok (.ret .none)) { s with heap := h', toks := tk }) :
    codeAny (model prog w) A (.call (.ref fI) ⟨[.ref x, v], []⟩) R s := by
  obtain ⟨oc, od, doc, pm, an, cdv, ct, osl, p1, p2, q1, q2, q3, q4, ho, hcd⟩ := T.fn
  obtain ⟨nm, q, N, bs, bm, sn, sub, ab, col, dd, k0, k1, k2, k3, k5, hC, hbm⟩ := T.cls
  have hcl : clsIn K C = some { name := nm, bases := bs, mro := .ref C :: bm, ns := N, qualname := q, hasDict := true, slotNames := sn, subclasses := sub, abstract := ab, collection := col, hasDel := false } := by unfold clsIn; rw [hC] <;> rfl
  refine Att.call_fn (binds := [("self", .ref x), ("letter", v)]) X hlim ho hcd hroom (BindsTo.of_eq (by first | rfl | with_unfolding_all rfl)) (by first | rfl | decide | with_unfolding_all rfl) (fun s₁ IC => ?_) rfl rfl rfl
  obtain ⟨h₁, tk₁, rfl⟩ := IC.toInCall.same
  have k : ∀ b o, s.heap.get? b = some o → h₁.get? b = some o := IC.toInCall.keep
  have hn := IC.toInCall.ns
  have X₁ : K.In h₁ := X.keeps k
  have hx₁ := k _ _ hx
  show wpAny _ _ (execs _ _) _ _ _
  refine wpAny_execs_cons (plainObj_wpAny_Assign_Attribute ?_)
  refine ldL (v := v) hn (by first | rfl | with_unfolding_all rfl | kernel_rfl) (ldL (v := .ref x) hn (by first | rfl | with_unfolding_all rfl | kernel_rfl) ?_)
  refine set_plain X₁ (ox := excO C t0) (od := none) ⟨hx₁, rfl, rfl, trivial⟩ T.sa ?_
  refine exc_osa X₁ hx₁ hcl (show refsVE (.ref C :: bm) = true from hbm) rfl T.noN (fun h₃ tk₃ dx k₃ dn dne hx₃ hn₃ => ?_)
  show wpAny _ _ (execs _ _) _ _ _
  have z : s.heap.objs.size < h₁.objs.size := hn.lt
  exact wpAny_execs_nil (hq h₃ tk₃ dx ⟨fun b o hb e => k₃ b o hb (k b o e), hx₃, Nat.le_of_lt (Nat.lt_of_lt_of_le z dn), dne, hn₃⟩)
theorem made1 (T : Txt K mg cn qual C fI) {v : Value} (X : K.In s.heap) (hlim : s.heap.NoLimit) (hroom : A.depth + 1 < recursionLimit)
    (hq : ∀ h' tk e d, Made1 s.heap h' e C d v → R (.ok (.ret (.ref e))) { s with heap := h', toks := tk }) :
    codeAny (model prog w) A (.call (.ref C) ⟨[v], []⟩) R s := by
  obtain ⟨nm, q, N, bs, bm, sn, sub, ab, col, dd, k0, k1, k2, k3, k5, hC, hbm⟩ := T.cls
  obtain ⟨hp, g, dr, tk, os⟩ := s
  have k : ∀ b o, hp.get? b = some o → ((hp.push (kdv_tup [v])).push (excO C hp.objs.size)).get? b = some o := fun b o e => Heap.get?_push_of_some _ (Heap.get?_push_of_some _ e)
  have hget : ((hp.push (kdv_tup [v])).push (excO C hp.objs.size)).get? (hp.objs.size + 1) = some (excO C hp.objs.size) := by heap_get
  refine call_own F.excBase_ValueError (fun X => refsVE_contains X bm hbm) (X _ _ hC) (looks_findIn X T.iC) (fun self => bind_fn X self T.tC) (sz1 v) ?_
  refine init1 (s := ⟨(hp.push (kdv_tup [v])).push (excO C hp.objs.size), g, dr, tk, os⟩) T (X.keeps k) (hlim.keeps k) hget ?_ fun h' tk' dx ⟨k', hx, dn, dne, hns⟩ => ?_
  · show A.depth + 1 < recursionLimit
    exact hroom
  · have old : ∀ b o, hp.get? b = some o → h'.get? b = some o := fun b o e => k' b o (Nat.ne_of_lt (Nat.lt_succ_of_lt (Heap.lt_size e))) (k b o e)
    have z : hp.objs.size + 1 + 1 ≤ dx := by
      first
        | (simpa only [Heap.size_push] using dn)
        | exact dn
        | (have q := dn; rw [Heap.size_push, Heap.size_push] at q; exact q)
    exact ⟨rfl, hq h' tk' (hp.objs.size + 1) dx ⟨old, Nat.le_succ _, ⟨_, hx⟩, Nat.le_trans (Nat.le_trans (Nat.le_succ _) (Nat.le_succ _)) z, dne, hns⟩⟩
end
end EXletter
end PySem
namespace L2N
open PySem PySem.Spec PyProof.Rows L2
theorem relOletter {v : V} {v' : Value} (r : RelV v v') (f : Str) : RelO (List.lookup f [(("letter" : Str), v)]) (if f = "letter" then some v' else none) := by
  by_cases hw : f = "letter"
  · subst hw
    rw [if_pos rfl]
    have q : List.lookup ("letter" : Str) [(("letter" : Str), v)] = some v := by simp [List.lookup]
    rw [q]; exact r
  · rw [if_neg hw]
    have qw : (f == ("letter" : Str)) = false := by simpa using hw
    have q2 : List.lookup f [(("letter" : Str), v)] = none := by simp [List.lookup, qw]
    rw [q2]; trivial
section
variable {X : Cx} {C fI : Addr} {cn qual : Str}
theorem pmkletter {a : Expr} {ta : TA} {p pos : Pos} {k : Nat} (T : PySem.EXletter.Txt X.K X.mg cn qual C fI) (hr : Room k X.A) (ha : PA X [a] ta) (hg : Gl X cn) (hdb : (cn == ("__debug__" : Str)) = false := by decide)
    (he : starEach (a :: []) X.env = (false, eval a X.env) :: starEach [] X.env := by rfl) (hpl : (backTo pos (starEach [] X.env)).any (·.1) = false := by rfl) :
    PMk X (.Call (.Name cn p) [a] [] pos) (AL.tMk1 C "letter" ta) := by
  intro pins s σ H Q I h
  refine wpAny_Call_Name_kw (ld_glob I hg T.gC ?_ hdb)
  refine PySem.W.callWith_K (h₀ := X.base) I.ok.mod.kin T.kC (thn (ha.run pos pins s σ H _ I h) fun us s1 hh => ?_) he hpl
  obtain ⟨vs, H1, I1, r1, v, ev, q1⟩ := hh
  subst ev
  refine ⟨I1.kIn, ?_⟩
  cases r1 with
  | cons rv rn =>
    rename_i v' us'
    cases rn
    show wpAny _ _ (call (.ref C) [v']) _ _ _
    have hlim := I1.nolimit
    obtain ⟨hp, g, dr, tk, os⟩ := s1
    refine wpAny_call (PySem.EXletter.made1 T I1.kIn hlim (by have := hr.dp; omega) fun h' tk' e d M => ?_)
    show MkP X pins σ Q (.ref e) ⟨h', g, dr, tk', os⟩
    obtain ⟨t1, hoe⟩ := M.obj
    have hns := M.ns
    obtain ⟨G', g1, g2⟩ := restrict h' fun b => decide (b ≠ e)
    have gk : ∀ b, b ≠ e → G'.get? b = h'.get? b := fun b hb => g1 b (decide_eq_true hb)
    have ge : G'.get? e = none := g2 e (by simp)
    have old : ∀ b o, hp.get? b = some o → G'.get? b = some o := fun b o q => (gk b (Nat.ne_of_lt (Nat.lt_of_lt_of_le (Heap.lt_size q) M.new))).trans (M.keep b o q)
    have ob : ObjOk X.prog X.w (upd H1 d (.xd [(("letter" : Str), v)])) G' d (.xd [(("letter" : Str), v)]) :=
      ⟨_, hns.at (fun o q => (gk d M.dne).trans q), fun f => relOletter rv f⟩
    have J : Inv X pins σ (upd H1 d (.xd [(("letter" : Str), v)])) ⟨G', g, dr, tk', os⟩ := I1.laid (t' := tk') old M.dbig ob
    refine ⟨e, _, _, ⟨G', g, dr, tk', os⟩, _, .ref C, some d, rfl, J, fun b o q => ?_, ge, hoe, ⟨rfl, rfl, fun vs z => by cases z; rfl⟩, rfl, rfl, ?_, rfl, I1.bare, raises_own T.exC T.tyC, q1 d (I1.hok.fresh M.dbig)⟩
    · by_cases hb : b = e
      · have q' : G'.get? b = some o := q
        rw [hb, ge] at q'; cases q'
      · exact (gk b hb).symm.trans q
    · rw [upd_ne (Ne.symm M.dne)]
      exact I1.hok.fresh M.new
end
end L2N
namespace PySem
namespace EXmany
open PySem.W PySem.Calls PyProof.Rows PySem.HandSPX
def arA (p1 p2 : Pos) : Arguments := { posonlyargs := [], args := [{ arg := "self", annotation := none, pos := p1 }, { arg := "many", annotation := none, pos := p2 }], vararg := none, kwonlyargs := [], kw_defaults := [], kwarg := none, defaults := [] }
def boB (q1 q2 q3 q4 : Pos) : List Stmt := [.Assign [.Attribute (.Name "self" q1) "many" q2] (.Name "many" q3) q4]
def scS : Scope := { kind := .function, names := [(PySem.Str.ofString "self", .local), (PySem.Str.ofString "many", .local)], isGenerator := false, isCoroutine := false, more := [] }
/-- the written part of such a class, cn at C, its __init__ at fI -/
structure Txt (K : Frag) (mg : Str → Option Value) (cn qual : Str) (C fI : Addr) : Prop where
  gC : mg cn = some (.ref C)
  cls : ∃ nm q N bs bm sn sub ab col dd k0 k1 k2 k3 k5, K.lookup C = some (excClassObj nm q C N bs bm true sn sub ab col dd k0 k1 k2 k3 k5 "ValueError.__new__") ∧ refsVE bm = true
  sa : findIn K (.ref C) "__setattr__" = some (some (.builtin "object.__setattr__"))
  noN : findIn K (.ref C) "many" = some none
  iC : findIn K (.ref C) "__init__" = some (some (.ref fI))
  tC : typeIn K (.ref fI) = some (.type "function")
  kC : keepIn K (.ref C) = true
  exC : subIn K (.ref C) (.type "BaseException") = some true
  tyC : typeIn K (.ref C) = some (.type "type")
  fn : ∃ (oc : Value) (od : Option Addr) (doc pm : Value) (an : Option Addr) (cdv ct : Value) (osl : Array (Option Value)) (p1 p2 q1 q2 q3 q4 : Pos),
    K.lookup fI = some ⟨oc, od, .func (fnOf "__init__" qual (arA p1 p2) (boB q1 q2 q3 q4) scS .none .none doc pm an cdv ct), osl⟩ ∧ codeIn K cdv qual = true
theorem sz1 (v : Value) : [v].length ≤ sizeLine := by rw [sizeLine_eq]; exact (by decide : 1 ≤ 16777216)
theorem ldL {M : Model} {s : Shared} {name : Str} {scope : Scope} {L a : Addr} {cd : Value} {m : Str → Option Value} {x : Str} {pos : Pos} {v : Value} {Q : Value → Shared → Prop} {A : Around} {E : Value → Shared → Prop} (hn : s.heap.Ns L m) (hv : m x = some v) (h : Q v s)
    (hk : scope.kind = .function := by rfl) (hl : (envOfC name scope L a cd).kindOf x = some .local := by rfl) (hd : (x == ("__debug__" : Str)) = false := by decide) :
    wpAny M A (eval (.Name x pos) (envOfC name scope L a cd)) Q E s := wpAny_Name (wpAny_loadName_local hk hl hn hv h) hd
/-- a new error behind its __init__ -/
structure Init1 (h h' : Heap) (x C dx t1 : Addr) (v : Value) : Prop where
  keep : ∀ b o, b ≠ x → h.get? b = some o → h'.get? b = some o
  obj : h'.get? x = some { cls := .ref C, dict := some dx, data := .fields #[.ref t1, .none, .none, .none, .bool false, .none] }
  dbig : h.objs.size ≤ dx
  dne : dx ≠ x
  ns : h'.Ns1 dx (fun y => if y = "many" then some v else none)
/-- an error that is made -/
structure Made1 (h h' : Heap) (e C d : Addr) (v : Value) : Prop where
  keep : ∀ b o, h.get? b = some o → h'.get? b = some o
  new : h.objs.size ≤ e
  obj : ∃ t1 : Addr, h'.get? e = some { cls := .ref C, dict := some d, data := .fields #[.ref t1, .none, .none, .none, .bool false, .none] }
  dbig : h.objs.size ≤ d
  dne : d ≠ e
  ns : h'.Ns1 d (fun y => if y = "many" then some v else none)
section
variable {prog : Program} {w : World} {A : Around} {E : Value → Shared → Prop} {R : Result → Shared → Prop} {s : Shared} {K : Frag} {mg : Str → Option Value} {cn qual : Str} {C fI : Addr}
theorem init1 (T : Txt K mg cn qual C fI) {x t0 : Addr} {v : Value} (X : K.In s.heap) (hlim : s.heap.NoLimit) (hx : s.heap.get? x = some (excO C t0)) (hroom : A.depth < recursionLimit)
    (hq : ∀ h' tk dx, Init1 s.heap h' x C dx t0 v → R (.ok (.ret .none)) { s with heap := h', toks := tk }) :
    codeAny (model prog w) A (.call (.ref fI) ⟨[.ref x, v], []⟩) R s := by
  obtain ⟨oc, od, doc, pm, an, cdv, ct, osl, p1, p2, q1, q2, q3, q4, ho, hcd⟩ := T.fn
  obtain ⟨nm, q, N, bs, bm, sn, sub, ab, col, dd, k0, k1, k2, k3, k5, hC, hbm⟩ := T.cls
  have hcl : clsIn K C = some { name := nm, bases := bs, mro := .ref C :: bm, ns := N, qualname := q, hasDict := true, slotNames := sn, subclasses := sub, abstract := ab, collection := col, hasDel := false } := by unfold clsIn; rw [hC] <;> rfl
  refine Att.call_fn (binds := [("self", .ref x), ("many", v)]) X hlim ho hcd hroom (BindsTo.of_eq (by first | rfl | with_unfolding_all rfl)) (by first | rfl | decide | with_unfolding_all rfl) (fun s₁ IC => ?_) rfl rfl rfl
  obtain ⟨h₁, tk₁, rfl⟩ := IC.toInCall.same
  have k : ∀ b o, s.heap.get? b = some o → h₁.get? b = some o := IC.toInCall.keep
  have hn := IC.toInCall.ns
  have X₁ : K.In h₁ := X.keeps k
  have hx₁ := k _ _ hx
  show wpAny _ _ (execs _ _) _ _ _
  refine wpAny_execs_cons (plainObj_wpAny_Assign_Attribute ?_)
  refine ldL (v := v) hn (by first | rfl | with_unfolding_all rfl | kernel_rfl) (ldL (v := .ref x) hn (by first | rfl | with_unfolding_all rfl | kernel_rfl) ?_)
  refine set_plain X₁ (ox := excO C t0) (od := none) ⟨hx₁, rfl, rfl, trivial⟩ T.sa ?_
  refine exc_osa X₁ hx₁ hcl (show refsVE (.ref C :: bm) = true from hbm) rfl T.noN (fun h₃ tk₃ dx k₃ dn dne hx₃ hn₃ => ?_)
  show wpAny _ _ (execs _ _) _ _ _
  have z : s.heap.objs.size < h₁.objs.size := hn.lt
  exact wpAny_execs_nil (hq h₃ tk₃ dx ⟨fun b o hb e => k₃ b o hb (k b o e), hx₃, Nat.le_of_lt (Nat.lt_of_lt_of_le z dn), dne, hn₃⟩)
theorem made1 (T : Txt K mg cn qual C fI) {v : Value} (X : K.In s.heap) (hlim : s.heap.NoLimit) (hroom : A.depth + 1 < recursionLimit)
    (hq : ∀ h' tk e d, Made1 s.heap h' e C d v → R (.ok (.ret (.ref e))) { s with heap := h', toks := tk }) :
    codeAny (model prog w) A (.call (.ref C) ⟨[v], []⟩) R s := by
  obtain ⟨nm, q, N, bs, bm, sn, sub, ab, col, dd, k0, k1, k2, k3, k5, hC, hbm⟩ := T.cls
  obtain ⟨hp, g, dr, tk, os⟩ := s
  have k : ∀ b o, hp.get? b = some o → ((hp.push (kdv_tup [v])).push (excO C hp.objs.size)).get? b = some o := fun b o e => Heap.get?_push_of_some _ (Heap.get?_push_of_some _ e)
  have hget : ((hp.push (kdv_tup [v])).push (excO C hp.objs.size)).get? (hp.objs.size + 1) = some (excO C hp.objs.size) := by heap_get
  refine call_own F.excBase_ValueError (fun X => refsVE_contains X bm hbm) (X _ _ hC) (looks_findIn X T.iC) (fun self => bind_fn X self T.tC) (sz1 v) ?_
  refine init1 (s := ⟨(hp.push (kdv_tup [v])).push (excO C hp.objs.size), g, dr, tk, os⟩) T (X.keeps k) (hlim.keeps k) hget ?_ fun h' tk' dx ⟨k', hx, dn, dne, hns⟩ => ?_
  · show A.depth + 1 < recursionLimit
    exact hroom
  · have old : ∀ b o, hp.get? b = some o → h'.get? b = some o := fun b o e => k' b o (Nat.ne_of_lt (Nat.lt_succ_of_lt (Heap.lt_size e))) (k b o e)
    have z : hp.objs.size + 1 + 1 ≤ dx := by
      first
        | (simpa only [Heap.size_push] using dn)
        | exact dn
        | (have q := dn; rw [Heap.size_push, Heap.size_push] at q; exact q)
    exact ⟨rfl, hq h' tk' (hp.objs.size + 1) dx ⟨old, Nat.le_succ _, ⟨_, hx⟩, Nat.le_trans (Nat.le_trans (Nat.le_succ _) (Nat.le_succ _)) z, dne, hns⟩⟩
end
end EXmany
end PySem
namespace L2N
open PySem PySem.Spec PyProof.Rows L2
theorem relOmany {v : V} {v' : Value} (r : RelV v v') (f : Str) : RelO (List.lookup f [(("many" : Str), v)]) (if f = "many" then some v' else none) := by
  by_cases hw : f = "many"
  · subst hw
    rw [if_pos rfl]
    have q : List.lookup ("many" : Str) [(("many" : Str), v)] = some v := by simp [List.lookup]
    rw [q]; exact r
  · rw [if_neg hw]
    have qw : (f == ("many" : Str)) = false := by simpa using hw
    have q2 : List.lookup f [(("many" : Str), v)] = none := by simp [List.lookup, qw]
    rw [q2]; trivial
section
variable {X : Cx} {C fI : Addr} {cn qual : Str}
theorem pmkmany {a : Expr} {ta : TA} {p pos : Pos} {k : Nat} (T : PySem.EXmany.Txt X.K X.mg cn qual C fI) (hr : Room k X.A) (ha : PA X [a] ta) (hg : Gl X cn) (hdb : (cn == ("__debug__" : Str)) = false := by decide)
    (he : starEach (a :: []) X.env = (false, eval a X.env) :: starEach [] X.env := by rfl) (hpl : (backTo pos (starEach [] X.env)).any (·.1) = false := by rfl) :
    PMk X (.Call (.Name cn p) [a] [] pos) (AL.tMk1 C "many" ta) := by
  intro pins s σ H Q I h
  refine wpAny_Call_Name_kw (ld_glob I hg T.gC ?_ hdb)
  refine PySem.W.callWith_K (h₀ := X.base) I.ok.mod.kin T.kC (thn (ha.run pos pins s σ H _ I h) fun us s1 hh => ?_) he hpl
  obtain ⟨vs, H1, I1, r1, v, ev, q1⟩ := hh
  subst ev
  refine ⟨I1.kIn, ?_⟩
  cases r1 with
  | cons rv rn =>
    rename_i v' us'
    cases rn
    show wpAny _ _ (call (.ref C) [v']) _ _ _
    have hlim := I1.nolimit
    obtain ⟨hp, g, dr, tk, os⟩ := s1
    refine wpAny_call (PySem.EXmany.made1 T I1.kIn hlim (by have := hr.dp; omega) fun h' tk' e d M => ?_)
    show MkP X pins σ Q (.ref e) ⟨h', g, dr, tk', os⟩
    obtain ⟨t1, hoe⟩ := M.obj
    have hns := M.ns
    obtain ⟨G', g1, g2⟩ := restrict h' fun b => decide (b ≠ e)
    have gk : ∀ b, b ≠ e → G'.get? b = h'.get? b := fun b hb => g1 b (decide_eq_true hb)
    have ge : G'.get? e = none := g2 e (by simp)
    have old : ∀ b o, hp.get? b = some o → G'.get? b = some o := fun b o q => (gk b (Nat.ne_of_lt (Nat.lt_of_lt_of_le (Heap.lt_size q) M.new))).trans (M.keep b o q)
    have ob : ObjOk X.prog X.w (upd H1 d (.xd [(("many" : Str), v)])) G' d (.xd [(("many" : Str), v)]) :=
      ⟨_, hns.at (fun o q => (gk d M.dne).trans q), fun f => relOmany rv f⟩
    have J : Inv X pins σ (upd H1 d (.xd [(("many" : Str), v)])) ⟨G', g, dr, tk', os⟩ := I1.laid (t' := tk') old M.dbig ob
    refine ⟨e, _, _, ⟨G', g, dr, tk', os⟩, _, .ref C, some d, rfl, J, fun b o q => ?_, ge, hoe, ⟨rfl, rfl, fun vs z => by cases z; rfl⟩, rfl, rfl, ?_, rfl, I1.bare, raises_own T.exC T.tyC, q1 d (I1.hok.fresh M.dbig)⟩
    · by_cases hb : b = e
      · have q' : G'.get? b = some o := q
        rw [hb, ge] at q'; cases q'
      · exact (gk b hb).symm.trans q
    · rw [upd_ne (Ne.symm M.dne)]
      exact I1.hok.fresh M.new
end
end L2N
namespace PySem
namespace EXblock
open PySem.W PySem.Calls PyProof.Rows PySem.HandSPX
def arA (p1 p2 : Pos) : Arguments := { posonlyargs := [], args := [{ arg := "self", annotation := none, pos := p1 }, { arg := "block", annotation := none, pos := p2 }], vararg := none, kwonlyargs := [], kw_defaults := [], kwarg := none, defaults := [] }
def boB (q1 q2 q3 q4 : Pos) : List Stmt := [.Assign [.Attribute (.Name "self" q1) "block" q2] (.Name "block" q3) q4]
def scS : Scope := { kind := .function, names := [(PySem.Str.ofString "self", .local), (PySem.Str.ofString "block", .local)], isGenerator := false, isCoroutine := false, more := [] }
/-- the written part of such a class, cn at C, its __init__ at fI -/
structure Txt (K : Frag) (mg : Str → Option Value) (cn qual : Str) (C fI : Addr) : Prop where
  gC : mg cn = some (.ref C)
  cls : ∃ nm q N bs bm sn sub ab col dd k0 k1 k2 k3 k5, K.lookup C = some (excClassObj nm q C N bs bm true sn sub ab col dd k0 k1 k2 k3 k5 "ValueError.__new__") ∧ refsVE bm = true
  sa : findIn K (.ref C) "__setattr__" = some (some (.builtin "object.__setattr__"))
  noN : findIn K (.ref C) "block" = some none
  iC : findIn K (.ref C) "__init__" = some (some (.ref fI))
  tC : typeIn K (.ref fI) = some (.type "function")
  kC : keepIn K (.ref C) = true
  exC : subIn K (.ref C) (.type "BaseException") = some true
  tyC : typeIn K (.ref C) = some (.type "type")
  fn : ∃ (oc : Value) (od : Option Addr) (doc pm : Value) (an : Option Addr) (cdv ct : Value) (osl : Array (Option Value)) (p1 p2 q1 q2 q3 q4 : Pos),
    K.lookup fI = some ⟨oc, od, .func (fnOf "__init__" qual (arA p1 p2) (boB q1 q2 q3 q4) scS .none .none doc pm an cdv ct), osl⟩ ∧ codeIn K cdv qual = true
theorem sz1 (v : Value) : [v].length ≤ sizeLine := by rw [sizeLine_eq]; exact (by decide : 1 ≤ 16777216)
theorem ldL {M : Model} {s : Shared} {name : Str} {scope : Scope} {L a : Addr} {cd : Value} {m : Str → Option Value} {x : Str} {pos : Pos} {v : Value} {Q : Value → Shared → Prop} {A : Around} {E : Value → Shared → Prop} (hn : s.heap.Ns L m) (hv : m x = some v) (h : Q v s)
    (hk : scope.kind = .function := by rfl) (hl : (envOfC name scope L a cd).kindOf x = some .local := by rfl) (hd : (x == ("__debug__" : Str)) = false := by decide) :
    wpAny M A (eval (.Name x pos) (envOfC name scope L a cd)) Q E s := wpAny_Name (wpAny_loadName_local hk hl hn hv h) hd
/-- a new error behind its __init__ -/
structure Init1 (h h' : Heap) (x C dx t1 : Addr) (v : Value) : Prop where
  keep : ∀ b o, b ≠ x → h.get? b = some o → h'.get? b = some o
  obj : h'.get? x = some { cls := .ref C, dict := some dx, data := .fields #[.ref t1, .none, .none, .none, .bool false, .none] }
  dbig : h.objs.size ≤ dx
  dne : dx ≠ x
  ns : h'.Ns1 dx (fun y => if y = "block" then some v else none)
/-- an error that is made -/
structure Made1 (h h' : Heap) (e C d : Addr) (v : Value) : Prop where
  keep : ∀ b o, h.get? b = some o → h'.get? b = some o
  new : h.objs.size ≤ e
  obj : ∃ t1 : Addr, h'.get? e = some { cls := .ref C, dict := some d, data := .fields #[.ref t1, .none, .none, .none, .bool false, .none] }
  dbig : h.objs.size ≤ d
  dne : d ≠ e
  ns : h'.Ns1 d (fun y => if y = "block" then some v else none)
section
variable {prog : Program} {w : World} {A : Around} {E : Value → Shared → Prop} {R : Result → Shared → Prop} {s : Shared} {K : Frag} {mg : Str → Option Value} {cn qual : Str} {C fI : Addr}
theorem init1 (T : Txt K mg cn qual C fI) {x t0 : Addr} {v : Value} (X : K.In s.heap) (hlim : s.heap.NoLimit) (hx : s.heap.get? x = some (excO C t0)) (hroom : A.depth < recursionLimit)
    (hq : ∀ h' tk dx, Init1 s.heap h' x C dx t0 v → R (.ok (.ret .none)) { s with heap := h', toks := tk }) :
    codeAny (model prog w) A (.call (.ref fI) ⟨[.ref x, v], []⟩) R s := by
  obtain ⟨oc, od, doc, pm, an, cdv, ct, osl, p1, p2, q1, q2, q3, q4, ho, hcd⟩ := T.fn
  obtain ⟨nm, q, N, bs, bm, sn, sub, ab, col, dd, k0, k1, k2, k3, k5, hC, hbm⟩ := T.cls
  have hcl : clsIn K C = some { name := nm, bases := bs, mro := .ref C :: bm, ns := N, qualname := q, hasDict := true, slotNames := sn, subclasses := sub, abstract := ab, collection := col, hasDel := false } := by unfold clsIn; rw [hC] <;> rfl
  refine Att.call_fn (binds := [("self", .ref x), ("block", v)]) X hlim ho hcd hroom (BindsTo.of_eq (by first | rfl | with_unfolding_all rfl)) (by first | rfl | decide | with_unfolding_all rfl) (fun s₁ IC => ?_) rfl rfl rfl
  obtain ⟨h₁, tk₁, rfl⟩ := IC.toInCall.same
  have k : ∀ b o, s.heap.get? b = some o → h₁.get? b = some o := IC.toInCall.keep
  have hn := IC.toInCall.ns
  have X₁ : K.In h₁ := X.keeps k
  have hx₁ := k _ _ hx
  show wpAny _ _ (execs _ _) _ _ _
  refine wpAny_execs_cons (plainObj_wpAny_Assign_Attribute ?_)
  refine ldL (v := v) hn (by first | rfl | with_unfolding_all rfl | kernel_rfl) (ldL (v := .ref x) hn (by first | rfl | with_unfolding_all rfl | kernel_rfl) ?_)
  refine set_plain X₁ (ox := excO C t0) (od := none) ⟨hx₁, rfl, rfl, trivial⟩ T.sa ?_
  refine exc_osa X₁ hx₁ hcl (show refsVE (.ref C :: bm) = true from hbm) rfl T.noN (fun h₃ tk₃ dx k₃ dn dne hx₃ hn₃ => ?_)
  show wpAny _ _ (execs _ _) _ _ _
  have z : s.heap.objs.size < h₁.objs.size := hn.lt
  exact wpAny_execs_nil (hq h₃ tk₃ dx ⟨fun b o hb e => k₃ b o hb (k b o e), hx₃, Nat.le_of_lt (Nat.lt_of_lt_of_le z dn), dne, hn₃⟩)
theorem made1 (T : Txt K mg cn qual C fI) {v : Value} (X : K.In s.heap) (hlim : s.heap.NoLimit) (hroom : A.depth + 1 < recursionLimit)
    (hq : ∀ h' tk e d, Made1 s.heap h' e C d v → R (.ok (.ret (.ref e))) { s with heap := h', toks := tk }) :
    codeAny (model prog w) A (.call (.ref C) ⟨[v], []⟩) R s := by
  obtain ⟨nm, q, N, bs, bm, sn, sub, ab, col, dd, k0, k1, k2, k3, k5, hC, hbm⟩ := T.cls
  obtain ⟨hp, g, dr, tk, os⟩ := s
  have k : ∀ b o, hp.get? b = some o → ((hp.push (kdv_tup [v])).push (excO C hp.objs.size)).get? b = some o := fun b o e => Heap.get?_push_of_some _ (Heap.get?_push_of_some _ e)
  have hget : ((hp.push (kdv_tup [v])).push (excO C hp.objs.size)).get? (hp.objs.size + 1) = some (excO C hp.objs.size) := by heap_get
  refine call_own F.excBase_ValueError (fun X => refsVE_contains X bm hbm) (X _ _ hC) (looks_findIn X T.iC) (fun self => bind_fn X self T.tC) (sz1 v) ?_
  refine init1 (s := ⟨(hp.push (kdv_tup [v])).push (excO C hp.objs.size), g, dr, tk, os⟩) T (X.keeps k) (hlim.keeps k) hget ?_ fun h' tk' dx ⟨k', hx, dn, dne, hns⟩ => ?_
  · show A.depth + 1 < recursionLimit
    exact hroom
  · have old : ∀ b o, hp.get? b = some o → h'.get? b = some o := fun b o e => k' b o (Nat.ne_of_lt (Nat.lt_succ_of_lt (Heap.lt_size e))) (k b o e)
    have z : hp.objs.size + 1 + 1 ≤ dx := by
      first
        | (simpa only [Heap.size_push] using dn)
        | exact dn
        | (have q := dn; rw [Heap.size_push, Heap.size_push] at q; exact q)
    exact ⟨rfl, hq h' tk' (hp.objs.size + 1) dx ⟨old, Nat.le_succ _, ⟨_, hx⟩, Nat.le_trans (Nat.le_trans (Nat.le_succ _) (Nat.le_succ _)) z, dne, hns⟩⟩
end
end EXblock
end PySem
namespace L2N
open PySem PySem.Spec PyProof.Rows L2
theorem relOblock {v : V} {v' : Value} (r : RelV v v') (f : Str) : RelO (List.lookup f [(("block" : Str), v)]) (if f = "block" then some v' else none) := by
  by_cases hw : f = "block"
  · subst hw
    rw [if_pos rfl]
    have q : List.lookup ("block" : Str) [(("block" : Str), v)] = some v := by simp [List.lookup]
    rw [q]; exact r
  · rw [if_neg hw]
    have qw : (f == ("block" : Str)) = false := by simpa using hw
    have q2 : List.lookup f [(("block" : Str), v)] = none := by simp [List.lookup, qw]
    rw [q2]; trivial
section
variable {X : Cx} {C fI : Addr} {cn qual : Str}
theorem pmkblock {a : Expr} {ta : TA} {p pos : Pos} {k : Nat} (T : PySem.EXblock.Txt X.K X.mg cn qual C fI) (hr : Room k X.A) (ha : PA X [a] ta) (hg : Gl X cn) (hdb : (cn == ("__debug__" : Str)) = false := by decide)
    (he : starEach (a :: []) X.env = (false, eval a X.env) :: starEach [] X.env := by rfl) (hpl : (backTo pos (starEach [] X.env)).any (·.1) = false := by rfl) :
    PMk X (.Call (.Name cn p) [a] [] pos) (AL.tMk1 C "block" ta) := by
  intro pins s σ H Q I h
  refine wpAny_Call_Name_kw (ld_glob I hg T.gC ?_ hdb)
  refine PySem.W.callWith_K (h₀ := X.base) I.ok.mod.kin T.kC (thn (ha.run pos pins s σ H _ I h) fun us s1 hh => ?_) he hpl
  obtain ⟨vs, H1, I1, r1, v, ev, q1⟩ := hh
  subst ev
  refine ⟨I1.kIn, ?_⟩
  cases r1 with
  | cons rv rn =>
    rename_i v' us'
    cases rn
    show wpAny _ _ (call (.ref C) [v']) _ _ _
    have hlim := I1.nolimit
    obtain ⟨hp, g, dr, tk, os⟩ := s1
    refine wpAny_call (PySem.EXblock.made1 T I1.kIn hlim (by have := hr.dp; omega) fun h' tk' e d M => ?_)
    show MkP X pins σ Q (.ref e) ⟨h', g, dr, tk', os⟩
    obtain ⟨t1, hoe⟩ := M.obj
    have hns := M.ns
    obtain ⟨G', g1, g2⟩ := restrict h' fun b => decide (b ≠ e)
    have gk : ∀ b, b ≠ e → G'.get? b = h'.get? b := fun b hb => g1 b (decide_eq_true hb)
    have ge : G'.get? e = none := g2 e (by simp)
    have old : ∀ b o, hp.get? b = some o → G'.get? b = some o := fun b o q => (gk b (Nat.ne_of_lt (Nat.lt_of_lt_of_le (Heap.lt_size q) M.new))).trans (M.keep b o q)
    have ob : ObjOk X.prog X.w (upd H1 d (.xd [(("block" : Str), v)])) G' d (.xd [(("block" : Str), v)]) :=
      ⟨_, hns.at (fun o q => (gk d M.dne).trans q), fun f => relOblock rv f⟩
    have J : Inv X pins σ (upd H1 d (.xd [(("block" : Str), v)])) ⟨G', g, dr, tk', os⟩ := I1.laid (t' := tk') old M.dbig ob
    refine ⟨e, _, _, ⟨G', g, dr, tk', os⟩, _, .ref C, some d, rfl, J, fun b o q => ?_, ge, hoe, ⟨rfl, rfl, fun vs z => by cases z; rfl⟩, rfl, rfl, ?_, rfl, I1.bare, raises_own T.exC T.tyC, q1 d (I1.hok.fresh M.dbig)⟩
    · by_cases hb : b = e
      · have q' : G'.get? b = some o := q
        rw [hb, ge] at q'; cases q'
      · exact (gk b hb).symm.trans q
    · rw [upd_ne (Ne.symm M.dne)]
      exact I1.hok.fresh M.new
end
end L2N
namespace PySem
namespace EXticket
open PySem.W PySem.Calls PyProof.Rows PySem.HandSPX
def arA (p1 p2 : Pos) : Arguments := { posonlyargs := [], args := [{ arg := "self", annotation := none, pos := p1 }, { arg := "ticket", annotation := none, pos := p2 }], vararg := none, kwonlyargs := [], kw_defaults := [], kwarg := none, defaults := [] }
def boB (q1 q2 q3 q4 : Pos) : List Stmt := [.Assign [.Attribute (.Name "self" q1) "ticket" q2] (.Name "ticket" q3) q4]
def scS : Scope := { kind := .function, names := [(PySem.Str.ofString "self", .local), (PySem.Str.ofString "ticket", .local)], isGenerator := false, isCoroutine := false, more := [] }
/-- the written part of such a class, cn at C, its __init__ at fI -/
structure Txt (K : Frag) (mg : Str → Option Value) (cn qual : Str) (C fI : Addr) : Prop where
  gC : mg cn = some (.ref C)
  cls : ∃ nm q N bs bm sn sub ab col dd k0 k1 k2 k3 k5, K.lookup C = some (excClassObj nm q C N bs bm true sn sub ab col dd k0 k1 k2 k3 k5 "ValueError.__new__") ∧ refsVE bm = true
  sa : findIn K (.ref C) "__setattr__" = some (some (.builtin "object.__setattr__"))
  noN : findIn K (.ref C) "ticket" = some none
  iC : findIn K (.ref C) "__init__" = some (some (.ref fI))
  tC : typeIn K (.ref fI) = some (.type "function")
  kC : keepIn K (.ref C) = true
  exC : subIn K (.ref C) (.type "BaseException") = some true
  tyC : typeIn K (.ref C) = some (.type "type")
  fn : ∃ (oc : Value) (od : Option Addr) (doc pm : Value) (an : Option Addr) (cdv ct : Value) (osl : Array (Option Value)) (p1 p2 q1 q2 q3 q4 : Pos),
    K.lookup fI = some ⟨oc, od, .func (fnOf "__init__" qual (arA p1 p2) (boB q1 q2 q3 q4) scS .none .none doc pm an cdv ct), osl⟩ ∧ codeIn K cdv qual = true
theorem sz1 (v : Value) : [v].length ≤ sizeLine := by rw [sizeLine_eq]; exact (by decide : 1 ≤ 16777216)
theorem ldL {M : Model} {s : Shared} {name : Str} {scope : Scope} {L a : Addr} {cd : Value} {m : Str → Option Value} {x : Str} {pos : Pos} {v : Value} {Q : Value → Shared → Prop} {A : Around} {E : Value → Shared → Prop} (hn : s.heap.Ns L m) (hv : m x = some v) (h : Q v s)
    (hk : scope.kind = .function := by rfl) (hl : (envOfC name scope L a cd).kindOf x = some .local := by rfl) (hd : (x == ("__debug__" : Str)) = false := by decide) :
    wpAny M A (eval (.Name x pos) (envOfC name scope L a cd)) Q E s := wpAny_Name (wpAny_loadName_local hk hl hn hv h) hd
/-- a new error behind its __init__ -/
structure Init1 (h h' : Heap) (x C dx t1 : Addr) (v : Value) : Prop where
  keep : ∀ b o, b ≠ x → h.get? b = some o → h'.get? b = some o
  obj : h'.get? x = some { cls := .ref C, dict := some dx, data := .fields #[.ref t1, .none, .none, .none, .bool false, .none] }
  dbig : h.objs.size ≤ dx
  dne : dx ≠ x
  ns : h'.Ns1 dx (fun y => if y = "ticket" then some v else none)
/-- an error that is made -/
structure Made1 (h h' : Heap) (e C d : Addr) (v : Value) : Prop where
  keep : ∀ b o, h.get? b = some o → h'.get? b = some o
  new : h.objs.size ≤ e
  obj : ∃ t1 : Addr, h'.get? e = some { cls := .ref C, dict := some d, data := .fields #[.ref t1, .none, .none, .none, .bool false, .none] }
  dbig : h.objs.size ≤ d
  dne : d ≠ e
  ns : h'.Ns1 d (fun y => if y = "ticket" then some v else none)
section
variable {prog : Program} {w : World} {A : Around} {E : Value → Shared → Prop} {R : Result → Shared → Prop} {s : Shared} {K : Frag} {mg : Str → Option Value} {cn qual : Str} {C fI : Addr}
theorem init1 (T : Txt K mg cn qual C fI) {x t0 : Addr} {v : Value} (X : K.In s.heap) (hlim : s.heap.NoLimit) (hx : s.heap.get? x = some (excO C t0)) (hroom : A.depth < recursionLimit)
    (hq : ∀ h' tk dx, Init1 s.heap h' x C dx t0 v → R (.ok (.ret .none)) { s with heap := h', toks := tk }) :
    codeAny (model prog w) A (.call (.ref fI) ⟨[.ref x, v], []⟩) R s := by
  obtain ⟨oc, od, doc, pm, an, cdv, ct, osl, p1, p2, q1, q2, q3, q4, ho, hcd⟩ := T.fn
  obtain ⟨nm, q, N, bs, bm, sn, sub, ab, col, dd, k0, k1, k2, k3, k5, hC, hbm⟩ := T.cls
  have hcl : clsIn K C = some { name := nm, bases := bs, mro := .ref C :: bm, ns := N, qualname := q, hasDict := true, slotNames := sn, subclasses := sub, abstract := ab, collection := col, hasDel := false } := by unfold clsIn; rw [hC] <;> rfl
  refine Att.call_fn (binds := [("self", .ref x), ("ticket", v)]) X hlim ho hcd hroom (BindsTo.of_eq (by first | rfl | with_unfolding_all rfl)) (by first | rfl | decide | with_unfolding_all rfl) (fun s₁ IC => ?_) rfl rfl rfl
  obtain ⟨h₁, tk₁, rfl⟩ := IC.toInCall.same
  have k : ∀ b o, s.heap.get? b = some o → h₁.get? b = some o := IC.toInCall.keep
  have hn := IC.toInCall.ns
  have X₁ : K.In h₁ := X.keeps k
  have hx₁ := k _ _ hx
  show wpAny _ _ (execs _ _) _ _ _
  refine wpAny_execs_cons (plainObj_wpAny_Assign_Attribute ?_)
  refine ldL (v := v) hn (by first | rfl | with_unfolding_all rfl | kernel_rfl) (ldL (v := .ref x) hn (by first | rfl | with_unfolding_all rfl | kernel_rfl) ?_)
  refine set_plain X₁ (ox := excO C t0) (od := none) ⟨hx₁, rfl, rfl, trivial⟩ T.sa ?_
  refine exc_osa X₁ hx₁ hcl (show refsVE (.ref C :: bm) = true from hbm) rfl T.noN (fun h₃ tk₃ dx k₃ dn dne hx₃ hn₃ => ?_)
  show wpAny _ _ (execs _ _) _ _ _
  have z : s.heap.objs.size < h₁.objs.size := hn.lt
  exact wpAny_execs_nil (hq h₃ tk₃ dx ⟨fun b o hb e => k₃ b o hb (k b o e), hx₃, Nat.le_of_lt (Nat.lt_of_lt_of_le z dn), dne, hn₃⟩)
theorem made1 (T : Txt K mg cn qual C fI) {v : Value} (X : K.In s.heap) (hlim : s.heap.NoLimit) (hroom : A.depth + 1 < recursionLimit)
    (hq : ∀ h' tk e d, Made1 s.heap h' e C d v → R (.ok (.ret (.ref e))) { s with heap := h', toks := tk }) :
    codeAny (model prog w) A (.call (.ref C) ⟨[v], []⟩) R s := by
  obtain ⟨nm, q, N, bs, bm, sn, sub, ab, col, dd, k0, k1, k2, k3, k5, hC, hbm⟩ := T.cls
  obtain ⟨hp, g, dr, tk, os⟩ := s
  have k : ∀ b o, hp.get? b = some o → ((hp.push (kdv_tup [v])).push (excO C hp.objs.size)).get? b = some o := fun b o e => Heap.get?_push_of_some _ (Heap.get?_push_of_some _ e)
  have hget : ((hp.push (kdv_tup [v])).push (excO C hp.objs.size)).get? (hp.objs.size + 1) = some (excO C hp.objs.size) := by heap_get
  refine call_own F.excBase_ValueError (fun X => refsVE_contains X bm hbm) (X _ _ hC) (looks_findIn X T.iC) (fun self => bind_fn X self T.tC) (sz1 v) ?_
  refine init1 (s := ⟨(hp.push (kdv_tup [v])).push (excO C hp.objs.size), g, dr, tk, os⟩) T (X.keeps k) (hlim.keeps k) hget ?_ fun h' tk' dx ⟨k', hx, dn, dne, hns⟩ => ?_
  · show A.depth + 1 < recursionLimit
    exact hroom
  · have old : ∀ b o, hp.get? b = some o → h'.get? b = some o := fun b o e => k' b o (Nat.ne_of_lt (Nat.lt_succ_of_lt (Heap.lt_size e))) (k b o e)
    have z : hp.objs.size + 1 + 1 ≤ dx := by
      first
        | (simpa only [Heap.size_push] using dn)
        | exact dn
        | (have q := dn; rw [Heap.size_push, Heap.size_push] at q; exact q)
    exact ⟨rfl, hq h' tk' (hp.objs.size + 1) dx ⟨old, Nat.le_succ _, ⟨_, hx⟩, Nat.le_trans (Nat.le_trans (Nat.le_succ _) (Nat.le_succ _)) z, dne, hns⟩⟩
end
end EXticket
end PySem
namespace L2N
open PySem PySem.Spec PyProof.Rows L2
theorem relOticket {v : V} {v' : Value} (r : RelV v v') (f : Str) : RelO (List.lookup f [(("ticket" : Str), v)]) (if f = "ticket" then some v' else none) := by
  by_cases hw : f = "ticket"
  · subst hw
    rw [if_pos rfl]
    have q : List.lookup ("ticket" : Str) [(("ticket" : Str), v)] = some v := by simp [List.lookup]
    rw [q]; exact r
  · rw [if_neg hw]
    have qw : (f == ("ticket" : Str)) = false := by simpa using hw
    have q2 : List.lookup f [(("ticket" : Str), v)] = none := by simp [List.lookup, qw]
    rw [q2]; trivial
section
variable {X : Cx} {C fI : Addr} {cn qual : Str}
theorem pmkticket {a : Expr} {ta : TA} {p pos : Pos} {k : Nat} (T : PySem.EXticket.Txt X.K X.mg cn qual C fI) (hr : Room k X.A) (ha : PA X [a] ta) (hg : Gl X cn) (hdb : (cn == ("__debug__" : Str)) = false := by decide)
    (he : starEach (a :: []) X.env = (false, eval a X.env) :: starEach [] X.env := by rfl) (hpl : (backTo pos (starEach [] X.env)).any (·.1) = false := by rfl) :
    PMk X (.Call (.Name cn p) [a] [] pos) (AL.tMk1 C "ticket" ta) := by
  intro pins s σ H Q I h
  refine wpAny_Call_Name_kw (ld_glob I hg T.gC ?_ hdb)
  refine PySem.W.callWith_K (h₀ := X.base) I.ok.mod.kin T.kC (thn (ha.run pos pins s σ H _ I h) fun us s1 hh => ?_) he hpl
  obtain ⟨vs, H1, I1, r1, v, ev, q1⟩ := hh
  subst ev
  refine ⟨I1.kIn, ?_⟩
  cases r1 with
  | cons rv rn =>
    rename_i v' us'
    cases rn
    show wpAny _ _ (call (.ref C) [v']) _ _ _
    have hlim := I1.nolimit
    obtain ⟨hp, g, dr, tk, os⟩ := s1
    refine wpAny_call (PySem.EXticket.made1 T I1.kIn hlim (by have := hr.dp; omega) fun h' tk' e d M => ?_)
    show MkP X pins σ Q (.ref e) ⟨h', g, dr, tk', os⟩
    obtain ⟨t1, hoe⟩ := M.obj
    have hns := M.ns
    obtain ⟨G', g1, g2⟩ := restrict h' fun b => decide (b ≠ e)
    have gk : ∀ b, b ≠ e → G'.get? b = h'.get? b := fun b hb => g1 b (decide_eq_true hb)
    have ge : G'.get? e = none := g2 e (by simp)
    have old : ∀ b o, hp.get? b = some o → G'.get? b = some o := fun b o q => (gk b (Nat.ne_of_lt (Nat.lt_of_lt_of_le (Heap.lt_size q) M.new))).trans (M.keep b o q)
    have ob : ObjOk X.prog X.w (upd H1 d (.xd [(("ticket" : Str), v)])) G' d (.xd [(("ticket" : Str), v)]) :=
      ⟨_, hns.at (fun o q => (gk d M.dne).trans q), fun f => relOticket rv f⟩
    have J : Inv X pins σ (upd H1 d (.xd [(("ticket" : Str), v)])) ⟨G', g, dr, tk', os⟩ := I1.laid (t' := tk') old M.dbig ob
    refine ⟨e, _, _, ⟨G', g, dr, tk', os⟩, _, .ref C, some d, rfl, J, fun b o q => ?_, ge, hoe, ⟨rfl, rfl, fun vs z => by cases z; rfl⟩, rfl, rfl, ?_, rfl, I1.bare, raises_own T.exC T.tyC, q1 d (I1.hok.fresh M.dbig)⟩
    · by_cases hb : b = e
      · have q' : G'.get? b = some o := q
        rw [hb, ge] at q'; cases q'
      · exact (gk b hb).symm.trans q
    · rw [upd_ne (Ne.symm M.dne)]
      exact I1.hok.fresh M.new
end
end L2N
namespace PySem
namespace EXhouse
open PySem.W PySem.Calls PyProof.Rows PySem.HandSPX
def arA (p1 p2 : Pos) : Arguments := { posonlyargs := [], args := [{ arg := "self", annotation := none, pos := p1 }, { arg := "house", annotation := none, pos := p2 }], vararg := none, kwonlyargs := [], kw_defaults := [], kwarg := none, defaults := [] }
def boB (q1 q2 q3 q4 : Pos) : List Stmt := [.Assign [.Attribute (.Name "self" q1) "house" q2] (.Name "house" q3) q4]
def scS : Scope := { kind := .function, names := [(PySem.Str.ofString "self", .local), (PySem.Str.ofString "house", .local)], isGenerator := false, isCoroutine := false, more := [] }
/-- the written part of such a class, cn at C, its __init__ at fI -/
structure Txt (K : Frag) (mg : Str → Option Value) (cn qual : Str) (C fI : Addr) : Prop where
  gC : mg cn = some (.ref C)
  cls : ∃ nm q N bs bm sn sub ab col dd k0 k1 k2 k3 k5, K.lookup C = some (excClassObj nm q C N bs bm true sn sub ab col dd k0 k1 k2 k3 k5 "ValueError.__new__") ∧ refsVE bm = true
  sa : findIn K (.ref C) "__setattr__" = some (some (.builtin "object.__setattr__"))
  noN : findIn K (.ref C) "house" = some none
  iC : findIn K (.ref C) "__init__" = some (some (.ref fI))
  tC : typeIn K (.ref fI) = some (.type "function")
  kC : keepIn K (.ref C) = true
  exC : subIn K (.ref C) (.type "BaseException") = some true
  tyC : typeIn K (.ref C) = some (.type "type")
  fn : ∃ (oc : Value) (od : Option Addr) (doc pm : Value) (an : Option Addr) (cdv ct : Value) (osl : Array (Option Value)) (p1 p2 q1 q2 q3 q4 : Pos),
    K.lookup fI = some ⟨oc, od, .func (fnOf "__init__" qual (arA p1 p2) (boB q1 q2 q3 q4) scS .none .none doc pm an cdv ct), osl⟩ ∧ codeIn K cdv qual = true
theorem sz1 (v : Value) : [v].length ≤ sizeLine := by rw [sizeLine_eq]; exact (by decide : 1 ≤ 16777216)
theorem ldL {M : Model} {s : Shared} {name : Str} {scope : Scope} {L a : Addr} {cd : Value} {m : Str → Option Value} {x : Str} {pos : Pos} {v : Value} {Q : Value → Shared → Prop} {A : Around} {E : Value → Shared → Prop} (hn : s.heap.Ns L m) (hv : m x = some v) (h : Q v s)
    (hk : scope.kind = .function := by rfl) (hl : (envOfC name scope L a cd).kindOf x = some .local := by rfl) (hd : (x == ("__debug__" : Str)) = false := by decide) :
    wpAny M A (eval (.Name x pos) (envOfC name scope L a cd)) Q E s := wpAny_Name (wpAny_loadName_local hk hl hn hv h) hd
/-- a new error behind its __init__ -/
structure Init1 (h h' : Heap) (x C dx t1 : Addr) (v : Value) : Prop where
  keep : ∀ b o, b ≠ x → h.get? b = some o → h'.get? b = some o
  obj : h'.get? x = some { cls := .ref C, dict := some dx, data := .fields #[.ref t1, .none, .none, .none, .bool false, .none] }
  dbig : h.objs.size ≤ dx
  dne : dx ≠ x
  ns : h'.Ns1 dx (fun y => if y = "house" then some v else none)
/-- an error that is made -/
structure Made1 (h h' : Heap) (e C d : Addr) (v : Value) : Prop where
  keep : ∀ b o, h.get? b = some o → h'.get? b = some o
  new : h.objs.size ≤ e
  obj : ∃ t1 : Addr, h'.get? e = some { cls := .ref C, dict := some d, data := .fields #[.ref t1, .none, .none, .none, .bool false, .none] }
  dbig : h.objs.size ≤ d
  dne : d ≠ e
  ns : h'.Ns1 d (fun y => if y = "house" then some v else none)
section
variable {prog : Program} {w : World} {A : Around} {E : Value → Shared → Prop} {R : Result → Shared → Prop} {s : Shared} {K : Frag} {mg : Str → Option Value} {cn qual : Str} {C fI : Addr}
theorem init1 (T : Txt K mg cn qual C fI) {x t0 : Addr} {v : Value} (X : K.In s.heap) (hlim : s.heap.NoLimit) (hx : s.heap.get? x = some (excO C t0)) (hroom : A.depth < recursionLimit)
    (hq : ∀ h' tk dx, Init1 s.heap h' x C dx t0 v → R (.ok (.ret .none)) { s with heap := h', toks := tk }) :
    codeAny (model prog w) A (.call (.ref fI) ⟨[.ref x, v], []⟩) R s := by
  obtain ⟨oc, od, doc, pm, an, cdv, ct, osl, p1, p2, q1, q2, q3, q4, ho, hcd⟩ := T.fn
  obtain ⟨nm, q, N, bs, bm, sn, sub, ab, col, dd, k0, k1, k2, k3, k5, hC, hbm⟩ := T.cls
  have hcl : clsIn K C = some { name := nm, bases := bs, mro := .ref C :: bm, ns := N, qualname := q, hasDict := true, slotNames := sn, subclasses := sub, abstract := ab, collection := col, hasDel := false } := by unfold clsIn; rw [hC] <;> rfl
  refine Att.call_fn (binds := [("self", .ref x), ("house", v)]) X hlim ho hcd hroom (BindsTo.of_eq (by first | rfl | with_unfolding_all rfl)) (by first | rfl | decide | with_unfolding_all rfl) (fun s₁ IC => ?_) rfl rfl rfl
  obtain ⟨h₁, tk₁, rfl⟩ := IC.toInCall.same
  have k : ∀ b o, s.heap.get? b = some o → h₁.get? b = some o := IC.toInCall.keep
  have hn := IC.toInCall.ns
  have X₁ : K.In h₁ := X.keeps k
  have hx₁ := k _ _ hx
  show wpAny _ _ (execs _ _) _ _ _
  refine wpAny_execs_cons (plainObj_wpAny_Assign_Attribute ?_)
  refine ldL (v := v) hn (by first | rfl | with_unfolding_all rfl | kernel_rfl) (ldL (v := .ref x) hn (by first | rfl | with_unfolding_all rfl | kernel_rfl) ?_)
  refine set_plain X₁ (ox := excO C t0) (od := none) ⟨hx₁, rfl, rfl, trivial⟩ T.sa ?_
  refine exc_osa X₁ hx₁ hcl (show refsVE (.ref C :: bm) = true from hbm) rfl T.noN (fun h₃ tk₃ dx k₃ dn dne hx₃ hn₃ => ?_)
  show wpAny _ _ (execs _ _) _ _ _
  have z : s.heap.objs.size < h₁.objs.size := hn.lt
  exact wpAny_execs_nil (hq h₃ tk₃ dx ⟨fun b o hb e => k₃ b o hb (k b o e), hx₃, Nat.le_of_lt (Nat.lt_of_lt_of_le z dn), dne, hn₃⟩)
theorem made1 (T : Txt K mg cn qual C fI) {v : Value} (X : K.In s.heap) (hlim : s.heap.NoLimit) (hroom : A.depth + 1 < recursionLimit)
    (hq : ∀ h' tk e d, Made1 s.heap h' e C d v → R (.ok (.ret (.ref e))) { s with heap := h', toks := tk }) :
    codeAny (model prog w) A (.call (.ref C) ⟨[v], []⟩) R s := by
  obtain ⟨nm, q, N, bs, bm, sn, sub, ab, col, dd, k0, k1, k2, k3, k5, hC, hbm⟩ := T.cls
  obtain ⟨hp, g, dr, tk, os⟩ := s
  have k : ∀ b o, hp.get? b = some o → ((hp.push (kdv_tup [v])).push (excO C hp.objs.size)).get? b = some o := fun b o e => Heap.get?_push_of_some _ (Heap.get?_push_of_some _ e)
  have hget : ((hp.push (kdv_tup [v])).push (excO C hp.objs.size)).get? (hp.objs.size + 1) = some (excO C hp.objs.size) := by heap_get
  refine call_own F.excBase_ValueError (fun X => refsVE_contains X bm hbm) (X _ _ hC) (looks_findIn X T.iC) (fun self => bind_fn X self T.tC) (sz1 v) ?_
  refine init1 (s := ⟨(hp.push (kdv_tup [v])).push (excO C hp.objs.size), g, dr, tk, os⟩) T (X.keeps k) (hlim.keeps k) hget ?_ fun h' tk' dx ⟨k', hx, dn, dne, hns⟩ => ?_
  · show A.depth + 1 < recursionLimit
    exact hroom
  · have old : ∀ b o, hp.get? b = some o → h'.get? b = some o := fun b o e => k' b o (Nat.ne_of_lt (Nat.lt_succ_of_lt (Heap.lt_size e))) (k b o e)
    have z : hp.objs.size + 1 + 1 ≤ dx := by
      first
        | (simpa only [Heap.size_push] using dn)
        | exact dn
        | (have q := dn; rw [Heap.size_push, Heap.size_push] at q; exact q)
    exact ⟨rfl, hq h' tk' (hp.objs.size + 1) dx ⟨old, Nat.le_succ _, ⟨_, hx⟩, Nat.le_trans (Nat.le_trans (Nat.le_succ _) (Nat.le_succ _)) z, dne, hns⟩⟩
end
end EXhouse
end PySem
namespace L2N
open PySem PySem.Spec PyProof.Rows L2
theorem relOhouse {v : V} {v' : Value} (r : RelV v v') (f : Str) : RelO (List.lookup f [(("house" : Str), v)]) (if f = "house" then some v' else none) := by
  by_cases hw : f = "house"
  · subst hw
    rw [if_pos rfl]
    have q : List.lookup ("house" : Str) [(("house" : Str), v)] = some v := by simp [List.lookup]
    rw [q]; exact r
  · rw [if_neg hw]
    have qw : (f == ("house" : Str)) = false := by simpa using hw
    have q2 : List.lookup f [(("house" : Str), v)] = none := by simp [List.lookup, qw]
    rw [q2]; trivial
section
variable {X : Cx} {C fI : Addr} {cn qual : Str}
theorem pmkhouse {a : Expr} {ta : TA} {p pos : Pos} {k : Nat} (T : PySem.EXhouse.Txt X.K X.mg cn qual C fI) (hr : Room k X.A) (ha : PA X [a] ta) (hg : Gl X cn) (hdb : (cn == ("__debug__" : Str)) = false := by decide)
    (he : starEach (a :: []) X.env = (false, eval a X.env) :: starEach [] X.env := by rfl) (hpl : (backTo pos (starEach [] X.env)).any (·.1) = false := by rfl) :
    PMk X (.Call (.Name cn p) [a] [] pos) (AL.tMk1 C "house" ta) := by
  intro pins s σ H Q I h
  refine wpAny_Call_Name_kw (ld_glob I hg T.gC ?_ hdb)
  refine PySem.W.callWith_K (h₀ := X.base) I.ok.mod.kin T.kC (thn (ha.run pos pins s σ H _ I h) fun us s1 hh => ?_) he hpl
  obtain ⟨vs, H1, I1, r1, v, ev, q1⟩ := hh
  subst ev
  refine ⟨I1.kIn, ?_⟩
  cases r1 with
  | cons rv rn =>
    rename_i v' us'
    cases rn
    show wpAny _ _ (call (.ref C) [v']) _ _ _
    have hlim := I1.nolimit
    obtain ⟨hp, g, dr, tk, os⟩ := s1
    refine wpAny_call (PySem.EXhouse.made1 T I1.kIn hlim (by have := hr.dp; omega) fun h' tk' e d M => ?_)
    show MkP X pins σ Q (.ref e) ⟨h', g, dr, tk', os⟩
    obtain ⟨t1, hoe⟩ := M.obj
    have hns := M.ns
    obtain ⟨G', g1, g2⟩ := restrict h' fun b => decide (b ≠ e)
    have gk : ∀ b, b ≠ e → G'.get? b = h'.get? b := fun b hb => g1 b (decide_eq_true hb)
    have ge : G'.get? e = none := g2 e (by simp)
    have old : ∀ b o, hp.get? b = some o → G'.get? b = some o := fun b o q => (gk b (Nat.ne_of_lt (Nat.lt_of_lt_of_le (Heap.lt_size q) M.new))).trans (M.keep b o q)
    have ob : ObjOk X.prog X.w (upd H1 d (.xd [(("house" : Str), v)])) G' d (.xd [(("house" : Str), v)]) :=
      ⟨_, hns.at (fun o q => (gk d M.dne).trans q), fun f => relOhouse rv f⟩
    have J : Inv X pins σ (upd H1 d (.xd [(("house" : Str), v)])) ⟨G', g, dr, tk', os⟩ := I1.laid (t' := tk') old M.dbig ob
    refine ⟨e, _, _, ⟨G', g, dr, tk', os⟩, _, .ref C, some d, rfl, J, fun b o q => ?_, ge, hoe, ⟨rfl, rfl, fun vs z => by cases z; rfl⟩, rfl, rfl, ?_, rfl, I1.bare, raises_own T.exC T.tyC, q1 d (I1.hok.fresh M.dbig)⟩
    · by_cases hb : b = e
      · have q' : G'.get? b = some o := q
        rw [hb, ge] at q'; cases q'
      · exact (gk b hb).symm.trans q
    · rw [upd_ne (Ne.symm M.dne)]
      exact I1.hok.fresh M.new
end
end L2N

set_option maxHeartbeats 4000000
namespace AL
open PySem PySem.Spec PyProof.Rows L2
/-! ### what leaves a def -/
theorem passN0 {X : Cx} : Passes (L2N.CX X.prog X.w) X E0 := fun _ _ _ _ _ _ _ ⟨_, _, _, _, _, _, _, _, _, _, _, _, z⟩ => z.elim
theorem takesN0 {X : Cx} : L2N.Takes X (fun _ _ _ _ => False) := fun _ _ ⟨_, _, _, _, _, _, _, _, _, _, _, _, _, _, _, _, z⟩ => z.elim
/-- the context is a def's own body, its wish about exceptions is E -/
structure IsDef (X : Cx) (E : XK) : Prop where
  st : X.stack = X.env :: X.outer
  fr : X.env.frame = some X.env.locals
  ex : X.ex = []
  xe : ∃ E₁, X.xe = fun e s' => wpAny (model X.prog X.w) X.A (leaving X.env e) (fun _ s'' => L2N.CX X.prog X.w X.outer X.H_0 X.s_0 E e s'') E₁ s'
theorem isDef {P : Program} {w : World} {K : PySem.W.Frag} {mg : Str → Option Value} {base : Heap} {N : List Str} {qual : Str} {sc : Scope} {f : Addr} {cd : Value} {A : Around} {outer : List Env} {s : Shared} {H : Hp} {E : XK} :
    IsDef (cxOf (L2N.CX P w) P w K mg base N qual sc f cd A outer s H E) E := ⟨rfl, rfl, rfl, _, rfl⟩
theorem IsDef.tk {X : Cx} {E : XK} (d : IsDef X E) : L2N.Takes X (fun cls d _ H => E cls d H) := by
  obtain ⟨a, b, c, E₁, e⟩ := d
  exact L2N.takes_of a b c e
theorem IsDef.own {X : Cx} {E : XK} (d : IsDef X E) : PassesOwn (model X.prog X.w) X.A X.env X.xe := by
  obtain ⟨a, b, c, E₁, e⟩ := d
  exact passes_of e
theorem IsDef.pass {X : Cx} {E : XK} (d : IsDef X E) : Passes (L2N.CX X.prog X.w) X E := L2N.passes_call d.tk fun _ _ _ _ h => h
section
variable {P : Program} {w : World} {K : PySem.W.Frag} {mg : Str → Option Value} {base : Heap}
/-- a def that may raise, by its body -/
theorem okN {x qual : Str} {st : Stmt} {f : Addr} {fd : FuncData} {N ps : List Str} {k : Nat} {sp : Sp} (F : Fun K x qual st f fd) (S : FnScope N ps (defScope st)) (len : ∀ vs H Q E, sp vs H Q E → vs.length = ps.length)
    (hb : ∀ (cdv : Value) (A : Around) (outer : List Env) (s : Shared) (H : Hp) (vs : List V) (Q : VK) (E : XK), Room k (A.deeper (envOfC qual (defScope st) s.heap.objs.size f cdv)) → sp vs H Q E → ∃ t, PSs (cxOf (L2N.CX P w) P w K mg base N qual (defScope st) f cdv A outer s H E) (defBody st) t ∧ t { nx := fun _ H' => Q .non H', rt := Q } (start N vs) H) :
    FnOk P w K mg base (L2N.CX P w) (k + 1) f fd ps sp := by
  obtain ⟨_, _, _, _, _, _, _, _, _, e, l, c⟩ := F.ex
  subst e
  exact fn_of l c S len (hb _)
end
/-- raise C(e), an own error with one field -/
theorem ps_raise1 {X : Cx} {W : WX} {e : Expr} {C : Addr} {f : Str} {ta : TA} {pos : Pos} (hc : X.calm = true) (tk : L2N.Takes X W) (he : L2N.PMk X e (tMk1 C f ta)) : PS X (.Raise (some e) none pos) (tRaise1 C f W ta) := L2N.ps_raise hc tk he
theorem ws_raise1 {c : Ct} {A : AS} {B : EA} {C : Addr} {f : Str} {E : XK} {ta : TA} (hE : ∀ σ, c.E σ = E) (h : WA c ta A fun A1 ds => ∃ d, ds = [d] ∧ c.X A1 C [(f, d)]) : WS c (tRaise1 C f (fun cls d _ H => E cls d H) ta) A B := fun F G m σ H S Eo Dc k =>
  h F G m σ H S Eo _ fun F1 m1 A1 vs H1 ds e1 p1 S1 R1 ⟨d, ed, q⟩ => by
    subst ed
    cases R1 with
    | cons rv rn =>
    rename_i v vs'
    cases rn
    refine ⟨v, rfl, fun dx hdx => ?_⟩
    have ex : Ex F1 (upd F1 dx (.xd [(f, v)])) := ex_upd (S1.h.fresh hdx).1
    have z := Eo.x _ m1 A1 σ _ C dx [(f, v)] [(f, d)] (e1.trans ex) p1 (S1.frz hdx) upd_same (.cons (Rep.mono ex (Pre.refl _) rv) .nil) q
    rw [hE] at z; exact z
/-! ### try: body, except C as e: suite -/
def tTry (K : PySem.W.Frag) (cE : Value) (i : Nat) (ts : Addr → Value → Option Addr → TS) (tb : WX → TS) : TS := fun D σ H => tb (L2.wAs K cE i ts (fun _ _ _ _ => False) D) D σ H
theorem ps_try1 {X : Cx} {x n : Str} {cE : Value} {i : Nat} {body suite : List Stmt} {b₀ : Stmt} {np pos pos' : Pos} {tb : WX → TS} {ts : Addr → Value → Option Addr → TS} (hs : X.stack = X.env :: X.outer) (hf : X.env.frame = some X.env.locals) (hN : X.N.Nodup) (hi : X.N[i]? = some n) (hln : X.env.kindOf n = some .local) (hc : Names X x cE)
    (hb : ∀ (W : WX) (pn : List (Addr × Obj)) (xe : Value → Shared → Prop), L2N.Takes (X.tr pn xe) W → PSs (X.tr pn xe) body (tb W))
    (hsu : ∀ (a : Addr) (oe : Obj) (cls : Value) (d : Option Addr) (pn : List (Addr × Obj)), Zc cls d oe → (∃ vs, oe.data = .fields vs) → PSs (X.suite a ((a, oe) :: pn)) (b₀ :: suite) (ts a cls d)) :
    PS X (.Try body [.ExceptHandler (some (.Name x np)) (some n) (b₀ :: suite) pos'] [] [] pos) (tTry X.K cE i ts tb) := L2N.ps_try_as hs hf hN hi hln hc takesN0 (fun W pn xe tk _ => hb W pn xe tk) fun a oe cls d pn hz hf => hsu a oe cls d pn hz.zc hf
/-- what the body's exception must be good for -/
def Caught (c : Ct) (cE : Value) (i : Nat) (ts : Addr → Value → Option Addr → TS) (B : EA) (A : AS) (C : Addr) (fs : List (Str × D)) : Prop :=
  PySem.W.exmOne c.K (.ref C) cE = some true ∧ ∀ a dx, WS ⟨c.K, fun _ _ _ _ => True, fun _ _ _ => False, some (dx, fs)⟩ (ts a (.ref C) (some dx)) ⟨A.s.set i (some (.val (.cls a))), A.o⟩
    ⟨fun A => B.nx ⟨A.s.set i none, A.o⟩, B.rt, fun A => B.bk ⟨A.s.set i none, A.o⟩, fun A => B.ct ⟨A.s.set i none, A.o⟩⟩
theorem ws_try {c : Ct} {A : AS} {B : EA} {cE : Value} {i : Nat} {ts : Addr → Value → Option Addr → TS} {tb : WX → TS} (h : ∀ W : WX, WS ⟨c.K, L2.WE W, Caught c cE i ts B, none⟩ (tb W) A B) : WS c (tTry c.K cE i ts tb) A B := fun F G m σ H S Eo Dc k => by
  refine h _ F G m σ H S ⟨fun F' m' A' σ' H' C dx fvs fs e p S' fx rf ⟨hm, hsu⟩ => ⟨true, hm, fun _ a na => ?_, fun z => nomatch z⟩, fun _ _ z => nomatch z⟩ Dc ⟨k.nx, k.rt, k.bk, k.ct⟩
  have gone : ∀ {F2 : Hp} {m2 : List Addr} {A2 : AS} {σ2 : L2.St} {H2 : Hp}, Sim c.K F2 G m2 A2 σ2 H2 → Sim c.K F2 G m2 ⟨A2.s.set i none, A2.o⟩ (σ2.set i none) H2 := fun S2 => ⟨S2.h, S2.s.forget⟩
  refine hsu a dx F' G m' (σ'.set i (some (.ref a))) H' ⟨S'.h, ?_⟩ ⟨fun _ _ _ _ _ _ _ _ _ _ _ _ _ _ z => z.elim, fun d2 f2 z => by cases z; exact ⟨fvs, fx, rf⟩⟩ _ ⟨fun F2 m2 A2 σ2 H2 e2 p2 S2 z => ?_, fun F2 m2 O2 v d H2 e2 p2 S2 R z => ?_, fun F2 m2 A2 σ2 H2 e2 p2 S2 z => ?_, fun F2 m2 A2 σ2 H2 e2 p2 S2 z => ?_⟩
  · have s1 := (S'.s.forget (i := i) (x := some (.ref a))).setV (i := i) (v := .ref a) (d := .cls a) (Rep.cls a)
    rw [List.set_set, List.set_set] at s1
    exact s1
  · exact k.nx F2 m2 _ _ H2 (e.trans e2) (p.trans p2) (gone S2) z
  · exact k.rt F2 m2 O2 v d H2 (e.trans e2) (p.trans p2) S2 R z
  · exact k.bk F2 m2 _ _ H2 (e.trans e2) (p.trans p2) (gone S2) z
  · exact k.ct F2 m2 _ _ H2 (e.trans e2) (p.trans p2) (gone S2) z
/-! ### calls whose exception is wished for at the caller's slots -/
section
variable {c : Ct} {A : AS} {Q : QE} {Φ : Contract} {E : L2.St → XK} {t tk : TA} {n m : Nat} {gV : List V → List V → List V}
theorem we_callS {dvs : List V} {dds : List D} (hE : ∀ σ, c.E σ = E σ) (hd : ∀ F m, Reps c.K F m dvs dds) (h : WA c t A fun A1 ds => Φ (ds ++ dds) A1.o (fun O' d => Q ⟨A1.s, O'⟩ (.val d)) (fun O' C fs => c.X ⟨A1.s, O'⟩ C fs)) : WE c (tCallSD (SpA c.K Φ) dvs E t) A Q := fun F G m σ H S Eo Qc k =>
  h F G m σ H S Eo _ fun F1 m1 A1 vs H1 ds e1 p1 S1 R1 q =>
    ⟨F1, callG A1.s σ G H1, m1, A1.o, ds ++ dds, _, _, S1.call, R1.app (hd _ _), q, fun F' m' O' v d H' e p hs r rr => k F' m' ⟨A1.s, O'⟩ v H' (.val d) (e1.trans e) (p1.trans p) (S1.back e p hs) r rr,
      fun F' m' O' C dx fvs fs H' e p hs fx rf xx => by
        have z := Eo.x F' m' ⟨A1.s, O'⟩ σ H' C dx fvs fs (e1.trans e) (p1.trans p) (S1.back e p hs) fx rf xx
        rw [hE] at z; exact z⟩
/-- f(e, .., k = v, ..) -/
def tCallNS (n m : Nat) (sp : Sp) (gV : List V → List V → List V) (E : L2.St → XK) (t tk : TA) : TE := fun σ H Q => t σ H fun vs H1 => tk σ H1 fun zs H2 => vs.length = n ∧ zs.length = m ∧ sp (gV vs zs) H2 Q (E σ)
theorem we_callNS (gD : List D → List D → List D) (hg : ∀ F mm vs zs ds es, Reps c.K F mm vs ds → Reps c.K F mm zs es → Reps c.K F mm (gV vs zs) (gD ds es)) (hE : ∀ σ, c.E σ = E σ)
    (h : WA c t A fun A1 ds => WA c tk A1 fun A2 es => ds.length = n ∧ es.length = m ∧ Φ (gD ds es) A2.o (fun O' d => Q ⟨A2.s, O'⟩ (.val d)) (fun O' C fs => c.X ⟨A2.s, O'⟩ C fs)) : WE c (tCallNS n m (SpA c.K Φ) gV E t tk) A Q := fun F G mm σ H S Eo Qc k =>
  h F G mm σ H S Eo _ fun F1 m1 A1 vs H1 ds e1 p1 S1 R1 q1 => q1 F1 G m1 σ H1 S1 (Eo.mono e1 p1) _ fun F2 m2 A2 zs H2 es e2 p2 S2 R2 ⟨l1, l2, q⟩ =>
    ⟨R1.len.trans l1, R2.len.trans l2, F2, callG A2.s σ G H2, m2, A2.o, gD ds es, _, _, S2.call, hg _ _ _ _ _ _ (R1.mono e2 p2) R2, q, fun F' m' O' v d H' e p hs r rr => k F' m' ⟨A2.s, O'⟩ v H' (.val d) ((e1.trans e2).trans e) ((p1.trans p2).trans p) (S2.back e p hs) r rr,
      fun F' m' O' C dx fvs fs H' e p hs fx rf xx => by
        have z := Eo.x F' m' ⟨A2.s, O'⟩ σ H' C dx fvs fs ((e1.trans e2).trans e) ((p1.trans p2).trans p) (S2.back e p hs) fx rf xx
        rw [hE] at z; exact z⟩
theorem we_callN {E0 : XK} (gD : List D → List D → List D) (hg : ∀ F mm vs zs ds es, Reps c.K F mm vs ds → Reps c.K F mm zs es → Reps c.K F mm (gV vs zs) (gD ds es))
    (h : WA c t A fun A1 ds => WA c tk A1 fun A2 es => ds.length = n ∧ es.length = m ∧ Φ (gD ds es) A2.o (fun O' d => Q ⟨A2.s, O'⟩ (.val d)) (fun _ _ _ => False)) : WE c (tCallN n m (SpA c.K Φ) gV E0 t tk) A Q := fun F G mm σ H S Eo Qc k =>
  h F G mm σ H S Eo _ fun F1 m1 A1 vs H1 ds e1 p1 S1 R1 q1 => q1 F1 G m1 σ H1 S1 (Eo.mono e1 p1) _ fun F2 m2 A2 zs H2 es e2 p2 S2 R2 ⟨l1, l2, q⟩ =>
    ⟨R1.len.trans l1, R2.len.trans l2, F2, callG A2.s σ G H2, m2, A2.o, gD ds es, _, _, S2.call, hg _ _ _ _ _ _ (R1.mono e2 p2) R2, q, fun F' m' O' v d H' e p hs r rr => k F' m' ⟨A2.s, O'⟩ v H' (.val d) ((e1.trans e2).trans e) ((p1.trans p2).trans p) (S2.back e p hs) r rr, fun _ _ _ _ _ _ _ _ _ _ _ _ _ xx => xx.elim⟩
end
section
variable {X : Cx} {CX : CXT} {k n : Nat} {f : Addr} {fd : FuncData} {ps ks : List Str} {sp : Sp} {E : L2.St → XK} {x : Str} {p pos : Pos} {e : Expr} {es : List Expr} {kws : List Keyword} {t tk : TA} {g : List Value → List Value → List Value} {gV : List V → List V → List V}
theorem pe_callNS (G : FnOk X.prog X.w X.K X.mg X.base CX k f fd ps sp) (hr : Room k X.A) (hg : Gl X x) (hm : X.mg x = some (.ref f)) (hk : PySem.W.keepIn X.K (.ref f) = true) (hb : KBn X.K fd ps n ks g gV) (hx : ∀ σ, PassesAt CX X σ (E σ)) (ha : PA X (e :: es) t) (hkw : PK X kws tk)
    (h1 : (backToKw pos (keywordEach kws X.env)).all (·.1.isSome) = true := by rfl) (h2 : (backToKw pos (keywordEach kws X.env)).filterMap (·.1) = ks := by rfl) (h3 : (x == ("__debug__" : Str)) = false := by decide) (h4 : starEach (e :: es) X.env = (false, eval e X.env) :: starEach es X.env := by rfl)
    (h5 : ((backTo pos (starEach (e :: es) X.env)).any (·.1) || (backToKw pos (keywordEach kws X.env)).any (·.1.isNone)) = false := by rfl) : PE X (.Call (.Name x p) (e :: es) kws pos) (tCallNS n ks.length sp gV E t tk) :=
  ⟨fun pins s σ H Q I h => wpAny_Call_Name_kw (ld_glob I hg hm (PySem.W.callWith_KW (h₀ := X.base) I.ok.mod.kin hk h1 (thn (ha.run pos pins s σ H _ I h) fun us s1 ⟨vs, H1, I1, r, q⟩ => thn (hkw.run pos pins s1 σ H1 _ I1 q) fun ws s2 ⟨zs, H2, I2, rz, l1, l2, q2⟩ => ⟨I2.kIn, by
    rw [h2]
    refine wpAny_call (codeAny_mono (G.run X.A X.stack s2 H2 ⟨us, ks.zip ws⟩ _ _ Q (E σ) hr I2.env0 (hb.to s2 us ws I2.kIn (r.length.symm.trans l1) (rz.length.symm.trans l2)) (hb.rel r rz) q2) fun y s' hq => ?_)
    match y, hq with
    | .error z, hq => exact hx σ pins H2 s2 z s' I2 hq
    | .ok (.ret u), hq => exact I2.after hq⟩) h5 h4) h3)⟩
end
/-! ### defs called where nothing shows itself (no repr is under way) -/
structure FnG (P : Program) (w : World) (K : PySem.W.Frag) (mg : Str → Option Value) (base : Heap) (CX : CXT) (k : Nat) (f : Addr) (fd : FuncData) (ps : List Str) (sp : Sp) : Prop where
  len : ∀ vs H Q E, sp vs H Q E → vs.length = ps.length
  go : ∀ (A : Around) (outer : List Env) (s : Shared) (H : Hp) (args : Args) (us : List Value) (vs : List V) (Q : VK) (E : XK), Room k A → A.guards = some [] → Env0 P w K mg base A outer s H → BindsTo s fd args (ps.zip us) → Vals vs us → sp vs H Q E → codeAny (model P w) A (.call (.ref f) args) (CR CX outer P w H s Q E) s
theorem FnG.mono {P : Program} {w : World} {K : PySem.W.Frag} {mg : Str → Option Value} {base : Heap} {CX : CXT} {j k : Nat} {f : Addr} {fd : FuncData} {ps : List Str} {sp : Sp} (F : FnG P w K mg base CX j f fd ps sp) (h : j ≤ k) : FnG P w K mg base CX k f fd ps sp := ⟨F.len, fun A outer s H args us vs Q E hr => F.go A outer s H args us vs Q E (hr.mono h)⟩
section
variable {P : Program} {w : World} {K : PySem.W.Frag} {mg : Str → Option Value} {base : Heap}
theorem okG {x qual : Str} {st : Stmt} {f : Addr} {fd : FuncData} {N ps : List Str} {k : Nat} {sp : Sp} (F : Fun K x qual st f fd) (S : FnScope N ps (defScope st)) (len : ∀ vs H Q E, sp vs H Q E → vs.length = ps.length)
    (hb : ∀ (cdv : Value) (A : Around) (outer : List Env) (s : Shared) (H : Hp) (vs : List V) (Q : VK) (E : XK), Room k (A.deeper (envOfC qual (defScope st) s.heap.objs.size f cdv)) → A.guards = some [] → sp vs H Q E → ∃ t, PSs (cxOf CX0 P w K mg base N qual (defScope st) f cdv A outer s H E).nox (defBody st) t ∧ t { nx := fun _ H' => Q .non H', rt := Q } (start N vs) H) :
    FnG P w K mg base CX0 (k + 1) f fd ps sp := by
  obtain ⟨_, _, _, _, _, _, cdv, _, _, e, lk, hcd⟩ := F.ex
  subst e
  refine ⟨len, fun A outer s H args us vs Q E hr hg e0 ba r hsp => ?_⟩
  have kX : K.In s.heap := e0.mod.kin.keeps fun b o z => (e0.bs b o z).1
  obtain ⟨t, ht, hq⟩ := hb cdv A outer s H vs Q E (hr.deeper _) hg hsp
  refine codeAny_call_function hr.depth (kX _ _ lk) rfl S.co S.gen rfl (PySem.W.codeRec_of kX hcd) (ba _ _ _ _ (wpAny_newFunctionEnv_cells S.kind (fun yv hy => (S.par yv.1 (List.of_mem_zip (show (yv.1, yv.2) ∈ _ from hy)).1).imp id fun q => ⟨q, PySem.W.cellsFrom_some _ _ _ (.inl q)⟩) fun env he s1 z => ?_))
  subst he
  refine ⟨(e0.mod.nolimit.keeps fun b o z => (e0.bs b o z).1).keeps z.toInCall.keep, codeAny_func (wpAny_mono (ht.nox.run [] s1 (start N vs) H _ (inv_start S hr.hd e0 (len _ _ _ _ hsp) r z) hq) (fun fl s' y => ?_) fun _ _ y => y)⟩
  match fl, y with
  | .ret u, ⟨v, _, H', J, rv, q⟩ => exact ⟨v, H', J.os, J.bare, J.base, J.hok, rv, q⟩
  | .next, ⟨_, H', J, q⟩ => exact ⟨.non, H', J.os, J.bare, J.base, J.hok, rfl, q⟩
  | .brk, ⟨_, _, _, q⟩ => exact q.elim
  | .cont, ⟨_, _, _, q⟩ => exact q.elim
end
theorem pe_callG {X : Cx} {CX : CXT} {k : Nat} {f : Addr} {fd : FuncData} {ps : List Str} {sp : Sp} {E : XK} {x : Str} {p pos : Pos} {e : Expr} {es : List Expr} {t : TA} (G : FnG X.prog X.w X.K X.mg X.base CX k f fd ps sp) (hr : Room k X.A) (hd : X.A.guards = some []) (hg : Gl X x) (hm : X.mg x = some (.ref f)) (hk : PySem.W.keepIn X.K (.ref f) = true) (hb : Binds X.K fd ps []) (hx : Passes CX X E) (ha : PA X (e :: es) t)
    (h3 : (x == ("__debug__" : Str)) = false := by decide) (h4 : starEach (e :: es) X.env = (false, eval e X.env) :: starEach es X.env := by rfl) (h5 : (backTo pos (starEach es X.env)).any (·.1) = false := by rfl) : PE X (.Call (.Name x p) (e :: es) [] pos) (tCall sp [] E t) :=
  ⟨fun pins s σ H Q I h => wpAny_Call_Name_kw (ld_glob I hg hm (PySem.W.callWith_K (h₀ := X.base) I.ok.mod.kin hk (thn (ha.run pos pins s σ H _ I h) fun us s1 ⟨vs, H1, I1, r, q⟩ => ⟨I1.kIn, by
    have q : sp vs H1 Q E := by simpa using q
    have bl := hb s1 us I1.kIn (by rw [List.append_nil, ← r.length]; exact G.len _ _ _ _ q)
    rw [List.append_nil] at bl
    refine wpAny_call (codeAny_mono (G.go X.A X.stack s1 H1 ⟨us, []⟩ us vs Q E hr hd I1.env0 bl r q) fun y s' hq => ?_)
    match y, hq with
    | .error z, hq => exact hx pins σ H1 s1 z s' I1 hq
    | .ok (.ret u), hq => exact I1.after hq⟩) h4 h5) h3)⟩
/-! ### in an except suite -/
/-- what an own error's class must say -/
structure ExC (K : PySem.W.Frag) (D : Addr) : Prop where
  cl : (PySem.W.clsIn K D).isSome = true
  ga : PySem.W.findIn K (.ref D) "__getattribute__" = some (some (.builtin "BaseException.__getattribute__"))
  gg : PySem.W.findIn K (.ref D) "__getattr__" = some none
  su : PySem.W.subIn K (.ref D) (.type "BaseException") = some true
  ca : PySem.W.findIn K (.ref D) "__class__" = some (some (.builtin "object.__class__"))
  cg : PySem.W.specialIn K (.builtin "object.__class__") "__get__" = some (some (.builtin "getset_descriptor.__get__"))
  tk : PySem.W.takesIn K (.builtin "object.__class__") = some true
  mo : PySem.W.mroIn K D (.type "object") = some true
  hd : PySem.W.hasDictIn K D = true
/-- isinstance(e, c), e the exception that the suite holds -/
def rIsX (K : PySem.W.Frag) (a : Addr) (cls : Value) (d : Option Addr) : List V → Hp → VK → Prop := fun xs H Q => ∃ (D dd : Addr) (fs : List (Str × V)) (z : V) (b : Bool), cls = .ref D ∧ d = some dd ∧ ExC K D ∧ H dd = some (.xd fs) ∧ xs = [.ref a, z] ∧
  ((∃ cv : Value, (∀ u, RelV z u → u = cv) ∧ PySem.W.kitOne K (.ref D) cv = some b) ∨ (∃ (tp : Addr) (vs : List V), z = .ref tp ∧ PTup K H tp vs ∧ ∀ us, Vals vs us → PySem.W.kitAny K (.ref D) us = some b)) ∧ Q (.bl b) H
theorem call_isX {X : Cx} {a : Addr} {oe : Obj} {cls : Value} {d : Option Addr} {pn : List (Addr × Obj)} (hz : Zc cls d oe) (hf : ∃ vs, oe.data = .fields vs) : CallR (X.suite a ((a, oe) :: pn)) (.builtin "isinstance") (rIsX X.K a cls d) := by
  intro pins s σ H xs us Q I r h
  obtain ⟨D, dd, fs, z, b, rfl, rfl, C, hx, rfl, e, q⟩ := h
  match us, r with
  | [_, u], .cons rx (.cons rt .nil) =>
    cases rx
    have hget := (I.pin (a, oe) (List.mem_append.mpr (.inl List.mem_cons_self))).1
    obtain ⟨vs, hv⟩ := hf
    obtain ⟨mA, hns, _⟩ : ObjOk X.prog X.w H s.heap dd (.xd fs) := I.hok dd _ hx
    obtain ⟨od, ho, _⟩ := lookIn_ns hns
    have J : PySem.W.InstAt s.heap a oe D (some od) := ⟨hget, hz.1, by unfold PySem.W.notCls; rw [hv] <;> rfl, by rw [hz.2]; exact ho⟩
    have kx := PySem.W.kitx_exc (x := a) (ox := oe) (od := some od) C.cl C.ga C.gg C.su C.ca C.cg C.tk C.mo
    rcases e with ⟨cv, hcv, e⟩ | ⟨tp, vs, rfl, ht, e⟩
    · have eu := hcv _ rt
      subst eu
      exact PySem.W.kia_one kx I.kIn J e (fun y => nomatch y) fun tk => ⟨.bl b, H, I.kept (t' := tk) fun _ _ y => y, rfl, q⟩
    · cases rt
      rcases ht with ⟨its, ht⟩ | ⟨its, n, sl, lk, _, rv⟩
      case inr =>
        obtain ⟨its⟩ := its
        exact PySem.W.kia_tup kx I.kIn J (I.kIn _ _ lk) (e its rv) (fun y => nomatch y) fun tk => ⟨.bl b, H, I.kept (t' := tk) fun _ _ y => y, rfl, q⟩
      obtain ⟨go, _, us, rv, ob, eo, _, n, ed⟩ := I.hok tp _ ht
      have eb : tupObj its = ob := Option.some.inj (go.symm.trans eo)
      subst eb
      have ed' : Data.seq its.toArray = Data.seq us.toArray n := ed
      cases ed'
      exact PySem.W.kia_tup kx I.kIn J (n := 0) (sl := #[]) go (e its rv) (fun y => nomatch y) fun tk => ⟨.bl b, H, I.kept (t' := tk) fun _ _ y => y, rfl, q⟩
theorem reps_cls {K : PySem.W.Frag} {F : Hp} {m : List Addr} : ∀ {Cs : List Addr} {vs : List V}, Reps K F m vs (Cs.map .cls) → vs = Cs.map .ref
  | [], _, .nil => rfl
  | _ :: _, _, .cons (.cls _) r => by rw [reps_cls r]; rfl
theorem vals_refs : ∀ {Cs : List Addr} {us : List Value}, Vals (Cs.map V.ref) us → us = Cs.map .ref
  | [], _, .nil => rfl
  | C :: Cs, _, .cons r rr => by
    have e : _ = Value.ref C := r
    rw [e, vals_refs rr]; rfl
section
variable {c : Ct} {A : AS} {Q : QE} {a C dd : Addr} {fs : List (Str × D)} {b : Bool}
theorem cb_isC {C2 : Addr} (hv : c.hv = some (dd, fs)) (x : ExC c.K C) (h : PySem.W.kitOne c.K (.ref C) (.ref C2) = some b) (q : Q A (.val (.bl b))) : CbD c (rIsX c.K a (.ref C) (some dd)) [.val (.cls a), .val (.cls C2)] A Q := fun F G m σ H vs S E R Qc k => by
  obtain ⟨v, w, rfl, R1, R2⟩ := rs2 R
  cases R1; cases R2
  obtain ⟨fvs, z1, z2⟩ := E.h dd fs hv
  exact ⟨C, dd, fvs, _, b, rfl, rfl, x, S.h.exF _ _ z1, rfl, .inl ⟨.ref C2, fun u y => y, h⟩, k F m A _ H (.val (.bl b)) (Evl.Ex.refl F) (Pre.refl m) S (Rep.bl b) q⟩
theorem cb_isT {n : String} (hv : c.hv = some (dd, fs)) (x : ExC c.K C) (h : PySem.W.kitOne c.K (.ref C) (.type n) = some b) (q : Q A (.val (.bl b))) : CbD c (rIsX c.K a (.ref C) (some dd)) [.val (.cls a), .val (.ty n)] A Q := fun F G m σ H vs S E R Qc k => by
  obtain ⟨v, w, rfl, R1, R2⟩ := rs2 R
  cases R1; cases R2
  obtain ⟨fvs, z1, z2⟩ := E.h dd fs hv
  exact ⟨C, dd, fvs, _, b, rfl, rfl, x, S.h.exF _ _ z1, rfl, .inl ⟨.type n, fun u y => y, h⟩, k F m A _ H (.val (.bl b)) (Evl.Ex.refl F) (Pre.refl m) S (Rep.bl b) q⟩
theorem cb_isS (Cs : List Addr) (hv : c.hv = some (dd, fs)) (x : ExC c.K C) (h : PySem.W.kitAny c.K (.ref C) (Cs.map .ref) = some b) (q : Q A (.val (.bl b))) : CbD c (rIsX c.K a (.ref C) (some dd)) [.val (.cls a), .val (.tup (Cs.map .cls))] A Q := fun F G m σ H vs S E R Qc k => by
  obtain ⟨v, w, rfl, R1, R2⟩ := rs2 R
  cases R1
  cases R2 with
  | tup pt rv =>
    have ev := reps_cls rv
    subst ev
    obtain ⟨fvs, z1, z2⟩ := E.h dd fs hv
    exact ⟨C, dd, fvs, _, b, rfl, rfl, x, S.h.exF _ _ z1, rfl, .inr ⟨_, _, rfl, pt.mono S.h.exF, fun us y => by rw [vals_refs y]; exact h⟩, k F m A _ H (.val (.bl b)) (Evl.Ex.refl F) (Pre.refl m) S (Rep.bl b) q⟩
/-- e.f -/
theorem we_xf {f : Str} {d : D} {i : Nat} (hi : A.s[i]? = some (some (.val (.cls a)))) (hv : c.hv = some (dd, fs)) (hl : fs.lookup f = some d) (q : Q A (.val d)) : WE c (tXf a (.ref C) (some dd) C f (tVar i)) A Q := fun F G m σ H S E Qc k => by
  obtain ⟨v, e, r⟩ := S.s.valAt hi
  cases r
  obtain ⟨fvs, z1, z2⟩ := E.h dd fs hv
  obtain ⟨v, l, r⟩ := z2.look hl
  exact ⟨_, e, rfl, rfl, dd, fvs, v, rfl, S.h.exF _ _ z1, l, k F m A v H (.val d) (Evl.Ex.refl F) (Pre.refl m) S r q⟩
end
/-! ### repr -/
/-- what is shown as it stands, without end -/
def Shows (p : PyData) : Prop := p.showable = true ∧ p.hasDict = false ∧ p.depth ≤ 50 ∧ p.shown.length ≤ sizeLine ∧ match p with
  | .int a => a.natAbs.log2 < 1920
  | _ => True
def rRepr (K : PySem.W.Frag) : List V → Hp → VK → Prop := fun xs H Q => ∃ (v : V) (p : PyData), xs = [v] ∧ Dp K H v p ∧ Shows p ∧ Q (.str p.shown) H
theorem call_repr {X : Cx} (hg : X.A.guards = some []) (hu : X.A.units + 64 < cLine) : CallR X (.builtin "repr") (rRepr X.K) := by
  intro pins s σ H xs us Q I r h
  obtain ⟨v, p, rfl, dp, ⟨h1, h2, h3, h4, h5⟩, q⟩ := h
  match us, r with
  | [u], .cons rx .nil =>
    cases dp with
    | non => cases rx; exact PySem.P.repr_of_none ⟨.str _, H, I.tok _, ⟨_, rfl⟩, q⟩
    | bl b => cases rx; exact PySem.P.repr_of_bool ⟨.str _, H, I.tok _, ⟨_, rfl⟩, by cases b <;> exact q⟩
    | int i =>
      obtain ⟨t, rfl⟩ := rx
      exact PySem.P.repr_of_int h5 ⟨.str _, H, I.tok _, ⟨_, rfl⟩, q⟩
    | str x =>
      obtain ⟨t, rfl⟩ := rx
      exact PySem.P.repr_of_str ⟨.str _, H, I.tok _, ⟨_, rfl⟩, q⟩ h4
    | lst a b =>
      obtain ⟨as, rd⟩ := Dp.reads I _ _ _ (.lst a b) rx
      cases rx
      exact PySem.repr_of_reads' rd h1 (fun y => by rw [h2] at y; cases y) hg (by omega) (fun _ _ y => y) (fun h' tk tk2 k => ⟨.str _, H, I.kept (h' := h') (t' := tk2) k, ⟨_, rfl⟩, q⟩) h4
    | tup a b =>
      obtain ⟨as, rd⟩ := Dp.reads I _ _ _ (.tup a b) rx
      cases rx
      exact PySem.repr_of_reads' rd h1 (fun y => by rw [h2] at y; cases y) hg (by omega) (fun _ _ y => y) (fun h' tk tk2 k => ⟨.str _, H, I.kept (h' := h') (t' := tk2) k, ⟨_, rfl⟩, q⟩) h4
theorem cb_repr {c : Ct} {A : AS} {Q : QE} {d : D} {p : PyData} (hp : Py d p) (hs : Shows p) (q : Q A (.val (.str p.shown))) : CbD c (rRepr c.K) [.val d] A Q := fun F G m σ H vs S E R Qc k => by
  obtain ⟨v, rfl, R1⟩ := rs1 R
  exact ⟨v, p, rfl, Py.dp S.h.exF hp R1, hs, k F m A _ H (.val (.str p.shown)) (Evl.Ex.refl F) (Pre.refl m) S (Rep.str _) q⟩
/-! ### the law's own call -/
section
variable {P : Program} {w : World} {K : PySem.W.Frag} {mg mb : Str → Option Value} {k : Nat} {fa a : Addr} {fd : FuncData} {x : Str} {sp : Sp} {z : Shared} {us : List Value} {ns : List Int}
/-- the wished end of the law's call -/
def EndG (z : Shared) (r : Result) (z' : Shared) : Prop := r = .ok (.ret (.bool true)) ∧ OldK z.heap z'.heap ∧ z'.os = z.os ∧ AllBare z'.gens
theorem coreG (KX : K.In z.heap) (hns : z.heap.Ns mainGlobals mg) (hb : z.heap.Ns builtinsNs mb) (hbb : ∀ y : Str, y ≠ "__name__" → mb y = bootBuiltins y) (hlim : z.heap.NoLimit) (hg : z.gens = #[]) (ha : z.heap.get? a = some { cls := .type "list", data := .seq us.toArray }) (hr : Room k callerA)
    (F : ∀ base : Heap, K.In base → base.Ns mainGlobals mg → FnG P w K mg base CX0 k fa fd [x] sp) (hbind : ∀ (s : Shared) (u : Value), BindsTo s fd ⟨[u], []⟩ [(x, u)]) {H : Hp} (hO : Only H) (hsp : sp [.ref a] H (fun v _ => v = .bl true) fun _ _ _ => False) (ok : HOk P w H z.heap)
    (hA : ∀ b, H b ≠ none → b = a) (hK : H a ≠ none → K.lookup a = none) : codeAny (model P w) callerA (.call (.ref fa) ⟨[.ref a], []⟩) (EndG z) z := by
  have ofN : ∀ {b : Addr}, (b = a → H b = none) → H b = none := fun {b} f => by
    by_cases y : H b = none
    · exact y
    · exact f (hA b y)
  have nsB : ∀ {b : Addr} {m : Str → Option Value}, z.heap.Ns b m → (hidT z.heap H).Ns b m := fun {b m} ⟨o, es, ep, e1, e2, e3⟩ => ⟨o, es, ep, hidT_get e1 (ofN fun y => by
    subst y
    rw [ha] at e1
    cases e1
    cases (show Data.seq us.toArray _ = Data.dict es ep from e2)), e2, e3⟩
  have kB : K.In (hidT z.heap H) := fun b o e => hidT_get (KX b o e) (ofN fun y => by
    subst y
    by_cases y : H b = none
    · exact y
    · rw [hK y] at e; cases e)
  obtain ⟨mc, l1, l2⟩ := hlim
  have env : Env0 P w K mg (hidT z.heap H) callerA [] z H := ⟨rfl, ⟨kB, nsB hns, ⟨mb, nsB hb, hbb⟩, ⟨mc, nsB l1, l2⟩⟩, fun b o e => of_hidT e, Nat.le_of_eq (hidT_size _ _), trivial, fun b y => absurd (show b ∈ ([] : List Addr) from y) (List.not_mem_nil), ok, AllBare.of_eq hg⟩
  refine codeAny_mono ((F _ kB (nsB hns)).go callerA [] z H ⟨[.ref a], []⟩ [.ref a] [.ref a] _ _ hr rfl env (hbind z (.ref a)) (.cons rfl .nil) hsp) fun r z' y => ?_
  match r, y with
  | .ok (.ret u), ⟨v, H', os, bare, un, ok', rv, q⟩ =>
    obtain rfl : v = .bl true := q
    obtain rfl : u = Value.bool true := rv
    refine ⟨rfl, OldK.of_keep fun b o e => ?_, os, bare⟩
    rcases hO b with y | ⟨ob, xs, y⟩
    · exact un.keep b o e y (fun y => absurd (show b ∈ ([] : List Addr) from y) (List.not_mem_nil)) (by simp)
    · have e1 := (ok b _ y).1
      have e2 := (ok' b _ (un.frzs b ob _ y)).1
      rw [e] at e1
      cases e1
      exact e2
theorem law_callG (KX : K.In z.heap) (hns : z.heap.Ns mainGlobals mg) (hb : z.heap.Ns builtinsNs mb) (hbb : ∀ y : Str, y ≠ "__name__" → mb y = bootBuiltins y) (hlim : z.heap.NoLimit) (hg : z.gens = #[]) (ha : z.heap.get? a = some { cls := .type "list", data := .seq us.toArray }) (hi : IntsAre us ns) (hl : ns.length ≤ sizeLine) (hr : Room k callerA)
    (F : ∀ base : Heap, K.In base → base.Ns mainGlobals mg → FnG P w K mg base CX0 k fa fd [x] sp) (hbind : ∀ (s : Shared) (u : Value), BindsTo s fd ⟨[u], []⟩ [(x, u)]) (hsp : ∀ H : Hp, Only H → SqL K H a (ns.map V.int) → sp [.ref a] H (fun v _ => v = .bl true) fun _ _ _ => False) :
    codeAny (model P w) callerA (.call (.ref fa) ⟨[.ref a], []⟩) (EndG z) z := by
  have rv := vals_ints hi
  cases e : K.lookup a with
  | some o =>
    have e2 := KX a o e
    rw [ha] at e2
    cases e2
    have hO : Only (fun _ => none) := fun _ => .inl rfl
    exact coreG KX hns hb hbb hlim hg ha hr F hbind hO (hsp _ hO (.inr ⟨_, us.toArray, _, e, rfl, rfl, rfl, by rw [List.size_toArray, hi.length]; exact hl, by simpa using rv⟩)) (fun b u y => by cases (show (none : Option HO) = some u from y)) (fun b y => absurd rfl y) fun y => absurd rfl y
  | none =>
    let L : HO := .frz { cls := .type "list", data := .seq us.toArray } (.lst (ns.map V.int))
    have at_ : ∀ b u, upd (fun _ => none) a L b = some u → b = a ∧ u = L := fun b u y => by
      by_cases q : b = a
      · subst q; rw [upd_same] at y; cases y; exact ⟨rfl, rfl⟩
      · rw [upd_ne q] at y; cases (show (none : Option HO) = some u from y)
    have hO : Only (upd (fun _ => none) a L) := fun b => by
      cases q : upd (fun _ => none) a L b with
      | none => exact .inl rfl
      | some u => exact .inr ⟨_, _, by rw [(at_ b u q).2]⟩
    refine coreG KX hns hb hbb hlim hg ha hr F hbind hO (hsp _ hO (.inl (.inr ⟨_, upd_same⟩))) (fun b u y => ?_) (fun b y => ?_) fun _ => e
    · obtain ⟨y1, y2⟩ := at_ b u y
      subst y1; subst y2
      exact ⟨ha, by rw [List.length_map]; exact hl, us, _, rv, ha⟩
    · cases q : upd (fun _ => none) a L b with
      | none => exact absurd q y
      | some u => exact (at_ b u q).1
end
theorem walk_ofG {l : PySem.W.OpenLaw} {n k : Nat} {q : Program} {loose : List Str} {XP : (Str → Option Value) → Heap → Prop} {YP : World → Heap → Prop} {d : DefRec} {K : Params → PySem.W.Frag} {sp : World → Sp} {x : Str} (hn : l.most = some n) (hn2 : n ≤ sizeLine) (hdf : d.params.defaults = []) (hr : Room k callerA)
    (hY : ∀ (w : World) (h : Heap), YP w h → (K w.params).In h)
    (F : ∀ (w : World) (mg : Str → Option Value) (fa : Addr) (h : Heap), (K w.params).In h → h.Ns mainGlobals mg → mg d.name = some (.ref fa) → ∃ fd : FuncData, (∀ (s : Shared) (u : Value), BindsTo s fd ⟨[u], []⟩ [(x, u)]) ∧ ∀ base : Heap, (K w.params).In base → base.Ns mainGlobals mg → FnG l.prog w (K w.params) mg base CX0 k fa fd [x] (sp w))
    (hsp : ∀ (w : World) (H : Hp) (a : Addr) (ns : List Int), ns.length ≤ n → Only H → SqL (K w.params) H a (ns.map V.int) → sp w [.ref a] H (fun v _ => v = .bl true) fun _ _ _ => False) : PySem.W.WalkO q loose XP YP l.row.toRowW d [] (fun f vs => PySem.call f vs) := by
  refine Att.attach_call hn hdf fun w s₀ s₁ mg mb fa o pm cd doc a vs ns G Y ho hd hcd hmg hobj hints hlen hg => ?_
  obtain ⟨fd, hb, hF⟩ := F w mg fa _ (hY w _ Y) G.T.g hmg
  exact law_callG (hY w _ Y) G.T.g G.T.b G.T.builtins G.T.nolimit hg hobj hints (Nat.le_trans hlen hn2) hr hF hb fun H hO hS => hsp w H a ns hlen hO hS
theorem call_reprK {X : Cx} {K : PySem.W.Frag} (hK : X.K = K) (hg : X.A.guards = some []) (hu : X.A.units + 64 < cLine) : CallR X (.builtin "repr") (rRepr K) := hK ▸ call_repr hg hu
theorem call_isXK {X : Cx} {K : PySem.W.Frag} {a : Addr} {oe : Obj} {cls : Value} {d : Option Addr} {pn : List (Addr × Obj)} (hK : X.K = K) (hz : Zc cls d oe) (hf : ∃ vs, oe.data = .fields vs) : CallR (X.suite a ((a, oe) :: pn)) (.builtin "isinstance") (rIsX K a cls d) := hK ▸ call_isX hz hf
theorem ps_try1K {X : Cx} {K : PySem.W.Frag} {x n : Str} {cE : Value} {i : Nat} {body suite : List Stmt} {b₀ : Stmt} {np pos pos' : Pos} {tb : WX → TS} {ts : Addr → Value → Option Addr → TS} (hK : X.K = K) (hs : X.stack = X.env :: X.outer) (hf : X.env.frame = some X.env.locals) (hN : X.N.Nodup) (hi : X.N[i]? = some n) (hln : X.env.kindOf n = some .local) (hc : Names X x cE)
    (hb : ∀ (W : WX) (pn : List (Addr × Obj)) (xe : Value → Shared → Prop), L2N.Takes (X.tr pn xe) W → PSs (X.tr pn xe) body (tb W))
    (hsu : ∀ (a : Addr) (oe : Obj) (cls : Value) (d : Option Addr) (pn : List (Addr × Obj)), Zc cls d oe → (∃ vs, oe.data = .fields vs) → PSs (X.suite a ((a, oe) :: pn)) (b₀ :: suite) (ts a cls d)) :
    PS X (.Try body [.ExceptHandler (some (.Name x np)) (some n) (b₀ :: suite) pos'] [] [] pos) (tTry K cE i ts tb) := hK ▸ ps_try1 hs hf hN hi hln hc hb hsu
theorem we_callX0 {c : Ct} {A : AS} {Q : QE} {Φ : Contract} {E : XK} {t : TA} (hE : ∀ σ, c.E σ = E) (h : WA c t A fun A1 ds => Φ ds A1.o (fun O' d => Q ⟨A1.s, O'⟩ (.val d)) (fun O' C fs => c.X ⟨A1.s, O'⟩ C fs)) : WE c (tCall (SpA c.K Φ) [] E t) A Q :=
  we_callX (dds := []) hE (fun _ _ => .nil) (by simpa using h)
theorem we_callS0 {c : Ct} {A : AS} {Q : QE} {Φ : Contract} {E : L2.St → XK} {t : TA} (hE : ∀ σ, c.E σ = E σ) (h : WA c t A fun A1 ds => Φ ds A1.o (fun O' d => Q ⟨A1.s, O'⟩ (.val d)) (fun O' C fs => c.X ⟨A1.s, O'⟩ C fs)) : WE c (tCallSD (SpA c.K Φ) [] E t) A Q :=
  we_callS (dds := []) hE (fun _ _ => .nil) (by simpa using h)
end AL

set_option maxHeartbeats 4000000
namespace AL
open PySem PySem.Spec PyProof.Rows L2
/-! ### an own list that is given back, and taken -/
mutual
inductive Plain : D → Prop where
  | non : Plain .non
  | bl (b : Bool) : Plain (.bl b)
  | int (i : Int) : Plain (.int i)
  | str (x : Str) : Plain (.str x)
  | tup {ds : List D} : Plains ds → Plain (.tup ds)
inductive Plains : List D → Prop where
  | nil : Plains []
  | cons {d : D} {ds : List D} : Plain d → Plains ds → Plains (d :: ds)
end
theorem plains_map {α : Type} {f : α → D} (h : ∀ a, Plain (f a)) : ∀ xs : List α, Plains (xs.map f)
  | [] => .nil
  | x :: xs => .cons (h x) (plains_map h xs)
section
variable {K : PySem.W.Frag} {F : Hp} {m m' : List Addr}
mutual
theorem Plain.any : ∀ {d : D} {v : V}, Plain d → Rep K F m v d → Rep K F m' v d
  | _, _, .non, .non => .non
  | _, _, .bl b, .bl _ => .bl b
  | _, _, .int i, .int _ => .int i
  | _, _, .str x, .str _ => .str x
  | _, _, .tup h, .tup a r => .tup a (Plains.any h r)
theorem Plains.any : ∀ {d : List D} {v : List V}, Plains d → Reps K F m v d → Reps K F m' v d
  | _, _, .nil, .nil => .nil
  | _, _, .cons h t, .cons a r => .cons (Plain.any h a) (Plains.any t r)
end
end
def AllGone (O : List Cell) : Prop := ∀ c ∈ O, c = Cell.gone
theorem allGone_rep (j : Nat) : AllGone (List.replicate j .gone) := fun _ h => List.eq_of_mem_replicate h
theorem AllGone.noLst {O : List Cell} (h : AllGone O) : NoLstO O := fun c hc => by rw [h c hc]; exact .gone
section
variable {c : Ct} {A : AS}
theorem wn_takeOwn {i : Nat} {ds : List D} {Q : AS → List D → Prop} (h : A.s[i]? = some (some (.own (.lst ds)))) (q : Q ⟨A.s.set i none, A.o⟩ ds) : WN c (tVar i) A Q := fun F G m σ H S E Qc k => by
  obtain ⟨a, e, _, f, g, mm, vs, hv, rv⟩ := S.s.ownAt h
  refine ⟨.ref a, e, k F m ⟨A.s.set i none, A.o⟩ a vs H ds (Evl.Ex.refl F) (Pre.refl m) ⟨S.h, S.s.forget1 i⟩ f g mm (fun ⟨j, c', z1, z2⟩ => ?_) hv rv q⟩
  by_cases y : i = j
  · subst y
    have z1 : (A.s.set i none)[i]? = some (some (.own c')) := z1
    rw [List.getElem?_set_self (List.getElem?_eq_some_iff.mp h).1] at z1
    cases z1
  · have z1 : (A.s.set i none)[j]? = some (some (.own c')) := z1
    rw [List.getElem?_set_ne y] at z1
    exact S.s.own i j _ _ _ y h z1 e z2
theorem last_one {m m' : List Addr} {n : Nat} (p : Pre m m') (l : m.length = n) (l' : m'.length = n + 1) : ∃ a, m' = m ++ [a] := by
  have hn : n < m'.length := by omega
  refine ⟨m'[n], List.ext_getElem? fun i => ?_⟩
  by_cases z : i < m.length
  · rw [List.getElem?_append_left z, List.getElem?_eq_getElem z]
    exact p i _ (List.getElem?_eq_getElem z)
  · rw [List.getElem?_append_right (by omega)]
    by_cases y : i = n
    · subst y
      rw [l, Nat.sub_self, List.getElem?_eq_getElem hn]; rfl
    · rw [List.getElem?_eq_none (by omega), List.getElem?_eq_none (by simp; omega)]
theorem HS.cutG {K : PySem.W.Frag} {F G H : Hp} {m : List Addr} {O : List Cell} {x : Cell} {a : Addr} (h : HS K F G (m ++ [a]) (O ++ [x]) H) (g : AllGone O) : HS K F G m O H := by
  have l : m.length = O.length := by have := h.len; simp at this; exact this
  have up : ∀ (n : Nat) b, m[n]? = some b → (m ++ [a])[n]? = some b := fun n b e => by rw [List.getElem?_append_left (List.getElem?_eq_some_iff.mp e).1]; exact e
  refine ⟨h.exF, h.exG, h.dj, l, fun n b c e1 e2 lv => ?_, fun n n' b e1 e2 => h.inj n n' b (up _ _ e1) (up _ _ e2), fun n b e => h.here n b (up _ _ e), fun n b e => h.mG n b (up _ _ e), fun n b e1 e2 => h.gn n b (up _ _ e1) ?_⟩
  · have z := g c (List.mem_of_getElem? e2)
    subst z
    exact lv.elim
  · rw [List.getElem?_append_left (by have := (List.getElem?_eq_some_iff.mp e1).1; omega)]; exact e2
/-- what a call gives back, a new list at the end of the cells, becomes the name's own -/
theorem wn_call {Φ : Contract} {E : XK} {t : TA} {Q : AS → List D → Prop} (h : WA c t A fun A1 ds => AllGone A1.o ∧ Φ ds A1.o (fun O' d => ∃ es, O' = A1.o ++ [.lst es] ∧ d = .ptr A1.o.length ∧ Plains es ∧ Q A1 es) (fun _ _ _ => False)) : WN c (tCall (SpA c.K Φ) [] E t) A Q := fun F G m σ H S Eo Qc k =>
  h F G m σ H S Eo _ fun F1 m1 A1 vs H1 ds e1 p1 S1 R1 ⟨hg, q⟩ =>
    ⟨F1, callG A1.s σ G H1, m1, A1.o, ds, _, _, S1.call, by rw [List.append_nil]; exact R1, q, fun F' m' O' v d H' e p hs r ⟨es, eO, ed, pl, qq⟩ => by
      subst eO; subst ed
      obtain ⟨a, rfl⟩ := last_one p S1.h.len (by have := hs.len; rw [List.length_append] at this; exact this)
      have ea : (m1 ++ [a])[A1.o.length]? = some a := by rw [← S1.h.len, List.getElem?_append_right (Nat.le_refl _), Nat.sub_self]; rfl
      cases r with
      | ptr r =>
        rw [ea] at r
        cases r
        obtain ⟨f, cg, ws, hv, rw_⟩ := hs.cell _ a (.lst es) ea (by rw [List.getElem?_append_right (Nat.le_refl _), Nat.sub_self]; rfl) trivial
        have no : ¬ IsOwn A1.s σ a := fun z => by
          obtain ⟨_, _, _, u, hu⟩ := S1.s.isOwn z
          rw [callG_own z, hu] at cg; cases cg
        refine k F' m1 A1 a ws H' es (e1.trans e) p1 (S1.back e (Pre.refl _) (hs.cutG hg)) f (by rw [callG_not no] at cg; exact cg) (fun n z => ?_) no hv (pl.any rw_) qq
        have y := hs.inj n A1.o.length a (by rw [List.getElem?_append_left (List.getElem?_eq_some_iff.mp z).1]; exact z) ea
        have := (List.getElem?_eq_some_iff.mp z).1
        rw [S1.h.len] at this; omega, fun _ _ _ _ _ _ _ _ _ _ _ _ _ xx => xx.elim⟩
end
end AL

set_option maxHeartbeats 4000000
namespace AL
open PySem PySem.Spec PyProof.Rows L2
/-! ### a def that is handed the exception which the suite holds -/
theorem _root_.L2H.RoomH.units {k : Nat} {A : Around} (r : L2H.RoomH k A) : A.units + 64 < cLine := by have := r.un; omega
abbrev SpX := Addr → Value → Option Addr → Sp
structure FnE (P : Program) (w : World) (K : PySem.W.Frag) (mg : Str → Option Value) (base : Heap) (k : Nat) (f : Addr) (fd : FuncData) (y : Str) (sp : SpX) : Prop where
  go : ∀ (A : Around) (outer : List Env) (s : Shared) (H : Hp) (args : Args) (us : List Value) (Q : VK) (E : XK) (p : Addr × Obj) (cls : Value) (d : Option Addr), L2H.RoomH k A → A.guards = some [] → L2H.Hot1 A p → L2H.PinOk outer H s p → Zc cls d p.2 → (∃ vs, p.2.data = .fields vs) →
    Env0 P w K mg base A outer s H → BindsTo s fd args ([y].zip us) → Vals [.ref p.1] us → sp p.1 cls d [.ref p.1] H Q E → codeAny (model P w) A (.call (.ref f) args) (CR CX0 outer P w H s Q E) s
theorem FnE.mono {P : Program} {w : World} {K : PySem.W.Frag} {mg : Str → Option Value} {base : Heap} {j k : Nat} {f : Addr} {fd : FuncData} {y : Str} {sp : SpX} (F : FnE P w K mg base j f fd y sp) (h : j ≤ k) : FnE P w K mg base k f fd y sp := ⟨fun A outer s H args us Q E p cls d hr => F.go A outer s H args us Q E p cls d (hr.mono h)⟩
section
variable {P : Program} {w : World} {K : PySem.W.Frag} {mg : Str → Option Value} {base : Heap}
theorem okEx {x qual : Str} {st : Stmt} {f : Addr} {fd : FuncData} {N : List Str} {y : Str} {k : Nat} {sp : SpX} (F : Fun K x qual st f fd) (S : FnScope N [y] (defScope st))
    (hb : ∀ (cdv : Value) (A : Around) (outer : List Env) (s : Shared) (H : Hp) (Q : VK) (E : XK) (p : Addr × Obj) (cls : Value) (d : Option Addr), Zc cls d p.2 → (∃ vs, p.2.data = .fields vs) → A.guards = some [] → L2H.RoomH k (A.deeper (envOfC qual (defScope st) s.heap.objs.size f cdv)) → sp p.1 cls d [.ref p.1] H Q E →
      ∃ t, PSs (L2H.cxH CX0 P w K mg base N qual (defScope st) f cdv A outer s H E p) (defBody st) t ∧ t { nx := fun _ H' => Q .non H', rt := Q } (start N [.ref p.1]) H) :
    FnE P w K mg base (k + 1) f fd y sp := by
  obtain ⟨_, _, _, _, _, _, cdv, _, _, e, lk, hcd⟩ := F.ex
  subst e
  refine ⟨fun A outer s H args us Q E p cls d hr hg hot hpin hz hf e0 ba r hsp => ?_⟩
  have kX : K.In s.heap := e0.mod.kin.keeps fun b o z => (e0.bs b o z).1
  have lim : s.heap.NoLimit := e0.mod.nolimit.keeps fun b o e => (e0.bs b o e).1
  have hkind : ∀ z ∈ [y].zip us, (defScope st).names.lookup z.1 = some .local ∨ ((defScope st).names.lookup z.1 = some .cell ∧ ((cellsFrom (s.heap.objs.size + 1) (defScope st).names []).lookup z.1).isSome = true) := fun ⟨n, v⟩ hy => by
    rcases S.par n (List.of_mem_zip hy).1 with q | q
    · exact .inl q
    · exact .inr ⟨q, PySem.W.cellsFrom_some _ _ _ (.inl q)⟩
  refine codeAny_call_function hr.depth (kX _ _ lk) rfl S.co S.gen rfl (PySem.W.codeRec_of kX hcd) (ba _ _ _ _ ?_)
  refine wpAny_newFunctionEnv_cells S.kind hkind fun env he s1 x => ?_
  subst he
  refine ⟨lim.keeps x.toInCall.keep, codeAny_func ?_⟩
  obtain ⟨t, ht, hq⟩ := hb cdv A outer s H Q E p cls d hz hf hg (hr.deeper _) hsp
  have I : Inv (L2H.cxH CX0 P w K mg base N qual (defScope st) f cdv A outer s H E p) [] (L2.start N [.ref p.1]) H s1 := L2H.inv_startH S hpin e0 rfl r x
  refine wpAny_mono (ht.run [] s1 (L2.start N [.ref p.1]) H _ I hq) (fun fl s' hs => ?_) fun e s' hs => hs
  match fl, hs with
  | .ret u, ⟨v, _, H', J, rv, q⟩ => exact ⟨v, H', J.os, J.bare, J.base, J.hok, rv, q⟩
  | .next, ⟨_, H', J, q⟩ => exact ⟨.non, H', J.os, J.bare, J.base, J.hok, rfl, q⟩
  | .brk, ⟨_, _, _, q⟩ => exact q.elim
  | .cont, ⟨_, _, _, q⟩ => exact q.elim
end
/-- f(e), e the exception -/
def tCallE (sp : SpX) (a : Addr) (cls : Value) (d : Option Addr) (ta : TA) : TE := fun σ H Q => ta σ H fun vs H1 => vs = [.ref a] ∧ sp a cls d [.ref a] H1 Q (fun _ _ _ => False)
theorem pe_callE {X : Cx} {k : Nat} {f : Addr} {fd : FuncData} {y : Str} {sp : SpX} {x : Str} {p pos : Pos} {e : Expr} {t : TA} {a : Addr} {oe : Obj} {cls : Value} {d : Option Addr} {pn : List (Addr × Obj)}
    (G : FnE X.prog X.w X.K X.mg X.base k f fd y sp) (hr : L2H.RoomH k X.A) (hd : X.A.guards = some []) (hz : L2N.Zn cls d oe) (hf : ∃ vs, oe.data = .fields vs) (hg : Gl (X.suite a ((a, oe) :: pn)) x) (hm : X.mg x = some (.ref f)) (hk : PySem.W.keepIn X.K (.ref f) = true) (hb : Binds X.K fd [y] [])
    (ha : PA (X.suite a ((a, oe) :: pn)) [e] t)
    (h3 : (x == ("__debug__" : Str)) = false := by decide) (h4 : starEach [e] X.env = (false, eval e X.env) :: starEach [] X.env := by rfl) (h5 : (backTo pos (starEach [] X.env)).any (·.1) = false := by rfl) : PE (X.suite a ((a, oe) :: pn)) (.Call (.Name x p) [e] [] pos) (tCallE sp a cls d t) := by
  have hot : L2H.Hot1 (X.suite a ((a, oe) :: pn)).A (a, oe) := ⟨rfl, by obtain ⟨vs, hv⟩ := hf; exact ⟨vs, hv, hz.2.2 vs hv⟩⟩
  refine ⟨fun pins s σ H Q I h => wpAny_Call_Name_kw (ld_glob I hg hm (PySem.W.callWith_K (h₀ := X.base) I.ok.mod.kin hk (thn (ha.run pos pins s σ H _ I h) fun us s1 ⟨vs, H1, I1, r, ev, q⟩ => ⟨I1.kIn, ?_⟩) h4 h5) h3)⟩
  · subst ev
    have hl : us.length = 1 := r.length.symm
    have bl := hb s1 us I1.kIn (by rw [List.append_nil]; exact hl)
    rw [List.append_nil] at bl
    have P1 := I1.pin (a, oe) (List.mem_append_left _ List.mem_cons_self)
    have hpin : L2H.PinOk X.stack H1 s1 (a, oe) := ⟨P1.1, P1.2.1, fun hm => (List.mem_cons.mp (I1.stkSub a hm)).elim P1.2.2.1 P1.2.2.2.1, P1.2.2.2.2⟩
    refine wpAny_call (codeAny_mono (G.go _ X.stack s1 H1 ⟨us, []⟩ us Q (fun _ _ _ => False) (a, oe) cls d ⟨hr.dp, hr.un⟩ hd hot hpin hz.zc hf I1.env0 bl r q) fun y s' hq => ?_)
    match y, hq with
    | .error z, hq => exact (show False from hq).elim
    | .ok (.ret u), hq => exact I1.after hq
/-- its promise in the abstract: C the exception's class, fs its fields -/
def SpE (K : PySem.W.Frag) (Φ : Addr → List (Str × D) → List Cell → (List Cell → D → Prop) → Prop) : SpX := fun a cls d vs H Q E => ∃ (F G : Hp) (m : List Addr) (O : List Cell) (R : List Cell → D → Prop) (C dx : Addr) (fvs : List (Str × V)) (fs : List (Str × D)),
  vs = [.ref a] ∧ cls = .ref C ∧ d = some dx ∧ HS K F G m O H ∧ F dx = some (.xd fvs) ∧ RepF K F m fvs fs ∧ Φ C fs O R ∧ ∀ F' m' O' v e H', Ex F F' → Pre m m' → HS K F' G m' O' H' → Rep K F' m' v e → R O' e → Q v H'
theorem we_callE {c : Ct} {A : AS} {Q : QE} {a C dd : Addr} {fs : List (Str × D)} {i : Nat} {Φ : Addr → List (Str × D) → List Cell → (List Cell → D → Prop) → Prop} (hi : A.s[i]? = some (some (.val (.cls a)))) (hv : c.hv = some (dd, fs)) (h : Φ C fs A.o fun O' d => Q ⟨A.s, O'⟩ (.val d)) : WE c (tCallE (SpE c.K Φ) a (.ref C) (some dd) (tCons (tVar i) tNil)) A Q := fun F G m σ H S E Qc k => by
  obtain ⟨v, e, r⟩ := S.s.valAt hi
  cases r
  obtain ⟨fvs, z1, z2⟩ := E.h dd fs hv
  exact ⟨_, e, rfl, F, callG A.s σ G H, m, A.o, _, C, dd, fvs, fs, rfl, rfl, rfl, S.call, z1, z2, h, fun F' m' O' v d H' e p hs rr q => k F' m' ⟨A.s, O'⟩ v H' (.val d) e p (S.back e p hs) rr q⟩
theorem SpE.cls {K : PySem.W.Frag} {Φ : Addr → List (Str × D) → List Cell → (List Cell → D → Prop) → Prop} {a : Addr} {cls : Value} {d : Option Addr} {vs : List V} {H : Hp} {Q : VK} {E : XK} (h : SpE K Φ a cls d vs H Q E) : ∃ C dx : Addr, cls = .ref C ∧ d = some dx := by
  obtain ⟨F, G, m, O, R, C, dx, fvs, fs, -, h1, h2, -⟩ := h
  exact ⟨C, dx, h1, h2⟩
/-- its body -/
theorem run_bodyE {K : PySem.W.Frag} {Φ : Addr → List (Str × D) → List Cell → (List Cell → D → Prop) → Prop} {t : TS} {N : List Str} {a C dx : Addr} {H : Hp} {Q : VK} {E : XK} (h : SpE K Φ a (.ref C) (some dx) [.ref a] H Q E)
    (hb : ∀ fs O R (c : Ct), K = c.K → c.hv = some (dx, fs) → Φ C fs O R → WS c t ⟨entry N.length [.cls a], O⟩ ⟨fun A => R A.o .non, R, fun _ => False, fun _ => False⟩) : t { nx := fun _ H' => Q .non H', rt := Q } (L2.start N [.ref a]) H := by
  obtain ⟨F, G, m, O, R, C', dx', fvs, fs, -, e1, e2, hs, hx, rf, p, q⟩ := h
  cases e1; cases e2
  exact hb fs O R ⟨K, fun _ _ _ _ => True, fun _ _ _ => False, some (dx, fs)⟩ rfl rfl p F G m (L2.start N [.ref a]) H ⟨hs, entry_ok (.cons (.cls a) .nil)⟩ ⟨fun _ _ _ _ _ _ _ _ _ _ _ _ _ _ z => z.elim, fun d2 f2 z => by cases z; exact ⟨fvs, hx, rf⟩⟩ _ ⟨fun F' m' A' σ' H' e p S z => q F' m' A'.o .non .non H' e p S.h .non z, fun F' m' O' v d H' e p S R z => q F' m' O' v d H' e p S R z, fun _ _ _ _ _ _ _ _ z => z.elim, fun _ _ _ _ _ _ _ _ z => z.elim⟩
theorem call_isP {X : Cx} {a : Addr} {oe : Obj} {cls : Value} {d : Option Addr} (hp : (a, oe) ∈ X.pn) (hz : Zc cls d oe) (hf : ∃ vs, oe.data = .fields vs) : CallR X (.builtin "isinstance") (rIsX X.K a cls d) := by
  intro pins s σ H xs us Q I r h
  obtain ⟨D, dd, fs, z, b, rfl, rfl, C, hx, rfl, e, q⟩ := h
  match us, r with
  | [_, u], .cons rx (.cons rt .nil) =>
    cases rx
    have hget := (I.pin (a, oe) (List.mem_append_left _ hp)).1
    obtain ⟨vs, hv⟩ := hf
    obtain ⟨mA, hns, _⟩ : ObjOk X.prog X.w H s.heap dd (.xd fs) := I.hok dd _ hx
    obtain ⟨od, ho, _⟩ := lookIn_ns hns
    have J : PySem.W.InstAt s.heap a oe D (some od) := ⟨hget, hz.1, by unfold PySem.W.notCls; rw [hv] <;> rfl, by rw [hz.2]; exact ho⟩
    have kx := PySem.W.kitx_exc (x := a) (ox := oe) (od := some od) C.cl C.ga C.gg C.su C.ca C.cg C.tk C.mo
    rcases e with ⟨cv, hcv, e⟩ | ⟨tp, vs, rfl, ht, e⟩
    · have eu := hcv _ rt
      subst eu
      exact PySem.W.kia_one kx I.kIn J e (fun y => nomatch y) fun tk => ⟨.bl b, H, I.kept (t' := tk) fun _ _ y => y, rfl, q⟩
    · cases rt
      rcases ht with ⟨its, ht⟩ | ⟨its, n, sl, lk, _, rv⟩
      case inr =>
        obtain ⟨its⟩ := its
        exact PySem.W.kia_tup kx I.kIn J (I.kIn _ _ lk) (e its rv) (fun y => nomatch y) fun tk => ⟨.bl b, H, I.kept (t' := tk) fun _ _ y => y, rfl, q⟩
      obtain ⟨go, _, us, rv, ob, eo, _, n, ed⟩ := I.hok tp _ ht
      have eb : tupObj its = ob := Option.some.inj (go.symm.trans eo)
      subst eb
      have ed' : Data.seq its.toArray = Data.seq us.toArray n := ed
      cases ed'
      exact PySem.W.kia_tup kx I.kIn J (n := 0) (sl := #[]) go (e its rv) (fun y => nomatch y) fun tk => ⟨.bl b, H, I.kept (t' := tk) fun _ _ y => y, rfl, q⟩
theorem pe_xfP {X : Cx} {a C : Addr} {oe : Obj} {cls : Value} {d : Option Addr} {e : Expr} {te : TE} {pos : Pos} {n : Str} (hp : (a, oe) ∈ X.pn) (T : XfC X.K C) (hno : PySem.W.findIn X.K (.ref C) n = some none)
    (hz : Zc cls d oe) (hf : ∃ vs, oe.data = .fields vs) (he : PE X e te) (hb : attributeBase e n X.env (eval e X.env) = eval e X.env := by rfl) : PE X (.Attribute e n pos) (tXf a cls d C n te) := by
  refine ⟨fun pins s σ H Q I h => ?_⟩
  refine attr_of hb (thn (he.run pins s σ H _ I h) fun u s1 hh => ?_)
  obtain ⟨x, H1, I1, rx, ex, ec, dd, fs, v, ed, ea, l, q⟩ := hh
  subst ex
  obtain rfl : u = Value.ref a := rx
  subst ec
  subst ed
  obtain ⟨ha, _⟩ := I1.pin (a, oe) (List.mem_append_left _ hp)
  obtain ⟨vs, hd⟩ := hf
  have hx : ObjOk X.prog X.w H1 s1.heap dd (.xd fs) := I1.hok dd _ ea
  obtain ⟨mA, hns, hr⟩ := hx
  obtain ⟨od, ho, hl⟩ := lookIn_ns hns
  obtain ⟨u, hu, ru⟩ := RelO.some_of (v := v) (o := mA n) (by rw [← l]; exact hr n)
  have J : PySem.W.InstAt s1.heap a oe C (some od) := ⟨ha, hz.1, by unfold PySem.W.notCls; rw [hd] <;> rfl, by rw [hz.2]; exact ho⟩
  exact HandSPX.exc_get I1.kIn J T.ga T.gg T.exC (PySem.W.findObj_own T.hdC hno rfl (by rw [hl, hu])) (handed_of ru) ⟨v, H1, I1.tok _, ru, q⟩
theorem call_isPK {X : Cx} {K : PySem.W.Frag} {a : Addr} {oe : Obj} {cls : Value} {d : Option Addr} (hK : X.K = K) (hp : (a, oe) ∈ X.pn) (hz : Zc cls d oe) (hf : ∃ vs, oe.data = .fields vs) : CallR X (.builtin "isinstance") (rIsX K a cls d) := hK ▸ call_isP hp hz hf
/-- a try whose suite knows that the context is None -/
theorem ps_try1N {X : Cx} {K : PySem.W.Frag} {x n : Str} {cE : Value} {i : Nat} {body suite : List Stmt} {b₀ : Stmt} {np pos pos' : Pos} {tb : WX → TS} {ts : Addr → Value → Option Addr → TS} (hK : X.K = K) (hs : X.stack = X.env :: X.outer) (hf : X.env.frame = some X.env.locals) (hN : X.N.Nodup) (hi : X.N[i]? = some n) (hln : X.env.kindOf n = some .local) (hc : Names X x cE)
    (hb : ∀ (W : WX) (pn : List (Addr × Obj)) (xe : Value → Shared → Prop), L2N.Takes (X.tr pn xe) W → PSs (X.tr pn xe) body (tb W))
    (hsu : ∀ (a : Addr) (oe : Obj) (cls : Value) (d : Option Addr) (pn : List (Addr × Obj)), L2N.Zn cls d oe → (∃ vs, oe.data = .fields vs) → PSs (X.suite a ((a, oe) :: pn)) (b₀ :: suite) (ts a cls d)) :
    PS X (.Try body [.ExceptHandler (some (.Name x np)) (some n) (b₀ :: suite) pos'] [] [] pos) (tTry K cE i ts tb) := hK ▸ L2N.ps_try_as hs hf hN hi hln hc takesN0 (fun W pn xe tk _ => hb W pn xe tk) fun a oe cls d pn hz hf => hsu a oe cls d pn hz hf
end AL

set_option maxHeartbeats 4000000
namespace AL
open PySem PySem.Spec PyProof.Rows L2
/-! ### methods and makings within a try -/
section
variable {X : Cx} {CX : CXT} {k n : Nat} {f C : Addr} {fd : FuncData} {ps ks : List Str} {sp : Sp} {dvs : List V} {ds : List Value} {E : L2.St → XK} {x m : Str} {p pos apos : Pos} {e o : Expr} {es : List Expr} {ta : TE} {t : TA}
def tMethS (C : Addr) (m : Str) (sp : Sp) (E : L2.St → XK) (ta : TE) (t : TA) : TE := fun σ H Q => ta σ H fun x H1 => ∃ a dx fs, x = .ref a ∧ H1 a = some (.ins C dx fs) ∧ fs.lookup m = none ∧ t σ H1 fun vs H2 => sp (x :: vs) H2 Q (E σ)
theorem pe_methS {pl : Sem Bool} (he : PE X o ta) (c : Cls X.K C) (hm : Meth X.K C m f) (F : FnOk X.prog X.w X.K X.mg X.base CX k f fd ps sp) (hr : Room k X.A) (hb : Binds X.K fd ps []) (hx : ∀ σ, PassesAt CX X σ (E σ)) (ha : PA X (e :: es) t)
    (hst : starEach (e :: es) X.env = (false, eval e X.env) :: starEach es X.env := by rfl) (hpl : (backTo pos (starEach es X.env)).any (·.1) = false := by rfl)
    (ht : eval (.Call (.Attribute o m apos) (e :: es) [] pos) X.env = (do
      let ov ← eval o X.env
      standAt apos.atName
      let (f, first) ← holding [ov] (getMethod ov m pl)
      callWith pos f first (backTo pos (starEach (e :: es) X.env)) (backToKw pos (keywordEach [] X.env))) := by rfl) :
    PE X (.Call (.Attribute o m apos) (e :: es) [] pos) (tMethS C m sp E ta t) := by
  refine ⟨fun pins s σ H Q I h => ?_⟩
  refine PySem.W.methodCall_KW (pl := pl) (thn (he.run pins s σ H _ I h) fun u s1 ⟨x, H1, I1, rx, a, dx, fs, ex, ea, l, q⟩ => ?_) ht
  subst ex
  obtain rfl : u = Value.ref a := rx
  refine getmeth_ok I1 ea c hm l ?_
  refine PySem.W.callWith_K (first := [.ref a]) (h₀ := X.base) I.ok.mod.kin hm.kp (thn (ha.run pos pins s1 σ H1 _ I1 q) fun us s2 ⟨vs, H2, I2, r, q2⟩ => ⟨I2.kIn, ?_⟩) hst hpl
  exact run_fnS (us := .ref a :: us) (vs := .ref a :: vs) F hr hb (hx σ) I2 (.cons rfl r) q2
theorem pe_meth0S {pl : Sem Bool} (he : PE X o ta) (c : Cls X.K C) (hm : Meth X.K C m f) (F : FnOk X.prog X.w X.K X.mg X.base CX k f fd ps sp) (hr : Room k X.A) (hb : Binds X.K fd ps []) (hx : ∀ σ, PassesAt CX X σ (E σ))
    (ht : eval (.Call (.Attribute o m apos) [] [] pos) X.env = (do
      let ov ← eval o X.env
      standAt apos.atName
      let (f, first) ← holding [ov] (getMethod ov m pl)
      callWith pos f first (backTo pos (starEach [] X.env)) (backToKw pos (keywordEach [] X.env))) := by rfl) :
    PE X (.Call (.Attribute o m apos) [] [] pos) (tMethS C m sp E ta tNil) := by
  refine ⟨fun pins s σ H Q I h => ?_⟩
  refine PySem.W.methodCall_KW (pl := pl) (thn (he.run pins s σ H _ I h) fun u s1 ⟨x, H1, I1, rx, a, dx, fs, ex, ea, l, q⟩ => ?_) ht
  subst ex
  obtain rfl : u = Value.ref a := rx
  refine getmeth_ok I1 ea c hm l ?_
  exact PySem.W.callWith_K0 (first := [.ref a]) I1.kIn hm.kp (run_fnS (us := [.ref a]) (vs := [.ref a]) F hr hb (hx σ) I1 (.cons rfl .nil) q)
theorem run_makeS {pins : List (Addr × Obj)} {σ : L2.St} {H : Hp} {s : Shared} {Q : VK} {us : List Value} {vs : List V} (M : Mk X.K C f) (F : FnOk X.prog X.w X.K X.mg X.base CX k f fd ps sp) (hr : Room (k + 1) X.A) (hb : Binds X.K fd ps ds) (hd : Vals dvs ds)
    (hx : PassesAt CX X σ (E σ)) (I : Inv X pins σ H s) (r : Vals vs us)
    (h : ∀ x dx, H x = none → H dx = none → dx ≠ x → sp (.ref x :: (vs ++ dvs)) (upd (upd H dx (.own x)) x (.ins C dx [])) (fun v H2 => v = .non ∧ Q (.ref x) H2) (E σ)) :
    wpAny (model X.prog X.w) X.A (call (.ref C) us) (EP X pins σ Q) X.xe s := by
  have hq := h (s.heap.objs.size + 1) s.heap.objs.size (I.hok.fresh (Nat.le_succ _)) (I.hok.fresh (Nat.le_refl _)) (Nat.ne_of_lt (Nat.lt_succ_self _))
  have I2 := Inv.made (C := C) I
  have r2 : Vals (V.ref (s.heap.objs.size + 1) :: (vs ++ dvs)) (Value.ref (s.heap.objs.size + 1) :: (us ++ ds)) := .cons rfl (r.append hd)
  have hl : (Value.ref (s.heap.objs.size + 1) :: us ++ ds).length = ps.length := by
    have e := r2.length
    rw [F.len _ _ _ _ hq] at e
    exact e.symm
  refine wpAny_call (make_map (f := f) I.kIn M.makes M.init (beq_iff_eq.mp M.fn) (codeAny_mono (F.run _ X.stack _ _ ⟨Value.ref (s.heap.objs.size + 1) :: us, []⟩ (Value.ref (s.heap.objs.size + 1) :: (us ++ ds)) _ _ (E σ) (hr.make C us [])
    (I2.env0.make C us []) (hb _ (Value.ref (s.heap.objs.size + 1) :: us) I2.kIn hl) r2 hq) fun r s' hq' => ?_))
  cases r with
  | error e => exact hx pins _ _ e s' I2 hq'
  | ok fl =>
    cases fl with
    | ret u =>
      obtain ⟨v, H', I3, rv, ev, q3⟩ := I2.after hq'
      subst ev
      exact ⟨rv, ⟨V.ref (s.heap.objs.size + 1), H', I3, rfl, q3⟩⟩
    | next => exact False.elim hq'
    | brk => exact False.elim hq'
    | cont => exact False.elim hq'
def tMakeS (C : Addr) (sp : Sp) (dvs : List V) (E : L2.St → XK) (t : TA) : TE := fun σ H Q => t σ H fun vs H1 => ∀ x dx, H1 x = none → H1 dx = none → dx ≠ x →
  sp (.ref x :: (vs ++ dvs)) (upd (upd H1 dx (.own x)) x (.ins C dx [])) (fun v H2 => v = .non ∧ Q (.ref x) H2) (E σ)
theorem pe_makeS (M : Mk X.K C f) (F : FnOk X.prog X.w X.K X.mg X.base CX k f fd ps sp) (hr : Room (k + 1) X.A) (hg : Gl X x) (hm : X.mg x = some (.ref C)) (hb : Binds X.K fd ps ds) (hd : Vals dvs ds) (hx : ∀ σ, PassesAt CX X σ (E σ))
    (ha : PA X (e :: es) t) (hdb : (x == ("__debug__" : Str)) = false := by decide) (he : starEach (e :: es) X.env = (false, eval e X.env) :: starEach es X.env := by rfl) (hpl : (backTo pos (starEach es X.env)).any (·.1) = false := by rfl) :
    PE X (.Call (.Name x p) (e :: es) [] pos) (tMakeS C sp dvs E t) := by
  refine ⟨fun pins s σ H Q I h => ?_⟩
  refine wpAny_Call_Name_kw (ld_glob I hg hm ?_ hdb)
  refine PySem.W.callWith_K (h₀ := X.base) I.ok.mod.kin M.kp (thn (ha.run pos pins s σ H _ I h) fun us s1 ⟨vs, H1, I1, r, q⟩ => ⟨I1.kIn, ?_⟩) he hpl
  exact run_makeS M F hr hb hd (hx σ) I1 r q
def tMakeKS (C : Addr) (n m : Nat) (sp : Sp) (gV : List V → List V → List V) (E : L2.St → XK) (t tk : TA) : TE := fun σ H Q => t σ H fun vs H1 => tk σ H1 fun zs H2 => vs.length = n ∧ zs.length = m ∧ ∀ x dx, H2 x = none → H2 dx = none → dx ≠ x →
  sp (gV (.ref x :: vs) zs) (upd (upd H2 dx (.own x)) x (.ins C dx [])) (fun v H3 => v = .non ∧ Q (.ref x) H3) (E σ)
end
section
variable {X : Cx} {CX : CXT} {k n : Nat} {f C : Addr} {fd : FuncData} {ps ks : List Str} {sp : Sp} {E : L2.St → XK} {x : Str} {p pos : Pos} {e : Expr} {es : List Expr} {kws : List Keyword} {t tk : TA} {g : List Value → List Value → List Value} {gV : List V → List V → List V}
theorem run_makeKS {pins : List (Addr × Obj)} {σ : L2.St} {H : Hp} {s : Shared} {Q : VK} {us ws : List Value} {vs zs : List V} (M : Mk X.K C f) (F : FnOk X.prog X.w X.K X.mg X.base CX k f fd ps sp) (hr : Room (k + 1) X.A) (hb : KBn X.K fd ps (n + 1) ks g gV) (hx : PassesAt CX X σ (E σ))
    (I : Inv X pins σ H s) (r : Vals vs us) (rz : Vals zs ws) (l1 : vs.length = n) (l2 : zs.length = ks.length)
    (h : ∀ x dx, H x = none → H dx = none → dx ≠ x → sp (gV (.ref x :: vs) zs) (upd (upd H dx (.own x)) x (.ins C dx [])) (fun v H2 => v = .non ∧ Q (.ref x) H2) (E σ)) :
    wpAny (model X.prog X.w) X.A (call (.ref C) us (ks.zip ws)) (EP X pins σ Q) X.xe s := by
  have hq := h (s.heap.objs.size + 1) s.heap.objs.size (I.hok.fresh (Nat.le_succ _)) (I.hok.fresh (Nat.le_refl _)) (Nat.ne_of_lt (Nat.lt_succ_self _))
  have I2 := Inv.made (C := C) I
  have r1 : Vals (V.ref (s.heap.objs.size + 1) :: vs) (Value.ref (s.heap.objs.size + 1) :: us) := .cons rfl r
  have r2 := hb.rel r1 rz
  have n1 : (Value.ref (s.heap.objs.size + 1) :: us).length = n + 1 := by
    rw [List.length_cons, ← r.length, l1]
  refine wpAny_call (make_map (f := f) I.kIn M.makes M.init (beq_iff_eq.mp M.fn) (codeAny_mono (F.run _ X.stack _ _ ⟨Value.ref (s.heap.objs.size + 1) :: us, ks.zip ws⟩ (g (Value.ref (s.heap.objs.size + 1) :: us) ws) _ _ (E σ) (hr.make C us (ks.zip ws))
    (I2.env0.make C us (ks.zip ws)) (hb.to _ (Value.ref (s.heap.objs.size + 1) :: us) ws I2.kIn n1 (rz.length.symm.trans l2)) r2 hq) fun r s' hq' => ?_))
  cases r with
  | error e => exact hx pins _ _ e s' I2 hq'
  | ok fl =>
    cases fl with
    | ret u =>
      obtain ⟨v, H', I3, rv, ev, q3⟩ := I2.after hq'
      subst ev
      exact ⟨rv, ⟨V.ref (s.heap.objs.size + 1), H', I3, rfl, q3⟩⟩
    | next => exact False.elim hq'
    | brk => exact False.elim hq'
    | cont => exact False.elim hq'
theorem pe_makeKS (M : Mk X.K C f) (F : FnOk X.prog X.w X.K X.mg X.base CX k f fd ps sp) (hr : Room (k + 1) X.A) (hg : Gl X x) (hm : X.mg x = some (.ref C)) (hb : KBn X.K fd ps (n + 1) ks g gV) (hx : ∀ σ, PassesAt CX X σ (E σ)) (ha : PA X (e :: es) t) (hkw : PK X kws tk)
    (hall : (backToKw pos (keywordEach kws X.env)).all (·.1.isSome) = true := by rfl) (hks : (backToKw pos (keywordEach kws X.env)).filterMap (·.1) = ks := by rfl) (hdb : (x == ("__debug__" : Str)) = false := by decide)
    (he : starEach (e :: es) X.env = (false, eval e X.env) :: starEach es X.env := by rfl) (hpl : ((backTo pos (starEach (e :: es) X.env)).any (·.1) || (backToKw pos (keywordEach kws X.env)).any (·.1.isNone)) = false := by rfl) :
    PE X (.Call (.Name x p) (e :: es) kws pos) (tMakeKS C n ks.length sp gV E t tk) := by
  refine ⟨fun pins s σ H Q I h => ?_⟩
  refine wpAny_Call_Name_kw (ld_glob I hg hm ?_ hdb)
  refine PySem.W.callWith_KW (h₀ := X.base) I.ok.mod.kin M.kp hall (thn (ha.run pos pins s σ H _ I h) fun us s1 ⟨vs, H1, I1, r, q⟩ => ?_) hpl he
  refine thn (hkw.run pos pins s1 σ H1 _ I1 q) fun ws s2 ⟨zs, H2, I2, rz, l1, l2, q2⟩ => ⟨I2.kIn, ?_⟩
  rw [hks]
  exact run_makeKS M F hr hb (hx σ) I2 r rz l1 l2 q2
end
section
variable {c : Ct} {A : AS} {Q : QE} {C : Addr} {Φ : Contract} {E : L2.St → XK} {t tk : TA} {ta : TE} {mm : Str} {n m : Nat} {gV : List V → List V → List V}
theorem we_methS (hE : ∀ σ, c.E σ = E σ) (h : WE c ta A fun A1 x => ∃ d fs, x = .val d ∧ insOf A1 (.val d) = some (C, fs) ∧ fs.lookup mm = none ∧ WA c t A1 fun A2 ds => Φ (d :: ds) A2.o (fun O' e => Q ⟨A2.s, O'⟩ (.val e)) (fun O' C fs => c.X ⟨A2.s, O'⟩ C fs)) :
    WE c (tMethS C mm (SpA c.K Φ) E ta t) A Q := fun F G m σ H S Eo Qc k => h F G m σ H S Eo _ fun F1 m1 A1 v H1 x e1 p1 S1 R1 ⟨d, fs, ex, hi, hl, q⟩ => by
  subst ex
  obtain ⟨a, dx, fv, rfl, hv, rf⟩ := rep_ins S1 R1 hi
  refine ⟨a, dx, fv, rfl, hv, rf.look0 hl, q F1 G m1 σ H1 S1 (Eo.mono e1 p1) _ fun F2 m2 A2 vs H2 ds e2 p2 S2 R2 q2 => ?_⟩
  refine ⟨F2, callG A2.s σ G H2, m2, A2.o, d :: ds, _, _, S2.call, .cons (Rep.mono e2 p2 R1) R2, q2, fun F' m' O' w e H' e3 p3 hs r rr => k F' m' ⟨A2.s, O'⟩ w H' (.val e) ((e1.trans e2).trans e3) ((p1.trans p2).trans p3) (S2.back e3 p3 hs) r rr, fun F' m' O' C dx fvs fs H' e p hs fx rf xx => ?_⟩
  have z := Eo.x F' m' ⟨A2.s, O'⟩ σ H' C dx fvs fs ((e1.trans e2).trans e) ((p1.trans p2).trans p) (S2.back e p hs) fx rf xx
  rw [hE] at z; exact z
theorem we_makeX {E0 : XK} (hE : ∀ σ, c.E σ = E0) (h : WA c t A fun A1 ds => Φ (.ptr A1.o.length :: ds) (A1.o ++ [.ins C []]) (fun O' d => d = .non ∧ Q ⟨A1.s, O'⟩ (.val (.ptr A1.o.length))) (fun O' C fs => c.X ⟨A1.s, O'⟩ C fs)) : WE c (tMake C (SpA c.K Φ) [] E0 t) A Q := fun F G m σ H S Eo Qc k =>
  h F G m σ H S Eo _ fun F1 m1 A1 vs H1 ds e1 p1 S1 R1 q => by
    intro p dx hp hd n
    have S2 := S1.insNew (C := C) hp hd n
    have ex : Ex F1 (upd F1 dx (.own p)) := ex_upd (S1.h.fresh hd).1
    have pr : Pre m1 (m1 ++ [p]) := Pre.app
    have gp : (m1 ++ [p])[A1.o.length]? = some p := by rw [← S1.h.len, List.getElem?_append_right (Nat.le_refl _), Nat.sub_self]; rfl
    refine ⟨upd F1 dx (.own p), _, m1 ++ [p], A1.o ++ [.ins C []], .ptr A1.o.length :: ds, _, _, S2.call, .cons (.ptr gp) (by simpa using R1.mono ex pr), q, fun F' m' O' w d H' e3 p3 hs r rr => ?_, fun F' m' O' C dx fvs fs H' e p hs fx rf xx => ?_⟩
    · obtain ⟨ed, rr⟩ := rr
      subst ed
      cases r
      exact ⟨rfl, k F' m' ⟨A1.s, O'⟩ _ H' (.val (.ptr A1.o.length)) ((e1.trans ex).trans e3) ((p1.trans pr).trans p3) (S2.back e3 p3 hs) (show Rep c.K F' m' _ _ from .ptr (p3 _ _ gp)) rr⟩
    · have z := Eo.x F' m' ⟨A1.s, O'⟩ σ H' C dx fvs fs ((e1.trans ex).trans e) ((p1.trans pr).trans p) (S2.back e p hs) fx rf xx
      rw [hE] at z; exact z
theorem we_makeS (hE : ∀ σ, c.E σ = E σ) (h : WA c t A fun A1 ds => Φ (.ptr A1.o.length :: ds) (A1.o ++ [.ins C []]) (fun O' d => d = .non ∧ Q ⟨A1.s, O'⟩ (.val (.ptr A1.o.length))) (fun O' C fs => c.X ⟨A1.s, O'⟩ C fs)) : WE c (tMakeS C (SpA c.K Φ) [] E t) A Q := fun F G m σ H S Eo Qc k =>
  h F G m σ H S Eo _ fun F1 m1 A1 vs H1 ds e1 p1 S1 R1 q => by
    intro p dx hp hd n
    have S2 := S1.insNew (C := C) hp hd n
    have ex : Ex F1 (upd F1 dx (.own p)) := ex_upd (S1.h.fresh hd).1
    have pr : Pre m1 (m1 ++ [p]) := Pre.app
    have gp : (m1 ++ [p])[A1.o.length]? = some p := by rw [← S1.h.len, List.getElem?_append_right (Nat.le_refl _), Nat.sub_self]; rfl
    refine ⟨upd F1 dx (.own p), _, m1 ++ [p], A1.o ++ [.ins C []], .ptr A1.o.length :: ds, _, _, S2.call, .cons (.ptr gp) (by simpa using R1.mono ex pr), q, fun F' m' O' w d H' e3 p3 hs r rr => ?_, fun F' m' O' C dx fvs fs H' e p hs fx rf xx => ?_⟩
    · obtain ⟨ed, rr⟩ := rr
      subst ed
      cases r
      exact ⟨rfl, k F' m' ⟨A1.s, O'⟩ _ H' (.val (.ptr A1.o.length)) ((e1.trans ex).trans e3) ((p1.trans pr).trans p3) (S2.back e3 p3 hs) (show Rep c.K F' m' _ _ from .ptr (p3 _ _ gp)) rr⟩
    · have z := Eo.x F' m' ⟨A1.s, O'⟩ σ H' C dx fvs fs ((e1.trans ex).trans e) ((p1.trans pr).trans p) (S2.back e p hs) fx rf xx
      rw [hE] at z; exact z
theorem we_makeKS (gD : List D → List D → List D) (hg : ∀ F mm vs zs ds es, Reps c.K F mm vs ds → Reps c.K F mm zs es → Reps c.K F mm (gV vs zs) (gD ds es)) (hE : ∀ σ, c.E σ = E σ)
    (h : WA c t A fun A1 ds => WA c tk A1 fun A2 es => ds.length = n ∧ es.length = m ∧ Φ (gD (.ptr A2.o.length :: ds) es) (A2.o ++ [.ins C []]) (fun O' d => d = .non ∧ Q ⟨A2.s, O'⟩ (.val (.ptr A2.o.length))) (fun O' C fs => c.X ⟨A2.s, O'⟩ C fs)) : WE c (tMakeKS C n m (SpA c.K Φ) gV E t tk) A Q := fun F G mm σ H S Eo Qc k =>
  h F G mm σ H S Eo _ fun F0 m0 A0 vs H0 ds e0 p0 S0 R0 q0 => q0 F0 G m0 σ H0 S0 (Eo.mono e0 p0) _ fun F1 m1 A1 zs H1 es e1 p1 S1 R1 ⟨l1, l2, q⟩ => by
    refine ⟨by rw [R0.len, l1], by rw [R1.len, l2], fun p dx hp hd n => ?_⟩
    have S2 := S1.insNew (C := C) hp hd n
    have ex : Ex F1 (upd F1 dx (.own p)) := ex_upd (S1.h.fresh hd).1
    have pr : Pre m1 (m1 ++ [p]) := Pre.app
    have gp : (m1 ++ [p])[A1.o.length]? = some p := by rw [← S1.h.len, List.getElem?_append_right (Nat.le_refl _), Nat.sub_self]; rfl
    refine ⟨upd F1 dx (.own p), _, m1 ++ [p], A1.o ++ [.ins C []], _, _, _, S2.call, hg _ _ _ _ _ _ (.cons (.ptr gp) (R0.mono (e1.trans ex) (p1.trans pr))) (R1.mono ex pr), q, fun F' m' O' w d H' e3 p3 hs r rr => ?_, fun F' m' O' C dx fvs fs H' e p hs fx rf xx => ?_⟩
    · obtain ⟨ed, rr⟩ := rr
      subst ed
      cases r
      exact ⟨rfl, k F' m' ⟨A1.s, O'⟩ _ H' (.val (.ptr A1.o.length)) (((e0.trans e1).trans ex).trans e3) (((p0.trans p1).trans pr).trans p3) (S2.back e3 p3 hs) (show Rep c.K F' m' _ _ from .ptr (p3 _ _ gp)) rr⟩
    · have z := Eo.x F' m' ⟨A1.s, O'⟩ σ H' C dx fvs fs (((e0.trans e1).trans ex).trans e) (((p0.trans p1).trans pr).trans p) (S2.back e p hs) fx rf xx
      rw [hE] at z; exact z
end
end AL

namespace AL
open PySem L2
theorem ka_nil {K : PySem.W.Frag} {t : Value} : PySem.W.kitAny K t [] = some false := rfl
theorem ka_no {K : PySem.W.Frag} {t c : Value} {r : List Value} {b : Bool} (h : PySem.W.kitOne K t c = some false) (q : PySem.W.kitAny K t r = some b) : PySem.W.kitAny K t (c :: r) = some b := by
  unfold PySem.W.kitAny; rw [h]; exact q
theorem ka_yes {K : PySem.W.Frag} {t c : Value} {r : List Value} (h : PySem.W.kitOne K t c = some true) : PySem.W.kitAny K t (c :: r) = some true := by
  unfold PySem.W.kitAny; rw [h]
def clsAll : List D → Option (List Addr)
  | [] => some []
  | .cls a :: r => (clsAll r).map (a :: ·)
  | _ => none
theorem clsAll_eq : ∀ {ds : List D} {Cs : List Addr}, clsAll ds = some Cs → ds = Cs.map .cls
  | [], Cs, h => by cases h; rfl
  | .cls a :: r, Cs, h => by
    unfold clsAll at h
    cases e : clsAll r with
    | none => rw [e] at h; cases h
    | some x => rw [e] at h; cases h; rw [clsAll_eq e]; rfl
  | .non :: _, _, h => by simp [clsAll] at h
  | .bl _ :: _, _, h => by simp [clsAll] at h
  | .int _ :: _, _, h => by simp [clsAll] at h
  | .str _ :: _, _, h => by simp [clsAll] at h
  | .lst _ :: _, _, h => by simp [clsAll] at h
  | .tup _ :: _, _, h => by simp [clsAll] at h
  | .scr _ :: _, _, h => by simp [clsAll] at h
  | .sct _ :: _, _, h => by simp [clsAll] at h
  | .ptr _ :: _, _, h => by simp [clsAll] at h
  | .obj _ _ :: _, _, h => by simp [clsAll] at h
  | .ty _ :: _, _, h => by simp [clsAll] at h
section
variable {c : Ct} {A : AS} {Q : QE} {a C dd : Addr} {fs : List (Str × D)} {b : Bool}
theorem cb_isS2 {ds : List D} {Cs : List Addr} (hv : c.hv = some (dd, fs)) (x : ExC c.K C) (hc : clsAll ds = some Cs) (h : PySem.W.kitAny c.K (.ref C) (Cs.map .ref) = some b) (q : Q A (.val (.bl b))) : CbD c (rIsX c.K a (.ref C) (some dd)) [.val (.cls a), .val (.tup ds)] A Q := by
  rw [clsAll_eq hc]; exact cb_isS Cs hv x h q
theorem strOk_of (x : String) : PyData.strOk (Str.ofString x) = true := by
  unfold PyData.strOk
  rw [PySem.Str.ofString_eq_toList]
  show (Array.all _ _) = true
  rw [List.all_toArray, List.all_map]
  refine List.all_eq_true.mpr fun ch _ => ?_
  show decide (ch.toNat < 0x110000) = true
  refine decide_eq_true ?_
  have v := ch.valid
  have : ch.toNat = ch.val.toNat := rfl
  rcases v with v | v
  · omega
  · omega
theorem can_str1 {s : Str} (hs : PyData.strOk s = true) : (PyData.list [.str s]).canLay0 = true := layAll (ps := [.str s]) fun p hp => by rw [List.mem_singleton.mp hp]; unfold PyData.canLay0; exact hs
theorem shaped_str1 {s : Str} (hs : PyData.strOk s = true) : SeqAt.shaped (.list [.str s]) = true := by
  unfold SeqAt.shaped
  rw [can_str1 hs, Bool.true_and]
  exact decide_eq_true (Nat.le_trans (Nat.succ_le_succ (depAll (ps := [.str s]) (n := 0) fun p hp => by rw [List.mem_singleton.mp hp]; exact Nat.le_refl _)) (by decide))
/-- an own list of one text is [text] -/
theorem od_eqStr1 {i : Nat} {s : Str} (hs : PyData.strOk s = true) (h : A.s[i]? = some (some (.own (.lst [.str s])))) (q : Q A (.val (.bl true))) : OpD c (rEqA c.K) (.slot i) (.val (.lst [.str s])) A Q :=
  od_eqD (p := .list [.str s]) (q := .list [.str s]) (b := true) ⟨_, _, h, .cons (.str s) .nil, rfl⟩ (.lst (.cons (.str s) .nil)) (shaped_str1 hs) (shaped_str1 hs) (SeqAt.eqv_refl _ (can_str1 hs)) q
theorem cb_isSF {ds : List D} {Cs : List Addr} (hv : c.hv = some (dd, fs)) (x : ExC c.K C) (hc : clsAll ds = some Cs) (h : PySem.W.kitAny c.K (.ref C) (Cs.map .ref) = some false) (q : Q A (.val (.bl false))) : CbD c (rIsX c.K a (.ref C) (some dd)) [.val (.cls a), .val (.tup ds)] A Q := cb_isS2 hv x hc h q
theorem cb_isST {ds : List D} {Cs : List Addr} (hv : c.hv = some (dd, fs)) (x : ExC c.K C) (hc : clsAll ds = some Cs) (h : PySem.W.kitAny c.K (.ref C) (Cs.map .ref) = some true) (q : Q A (.val (.bl true))) : CbD c (rIsX c.K a (.ref C) (some dd)) [.val (.cls a), .val (.tup ds)] A Q := cb_isS2 hv x hc h q
theorem we_cls {C : Addr} (q : Q A (.val (.cls C))) : WE c (tC (.ref C)) A Q := we_C (fun _ _ => .cls _) q
theorem app_go {i : Nat} {ds : List D} {P : List D → Prop} (h : A.s[i]? = some (some (.own (.lst ds)))) (hl : ds.length < 100000) (q : P ds) : ∃ ds, A.s[i]? = some (some (.own (.lst ds))) ∧ ds.length < 100000 ∧ P ds := ⟨ds, h, hl, q⟩
def inB (lo hi : Int) : List D → Prop
  | [] => True
  | .int v :: r => (lo ≤ v ∧ v ≤ hi) ∧ inB lo hi r
  | _ => False
theorem inB_at {lo hi : Int} : ∀ {ds : List D}, inB lo hi ds → ∀ d ∈ ds, ∃ v : Int, d = .int v ∧ lo ≤ v ∧ v ≤ hi
  | [], _, d, h => by cases h
  | .int v :: r, h, d, hd => by
    rcases List.mem_cons.mp hd with rfl | hd
    · exact ⟨v, rfl, h.1⟩
    · exact inB_at h.2 d hd
  | .non :: _, h, _, _ => h.elim
  | .bl _ :: _, h, _, _ => h.elim
  | .str _ :: _, h, _, _ => h.elim
  | .lst _ :: _, h, _, _ => h.elim
  | .tup _ :: _, h, _, _ => h.elim
  | .scr _ :: _, h, _, _ => h.elim
  | .sct _ :: _, h, _, _ => h.elim
  | .ptr _ :: _, h, _, _ => h.elim
  | .obj _ _ :: _, h, _, _ => h.elim
  | .ty _ :: _, h, _, _ => h.elim
  | .cls _ :: _, h, _, _ => h.elim
/-- one of several numbers, by their bounds -/
theorem od_pickN (lo hi : Nat) {x : RV} {ds : List D} {i : Int} (hx : lsOf A x = some ds) (h0 : 0 ≤ i) (h1 : i < (ds.length : Int)) (hb : inB lo hi ds) (q : ∀ v : Nat, lo ≤ v → v ≤ hi → Q A (.val (.int (v : Nat)))) : OpD c (L2.rIx c.K) x (.val (.int i)) A Q :=
  od_ixAll hx h0 h1 (inB_at hb) fun d ⟨v, ed, a, b⟩ => by
    have z := q v.toNat (by omega) (by omega)
    rw [show ((v.toNat : Nat) : Int) = v by omega] at z
    rw [ed]; exact z
theorem dL_tk {ls : List Nat} {k : Nat} : cutD (dL ls) none (some (k : Int)) = dL (ls.take k) := by unfold dL; rw [cutD_tn, ← List.map_take]
theorem natOf {x : Int} (lo hi : Nat) (h1 : (lo : Int) ≤ x) (h2 : x ≤ (hi : Int)) : ∃ w : Nat, x = (w : Int) ∧ lo ≤ w ∧ w ≤ hi := ⟨x.toNat, by omega, by omega, by omega⟩
end
end AL
local macro_rules | `(tactic| walk_at "pk") => `(tactic| (simp only [List.length_cons, List.length_nil, List.length_append]; omega))
local macro_rules | `(tactic| walk_at "inb") => `(tactic| ((try simp only [List.cons_append, List.nil_append]); repeat (first | exact trivial | refine ⟨⟨by omega, by omega⟩, ?_⟩)))
local macro_rules | `(tactic| walk_at "go1") => `(tactic| first
  | ((with_reducible refine' AL.app_go ?h ?hl ?_); (case h => rfl); (case hl => first | exact Nat.le_of_ble_eq_true rfl | omega | (simp only [List.length_map, List.length_append, List.length_cons, List.length_nil]; omega)))
  | ((with_reducible refine' AL.od_ixT ?h1 ?h2 ?_); (case h1 => rfl); (case h2 => exact AL.atI_of (by decide) rfl))
  | ((with_reducible refine' AL.od_ixL ?h1 ?h2 ?_); (case h1 => rfl); (case h2 => exact AL.atI_of (by decide) rfl)))
local macro_rules | `(tactic| walk_at "go") => `(tactic| ((repeat (first | walk_at "als1" | walk_at "am1" | walk_at "go1" | walk_at "am2" | walk_at "aln1" | walk_at "al2")); all_goals (try dsimp only [AL.as_eta])))
local macro_rules | `(tactic| walk_at "kany") => `(tactic| first | exact AL.ka_nil | (refine AL.ka_yes ?_; assumption) | (refine AL.ka_no ?_ ?_; assumption; walk_at "kany"))
local macro_rules | `(tactic| walk_at "alx1") => `(tactic| first
  | (with_reducible refine' AL.we_cls ?_)
  | ((with_reducible refine' AL.cb_isC ?hv ?x ?h ?_); (case hv => first | rfl | assumption); (case x => assumption); (case h => assumption))
  | ((with_reducible refine' AL.cb_isT ?hv ?x ?h ?_); (case hv => first | rfl | assumption); (case x => assumption); (case h => assumption))
  | ((with_reducible refine' AL.cb_isSF ?hv ?x ?hc ?h ?_); (case hv => first | rfl | assumption); (case x => assumption); (case hc => rfl); (case h => walk_at "kany"))
  | ((with_reducible refine' AL.cb_isST ?hv ?x ?hc ?h ?_); (case hv => first | rfl | assumption); (case x => assumption); (case hc => rfl); (case h => walk_at "kany"))
  | ((with_reducible refine' AL.we_xf ?hi ?hv ?hl ?_); (case hi => rfl); (case hv => first | rfl | assumption); (case hl => rfl))
  | ((with_reducible refine' AL.we_callE ?hi ?hv ?_); (case hi => rfl); (case hv => first | rfl | assumption))
  | ((with_reducible refine' AL.cb_repr ?hp ?hs ?_); (case hp => assumption); (case hs => assumption)))
local macro_rules | `(tactic| walk_at "alx") => `(tactic| ((repeat (first | walk_at "al1" | walk_at "alx1" | walk_at "go1" | walk_at "am1" | walk_at "am2" | walk_at "al2")); all_goals (try dsimp only [AL.as_eta])))

namespace AL
open PySem L2
/-! ### walks over a list that is a cell -/
def RealN (K : PySem.W.Frag) (F0 : Hp) (m0 : List Addr) (J : It) (n : Nat) : Prop := ∀ F G m A σ H ds, Ex F0 F → Pre m0 m → Sim K F G m A σ H → A.o[n]? = some (Cell.lst ds) → ∀ i,
  (∀ d, ds[i]? = some d → J.go i H ∧ ∀ x H', J.yld i H x H' → H' = H ∧ Rep K F m x d) ∧ (ds.length ≤ i → J.stop i H)
theorem real_n {K : PySem.W.Frag} {F : Hp} {m : List Addr} {a : Addr} {n : Nat} (em : m[n]? = some a) : RealN K F m (Itl K a) n := fun F2 G m2 A2 σ H ds e p S hc i => by
  obtain ⟨_, _, vs, ha, rv⟩ := S.h.cell n a _ (p n a em) hc trivial
  have hs : SqL K H a vs := .inl (.inl ha)
  refine ⟨fun d hd => ?_, fun hl => ⟨vs, hs, by rw [rv.len]; exact hl⟩⟩
  obtain ⟨v, hv, r⟩ := rv.get hd
  refine ⟨⟨vs, v, hs, hv⟩, fun x H' y => ?_⟩
  obtain ⟨rfl, y⟩ := y
  have e2 := y vs hs
  rw [hv] at e2; cases e2
  exact ⟨rfl, r⟩
section
variable {c : Ct} {A : AS} {te ta tb tl : TE} {t u tt : TT} {x y : RV} {Q : QE}
theorem wi_cell (Rc : AS → Nat → List D → Prop) (h : WE c tl A fun A1 r => ∃ n ds, r = .val (.ptr n) ∧ A1.o[n]? = some (.lst ds) ∧ Rc A1 n ds) : ∀ F G m σ H, Sim c.K F G m A σ H → EOk c F G m → ∀ R : It → Hp → Prop,
    (∀ F' m' A' J H' n ds, Ex F F' → Pre m m' → Sim c.K F' G m' A' σ H' → RealN c.K F' m' J n → A'.o[n]? = some (.lst ds) → Rc A' n ds → R J H') → iSeq c.K tl σ H R := fun F G m σ H S E R k =>
  h F G m σ H S E _ fun F1 m1 A1 v H1 r e1 p1 S1 R1 ⟨n, ds, er, hc, q⟩ => by
    subst er
    cases R1 with
    | ptr em =>
      obtain ⟨_, _, vs, ha, rv⟩ := S1.h.cell n _ _ em hc trivial
      exact ⟨_, _, rfl, .inl ⟨.inl (.inl ha), k F1 m1 A1 _ H1 n ds e1 p1 S1 (real_n em) hc q⟩⟩
end
section
variable {c : Ct} {A : AS} {t t1 t2 tb : TS} {nx bk ct : AS → Prop} {rt : List Cell → D → Prop} {tl : TE}
/-- a loop over a cell that stays as it is -/
theorem vs_forC {g : TG} {α : Type} (vs : List Nat) (st : α → List (Nat × Option SV)) (oc : α → List Cell) (P : List D → Nat → α → Prop)
    (h : WE c tl A fun A1 r => ∃ n ds, r = .val (.ptr n) ∧ A1.o[n]? = some (.lst ds) ∧ (∀ i a, P ds i a → (oc a)[n]? = some (.lst ds)) ∧ (∃ a, A1.wipe vs = ⟨updS (wipeA A1.s vs) (st a), oc a⟩ ∧ P ds 0 a) ∧
      (∀ i d a, ds[i]? = some d → P ds i a → WG c g d ⟨updS (wipeA A1.s vs) (st a), oc a⟩ fun A3 => WS c tb A3 ⟨fun (A4 : AS) => ∃ a', A4.wipe vs = ⟨updS (wipeA A1.s vs) (st a'), oc a'⟩ ∧ P ds (i + 1) a', rt, fun A4 => nx (A4.wipe vs), fun (A4 : AS) => ∃ a', A4.wipe vs = ⟨updS (wipeA A1.s vs) (st a'), oc a'⟩ ∧ P ds (i + 1) a'⟩) ∧
      ∀ a, P ds ds.length a → nx ⟨updS (wipeA A1.s vs) (st a), oc a⟩) :
    WS c (tFor (iSeq c.K tl) g tb) A ⟨nx, rt, bk, ct⟩ := vs_wipeE vs (fun F G m σ H S E Dc k => by
  refine wi_cell (fun A1 n ds => (∀ i a, P ds i a → (oc a)[n]? = some (.lst ds)) ∧ ∃ I : Nat → AS → Prop, (∀ i A2, I i A2 → ∃ a, A2.wipe vs = ⟨updS (wipeA A1.s vs) (st a), oc a⟩ ∧ P ds i a) ∧ I 0 A1 ∧ (∀ i d A2, ds[i]? = some d → I i A2 → WG c g d A2 fun A3 => WS c tb A3 ⟨I (i + 1), rt, fun A4 => nx (A4.wipe vs), I (i + 1)⟩) ∧ ∀ A2, I ds.length A2 → nx (A2.wipe vs))
    (h.imp fun A1 r ⟨n, ds, er, hc, hP, h0, hs, hd⟩ => ⟨n, ds, er, hc, hP, fun i A2 => ∃ a, A2.wipe vs = ⟨updS (wipeA A1.s vs) (st a), oc a⟩ ∧ P ds i a, fun _ _ z => z, h0, fun i d A2 hi ⟨a, ea, pa⟩ => WG.wipe vs (by rw [ea]; exact hs i d a hi pa), fun A2 ⟨a, ea, pa⟩ => by rw [ea]; exact hd a pa⟩)
    F G m σ H S E _ fun F1 m1 A1 J H1 n0 ds e1 p1 S1 RJ hc ⟨hP, I, hI, h0, hs, hd⟩ => ?_
  refine ⟨fun i n σ2 H2 => n = ds.length - i ∧ i ≤ ds.length ∧ ∃ F2 m2 A2, Ex F1 F2 ∧ Pre m1 m2 ∧ Sim c.K F2 G m2 A2 σ2 H2 ∧ I i A2, ⟨_, rfl, Nat.zero_le _, F1, m1, A1, Evl.Ex.refl _, Pre.refl _, S1, h0⟩, fun i n σ2 H2 hw => ?_⟩
  obtain ⟨rfl, hi, F2, m2, A2, e2, p2, S2, q2⟩ := hw
  have hc2 : A2.o[n0]? = some (.lst ds) := by
    obtain ⟨a, ea, pa⟩ := hI i A2 q2
    have := hP i a pa
    rwa [← show A2.o = oc a from congrArg AS.o ea] at this
  obtain ⟨r1, r2⟩ := RJ F2 G m2 A2 σ2 H2 ds e2 p2 S2 hc2 i
  by_cases hl : i < ds.length
  · obtain ⟨g1, g2⟩ := r1 _ (List.getElem?_eq_getElem hl)
    refine .inr ⟨g1, fun σ3 H3 => ∃ F3 m3 A3, Ex F1 F3 ∧ Pre m1 m3 ∧ Sim c.K F3 G m3 A3 σ3 H3 ∧ I (i + 1) A3, fun σ3 H3 hN => ?_, fun x H3 hy => ?_⟩
    · exact ⟨ds.length - (i + 1), by omega, rfl, hl, hN⟩
    · obtain ⟨rfl, R3⟩ := g2 x H3 hy
      refine hs i _ A2 (List.getElem?_eq_getElem hl) q2 F2 G m2 σ2 _ x S2 R3 (E.mono (e1.trans e2) (p1.trans p2)) _ fun F4 m4 A4 σ4 H4 e4 p4 S4 q4 => ?_
      have f1 := e2.trans e4
      have f2 := p2.trans p4
      refine q4 F4 G m4 σ4 H4 S4 (E.mono (e1.trans f1) (p1.trans f2)) _ ⟨fun F5 m5 A5 σ5 H5 e5 p5 S5 q5 => ⟨F5, m5, A5, f1.trans e5, f2.trans p5, S5, q5⟩, (k.mono (e1.trans f1) (p1.trans f2)).rt, fun F5 m5 A5 σ5 H5 e5 p5 S5 q5 => k.nx F5 m5 A5 σ5 H5 ((e1.trans f1).trans e5) ((p1.trans f2).trans p5) S5 q5, fun F5 m5 A5 σ5 H5 e5 p5 S5 q5 => ⟨F5, m5, A5, f1.trans e5, f2.trans p5, S5, q5⟩⟩
  · have : i = ds.length := by omega
    subst this
    exact .inl ⟨r2 (Nat.le_refl _), k.nx F2 m2 A2 σ2 H2 (e1.trans e2) (p1.trans p2) S2 (hd A2 q2)⟩)
end
end AL
namespace AL
open PySem L2
section
variable {c : Ct} {A : AS} {te : TE} {tt : TT}
/-- a comprehension by an invariant of the cells and of what is made so far -/
theorem wn_lcC {tl : TE} {g : TG} {vs : List Nat} {Q : AS → List D → Prop} (hg : GOk g vs)
    (h : WE c tl A fun A1 r => ∃ n ds, r = .val (.ptr n) ∧ A1.o[n]? = some (.lst ds) ∧ noOwnB A1.s vs = true ∧ ds.length < 100000 ∧ ∃ I : Nat → List Cell → List D → Prop, I 0 A1.o [] ∧ (∀ i O acc, I i O acc → O[n]? = some (.lst ds)) ∧
      (∀ i d O acc, ds[i]? = some d → I i O acc → WG c g d ⟨wipeA A1.s vs, O⟩ fun A2 => WT c tt A2 fun A3 b => (b = true → WE c te A3 fun A4 r => Frz A4 r fun A5 e => I (i + 1) A5.o (acc ++ [e]) ∧ ∀ j, j ∉ vs → A5.s[j]? = A1.s[j]?) ∧
        (b = false → I (i + 1) A3.o acc ∧ ∀ j, j ∉ vs → A3.s[j]? = A1.s[j]?)) ∧ ∀ O acc, I ds.length O acc → Q ⟨A1.s, O⟩ acc) :
    WN c (tLc (iSeq c.K tl) g tt te vs) A Q := fun F G m σ H S E Qc k => wi_cell _ h F G m σ H S E _ fun F1 m1 A1 J H1 n0 ds e1 p1 S1 RJ hc0 ⟨no', hlen, I, hI0, hP, hs, hd⟩ => by
  have no := noOwn_of no'
  intro Dl hD
  have gD : G Dl = none := (S1.h.fresh hD).2.1
  have sub : ∀ (o : HO) a u, G a = some u → upd G Dl o a = some u := fun o a u e => by rw [upd_ne (ne_of_none e gD)]; exact e
  have nD := S1.notOwn hD
  refine ⟨fun i n H2 => n = ds.length - i ∧ i ≤ ds.length ∧ ∃ F2 m2 acc accD O, Ex F1 F2 ∧ Pre m1 m2 ∧ Sim c.K F2 (upd G Dl (.lst acc)) m2 ⟨A1.s, O⟩ σ H2 ∧ Reps c.K F2 m2 acc accD ∧ I i O accD ∧ accD.length ≤ i,
    ⟨_, rfl, Nat.zero_le _, F1, m1, [], [], A1.o, Evl.Ex.refl _, Pre.refl _, S1.addG hD, .nil, hI0, Nat.le_refl _⟩, fun i n H2 hw => ?_⟩
  obtain ⟨rfl, hi, F2, m2, acc, accD, O, e2, p2, S2, R2, q2, la⟩ := hw
  obtain ⟨r1, r2⟩ := RJ F2 _ m2 ⟨A1.s, O⟩ σ H2 ds e2 p2 S2 (hP i O accD q2) i
  have hacc : acc.length ≤ i := by rw [R2.len]; exact la
  by_cases hl : i < ds.length
  · obtain ⟨g1, g2⟩ := r1 _ (List.getElem?_eq_getElem hl)
    refine .inr ⟨g1, fun H3 => i + 1 ≤ ds.length ∧ ∃ F2 m2 acc accD O, Ex F1 F2 ∧ Pre m1 m2 ∧ Sim c.K F2 (upd G Dl (.lst acc)) m2 ⟨A1.s, O⟩ σ H3 ∧ Reps c.K F2 m2 acc accD ∧ I (i + 1) O accD ∧ accD.length ≤ i + 1, fun H3 hN => ⟨_, by omega, rfl, hN⟩, fun x H3 hy => ?_⟩
    obtain ⟨eH, R3⟩ := g2 x H3 hy
    subst eH
    have S3 := S2
    have e3 : Ex F2 F2 := Evl.Ex.refl F2
    let F3 := F2
    have E3 : EOk c F3 (upd G Dl (.lst acc)) m2 := (E.weakG (sub _)).mono ((e1.trans e2).trans e3) (p1.trans p2)
    have S3w : Sim c.K F3 (upd G Dl (.lst acc)) m2 ⟨wipeA A1.s vs, O⟩ (wipe σ vs) H3 := ⟨S3.h, S3.s.wipe vs⟩
    have ww : wipe (wipe σ vs) vs = wipe σ vs := by
      apply List.ext_getElem?
      intro j
      by_cases hj : j ∈ vs
      · have z : ∀ (us : List Nat) (τ : St), j ∈ us → (wipe τ us)[j]? = if j < τ.length then some none else none := fun us => by
          induction us with
          | nil => intro τ h; cases h
          | cons u us ih =>
            intro τ h
            unfold wipe
            by_cases y : u = j
            · subst y
              by_cases hl : u < τ.length
              · rw [List.getElem?_set_self (by rw [wipe_length]; exact hl), if_pos hl]
              · rw [if_neg hl, List.getElem?_eq_none (by rw [List.length_set, wipe_length]; omega)]
            · rw [List.getElem?_set_ne y]
              exact ih τ (by simpa [show ¬ j = u from fun z => y z.symm] using h)
        rw [z vs _ hj, z vs _ hj, wipe_length]
      · rw [wipe_not hj]
    have hgx := hg x (wipe σ vs) H3 (fun σ2 H4 => tt σ2 H4 fun b H5 => if b = true then te σ2 H5 fun y H6 => ∃ acc', H6 Dl = some (.lst acc') ∧ acc'.length < sizeLine ∧ (i + 1 ≤ ds.length ∧ ∃ F2 m2 acc accD O, Ex F1 F2 ∧ Pre m1 m2 ∧ Sim c.K F2 (upd G Dl (.lst acc)) m2 ⟨A1.s, O⟩ σ (upd H6 Dl (.lst (acc' ++ [y]))) ∧ Reps c.K F2 m2 acc accD ∧ I (i + 1) O accD ∧ accD.length ≤ i + 1) else
      (i + 1 ≤ ds.length ∧ ∃ F2 m2 acc accD O, Ex F1 F2 ∧ Pre m1 m2 ∧ Sim c.K F2 (upd G Dl (.lst acc)) m2 ⟨A1.s, O⟩ σ H5 ∧ Reps c.K F2 m2 acc accD ∧ I (i + 1) O accD ∧ accD.length ≤ i + 1))
    rw [ww] at hgx
    refine hgx (hs i _ O accD (List.getElem?_eq_getElem hl) q2 F3 _ m2 (wipe σ vs) H3 x S3w R3 E3 _ fun F4 m4 A4 σ4 H4 e4 p4 S4 q4 ew => ?_)
    have x4 := e2.trans (e3.trans e4)
    have y4 := p2.trans p4
    refine q4 F4 _ m4 σ4 H4 S4 (E3.mono e4 p4) _ fun F5 m5 A5 b H5 e5 p5 S5 q5 => ?_
    cases b with
    | false =>
      obtain ⟨h1, h3⟩ := q5.2 rfl
      show i + 1 ≤ ds.length ∧ _
      exact ⟨hl, F5, m5, acc, accD, A5.o, x4.trans e5, y4.trans p5, S2.unwipeO S5 (e3.trans (e4.trans e5)) (p4.trans p5) h3 ew no, R2.mono (e3.trans (e4.trans e5)) (p4.trans p5), h1, by omega⟩
    | true =>
      show te σ4 H5 _
      refine (WE.frz (q5.1 rfl)) F5 _ m5 σ4 H5 S5 (E3.mono (e4.trans e5) (p4.trans p5)) _ fun F6 m6 A6 y H6 r e6 p6 S6 R6 q6 => ?_
      obtain ⟨d, er, h1, h3⟩ := q6
      subst er
      have z6 := e3.trans (e4.trans (e5.trans e6))
      have w6 := p4.trans (p5.trans p6)
      refine ⟨acc, S6.h.exG Dl _ upd_same, Nat.lt_of_le_of_lt hacc (Nat.lt_of_lt_of_le (Nat.lt_trans hl hlen) (by decide)), hl, F6, m6, acc ++ [y], accD ++ [d], A6.o, e2.trans z6, p2.trans w6, (S2.unwipeO S6 z6 w6 h3 ew no : Sim c.K F6 _ m6 ⟨A1.s, A6.o⟩ σ _).setG, (R2.mono z6 w6).app (.cons R6 .nil), h1, by rw [List.length_append, List.length_singleton]; omega⟩
  · have ei : i = ds.length := by omega
    subst ei
    have gs := S2.h.exG Dl _ upd_same
    have fD : F2 Dl = none := by
      cases y : F2 Dl with
      | none => rfl
      | some u => have z := S2.h.dj Dl u y; rw [upd_same] at z; cases z
    exact .inl ⟨r2 (Nat.le_refl _), k F2 m2 ⟨A1.s, O⟩ Dl acc H2 _ (e1.trans e2) (p1.trans p2) (S2.weakG (sub _)) fD gD (fun n e => by have z := S2.h.mG n Dl e; rw [upd_same] at z; cases z) nD gs R2 (hd O accD q2)⟩
end
end AL

namespace AU
open PySem L2 AL
/-! ### values of any kind, numbers among them -/
inductive Odd : D → Prop where
  | int (i : Int) : Odd (.int i)
  | bl (b : Bool) : Odd (.bl b)
  | non : Odd .non
  | str (x : Str) : Odd (.str x)
  | tup (ds : List D) : Odd (.tup ds)
  | lst (ds : List D) : Odd (.lst ds)
def isIntD : D → Bool
  | .int _ => true
  | _ => false
def isFromD (d : D) (a b : Int) : Bool := match d with
  | .int n => decide (a ≤ n) && decide (n ≤ b)
  | _ => false
theorem isFromD_int {n a b : Int} : isFromD (.int n) a b = (decide (a ≤ n) && decide (n ≤ b)) := rfl
theorem isFromD_yes {d : D} {a b : Int} (h : isFromD d a b = true) : ∃ n : Int, d = .int n ∧ a ≤ n ∧ n ≤ b := by
  cases d <;> simp [isFromD] at h
  exact ⟨_, rfl, h⟩
theorem isFromD_of {n a b : Int} (h1 : a ≤ n) (h2 : n ≤ b) : isFromD (.int n) a b = true := by rw [isFromD_int, decide_eq_true h1, decide_eq_true h2]; rfl
def C_is_integer : Contract := fun ds O R _ => ∃ d, ds = [d] ∧ Odd d ∧ R O (.bl (isIntD d))
def C_is_from : Contract := fun ds O R _ => ∃ d, ∃ a b : Int, ds = [d, .int a, .int b] ∧ Odd d ∧ R O (.bl (isFromD d a b))
theorem len_is_integer : ∀ ds O R X, C_is_integer ds O R X → ds.length = 1 := fun _ _ _ _ h => by obtain ⟨_, rfl, _⟩ := h; rfl
theorem len_is_from : ∀ ds O R X, C_is_from ds O R X → ds.length = 3 := fun _ _ _ _ h => by obtain ⟨_, _, _, rfl, _⟩ := h; rfl
/-! ### what can be shown -/
theorem shows_int {i : Int} (h : i.natAbs < 2 ^ 100) : Shows (.int i) := by
  have hl : i.natAbs.log2 < 1920 := by
    by_cases h0 : i.natAbs = 0
    · rw [h0]; decide
    · have := (Nat.log2_lt h0).mpr (show i.natAbs < 2 ^ 100 from h)
      omega
  refine ⟨by show PyData.showable _ = true; unfold PyData.showable; exact decide_eq_true hl, rfl, by show PyData.depth _ ≤ 50; unfold PyData.depth; decide, ?_, hl⟩
  show (PyData.shown (.int i)).length ≤ sizeLine
  unfold PyData.shown
  exact int_text_fits hl
theorem shows_bool (b : Bool) : Shows (.bool b) := ⟨by unfold PyData.showable; rfl, by unfold PyData.hasDict; rfl, by unfold PyData.depth; decide, by unfold PyData.shown; cases b <;> decide, trivial⟩
theorem shows_none : Shows .none := ⟨by unfold PyData.showable; rfl, by unfold PyData.hasDict; rfl, by unfold PyData.depth; decide, by unfold PyData.shown; decide, trivial⟩
/-- odd values that can be shown -/
def OddS (d : D) : Prop := Odd d ∧ ∃ p, Py d p ∧ Shows p ∧ PyData.strOk p.shown = true
theorem oddS_int {i : Int} (h : i.natAbs < 2 ^ 100) : OddS (.int i) := ⟨.int i, .int i, .int i, shows_int h, by unfold PyData.shown; exact strOk_of _⟩
theorem oddS_lt {i : Int} (h1 : -5000 ≤ i) (h2 : i ≤ 5000) : OddS (.int i) := oddS_int (Nat.lt_of_le_of_lt (show i.natAbs ≤ 5000 by omega) (by decide))
theorem oddS_bl (b : Bool) : OddS (.bl b) := ⟨.bl b, _, .bl b, shows_bool b, by cases b <;> decide +kernel⟩
theorem oddS_str (x : Str) (h : Shows (.str x)) (h2 : PyData.strOk (PyData.shown (.str x)) = true) : OddS (.str x) := ⟨.str x, _, .str x, h, h2⟩
theorem oddS_s0 : OddS (.str "0") := oddS_str _ ⟨by unfold PyData.showable; rfl, by unfold PyData.hasDict; rfl, by unfold PyData.depth; decide, by unfold PyData.shown; decide +kernel, trivial⟩ (by decide +kernel)
theorem oddS_s : OddS (.str "") := oddS_str _ ⟨by unfold PyData.showable; rfl, by unfold PyData.hasDict; rfl, by unfold PyData.depth; decide, by unfold PyData.shown; decide +kernel, trivial⟩ (by decide +kernel)
theorem oddS_t0 : OddS (.tup [.int 0]) := ⟨.tup _, .tuple [.int 0], .tup (.cons (.int 0) .nil), ⟨by decide +kernel, by decide +kernel, by decide +kernel, by decide +kernel, trivial⟩, by decide +kernel⟩
theorem oddS_l0 : OddS (.lst [.int 0]) := ⟨.lst _, .list [.int 0], .lst (.cons (.int 0) .nil), ⟨by decide +kernel, by decide +kernel, by decide +kernel, by decide +kernel, trivial⟩, by decide +kernel⟩
theorem oddS_t1 : OddS (.tup [.int 1]) := ⟨.tup _, .tuple [.int 1], .tup (.cons (.int 1) .nil), ⟨by decide +kernel, by decide +kernel, by decide +kernel, by decide +kernel, trivial⟩, by decide +kernel⟩
theorem oddS_l1 : OddS (.lst [.int 1]) := ⟨.lst _, .list [.int 1], .lst (.cons (.int 1) .nil), ⟨by decide +kernel, by decide +kernel, by decide +kernel, by decide +kernel, trivial⟩, by decide +kernel⟩
theorem oddS_t : OddS (.tup []) := ⟨.tup _, .tuple [], .tup .nil, ⟨by decide +kernel, by decide +kernel, by decide +kernel, by decide +kernel, trivial⟩, by decide +kernel⟩
theorem isFromD_hi {n a b : Int} (h : b < n) : isFromD (.int n) a b = false := by rw [isFromD_int, decide_eq_false (show ¬ n ≤ b by omega), Bool.and_false]
theorem isFromD_lo {n a b : Int} (h : n < a) : isFromD (.int n) a b = false := by rw [isFromD_int, decide_eq_false (show ¬ a ≤ n by omega), Bool.false_and]
theorem oddS_non : OddS .non := ⟨.non, _, .non, shows_none, by decide +kernel⟩
/-! ### errors, told -/
def C__law_kinds (CN CR CA CH : Addr) : Addr → List (Str × D) → List Cell → (List Cell → D → Prop) → Prop := fun C fs O R => ∃ d p, Py d p ∧ Shows p ∧
  ((C = CN ∧ fs = [(("number" : Str), d)] ∧ R O (.tup [.str "InvalidNumber", .str p.shown])) ∨ (C = CR ∧ fs = [(("many" : Str), d)] ∧ R O (.tup [.str "NoRoom", .str p.shown])) ∨
   (C = CA ∧ fs = [(("block" : Str), d)] ∧ R O (.tup [.str "NotAlone", .str p.shown])) ∨ (C = CH ∧ fs = [(("block" : Str), d)] ∧ R O (.tup [.str "NotHeld", .str p.shown])))
/-! ### a store -/
structure StoreM where
  many : Nat
  size : Nat
  held : List Nat
  kept : List (List D)
def dN (xs : List Nat) : List D := xs.map fun x => D.int (x : Nat)
theorem dN_len {xs : List Nat} : (dN xs).length = xs.length := List.length_map ..
theorem dN_set {xs : List Nat} {i x : Nat} : (dN xs).set i (.int (x : Nat)) = dN (xs.set i x) := by unfold dN; rw [List.map_set]
theorem dN_get {xs : List Nat} {i : Nat} (h : i < xs.length) : atI (dN xs) (i : Int) = some (.int (xs.getD i 0 : Nat)) := atI_map (by omega) (by rw [Int.toNat_natCast, List.getElem?_eq_getElem h, getD_lt h])
def storeF (s : StoreM) (h k : Nat) : List (Str × D) := [("many", .int (s.many : Nat)), ("size", .int (s.size : Nat)), ("_held", .ptr h), ("_kept", .ptr k)]
structure WfS (s : StoreM) : Prop where
  m1 : 1 ≤ s.many
  m60 : s.many ≤ 60
  s1 : 1 ≤ s.size
  s8 : s.size ≤ 8
  hl : s.held.length = s.many
  kl : s.kept.length = s.many
  rw : ∀ r ∈ s.kept, r.length ≤ s.size
  fr : ∀ b : Nat, s.held.getD b 0 = 0 → s.kept.getD b [] = []
structure StoreAt (C : Addr) (O : List Cell) (n h k : Nat) (s : StoreM) : Prop where
  ins : O[n]? = some (.ins C (storeF s h k))
  held : O[h]? = some (.lst (dN s.held))
  kept : O[k]? = some (.lst (s.kept.map .tup))
  ne : h ≠ k
  wf : WfS s
theorem StoreAt.nh {C : Addr} {O : List Cell} {n h k : Nat} {s : StoreM} (a : StoreAt C O n h k s) : n ≠ h := fun e => by have x := a.ins; rw [e, a.held] at x; cases x
theorem StoreAt.nk {C : Addr} {O : List Cell} {n h k : Nat} {s : StoreM} (a : StoreAt C O n h k s) : n ≠ k := fun e => by have x := a.ins; rw [e, a.kept] at x; cases x
theorem getD_set {α : Type} {xs : List α} {i j : Nat} {x d : α} (h : i < xs.length) : (xs.set i x).getD j d = if i = j then x else xs.getD j d := by
  by_cases e : i = j
  · subst e; rw [if_pos rfl]; simp [List.getD, List.getElem?_set_self h]
  · rw [if_neg e]; simp [List.getD, List.getElem?_set_ne e]
/-- a store with other counts -/
theorem StoreAt.setH {C : Addr} {O : List Cell} {n h k : Nat} {s : StoreM} (a : StoreAt C O n h k s) {b x : Nat} (hb : b < s.many) (hx : x = 0 → s.kept.getD b [] = []) : StoreAt C (O.set h (.lst (dN (s.held.set b x)))) n h k { s with held := s.held.set b x } where
  ins := by rw [List.getElem?_set_ne (Ne.symm a.nh)]; exact a.ins
  held := by rw [List.getElem?_set_self (List.getElem?_eq_some_iff.mp a.held).1]
  kept := by rw [List.getElem?_set_ne a.ne]; exact a.kept
  ne := a.ne
  wf := ⟨a.wf.m1, a.wf.m60, a.wf.s1, a.wf.s8, by show (s.held.set b x).length = _; rw [List.length_set]; exact a.wf.hl, a.wf.kl, a.wf.rw, fun j hj => by
    have hj2 : (s.held.set b x).getD j 0 = 0 := hj
    clear hj
    rw [getD_set (by rw [a.wf.hl]; exact hb)] at hj2
    show s.kept.getD j [] = []
    split at hj2
    · rename_i e; subst e; exact hx hj2
    · exact a.wf.fr j hj2⟩
theorem StoreAt.setK {C : Addr} {O : List Cell} {n h k : Nat} {s : StoreM} (a : StoreAt C O n h k s) {b : Nat} {x : List D} (hb : b < s.many) (hx : x.length ≤ s.size) (h0 : s.held.getD b 0 = 0 → x = []) : StoreAt C (O.set k (.lst ((s.kept.set b x).map .tup))) n h k { s with kept := s.kept.set b x } where
  ins := by rw [List.getElem?_set_ne (Ne.symm a.nk)]; exact a.ins
  held := by rw [List.getElem?_set_ne (Ne.symm a.ne)]; exact a.held
  kept := by rw [List.getElem?_set_self (List.getElem?_eq_some_iff.mp a.kept).1]
  ne := a.ne
  wf := ⟨a.wf.m1, a.wf.m60, a.wf.s1, a.wf.s8, a.wf.hl, by show (s.kept.set b x).length = _; rw [List.length_set]; exact a.wf.kl, fun r hr => by
    rcases List.mem_or_eq_of_mem_set hr with h | h
    · exact a.wf.rw r h
    · exact h ▸ hx, fun j hj => by
    show (s.kept.set b x).getD j [] = []
    rw [getD_set (by rw [a.wf.kl]; exact hb)]
    split
    · rename_i e; subst e; exact h0 hj
    · exact a.wf.fr j hj⟩
/-- the block that a value names -/
def blockOf (s : StoreM) (d : D) : Option Nat := if isFromD d 0 ((s.many : Nat) - 1 : Int) then (match d with | .int i => some i.toNat | _ => none) else none
def heldOf (s : StoreM) (d : D) : Option Nat := (blockOf s d).filter fun b => decide (0 < s.held.getD b 0)
def aloneOf (s : StoreM) (d : D) : Option Nat := (heldOf s d).filter fun b => decide (s.held.getD b 0 ≤ 1)
theorem blockOf_some {s : StoreM} {d : D} {b : Nat} (h : blockOf s d = some b) : d = .int (b : Nat) ∧ b < s.many := by
  unfold blockOf at h
  split at h
  · rename_i z
    obtain ⟨n, rfl, h1, h2⟩ := isFromD_yes z
    simp only [Option.some.injEq] at h
    exact ⟨by rw [← h, Int.toNat_of_nonneg h1], by omega⟩
  · cases h
theorem blockOf_int {s : StoreM} {b : Nat} (h : b < s.many) : blockOf s (.int (b : Nat)) = some b := by
  unfold blockOf
  rw [if_pos (isFromD_of (by omega) (by omega))]; simp
theorem heldOf_some {s : StoreM} {d : D} {b : Nat} (h : heldOf s d = some b) : d = .int (b : Nat) ∧ b < s.many ∧ 0 < s.held.getD b 0 := by
  unfold heldOf at h
  obtain ⟨h1, h2⟩ := Option.filter_eq_some_iff.mp h
  exact ⟨(blockOf_some h1).1, (blockOf_some h1).2, of_decide_eq_true h2⟩
theorem heldOf_int {s : StoreM} {b : Nat} (h : b < s.many) (h0 : 0 < s.held.getD b 0) : heldOf s (.int (b : Nat)) = some b := by
  unfold heldOf; rw [blockOf_int h]; exact if_pos (decide_eq_true h0)
theorem heldOf_none {s : StoreM} {d : D} {b : Nat} (h : blockOf s d = some b) (h0 : s.held.getD b 0 = 0) : heldOf s d = none := by
  unfold heldOf; rw [h]; exact if_neg (by show ¬ decide (0 < s.held.getD b 0) = true; rw [h0]; decide)
theorem heldOf_some' {s : StoreM} {d : D} {b : Nat} (h : blockOf s d = some b) (h0 : s.held.getD b 0 ≠ 0) : heldOf s d = some b := by
  unfold heldOf; rw [h]; exact if_pos (decide_eq_true (by omega))
theorem heldOf_none' {s : StoreM} {d : D} (h : blockOf s d = none) : heldOf s d = none := by unfold heldOf; rw [h]; rfl
/-- the lowest free block -/
def lowest (s : StoreM) : Option Nat := if 0 ∈ s.held then some (s.held.idxOf 0) else none
def freeOf (s : StoreM) : Nat := s.held.count 0
section
variable (CS CN CR CA CH : Addr)
def C_Store___init__ : Contract := fun ds O R X => ∃ (i : Nat) (d e : D), ds = [.ptr i, d, e] ∧ O[i]? = some (.ins CS []) ∧ Odd d ∧ Odd e ∧
  (isFromD d 1 60 = false → X O CN [("number", d)]) ∧ (isFromD d 1 60 = true → isFromD e 1 8 = false → X O CN [("number", e)]) ∧
  ∀ m z : Nat, d = .int (m : Nat) → e = .int (z : Nat) → 1 ≤ m → m ≤ 60 → 1 ≤ z → z ≤ 8 →
    R ((O ++ [Cell.lst (dN (List.replicate m 0)), Cell.lst ((List.replicate m []).map D.tup)]).set i (.ins CS (storeF ⟨m, z, List.replicate m 0, List.replicate m []⟩ O.length (O.length + 1)))) .non
def C_Store_free : Contract := fun ds O R _ => ∃ n h k s, ds = [.ptr n] ∧ StoreAt CS O n h k s ∧ R O (.int (freeOf s : Nat))
def C_Store_take : Contract := fun ds O R X => ∃ n h k s, ds = [.ptr n] ∧ StoreAt CS O n h k s ∧ (∀ b, lowest s = some b → R (O.set h (.lst (dN (s.held.set b 1)))) (.int (b : Nat))) ∧ (lowest s = none → X O CR [("many", .int 1)])
def C_Store__check_block : Contract := fun ds O R X => ∃ n h k s d, ds = [.ptr n, d] ∧ StoreAt CS O n h k s ∧ Odd d ∧ (∀ b, blockOf s d = some b → R O .non) ∧ (blockOf s d = none → X O CH [("block", d)])
def C_Store__check_held : Contract := fun ds O R X => ∃ n h k s d, ds = [.ptr n, d] ∧ StoreAt CS O n h k s ∧ Odd d ∧ (∀ b, heldOf s d = some b → R O .non) ∧ (heldOf s d = none → X O CH [("block", d)])
def C_Store__check_alone : Contract := fun ds O R X => ∃ n h k s d, ds = [.ptr n, d] ∧ StoreAt CS O n h k s ∧ Odd d ∧ (∀ b, heldOf s d = some b → s.held.getD b 0 ≤ 1 → R O .non) ∧ (heldOf s d = none → X O CH [("block", d)]) ∧ (∀ b, heldOf s d = some b → 1 < s.held.getD b 0 → X O CA [("block", d)])
def C_Store_hold : Contract := fun ds O R X => ∃ n h k s d, ds = [.ptr n, d] ∧ StoreAt CS O n h k s ∧ Odd d ∧ (∀ b, heldOf s d = some b → R (O.set h (.lst (dN (s.held.set b (s.held.getD b 0 + 1))))) .non) ∧ (heldOf s d = none → X O CH [("block", d)])
def releaseO (O : List Cell) (h k : Nat) (s : StoreM) (b : Nat) : List Cell := if s.held.getD b 0 = 1 then (O.set h (.lst (dN (s.held.set b 0)))).set k (.lst ((s.kept.set b []).map .tup)) else O.set h (.lst (dN (s.held.set b (s.held.getD b 0 - 1))))
def releaseM (s : StoreM) (b : Nat) : StoreM := if s.held.getD b 0 = 1 then { s with held := s.held.set b 0, kept := s.kept.set b [] } else { s with held := s.held.set b (s.held.getD b 0 - 1) }
theorem StoreAt.release {C : Addr} {O : List Cell} {n h k : Nat} {s : StoreM} (a : StoreAt C O n h k s) {b : Nat} (hb : b < s.many) (hh : 0 < s.held.getD b 0) : StoreAt C (releaseO O h k s b) n h k (releaseM s b) := by
  unfold releaseO releaseM
  split
  · refine ⟨?_, ?_, ?_, a.ne, ⟨a.wf.m1, a.wf.m60, a.wf.s1, a.wf.s8, by show (s.held.set b 0).length = _; rw [List.length_set]; exact a.wf.hl, by show (s.kept.set b []).length = _; rw [List.length_set]; exact a.wf.kl, fun r hr => ?_, fun j hj => ?_⟩⟩
    · rw [List.getElem?_set_ne (Ne.symm a.nk), List.getElem?_set_ne (Ne.symm a.nh)]; exact a.ins
    · rw [List.getElem?_set_ne (Ne.symm a.ne), List.getElem?_set_self (List.getElem?_eq_some_iff.mp a.held).1]
    · rw [List.getElem?_set_self (by rw [List.length_set]; exact (List.getElem?_eq_some_iff.mp a.kept).1)]
    · rcases List.mem_or_eq_of_mem_set hr with h | h
      · exact a.wf.rw r h
      · rw [h]; exact Nat.zero_le _
    · have hj : (s.held.set b 0).getD j 0 = 0 := hj
      show (s.kept.set b []).getD j [] = []
      rw [getD_set (by rw [a.wf.kl]; exact hb)]
      rw [getD_set (by rw [a.wf.hl]; exact hb)] at hj
      split
      · rfl
      · rename_i e; rw [if_neg e] at hj; exact a.wf.fr j hj
  · exact a.setH hb (by omega)
theorem releaseM_held {s : StoreM} {b : Nat} : (releaseM s b).held = s.held.set b (s.held.getD b 0 - 1) := by
  unfold releaseM
  split
  · rename_i e; show s.held.set b 0 = _; rw [e]
  · rfl
theorem releaseM_many {s : StoreM} {b : Nat} : (releaseM s b).many = s.many ∧ (releaseM s b).size = s.size := by
  unfold releaseM; split <;> exact ⟨rfl, rfl⟩
theorem blockOf_isFrom {s : StoreM} {d : D} : isFromD d 0 ((s.many : Nat) - 1 : Int) = (blockOf s d).isSome := by
  unfold blockOf
  cases h : isFromD d 0 ((s.many : Nat) - 1 : Int) with
  | true => obtain ⟨n, rfl, _, _⟩ := isFromD_yes h; rfl
  | false => rfl
theorem dN_dL (xs : List Nat) : dN xs = (xs.map Int.ofNat).map .int := by unfold dN; rw [List.map_map]; rfl
theorem lowest_none {s : StoreM} : lowest s = none ↔ freeOf s = 0 := by
  unfold lowest freeOf
  rw [List.count_eq_zero]
  constructor
  · intro h; split at h
    · cases h
    · assumption
  · intro h; rw [if_neg h]
theorem lowest_some {s : StoreM} {b : Nat} (h : lowest s = some b) : b < s.held.length ∧ s.held.getD b 1 = 0 ∧ ∀ m : Nat, m < b → s.held.getD m 0 ≠ 0 := by
  unfold lowest at h
  split at h
  · rename_i e
    cases h
    have hl := List.idxOf_lt_length_of_mem e
    refine ⟨hl, ?_, fun m hm => ?_⟩
    · rw [getD_lt hl]; exact List.getElem_idxOf hl
    · unfold List.idxOf at hm hl
      have := List.not_of_lt_findIdx hm
      rw [getD_lt (by omega)]
      simpa using this
  · cases h
def C_Store_release : Contract := fun ds O R X => ∃ n h k s d, ds = [.ptr n, d] ∧ StoreAt CS O n h k s ∧ Odd d ∧ (∀ b, heldOf s d = some b → R (releaseO O h k s b) .non) ∧ (heldOf s d = none → X O CH [("block", d)])
def C_Store_rows : Contract := fun ds O R X => ∃ n h k s d, ds = [.ptr n, d] ∧ StoreAt CS O n h k s ∧ Odd d ∧ (∀ b, heldOf s d = some b → R O (.tup (s.kept.getD b []))) ∧ (heldOf s d = none → X O CH [("block", d)])
def C_Store_holders : Contract := fun ds O R X => ∃ n h k s d, ds = [.ptr n, d] ∧ StoreAt CS O n h k s ∧ Odd d ∧ (∀ b, blockOf s d = some b → R O (.int (s.held.getD b 0 : Nat))) ∧ (blockOf s d = none → X O CH [("block", d)])
end
theorem storeAt_new {C : Addr} {O : List Cell} {i m z : Nat} (hi : i < O.length) (h1 : 1 ≤ m) (h2 : m ≤ 60) (h3 : 1 ≤ z) (h4 : z ≤ 8) : StoreAt C ((O ++ [Cell.lst (dN (List.replicate m 0)), Cell.lst ((List.replicate m []).map D.tup)]).set i (.ins C (storeF ⟨m, z, List.replicate m 0, List.replicate m []⟩ O.length (O.length + 1)))) i O.length (O.length + 1) ⟨m, z, List.replicate m 0, List.replicate m []⟩ := by
  have e1 : ∀ x y : Cell, (O ++ [x, y])[O.length]? = some x := fun x y => by simp
  have e2 : ∀ x y : Cell, (O ++ [x, y])[O.length + 1]? = some y := fun x y => by rw [List.getElem?_append_right (by omega), show O.length + 1 - O.length = 1 by omega]; rfl
  refine ⟨?_, ?_, ?_, by omega, ⟨h1, h2, h3, h4, List.length_replicate, List.length_replicate, fun r hr => ?_, fun b _ => ?_⟩⟩
  · rw [List.getElem?_set_self (by rw [List.length_append]; omega)]
  · rw [List.getElem?_set_ne (by omega), e1]
  · rw [List.getElem?_set_ne (by omega), e2]
  · rw [List.eq_of_mem_replicate hr]; exact Nat.zero_le _
  · show (List.replicate m []).getD b [] = []
    by_cases h : b < m
    · rw [getD_lt (by rw [List.length_replicate]; exact h), List.getElem_replicate]
    · rw [getD_ge (by rw [List.length_replicate]; omega)]
theorem len_Store___init__ {CS CN : Addr} : ∀ ds O R X, C_Store___init__ CS CN ds O R X → ds.length = 3 := fun _ _ _ _ h => by obtain ⟨_, _, _, rfl, _⟩ := h; rfl
theorem len_Store_free {CS : Addr} : ∀ ds O R X, C_Store_free CS ds O R X → ds.length = 1 := fun _ _ _ _ h => by obtain ⟨_, _, _, _, rfl, _⟩ := h; rfl
theorem len_Store_take {CS CR : Addr} : ∀ ds O R X, C_Store_take CS CR ds O R X → ds.length = 1 := fun _ _ _ _ h => by obtain ⟨_, _, _, _, rfl, _⟩ := h; rfl
theorem len_Store__check_block {CS CH : Addr} : ∀ ds O R X, C_Store__check_block CS CH ds O R X → ds.length = 2 := fun _ _ _ _ h => by obtain ⟨_, _, _, _, _, rfl, _⟩ := h; rfl
theorem len_Store__check_held {CS CH : Addr} : ∀ ds O R X, C_Store__check_held CS CH ds O R X → ds.length = 2 := fun _ _ _ _ h => by obtain ⟨_, _, _, _, _, rfl, _⟩ := h; rfl
theorem len_Store__check_alone {CS CA CH : Addr} : ∀ ds O R X, C_Store__check_alone CS CA CH ds O R X → ds.length = 2 := fun _ _ _ _ h => by obtain ⟨_, _, _, _, _, rfl, _⟩ := h; rfl
theorem len_Store_hold {CS CH : Addr} : ∀ ds O R X, C_Store_hold CS CH ds O R X → ds.length = 2 := fun _ _ _ _ h => by obtain ⟨_, _, _, _, _, rfl, _⟩ := h; rfl
theorem len_Store_release {CS CH : Addr} : ∀ ds O R X, C_Store_release CS CH ds O R X → ds.length = 2 := fun _ _ _ _ h => by obtain ⟨_, _, _, _, _, rfl, _⟩ := h; rfl
theorem len_Store_rows {CS CH : Addr} : ∀ ds O R X, C_Store_rows CS CH ds O R X → ds.length = 2 := fun _ _ _ _ h => by obtain ⟨_, _, _, _, _, rfl, _⟩ := h; rfl
theorem len_Store_holders {CS CH : Addr} : ∀ ds O R X, C_Store_holders CS CH ds O R X → ds.length = 2 := fun _ _ _ _ h => by obtain ⟨_, _, _, _, _, rfl, _⟩ := h; rfl
section
variable {c : Ct} {A : AS} {Q : QE}
theorem od_ixDc {n j : Nat} {xs : List Nat} (hc : A.o[n]? = some (.lst (dN xs))) (h1 : j < xs.length) (q : Q A (.val (.int (xs.getD j 0 : Nat)))) : OpD c (L2.rIx c.K) (.val (.ptr n)) (.val (.int (j : Nat))) A Q := od_ixL (lsC hc) (dN_get h1) q
theorem od_ixDs {i j : Nat} {xs : List Nat} (hc : A.s[i]? = some (some (.own (.lst (dN xs))))) (h1 : j < xs.length) (q : Q A (.val (.int (xs.getD j 0 : Nat)))) : OpD c (L2.rIx c.K) (.slot i) (.val (.int (j : Nat))) A Q := od_ixL (show lsOf A (.slot i) = some (dN xs) by simp only [lsOf, hc]) (dN_get h1) q
theorem we_countL {to : TE} {t : TA} (h : WE c to A fun A1 x => ∃ ds0, lsOf A1 x = some ds0 ∧ WAr c t A1 fun A2 rs => ∃ (ns : List Int) (y : Int), rs = [.val (.int y)] ∧ Stays A1 A2 x ∧ lsOf A2 x = some (ns.map .int) ∧ Q A2 (.val (.int (ns.count y : Nat)))) : WE c (tBM c.K "list" (rCntI c.K) to t) A Q := fun F G m σ H S E Qc k =>
  h F G m σ H S E _ fun F1 m1 A1 v H1 x e1 p1 S1 R1 ⟨ds0, l0, q⟩ => by
    obtain ⟨a, vs, rfl, hs, rv⟩ := rep_ls S1 R1 l0
    refine ⟨.inl ⟨rfl, vs, hs⟩, q F1 G m1 σ H1 S1 (E.mono e1 p1) _ fun F2 m2 A2 ws H2 rs e2 p2 S2 R2 q2 => ?_⟩
    obtain ⟨ns, y, er, st, l2, q3⟩ := q2
    subst er
    obtain ⟨w, rfl, rw_⟩ := rs1 R2
    cases rw_
    obtain ⟨b, us, eb, hu, ru⟩ := rep_ls S2 (R1.stay e2 p2 st) l2
    cases eb
    rw [ru.ints] at hu
    exact ⟨a, ns, y, rfl, rfl, hu, k F2 m2 A2 _ H2 (.val (.int (ns.count y : Nat))) (e1.trans e2) (p1.trans p2) S2 (Rep.int _) q3⟩
theorem ixN_n {n j : Nat} (h : j < n) : ixN n (j : Int) = some j := Evl.ixN_nat h
end
end AU
namespace AU
open PySem L2 AL
theorem oks_nil {k : Nat} : ∀ d ∈ ([] : List D), okE k d := fun _ h => nomatch h
theorem oks_cons {k : Nat} {x : D} {xs : List D} (h : okE k x) (r : ∀ d ∈ xs, okE k d) : ∀ d ∈ x :: xs, okE k d := fun d hd => by
  rcases List.mem_cons.mp hd with rfl | hd
  · exact h
  · exact r d hd
theorem okE_tup {k : Nat} {ds : List D} (hl : ds.length < 1000) (h : ∀ d ∈ ds, okE k d) : okE (k + 1) (.tup ds) := ⟨hl, h⟩
theorem same_self {k : Nat} {d : D} {O : List Cell} {R : List Cell → D → Prop} {X : XO} (h : okE k d) (q : R O (.bl true)) : C__law_same k [d, d] O R X := ⟨d, d, rfl, okD_of k d h, h, by rw [same_refl k d h]; exact q⟩
theorem keepj {s : List (Option SV)} {vs : List Nat} {x : Option SV} {v : Nat} (hv : v ∈ vs) {j : Nat} (hj : j ∉ vs) : ((wipeA s vs).set v x)[j]? = s[j]? := by
  rw [List.getElem?_set_ne (by intro z; exact hj (z ▸ hv))]; exact wipe_keeps hj
theorem isFromD_sub {d : D} {a b a' : Int} (h : isFromD d a b = false) (h2 : a ≤ a') : isFromD d a' b = false := by
  cases d <;> try rfl
  rename_i n
  rw [isFromD_int] at h ⊢
  by_cases h3 : n ≤ b
  · rw [decide_eq_true h3, Bool.and_true] at h ⊢
    have := of_decide_eq_false h
    exact decide_eq_false (by omega)
  · rw [decide_eq_false h3, Bool.and_false]
theorem count_of (xs : List Nat) : (xs.map Int.ofNat).count 0 = xs.count 0 := by
  induction xs with
  | nil => rfl
  | cons x r ih =>
    rw [List.map_cons, List.count_cons, List.count_cons, ih]
    cases x <;> rfl
section
variable {c : Ct} {A : AS} {t : TT} {t1 t2 : TS} {nx bk ct : AS → Prop} {rt : List Cell → D → Prop} {Q : QE}
theorem lowest_in {s : StoreM} : decide ((0 : Int) ∈ s.held.map Int.ofNat) = (lowest s).isSome := by
  unfold lowest
  have e : (0 : Int) ∈ s.held.map Int.ofNat ↔ 0 ∈ s.held := by
    constructor
    · intro h
      obtain ⟨x, hx, he⟩ := List.mem_map.mp h
      have : x = 0 := by have : (x : Int) = 0 := he; omega
      exact this ▸ hx
    · intro h; exact List.mem_map.mpr ⟨0, h, rfl⟩
  by_cases h : 0 ∈ s.held
  · rw [if_pos h, decide_eq_true (e.mpr h)]; rfl
  · rw [if_neg h, decide_eq_false (fun z => h (e.mp z))]; rfl
theorem we_index0 {i : Nat} {s : StoreM} {b : Nat} (h : A.s[i]? = some (some (.own (.lst (dN s.held))))) (hb : lowest s = some b) (q : Q A (.val (.int (b : Nat)))) : AL.WE c (tIndexA c.K (tVar i) (tCons (tC (.int 0)) tNil)) A Q := by
  obtain ⟨hbl, hb0, hbn⟩ := lowest_some hb
  have hls : lsOf A (.slot i) = some (dN s.held) := by simp only [lsOf, h]
  refine we_indexL (we_own h ?_)
  refine ⟨_, hls, war_cons (we_int (war_nil ⟨trivial, ?_⟩))⟩
  refine ⟨s.held.map Int.ofNat, 0, b, rfl, rfl, by rw [← dN_dL]; exact hls, ?_, fun m hm => ?_, q⟩
  · rw [List.getElem?_map, List.getElem?_eq_getElem hbl]
    rw [getD_lt hbl] at hb0
    show some (Int.ofNat _) = _
    rw [hb0]; rfl
  · have := hbn m hm
    rw [getD_lt (by omega)] at this
    rw [List.getElem?_map, List.getElem?_eq_getElem (by omega)]
    intro z
    have z : ((s.held[m]'(by omega) : Nat) : Int) = 0 := Option.some.inj z
    omega
theorem pys_N (xs : List Nat) : Pys (dN xs) ((xs.map Int.ofNat).map PyData.int) := by rw [dN_dL]; exact pys_ints _
/-- a test, by what it tells -/
theorem vs_ifC (P N : Prop) (h : WT c t A fun A1 b => A1 = A ∧ (b = true → P) ∧ (b = false → N)) (h1 : P → WS c t1 A ⟨nx, rt, bk, ct⟩) (h2 : N → WS c t2 A ⟨nx, rt, bk, ct⟩) : WS c (tIfS t t1 t2) A ⟨nx, rt, bk, ct⟩ :=
  vs_if fun F G m σ H S E Qc k => h F G m σ H S E Qc fun F' m' A' b H' e p S' ⟨ea, z1, z2⟩ => k F' m' A' b H' e p S' (by subst ea; exact ⟨fun hb => h1 (z1 hb), fun hb => h2 (z2 hb)⟩)
/-- a statement that ends in just one state -/
theorem vs_cutE {B : AS} (h1 : WS c t1 A ⟨fun A1 => A1 = B, rt, bk, ct⟩) (h2 : WS c t2 B ⟨nx, rt, bk, ct⟩) : WS c (tSeq t1 t2) A ⟨nx, rt, bk, ct⟩ := vs_cut (fun A1 => A1 = B) h1 fun A1 e => by subst e; exact h2
theorem od_inOwn {i : Nat} {x : Int} {xs : List Nat} (h : A.s[i]? = some (some (.own (.lst (dN xs))))) (q : Q A (.val (.bl (decide (x ∈ xs.map Int.ofNat))))) : OpD c (rInA c.K) (.val (.int x)) (.slot i) A Q := fun F G m σ H v w S E R1 R2 Qc k => by
  cases R1
  obtain ⟨e1, _, e2⟩ := R2
  obtain ⟨a, ea, _, _, _, _, vs, hv, rv⟩ := S.s.ownAt h
  rw [e1] at ea; cases ea
  rw [dN_dL] at rv
  rw [rv.ints] at hv
  refine ⟨a, _, rfl, .inl (.inl (.inl hv)), rfl, flat_intsV _, ?_⟩
  show Qc (.bl (inV (.int x) ((xs.map Int.ofNat).map V.int))) H
  rw [inV_ints]
  exact k F m A _ H (.val (.bl _)) (Evl.Ex.refl F) (Pre.refl m) S (Rep.bl _) q
end
end AU
local macro_rules | `(tactic| walk_at "oke") => `(tactic| (repeat (first | exact trivial | refine AU.okE_tup (Nat.le_of_ble_eq_true rfl) ?_ | exact AU.oks_nil | refine AU.oks_cons ?_ ?_)))
local macro_rules | `(tactic| walk_at "go1") => `(tactic| first
  | ((with_reducible refine' AL.cb_repr ?hp ?hs ?_); (case hp => assumption); (case hs => assumption))
  | ((with_reducible refine' AU.od_ixDc ?hc ?h1 ?_); (case hc => walk_at "cell"); (case h1 => omega))
  | ((with_reducible refine' AU.od_ixDs ?hc ?h1 ?_); (case hc => rfl); (case h1 => omega))
  | ((with_reducible refine' AL.app_go ?h ?hl ?_); (case h => rfl); (case hl => first | exact Nat.le_of_ble_eq_true rfl | omega | (simp only [List.length_map, List.length_append, List.length_cons, List.length_nil]; omega)))
  | ((with_reducible refine' AL.od_ixT ?h1 ?h2 ?_); (case h1 => rfl); (case h2 => exact AL.atI_of (by decide) rfl))
  | ((with_reducible refine' AL.od_ixL ?h1 ?h2 ?_); (case h1 => rfl); (case h2 => exact AL.atI_of (by decide) rfl)))
local macro_rules | `(tactic| walk_at "gos1") => `(tactic| (with_reducible first
  | refine' AL.vs_seqA ?_
  | refine' AL.vs_seqD ?_
  | refine' AL.vs_seqO ?_
  | refine AL.vs_ret ?_
  | refine AL.vs_asg ?_
  | refine AL.vs_own ?_
  | refine AL.vs_next ?_
  | refine AL.vs_break ?_
  | refine AL.vs_cont ?_
  | refine AL.vs_retN ?_
  | refine AL.frz_val ?_
  | refine AL.we_int ?_
  | refine AL.we_bl ?_
  | refine AL.we_non ?_
  | refine AL.we_str ?_
  | refine AL.we_ty ?_
  | refine AL.we_op ?_
  | refine AL.we_un ?_
  | refine AL.we_and ?_
  | refine AL.we_or ?_
  | refine AL.we_not ?_
  | refine AL.we_if ?_
  | refine AL.we_ofList ?_
  | refine AL.we_cb ?_
  | refine AL.we_tup ?_
  | refine AL.we_call0 ?_
  | refine AL.vb_call ?_
  | refine AL.vb_meth ?_
  | refine AL.we_meth ?_
  | refine AL.we_prop ?_
  | refine AL.we_fld ?_
  | refine AL.wt_test ?_
  | refine AL.wt_B ?_
  | refine AL.wt_and ?_
  | refine AL.wt_or ?_
  | refine AL.wt_not ?_
  | refine AL.wa_nil ?_
  | refine AL.wa_cons ?_
  | refine AL.war_nil ?_
  | refine AL.war_cons ?_
  | refine AL.wo_none ?_
  | refine AL.wo_some ?_
  | refine AL.wg_name ?_
  | refine AL.wgs_nil ?_
  | refine AL.wgs_cons ?_
  | refine AL.stays_val ?_
  | refine AL.brT ?_
  | refine AL.brF ?_
  | refine AL.brTn ?_
  | refine AL.brFn ?_
  | refine AL.ex_bl ?_
  | refine AL.ex_int ?_
  | refine AL.od_add ?_
  | refine AL.od_sub ?_
  | refine AL.od_lt ?_
  | refine AL.od_le ?_
  | refine AL.od_gt ?_
  | refine AL.od_ge ?_
  | refine AL.ud_neg ?_
  | refine AL.cb_int ?_
  | refine AL.cb_intB ?_
  | refine AL.cb_abs ?_
  | refine AL.cb_max2 ?_
  | refine AL.cb_min2 ?_
  | refine AL.we_ofLst ?_
  | refine AL.we_ofLc ?_
  | refine AL.wn_lst ?_
  | refine AL.wn_cb ?_
  | refine AL.wi_seq ?_
  | refine AL.wi_r1 ?_
  | refine AL.wi_r2 ?_))
local macro_rules | `(tactic| walk_at "gom") => `(tactic| ((repeat (first | walk_at "gos1" | walk_at "am1" | walk_at "go1" | walk_at "am2" | walk_at "aln1" | walk_at "al2")); all_goals (try dsimp only [AL.as_eta])))

/-! own operators -/
namespace L2
open PySem PySem.SeqAt PyProof.Rows
/-- a value whose type is known not to come before the class at C -/
def TyR (K : PySem.W.Frag) (C : Addr) (y : V) (H : Hp) : Prop := y = .non ∨ (∃ b, y = .bl b) ∨ (∃ i, y = .int i) ∨ (∃ z, y = .str z) ∨ (∃ b dx fs, y = .ref b ∧ H b = some (.ins C dx fs)) ∨ (∃ b xs, y = .ref b ∧ SqT K H b xs) ∨ (∃ b xs, y = .ref b ∧ SqL K H b xs)
theorem nf_type {K : PySem.W.Frag} {C : Addr} {T : String} {l : List Value} (h : fastBuiltinMro T = some l) (hl : (l.all fun v => match v with | .type _ => true | _ => false) = true) : PySem.W.notFirst K C (.type T) = true := by
  show (Value.type T == Value.ref C || ((fastBuiltinMro T).map (·.contains (Value.ref C)) == some false)) = true
  rw [h]
  have : l.contains (.ref C) = false := by
    cases hc : l.contains (.ref C) with
    | false => rfl
    | true =>
      have hm := List.contains_iff_mem.mp hc
      have := List.all_eq_true.mp hl _ hm
      cases this
  show (_ || (some (l.contains (.ref C)) == some false)) = true
  rw [this]
  simp
section
variable {X : Cx}
theorem tyR_looks {pins : List (Addr × Obj)} {σ : St} {H : Hp} {s : Shared} (I : Inv X pins σ H s) {C : Addr} {y : V} {u : Value} (ry : RelV y u) (h : TyR X.K C y H) : ∃ tb, PySem.W.Looks (model X.prog X.w) s.heap (typeOf u) tb ∧ PySem.W.notFirst X.K C tb = true := by
  rcases h with rfl | ⟨b, rfl⟩ | ⟨i, rfl⟩ | ⟨z, rfl⟩ | ⟨b, dx, fs, rfl, hb⟩ | ⟨b, xs, rfl, hb⟩ | ⟨b, xs, rfl, hb⟩
  · cases ry; exact ⟨_, PySem.W.Looks.of_pure rfl, nf_type (l := [.type "NoneType", .type "object"]) (by kernel_rfl) rfl⟩
  · cases ry; exact ⟨_, PySem.W.Looks.of_pure rfl, nf_type (l := [.type "bool", .type "int", .type "object"]) (by kernel_rfl) rfl⟩
  · obtain ⟨t, rfl⟩ := ry; exact ⟨_, PySem.W.Looks.of_pure rfl, nf_type (l := [.type "int", .type "object"]) (by kernel_rfl) rfl⟩
  · obtain ⟨t, rfl⟩ := ry; exact ⟨_, PySem.W.Looks.of_pure rfl, nf_type (l := [.type "str", .type "object"]) (by kernel_rfl) rfl⟩
  · cases ry
    obtain ⟨mB, J', _⟩ := ins_get I.hok hb
    obtain ⟨od', J', _⟩ := J'.look
    exact ⟨_, J'.type, by simp [PySem.W.notFirst]⟩
  · cases ry
    obtain ⟨its, r, ⟨o, ho, hc, _⟩, _⟩ := I.tuple hb
    exact ⟨.type "tuple", hc ▸ (PySem.W.Looks.ld ho).andThen .now, nf_type (l := [.type "tuple", .type "object"]) (by kernel_rfl) rfl⟩
  · cases ry
    obtain ⟨its, r, ht, _⟩ := I.list hb
    obtain ⟨o, ho, hc, _⟩ := ht.isList
    exact ⟨.type "list", hc ▸ (PySem.W.Looks.ld ho).andThen .now, nf_type (l := [.type "list", .type "object"]) (by kernel_rfl) rfl⟩
def rOwnC (K : PySem.W.Frag) (C : Addr) (sp : Sp) (E : XK) : R2 := fun x y H Q => ∃ a dx fs, x = .ref a ∧ H a = some (.ins C dx fs) ∧ TyR K C y H ∧ sp [x, y] H Q E
variable {CX : CXT} {C f : Addr} {fd : FuncData} {ps : List Str} {sp : Sp} {E : XK} {n : Nat}
theorem op_cmpOwn {op : CmpOp} (F : FnOk X.prog X.w X.K X.mg X.base CX n f fd ps sp) (hs : PySem.W.findIn X.K (.ref C) (cmpInfo op).2.1 = some (some (.ref f))) (hf : PySem.W.isFn X.K (.ref f) = true) (hb : Binds X.K fd ps []) (hx : Passes CX X E) (hr : Room n X.A) (hop : ∀ a b, compareOp op a b = richCompare op a b) : OpR X (compareOp op) (rOwnC X.K C sp E) := by
  intro pins s σ H x y v u Q I rx ry hq
  obtain ⟨a, dx, fs, rfl, ha, ht, hsp⟩ := hq
  obtain ⟨tb, hL, hn⟩ := tyR_looks I ry ht
  cases rx
  obtain ⟨mA, J, _⟩ := ins_get I.hok ha
  obtain ⟨od, J, _⟩ := J.look
  obtain ⟨m, hF⟩ := I.fr
  rw [hop]
  refine PySem.W.cmp_K (op := op) (tb := tb) hr.units0 hF I.ok.mod.kin J hL hn hs hf ?_
  have hl := F.len _ _ _ _ hsp
  have r2 : Vals [V.ref a, y] [Value.ref a, u] := .cons rfl (.cons ry .nil)
  refine wpAny_call (codeAny_mono (F.run X.A X.stack s H ⟨[.ref a, u], []⟩ [.ref a, u] [.ref a, y] _ E hr I.env0 (by
    have := hb s [.ref a, u] I.kIn (by simpa using hl)
    simpa using this) r2 hsp) fun r s' hq => ?_)
  cases r with
  | error e => exact hx pins σ H s e s' I hq
  | ok fl =>
    cases fl with
    | ret w =>
      obtain ⟨z, H', I', rz, q⟩ := I.after hq
      have e : EP X pins σ Q w s' := ⟨z, H', I', rz, q⟩
      cases w
      case notImplemented => cases z <;> first | exact absurd rz (by simp [RelV]) | (obtain ⟨_, h⟩ := rz; cases h)
      all_goals exact e
    | next => exact False.elim hq
    | brk => exact False.elim hq
    | cont => exact False.elim hq

open PySem.W in
theorem ifBound_B {M : Model} {A : Around} {Q : Option Value → Shared → Prop} {K : Frag} {x C : Addr} {ox : Obj} {od : Option Obj} {id : String} {name : Str} {args : List Value} {E : Value → Shared → Prop} {s : Shared} (hX : K.In s.heap) (I : InstAt s.heap x ox C od) (hs : findIn K (.ref C) name = some (some (.builtin id)))
    (hb : bindSpecial (.builtin id) (.ref x) = pure (.builtin id, [.ref x])) (h : wpAny M A (call (.builtin id) (.ref x :: args)) (fun v => Q (some v)) E s) : wpAny M A (callSpecialIfBound? (.ref x) name args) Q E s := by
  simp only [callSpecialIfBound?, bindSpecialIfBound?]
  refine wpAny_holding (wpAny_bind (wpAny_bind (wpAny_bind (I.type.here ((looks_findIn hX hs).here ?_)))))
  refine wpAny_bind (wpAny_askSetting (wpAny_ite ?_))
  have fin : wpAny M A (call (.builtin id) ([.ref x] ++ args) >>= fun v => pure (some v)) Q E s := wpAny_bind (wpAny_mono h (fun v s' h' => wpAny_pure h') fun _ _ h' => h')
  split
  · exact wpAny_bind ((Looks.of_pure hb).here (wpAny_pure (by exact fin)))
  · exact wpAny_tryCatch (wpAny_bind ((Looks.of_pure hb).here (wpAny_pure (by exact fin))))
open PySem.W in
theorem ne_body {prog : Program} {w : World} {A : Around} {K : Frag} {x C f : Addr} {ox : Obj} {od : Option Obj} {u : Value} {Q : Value → Shared → Prop} {E : Value → Shared → Prop} {s : Shared} (hX : K.In s.heap) (I : InstAt s.heap x ox C od) (hu : A.units + 1 < cLine)
    (hs : findIn K (.ref C) "__eq__" = some (some (.ref f))) (hf : isFn K (.ref f) = true) (ho : subIn K (.ref C) (.type "object") = some true)
    (h : wpAny (model prog w) A.in1 (call (.ref f) [.ref x, u]) (fun v s' => ∃ b, v = .bool b ∧ Q (.bool (!b)) s') E s) :
    wpAny (model prog w) A (call (.builtin "object.__ne__") [.ref x, u]) Q E s := by
  have plain := F.cmp_object.ne.plain
  refine wpAny_call (codeAny_call_builtin plain F.cmpEntry_ne ?_)
  simp only [checkBuiltinCall, F.cmpKind_ne, F.cmpSplit_ne]
  refine wpAny_bind ?_
  unfold isInstance
  refine wpAny_bind (I.type.here ((looks_subIn hX ho).here ?_))
  have ha := F.cmpArgs_ne (.ref x) u
  have rest : wpAny (model prog w) A.in1 (Builtin.«object.__ne__» ⟨[.ref x, u], []⟩) (fun fin s' => match fin with | .done f => (wants Q E) (.ok f) s' | .again c' => c'.quiet = true ∧ codeAny (model prog w) A c' (wants Q E) s') (fun e s' => (wants Q E) (.error e) s') s := by
    unfold Builtin.«object.__ne__»
    refine wpAny_bind (wpAny_of_eq (a := (Value.ref x, [u])) rfl ?_)
    refine wpAny_bind (wpAny_cRoomFor (show A.in1.units < cLine by show A.units + 1 < cLine; exact hu) ?_)
    refine wpAny_bind (ifBound_K hX I hs hf (wpAny_mono h (fun v s' hv => ?_) fun _ _ e => e))
    obtain ⟨b, rfl, q⟩ := hv
    show wpAny _ _ (truthy (.bool b) >>= _) _ _ s'
    refine wpAny_bind (wpAny_truthy_bool ?_)
    exact wpAny_pure q
  simp only [Bool.not_true, Bool.false_eq_true, if_false]
  cases hsig : Manifest.signature? "object.__ne__" with
  | none => exact wpAny_pure rest
  | some sig =>
    simp only [argsOk, hsig] at ha
    have h2 : Bind.checkArgs "object.__ne__" sig ⟨[.ref x, u], []⟩ = pure () := ha
    show wpAny _ _ (Bind.checkArgs "object.__ne__" sig ⟨[.ref x, u], []⟩) _ _ _
    rw [h2]
    exact wpAny_pure rest
end
section
variable {X : Cx} {CX : CXT} {C f : Addr} {fd : FuncData} {ps : List Str} {sp : Sp} {E : XK} {n : Nat}
def rOwnN (K : PySem.W.Frag) (C : Addr) (sp : Sp) (E : XK) : R2 := fun x y H Q => ∃ a dx fs, x = .ref a ∧ H a = some (.ins C dx fs) ∧ TyR K C y H ∧ sp [x, y] H (fun v H' => ∃ b, v = .bl b ∧ Q (.bl (!b)) H') E
theorem op_neOwn (F : FnOk X.prog X.w X.K X.mg X.base CX n f fd ps sp) (hs : PySem.W.findIn X.K (.ref C) "__eq__" = some (some (.ref f))) (hne : PySem.W.findIn X.K (.ref C) "__ne__" = some (some (.builtin "object.__ne__"))) (ho : PySem.W.subIn X.K (.ref C) (.type "object") = some true) (hf : PySem.W.isFn X.K (.ref f) = true) (hb : Binds X.K fd ps []) (hx : Passes CX X E) (hr : Room (n + 1) X.A) : OpR X (compareOp .NotEq) (rOwnN X.K C sp E) := by
  intro pins s σ H x y v u Q I rx ry hq
  obtain ⟨a, dx, fs, rfl, ha, ht, hsp⟩ := hq
  obtain ⟨tb, hL, hn⟩ := tyR_looks I ry ht
  cases rx
  obtain ⟨mA, J, _⟩ := ins_get I.hok ha
  obtain ⟨od, J, _⟩ := J.look
  obtain ⟨m, hF⟩ := I.fr
  have hX : X.K.In s.heap := I.kIn
  have hu := hr.units0
  have one : wpAny (model X.prog X.w) X.A (tryCompare (.ref a) "__ne__" u) (fun r s' => ∃ v, r = some v ∧ EP X pins σ Q v s') X.xe s := by
    unfold tryCompare
    refine wpAny_bind (ifBound_B hX J hne (PySem.F.cmp_object.ne.bind _) (ne_body hX J (by have := hr.un; omega) hs hf ho ?_))
    have hl := F.len _ _ _ _ hsp
    have r2 : Vals [V.ref a, y] [Value.ref a, u] := .cons rfl (.cons ry .nil)
    have e0 : Env0 X.prog X.w X.K X.mg X.base X.A.in1 X.stack s H := by
      have e := I.env0
      exact ⟨e.frames, e.mod, e.bs, e.bsz, e.funs, e.frf, e.hok, e.bare⟩
    refine wpAny_call (codeAny_mono (F.run X.A.in1 X.stack s H ⟨[.ref a, u], []⟩ [.ref a, u] [.ref a, y] _ E hr.in1 e0 (by
      have := hb s [.ref a, u] I.kIn (by simpa using hl)
      simpa using this) r2 hsp) fun r s' hq => ?_)
    cases r with
    | error e => exact hx pins σ H s e s' I hq
    | ok fl =>
      cases fl with
      | ret w =>
        obtain ⟨z, H', I', rz, b, ez, q⟩ := I.after hq
        subst ez
        cases rz
        exact ⟨b, rfl, wpAny_pure ⟨_, rfl, .bl (!b), H', I', rfl, q⟩⟩
      | next => exact False.elim hq
      | brk => exact False.elim hq
      | cont => exact False.elim hq
  show wpAny (model X.prog X.w) X.A (richCompare .NotEq (.ref a) u) (EP X pins σ Q) X.xe s
  unfold richCompare
  simp only [oneThing_ref]
  refine wpAny_holding (wpAny_bind (wpAny_cRoomFor hu ?_))
  refine wpAny_bind (J.type.here (wpAny_bind (hL.here ?_)))
  split
  · rename_i q
    have e : PySem.W.subIn X.K tb (.ref C) = some false := by
      rcases Bool.or_eq_true_iff.mp hn with e | e
      · rw [beq_iff_eq.mp e] at q; simp at q
      · exact beq_iff_eq.mp e
    refine wpAny_bind ((PySem.W.looks_subIn hX e).here ?_)
    simp only [Bool.false_eq_true, if_false]
    refine wpAny_bind (wpAny_mono one (fun r s' z => ?_) fun _ _ e => e)
    obtain ⟨v, rfl, hq⟩ := z
    exact wpAny_pure hq
  · refine wpAny_bind (wpAny_pure ?_)
    simp only [Bool.false_eq_true, if_false]
    refine wpAny_bind (wpAny_mono one (fun r s' z => ?_) fun _ _ e => e)
    obtain ⟨v, rfl, hq⟩ := z
    exact wpAny_pure hq
end
end L2
namespace L2
open PySem PySem.SeqAt PyProof.Rows
section
variable {X : Cx} {CX : CXT} {C f : Addr} {fd : FuncData} {ps : List Str} {sp : Sp} {E : XK} {n : Nat}
def rOwnB (C : Addr) (sp : Sp) (E : XK) : R2 := fun x y H Q => ∃ a b dx dy fs gs, x = .ref a ∧ y = .ref b ∧ H a = some (.ins C dx fs) ∧ H b = some (.ins C dy gs) ∧ sp [x, y] H Q E
theorem op_binOwn {op : Operator} (F : FnOk X.prog X.w X.K X.mg X.base CX n f fd ps sp) (hc : PySem.W.selfFirst X.K C = true) (hs : PySem.W.findIn X.K (.ref C) (PySem.dunder op.info.2) = some (some (.ref f))) (hf : PySem.W.isFn X.K (.ref f) = true) (hb : Binds X.K fd ps []) (hx : Passes CX X E) (hr : Room n X.A) : OpR X (binaryOp op) (rOwnB C sp E) := by
  intro pins s σ H x y v u Q I rx ry hq
  obtain ⟨a, b, dx, dy, fs, gs, rfl, rfl, ha, hb', hsp⟩ := hq
  cases rx
  cases ry
  obtain ⟨mA, J, _⟩ := ins_get I.hok ha
  obtain ⟨mB, J', _⟩ := ins_get I.hok hb'
  obtain ⟨od, J, _⟩ := J.look
  obtain ⟨od', J', _⟩ := J'.look
  obtain ⟨m, hF⟩ := I.fr
  refine PySem.W.binop_K hF I.ok.mod.kin J J'.type hc hs hf ?_
  have hl := F.len _ _ _ _ hsp
  have r2 : Vals [V.ref a, V.ref b] [Value.ref a, Value.ref b] := .cons rfl (.cons rfl .nil)
  refine wpAny_call (codeAny_mono (F.run X.A X.stack s H ⟨[.ref a, .ref b], []⟩ [.ref a, .ref b] [.ref a, .ref b] _ E hr I.env0 (by
    have := hb s [.ref a, .ref b] I.kIn (by simpa using hl)
    simpa using this) r2 hsp) fun r s' hq => ?_)
  cases r with
  | error e => exact hx pins σ H s e s' I hq
  | ok fl =>
    cases fl with
    | ret w =>
      obtain ⟨z, H', I', rz, q⟩ := I.after hq
      have e : EP X pins σ Q w s' := ⟨z, H', I', rz, q⟩
      cases w
      case notImplemented => cases z <;> first | exact absurd rz (by simp [RelV]) | (obtain ⟨_, h⟩ := rz; cases h)
      all_goals exact e
    | next => exact False.elim hq
    | brk => exact False.elim hq
    | cont => exact False.elim hq
end
end L2
namespace AL
open PySem L2
/-- a value whose type is known -/
inductive TyD (A : AS) (C : Addr) : D → Prop where
  | non : TyD A C .non
  | bl (b : Bool) : TyD A C (.bl b)
  | int (i : Int) : TyD A C (.int i)
  | str (x : Str) : TyD A C (.str x)
  | tup (ds : List D) : TyD A C (.tup ds)
  | sct (ds : List D) : TyD A C (.sct ds)
  | lst (ds : List D) : TyD A C (.lst ds)
  | scr (ds : List D) : TyD A C (.scr ds)
  | ins {e : D} {fs : List (Str × D)} (h : insOf A (.val e) = some (C, fs)) : TyD A C e
section
variable {c : Ct} {A : AS} {Q : QE} {C : Addr} {Φ : Contract} {E : XK} {d e : D} {fs gs : List (Str × D)}
theorem TyD.r {F G H : Hp} {m : List Addr} {σ : St} {w : V} (S : Sim c.K F G m A σ H) (R : RepR c.K F m A σ w (.val e)) (h : TyD A C e) : TyR c.K C w H := by
  cases h with
  | non => cases R; exact .inl rfl
  | bl b => cases R; exact .inr (.inl ⟨_, rfl⟩)
  | int i => cases R; exact .inr (.inr (.inl ⟨_, rfl⟩))
  | str x => cases R; exact .inr (.inr (.inr (.inl ⟨_, rfl⟩)))
  | tup ds => cases R with | tup p r => exact .inr (.inr (.inr (.inr (.inr (.inl ⟨_, _, rfl, Evl.ex_t S.h.exF p.seq⟩)))))
  | sct ds => cases R with | sct p r => exact .inr (.inr (.inr (.inr (.inr (.inl ⟨_, _, rfl, Evl.ex_t S.h.exF p⟩)))))
  | lst ds => cases R with | lst p r => exact .inr (.inr (.inr (.inr (.inr (.inr ⟨_, _, rfl, .inl (.inl (S.h.exF _ _ p))⟩)))))
  | scr ds => cases R with | scr p r => exact .inr (.inr (.inr (.inr (.inr (.inr ⟨_, _, rfl, Evl.ex_l S.h.exF p⟩)))))
  | ins h =>
    obtain ⟨a, dx, fv, rfl, hv, rf⟩ := rep_ins S R h
    exact .inr (.inr (.inr (.inr (.inl ⟨_, _, _, rfl, hv⟩))))
/-- x == y, x of an own class -/
theorem od_own (hi : insOf A (.val d) = some (C, fs)) (ht : TyD A C e) (q : Φ [d, e] A.o (fun O' r => Q ⟨A.s, O'⟩ (.val r)) (fun _ _ _ => False)) : OpD c (rOwnC c.K C (SpA c.K Φ) E) (.val d) (.val e) A Q := fun F G m σ H v w S Eo R1 R2 Qc k => by
  obtain ⟨a, dx, fv, rfl, hv, rf⟩ := rep_ins S R1 hi
  exact ⟨a, dx, fv, rfl, hv, ht.r S R2, F, callG A.s σ G H, m, A.o, [d, e], _, _, S.call, .cons R1 (.cons R2 .nil), q, fun F' m' O' w e H' e3 p3 hs r rr => k F' m' ⟨A.s, O'⟩ w H' (.val e) e3 p3 (S.back e3 p3 hs) r rr, fun F' m' O' C dx fvs fs H' e p hs fx rf xx => xx.elim⟩
/-- x != y, x of an own class with its own == alone -/
theorem od_ownN (hi : insOf A (.val d) = some (C, fs)) (ht : TyD A C e) (q : Φ [d, e] A.o (fun O' r => ∃ b : Bool, r = .bl b ∧ Q ⟨A.s, O'⟩ (.val (.bl (!b)))) (fun _ _ _ => False)) : OpD c (rOwnN c.K C (SpA c.K Φ) E) (.val d) (.val e) A Q := fun F G m σ H v w S Eo R1 R2 Qc k => by
  obtain ⟨a, dx, fv, rfl, hv, rf⟩ := rep_ins S R1 hi
  exact ⟨a, dx, fv, rfl, hv, ht.r S R2, F, callG A.s σ G H, m, A.o, [d, e], _, _, S.call, .cons R1 (.cons R2 .nil), q, fun F' m' O' w e H' e3 p3 hs r rr => by
    obtain ⟨b, rfl, q⟩ := rr
    cases r
    exact ⟨b, rfl, k F' m' ⟨A.s, O'⟩ _ H' (.val (.bl (!b))) e3 p3 (S.back e3 p3 hs) (Rep.bl _) q⟩, fun F' m' O' C dx fvs fs H' e p hs fx rf xx => xx.elim⟩
/-- x + y, x * y .. of one own class -/
theorem od_ownB (hi : insOf A (.val d) = some (C, fs)) (hj : insOf A (.val e) = some (C, gs)) (q : Φ [d, e] A.o (fun O' r => Q ⟨A.s, O'⟩ (.val r)) (fun _ _ _ => False)) : OpD c (rOwnB C (SpA c.K Φ) E) (.val d) (.val e) A Q := fun F G m σ H v w S Eo R1 R2 Qc k => by
  obtain ⟨a, dx, fv, rfl, hv, rf⟩ := rep_ins S R1 hi
  obtain ⟨b, dy, gv, rfl, hw, rg⟩ := rep_ins S R2 hj
  exact ⟨a, b, dx, dy, fv, gv, rfl, rfl, hv, hw, F, callG A.s σ G H, m, A.o, [d, e], _, _, S.call, .cons R1 (.cons R2 .nil), q, fun F' m' O' w e H' e3 p3 hs r rr => k F' m' ⟨A.s, O'⟩ w H' (.val e) e3 p3 (S.back e3 p3 hs) r rr, fun F' m' O' C dx fvs fs H' e p hs fx rf xx => xx.elim⟩
end
end AL

namespace PySem
open Sem (wp)
section
variable {prog : Program} {w : World} {A : Around} {E : Value → Shared → Prop} {s : Shared}
theorem F.args_max4 (a b c d : Value) : argsOk "max" ⟨[a, b, c, d], []⟩ := by unfold argsOk; kernel_rfl
theorem call_max_four {a b c d : Value} {Q : Value → Shared → Prop}
    (h : wpAny (model prog w) A.in1 (pyIter (.ref s.heap.objs.size)) (fun it s₂ => ∃ I fp wr n P St bt, it = .ref I ∧ Walks prog w A.in1 I fp wr n P St ∧ St 0 s₂.heap ∧ (∀ b ∈ fp, b < s₂.heap.objs.size) ∧ 0 < n ∧ CmpOf prog w A.in1 .Gt P bt ∧
      ∀ v h' tk, P (argBest bt (n - 1)) v → (∀ b o, b ∉ wr → s₂.heap.get? b = some o → h'.get? b = some o) → Q v { s₂ with heap := h', toks := tk }) E
      { s with heap := s.heap.push { cls := .type "tuple", data := .seq #[a, b, c, d] } }) :
    wpAny (model prog w) A (call (.builtin "max") [a, b, c, d]) Q E s := by
  have hname : (toString "max" ++ toString ".loop" : String) = "max.loop" := by decide
  refine call_function_tree F.kind_max F.plain_max F.entry_max (F.args_max4 _ _ _ _) ?_
  show wpAny _ A.in1 (Builtin.Builtins.bindParams "max" ["key", "default"] 0 ⟨[], []⟩ >>= _) _ _ s
  refine wpAny_bind (wpAny_of_eq (show Builtin.Builtins.bindParams "max" ["key", "default"] 0 ⟨[], []⟩ = pure [none, none] from rfl) ?_)
  show wpAny _ A.in1 (newTuple [a, b, c, d] >>= _) _ _ s
  refine wpAny_bind (wpAny_newObj_type ?_)
  refine wpAny_bind (wpAny_mono h (fun it s₂ h₂ => ?_) fun _ _ e => e)
  obtain ⟨I, fp, wr, n, P, St, bt, rfl, W, hst, hfp, hn, hcmp, hQ⟩ := h₂
  refine wpAny_bind (wpAny_newObj_type ?_)
  have hSf : s₂.heap.objs.size ∉ fp := fun hm => Nat.lt_irrefl _ (hfp _ hm)
  rw [hname]
  refine wpAny_pure ⟨plainId_quiet F.plain_max_loop _, codeAny_max_loop_first W bt hcmp s₂.heap.objs.size hSf hn (W.frame _ _ _ hst fun b _ o e => Heap.get?_push_of_some _ e) (Heap.get?_push_size _ rfl) fun v h' tk hP hk => ?_⟩
  exact hQ v h' tk hP fun b o hbw e => hk b o hbw (Nat.ne_of_lt (Heap.lt_size e)) (Heap.get?_push_of_some _ e)
/-- the greatest of four: one of them, and none is greater -/
theorem max_four_ints {a b c d : Int} {t u x y : Tok} {Q : Value → Shared → Prop} (hh : A.handled = none)
    (h : ∀ h' tk, (∀ d o, s.heap.get? d = some o → h'.get? d = some o) → ∀ t', Q (.int (max (max a b) (max c d)) t') { s with heap := h', toks := tk }) :
    wpAny (model prog w) A (call (.builtin "max") [.int a t, .int b u, .int c x, .int d y]) Q E s := by
  have hT : (s.heap.push { cls := .type "tuple", data := .seq #[.int a t, .int b u, .int c x, .int d y] }).IsTuple s.heap.objs.size (intItems #[(a, t), (b, u), (c, x), (d, y)]) := ⟨_, Heap.get?_push_size _ rfl, rfl, 0, by simp [intItems]⟩
  refine call_max_four (wpAny_pyIter_tuple hT ?_)
  have hsz : (s.heap.push { cls := .type "tuple", data := .seq #[.int a t, .int b u, .int c x, .int d y] }).objs.size = s.heap.objs.size + 1 := Heap.size_push ..
  refine ⟨_, [_, s.heap.objs.size], [_], _, _, _, _, rfl, Walks.tuple (A := A.in1) hh _ s.heap.objs.size (by rw [hsz]; exact Nat.ne_of_lt (Nat.lt_succ_self _)) (intItems #[(a, t), (b, u), (c, x), (d, y)]),
    ⟨⟨_, Heap.get?_push_size _ rfl, rfl, rfl⟩, hT.push _⟩, fun d hd => ?_, by simp [intItems], CmpOf.ints_gt (numAt #[(a, t), (b, u), (c, x), (d, y)]) (fun _ _ => intItems_at), fun v h' tk hP hk => ?_⟩
  · show d < ((s.heap.push _).push _).objs.size
    rw [Heap.size_push, hsz]
    rcases List.mem_cons.mp hd with rfl | hd
    · rw [hsz]; exact Nat.lt_succ_self _
    · rcases List.mem_cons.mp hd with rfl | hd
      · exact Nat.lt_succ_of_lt (Nat.lt_succ_self _)
      · cases hd
  · have hold : ∀ d o, s.heap.get? d = some o → h'.get? d = some o := fun d o e => by
      refine hk d o (fun hm => ?_) (Heap.get?_push_of_some _ (Heap.get?_push_of_some _ e))
      rcases List.mem_cons.mp hm with e1 | hm
      · have := Heap.lt_size e; rw [e1, hsz] at this; exact Nat.lt_irrefl _ (Nat.lt_of_succ_lt this)
      · cases hm
    have key := h h' tk hold
    have hv : ∃ t', v = Value.int (max (max a b) (max c d)) t' := by
      have hP' : (intItems #[(a, t), (b, u), (c, x), (d, y)])[argBest (fun i j => decide (numAt #[(a, t), (b, u), (c, x), (d, y)] i > numAt #[(a, t), (b, u), (c, x), (d, y)] j)) 3]? = some v := by
        have hsz2 : (intItems #[(a, t), (b, u), (c, x), (d, y)]).size - 1 = 3 := by simp [intItems]
        rw [← hsz2]; exact hP
      have fin : ∀ (k : Nat) (i : Int) (t' : Tok), argBest (fun i j => decide (numAt #[(a, t), (b, u), (c, x), (d, y)] i > numAt #[(a, t), (b, u), (c, x), (d, y)] j)) 3 = k → (intItems #[(a, t), (b, u), (c, x), (d, y)])[k]? = some (.int i t') → i = max (max a b) (max c d) → ∃ t', v = Value.int (max (max a b) (max c d)) t' := by
        intro k i t' e1 e2 e3
        rw [e1, e2] at hP'
        cases hP'
        exact ⟨t', by rw [← e3]⟩
      have i0 : (intItems #[(a, t), (b, u), (c, x), (d, y)])[0]? = some (.int a t) := by simp [intItems]
      have i1 : (intItems #[(a, t), (b, u), (c, x), (d, y)])[1]? = some (.int b u) := by simp [intItems]
      have i2 : (intItems #[(a, t), (b, u), (c, x), (d, y)])[2]? = some (.int c x) := by simp [intItems]
      have i3 : (intItems #[(a, t), (b, u), (c, x), (d, y)])[3]? = some (.int d y) := by simp [intItems]
      by_cases hba : b > a
      · by_cases hc : c > b
        · by_cases hd : d > c
          · exact fin 3 d y (by simp [argBest, numAt, hba, hc, hd]) i3 (by omega)
          · exact fin 2 c x (by simp [argBest, numAt, hba, hc, hd]) i2 (by omega)
        · by_cases hd : d > b
          · exact fin 3 d y (by simp [argBest, numAt, hba, hc, hd]) i3 (by omega)
          · exact fin 1 b u (by simp [argBest, numAt, hba, hc, hd]) i1 (by omega)
      · by_cases hc : c > a
        · by_cases hd : d > c
          · exact fin 3 d y (by simp [argBest, numAt, hba, hc, hd]) i3 (by omega)
          · exact fin 2 c x (by simp [argBest, numAt, hba, hc, hd]) i2 (by omega)
        · by_cases hd : d > a
          · exact fin 3 d y (by simp [argBest, numAt, hba, hc, hd]) i3 (by omega)
          · exact fin 0 a t (by simp [argBest, numAt, hba, hc, hd]) i0 (by omega)
    obtain ⟨t', rfl⟩ := hv
    exact key t'
end
end PySem
namespace AL
open PySem PySem.SeqAt L2 PyProof.Rows
/-- what isinstance asks of an own class -/
structure IsC (K : PySem.W.Frag) (C : Addr) : Prop where
  cl : Cls K C
  ca : PySem.W.findIn K (.ref C) "__class__" = some (some (.builtin "object.__class__"))
  hn : PySem.W.specialIn K (.builtin "object.__class__") "__get__" = some (some (.builtin "getset_descriptor.__get__"))
  tk : PySem.W.takesIn K (.builtin "object.__class__") = some true
  mo : PySem.W.mroIn K C (.type "object") = some true
/-- no built-in kind is of the own class -/
def NoB (K : PySem.W.Frag) (C : Addr) : Prop := ∀ t ∈ ["NoneType", "bool", "int", "str", "list", "tuple"], PySem.W.kitOne K (.type t) (.ref C) = some false
theorem noB_mk {K : PySem.W.Frag} {C : Addr} (h1 : PySem.W.kitOne K (.type "NoneType") (.ref C) = some false) (h2 : PySem.W.kitOne K (.type "bool") (.ref C) = some false) (h3 : PySem.W.kitOne K (.type "int") (.ref C) = some false) (h4 : PySem.W.kitOne K (.type "str") (.ref C) = some false) (h5 : PySem.W.kitOne K (.type "list") (.ref C) = some false) (h6 : PySem.W.kitOne K (.type "tuple") (.ref C) = some false) : NoB K C := fun t ht => by
  simp only [List.mem_cons, List.not_mem_nil, or_false] at ht
  rcases ht with rfl | rfl | rfl | rfl | rfl | rfl
  · exact h1
  · exact h2
  · exact h3
  · exact h4
  · exact h5
  · exact h6
def rMax4A : List V → Hp → VK → Prop := fun xs H Q => ∃ i j k l, xs = [.int i, .int j, .int k, .int l] ∧ Q (.int (max (max i j) (max k l))) H
def rDivX : R2 := rI (fun _ j => j ≠ 0 ∧ j.natAbs.log2 < 9000) fun i j => .int (i.fdiv j)
section
variable {X : Cx}
theorem call_max4A (hc : X.calm = true) : CallR X (.builtin "max") rMax4A := by
  intro pins s σ H xs us Q I r h
  obtain ⟨i, j, k, l, rfl, q⟩ := h
  have : ∃ t1 t2 t3 t4, us = [Value.int i t1, .int j t2, .int k t3, .int l t4] := by
    cases r with
    | cons r1 r =>
      cases r with
      | cons r2 r =>
        cases r with
        | cons r3 r =>
          cases r with
          | cons r4 r =>
            cases r
            obtain ⟨t1, rfl⟩ := r1
            obtain ⟨t2, rfl⟩ := r2
            obtain ⟨t3, rfl⟩ := r3
            obtain ⟨t4, rfl⟩ := r4
            exact ⟨_, _, _, _, rfl⟩
  obtain ⟨t1, t2, t3, t4, rfl⟩ := this
  exact max_four_ints (I.ok.hd hc) fun h' tk k t' => ⟨.int _, H, I.kept k, ⟨t', rfl⟩, q⟩
theorem op_divX : OpR X (binaryOp .FloorDiv) rDivX := opI fun _ _ _ _ _ _ _ hc q => floordiv_int hc.1 q (.inl (PyProof.noPylong_of_log2 hc.2))
end
section
variable {c : Ct} {A : AS} {Q : QE}
theorem cb_max4 {i j k l : Int} (q : Q A (.val (.int (max (max i j) (max k l))))) : CbD c rMax4A [.val (.int i), .val (.int j), .val (.int k), .val (.int l)] A Q := fun F G m σ H vs S E R Qc kk => by
  cases R with
  | cons r1 R =>
    cases R with
    | cons r2 R =>
      cases R with
      | cons r3 R =>
        cases R with
        | cons r4 R =>
          cases R
          cases r1; cases r2; cases r3; cases r4
          exact ⟨i, j, k, l, rfl, kk F m A _ H (.val (.int _)) (Evl.Ex.refl F) (Pre.refl m) S (Rep.int _) q⟩
theorem cb_gcd {i j : Int} (q : Q A (.val (.int ((Nat.gcd i.natAbs j.natAbs : Nat) : Int)))) : CbD c rGcd [.val (.int i), .val (.int j)] A Q := fun F G m σ H vs S E R Qc k => by
  obtain ⟨v, w, rfl, r, r2⟩ := rs2 R; cases r; cases r2
  exact ⟨i, j, rfl, k F m A _ H (.val (.int _)) (Evl.Ex.refl F) (Pre.refl m) S (Rep.int _) q⟩
theorem od_divX {i j : Int} (h : j ≠ 0 ∧ j.natAbs.log2 < 9000) (q : Q A (.val (.int (i.fdiv j)))) : OpD c rDivX (.val (.int i)) (.val (.int j)) A Q := od_I h rfl q
/-- isinstance(x, C), x an instance of the own class C -/
theorem cb_isO {C : Addr} {d : D} {fs : List (Str × D)} (ic : IsC c.K C) (hi : insOf A (.val d) = some (C, fs)) (q : Q A (.val (.bl true))) : CbD c (rIsi c.K) [.val d, .val (.cls C)] A Q := fun F G m σ H vs S E R Qc k => by
  obtain ⟨v, w, rfl, r, r2⟩ := rs2 R
  cases r2
  obtain ⟨a, dx, fv, rfl, hv, rf⟩ := rep_ins S r hi
  exact ⟨.ref a, .ref C, .ref C, .ref C, true, rfl, .own C, .base (.ins hv ic.cl ic.ca ic.hn ic.tk ic.mo), by unfold PySem.W.kitOne; rw [if_pos (by simp)], k F m A _ H (.val (.bl true)) (Evl.Ex.refl F) (Pre.refl m) S (Rep.bl true) q⟩
/-- isinstance(x, C), x of a built-in type -/
theorem cb_isOB {C : Addr} {x : RV} {t : String} (hx : tyOfR A x = some t) (hk : PySem.W.kitOne c.K (.type t) (.ref C) = some false) (q : Q A (.val (.bl false))) : CbD c (rIsi c.K) [x, .val (.cls C)] A Q := fun F G m σ H vs S E R Qc k => by
  obtain ⟨v, w, rfl, r, r2⟩ := rs2 R
  cases r2
  exact ⟨v, .ref C, .type t, .ref C, false, rfl, .own C, tyOf_ok S r hx, hk, k F m A _ H (.val (.bl false)) (Evl.Ex.refl F) (Pre.refl m) S (Rep.bl false) q⟩
end
end AL

namespace AL
open PySem L2
def gI (a b : Int) : Int := ((Nat.gcd a.natAbs b.natAbs : Nat) : Int)
/-- over and under in lowest terms -/
def low (a b : Int) : Int × Int := if b < 0 then (-a / gI a b, -b / gI a b) else (a / gI a b, b / gI a b)
theorem gI_neg (a b : Int) : gI (-a) (-b) = gI a b := by unfold gI; rw [Int.natAbs_neg, Int.natAbs_neg]
theorem gI_pos {a b : Int} (h : b ≠ 0) : 0 < gI a b := by
  unfold gI
  have : 0 < Nat.gcd a.natAbs b.natAbs := Nat.gcd_pos_of_pos_right _ (by omega)
  omega
theorem gI_dvdl (a b : Int) : gI a b ∣ a := by unfold gI; exact Int.natAbs_dvd_natAbs.mp (by rw [Int.natAbs_natCast]; exact Nat.gcd_dvd_left _ _)
theorem gI_dvdr (a b : Int) : gI a b ∣ b := by unfold gI; exact Int.natAbs_dvd_natAbs.mp (by rw [Int.natAbs_natCast]; exact Nat.gcd_dvd_right _ _)
theorem low_pos {a b : Int} (h : 0 < b) : low a b = (a / gI a b, b / gI a b) := if_neg (by omega)
theorem low_neg {a b : Int} (h : b < 0) : low a b = low (-a) (-b) := by
  rw [low_pos (show 0 < -b by omega), gI_neg]; exact if_pos h
/-- as the program reckons it -/
theorem low_prog {a b : Int} (h : b ≠ 0) : (a.fdiv (if b < 0 then -gI a b else gI a b), b.fdiv (if b < 0 then -gI a b else gI a b)) = low a b := by
  have g := gI_pos (a := a) h
  unfold low
  split
  · have f : ∀ x : Int, x.fdiv (-gI a b) = -x / gI a b := fun x => by
      rw [show x = -(-x) by omega, Int.neg_fdiv_neg, Int.fdiv_eq_ediv_of_nonneg _ (by omega)]; simp
    rw [f, f]
  · rw [Int.fdiv_eq_ediv_of_nonneg _ (by omega), Int.fdiv_eq_ediv_of_nonneg _ (by omega)]
theorem low_den {a b : Int} (h : b ≠ 0) : 0 < (low a b).2 := by
  have key : ∀ a b : Int, 0 < b → 0 < (low a b).2 := fun a b h => by
    rw [low_pos h]
    exact Int.ediv_pos_of_pos_of_dvd h (Int.le_of_lt (gI_pos (by omega))) (gI_dvdr a b)
  by_cases hb : b < 0
  · rw [low_neg hb]; exact key _ _ (by omega)
  · exact key _ _ (by omega)
theorem div_le {x g : Int} (hg : 0 < g) : (x / g).natAbs ≤ x.natAbs := by
  rcases Int.le_total 0 x with h | h
  · have h1 : 0 ≤ x / g := Int.ediv_nonneg h (by omega)
    have h2 : x / g ≤ x := Int.ediv_le_self _ h
    omega
  · have h1 : x / g ≤ 0 := by
      have := Int.ediv_le_ediv hg h
      simpa using this
    have h2 : x ≤ x / g := (Int.le_ediv_iff_mul_le hg).mpr (by
      have : x * g ≤ x * 1 := Int.mul_le_mul_of_nonpos_left h (by omega)
      omega)
    omega
theorem low_bd {a b : Int} (h : b ≠ 0) : (low a b).1.natAbs ≤ a.natAbs ∧ (low a b).2.natAbs ≤ b.natAbs := by
  have g := gI_pos (a := a) h
  unfold low
  split
  · have h1 := div_le (x := -a) g
    have h2 := div_le (x := -b) g
    rw [Int.natAbs_neg] at h1 h2
    exact ⟨h1, h2⟩
  · exact ⟨div_le g, div_le g⟩
theorem gI_mul (a b : Int) {k : Int} (hk : 0 < k) : gI (a * k) (b * k) = gI a b * k := by
  unfold gI
  rw [Int.natAbs_mul, Int.natAbs_mul, Nat.gcd_mul_right]
  rw [Int.natCast_mul]
  congr 1
  omega
theorem low_mul (a b : Int) {k : Int} (hb : 0 < b) (hk : 0 < k) : low (a * k) (b * k) = low a b := by
  rw [low_pos hb, low_pos (Int.mul_pos hb hk), gI_mul _ _ hk, Int.mul_ediv_mul_of_pos_left _ _ hk, Int.mul_ediv_mul_of_pos_left _ _ hk]
/-- in lowest terms -/
def Low (p : Int × Int) : Prop := 0 < p.2 ∧ gI p.1 p.2 = 1
theorem low_low {a b : Int} (h : b ≠ 0) : Low (low a b) := by
  have key : ∀ a b : Int, 0 < b → Low (low a b) := fun a b h => by
    refine ⟨low_den (by omega), ?_⟩
    rw [low_pos h]
    have g := gI_pos (a := a) (b := b) (by omega)
    have e := gI_mul (a / gI a b) (b / gI a b) g
    rw [Int.ediv_mul_cancel (gI_dvdl a b), Int.ediv_mul_cancel (gI_dvdr a b)] at e
    have : gI (a / gI a b) (b / gI a b) * gI a b = 1 * gI a b := by omega
    exact Int.eq_of_mul_eq_mul_right (by omega) this
  by_cases hb : b < 0
  · rw [low_neg hb]; exact key _ _ (by omega)
  · exact key _ _ (by omega)
theorem low_self {p : Int × Int} (h : Low p) : low p.1 p.2 = p := by
  rw [low_pos h.1, h.2, Int.ediv_one, Int.ediv_one]
def addF (p q : Int × Int) : Int × Int := low (p.1 * q.2 + q.1 * p.2) (p.2 * q.2)
def subF (p q : Int × Int) : Int × Int := low (p.1 * q.2 - q.1 * p.2) (p.2 * q.2)
def mulF (p q : Int × Int) : Int × Int := low (p.1 * q.1) (p.2 * q.2)
theorem mulF_comm (p q : Int × Int) : mulF p q = mulF q p := by unfold mulF; rw [Int.mul_comm p.1, Int.mul_comm p.2]
theorem add_sub {p q : Int × Int} (hp : Low p) (hq : Low q) : subF (addF p q) q = p := by
  have hd : 0 < p.2 * q.2 := Int.mul_pos hp.1 hq.1
  unfold subF addF
  generalize en : p.1 * q.2 + q.1 * p.2 = N
  have g := gI_pos (a := N) (b := p.2 * q.2) (by omega)
  rw [low_pos hd]
  dsimp only
  have e1 := Int.ediv_mul_cancel (gI_dvdl N (p.2 * q.2))
  have e2 := Int.ediv_mul_cancel (gI_dvdr N (p.2 * q.2))
  generalize gI N (p.2 * q.2) = G at *
  generalize N / G = X at *
  generalize p.2 * q.2 / G = Y at *
  have hy : 0 < Y := by
    rcases Int.lt_trichotomy Y 0 with h | h | h
    · have := Int.mul_neg_of_neg_of_pos h g; omega
    · rw [h] at e2; omega
    · exact h
  rw [← low_mul _ _ (Int.mul_pos hy hq.1) g]
  have a1 : (X * q.2 - q.1 * Y) * G = p.1 * (q.2 * q.2) := by
    have : (X * q.2 - q.1 * Y) * G = (X * G) * q.2 - q.1 * (Y * G) := by
      rw [Int.sub_mul, Int.mul_right_comm, Int.mul_assoc q.1]
    rw [this, e1, e2, ← en, Int.add_mul, Int.mul_assoc, Int.mul_assoc]
    omega
  have a2 : Y * q.2 * G = p.2 * (q.2 * q.2) := by rw [Int.mul_right_comm, e2, Int.mul_assoc]
  rw [a1, a2, low_mul _ _ hp.1 (Int.mul_pos hq.1 hq.1), low_self hp]
/-! Euclid -/
theorem half_mod {a b : Nat} (h0 : 0 < b) (h : b ≤ a) : 2 * (a % b) ≤ a := by
  have h1 := Nat.mod_lt a h0
  by_cases h2 : 2 * b ≤ a
  · omega
  · have : a % b = a - b := by
      rw [Nat.mod_eq_sub_mod h, Nat.mod_eq_of_lt (by omega)]
    omega
/-- what each turn keeps: the greatest common divisor, and a bound that halves -/
def EuI (G B : Nat) (k : Nat) (a b : Nat) : Prop := Nat.gcd a b = G ∧ ((k = 0 ∧ a ≤ B ∧ b ≤ B) ∨ (1 ≤ k ∧ b ≤ a ∧ a * b * 2 ^ (k - 1) ≤ B * B))
theorem EuI.step {G B k a b : Nat} (h : EuI G B k a b) (hb : 0 < b) : EuI G B (k + 1) b (a % b) := by
  obtain ⟨hg, h⟩ := h
  refine ⟨by rw [← hg, Nat.gcd_comm a b, Nat.gcd_rec b a]; exact Nat.gcd_comm _ _, .inr ⟨by omega, Nat.le_of_lt (Nat.mod_lt _ hb), ?_⟩⟩
  rcases h with ⟨rfl, h1, h2⟩ | ⟨h0, h1, h2⟩
  · simp only [Nat.add_sub_cancel, Nat.zero_add, Nat.sub_self, Nat.pow_zero, Nat.mul_one]
    exact Nat.mul_le_mul h2 (Nat.le_trans (Nat.mod_le _ _) h1)
  · obtain ⟨j, rfl⟩ : ∃ j, k = j + 1 := ⟨k - 1, by omega⟩
    simp only [Nat.add_sub_cancel] at h2 ⊢
    have hh := half_mod hb h1
    calc b * (a % b) * 2 ^ (j + 1) = b * (2 * (a % b)) * 2 ^ j := by rw [Nat.pow_succ]; simp only [Nat.mul_assoc, Nat.mul_comm, Nat.mul_left_comm]
      _ ≤ b * a * 2 ^ j := Nat.mul_le_mul_right _ (Nat.mul_le_mul_left _ hh)
      _ = a * b * 2 ^ j := by rw [Nat.mul_comm b a]
      _ ≤ B * B := h2
theorem EuI.done {G B k a b : Nat} (h : EuI G B k a b) (hb : b = 0) : a = G := by
  obtain ⟨hg, _⟩ := h; rw [← hg, hb, Nat.gcd_zero_right]
theorem EuI.out {G B k a b n : Nat} (h : EuI G B k a b) (hB : B < 2 ^ n) (hk : 2 * n + 1 ≤ k) : b = 0 := by
  obtain ⟨_, ⟨rfl, _⟩ | ⟨_, h1, h2⟩⟩ := h
  · omega
  · cases b with
    | zero => rfl
    | succ b =>
      exfalso
      have h3 : 1 ≤ a * (b + 1) := Nat.mul_pos (by omega) (by omega)
      have h4 : 2 ^ (k - 1) ≤ B * B := Nat.le_trans (by simpa using Nat.mul_le_mul_right (2 ^ (k - 1)) h3) h2
      have h5 : 2 ^ (2 * n) ≤ 2 ^ (k - 1) := Nat.pow_le_pow_right (by decide) (by omega)
      have h6 : B * B < 2 ^ n * 2 ^ n := Nat.mul_lt_mul'' hB hB
      rw [← Nat.pow_add, ← Nat.two_mul] at h6
      omega
end AL

namespace L2
open PySem PySem.SeqAt PyProof.Rows
section
variable {X : Cx} {K : PySem.W.Frag} {CX : CXT} {C f : Addr} {fd : FuncData} {ps : List Str} {sp : Sp} {E : XK} {n : Nat} {nm : Str}
theorem op_cmpOwnK {op : CmpOp} (hK : X.K = K) (F : FnOk X.prog X.w X.K X.mg X.base CX n f fd ps sp) (hm : Meth K C nm f) (hb : Binds X.K fd ps []) (hx : Passes CX X E) (hr : Room n X.A) (hop : ∀ a b, compareOp op a b = richCompare op a b) (hn : (cmpInfo op).2.1 = nm) : OpR X (compareOp op) (rOwnC K C sp E) := by
  subst hK; subst hn; exact op_cmpOwn F hm.at_ hm.fn hb hx hr hop
theorem op_neOwnK (hK : X.K = K) (F : FnOk X.prog X.w X.K X.mg X.base CX n f fd ps sp) (hm : Meth K C "__eq__" f) (hne : PySem.W.findIn K (.ref C) "__ne__" = some (some (.builtin "object.__ne__"))) (ho : PySem.W.subIn K (.ref C) (.type "object") = some true) (hb : Binds X.K fd ps []) (hx : Passes CX X E) (hr : Room (n + 1) X.A) : OpR X (compareOp .NotEq) (rOwnN K C sp E) := by
  subst hK; exact op_neOwn F hm.at_ hne ho hm.fn hb hx hr
theorem op_binOwnK {op : Operator} (hK : X.K = K) (F : FnOk X.prog X.w X.K X.mg X.base CX n f fd ps sp) (hc : PySem.W.selfFirst K C = true) (hm : Meth K C nm f) (hb : Binds X.K fd ps []) (hx : Passes CX X E) (hr : Room n X.A) (hn : PySem.dunder op.info.2 = nm) : OpR X (binaryOp op) (rOwnB C sp E) := by
  subst hK; subst hn; exact op_binOwn F hc hm.at_ hm.fn hb hx hr
end
end L2
namespace AZ
open PySem L2 AL
def shF (p : Int × Int) : List (Str × D) := [("over", .int p.1), ("under", .int p.2)]
def dSh (C : Addr) (p : Int × Int) : D := .obj C (shF p)
def dF (p : Int × Int) : D := .tup [.int p.1, .int p.2]
/-- a share as it is kept: in lowest terms, of at most n bits -/
def Sh (n : Nat) (p : Int × Int) : Prop := Low p ∧ p.1.natAbs < 2 ^ n ∧ p.2.natAbs < 2 ^ n
theorem sh_low {a b : Int} {n : Nat} (h : b ≠ 0) (ha : a.natAbs < 2 ^ n) (hb : b.natAbs < 2 ^ n) : Sh n (low a b) := ⟨low_low h, Nat.lt_of_le_of_lt (low_bd h).1 ha, Nat.lt_of_le_of_lt (low_bd h).2 hb⟩
theorem Sh.mono {n m : Nat} {p : Int × Int} (h : Sh n p) (k : n ≤ m) : Sh m p := ⟨h.1, Nat.lt_of_lt_of_le h.2.1 (Nat.pow_le_pow_right (by decide) k), Nat.lt_of_lt_of_le h.2.2 (Nat.pow_le_pow_right (by decide) k)⟩
theorem mulB {i j : Int} {a b : Nat} (ha : i.natAbs < 2 ^ a) (hb : j.natAbs < 2 ^ b) : (i * j).natAbs < 2 ^ (a + b) := wide_lt ha hb
theorem addB {i j : Int} {a : Nat} (ha : i.natAbs < 2 ^ a) (hb : j.natAbs < 2 ^ a) : (i + j).natAbs < 2 ^ (a + 1) := by
  rw [Nat.pow_succ]; omega
theorem subB {i j : Int} {a : Nat} (ha : i.natAbs < 2 ^ a) (hb : j.natAbs < 2 ^ a) : (i - j).natAbs < 2 ^ (a + 1) := by
  rw [Nat.pow_succ]; omega
theorem cmul {i j : Int} (ha : i.natAbs < 2 ^ 2000) (hb : j.natAbs < 2 ^ 2000) : CMul i j ∨ CMulW i j := .inr (wide_mul ha hb (by decide) (by decide) (by decide))
theorem okE_dF {k : Nat} {p : Int × Int} : okE (k + 2) (dF p) := ⟨by show 2 < 1000; decide, fun d hd => by
  simp only [List.mem_cons, List.not_mem_nil, or_false] at hd
  rcases hd with rfl | rfl <;> trivial⟩
theorem same_dF {k : Nat} {p q : Int × Int} : sameK (k + 2) (dF p) (dF q) = decide (p = q) := by
  obtain ⟨p1, p2⟩ := p
  obtain ⟨q1, q2⟩ := q
  show (_ && (List.range 2).all _) = _
  simp only [dF, List.range, List.range.loop, List.all_cons, List.all_nil, List.getD_cons_zero, List.getD_cons_succ, same_int, Bool.and_true, Prod.mk.injEq, List.length_cons, List.length_nil, decide_true, Bool.true_and]
  by_cases h1 : p1 = q1 <;> by_cases h2 : p2 = q2 <;> simp [h1, h2]
theorem low_law {a b : Int} : ((if b < 0 then -a else a) / gI a b, (if b < 0 then -b else b) / gI a b) = low a b := by unfold low; split <;> rfl
theorem up {x a b : Nat} (h : x < 2 ^ a) (k : a ≤ b) : x < 2 ^ b := Nat.lt_of_lt_of_le h (Nat.pow_le_pow_right (by decide) k)
theorem gI_div {a b : Int} {n : Nat} (h : b ≠ 0) (hn : 0 < n) (hb : b.natAbs < 2 ^ n) (h9 : n ≤ 9000) : 0 < gI a b ∧ (gI a b < 1073741824 ∨ (gI a b).natAbs.log2 < 9000) := by
  have g := gI_pos (a := a) h
  have hd := Int.natAbs_dvd_natAbs.mpr (gI_dvdr a b)
  have hl : (gI a b).natAbs ≤ b.natAbs := Nat.le_of_dvd (by omega) hd
  exact ⟨g, .inr (Nat.lt_of_lt_of_le (PySem.Flt.log2_lt_of hn (Nat.lt_of_le_of_lt hl hb)) h9)⟩
theorem gI_bd {a b : Int} {n : Nat} (h : b ≠ 0) (hn : 0 < n) (hb : b.natAbs < 2 ^ n) (h9 : n ≤ 9000) : (if b < 0 then -gI a b else gI a b) ≠ 0 ∧ (if b < 0 then -gI a b else gI a b).natAbs.log2 < 9000 := by
  have g := gI_pos (a := a) h
  have hd := Int.natAbs_dvd_natAbs.mpr (gI_dvdr a b)
  have hl : (gI a b).natAbs ≤ b.natAbs := Nat.le_of_dvd (by omega) hd
  have e : (if b < 0 then -gI a b else gI a b).natAbs = (gI a b).natAbs := by split <;> simp
  refine ⟨by split <;> omega, ?_⟩
  rw [e]
  exact Nat.lt_of_lt_of_le (PySem.Flt.log2_lt_of hn (Nat.lt_of_le_of_lt hl hb)) h9
/-- numbers of fractions that + and * make -/
theorem Sh.sum {n : Nat} {p q : Int × Int} (hp : Sh n p) (hq : Sh n q) : (p.1 * q.2 + q.1 * p.2).natAbs < 2 ^ (n + n + 1) ∧ (p.1 * q.2 - q.1 * p.2).natAbs < 2 ^ (n + n + 1) ∧ (p.2 * q.2).natAbs < 2 ^ (n + n + 1) ∧ (p.1 * q.1).natAbs < 2 ^ (n + n + 1) ∧ 0 < p.2 * q.2 := by
  have e : 2 ^ (n + n) ≤ 2 ^ (n + n + 1) := Nat.pow_le_pow_right (by decide) (by omega)
  exact ⟨addB (mulB hp.2.1 hq.2.2) (mulB hq.2.1 hp.2.2), subB (mulB hp.2.1 hq.2.2) (mulB hq.2.1 hp.2.2), Nat.lt_of_lt_of_le (mulB hp.2.2 hq.2.2) e, Nat.lt_of_lt_of_le (mulB hp.2.1 hq.2.1) e, Int.mul_pos hp.1.1 hq.1.1⟩
theorem Sh.add {n : Nat} {p q : Int × Int} (hp : Sh n p) (hq : Sh n q) : Sh (n + n + 1) (addF p q) := by
  have h := hp.sum hq; exact sh_low (by omega) h.1 h.2.2.1
theorem Sh.sub {n : Nat} {p q : Int × Int} (hp : Sh n p) (hq : Sh n q) : Sh (n + n + 1) (subF p q) := by
  have h := hp.sum hq; exact sh_low (by omega) h.2.1 h.2.2.1
theorem Sh.mul {n : Nat} {p q : Int × Int} (hp : Sh n p) (hq : Sh n q) : Sh (n + n + 1) (mulF p q) := by
  have h := hp.sum hq; exact sh_low (by omega) h.2.2.2.1 h.2.2.1
theorem mk_gone {O : List Cell} {x y z : Cell} : ((O ++ [x]).set O.length y).set O.length z = O ++ [z] := by
  simp [List.set_append]
section
variable (C CN : Addr)
def C_Share___init__ : Contract := fun ds O R X => ∃ (i : Nat) (a b : Int), ds = [.ptr i, .int a, .int b] ∧ O[i]? = some (.ins C []) ∧ a.natAbs < 2 ^ 2000 ∧ b.natAbs < 2 ^ 2000 ∧ (b = 0 → X O CN [("number", .int 0)]) ∧ (b ≠ 0 → R (O.set i (.ins C (shF (low a b)))) .non)
def C_op (f : Int × Int → Int × Int → Int × Int) : Contract := fun ds O R _ => ∃ p q, ds = [dSh C p, dSh C q] ∧ Sh 900 p ∧ Sh 900 q ∧ R (O ++ [.gone]) (dSh C (f p q))
abbrev C_Share___add__ : Contract := C_op C addF
abbrev C_Share___sub__ : Contract := C_op C subF
abbrev C_Share___mul__ : Contract := C_op C mulF
/-- what no share is -/
inductive Oth : D → Prop where
  | non : Oth .non
  | bl (b : Bool) : Oth (.bl b)
  | int (i : Int) : Oth (.int i)
  | str (x : Str) : Oth (.str x)
  | tup (ds : List D) : Oth (.tup ds)
  | lst (ds : List D) : Oth (.lst ds)
def C_Share___eq__ : Contract := fun ds O R _ => (∃ p q, ds = [dSh C p, dSh C q] ∧ R O (.bl (decide (p = q)))) ∨ ∃ p e, ds = [dSh C p, e] ∧ Oth e ∧ R O (.bl false)
def lessF (p q : Int × Int) : Bool := decide (p.1 * q.2 < q.1 * p.2)
def C_Share_is_below : Contract := fun ds O R _ => ∃ p q, ds = [dSh C p, dSh C q] ∧ Sh 900 p ∧ Sh 900 q ∧ R O (.bl (lessF p q))
def C_lesser_of : Contract := fun ds O R _ => ∃ p q, ds = [dSh C p, dSh C q] ∧ Sh 900 p ∧ Sh 900 q ∧ R O (dSh C (if lessF q p then q else p))
variable {C}
theorem len_Share___init__ {CN : Addr} : ∀ ds O R X, C_Share___init__ C CN ds O R X → ds.length = 3 := fun _ _ _ _ h => by obtain ⟨_, _, _, rfl, _⟩ := h; rfl
theorem len_op {f} : ∀ ds O R X, C_op C f ds O R X → ds.length = 2 := fun _ _ _ _ h => by obtain ⟨_, _, rfl, _⟩ := h; rfl
theorem len_Share___add__ : ∀ ds O R X, C_Share___add__ C ds O R X → ds.length = 2 := len_op
theorem len_Share___sub__ : ∀ ds O R X, C_Share___sub__ C ds O R X → ds.length = 2 := len_op
theorem len_Share___mul__ : ∀ ds O R X, C_Share___mul__ C ds O R X → ds.length = 2 := len_op
theorem len_Share___eq__ : ∀ ds O R X, C_Share___eq__ C ds O R X → ds.length = 2 := fun _ _ _ _ h => by rcases h with ⟨_, _, rfl, _⟩ | ⟨_, _, rfl, _⟩ <;> rfl
theorem len_Share_is_below : ∀ ds O R X, C_Share_is_below C ds O R X → ds.length = 2 := fun _ _ _ _ h => by obtain ⟨_, _, rfl, _⟩ := h; rfl
theorem len_lesser_of : ∀ ds O R X, C_lesser_of C ds O R X → ds.length = 2 := fun _ _ _ _ h => by obtain ⟨_, _, rfl, _⟩ := h; rfl
end
theorem ints_F {p q : Int × Int} : decide ([p.1, p.2] = [q.1, q.2]) = decide (p = q) := by
  obtain ⟨p1, p2⟩ := p
  obtain ⟨q1, q2⟩ := q
  simp
theorem od_eqF {c : Ct} {A : AS} {Q : QE} {p q : Int × Int} (k : Q A (.val (.bl (decide (p = q))))) : OpD c (rEqA c.K) (.val (dF p)) (.val (dF q)) A Q :=
  od_eqD (p := .tuple ([p.1, p.2].map .int)) (q := .tuple ([q.1, q.2].map .int)) (.tup (.cons (.int _) (.cons (.int _) .nil))) (.tup (.cons (.int _) (.cons (.int _) .nil))) (shaped_intsT _) (shaped_intsT _) (b := decide (p = q)) (by rw [eqv_intsT]; exact ints_F) k
theorem od_neF {c : Ct} {A : AS} {Q : QE} {p q : Int × Int} (k : Q A (.val (.bl (!decide (p = q))))) : OpD c (rNeA c.K) (.val (dF p)) (.val (dF q)) A Q :=
  od_neD (p := .tuple ([p.1, p.2].map .int)) (q := .tuple ([q.1, q.2].map .int)) (.tup (.cons (.int _) (.cons (.int _) .nil))) (.tup (.cons (.int _) (.cons (.int _) .nil))) (shaped_intsT _) (shaped_intsT _) (b := decide (p = q)) (by rw [eqv_intsT]; exact ints_F) k
theorem subF_neg (p q : Int × Int) : subF p q = addF p (-q.1, q.2) := by
  unfold subF addF
  dsimp only
  rw [Int.neg_mul, Int.sub_eq_add_neg]
theorem Sh.b {n m : Nat} {p : Int × Int} (h : Sh n p) (k : n ≤ m) : p.2 ≠ 0 ∧ p.1.natAbs < 2 ^ m ∧ p.2.natAbs < 2 ^ m := ⟨by have := h.1.1; omega, up h.2.1 k, up h.2.2 k⟩
theorem small {p q : Int × Int} (hp : Low p) (hq : Low q) (h : decide (max (max (if p.1 < 0 then -p.1 else p.1) p.2) (max (if q.1 < 0 then -q.1 else q.1) q.2) < (10 : Int) ^ (18 : Int).toNat) = true) : Sh 60 p ∧ Sh 60 q := by
  have h := of_decide_eq_true h
  have e18 : (10 : Int) ^ (18 : Int).toNat = 1000000000000000000 := by decide
  have e60 : (2 : Nat) ^ 60 = 1152921504606846976 := by decide
  rw [e18] at h
  have h1 := hp.1
  have h2 := hq.1
  refine ⟨⟨hp, ?_, ?_⟩, hq, ?_, ?_⟩ <;> rw [e60] <;> split at h <;> split at h <;> omega
/-- a fraction as a law draws it -/
def Fr (p : Int × Int) : Prop := p.1.natAbs < 2 ^ 133 ∧ p.2.natAbs < 2 ^ 133 ∧ p.2 ≠ 0
theorem fr_of {x y : Int} (h1 : decide ((if x < 0 then -x else x) < (10 : Int) ^ (40 : Int).toNat) = true) (h2 : decide ((if y < 0 then -y else y) < (10 : Int) ^ (40 : Int).toNat) = true) (hy : y ≠ 0) : Fr (x, y) := by
  have h1 := of_decide_eq_true h1
  have h2 := of_decide_eq_true h2
  have e40 : (10 : Int) ^ (40 : Int).toNat = 10000000000000000000000000000000000000000 := by decide
  have e133 : (2 : Nat) ^ 133 = 10889035741470030830827987437816582766592 := by decide
  rw [e40] at h1 h2
  refine ⟨?_, ?_, hy⟩
  · show x.natAbs < _
    rw [e133]; split at h1 <;> omega
  · show y.natAbs < _
    rw [e133]; split at h2 <;> omega
def Frs (fs : List (Int × Int)) : Prop := fs.length = 3 ∧ ∀ p ∈ fs, Fr p
/-! the law's own -/
def C__law_common : Contract := fun ds O R _ => ∃ a b : Nat, ds = [.int (a : Nat), .int (b : Nat)] ∧ a < 2 ^ 1400 ∧ b < 2 ^ 1400 ∧ R O (.int ((Nat.gcd a b : Nat) : Int))
def C__law_least : Contract := fun ds O R _ => ∃ a b : Int, ds = [.int a, .int b] ∧ a.natAbs < 2 ^ 1400 ∧ b.natAbs < 2 ^ 1400 ∧ b ≠ 0 ∧ R O (dF (low a b))
def C_fop (f : Int × Int → Int × Int → Int × Int) : Contract := fun ds O R _ => ∃ p q : Int × Int, ds = [dF p, dF q] ∧ p.2 ≠ 0 ∧ q.2 ≠ 0 ∧ p.1.natAbs < 2 ^ 600 ∧ p.2.natAbs < 2 ^ 600 ∧ q.1.natAbs < 2 ^ 600 ∧ q.2.natAbs < 2 ^ 600 ∧ R O (dF (f p q))
abbrev C__law_plus : Contract := C_fop addF
abbrev C__law_by : Contract := C_fop mulF
def C__law_is_share (C : Addr) : Contract := fun ds O R _ => ∃ p q : Int × Int, ds = [dSh C p, dF q] ∧ R O (.bl (decide (p = q)))
def C__law_is_below : Contract := fun ds O R _ => ∃ p q : Int × Int, ds = [dF p, dF q] ∧ p.1.natAbs < 2 ^ 900 ∧ p.2.natAbs < 2 ^ 900 ∧ q.1.natAbs < 2 ^ 900 ∧ q.2.natAbs < 2 ^ 900 ∧ R O (.bl (lessF p q))
def C__law_integer : Contract := fun ds O R _ => ∃ (ns : List Int) (j : Nat), ds = [.lst (ns.map .int), .int (j : Nat)] ∧ AllN ns ∧ j + 14 ≤ ns.length ∧ ns.length ≤ 1000 ∧ ∀ i : Int, i.natAbs < 2 ^ 133 → R O (.int i)
def C__law_fraction : Contract := fun ds O R _ => ∃ (ns : List Int) (j : Nat), ds = [.lst (ns.map .int), .int (j : Nat)] ∧ AllN ns ∧ j + 28 ≤ ns.length ∧ ns.length ≤ 1000 ∧ ∀ p : Int × Int, p.1.natAbs < 2 ^ 133 → p.2.natAbs < 2 ^ 133 → p.2 ≠ 0 → R O (dF p)
/-- a law's share: of 40 digits -/
def C__law_pair (C : Addr) : Contract := fun ds O R _ => ∃ p q : Int × Int, ds = [dSh C p, dF p, dSh C q, dF q] ∧ Sh 140 p ∧ Sh 140 q ∧ ∀ O', R O' (.bl true)
theorem len__law_integer : ∀ ds O R X, C__law_integer ds O R X → ds.length = 2 := fun _ _ _ _ h => by obtain ⟨_, _, rfl, _⟩ := h; rfl
theorem len__law_fraction : ∀ ds O R X, C__law_fraction ds O R X → ds.length = 2 := fun _ _ _ _ h => by obtain ⟨_, _, rfl, _⟩ := h; rfl
theorem len__law_pair {C : Addr} : ∀ ds O R X, C__law_pair C ds O R X → ds.length = 4 := fun _ _ _ _ h => by obtain ⟨_, _, rfl, _⟩ := h; rfl
theorem len__law_common : ∀ ds O R X, C__law_common ds O R X → ds.length = 2 := fun _ _ _ _ h => by obtain ⟨_, _, rfl, _⟩ := h; rfl
theorem len__law_least : ∀ ds O R X, C__law_least ds O R X → ds.length = 2 := fun _ _ _ _ h => by obtain ⟨_, _, rfl, _⟩ := h; rfl
theorem len_fop {f} : ∀ ds O R X, C_fop f ds O R X → ds.length = 2 := fun _ _ _ _ h => by obtain ⟨_, _, rfl, _⟩ := h; rfl
theorem len__law_plus : ∀ ds O R X, C__law_plus ds O R X → ds.length = 2 := len_fop
theorem len__law_by : ∀ ds O R X, C__law_by ds O R X → ds.length = 2 := len_fop
theorem len__law_is_share {C : Addr} : ∀ ds O R X, C__law_is_share C ds O R X → ds.length = 2 := fun _ _ _ _ h => by obtain ⟨_, _, rfl, _⟩ := h; rfl
theorem len__law_is_below : ∀ ds O R X, C__law_is_below ds O R X → ds.length = 2 := fun _ _ _ _ h => by obtain ⟨_, _, rfl, _⟩ := h; rfl
end AZ

namespace AR
open PySem L2 AL
open AU (Odd isIntD isFromD OddS oddS_int oddS_lt shows_int shows_bool shows_none)
def goodD (L : Nat) (d : D) : Bool := isFromD d 0 ((L : Nat) - 1 : Int)
def badsD (L : Nat) (ls : List D) : List D := ls.filter fun d => !goodD L d
def firstD (L : Nat) (ls : List D) : Option D := (badsD L ls).head?
def Odds (ls : List D) : Prop := ∀ x ∈ ls, Odd x
def DSeq (d : D) (ls : List D) : Prop := d = .lst ls ∨ d = .tup ls
theorem DSeq.sq {d : D} {ls : List D} (h : DSeq d ls) : sqD d = some ls := by rcases h with rfl | rfl <;> rfl
theorem goodD_nat {L l : Nat} (h : l < L) : goodD L (.int (l : Nat)) = true := by
  show (decide ((0 : Int) ≤ (l : Nat)) && decide (((l : Nat) : Int) ≤ (L : Nat) - 1)) = true
  rw [decide_eq_true (by omega), decide_eq_true (by omega)]; rfl
theorem bads_cons {L : Nat} {x : D} {r : List D} : badsD L (x :: r) = if goodD L x then badsD L r else x :: badsD L r := by
  unfold badsD; rw [List.filter_cons]; cases goodD L x <;> rfl
theorem bads_app {L : Nat} {xs ys : List D} : badsD L (xs ++ ys) = badsD L xs ++ badsD L ys := List.filter_append ..
theorem bads_nats {L : Nat} {ls : List Nat} (h : ∀ l ∈ ls, l < L) : badsD L (dL ls) = [] := by
  refine List.filter_eq_nil_iff.mpr fun d hd => ?_
  rw [dL_eq] at hd
  obtain ⟨l, hl, rfl⟩ := List.mem_map.mp hd
  rw [show goodD L (D.int (l : Nat)) = true from goodD_nat (h l hl)]; decide
theorem odds_nats (ls : List Nat) : Odds (dL ls) := fun d hd => by
  rw [dL_eq] at hd
  obtain ⟨l, _, rfl⟩ := List.mem_map.mp hd
  exact .int _
def askG (P : List D) (m : Nat) (S : List (List D)) (T : List Int) (r : D) : List (Str × D) := [("prompt", .tup P), ("most", .int (m : Nat)), ("stops", .tup (S.map .tup)), ("tape", .tup (T.map .int)), ("rule", r)]
theorem dAsk_G {CA CR : Addr} {a : AskM} : dAsk CA CR a = .obj CA (askG (dL a.prompt) a.most (a.stops.map dL) a.tape (dRu CR a.rule)) := by
  unfold dAsk askF askG; rw [List.map_map]; rfl
def C_check_letters (C CI : Addr) : Contract := fun ds O R X => ∃ n e d ls, ds = [dNet C n e, d] ∧ DSeq d ls ∧ Odds ls ∧ n.emb.length ≤ 1000 ∧ (badsD n.emb.length ls = [] → R O .non) ∧ ∀ x, firstD n.emb.length ls = some x → X O CI [("letter", x)]
def C_check_ask (C CA CI : Addr) : Contract := fun ds O R X => ∃ n e P m S T r, ds = [dNet C n e, .obj CA (askG P m S T r)] ∧ Odds P ∧ Odds S.flatten ∧ n.emb.length ≤ 1000 ∧ (badsD n.emb.length (P ++ S.flatten) = [] → R O .non) ∧ ∀ x, firstD n.emb.length (P ++ S.flatten) = some x → X O CI [("letter", x)]
def C_Ask___init__ (CA : Addr) : Contract := fun ds O R _ => ∃ (i : Nat) (P : List D) (m : Nat) (S : List (List D)) (T : List Int) (r : D), ds = [.ptr i, .tup P, .int (m : Nat), .tup (S.map .tup), .tup (T.map .int), r] ∧ O[i]? = some (.ins CA []) ∧ 1 ≤ m ∧ m ≤ 30 ∧ S.length ≤ 1000 ∧ R (O.set i (.ins CA (askG P m S T r))) .non
theorem len_check_letters {C CI : Addr} : ∀ ds O R X, C_check_letters C CI ds O R X → ds.length = 2 := fun _ _ _ _ h => by obtain ⟨_, _, _, _, rfl, _⟩ := h; rfl
theorem len_check_ask {C CA CI : Addr} : ∀ ds O R X, C_check_ask C CA CI ds O R X → ds.length = 2 := fun _ _ _ _ h => by obtain ⟨_, _, _, _, _, _, _, rfl, _⟩ := h; rfl
theorem len_Ask___init__ {CA : Addr} : ∀ ds O R X, C_Ask___init__ CA ds O R X → ds.length = 6 := fun _ _ _ _ h => by obtain ⟨_, _, _, _, _, _, rfl, _⟩ := h; rfl
theorem dseq_nats {d : D} {ls : List Nat} (h : AL.Seq d (ls.map Int.ofNat)) : DSeq d (dL ls) := by
  rcases h with rfl | rfl
  · exact .inl (by rw [dL_eq, List.map_map]; rfl)
  · exact .inr (by rw [dL_eq, List.map_map]; rfl)
theorem firstD_app {L : Nat} {xs ys : List D} (h : badsD L xs = []) : firstD L (xs ++ ys) = firstD L ys := by unfold firstD; rw [bads_app, h]; rfl
theorem firstD_app1 {L : Nat} {xs ys : List D} {x : D} (h : firstD L xs = some x) : firstD L (xs ++ ys) = some x := by unfold firstD at *; rw [bads_app, List.head?_append, h]; rfl
theorem firstD_nil {L : Nat} {xs : List D} (h : badsD L xs = []) : firstD L xs = none := by unfold firstD; rw [h]; rfl
theorem bads_stops {L : Nat} {S : List (List Nat)} (h : ∀ s ∈ S, ∀ l ∈ s, l < L) : badsD L (S.map dL).flatten = [] := by
  induction S with
  | nil => rfl
  | cons s r ih => rw [List.map_cons, List.flatten_cons, bads_app, bads_nats (h s (List.mem_cons_self ..)), ih fun s hs => h s (List.mem_cons_of_mem _ hs)]; rfl
theorem odds_stops (S : List (List Nat)) : Odds (S.map dL).flatten := fun x hx => by
  obtain ⟨l, hl, hx⟩ := List.mem_flatten.mp hx
  obtain ⟨s, _, rfl⟩ := List.mem_map.mp hl
  exact odds_nats s x hx
theorem oddS_nats {ls : List Nat} (h : ∀ l ∈ ls, l < 1000) : ∀ d ∈ dL ls, OddS d := fun d hd => by
  rw [dL_eq] at hd
  obtain ⟨l, hl, rfl⟩ := List.mem_map.mp hd
  have := h l hl
  refine oddS_int ?_
  show l < _
  exact Nat.lt_trans this (by decide)
theorem shows_0 : Shows (.str "0") := ⟨by unfold PyData.showable; rfl, by unfold PyData.hasDict; rfl, by unfold PyData.depth; decide, by unfold PyData.shown; decide +kernel, trivial⟩
theorem shows_t0 : Shows (.tuple [.int 0]) := ⟨by decide +kernel, by decide +kernel, by decide +kernel, by decide +kernel, trivial⟩
def OddSs (ls : List D) : Prop := ∀ x ∈ ls, OddS x
theorem OddSs.odds {ls : List D} (h : OddSs ls) : Odds ls := fun x hx => (h x hx).1
def dAskG (Ps : List D) (m : Nat) (Ss : List (List D)) (Ts : List Int) (r : Option RuleM) : D := .tup [.tup Ps, .int (m : Nat), .tup (Ss.map .tup), .tup (Ts.map .int), dRuT r]
theorem dAskT_G {a : AskM} : dAskT a = dAskG (dL a.prompt) a.most (a.stops.map dL) a.tape a.rule := by
  unfold dAskT dAskG; rw [List.map_map]; rfl
def C__law_stops : Contract := fun ds O R _ => ∃ ns : List Int, ∃ k L : Nat, ds = [.lst (ns.map .int), .int (k : Nat), .int (L : Nat)] ∧ AllN ns ∧ 0 < L ∧ k + 30 ≤ ns.length ∧ ns.length ≤ 1000 ∧ ∀ stops : List (List Nat), stops.length ≤ 4 → (∀ s ∈ stops, 0 < s.length ∧ s.length ≤ 4 ∧ ∀ l ∈ s, l < L) → R O (.tup (stops.map dTx))
theorem len__law_stops : ∀ ds O R X, C__law_stops ds O R X → ds.length = 3 := fun _ _ _ _ h => by obtain ⟨_, _, _, rfl, _⟩ := h; rfl
def C__law_ask : Contract := fun ds O R _ => ∃ (ns : List Int) (L : Nat), ds = [.lst (ns.map .int), .int (L : Nat)] ∧ AllN ns ∧ 0 < L ∧ L ≤ 12 ∧ 330 ≤ ns.length ∧ ns.length ≤ 1000 ∧ ∀ a, WfA L a → a.prompt.length ≤ 20 → a.stops.length ≤ 4 → (∀ s ∈ a.stops, 0 < s.length ∧ s.length ≤ 4) → R O (dAskT a)
theorem len__law_ask : ∀ ds O R X, C__law_ask ds O R X → ds.length = 2 := fun _ _ _ _ h => by obtain ⟨_, _, rfl, _⟩ := h; rfl
def C__law_written : Contract := fun ds O R _ => ∃ n w' e a d, ∃ begun : List Nat, ds = [dNetT n, dOp e, dAskT a, d] ∧ Seq d (begun.map Int.ofNat) ∧ WfN n ∧ WidN w' n ∧ n.out.length = n.emb.length ∧ WfA n.emb.length a ∧ (∀ l ∈ begun, l < n.emb.length) ∧ begun.length < a.most ∧ AllGone O ∧ ∀ k t w, goI n e a begun k = (t, some w) → (∀ l ∈ t, l < n.emb.length) → R O (.tup [dTx t, .str w])
theorem len__law_written : ∀ ds O R X, C__law_written ds O R X → ds.length = 4 := fun _ _ _ _ h => by obtain ⟨_, _, _, _, _, _, rfl, _⟩ := h; rfl
theorem plain_dRow (r : Row) : Plain (dRow r) := .tup (.cons (.tup (plains_map (fun p => .tup (.cons (.tup (plains_map (fun n => .int n) _)) (.cons (.tup (plains_map (fun n => .int n) _)) .nil))) _)) (.cons (.tup (plains_map (fun n => .int n) _)) .nil))
theorem flat_len {α : Type} {c : Nat} : ∀ {S : List (List α)}, (∀ s ∈ S, s.length ≤ c) → S.flatten.length ≤ S.length * c
  | [], _ => Nat.zero_le _
  | s :: r, h => by
    have h1 := h s (List.mem_cons_self ..)
    have h2 := flat_len (S := r) fun x hx => h x (List.mem_cons_of_mem _ hx)
    rw [List.flatten_cons, List.length_append, List.length_cons, Nat.add_one_mul]; omega
theorem allGone_app {O : List Cell} (h : AllGone O) (j : Nat) : AllGone (O ++ List.replicate j .gone) := fun c hc => (List.mem_append.mp hc).elim (h c) (fun x => List.eq_of_mem_replicate x)
/-- rows, frozen or as a cell of their own -/
def C__law_rows : Contract := fun ds O R _ => ∃ n w ls d, ∃ fl : Bool, ds = [dNetT n, d] ∧ Seq d (ls.map Int.ofNat) ∧ WfN n ∧ WidN w n ∧ (∀ l ∈ ls, l < n.emb.length) ∧ ls.length ≤ 500 ∧ NoLstO O ∧ (fl = true → R (O ++ [.lst ((rowsI n ls).map dRow)]) (.ptr O.length)) ∧ (fl = false → R O (.lst ((rowsI n ls).map dRow)))
theorem len__law_rows : ∀ ds O R X, C__law_rows ds O R X → ds.length = 2 := fun _ _ _ _ h => by obtain ⟨_, _, _, _, _, rfl, _⟩ := h; rfl
end AR

/-! Data whose lists may be cells: compared, shown, walked. -/
namespace AL
open PySem L2
mutual
inductive PyO (O : List Cell) : D → PyData → Prop where
  | non : PyO O .non .none
  | bl (b : Bool) : PyO O (.bl b) (.bool b)
  | int (i : Int) : PyO O (.int i) (.int i)
  | str (x : Str) : PyO O (.str x) (.str x)
  | lst {ds : List D} {ps : List PyData} : PyOs O ds ps → PyO O (.lst ds) (.list ps)
  | tup {ds : List D} {ps : List PyData} : PyOs O ds ps → PyO O (.tup ds) (.tuple ps)
  | ptr {n : Nat} {ds : List D} {ps : List PyData} : O[n]? = some (.lst ds) → PyOs O ds ps → PyO O (.ptr n) (.list ps)
inductive PyOs (O : List Cell) : List D → List PyData → Prop where
  | nil : PyOs O [] []
  | cons {d : D} {p : PyData} {ds : List D} {ps : List PyData} : PyO O d p → PyOs O ds ps → PyOs O (d :: ds) (p :: ps)
end
section
variable {K : PySem.W.Frag} {F G H : Hp} {m : List Addr} {O : List Cell}
mutual
theorem PyO.dp (S : HS K F G m O H) : ∀ {d : D} {p : PyData} {v : V}, PyO O d p → Rep K F m v d → Dp K H v p
  | _, _, _, .non, .non => .non
  | _, _, _, .bl b, .bl _ => .bl b
  | _, _, _, .int i, .int _ => .int i
  | _, _, _, .str x, .str _ => .str x
  | _, _, _, .lst h, .lst a r => .lst (.inl (.inl (S.exF _ _ a))) (PyOs.dp S h r)
  | _, _, _, .tup h, .tup a r => .tup (Evl.ex_t S.exF a.seq) (PyOs.dp S h r)
  | _, _, _, .ptr e h, .ptr em => by
    obtain ⟨_, _, vs, hv, rv⟩ := S.cell _ _ _ em e trivial
    exact .lst (.inl (.inl hv)) (PyOs.dp S h rv)
theorem PyOs.dp (S : HS K F G m O H) : ∀ {d : List D} {p : List PyData} {v : List V}, PyOs O d p → Reps K F m v d → DpAll K H v p
  | _, _, _, .nil, .nil => .nil
  | _, _, _, .cons h t, .cons a r => .cons (PyO.dp S h a) (PyOs.dp S t r)
end
end
theorem pyOs_map {α : Type} {O : List Cell} {f : α → D} {g : α → PyData} (h : ∀ a, PyO O (f a) (g a)) : ∀ xs : List α, PyOs O (xs.map f) (xs.map g)
  | [] => .nil
  | x :: xs => .cons (h x) (pyOs_map h xs)
theorem pyOs_get {O : List Cell} : ∀ {ds : List D} {ps : List PyData}, ds.length = ps.length → (∀ (i : Nat) d p, ds[i]? = some d → ps[i]? = some p → PyO O d p) → PyOs O ds ps
  | [], [], _, _ => .nil
  | [], _ :: _, h, _ => by simp at h
  | _ :: _, [], h, _ => by simp at h
  | d :: ds, p :: ps, h, k => .cons (k 0 d p rfl rfl) (pyOs_get (by simpa using h) fun i d p h1 h2 => k (i + 1) d p h1 h2)
theorem pyOs_ints {O : List Cell} (ns : List Int) : PyOs O (ns.map .int) (ns.map .int) := pyOs_map (fun i => .int i) ns
/-- a value, or an own list, by what stands in the cells -/
def PyRO (A : AS) (r : RV) (p : PyData) : Prop := match r with
  | .val d => PyO A.o d p
  | .slot i => ∃ ds ps, A.s[i]? = some (some (.own (.lst ds))) ∧ PyOs A.o ds ps ∧ p = .list ps
section
variable {c : Ct} {A : AS} {x y : RV} {Q : QE}
theorem PyRO.dp {K : PySem.W.Frag} {F G H : Hp} {m : List Addr} {σ : St} {v : V} {r : RV} {p : PyData} (S : Sim K F G m A σ H) (R : RepR K F m A σ v r) (h : PyRO A r p) : Dp K H v p := by
  cases r with
  | slot i =>
    obtain ⟨ds, ps, e, hp, rfl⟩ := h
    obtain ⟨e1, x, e2⟩ := R
    obtain ⟨a, q, _, _, _, _, vs, hv, rv⟩ := S.s.ownAt e
    rw [e1] at q; cases q
    exact .lst (.inl (.inl hv)) (hp.dp S.h rv)
  | val d => exact PyO.dp S.h h R
theorem od_eqO {p q : PyData} {b : Bool} (hx : PyRO A x p) (hy : PyRO A y q) (s1 : SeqAt.shaped p = true) (s2 : SeqAt.shaped q = true) (hb : PyData.eqv p q = b) (k : Q A (.val (.bl b))) : OpD c (rEqA c.K) x y A Q := fun F G m σ H v w S E R1 R2 Qc kc =>
  .inr ⟨p, q, hx.dp S R1, hy.dp S R2, s1, s2, by rw [hb]; exact kc F m A _ H (.val (.bl b)) (Evl.Ex.refl F) (Pre.refl m) S (Rep.bl b) k⟩
theorem od_neO {p q : PyData} {b : Bool} (hx : PyRO A x p) (hy : PyRO A y q) (s1 : SeqAt.shaped p = true) (s2 : SeqAt.shaped q = true) (hb : PyData.eqv p q = b) (k : Q A (.val (.bl (!b)))) : OpD c (rNeA c.K) x y A Q := fun F G m σ H v w S E R1 R2 Qc kc =>
  .inr ⟨p, q, hx.dp S R1, hy.dp S R2, s1, s2, by rw [hb]; exact kc F m A _ H (.val (.bl (!b))) (Evl.Ex.refl F) (Pre.refl m) S (Rep.bl (!b)) k⟩
theorem cb_reprO {d : D} {p : PyData} (hp : PyO A.o d p) (hs : Shows p) (q : Q A (.val (.str p.shown))) : CbD c (rRepr c.K) [.val d] A Q := fun F G m σ H vs S E R Qc k => by
  obtain ⟨v, rfl, R1⟩ := rs1 R
  exact ⟨v, p, rfl, PyO.dp S.h hp R1, hs, k F m A _ H (.val (.str p.shown)) (Evl.Ex.refl F) (Pre.refl m) S (Rep.str _) q⟩
end
/-! ### sequences: lists, tuples, cells -/
def SeqO (O : List Cell) (d : D) (ds : List D) : Prop := d = .lst ds ∨ d = .tup ds ∨ ∃ n, d = .ptr n ∧ O[n]? = some (.lst ds)
theorem SeqO.set {O : List Cell} {d : D} {ds : List D} {i : Nat} {C : Addr} {fs : List (Str × D)} {c : Cell} (h : SeqO O d ds) (hi : O[i]? = some (.ins C fs)) : SeqO (O.set i c) d ds := by
  rcases h with h | h | ⟨n, h, hn⟩
  · exact .inl h
  · exact .inr (.inl h)
  · refine .inr (.inr ⟨n, h, ?_⟩)
    have ne : i ≠ n := fun e => by rw [e, hn] at hi; cases hi
    rw [List.getElem?_set_ne ne]; exact hn
theorem SeqO.app {O P : List Cell} {d : D} {ds : List D} (h : SeqO O d ds) : SeqO (O ++ P) d ds := by
  rcases h with h | h | ⟨n, h, hn⟩
  · exact .inl h
  · exact .inr (.inl h)
  · refine .inr (.inr ⟨n, h, ?_⟩)
    rw [List.getElem?_append_left (List.getElem?_eq_some_iff.mp hn).1]; exact hn
theorem SeqO.py {O : List Cell} {d : D} {ds : List D} {ps : List PyData} (h : SeqO O d ds) (hp : PyOs O ds ps) : PyO O d (.list ps) ∨ PyO O d (.tuple ps) := by
  rcases h with rfl | rfl | ⟨n, rfl, hn⟩
  · exact .inl (.lst hp)
  · exact .inr (.tup hp)
  · exact .inl (.ptr hn hp)
section
variable {c : Ct} {A : AS} {te tl : TE} {Q : QE}
theorem cb_tupO {d : D} {ds : List D} (h : SeqO A.o d ds) (q : Q A (.val (.tup ds))) : CbD c (rTupP c.K) [.val d] A Q := by
  rcases h with rfl | rfl | ⟨n, rfl, hn⟩
  · exact cb_tupL rfl q
  · exact cb_tupT rfl q
  · exact cb_tupL (by simp only [lsOf, hn]) q
theorem cn_listO {d : D} {ds : List D} {Q : AS → List D → Prop} (h : SeqO A.o d ds) (q : Q A ds) : CbN c (rListA c.K) [.val d] A Q := by
  rcases h with rfl | rfl | ⟨n, rfl, hn⟩
  · exact cn_listL rfl q
  · exact cn_listT rfl q
  · exact cn_listL (by simp only [lsOf, hn]) q
theorem cb_lenO {d : D} {ds : List D} (h : SeqO A.o d ds) (q : Q A (.val (.int (ds.length : Int)))) : CbD c (rLenA c.K) [.val d] A Q := by
  rcases h with rfl | rfl | ⟨n, rfl, hn⟩
  · exact cb_lenL rfl q
  · exact cb_lenT rfl q
  · exact cb_lenL (by simp only [lsOf, hn]) q
theorem od_ixO {d : D} {ds : List D} {i : Int} {x : D} (h : SeqO A.o d ds) (hx : atI ds i = some x) (q : Q A (.val x)) : OpD c (rIx c.K) (.val d) (.val (.int i)) A Q := by
  rcases h with rfl | rfl | ⟨n, rfl, hn⟩
  · exact od_ixL rfl hx q
  · exact od_ixT rfl hx q
  · exact od_ixL (by simp only [lsOf, hn]) hx q
/-- a comprehension over a sequence in a slot whose elements touch no cell -/
theorem wn_lcV {g : TG} {vs : List Nat} {i : Nat} {d : D} {ds es : List D} {Q : AS → List D → Prop} (hg : GOk g vs) (hi : A.s[i]? = some (some (.val d))) (hd : SeqO A.o d ds) (no : noOwnB A.s vs = true) (hl : ds.length < 100000) (he : es.length = ds.length)
    (hs : ∀ (j : Nat) (x : D), ds[j]? = some x → WG c g x ⟨wipeA A.s vs, A.o⟩ fun A2 => WE c te A2 fun A4 r => Frz A4 r fun A5 e => es[j]? = some e ∧ A5.o = A.o ∧ ∀ q, q ∉ vs → A5.s[q]? = A.s[q]?) (q : Q A es) : WN c (tLc (iSeq c.K (tVar i)) g tYes te vs) A Q := by
  have step : ∀ (j : Nat) (x : D) (O : List Cell) (acc : List D), ds[j]? = some x → (O = A.o ∧ acc = es.take j) → WG c g x ⟨wipeA A.s vs, O⟩ fun A2 => WT c tYes A2 fun A3 b => (b = true → WE c te A3 fun A4 r => Frz A4 r fun A5 e => (A5.o = A.o ∧ acc ++ [e] = es.take (j + 1)) ∧ ∀ q, q ∉ vs → A5.s[q]? = A.s[q]?) ∧
        (b = false → (A3.o = A.o ∧ acc = es.take (j + 1)) ∧ ∀ q, q ∉ vs → A3.s[q]? = A.s[q]?) := by
    rintro j x O acc hx ⟨rfl, rfl⟩
    intro F G m σ H v S R E Qc k
    refine hs j x hx F G m σ H v S R E Qc fun F2 m2 A2 σ2 H2 e2 p2 S2 q2 => k F2 m2 A2 σ2 H2 e2 p2 S2 (wt_yes ⟨fun _ => ?_, fun b => nomatch b⟩)
    refine q2.imp fun A4 r q4 => frz_imp q4 fun A5 e5 ⟨h1, h2, h3⟩ => ⟨⟨h2, ?_⟩, h3⟩
    rw [List.take_add_one, h1]; rfl
  rcases hd with rfl | rfl | ⟨n, rfl, hn⟩
  · exact wn_lcI hg (wi_seq (we_var hi (frz_val ⟨ds, rfl, no, hl, fun j O acc => O = A.o ∧ acc = es.take j, ⟨rfl, rfl⟩, step, fun O acc ⟨h1, h2⟩ => by rw [h1, h2, ← he, List.take_length]; exact q⟩)))
  · exact wn_lcI hg (wi_seq (we_var hi (frz_val ⟨ds, rfl, no, hl, fun j O acc => O = A.o ∧ acc = es.take j, ⟨rfl, rfl⟩, step, fun O acc ⟨h1, h2⟩ => by rw [h1, h2, ← he, List.take_length]; exact q⟩)))
  · exact wn_lcC hg (we_var hi ⟨n, ds, rfl, hn, no, hl, fun j O acc => O = A.o ∧ acc = es.take j, ⟨rfl, rfl⟩, fun j O acc ⟨h1, _⟩ => by rw [h1]; exact hn, step, fun O acc ⟨h1, h2⟩ => by rw [h1, h2, ← he, List.take_length]; exact q⟩)
end
/-! ### what equality says -/
theorem eqvAll_map {α : Type} [DecidableEq α] {f : α → PyData} (h : ∀ a b, PyData.eqv (f a) (f b) = decide (a = b)) : ∀ xs ys : List α, PyData.eqvAll (xs.map f) (ys.map f) = decide (xs = ys)
  | [], [] => by simp [PyData.eqvAll]
  | [], _ :: _ => by simp [PyData.eqvAll]
  | _ :: _, [] => by simp [PyData.eqvAll]
  | x :: a, y :: b => by
    simp only [List.map_cons, PyData.eqvAll, eqvAll_map h a b, h]
    by_cases e : x = y
    · subst e; simp
    · simp [e]
theorem eqv_mapL {α : Type} [DecidableEq α] {f : α → PyData} (h : ∀ a b, PyData.eqv (f a) (f b) = decide (a = b)) (xs ys : List α) : PyData.eqv (.list (xs.map f)) (.list (ys.map f)) = decide (xs = ys) := by rw [PyData.eqv]; exact eqvAll_map h xs ys
theorem eqv_mapT {α : Type} [DecidableEq α] {f : α → PyData} (h : ∀ a b, PyData.eqv (f a) (f b) = decide (a = b)) (xs ys : List α) : PyData.eqv (.tuple (xs.map f)) (.tuple (ys.map f)) = decide (xs = ys) := by rw [PyData.eqv]; exact eqvAll_map h xs ys
def pOp : Option Nat → PyData
  | none => .none
  | some n => .int (n : Nat)
theorem eqv_op : ∀ a b : Option Nat, PyData.eqv (pOp a) (pOp b) = decide (a = b)
  | none, none => by simp [pOp, PyData.eqv]
  | none, some _ => by simp [pOp, PyData.eqv]
  | some _, none => by simp [pOp, PyData.eqv]
  | some a, some b => by
    simp only [pOp, PyData.eqv, Option.some.injEq]
    exact decide_eq_decide.mpr (by omega)
def pStepL (row : List (Option Nat)) : PyData := .list (row.map pOp)
def pStepT (row : List (Option Nat)) : PyData := .tuple (row.map pOp)
theorem eqv_stepL (a b : List (Option Nat)) : PyData.eqv (pStepL a) (pStepL b) = decide (a = b) := eqv_mapL eqv_op a b
theorem eqv_stepT (a b : List (Option Nat)) : PyData.eqv (pStepT a) (pStepT b) = decide (a = b) := eqv_mapT eqv_op a b
theorem layL {α : Type} {f : α → PyData} {xs : List α} (h : ∀ x, (f x).canLay0 = true) : (PyData.list (xs.map f)).canLay0 = true := layAll (ps := xs.map f) fun p hp => by obtain ⟨x, _, rfl⟩ := List.mem_map.mp hp; exact h x
theorem depL {α : Type} {f : α → PyData} {xs : List α} {n : Nat} (h : ∀ x, (f x).depth ≤ n) : (PyData.list (xs.map f)).depth ≤ n + 1 := Nat.succ_le_succ (depAll (ps := xs.map f) fun p hp => by obtain ⟨x, _, rfl⟩ := List.mem_map.mp hp; exact h x)
theorem can_op (o : Option Nat) : (pOp o).canLay0 = true := by cases o <;> rfl
theorem dep_op (o : Option Nat) : (pOp o).depth ≤ 0 := by cases o <;> exact Nat.le_refl _
theorem shaped_of {p : PyData} {n : Nat} (h : p.canLay0 = true) (d : p.depth ≤ n) (hn : n ≤ 64) : SeqAt.shaped p = true := by
  unfold SeqAt.shaped
  rw [Bool.and_eq_true]
  exact ⟨h, decide_eq_true (Nat.le_trans d hn)⟩
theorem shaped_stepsL (xs : List (List (Option Nat))) : SeqAt.shaped (.list (xs.map pStepL)) = true := shaped_of (layL fun _ => layL can_op) (depL fun _ => depL dep_op) (by decide)
theorem shaped_stepsT (xs : List (List (Option Nat))) : SeqAt.shaped (.tuple (xs.map pStepT)) = true := shaped_of (layTup fun _ => layTup can_op) (depTup fun _ => depTup dep_op) (by decide)
theorem pyO_op {O : List Cell} (o : Option Nat) : PyO O (dOp o) (pOp o) := by
  cases o with
  | none => exact .non
  | some n => exact .int _
theorem py_op (o : Option Nat) : Py (dOp o) (pOp o) := by
  cases o with
  | none => exact .non
  | some n => exact .int _
theorem py_steps (xs : List (List (Option Nat))) : Py (.tup (xs.map dStep)) (.tuple (xs.map pStepT)) := .tup (pysMap (fun row => .tup (pysMap py_op row)) xs)
end AL

namespace AP
open PySem L2 AL
abbrev Stp := List (List (Option Nat))
def dStepL (row : List (Option Nat)) : D := .lst (row.map dOp)
/-- rows of steps, each a list, a tuple, or a cell -/
def RowsO (O : List Cell) (rows : List D) (xs : Stp) : Prop := rows.length = xs.length ∧ ∀ (k : Nat) r y, rows[k]? = some r → xs[k]? = some y → SeqO O r (y.map dOp)
/-- the same, lists alone -/
def RowsL (O : List Cell) (rows : List D) (xs : Stp) : Prop := rows.length = xs.length ∧ ∀ (k : Nat) r y, rows[k]? = some r → xs[k]? = some y → r = dStepL y ∨ ∃ n, r = .ptr n ∧ O[n]? = some (.lst (y.map dOp))
theorem RowsL.o {O : List Cell} {rows : List D} {xs : Stp} (h : RowsL O rows xs) : RowsO O rows xs := ⟨h.1, fun k r y h1 h2 => by
  rcases h.2 k r y h1 h2 with rfl | ⟨n, rfl, hn⟩
  · exact .inl rfl
  · exact .inr (.inr ⟨n, rfl, hn⟩)⟩
theorem RowsO.set {O : List Cell} {rows : List D} {xs : Stp} {i : Nat} {C : Addr} {fs : List (Str × D)} {c : Cell} (h : RowsO O rows xs) (hi : O[i]? = some (.ins C fs)) : RowsO (O.set i c) rows xs := ⟨h.1, fun k r y h1 h2 => (h.2 k r y h1 h2).set hi⟩
theorem RowsO.app {O P : List Cell} {rows : List D} {xs : Stp} (h : RowsO O rows xs) : RowsO (O ++ P) rows xs := ⟨h.1, fun k r y h1 h2 => (h.2 k r y h1 h2).app⟩
theorem RowsL.app {O P : List Cell} {rows : List D} {xs : Stp} (h : RowsL O rows xs) : RowsL (O ++ P) rows xs := ⟨h.1, fun k r y h1 h2 => by
  rcases h.2 k r y h1 h2 with rfl | ⟨n, rfl, hn⟩
  · exact .inl rfl
  · exact .inr ⟨n, rfl, by rw [List.getElem?_append_left (List.getElem?_eq_some_iff.mp hn).1]; exact hn⟩⟩
theorem rowsT {O : List Cell} (xs : Stp) : RowsO O (xs.map dStep) xs := ⟨List.length_map .., fun k r y h1 h2 => by
  rw [List.getElem?_map, h2] at h1; cases h1; exact .inr (.inl rfl)⟩
theorem rowsF {O : List Cell} (xs : Stp) : RowsL O (xs.map dStepL) xs := ⟨List.length_map .., fun k r y h1 h2 => by
  rw [List.getElem?_map, h2] at h1; cases h1; exact .inl rfl⟩
theorem RowsL.py {O : List Cell} {rows : List D} {xs : Stp} (h : RowsL O rows xs) : PyOs O rows (xs.map pStepL) := pyOs_get (by rw [h.1, List.length_map]) fun i d p h1 h2 => by
  rw [List.getElem?_map] at h2
  cases e : xs[i]? with
  | none => rw [e] at h2; cases h2
  | some y =>
    rw [e] at h2; cases h2
    rcases h.2 i d y h1 e with rfl | ⟨n, rfl, hn⟩
    · exact .lst (pyOs_map pyO_op y)
    · exact .ptr hn (pyOs_map pyO_op y)
theorem stepL_inj {a b : List (Option Nat)} : dStepL a = dStepL b → a.map dOp = b.map dOp := fun h => by injection h
section
variable (CR : Addr)
def ruleX (s : Nat) (xs : Stp) : RuleM := ⟨s, xs⟩
def C_Rule___init__ : Contract := fun ds O R _ => ∃ (i s : Nat) (d : D) (rows : List D) (xs : Stp), ds = [.ptr i, .int (s : Nat), d] ∧ O[i]? = some (.ins CR []) ∧ SeqO O d rows ∧ RowsO O rows xs ∧ xs.length ≤ 1000 ∧ R (O.set i (.ins CR (ruleF ⟨s, xs⟩))) .non
def sameR (r s : RuleM) : Bool := decide (r.start = s.start) && decide (r.steps = s.steps)
def C_Rule___eq__ : Contract := fun ds O R _ => (∃ r s, ds = [dRule CR r, dRule CR s] ∧ R O (.bl (sameR r s))) ∨ ∃ r e, ds = [dRule CR r, e] ∧ AZ.Oth e ∧ R O (.bl false)
variable {CR}
theorem len_Rule___init__ : ∀ ds O R X, C_Rule___init__ CR ds O R X → ds.length = 3 := fun _ _ _ _ h => by obtain ⟨_, _, _, _, _, rfl, _⟩ := h; rfl
theorem len_Rule___eq__ : ∀ ds O R X, C_Rule___eq__ CR ds O R X → ds.length = 2 := fun _ _ _ _ h => by rcases h with ⟨_, _, rfl, _⟩ | ⟨_, _, rfl, _⟩ <;> rfl
end
def C__law_steps : Contract := fun ds O R _ => ∃ (ns : List Int) (S L : Nat), ds = [.lst (ns.map .int), .int (S : Nat), .int (L : Nat)] ∧ AllN ns ∧ 0 < ns.length ∧ ns.length ≤ 1000 ∧ 0 < S ∧ S ≤ 6 ∧ 0 < L ∧ L ≤ 12 ∧ ∀ xs : Stp, xs.length = S → (∀ row ∈ xs, row.length = L ∧ ∀ s, some s ∈ row → s < S) → R O (.lst (xs.map dStepL))
def C__law_after : Contract := fun ds O R _ => ∃ r L d, ∃ text : List Nat, ds = [.int (r.start : Nat), .tup (r.steps.map dStep), d] ∧ Seq d (text.map Int.ofNat) ∧ WfRu L r ∧ (∀ l ∈ text, l < L) ∧ R O (dOp (afterI r text))
theorem len__law_steps : ∀ ds O R X, C__law_steps ds O R X → ds.length = 3 := fun _ _ _ _ h => by obtain ⟨_, _, _, rfl, _⟩ := h; rfl
theorem len__law_after : ∀ ds O R X, C__law_after ds O R X → ds.length = 3 := fun _ _ _ _ h => by obtain ⟨_, _, _, _, rfl, _⟩ := h; rfl
end AP
namespace AP
open PySem L2 AL
def cellR (y : List (Option Nat)) : Cell := .lst (y.map dOp)
def ptrs (b n : Nat) : List D := (List.range n).map fun k => .ptr (b + k)
theorem copyRows {O : List Cell} {xs : Stp} : RowsL (O ++ xs.map cellR) (ptrs O.length xs.length) xs := ⟨by unfold ptrs; rw [List.length_map, List.length_range], fun k r y h1 h2 => by
  have hk := (List.getElem?_eq_some_iff.mp h2).1
  unfold ptrs at h1
  rw [List.getElem?_map, List.getElem?_range hk] at h1
  cases h1
  refine .inr ⟨O.length + k, rfl, ?_⟩
  rw [List.getElem?_append_right (by omega), Nat.add_sub_cancel_left, List.getElem?_map, h2]; rfl⟩
theorem ptrs_succ {b n : Nat} : ptrs b (n + 1) = ptrs b n ++ [.ptr (b + n)] := by unfold ptrs; rw [List.range_succ, List.map_append]; rfl
/-- [list(row) for row in steps], each a cell -/
theorem wn_copy {c : Ct} {A : AS} {Q : AS → List D → Prop} {i j : Nat} {xs : Stp} (hi : A.s[i]? = some (some (.val (.lst (xs.map dStepL))))) (no : noOwnB A.s [j] = true) (hj : j < A.s.length) (hl : xs.length ≤ 1000) (q : Q ⟨A.s, A.o ++ xs.map cellR⟩ (ptrs A.o.length xs.length)) :
    WN c (tLc (iSeq c.K (tVar i)) (gName j) tYes (tCB (rListA c.K) (tCons (tVar j) tNil)) [j]) A Q := by
  refine wn_lcI (gok_name (by simp)) (wi_seq (we_var hi (frz_val ⟨_, rfl, no, by rw [List.length_map]; omega, fun k O acc => O = A.o ++ (xs.take k).map cellR ∧ acc = ptrs A.o.length k, ⟨by simp, rfl⟩, ?_, ?_⟩)))
  · rintro k d O acc hd ⟨rfl, rfl⟩
    rw [List.getElem?_map] at hd
    cases e : xs[k]? with
    | none => rw [e] at hd; cases hd
    | some y =>
      rw [e] at hd
      cases hd
      have hk := (List.getElem?_eq_some_iff.mp e).1
      refine wg_name ?_
      refine wt_yes ?_
      refine ⟨fun _ => ?_, fun h => nomatch h⟩
      refine we_cell ?_
      refine wn_cb ?_
      have hg : (AS.setS ⟨wipeA A.s [j], A.o ++ (xs.take k).map cellR⟩ j (.val (dStepL y))).s[j]? = some (some (.val (dStepL y))) := by
        show (List.set _ _ _)[j]? = _
        rw [List.getElem?_set_self (by show j < (wipeA A.s [j]).length; simp only [wipeA, List.length_set]; exact hj)]
      refine war_cons (we_var hg (war_nil ⟨trivial, cn_listL rfl ?_⟩))
      refine frz_val ⟨⟨?_, ?_⟩, fun q hq => ?_⟩
      · show A.o ++ (xs.take k).map cellR ++ [Cell.lst (y.map dOp)] = _
        rw [take_succ e, List.map_append, List.append_assoc]; rfl
      · rw [ptrs_succ]
        show _ ++ [D.ptr (A.o ++ (xs.take k).map cellR).length] = _
        rw [List.length_append, List.length_map, List.length_take, Nat.min_eq_left (by omega)]
      · show (List.set (wipeA A.s [j]) j _)[q]? = _
        rw [List.getElem?_set_ne (fun z => hq (by rw [← z]; exact List.mem_singleton.mpr rfl))]
        exact wipe_keeps hq
  · rintro O acc ⟨rfl, rfl⟩
    rw [List.length_map, List.take_length]
    exact q
end AP
namespace AP
open PySem L2 AL
theorem okE_op {k : Nat} (o : Option Nat) : okE (k + 1) (dOp o) := by cases o <;> trivial
theorem okE_steps {L : Nat} {s : Nat} {xs : Stp} (h : WfRu L ⟨s, xs⟩) : okE 6 (.tup (xs.map dStep)) := ⟨by rw [List.length_map]; have : xs.length ≤ 100 := h.n; omega, fun d hd => by
  obtain ⟨row, hr, rfl⟩ := List.mem_map.mp hd
  refine ⟨?_, fun e he => ?_⟩
  · have h1 : row.length = L := (h.row row hr).1
    have := h.L1
    rw [List.length_map]; omega
  · obtain ⟨o, _, rfl⟩ := List.mem_map.mp he
    exact okE_op o⟩
theorem pickF (F : Nat → Int) (l c : Nat) (hl : 0 < l) : ∃ bs : List Nat, ((List.range c).map fun k => D.int (F k % (l : Int))) = dL bs ∧ (∀ x ∈ bs, x < l) ∧ bs.length = c := by
  refine ⟨(List.range c).map fun k => (F k % (l : Int)).toNat, ?_, fun x hx => ?_, by rw [List.length_map, List.length_range]⟩
  · rw [dL_eq, List.map_map]
    apply List.map_congr_left
    intro k _
    show D.int _ = D.int _
    rw [pickE hl]
  · obtain ⟨k, _, rfl⟩ := List.mem_map.mp hx
    have h1 := Int.emod_nonneg (F k) (show (l : Int) ≠ 0 by omega)
    have h2 := Int.emod_lt_of_pos (F k) (show 0 < (l : Int) by omega)
    omega
end AP
namespace AP
open PySem L2 AL
/-- rows that are cells side by side -/
def RowsP (O : List Cell) (b : Nat) (xs : Stp) : Prop := ∀ (k : Nat) y, xs[k]? = some y → O[b + k]? = some (cellR y)
theorem RowsP.l {O : List Cell} {b : Nat} {xs : Stp} (h : RowsP O b xs) : RowsL O (ptrs b xs.length) xs := ⟨by unfold ptrs; rw [List.length_map, List.length_range], fun k r y h1 h2 => by
  have hk := (List.getElem?_eq_some_iff.mp h2).1
  unfold ptrs at h1
  rw [List.getElem?_map, List.getElem?_range hk] at h1
  cases h1
  exact .inr ⟨b + k, rfl, h k y h2⟩⟩
theorem copyP {O : List Cell} {xs : Stp} : RowsP (O ++ xs.map cellR) O.length xs := fun k y h => by
  rw [List.getElem?_append_right (by omega), Nat.add_sub_cancel_left, List.getElem?_map, h]; rfl
theorem RowsP.app {O P : List Cell} {b : Nat} {xs : Stp} (h : RowsP O b xs) : RowsP (O ++ P) b xs := fun k y e => by
  have := h k y e
  rw [List.getElem?_append_left (List.getElem?_eq_some_iff.mp this).1]; exact this
theorem RowsP.set {O : List Cell} {b : Nat} {xs : Stp} (h : RowsP O b xs) {ra rb : Nat} {y : List (Option Nat)} {o : Option Nat} (hy : xs[ra]? = some y) : RowsP (O.set (b + ra) (.lst ((y.map dOp).set rb (dOp o)))) b (xs.set ra (y.set rb o)) := fun k z hz => by
  by_cases e : ra = k
  · subst e
    rw [List.getElem?_set_self (List.getElem?_eq_some_iff.mp hy).1] at hz
    cases hz
    rw [List.getElem?_set_self (List.getElem?_eq_some_iff.mp (h ra y hy)).1]
    unfold cellR
    rw [List.map_set]
  · rw [List.getElem?_set_ne e] at hz
    rw [List.getElem?_set_ne (by omega)]
    exact h k z hz
/-- a list of rows, itself a list or a cell -/
def OthL (O : List Cell) (d : D) (ys : Stp) : Prop := ∃ rows, (d = .lst rows ∨ ∃ n, d = .ptr n ∧ O[n]? = some (.lst rows)) ∧ RowsL O rows ys
theorem OthL.f {O : List Cell} (ys : Stp) : OthL O (.lst (ys.map dStepL)) ys := ⟨_, .inl rfl, rowsF ys⟩
theorem OthL.app {O P : List Cell} {d : D} {ys : Stp} (h : OthL O d ys) : OthL (O ++ P) d ys := by
  obtain ⟨rows, h1, h2⟩ := h
  refine ⟨rows, ?_, h2.app⟩
  rcases h1 with h1 | ⟨n, h1, hn⟩
  · exact .inl h1
  · exact .inr ⟨n, h1, by rw [List.getElem?_append_left (List.getElem?_eq_some_iff.mp hn).1]; exact hn⟩
theorem OthL.py {O : List Cell} {d : D} {ys : Stp} (h : OthL O d ys) : PyO O d (.list (ys.map pStepL)) := by
  obtain ⟨rows, h1, h2⟩ := h
  rcases h1 with rfl | ⟨n, rfl, hn⟩
  · exact .lst h2.py
  · exact .ptr hn h2.py
theorem OthL.seq {O : List Cell} {d : D} {ys : Stp} (h : OthL O d ys) : ∃ rows, SeqO O d rows ∧ RowsO O rows ys := by
  obtain ⟨rows, h1, h2⟩ := h
  refine ⟨rows, ?_, h2.o⟩
  rcases h1 with rfl | ⟨n, rfl, hn⟩
  · exact .inl rfl
  · exact .inr (.inr ⟨n, rfl, hn⟩)
theorem eqv_bool (a b : Bool) : PyData.eqv (.bool a) (.bool b) = decide (a = b) := by cases a <;> cases b <;> simp [PyData.eqv]
theorem od_eqB {c : Ct} {A : AS} {Q : QE} {a b : Bool} (k : Q A (.val (.bl (decide (a = b))))) : OpD c (rEqA c.K) (.val (.bl a)) (.val (.bl b)) A Q :=
  od_eqD (p := .bool a) (q := .bool b) (.bl a) (.bl b) rfl rfl (eqv_bool a b) k
theorem od_neB {c : Ct} {A : AS} {Q : QE} {a b : Bool} (k : Q A (.val (.bl (!decide (a = b))))) : OpD c (rNeA c.K) (.val (.bl a)) (.val (.bl b)) A Q :=
  od_neD (p := .bool a) (q := .bool b) (.bl a) (.bl b) rfl rfl (eqv_bool a b) k
end AP
namespace AP
open PySem L2 AL
theorem same_yes {s : Nat} {xs ys : Stp} : sameR ⟨s, xs⟩ ⟨s, ys⟩ = decide (ys = xs) := by
  unfold sameR
  rw [decide_eq_true rfl, Bool.true_and]
  exact decide_eq_decide.mpr ⟨fun h => h.symm, fun h => h.symm⟩
theorem same_no {s t : Nat} {xs ys : Stp} (h : s ≠ t) : sameR ⟨s, xs⟩ ⟨t, ys⟩ = false := by
  unfold sameR
  rw [decide_eq_false h]; rfl
theorem same_self {s : Nat} {xs : Stp} : sameR ⟨s, xs⟩ ⟨s, xs⟩ = true := by rw [same_yes, decide_eq_true rfl]
end AP

namespace AQ
open PySem L2 AL
open AU (Odd isIntD isFromD OddS oddS_int oddS_lt)
def RowsD (O : List Cell) (rows : List D) (S : List (List D)) : Prop := rows.length = S.length ∧ ∀ (k : Nat) r y, rows[k]? = some r → S[k]? = some y → SeqO O r y
theorem RowsD.set {O : List Cell} {rows : List D} {xs : List (List D)} {i : Nat} {C : Addr} {fs : List (Str × D)} {c : Cell} (h : RowsD O rows xs) (hi : O[i]? = some (.ins C fs)) : RowsD (O.set i c) rows xs := ⟨h.1, fun k r y h1 h2 => (h.2 k r y h1 h2).set hi⟩
theorem RowsD.app {O P : List Cell} {rows : List D} {xs : List (List D)} (h : RowsD O rows xs) : RowsD (O ++ P) rows xs := ⟨h.1, fun k r y h1 h2 => (h.2 k r y h1 h2).app⟩
theorem rowsDT {O : List Cell} (S : List (List D)) : RowsD O (S.map .tup) S := ⟨List.length_map .., fun k r y h1 h2 => by
  rw [List.getElem?_map, h2] at h1; cases h1; exact .inr (.inl rfl)⟩
def askX (P : List D) (m : D) (S : List (List D)) (T : List D) (r : D) : List (Str × D) := [("prompt", .tup P), ("most", m), ("stops", .tup (S.map .tup)), ("tape", .tup T), ("rule", r)]
theorem askX_eq {CA CR : Addr} {a : AskM} : D.obj CA (askX (dL a.prompt) (.int (a.most : Nat)) (a.stops.map dL) (a.tape.map .int) (dRu CR a.rule)) = dAsk CA CR a := by
  unfold dAsk askF askX; rw [List.map_map]; rfl
section
variable (CA CN : Addr)
def C_Ask___init__ : Contract := fun ds O R X => ∃ (i : Nat) (dp dm dst dtp r : D) (P T rows : List D) (S : List (List D)), ds = [.ptr i, dp, dm, dst, dtp, r] ∧ O[i]? = some (.ins CA []) ∧ Odd dm ∧ SeqO O dp P ∧ SeqO O dst rows ∧ RowsD O rows S ∧ SeqO O dtp T ∧ S.length ≤ 1000 ∧
  (isFromD dm 1 30 = false → X O CN [("number", dm)]) ∧ (isFromD dm 1 30 = true → R (O.set i (.ins CA (askX P dm S T r))) .non)
variable {CA CN}
theorem len_Ask___init__ : ∀ ds O R X, C_Ask___init__ CA CN ds O R X → ds.length = 6 := fun _ _ _ _ h => by obtain ⟨_, _, _, _, _, _, _, _, _, _, rfl, _⟩ := h; rfl
end
/-! what is handed in, shown -/
def mk (b : Bool) (xs : List PyData) : PyData := if b then .list xs else .tuple xs
theorem mk_can (b : Bool) {xs : List PyData} (h : ∀ p ∈ xs, p.canLay0 = true) : (mk b xs).canLay0 = true := by cases b <;> exact layAll (ps := xs) h
theorem mk_dep (b : Bool) {xs : List PyData} {n : Nat} (h : ∀ p ∈ xs, p.depth ≤ n) : (mk b xs).depth ≤ n + 1 := by cases b <;> exact Nat.succ_le_succ (depAll (ps := xs) h)
theorem mk_wt (b : Bool) {xs : List PyData} : (mk b xs).weight = PyData.weightAll xs := by cases b <;> (show PyData.weight _ = _; unfold PyData.weight; rfl)
theorem shortAll {xs : List PyData} (h : ∀ p ∈ xs, p.intsShort 13 = true) : PyData.intsShortAll 13 xs = true := by
  induction xs with
  | nil => simp only [PyData.intsShortAll]
  | cons x r ih => simp only [PyData.intsShortAll, Bool.and_eq_true]; exact ⟨h x (List.mem_cons_self ..), ih fun y hy => h y (List.mem_cons_of_mem _ hy)⟩
theorem mk_short (b : Bool) {xs : List PyData} (h : ∀ p ∈ xs, p.intsShort 13 = true) : (mk b xs).intsShort 13 = true := by
  cases b <;> (show PyData.intsShort 13 _ = true; unfold PyData.intsShort; exact shortAll h)
theorem showAll {xs : List PyData} (h : ∀ p ∈ xs, p.showable = true) : PyData.showableAll xs = true := by
  induction xs with
  | nil => simp only [PyData.showableAll]
  | cons x r ih => simp only [PyData.showableAll, Bool.and_eq_true]; exact ⟨h x (List.mem_cons_self ..), ih fun y hy => h y (List.mem_cons_of_mem _ hy)⟩
theorem mk_show (b : Bool) {xs : List PyData} (h : ∀ p ∈ xs, p.showable = true) : (mk b xs).showable = true := by cases b <;> (show PyData.showable _ = true; unfold PyData.showable; exact showAll h)
theorem dictAll {xs : List PyData} (h : ∀ p ∈ xs, p.hasDict = false) : PyData.hasDictAll xs = false := by
  induction xs with
  | nil => simp only [PyData.hasDictAll]
  | cons x r ih => simp only [PyData.hasDictAll, Bool.or_eq_false_iff]; exact ⟨h x (List.mem_cons_self ..), ih fun y hy => h y (List.mem_cons_of_mem _ hy)⟩
theorem mk_dict (b : Bool) {xs : List PyData} (h : ∀ p ∈ xs, p.hasDict = false) : (mk b xs).hasDict = false := by cases b <;> (show PyData.hasDict _ = false; unfold PyData.hasDict; exact dictAll h)
theorem wtAll {xs : List PyData} {n : Nat} (h : ∀ p ∈ xs, p.weight ≤ n) : PyData.weightAll xs ≤ (n + 1) * xs.length := by
  induction xs with
  | nil => simp [PyData.weightAll]
  | cons x r ih =>
    have h1 := h x (List.mem_cons_self ..)
    have h2 := ih fun y hy => h y (List.mem_cons_of_mem _ hy)
    unfold PyData.weightAll
    rw [List.length_cons, Nat.mul_add, Nat.mul_one]; omega
/-- data of ints below a million, not deep, not long -/
structure Fine (p : PyData) (w d : Nat) : Prop where
  can : p.canLay0 = true
  dep : p.depth ≤ d
  wt : p.weight ≤ w
  short : p.intsShort 13 = true
  show_ : p.showable = true
  dict : p.hasDict = false
theorem fine_int {i : Int} (h : i.natAbs < 1000000) : Fine (.int i) 20 0 where
  can := rfl
  dep := Nat.le_refl _
  wt := by
    unfold PyData.weight
    split
    · omega
    · rename_i e
      have h0 : i.natAbs ≠ 0 := fun z => e (by have : i = 0 := by omega
                                               subst this; rfl)
      have := (Nat.log2_lt h0).mpr (show i.natAbs < 2 ^ 20 by omega)
      omega
  short := by unfold PyData.intsShort; exact decide_eq_true (PyData.shown_int_le (by omega))
  show_ := by
    unfold PyData.showable
    refine decide_eq_true ?_
    by_cases h0 : i.natAbs = 0
    · rw [h0]; decide
    · have := (Nat.log2_lt h0).mpr (show i.natAbs < 2 ^ 20 by omega); omega
  dict := by unfold PyData.hasDict; rfl
theorem fine_mk (b : Bool) {xs : List PyData} {w d : Nat} (h : ∀ p ∈ xs, Fine p w d) : Fine (mk b xs) ((w + 1) * xs.length) (d + 1) where
  can := mk_can b fun p hp => (h p hp).can
  dep := mk_dep b fun p hp => (h p hp).dep
  wt := by rw [mk_wt]; exact wtAll fun p hp => (h p hp).wt
  short := mk_short b fun p hp => (h p hp).short
  show_ := mk_show b fun p hp => (h p hp).show_
  dict := mk_dict b fun p hp => (h p hp).dict
theorem Fine.mono {p : PyData} {w d w' d' : Nat} (h : Fine p w d) (k : w ≤ w') (k2 : d ≤ d') : Fine p w' d' := ⟨h.can, Nat.le_trans h.dep k2, Nat.le_trans h.wt k, h.short, h.show_, h.dict⟩
def pHand (b : Bool) (P : List Int) (S : List (List Int)) (T : List Int) : PyData := .tuple [mk b (P.map .int), mk b (S.map fun s => mk b (s.map .int)), mk b (T.map .int)]
theorem fine_ints (b : Bool) {ns : List Int} {n : Nat} (h : ∀ i ∈ ns, i.natAbs < 1000000) (hl : ns.length ≤ n) : Fine (mk b (ns.map .int)) (21 * n) 1 := by
  have := fine_mk b (xs := ns.map .int) (w := 20) (d := 0) fun p hp => by obtain ⟨i, hi, rfl⟩ := List.mem_map.mp hp; exact fine_int (h i hi)
  rw [List.length_map] at this
  exact this.mono (Nat.mul_le_mul_left _ hl) (by decide)
theorem shows_hand (b : Bool) {P : List Int} {S : List (List Int)} {T : List Int} (hP : ∀ i ∈ P, i.natAbs < 1000000) (hS : ∀ s ∈ S, s.length ≤ 5 ∧ ∀ i ∈ s, i.natAbs < 1000000) (hT : ∀ i ∈ T, i.natAbs < 1000000) (lP : P.length ≤ 100) (lS : S.length ≤ 100) (lT : T.length ≤ 100) : Shows (pHand b P S T) := by
  have f1 := (fine_ints b hP lP).mono (w' := 20000) (d' := 2) (by decide) (by decide)
  have f3 := (fine_ints b hT lT).mono (w' := 20000) (d' := 2) (by decide) (by decide)
  have f2 := fine_mk b (xs := S.map fun s => mk b (s.map .int)) (w := 105) (d := 1) fun p hp => by
    obtain ⟨s, hs, rfl⟩ := List.mem_map.mp hp
    exact fine_ints b (hS s hs).2 (hS s hs).1
  rw [List.length_map] at f2
  have f2 := f2.mono (w' := 20000) (d' := 2) (by omega) (by decide)
  have f := fine_mk false (xs := [mk b (P.map .int), mk b (S.map fun s => mk b (s.map .int)), mk b (T.map .int)]) (w := 20000) (d := 2) fun p hp => by
    simp only [List.mem_cons, List.not_mem_nil, or_false] at hp
    rcases hp with rfl | rfl | rfl
    · exact f1
    · exact f2
    · exact f3
  have hl : PyData.layable0 (pHand b P S T) = true := by
    unfold PyData.layable0
    simp only [Bool.and_eq_true, decide_eq_true_eq]
    exact ⟨⟨f.can, Nat.le_trans f.dep (by decide)⟩, Nat.le_trans f.wt (show (20000 + 1) * 3 ≤ 2 ^ 20 by decide)⟩
  refine ⟨f.show_, f.dict, Nat.le_trans f.dep (by decide), ?_, trivial⟩
  have := PyData.shown_le_of_layable0 hl f.short
  rw [sizeLine_eq]; omega
def C__law_tape : Contract := fun ds O R _ => ∃ ns : List Int, ∃ k : Nat, ds = [.lst (ns.map .int), .int (k : Nat)] ∧ AllN ns ∧ k + 30 ≤ ns.length ∧ ns.length ≤ 1000 ∧ ∀ tape : List Int, tape.length ≤ 12 → (∀ i ∈ tape, i.natAbs < 1000000) → R O (.tup (tape.map .int))
theorem len__law_tape : ∀ ds O R X, C__law_tape ds O R X → ds.length = 2 := fun _ _ _ _ h => by obtain ⟨_, _, rfl, _⟩ := h; rfl
end AQ
namespace AQ
open PySem L2 AL
open AU (Odd isIntD isFromD OddS oddS_int oddS_lt)
open AP (ptrs ptrs_succ)
section
variable {c : Ct} {A : AS} {C : Addr} {Φ : Contract} {E : L2.St → XK} {t : TA} {Q : QE}
theorem we_makeSD {dvs : List V} {dds : List D} (hE : ∀ σ, c.E σ = E σ) (hd0 : ∀ F m, Reps c.K F m dvs dds) (h : WA c t A fun A1 ds => Φ (.ptr A1.o.length :: (ds ++ dds)) (A1.o ++ [.ins C []]) (fun O' d => d = .non ∧ Q ⟨A1.s, O'⟩ (.val (.ptr A1.o.length))) (fun O' C fs => c.X ⟨A1.s, O'⟩ C fs)) : WE c (tMakeS C (SpA c.K Φ) dvs E t) A Q := fun F G m σ H S Eo Qc k =>
  h F G m σ H S Eo _ fun F1 m1 A1 vs H1 ds e1 p1 S1 R1 q => by
    intro p dx hp hd n
    have S2 := S1.insNew (C := C) hp hd n
    have ex : Ex F1 (upd F1 dx (.own p)) := ex_upd (S1.h.fresh hd).1
    have pr : Pre m1 (m1 ++ [p]) := Pre.app
    have gp : (m1 ++ [p])[A1.o.length]? = some p := by rw [← S1.h.len, List.getElem?_append_right (Nat.le_refl _), Nat.sub_self]; rfl
    refine ⟨upd F1 dx (.own p), _, m1 ++ [p], A1.o ++ [.ins C []], .ptr A1.o.length :: (ds ++ dds), _, _, S2.call, .cons (.ptr gp) ((R1.mono ex pr).app (hd0 _ _)), q, fun F' m' O' w d H' e3 p3 hs r rr => ?_, fun F' m' O' C dx fvs fs H' e p hs fx rf xx => ?_⟩
    · obtain ⟨ed, rr⟩ := rr
      subst ed
      cases r
      exact ⟨rfl, k F' m' ⟨A1.s, O'⟩ _ H' (.val (.ptr A1.o.length)) ((e1.trans ex).trans e3) ((p1.trans pr).trans p3) (S2.back e3 p3 hs) (show Rep c.K F' m' _ _ from .ptr (p3 _ _ gp)) rr⟩
    · have z := Eo.x F' m' ⟨A1.s, O'⟩ σ H' C dx fvs fs ((e1.trans ex).trans e) ((p1.trans pr).trans p) (S2.back e p hs) fx rf xx
      rw [hE] at z; exact z
end
/-- [list(x) for x in xs], each a cell -/
theorem wn_copyG {c : Ct} {A : AS} {Q : AS → List D → Prop} {i j : Nat} {d : D} {ds : List D} {S : List (List D)} (hi : A.s[i]? = some (some (.val d))) (hq : ∀ B : AS, Frz B (.val d) fun A2 d => A2 = B ∧ sqD d = some ds) (he : ds.length = S.length) (hr : ∀ (k : Nat) r y, ds[k]? = some r → S[k]? = some y → r = .lst y ∨ r = .tup y) (no : noOwnB A.s [j] = true) (hj : j < A.s.length) (hl : S.length ≤ 1000) (q : Q ⟨A.s, A.o ++ S.map .lst⟩ (ptrs A.o.length S.length)) :
    WN c (tLc (iSeq c.K (tVar i)) (gName j) tYes (tCB (rListA c.K) (tCons (tVar j) tNil)) [j]) A Q := by
  refine wn_lcI (gok_name (by simp)) (wi_seq (we_var hi (frz_imp (hq A) fun A2 d2 ⟨eA, es⟩ => ?_)))
  subst eA
  refine ⟨_, es, no, by omega, fun k O acc => O = A2.o ++ (S.take k).map .lst ∧ acc = ptrs A2.o.length k, ⟨by simp, rfl⟩, ?_, ?_⟩
  · rintro k e O acc hd ⟨rfl, rfl⟩
    have hk := (List.getElem?_eq_some_iff.mp hd).1
    obtain ⟨y, hy⟩ : ∃ y, S[k]? = some y := ⟨S[k]'(by omega), List.getElem?_eq_getElem _⟩
    refine wg_name ?_
    refine wt_yes ?_
    refine ⟨fun _ => ?_, fun h => nomatch h⟩
    refine we_cell ?_
    refine wn_cb ?_
    have hg : (AS.setS ⟨wipeA A2.s [j], A2.o ++ (S.take k).map .lst⟩ j (.val e)).s[j]? = some (some (.val e)) := by
      show (List.set _ _ _)[j]? = _
      rw [List.getElem?_set_self (by show j < (wipeA A2.s [j]).length; simp only [wipeA, List.length_set]; exact hj)]
    have fin : WAr c tNil (AS.setS ⟨wipeA A2.s [j], A2.o ++ (S.take k).map .lst⟩ j (.val e)) fun A1 rs => Stays (AS.setS ⟨wipeA A2.s [j], A2.o ++ (S.take k).map .lst⟩ j (.val e)) A1 (.val e) ∧ CbN c (rListA c.K) (.val e :: rs) A1 fun A1 ds => Frz ⟨A1.s, A1.o ++ [.lst ds]⟩ (.val (.ptr A1.o.length)) fun A5 e => (A5.o = A2.o ++ (S.take (k + 1)).map .lst ∧ ptrs A2.o.length k ++ [e] = ptrs A2.o.length (k + 1)) ∧ ∀ q, q ∉ [j] → A5.s[q]? = A2.s[q]? := by
      have last : Frz ⟨(AS.setS ⟨wipeA A2.s [j], A2.o ++ (S.take k).map .lst⟩ j (.val e)).s, A2.o ++ (S.take k).map .lst ++ [.lst y]⟩ (.val (.ptr (A2.o ++ (S.take k).map Cell.lst).length)) fun A5 e => (A5.o = A2.o ++ (S.take (k + 1)).map .lst ∧ ptrs A2.o.length k ++ [e] = ptrs A2.o.length (k + 1)) ∧ ∀ q, q ∉ [j] → A5.s[q]? = A2.s[q]? := by
        refine frz_val ⟨⟨?_, ?_⟩, fun q hq => ?_⟩
        · show A2.o ++ (S.take k).map Cell.lst ++ [Cell.lst y] = _
          rw [take_succ hy, List.map_append, List.append_assoc]; rfl
        · rw [ptrs_succ, List.length_append, List.length_map, List.length_take, Nat.min_eq_left (by omega)]
        · show (List.set (wipeA A2.s [j]) j _)[q]? = _
          rw [List.getElem?_set_ne (fun z => hq (by rw [← z]; exact List.mem_singleton.mpr rfl))]
          exact wipe_keeps hq
      refine war_nil ⟨trivial, ?_⟩
      rcases hr k e y hd hy with rfl | rfl
      · exact cn_listL rfl last
      · exact cn_listT rfl last
    exact war_cons (we_var hg fin)
  · rintro O acc ⟨rfl, rfl⟩
    rw [he, List.take_length]
    exact q
/-- what is handed in as lists: cells side by side -/
structure HL (O : List Cell) (n : Nat) (P : List D) (S : List (List D)) (T : List D) : Prop where
  p : O[n]? = some (.lst P)
  s : ∀ (k : Nat) y, S[k]? = some y → O[n + 1 + k]? = some (.lst y)
  l : O[n + 1 + S.length]? = some (.lst (ptrs (n + 1) S.length))
  t : O[n + 2 + S.length]? = some (.lst T)
theorem getA {O P : List Cell} {n : Nat} {x : Cell} (h : O[n]? = some x) : (O ++ P)[n]? = some x := by
  rw [List.getElem?_append_left (List.getElem?_eq_some_iff.mp h).1]; exact h
theorem HL.app {O X : List Cell} {n : Nat} {P T : List D} {S : List (List D)} (h : HL O n P S T) : HL (O ++ X) n P S T := ⟨getA h.p, fun k y e => getA (h.s k y e), getA h.l, getA h.t⟩
theorem HL.new (O : List Cell) (P : List D) (S : List (List D)) (T : List D) : HL (O ++ [.lst P] ++ S.map .lst ++ [.lst (ptrs (O ++ [Cell.lst P]).length S.length)] ++ [.lst T]) O.length P S T where
  p := by simp
  s := fun k y e => by
    have hk := (List.getElem?_eq_some_iff.mp e).1
    rw [List.append_assoc, List.append_assoc, List.append_assoc, List.getElem?_append_right (by omega), List.getElem?_append_right (by simp; omega), List.getElem?_append_left (by simp; omega)]
    simp only [List.length_singleton, List.getElem?_map]
    rw [show O.length + 1 + k - O.length - 1 = k by omega, e]; rfl
  l := by
    rw [List.getElem?_append_left (by simp; omega), List.getElem?_append_right (by simp; omega)]
    simp only [List.length_append, List.length_map, List.length_singleton]
    rw [show O.length + 1 + S.length - (O.length + 1 + S.length) = 0 by omega]; rfl
  t := by
    rw [List.getElem?_append_right (by simp; omega)]
    simp only [List.length_append, List.length_map, List.length_singleton]
    rw [show O.length + 2 + S.length - (O.length + 1 + S.length + 1) = 0 by omega]; rfl
def hand (b : Bool) (n : Nat) (P : List D) (S : List (List D)) (T : List D) : List D := if b then [.ptr n, .ptr (n + 1 + S.length), .ptr (n + 2 + S.length)] else [.tup P, .tup (S.map .tup), .tup T]
end AQ
namespace AQ
open PySem L2 AL
section
variable {c : Ct} {A : AS} {Q : QE}
theorem we_makeFD {C : Addr} {Φ : Contract} {E : XK} {t : TA} {dvs : List V} {dds : List D} (hd0 : ∀ F m, Reps c.K F m dvs dds) (h : WA c t A fun A1 ds => Φ (.ptr A1.o.length :: (ds ++ dds)) (A1.o ++ [.ins C []]) (fun O' d => d = .non ∧ ∃ fs, O'[A1.o.length]? = some (.ins C fs) ∧ Q ⟨A1.s, O'.set A1.o.length .gone⟩ (.val (.obj C fs))) (fun _ _ _ => False)) : WE c (tMake C (SpA c.K Φ) dvs E t) A Q := fun F G m σ H S Eo Qc k =>
  h F G m σ H S Eo _ fun F1 m1 A1 vs H1 ds e1 p1 S1 R1 q => by
    intro p dx hp hd n
    have S2 := S1.insNew (C := C) hp hd n
    have ex : Ex F1 (upd F1 dx (.own p)) := ex_upd (S1.h.fresh hd).1
    have pr : Pre m1 (m1 ++ [p]) := Pre.app
    have gp : (m1 ++ [p])[A1.o.length]? = some p := by rw [← S1.h.len, List.getElem?_append_right (Nat.le_refl _), Nat.sub_self]; rfl
    refine ⟨upd F1 dx (.own p), _, m1 ++ [p], A1.o ++ [.ins C []], .ptr A1.o.length :: (ds ++ dds), _, _, S2.call, .cons (.ptr gp) ((R1.mono ex pr).app (hd0 _ _)), q, fun F' m' O' w d H' e3 p3 hs r rr => ?_, fun F' m' O' C dx fvs fs H' e p hs fx rf xx => xx.elim⟩
    obtain ⟨ed, fs, eo, rr⟩ := rr
    subst ed
    cases r
    obtain ⟨F4, e4, S4, R4⟩ := (S2.back e3 p3 hs).insFrz (p3 _ _ gp) eo
    exact ⟨rfl, k F4 m' _ _ H' (.val (.obj C fs)) (((e1.trans ex).trans e3).trans e4) ((p1.trans pr).trans p3) S4 R4 rr⟩
theorem nil_of {α : Type} {xs : List α} {n : Nat} (h : decide ((xs.length : Int) = 0) = true) (e : xs.length = n) : n = 0 := by have := of_decide_eq_true h; omega
end
end AQ
namespace AQ
open PySem L2 AL
open AP (ptrs)
theorem pyOs_mk {O : List Cell} {ns : List Int} : PyOs O (ns.map .int) (ns.map .int) := pyOs_ints ns
theorem hand_ok {O : List Cell} {n : Nat} {PI TI : List Int} {SI : List (List Int)} (h : HL O n (PI.map .int) (SI.map fun s => s.map .int) (TI.map .int)) (b : Bool) :
    ∃ dp dst dtp rows, hand b n (PI.map .int) (SI.map fun s => s.map .int) (TI.map .int) = [dp, dst, dtp] ∧ SeqO O dp (PI.map .int) ∧ SeqO O dst rows ∧ RowsD O rows (SI.map fun s => s.map .int) ∧ SeqO O dtp (TI.map .int) ∧ PyO O (.tup [dp, dst, dtp]) (pHand b PI SI TI) ∧
      (b = true → dp = .ptr n ∧ dst = .ptr (n + 1 + SI.length) ∧ dtp = .ptr (n + 2 + SI.length)) := by
  have hl := h.l
  have ht := h.t
  rw [List.length_map] at hl ht
  cases b with
  | true =>
    have rw_ : RowsD O (ptrs (n + 1) SI.length) (SI.map fun s => s.map .int) := ⟨by unfold ptrs; rw [List.length_map, List.length_range, List.length_map], fun k r y h1 h2 => by
      have hk := (List.getElem?_eq_some_iff.mp h2).1
      rw [List.length_map] at hk
      unfold ptrs at h1
      rw [List.getElem?_map, List.getElem?_range hk] at h1
      cases h1
      exact .inr (.inr ⟨_, rfl, h.s k y h2⟩)⟩
    refine ⟨.ptr n, .ptr (n + 1 + SI.length), .ptr (n + 2 + SI.length), ptrs (n + 1) SI.length, by simp [hand], .inr (.inr ⟨n, rfl, h.p⟩), .inr (.inr ⟨_, rfl, hl⟩), rw_, .inr (.inr ⟨_, rfl, ht⟩), ?_, fun _ => ⟨rfl, rfl, rfl⟩⟩
    refine .tup (.cons (.ptr h.p (pyOs_ints PI)) (.cons (.ptr hl ?_) (.cons (.ptr ht (pyOs_ints TI)) .nil)))
    refine pyOs_get (by rw [rw_.1, List.length_map, List.length_map]) fun k d p h1 h2 => ?_
    rw [List.getElem?_map] at h2
    cases e : SI[k]? with
    | none => rw [e] at h2; cases h2
    | some s =>
      rw [e] at h2; cases h2
      have hs := h.s k (s.map .int) (by rw [List.getElem?_map, e]; rfl)
      have hk := (List.getElem?_eq_some_iff.mp e).1
      unfold ptrs at h1
      rw [List.getElem?_map, List.getElem?_range hk] at h1
      cases h1
      exact .ptr hs (pyOs_ints s)
  | false =>
    refine ⟨.tup (PI.map .int), .tup ((SI.map fun s => s.map D.int).map .tup), .tup (TI.map .int), (SI.map fun s => s.map D.int).map .tup, rfl, .inr (.inl rfl), .inr (.inl rfl), rowsDT _, .inr (.inl rfl), ?_, fun h => nomatch h⟩
    refine .tup (.cons (.tup (pyOs_ints PI)) (.cons (.tup ?_) (.cons (.tup (pyOs_ints TI)) .nil)))
    rw [List.map_map]
    exact pyOs_map (fun s => .tup (pyOs_ints s)) SI
theorem noLstO_app {O P : List Cell} (h : NoLstO O) (k : NoLstO P) : NoLstO (O ++ P) := fun c hc => (List.mem_append.mp hc).elim (h c) (k c)
theorem noLstO_one {c : Cell} (h : NoLstC c) : NoLstO [c] := fun x hx => by rw [List.mem_singleton] at hx; subst hx; exact h
theorem noLstO_ints (SI : List (List Int)) : NoLstO ((SI.map fun s => s.map D.int).map .lst) := fun c hc => by
  obtain ⟨y, hy, rfl⟩ := List.mem_map.mp hc
  obtain ⟨s, _, rfl⟩ := List.mem_map.mp hy
  exact .lst (noLsts_ints s)
theorem noLsts_ptrs (b n : Nat) : NoLsts (ptrs b n) := noLsts_map (fun k => .ptr _) _
theorem noLsts_snoc : ∀ {ds : List D} {d : D}, NoLsts ds → NoLst d → NoLsts (ds ++ [d])
  | [], _, _, h => .cons h .nil
  | _ :: _, _, .cons a r, h => .cons a (noLsts_snoc r h)
theorem noLstO_set {O : List Cell} {i : Nat} {c : Cell} (h : NoLstO O) (hc : NoLstC c) : NoLstO (O.set i c) := fun x hx => by
  rcases List.mem_or_eq_of_mem_set hx with z | z
  · exact h x z
  · exact z ▸ hc
theorem lst_of {O : List Cell} {n : Nat} {ds : List D} (h : NoLstO O) (hn : O[n]? = some (.lst ds)) : NoLsts ds := by
  have := h _ (List.mem_of_getElem? hn)
  cases this; assumption
end AQ

namespace LW
open PySem L2 AL
def topS (i : Nat) : Stmt := PySem.Challenge.pw_servedalone_k05_asks_and_choices.main.body.getD i (.Pass ⟨0, 0, 0, 0⟩)
abbrev s_is_integer : Stmt := topS 1
abbrev n_is_integer : List Str := ["value"]
/-! is_integer: 0 value -/
theorem sc_is_integer : FnScope n_is_integer ["value"] (defScope s_is_integer) := ⟨rfl, rfl, rfl, by decide +kernel, rfl, by decide +kernel, by decide +kernel⟩
abbrev s_is_from : Stmt := topS 2
abbrev n_is_from : List Str := ["value", "low", "high"]
/-! is_from: 0 value, 1 low, 2 high -/
theorem sc_is_from : FnScope n_is_from ["value", "low", "high"] (defScope s_is_from) := ⟨rfl, rfl, rfl, by decide +kernel, rfl, by decide +kernel, by decide +kernel⟩
abbrev s_greatest : Stmt := topS 14
abbrev n_greatest : List Str := ["weights"]
/-! greatest: 0 weights -/
theorem sc_greatest : FnScope n_greatest ["weights"] (defScope s_greatest) := ⟨rfl, rfl, rfl, by decide +kernel, rfl, by decide +kernel, by decide +kernel⟩
abbrev s_by_number : Stmt := topS 15
abbrev n_by_number : List Str := ["weights", "number", "left", "letter"]
/-! by_number: 0 weights, 1 number, 2 left, 3 letter -/
theorem sc_by_number : FnScope n_by_number ["weights", "number"] (defScope s_by_number) := ⟨rfl, rfl, rfl, by decide +kernel, rfl, by decide +kernel, by decide +kernel⟩
abbrev s_Rule___init__ : Stmt := inClass (topS 19) 0
abbrev n_Rule___init__ : List Str := ["self", "start", "steps", "row"]
/-! Rule.__init__: 0 self, 1 start, 2 steps, 3 row -/
theorem sc_Rule___init__ : FnScope n_Rule___init__ ["self", "start", "steps"] (defScope s_Rule___init__) := ⟨rfl, rfl, rfl, by decide +kernel, rfl, by decide +kernel, by decide +kernel⟩
abbrev s_Rule_after : Stmt := inClass (topS 19) 1
abbrev n_Rule_after : List Str := ["self", "text", "state", "letter"]
/-! Rule.after: 0 self, 1 text, 2 state, 3 letter -/
theorem sc_Rule_after : FnScope n_Rule_after ["self", "text"] (defScope s_Rule_after) := ⟨rfl, rfl, rfl, by decide +kernel, rfl, by decide +kernel, by decide +kernel⟩
abbrev s_Rule_lets : Stmt := inClass (topS 19) 2
abbrev n_Rule_lets : List Str := ["self", "text", "letter", "state"]
/-! Rule.lets: 0 self, 1 text, 2 letter, 3 state -/
theorem sc_Rule_lets : FnScope n_Rule_lets ["self", "text", "letter"] (defScope s_Rule_lets) := ⟨rfl, rfl, rfl, by decide +kernel, rfl, by decide +kernel, by decide +kernel⟩
abbrev s_Rule___eq__ : Stmt := inClass (topS 19) 3
abbrev n_Rule___eq__ : List Str := ["self", "other"]
/-! Rule.__eq__: 0 self, 1 other -/
theorem sc_Rule___eq__ : FnScope n_Rule___eq__ ["self", "other"] (defScope s_Rule___eq__) := ⟨rfl, rfl, rfl, by decide +kernel, rfl, by decide +kernel, by decide +kernel⟩
abbrev s_Ask___init__ : Stmt := inClass (topS 17) 0
abbrev n_Ask___init__ : List Str := ["self", "prompt", "most", "stops", "tape", "rule", "stop"]
/-! Ask.__init__: 0 self, 1 prompt, 2 most, 3 stops, 4 tape, 5 rule, 6 stop -/
theorem sc_Ask___init__ : FnScope n_Ask___init__ ["self", "prompt", "most", "stops", "tape", "rule"] (defScope s_Ask___init__) := ⟨rfl, rfl, rfl, by decide +kernel, rfl, by decide +kernel, by decide +kernel⟩
abbrev s_Ask_counted : Stmt := inClass (topS 17) 2
abbrev n_Ask_counted : List Str := ["self", "weights", "text", "letter", "weight"]
/-! Ask.counted: 0 self, 1 weights, 2 text, 3 letter, 4 weight -/
theorem sc_Ask_counted : FnScope n_Ask_counted ["self", "weights", "text"] (defScope s_Ask_counted) := ⟨rfl, rfl, rfl, by decide +kernel, rfl, by decide +kernel, by decide +kernel⟩
abbrev s_Ask_choice : Stmt := inClass (topS 17) 1
abbrev n_Ask_choice : List Str := ["self", "weights", "text", "counted"]
/-! Ask.choice: 0 self, 1 weights, 2 text, 3 counted -/
theorem sc_Ask_choice : FnScope n_Ask_choice ["self", "weights", "text"] (defScope s_Ask_choice) := ⟨rfl, rfl, rfl, by decide +kernel, rfl, by decide +kernel, by decide +kernel⟩
abbrev s__law_numbers : Stmt := topS 21
abbrev n__law_numbers : List Str := ["cell", "at", "many", "great", "rest", "numbers", "k", "mixed"]
/-! _law_numbers: 0 cell, 1 at, 2 many, 3 great, 4 rest, 5 numbers, 6 k, 7 mixed -/
theorem sc__law_numbers : FnScope n__law_numbers ["cell", "at", "many"] (defScope s__law_numbers) := ⟨rfl, rfl, rfl, by decide +kernel, rfl, by decide +kernel, by decide +kernel⟩
abbrev s__law_same : Stmt := topS 22
abbrev n__law_same : List Str := ["actual", "expected", "k"]
/-! _law_same: 0 actual, 1 expected, 2 k -/
theorem sc__law_same : FnScope n__law_same ["actual", "expected"] (defScope s__law_same) := ⟨rfl, rfl, rfl, by decide +kernel, rfl, by decide +kernel, by decide +kernel⟩
abbrev s__law_after : Stmt := topS 23
abbrev n__law_after : List Str := ["rule", "text", "state", "letter"]
/-! _law_after: 0 rule, 1 text, 2 state, 3 letter -/
theorem sc__law_after : FnScope n__law_after ["rule", "text"] (defScope s__law_after) := ⟨rfl, rfl, rfl, by decide +kernel, rfl, by decide +kernel, by decide +kernel⟩
abbrev s__law_counted : Stmt := topS 24
abbrev n__law_counted : List Str := ["weights", "rule", "text", "counted", "state", "letter"]
/-! _law_counted: 0 weights, 1 rule, 2 text, 3 counted, 4 state, 5 letter -/
theorem sc__law_counted : FnScope n__law_counted ["weights", "rule", "text"] (defScope s__law_counted) := ⟨rfl, rfl, rfl, by decide +kernel, rfl, by decide +kernel, by decide +kernel⟩
abbrev s__law_choice : Stmt := topS 25
abbrev n__law_choice : List Str := ["weights", "rule", "tape", "text", "counted", "rest", "letter", "k"]
/-! _law_choice: 0 weights, 1 rule, 2 tape, 3 text, 4 counted, 5 rest, 6 letter, 7 k -/
theorem sc__law_choice : FnScope n__law_choice ["weights", "rule", "tape", "text"] (defScope s__law_choice) := ⟨rfl, rfl, rfl, by decide +kernel, rfl, by decide +kernel, by decide +kernel⟩
abbrev s__law_rule : Stmt := topS 26
abbrev n__law_rule : List Str := ["numbers", "k", "letters", "states", "steps", "state", "row", "letter", "seed"]
/-! _law_rule: 0 numbers, 1 k, 2 letters, 3 states, 4 steps, 5 state, 6 row, 7 letter, 8 seed -/
theorem sc__law_rule : FnScope n__law_rule ["numbers", "k", "letters"] (defScope s__law_rule) := ⟨rfl, rfl, rfl, by decide +kernel, rfl, by decide +kernel, by decide +kernel⟩
abbrev s__law_stops : Stmt := topS 27
abbrev n__law_stops : List Str := ["numbers", "k", "letters", "stops", "j", "stop", "i"]
/-! _law_stops: 0 numbers, 1 k, 2 letters, 3 stops, 4 j, 5 stop, 6 i -/
theorem sc__law_stops : FnScope n__law_stops ["numbers", "k", "letters"] (defScope s__law_stops) := ⟨rfl, rfl, rfl, by decide +kernel, rfl, by decide +kernel, by decide +kernel⟩
abbrev s__law_tape : Stmt := topS 28
abbrev n__law_tape : List Str := ["numbers", "k", "tape", "j"]
/-! _law_tape: 0 numbers, 1 k, 2 tape, 3 j -/
theorem sc__law_tape : FnScope n__law_tape ["numbers", "k"] (defScope s__law_tape) := ⟨rfl, rfl, rfl, by decide +kernel, rfl, by decide +kernel, by decide +kernel⟩
abbrev s__law_made : Stmt := topS 29
abbrev n__law_made : List Str := ["prompt", "most", "stops", "tape", "rule", "short"]
/-! _law_made: 0 prompt, 1 most, 2 stops, 3 tape, 4 rule, 5 short -/
theorem sc__law_made : FnScope n__law_made ["prompt", "most", "stops", "tape", "rule", "short"] (defScope s__law_made) := ⟨rfl, rfl, rfl, by decide +kernel, rfl, by decide +kernel, by decide +kernel⟩
abbrev s__law_refuses : Stmt := topS 30
abbrev n__law_refuses : List Str := ["prompt", "most", "kinds", "e"]
/-! _law_refuses: 0 prompt, 1 most, 2 kinds, 3 e -/
theorem sc__law_refuses : FnScope n__law_refuses ["prompt", "most"] (defScope s__law_refuses) := ⟨rfl, rfl, rfl, by decide +kernel, rfl, by decide +kernel, by decide +kernel⟩
abbrev s__law_chosen : Stmt := topS 31
abbrev n__law_chosen : List Str := ["ask", "numbers", "letters", "rule", "tape", "turn", "weights", "k", "seed", "long", "text", "due", "handed"]
/-! _law_chosen: 0 ask, 1 numbers, 2 letters, 3 rule, 4 tape, 5 turn, 6 weights, 7 k, 8 seed, 9 long, 10 text, 11 due, 12 handed -/
theorem sc__law_chosen : FnScope n__law_chosen ["ask", "numbers", "letters", "rule", "tape"] (defScope s__law_chosen) := ⟨rfl, rfl, rfl, by decide +kernel, rfl, by decide +kernel, by decide +kernel⟩
abbrev s_law : Stmt := topS 32
abbrev n_law : List Str := ["script", "at", "numbers", "letters", "prompt", "most", "stops", "tape", "rule", "drawn", "handed", "copies", "ask", "odds", "k", "stop"]
/-! law: 0 script, 1 at, 2 numbers, 3 letters, 4 prompt, 5 most, 6 stops, 7 tape, 8 rule, 9 drawn, 10 handed, 11 copies, 12 ask, 13 odds, 14 k, 15 stop -/
theorem sc_law : FnScope n_law ["script"] (defScope s_law) := ⟨rfl, rfl, rfl, by decide +kernel, rfl, by decide +kernel, by decide +kernel⟩
abbrev s_XInvalidNumber : Stmt := inClass (topS 5) 0
theorem ex_InvalidNumber : ∃ p1 p2 q1 q2 q3 q4, defArgs s_XInvalidNumber = PySem.EXnumber.arA p1 p2 ∧ defBody s_XInvalidNumber = PySem.EXnumber.boB q1 q2 q3 q4 ∧ defScope s_XInvalidNumber = PySem.EXnumber.scS := ⟨_, _, _, _, _, _, rfl, rfl, rfl⟩
open AU (Odd isIntD isFromD OddS oddS_int oddS_lt)
open AQ
open AP (ptrs sameR eqv_bool od_eqB od_neB pickF okE_op)
def C_law : Contract := fun ds O R _ => ∃ ns : List Int, ds = [.scr (ns.map .int)] ∧ ns.length ≤ 63 ∧ NoLstO O ∧ ∀ O', R O' (.bl true)
theorem start_law (ns : List Int) (h : ns.length ≤ 63) (X : XO) : C_law [.scr (ns.map .int)] [] (fun _ d => d = .bl true) X := ⟨ns, rfl, h, NoLstO.nil, fun _ => rfl⟩
theorem len_law : ∀ ds O R X, C_law ds O R X → ds.length = 1 := fun _ _ _ _ h => by obtain ⟨_, rfl, _⟩ := h; rfl
def C__law_made (CA CR : Addr) : Contract := fun ds O R _ => ∃ (dp dst dtp : D) (r : Option RuleM) (b : Bool) (m : Nat) (P T rows : List D) (S : List (List D)), ds = [dp, .int (m : Nat), dst, dtp, dRu CR r, .bl b] ∧ SeqO O dp P ∧ SeqO O dst rows ∧ RowsD O rows S ∧ SeqO O dtp T ∧ S.length ≤ 100 ∧ 1 ≤ m ∧ m ≤ 30 ∧ R (O ++ [.gone]) (.obj CA (askX P (.int (m : Nat)) S T (dRu CR r)))
theorem len__law_made {CA CR : Addr} : ∀ ds O R X, C__law_made CA CR ds O R X → ds.length = 6 := fun _ _ _ _ h => by obtain ⟨_, _, _, _, _, _, _, _, _, _, rfl, _⟩ := h; rfl
def C__law_refuses (CA : Addr) : Contract := fun ds O R _ => ∃ (p : List Nat) (dm : D), ds = [dTx p, dm] ∧ OddS dm ∧ isFromD dm 1 30 = false ∧ R (O ++ [.ins CA []]) (.bl true)
theorem len__law_refuses {CA : Addr} : ∀ ds O R X, C__law_refuses CA ds O R X → ds.length = 2 := fun _ _ _ _ h => by obtain ⟨_, _, rfl, _⟩ := h; rfl
def C__law_chosen (CA CR : Addr) : Contract := fun ds O R _ => ∃ (a : AskM) (ns : List Int) (L : Nat), ds = [dAsk CA CR a, .lst (ns.map .int), .int (L : Nat), dRuT a.rule, .tup (a.tape.map .int)] ∧ AllN ns ∧ 0 < ns.length ∧ 30 ≤ ns.length ∧ ns.length ≤ 1000 ∧ 0 < L ∧ L ≤ 12 ∧ (∀ r, a.rule = some r → WfRu L r) ∧ a.tape.length ≤ 100 ∧ NoLstO O ∧ R O (.bl true)
theorem len__law_chosen {CA CR : Addr} : ∀ ds O R X, C__law_chosen CA CR ds O R X → ds.length = 5 := fun _ _ _ _ h => by obtain ⟨_, _, _, rfl, _⟩ := h; rfl

structure TD_is_integer (K : PySem.W.Frag) (mg : Str → Option Value) where
  a : Addr
  fd : FuncData
  F : Fun K "is_integer" "is_integer" s_is_integer a fd
  b : Binds K fd ["value"] []
  g : mg "is_integer" = some (.ref a)
structure TD_is_from (K : PySem.W.Frag) (mg : Str → Option Value) where
  a : Addr
  fd : FuncData
  F : Fun K "is_from" "is_from" s_is_from a fd
  b : Binds K fd ["value", "low", "high"] []
  g : mg "is_from" = some (.ref a)
structure TD_greatest (K : PySem.W.Frag) (mg : Str → Option Value) where
  a : Addr
  fd : FuncData
  F : Fun K "greatest" "greatest" s_greatest a fd
  b : Binds K fd ["weights"] []
  g : mg "greatest" = some (.ref a)
structure TD_by_number (K : PySem.W.Frag) (mg : Str → Option Value) where
  a : Addr
  fd : FuncData
  F : Fun K "by_number" "by_number" s_by_number a fd
  b : Binds K fd ["weights", "number"] []
  g : mg "by_number" = some (.ref a)
structure TD_Rule___init__ (K : PySem.W.Frag) (mg : Str → Option Value) where
  a : Addr
  fd : FuncData
  F : Fun K "__init__" "Rule.__init__" s_Rule___init__ a fd
  b : Binds K fd ["self", "start", "steps"] []
structure TD_Rule_after (K : PySem.W.Frag) (mg : Str → Option Value) where
  a : Addr
  fd : FuncData
  F : Fun K "after" "Rule.after" s_Rule_after a fd
  b : Binds K fd ["self", "text"] []
structure TD_Rule_lets (K : PySem.W.Frag) (mg : Str → Option Value) where
  a : Addr
  fd : FuncData
  F : Fun K "lets" "Rule.lets" s_Rule_lets a fd
  b : Binds K fd ["self", "text", "letter"] []
structure TD_Rule___eq__ (K : PySem.W.Frag) (mg : Str → Option Value) where
  a : Addr
  fd : FuncData
  F : Fun K "__eq__" "Rule.__eq__" s_Rule___eq__ a fd
  b : Binds K fd ["self", "other"] []
structure TD_Ask___init__ (K : PySem.W.Frag) (mg : Str → Option Value) where
  a : Addr
  fd : FuncData
  F : Fun K "__init__" "Ask.__init__" s_Ask___init__ a fd
  kT_stops : Addr
  kt_stops : PTup K (fun _ => none) kT_stops []
  kT_tape : Addr
  kt_tape : PTup K (fun _ => none) kT_tape []
  ds : List Value
  v : Vals (([("stops", .ref kT_stops), ("tape", .ref kT_tape), ("rule", .non)] : List (Str × V)).map Prod.snd) ds
  b : Binds K fd ["self", "prompt", "most", "stops", "tape", "rule"] ds
  kb_0 : ∃ mv : List Value, KBn K fd ["self", "prompt", "most", "stops", "tape", "rule"] 3 ["stops", "tape", "rule"] (fun vs zs => vs ++ zs) (fun vs zs => vs ++ zs)
  kb_1 : ∃ mv : List Value, KBn K fd ["self", "prompt", "most", "stops", "tape", "rule"] 3 ["tape"] (fun vs zs => vs ++ ((mv.drop 0).take 1 ++ (zs.drop 0).take 1 ++ (mv.drop 1).take 1)) (fun vs zs => vs ++ ((([.ref kT_stops, .non] : List V).drop 0).take 1 ++ (zs.drop 0).take 1 ++ (([.ref kT_stops, .non] : List V).drop 1).take 1))
  kb_2 : ∃ mv : List Value, KBn K fd ["self", "prompt", "most", "stops", "tape", "rule"] 3 ["stops"] (fun vs zs => vs ++ ((zs.drop 0).take 1 ++ (mv.drop 0).take 1 ++ (mv.drop 1).take 1)) (fun vs zs => vs ++ ((zs.drop 0).take 1 ++ (([.ref kT_tape, .non] : List V).drop 0).take 1 ++ (([.ref kT_tape, .non] : List V).drop 1).take 1))
structure TD_Ask_counted (K : PySem.W.Frag) (mg : Str → Option Value) where
  a : Addr
  fd : FuncData
  F : Fun K "counted" "Ask.counted" s_Ask_counted a fd
  b : Binds K fd ["self", "weights", "text"] []
structure TD_Ask_choice (K : PySem.W.Frag) (mg : Str → Option Value) where
  a : Addr
  fd : FuncData
  F : Fun K "choice" "Ask.choice" s_Ask_choice a fd
  b : Binds K fd ["self", "weights", "text"] []
structure TD__law_numbers (K : PySem.W.Frag) (mg : Str → Option Value) where
  a : Addr
  fd : FuncData
  F : Fun K "_law_numbers" "_law_numbers" s__law_numbers a fd
  b : Binds K fd ["cell", "at", "many"] []
  g : mg "_law_numbers" = some (.ref a)
structure TD__law_same (K : PySem.W.Frag) (mg : Str → Option Value) where
  a : Addr
  fd : FuncData
  F : Fun K "_law_same" "_law_same" s__law_same a fd
  b : Binds K fd ["actual", "expected"] []
  g : mg "_law_same" = some (.ref a)
structure TD__law_after (K : PySem.W.Frag) (mg : Str → Option Value) where
  a : Addr
  fd : FuncData
  F : Fun K "_law_after" "_law_after" s__law_after a fd
  b : Binds K fd ["rule", "text"] []
  g : mg "_law_after" = some (.ref a)
structure TD__law_counted (K : PySem.W.Frag) (mg : Str → Option Value) where
  a : Addr
  fd : FuncData
  F : Fun K "_law_counted" "_law_counted" s__law_counted a fd
  b : Binds K fd ["weights", "rule", "text"] []
  g : mg "_law_counted" = some (.ref a)
structure TD__law_choice (K : PySem.W.Frag) (mg : Str → Option Value) where
  a : Addr
  fd : FuncData
  F : Fun K "_law_choice" "_law_choice" s__law_choice a fd
  b : Binds K fd ["weights", "rule", "tape", "text"] []
  g : mg "_law_choice" = some (.ref a)
structure TD__law_rule (K : PySem.W.Frag) (mg : Str → Option Value) where
  a : Addr
  fd : FuncData
  F : Fun K "_law_rule" "_law_rule" s__law_rule a fd
  b : Binds K fd ["numbers", "k", "letters"] []
  g : mg "_law_rule" = some (.ref a)
structure TD__law_stops (K : PySem.W.Frag) (mg : Str → Option Value) where
  a : Addr
  fd : FuncData
  F : Fun K "_law_stops" "_law_stops" s__law_stops a fd
  b : Binds K fd ["numbers", "k", "letters"] []
  g : mg "_law_stops" = some (.ref a)
structure TD__law_tape (K : PySem.W.Frag) (mg : Str → Option Value) where
  a : Addr
  fd : FuncData
  F : Fun K "_law_tape" "_law_tape" s__law_tape a fd
  b : Binds K fd ["numbers", "k"] []
  g : mg "_law_tape" = some (.ref a)
structure TD__law_made (K : PySem.W.Frag) (mg : Str → Option Value) where
  a : Addr
  fd : FuncData
  F : Fun K "_law_made" "_law_made" s__law_made a fd
  b : Binds K fd ["prompt", "most", "stops", "tape", "rule", "short"] []
  g : mg "_law_made" = some (.ref a)
structure TD__law_refuses (K : PySem.W.Frag) (mg : Str → Option Value) where
  a : Addr
  fd : FuncData
  F : Fun K "_law_refuses" "_law_refuses" s__law_refuses a fd
  b : Binds K fd ["prompt", "most"] []
  g : mg "_law_refuses" = some (.ref a)
structure TD__law_chosen (K : PySem.W.Frag) (mg : Str → Option Value) where
  a : Addr
  fd : FuncData
  F : Fun K "_law_chosen" "_law_chosen" s__law_chosen a fd
  b : Binds K fd ["ask", "numbers", "letters", "rule", "tape"] []
  g : mg "_law_chosen" = some (.ref a)
structure TD_law (K : PySem.W.Frag) (mg : Str → Option Value) where
  a : Addr
  fd : FuncData
  F : Fun K "law" "law" s_law a fd
  b : Binds K fd ["script"] []
  g : mg "law" = some (.ref a)
structure TC_Ask (K : PySem.W.Frag) (mg : Str → Option Value) where
  aC : Addr
  cl : Cls K aC
  mgC : mg "Ask" = some (.ref aC)
  nA_most : NoAttr K aC "most"
  nA_prompt : NoAttr K aC "prompt"
  nA_rule : NoAttr K aC "rule"
  nA_stops : NoAttr K aC "stops"
  nA_tape : NoAttr K aC "tape"
structure TC_Rule (K : PySem.W.Frag) (mg : Str → Option Value) where
  aC : Addr
  cl : Cls K aC
  mgC : mg "Rule" = some (.ref aC)
  nA_start : NoAttr K aC "start"
  nA_steps : NoAttr K aC "steps"
structure TE_InvalidLetter (K : PySem.W.Frag) (mg : Str → Option Value) where
  aC : Addr
  mgC : mg "InvalidLetter" = some (.ref aC)
structure TE_InvalidNumber (K : PySem.W.Frag) (mg : Str → Option Value) where
  aC : Addr
  mgC : mg "InvalidNumber" = some (.ref aC)
  fI : Addr
  tx : PySem.EXnumber.Txt K mg "InvalidNumber" "InvalidNumber.__init__" aC fI
  xc : ExC K aC
  xf : XfC K aC
  nf : PySem.W.findIn K (.ref aC) "number" = some none
structure TE_NoHouse (K : PySem.W.Frag) (mg : Str → Option Value) where
  aC : Addr
  mgC : mg "NoHouse" = some (.ref aC)
structure TE_NoRequest (K : PySem.W.Frag) (mg : Str → Option Value) where
  aC : Addr
  mgC : mg "NoRequest" = some (.ref aC)
structure TE_NoRoom (K : PySem.W.Frag) (mg : Str → Option Value) where
  aC : Addr
  mgC : mg "NoRoom" = some (.ref aC)
structure TE_NotAlone (K : PySem.W.Frag) (mg : Str → Option Value) where
  aC : Addr
  mgC : mg "NotAlone" = some (.ref aC)
structure TE_NotHeld (K : PySem.W.Frag) (mg : Str → Option Value) where
  aC : Addr
  mgC : mg "NotHeld" = some (.ref aC)
structure TE_ServeError (K : PySem.W.Frag) (mg : Str → Option Value) where
  aC : Addr
  mgC : mg "ServeError" = some (.ref aC)
structure TE_TooLarge (K : PySem.W.Frag) (mg : Str → Option Value) where
  aC : Addr
  mgC : mg "TooLarge" = some (.ref aC)
set_option maxHeartbeats 0 in
structure Tx (K : PySem.W.Frag) (mg : Str → Option Value) where
  d_is_integer : TD_is_integer K mg
  d_is_from : TD_is_from K mg
  d_greatest : TD_greatest K mg
  d_by_number : TD_by_number K mg
  d_Rule___init__ : TD_Rule___init__ K mg
  d_Rule_after : TD_Rule_after K mg
  d_Rule_lets : TD_Rule_lets K mg
  d_Rule___eq__ : TD_Rule___eq__ K mg
  d_Ask___init__ : TD_Ask___init__ K mg
  d_Ask_counted : TD_Ask_counted K mg
  d_Ask_choice : TD_Ask_choice K mg
  d__law_numbers : TD__law_numbers K mg
  d__law_same : TD__law_same K mg
  d__law_after : TD__law_after K mg
  d__law_counted : TD__law_counted K mg
  d__law_choice : TD__law_choice K mg
  d__law_rule : TD__law_rule K mg
  d__law_stops : TD__law_stops K mg
  d__law_tape : TD__law_tape K mg
  d__law_made : TD__law_made K mg
  d__law_refuses : TD__law_refuses K mg
  d__law_chosen : TD__law_chosen K mg
  d_law : TD_law K mg
  m_ValueError : mg "ValueError" = none
  m_abs : mg "abs" = none
  m_bool : mg "bool" = none
  m_enumerate : mg "enumerate" = none
  m_int : mg "int" = none
  m_isinstance : mg "isinstance" = none
  m_len : mg "len" = none
  m_list : mg "list" = none
  m_max : mg "max" = none
  m_min : mg "min" = none
  m_range : mg "range" = none
  m_repr : mg "repr" = none
  m_str : mg "str" = none
  m_sum : mg "sum" = none
  m_tuple : mg "tuple" = none
  c_Ask : TC_Ask K mg
  mk_Ask : Mk K c_Ask.aC d_Ask___init__.a
  c_Rule : TC_Rule K mg
  mk_Rule : Mk K c_Rule.aC d_Rule___init__.a
  e_InvalidLetter : TE_InvalidLetter K mg
  e_InvalidNumber : TE_InvalidNumber K mg
  e_NoHouse : TE_NoHouse K mg
  e_NoRequest : TE_NoRequest K mg
  e_NoRoom : TE_NoRoom K mg
  e_NotAlone : TE_NotAlone K mg
  e_NotHeld : TE_NotHeld K mg
  e_ServeError : TE_ServeError K mg
  e_TooLarge : TE_TooLarge K mg
  em_InvalidNumber : PySem.W.exmOne K (.ref e_InvalidNumber.aC) (.ref e_ServeError.aC) = some true
  kv_InvalidNumber : PySem.W.kitOne K (.ref e_InvalidNumber.aC) (.type "ValueError") = some true
  ko_InvalidNumber_InvalidLetter : PySem.W.kitOne K (.ref e_InvalidNumber.aC) (.ref e_InvalidLetter.aC) = some false
  ko_InvalidNumber_InvalidNumber : PySem.W.kitOne K (.ref e_InvalidNumber.aC) (.ref e_InvalidNumber.aC) = some true
  ko_InvalidNumber_NoHouse : PySem.W.kitOne K (.ref e_InvalidNumber.aC) (.ref e_NoHouse.aC) = some false
  ko_InvalidNumber_NoRequest : PySem.W.kitOne K (.ref e_InvalidNumber.aC) (.ref e_NoRequest.aC) = some false
  ko_InvalidNumber_NoRoom : PySem.W.kitOne K (.ref e_InvalidNumber.aC) (.ref e_NoRoom.aC) = some false
  ko_InvalidNumber_NotAlone : PySem.W.kitOne K (.ref e_InvalidNumber.aC) (.ref e_NotAlone.aC) = some false
  ko_InvalidNumber_NotHeld : PySem.W.kitOne K (.ref e_InvalidNumber.aC) (.ref e_NotHeld.aC) = some false
  ko_InvalidNumber_ServeError : PySem.W.kitOne K (.ref e_InvalidNumber.aC) (.ref e_ServeError.aC) = some true
  ko_InvalidNumber_TooLarge : PySem.W.kitOne K (.ref e_InvalidNumber.aC) (.ref e_TooLarge.aC) = some false
  meth_Ask_choice : Meth K c_Ask.aC "choice" d_Ask_choice.a
  meth_Ask_counted : Meth K c_Ask.aC "counted" d_Ask_counted.a
  meth_Rule___eq__ : Meth K c_Rule.aC "__eq__" d_Rule___eq__.a
  meth_Rule_after : Meth K c_Rule.aC "after" d_Rule_after.a
  meth_Rule_lets : Meth K c_Rule.aC "lets" d_Rule_lets.a
  ic_Rule : IsC K c_Rule.aC
  nb_Rule : NoB K c_Rule.aC
abbrev Tx.a_is_integer {K : PySem.W.Frag} {mg : Str → Option Value} (T : Tx K mg) : Addr := T.d_is_integer.a
abbrev Tx.fd_is_integer {K : PySem.W.Frag} {mg : Str → Option Value} (T : Tx K mg) : FuncData := T.d_is_integer.fd
theorem Tx.F_is_integer {K : PySem.W.Frag} {mg : Str → Option Value} (T : Tx K mg) : Fun K "is_integer" "is_integer" s_is_integer T.a_is_integer T.fd_is_integer := T.d_is_integer.F
theorem Tx.b_is_integer {K : PySem.W.Frag} {mg : Str → Option Value} (T : Tx K mg) : Binds K T.fd_is_integer ["value"] [] := T.d_is_integer.b
theorem Tx.g_is_integer {K : PySem.W.Frag} {mg : Str → Option Value} (T : Tx K mg) : mg "is_integer" = some (.ref T.a_is_integer) := T.d_is_integer.g
abbrev Tx.a_is_from {K : PySem.W.Frag} {mg : Str → Option Value} (T : Tx K mg) : Addr := T.d_is_from.a
abbrev Tx.fd_is_from {K : PySem.W.Frag} {mg : Str → Option Value} (T : Tx K mg) : FuncData := T.d_is_from.fd
theorem Tx.F_is_from {K : PySem.W.Frag} {mg : Str → Option Value} (T : Tx K mg) : Fun K "is_from" "is_from" s_is_from T.a_is_from T.fd_is_from := T.d_is_from.F
theorem Tx.b_is_from {K : PySem.W.Frag} {mg : Str → Option Value} (T : Tx K mg) : Binds K T.fd_is_from ["value", "low", "high"] [] := T.d_is_from.b
theorem Tx.g_is_from {K : PySem.W.Frag} {mg : Str → Option Value} (T : Tx K mg) : mg "is_from" = some (.ref T.a_is_from) := T.d_is_from.g
abbrev Tx.a_greatest {K : PySem.W.Frag} {mg : Str → Option Value} (T : Tx K mg) : Addr := T.d_greatest.a
abbrev Tx.fd_greatest {K : PySem.W.Frag} {mg : Str → Option Value} (T : Tx K mg) : FuncData := T.d_greatest.fd
theorem Tx.F_greatest {K : PySem.W.Frag} {mg : Str → Option Value} (T : Tx K mg) : Fun K "greatest" "greatest" s_greatest T.a_greatest T.fd_greatest := T.d_greatest.F
theorem Tx.b_greatest {K : PySem.W.Frag} {mg : Str → Option Value} (T : Tx K mg) : Binds K T.fd_greatest ["weights"] [] := T.d_greatest.b
theorem Tx.g_greatest {K : PySem.W.Frag} {mg : Str → Option Value} (T : Tx K mg) : mg "greatest" = some (.ref T.a_greatest) := T.d_greatest.g
abbrev Tx.a_by_number {K : PySem.W.Frag} {mg : Str → Option Value} (T : Tx K mg) : Addr := T.d_by_number.a
abbrev Tx.fd_by_number {K : PySem.W.Frag} {mg : Str → Option Value} (T : Tx K mg) : FuncData := T.d_by_number.fd
theorem Tx.F_by_number {K : PySem.W.Frag} {mg : Str → Option Value} (T : Tx K mg) : Fun K "by_number" "by_number" s_by_number T.a_by_number T.fd_by_number := T.d_by_number.F
theorem Tx.b_by_number {K : PySem.W.Frag} {mg : Str → Option Value} (T : Tx K mg) : Binds K T.fd_by_number ["weights", "number"] [] := T.d_by_number.b
theorem Tx.g_by_number {K : PySem.W.Frag} {mg : Str → Option Value} (T : Tx K mg) : mg "by_number" = some (.ref T.a_by_number) := T.d_by_number.g
abbrev Tx.a_Rule___init__ {K : PySem.W.Frag} {mg : Str → Option Value} (T : Tx K mg) : Addr := T.d_Rule___init__.a
abbrev Tx.fd_Rule___init__ {K : PySem.W.Frag} {mg : Str → Option Value} (T : Tx K mg) : FuncData := T.d_Rule___init__.fd
theorem Tx.F_Rule___init__ {K : PySem.W.Frag} {mg : Str → Option Value} (T : Tx K mg) : Fun K "__init__" "Rule.__init__" s_Rule___init__ T.a_Rule___init__ T.fd_Rule___init__ := T.d_Rule___init__.F
theorem Tx.b_Rule___init__ {K : PySem.W.Frag} {mg : Str → Option Value} (T : Tx K mg) : Binds K T.fd_Rule___init__ ["self", "start", "steps"] [] := T.d_Rule___init__.b
abbrev Tx.a_Rule_after {K : PySem.W.Frag} {mg : Str → Option Value} (T : Tx K mg) : Addr := T.d_Rule_after.a
abbrev Tx.fd_Rule_after {K : PySem.W.Frag} {mg : Str → Option Value} (T : Tx K mg) : FuncData := T.d_Rule_after.fd
theorem Tx.F_Rule_after {K : PySem.W.Frag} {mg : Str → Option Value} (T : Tx K mg) : Fun K "after" "Rule.after" s_Rule_after T.a_Rule_after T.fd_Rule_after := T.d_Rule_after.F
theorem Tx.b_Rule_after {K : PySem.W.Frag} {mg : Str → Option Value} (T : Tx K mg) : Binds K T.fd_Rule_after ["self", "text"] [] := T.d_Rule_after.b
abbrev Tx.a_Rule_lets {K : PySem.W.Frag} {mg : Str → Option Value} (T : Tx K mg) : Addr := T.d_Rule_lets.a
abbrev Tx.fd_Rule_lets {K : PySem.W.Frag} {mg : Str → Option Value} (T : Tx K mg) : FuncData := T.d_Rule_lets.fd
theorem Tx.F_Rule_lets {K : PySem.W.Frag} {mg : Str → Option Value} (T : Tx K mg) : Fun K "lets" "Rule.lets" s_Rule_lets T.a_Rule_lets T.fd_Rule_lets := T.d_Rule_lets.F
theorem Tx.b_Rule_lets {K : PySem.W.Frag} {mg : Str → Option Value} (T : Tx K mg) : Binds K T.fd_Rule_lets ["self", "text", "letter"] [] := T.d_Rule_lets.b
abbrev Tx.a_Rule___eq__ {K : PySem.W.Frag} {mg : Str → Option Value} (T : Tx K mg) : Addr := T.d_Rule___eq__.a
abbrev Tx.fd_Rule___eq__ {K : PySem.W.Frag} {mg : Str → Option Value} (T : Tx K mg) : FuncData := T.d_Rule___eq__.fd
theorem Tx.F_Rule___eq__ {K : PySem.W.Frag} {mg : Str → Option Value} (T : Tx K mg) : Fun K "__eq__" "Rule.__eq__" s_Rule___eq__ T.a_Rule___eq__ T.fd_Rule___eq__ := T.d_Rule___eq__.F
theorem Tx.b_Rule___eq__ {K : PySem.W.Frag} {mg : Str → Option Value} (T : Tx K mg) : Binds K T.fd_Rule___eq__ ["self", "other"] [] := T.d_Rule___eq__.b
abbrev Tx.a_Ask___init__ {K : PySem.W.Frag} {mg : Str → Option Value} (T : Tx K mg) : Addr := T.d_Ask___init__.a
abbrev Tx.fd_Ask___init__ {K : PySem.W.Frag} {mg : Str → Option Value} (T : Tx K mg) : FuncData := T.d_Ask___init__.fd
theorem Tx.F_Ask___init__ {K : PySem.W.Frag} {mg : Str → Option Value} (T : Tx K mg) : Fun K "__init__" "Ask.__init__" s_Ask___init__ T.a_Ask___init__ T.fd_Ask___init__ := T.d_Ask___init__.F
abbrev Tx.kT_Ask___init___stops {K : PySem.W.Frag} {mg : Str → Option Value} (T : Tx K mg) : Addr := T.d_Ask___init__.kT_stops
theorem Tx.kt_Ask___init___stops {K : PySem.W.Frag} {mg : Str → Option Value} (T : Tx K mg) : PTup K (fun _ => none) T.kT_Ask___init___stops [] := T.d_Ask___init__.kt_stops
abbrev Tx.kT_Ask___init___tape {K : PySem.W.Frag} {mg : Str → Option Value} (T : Tx K mg) : Addr := T.d_Ask___init__.kT_tape
theorem Tx.kt_Ask___init___tape {K : PySem.W.Frag} {mg : Str → Option Value} (T : Tx K mg) : PTup K (fun _ => none) T.kT_Ask___init___tape [] := T.d_Ask___init__.kt_tape
abbrev Tx.ds_Ask___init__ {K : PySem.W.Frag} {mg : Str → Option Value} (T : Tx K mg) : List Value := T.d_Ask___init__.ds
theorem Tx.v_Ask___init__ {K : PySem.W.Frag} {mg : Str → Option Value} (T : Tx K mg) : Vals [.ref T.kT_Ask___init___stops, .ref T.kT_Ask___init___tape, .non] T.ds_Ask___init__ := T.d_Ask___init__.v
theorem Tx.b_Ask___init__ {K : PySem.W.Frag} {mg : Str → Option Value} (T : Tx K mg) : Binds K T.fd_Ask___init__ ["self", "prompt", "most", "stops", "tape", "rule"] T.ds_Ask___init__ := T.d_Ask___init__.b
theorem Tx.kb_Ask___init___0 {K : PySem.W.Frag} {mg : Str → Option Value} (T : Tx K mg) : ∃ mv : List Value, KBn K T.fd_Ask___init__ ["self", "prompt", "most", "stops", "tape", "rule"] 3 ["stops", "tape", "rule"] (fun vs zs => vs ++ zs) (fun vs zs => vs ++ zs) := T.d_Ask___init__.kb_0
theorem Tx.kb_Ask___init___1 {K : PySem.W.Frag} {mg : Str → Option Value} (T : Tx K mg) : ∃ mv : List Value, KBn K T.fd_Ask___init__ ["self", "prompt", "most", "stops", "tape", "rule"] 3 ["tape"] (fun vs zs => vs ++ ((mv.drop 0).take 1 ++ (zs.drop 0).take 1 ++ (mv.drop 1).take 1)) (fun vs zs => vs ++ ((([.ref T.kT_Ask___init___stops, .non] : List V).drop 0).take 1 ++ (zs.drop 0).take 1 ++ (([.ref T.kT_Ask___init___stops, .non] : List V).drop 1).take 1)) := T.d_Ask___init__.kb_1
theorem Tx.kb_Ask___init___2 {K : PySem.W.Frag} {mg : Str → Option Value} (T : Tx K mg) : ∃ mv : List Value, KBn K T.fd_Ask___init__ ["self", "prompt", "most", "stops", "tape", "rule"] 3 ["stops"] (fun vs zs => vs ++ ((zs.drop 0).take 1 ++ (mv.drop 0).take 1 ++ (mv.drop 1).take 1)) (fun vs zs => vs ++ ((zs.drop 0).take 1 ++ (([.ref T.kT_Ask___init___tape, .non] : List V).drop 0).take 1 ++ (([.ref T.kT_Ask___init___tape, .non] : List V).drop 1).take 1)) := T.d_Ask___init__.kb_2
abbrev Tx.a_Ask_counted {K : PySem.W.Frag} {mg : Str → Option Value} (T : Tx K mg) : Addr := T.d_Ask_counted.a
abbrev Tx.fd_Ask_counted {K : PySem.W.Frag} {mg : Str → Option Value} (T : Tx K mg) : FuncData := T.d_Ask_counted.fd
theorem Tx.F_Ask_counted {K : PySem.W.Frag} {mg : Str → Option Value} (T : Tx K mg) : Fun K "counted" "Ask.counted" s_Ask_counted T.a_Ask_counted T.fd_Ask_counted := T.d_Ask_counted.F
theorem Tx.b_Ask_counted {K : PySem.W.Frag} {mg : Str → Option Value} (T : Tx K mg) : Binds K T.fd_Ask_counted ["self", "weights", "text"] [] := T.d_Ask_counted.b
abbrev Tx.a_Ask_choice {K : PySem.W.Frag} {mg : Str → Option Value} (T : Tx K mg) : Addr := T.d_Ask_choice.a
abbrev Tx.fd_Ask_choice {K : PySem.W.Frag} {mg : Str → Option Value} (T : Tx K mg) : FuncData := T.d_Ask_choice.fd
theorem Tx.F_Ask_choice {K : PySem.W.Frag} {mg : Str → Option Value} (T : Tx K mg) : Fun K "choice" "Ask.choice" s_Ask_choice T.a_Ask_choice T.fd_Ask_choice := T.d_Ask_choice.F
theorem Tx.b_Ask_choice {K : PySem.W.Frag} {mg : Str → Option Value} (T : Tx K mg) : Binds K T.fd_Ask_choice ["self", "weights", "text"] [] := T.d_Ask_choice.b
abbrev Tx.a__law_numbers {K : PySem.W.Frag} {mg : Str → Option Value} (T : Tx K mg) : Addr := T.d__law_numbers.a
abbrev Tx.fd__law_numbers {K : PySem.W.Frag} {mg : Str → Option Value} (T : Tx K mg) : FuncData := T.d__law_numbers.fd
theorem Tx.F__law_numbers {K : PySem.W.Frag} {mg : Str → Option Value} (T : Tx K mg) : Fun K "_law_numbers" "_law_numbers" s__law_numbers T.a__law_numbers T.fd__law_numbers := T.d__law_numbers.F
theorem Tx.b__law_numbers {K : PySem.W.Frag} {mg : Str → Option Value} (T : Tx K mg) : Binds K T.fd__law_numbers ["cell", "at", "many"] [] := T.d__law_numbers.b
theorem Tx.g__law_numbers {K : PySem.W.Frag} {mg : Str → Option Value} (T : Tx K mg) : mg "_law_numbers" = some (.ref T.a__law_numbers) := T.d__law_numbers.g
abbrev Tx.a__law_same {K : PySem.W.Frag} {mg : Str → Option Value} (T : Tx K mg) : Addr := T.d__law_same.a
abbrev Tx.fd__law_same {K : PySem.W.Frag} {mg : Str → Option Value} (T : Tx K mg) : FuncData := T.d__law_same.fd
theorem Tx.F__law_same {K : PySem.W.Frag} {mg : Str → Option Value} (T : Tx K mg) : Fun K "_law_same" "_law_same" s__law_same T.a__law_same T.fd__law_same := T.d__law_same.F
theorem Tx.b__law_same {K : PySem.W.Frag} {mg : Str → Option Value} (T : Tx K mg) : Binds K T.fd__law_same ["actual", "expected"] [] := T.d__law_same.b
theorem Tx.g__law_same {K : PySem.W.Frag} {mg : Str → Option Value} (T : Tx K mg) : mg "_law_same" = some (.ref T.a__law_same) := T.d__law_same.g
abbrev Tx.a__law_after {K : PySem.W.Frag} {mg : Str → Option Value} (T : Tx K mg) : Addr := T.d__law_after.a
abbrev Tx.fd__law_after {K : PySem.W.Frag} {mg : Str → Option Value} (T : Tx K mg) : FuncData := T.d__law_after.fd
theorem Tx.F__law_after {K : PySem.W.Frag} {mg : Str → Option Value} (T : Tx K mg) : Fun K "_law_after" "_law_after" s__law_after T.a__law_after T.fd__law_after := T.d__law_after.F
theorem Tx.b__law_after {K : PySem.W.Frag} {mg : Str → Option Value} (T : Tx K mg) : Binds K T.fd__law_after ["rule", "text"] [] := T.d__law_after.b
theorem Tx.g__law_after {K : PySem.W.Frag} {mg : Str → Option Value} (T : Tx K mg) : mg "_law_after" = some (.ref T.a__law_after) := T.d__law_after.g
abbrev Tx.a__law_counted {K : PySem.W.Frag} {mg : Str → Option Value} (T : Tx K mg) : Addr := T.d__law_counted.a
abbrev Tx.fd__law_counted {K : PySem.W.Frag} {mg : Str → Option Value} (T : Tx K mg) : FuncData := T.d__law_counted.fd
theorem Tx.F__law_counted {K : PySem.W.Frag} {mg : Str → Option Value} (T : Tx K mg) : Fun K "_law_counted" "_law_counted" s__law_counted T.a__law_counted T.fd__law_counted := T.d__law_counted.F
theorem Tx.b__law_counted {K : PySem.W.Frag} {mg : Str → Option Value} (T : Tx K mg) : Binds K T.fd__law_counted ["weights", "rule", "text"] [] := T.d__law_counted.b
theorem Tx.g__law_counted {K : PySem.W.Frag} {mg : Str → Option Value} (T : Tx K mg) : mg "_law_counted" = some (.ref T.a__law_counted) := T.d__law_counted.g
abbrev Tx.a__law_choice {K : PySem.W.Frag} {mg : Str → Option Value} (T : Tx K mg) : Addr := T.d__law_choice.a
abbrev Tx.fd__law_choice {K : PySem.W.Frag} {mg : Str → Option Value} (T : Tx K mg) : FuncData := T.d__law_choice.fd
theorem Tx.F__law_choice {K : PySem.W.Frag} {mg : Str → Option Value} (T : Tx K mg) : Fun K "_law_choice" "_law_choice" s__law_choice T.a__law_choice T.fd__law_choice := T.d__law_choice.F
theorem Tx.b__law_choice {K : PySem.W.Frag} {mg : Str → Option Value} (T : Tx K mg) : Binds K T.fd__law_choice ["weights", "rule", "tape", "text"] [] := T.d__law_choice.b
theorem Tx.g__law_choice {K : PySem.W.Frag} {mg : Str → Option Value} (T : Tx K mg) : mg "_law_choice" = some (.ref T.a__law_choice) := T.d__law_choice.g
abbrev Tx.a__law_rule {K : PySem.W.Frag} {mg : Str → Option Value} (T : Tx K mg) : Addr := T.d__law_rule.a
abbrev Tx.fd__law_rule {K : PySem.W.Frag} {mg : Str → Option Value} (T : Tx K mg) : FuncData := T.d__law_rule.fd
theorem Tx.F__law_rule {K : PySem.W.Frag} {mg : Str → Option Value} (T : Tx K mg) : Fun K "_law_rule" "_law_rule" s__law_rule T.a__law_rule T.fd__law_rule := T.d__law_rule.F
theorem Tx.b__law_rule {K : PySem.W.Frag} {mg : Str → Option Value} (T : Tx K mg) : Binds K T.fd__law_rule ["numbers", "k", "letters"] [] := T.d__law_rule.b
theorem Tx.g__law_rule {K : PySem.W.Frag} {mg : Str → Option Value} (T : Tx K mg) : mg "_law_rule" = some (.ref T.a__law_rule) := T.d__law_rule.g
abbrev Tx.a__law_stops {K : PySem.W.Frag} {mg : Str → Option Value} (T : Tx K mg) : Addr := T.d__law_stops.a
abbrev Tx.fd__law_stops {K : PySem.W.Frag} {mg : Str → Option Value} (T : Tx K mg) : FuncData := T.d__law_stops.fd
theorem Tx.F__law_stops {K : PySem.W.Frag} {mg : Str → Option Value} (T : Tx K mg) : Fun K "_law_stops" "_law_stops" s__law_stops T.a__law_stops T.fd__law_stops := T.d__law_stops.F
theorem Tx.b__law_stops {K : PySem.W.Frag} {mg : Str → Option Value} (T : Tx K mg) : Binds K T.fd__law_stops ["numbers", "k", "letters"] [] := T.d__law_stops.b
theorem Tx.g__law_stops {K : PySem.W.Frag} {mg : Str → Option Value} (T : Tx K mg) : mg "_law_stops" = some (.ref T.a__law_stops) := T.d__law_stops.g
abbrev Tx.a__law_tape {K : PySem.W.Frag} {mg : Str → Option Value} (T : Tx K mg) : Addr := T.d__law_tape.a
abbrev Tx.fd__law_tape {K : PySem.W.Frag} {mg : Str → Option Value} (T : Tx K mg) : FuncData := T.d__law_tape.fd
theorem Tx.F__law_tape {K : PySem.W.Frag} {mg : Str → Option Value} (T : Tx K mg) : Fun K "_law_tape" "_law_tape" s__law_tape T.a__law_tape T.fd__law_tape := T.d__law_tape.F
theorem Tx.b__law_tape {K : PySem.W.Frag} {mg : Str → Option Value} (T : Tx K mg) : Binds K T.fd__law_tape ["numbers", "k"] [] := T.d__law_tape.b
theorem Tx.g__law_tape {K : PySem.W.Frag} {mg : Str → Option Value} (T : Tx K mg) : mg "_law_tape" = some (.ref T.a__law_tape) := T.d__law_tape.g
abbrev Tx.a__law_made {K : PySem.W.Frag} {mg : Str → Option Value} (T : Tx K mg) : Addr := T.d__law_made.a
abbrev Tx.fd__law_made {K : PySem.W.Frag} {mg : Str → Option Value} (T : Tx K mg) : FuncData := T.d__law_made.fd
theorem Tx.F__law_made {K : PySem.W.Frag} {mg : Str → Option Value} (T : Tx K mg) : Fun K "_law_made" "_law_made" s__law_made T.a__law_made T.fd__law_made := T.d__law_made.F
theorem Tx.b__law_made {K : PySem.W.Frag} {mg : Str → Option Value} (T : Tx K mg) : Binds K T.fd__law_made ["prompt", "most", "stops", "tape", "rule", "short"] [] := T.d__law_made.b
theorem Tx.g__law_made {K : PySem.W.Frag} {mg : Str → Option Value} (T : Tx K mg) : mg "_law_made" = some (.ref T.a__law_made) := T.d__law_made.g
abbrev Tx.a__law_refuses {K : PySem.W.Frag} {mg : Str → Option Value} (T : Tx K mg) : Addr := T.d__law_refuses.a
abbrev Tx.fd__law_refuses {K : PySem.W.Frag} {mg : Str → Option Value} (T : Tx K mg) : FuncData := T.d__law_refuses.fd
theorem Tx.F__law_refuses {K : PySem.W.Frag} {mg : Str → Option Value} (T : Tx K mg) : Fun K "_law_refuses" "_law_refuses" s__law_refuses T.a__law_refuses T.fd__law_refuses := T.d__law_refuses.F
theorem Tx.b__law_refuses {K : PySem.W.Frag} {mg : Str → Option Value} (T : Tx K mg) : Binds K T.fd__law_refuses ["prompt", "most"] [] := T.d__law_refuses.b
theorem Tx.g__law_refuses {K : PySem.W.Frag} {mg : Str → Option Value} (T : Tx K mg) : mg "_law_refuses" = some (.ref T.a__law_refuses) := T.d__law_refuses.g
abbrev Tx.a__law_chosen {K : PySem.W.Frag} {mg : Str → Option Value} (T : Tx K mg) : Addr := T.d__law_chosen.a
abbrev Tx.fd__law_chosen {K : PySem.W.Frag} {mg : Str → Option Value} (T : Tx K mg) : FuncData := T.d__law_chosen.fd
theorem Tx.F__law_chosen {K : PySem.W.Frag} {mg : Str → Option Value} (T : Tx K mg) : Fun K "_law_chosen" "_law_chosen" s__law_chosen T.a__law_chosen T.fd__law_chosen := T.d__law_chosen.F
theorem Tx.b__law_chosen {K : PySem.W.Frag} {mg : Str → Option Value} (T : Tx K mg) : Binds K T.fd__law_chosen ["ask", "numbers", "letters", "rule", "tape"] [] := T.d__law_chosen.b
theorem Tx.g__law_chosen {K : PySem.W.Frag} {mg : Str → Option Value} (T : Tx K mg) : mg "_law_chosen" = some (.ref T.a__law_chosen) := T.d__law_chosen.g
abbrev Tx.a_law {K : PySem.W.Frag} {mg : Str → Option Value} (T : Tx K mg) : Addr := T.d_law.a
abbrev Tx.fd_law {K : PySem.W.Frag} {mg : Str → Option Value} (T : Tx K mg) : FuncData := T.d_law.fd
theorem Tx.F_law {K : PySem.W.Frag} {mg : Str → Option Value} (T : Tx K mg) : Fun K "law" "law" s_law T.a_law T.fd_law := T.d_law.F
theorem Tx.b_law {K : PySem.W.Frag} {mg : Str → Option Value} (T : Tx K mg) : Binds K T.fd_law ["script"] [] := T.d_law.b
theorem Tx.g_law {K : PySem.W.Frag} {mg : Str → Option Value} (T : Tx K mg) : mg "law" = some (.ref T.a_law) := T.d_law.g
abbrev Tx.aC_Ask {K : PySem.W.Frag} {mg : Str → Option Value} (T : Tx K mg) : Addr := T.c_Ask.aC
theorem Tx.cl_Ask {K : PySem.W.Frag} {mg : Str → Option Value} (T : Tx K mg) : Cls K T.aC_Ask := T.c_Ask.cl
theorem Tx.mgC_Ask {K : PySem.W.Frag} {mg : Str → Option Value} (T : Tx K mg) : mg "Ask" = some (.ref T.aC_Ask) := T.c_Ask.mgC
theorem Tx.nA_Ask_most {K : PySem.W.Frag} {mg : Str → Option Value} (T : Tx K mg) : NoAttr K T.aC_Ask "most" := T.c_Ask.nA_most
theorem Tx.nA_Ask_prompt {K : PySem.W.Frag} {mg : Str → Option Value} (T : Tx K mg) : NoAttr K T.aC_Ask "prompt" := T.c_Ask.nA_prompt
theorem Tx.nA_Ask_rule {K : PySem.W.Frag} {mg : Str → Option Value} (T : Tx K mg) : NoAttr K T.aC_Ask "rule" := T.c_Ask.nA_rule
theorem Tx.nA_Ask_stops {K : PySem.W.Frag} {mg : Str → Option Value} (T : Tx K mg) : NoAttr K T.aC_Ask "stops" := T.c_Ask.nA_stops
theorem Tx.nA_Ask_tape {K : PySem.W.Frag} {mg : Str → Option Value} (T : Tx K mg) : NoAttr K T.aC_Ask "tape" := T.c_Ask.nA_tape
abbrev Tx.aC_Rule {K : PySem.W.Frag} {mg : Str → Option Value} (T : Tx K mg) : Addr := T.c_Rule.aC
theorem Tx.cl_Rule {K : PySem.W.Frag} {mg : Str → Option Value} (T : Tx K mg) : Cls K T.aC_Rule := T.c_Rule.cl
theorem Tx.mgC_Rule {K : PySem.W.Frag} {mg : Str → Option Value} (T : Tx K mg) : mg "Rule" = some (.ref T.aC_Rule) := T.c_Rule.mgC
theorem Tx.nA_Rule_start {K : PySem.W.Frag} {mg : Str → Option Value} (T : Tx K mg) : NoAttr K T.aC_Rule "start" := T.c_Rule.nA_start
theorem Tx.nA_Rule_steps {K : PySem.W.Frag} {mg : Str → Option Value} (T : Tx K mg) : NoAttr K T.aC_Rule "steps" := T.c_Rule.nA_steps
abbrev Tx.aC_InvalidLetter {K : PySem.W.Frag} {mg : Str → Option Value} (T : Tx K mg) : Addr := T.e_InvalidLetter.aC
theorem Tx.mgC_InvalidLetter {K : PySem.W.Frag} {mg : Str → Option Value} (T : Tx K mg) : mg "InvalidLetter" = some (.ref T.aC_InvalidLetter) := T.e_InvalidLetter.mgC
abbrev Tx.aC_InvalidNumber {K : PySem.W.Frag} {mg : Str → Option Value} (T : Tx K mg) : Addr := T.e_InvalidNumber.aC
theorem Tx.mgC_InvalidNumber {K : PySem.W.Frag} {mg : Str → Option Value} (T : Tx K mg) : mg "InvalidNumber" = some (.ref T.aC_InvalidNumber) := T.e_InvalidNumber.mgC
abbrev Tx.fI_InvalidNumber {K : PySem.W.Frag} {mg : Str → Option Value} (T : Tx K mg) : Addr := T.e_InvalidNumber.fI
theorem Tx.tx_InvalidNumber {K : PySem.W.Frag} {mg : Str → Option Value} (T : Tx K mg) : PySem.EXnumber.Txt K mg "InvalidNumber" "InvalidNumber.__init__" T.aC_InvalidNumber T.fI_InvalidNumber := T.e_InvalidNumber.tx
theorem Tx.xc_InvalidNumber {K : PySem.W.Frag} {mg : Str → Option Value} (T : Tx K mg) : ExC K T.aC_InvalidNumber := T.e_InvalidNumber.xc
theorem Tx.xf_InvalidNumber {K : PySem.W.Frag} {mg : Str → Option Value} (T : Tx K mg) : XfC K T.aC_InvalidNumber := T.e_InvalidNumber.xf
theorem Tx.nf_InvalidNumber {K : PySem.W.Frag} {mg : Str → Option Value} (T : Tx K mg) : PySem.W.findIn K (.ref T.aC_InvalidNumber) "number" = some none := T.e_InvalidNumber.nf
abbrev Tx.aC_NoHouse {K : PySem.W.Frag} {mg : Str → Option Value} (T : Tx K mg) : Addr := T.e_NoHouse.aC
theorem Tx.mgC_NoHouse {K : PySem.W.Frag} {mg : Str → Option Value} (T : Tx K mg) : mg "NoHouse" = some (.ref T.aC_NoHouse) := T.e_NoHouse.mgC
abbrev Tx.aC_NoRequest {K : PySem.W.Frag} {mg : Str → Option Value} (T : Tx K mg) : Addr := T.e_NoRequest.aC
theorem Tx.mgC_NoRequest {K : PySem.W.Frag} {mg : Str → Option Value} (T : Tx K mg) : mg "NoRequest" = some (.ref T.aC_NoRequest) := T.e_NoRequest.mgC
abbrev Tx.aC_NoRoom {K : PySem.W.Frag} {mg : Str → Option Value} (T : Tx K mg) : Addr := T.e_NoRoom.aC
theorem Tx.mgC_NoRoom {K : PySem.W.Frag} {mg : Str → Option Value} (T : Tx K mg) : mg "NoRoom" = some (.ref T.aC_NoRoom) := T.e_NoRoom.mgC
abbrev Tx.aC_NotAlone {K : PySem.W.Frag} {mg : Str → Option Value} (T : Tx K mg) : Addr := T.e_NotAlone.aC
theorem Tx.mgC_NotAlone {K : PySem.W.Frag} {mg : Str → Option Value} (T : Tx K mg) : mg "NotAlone" = some (.ref T.aC_NotAlone) := T.e_NotAlone.mgC
abbrev Tx.aC_NotHeld {K : PySem.W.Frag} {mg : Str → Option Value} (T : Tx K mg) : Addr := T.e_NotHeld.aC
theorem Tx.mgC_NotHeld {K : PySem.W.Frag} {mg : Str → Option Value} (T : Tx K mg) : mg "NotHeld" = some (.ref T.aC_NotHeld) := T.e_NotHeld.mgC
abbrev Tx.aC_ServeError {K : PySem.W.Frag} {mg : Str → Option Value} (T : Tx K mg) : Addr := T.e_ServeError.aC
theorem Tx.mgC_ServeError {K : PySem.W.Frag} {mg : Str → Option Value} (T : Tx K mg) : mg "ServeError" = some (.ref T.aC_ServeError) := T.e_ServeError.mgC
abbrev Tx.aC_TooLarge {K : PySem.W.Frag} {mg : Str → Option Value} (T : Tx K mg) : Addr := T.e_TooLarge.aC
theorem Tx.mgC_TooLarge {K : PySem.W.Frag} {mg : Str → Option Value} (T : Tx K mg) : mg "TooLarge" = some (.ref T.aC_TooLarge) := T.e_TooLarge.mgC
section
variable {P : Program} {w : World} {K : PySem.W.Frag} {mg : Str → Option Value} {base : Heap}
set_option maxHeartbeats 8000000 in
theorem ok_is_integer (T : Tx K mg) : FnOk P w K mg base CX0 1 T.a_is_integer T.fd_is_integer ["value"] (SpA K AU.C_is_integer) := by
  refine Fun.ok T.F_is_integer sc_is_integer (fun vs H Q E h => SpA.len AU.len_is_integer h) (fun cdv A outer s H vs Q E hr h => ⟨_, (pss_one (ps_ret (pe_and (pe_callB (call_isiK (K := K) rfl) (by rfl) T.m_isinstance (by decide +kernel) (pa_cons (pv 0) (pa_cons (pe_bltn (v := .ty "int") (u := .type "int") (by rfl) T.m_int (by decide +kernel) rfl) pa_nil))) (pe_one (pe_not (pe_callB (call_isiK (K := K) rfl) (by rfl) T.m_isinstance (by decide +kernel) (pa_cons (pv 0) (pa_cons (pe_bltn (v := .ty "bool") (u := .type "bool") (by rfl) T.m_bool (by decide +kernel) rfl) pa_nil)))))))), run_def h (fun ds O R X c hK hE hX hp => ?_)⟩)
  subst hK; clear h hr
  try dsimp only [cxOf, Cx.nox, Cx.wish]
  have hcl_Ask := T.cl_Ask; have hna_Ask_most := T.nA_Ask_most; have hna_Ask_prompt := T.nA_Ask_prompt; have hna_Ask_rule := T.nA_Ask_rule; have hna_Ask_stops := T.nA_Ask_stops; have hna_Ask_tape := T.nA_Ask_tape; have hcl_Rule := T.cl_Rule; have hna_Rule_start := T.nA_Rule_start; have hna_Rule_steps := T.nA_Rule_steps
  obtain ⟨d, rfl, hd, k⟩ := hp
  cases hd <;> walk_at "al" <;> exact k

set_option maxHeartbeats 8000000 in
theorem ok_is_from (T : Tx K mg) (G_is_integer : FnOk P w K mg base CX0 1 T.a_is_integer T.fd_is_integer ["value"] (SpA K AU.C_is_integer)) : FnOk P w K mg base CX0 2 T.a_is_from T.fd_is_from ["value", "low", "high"] (SpA K AU.C_is_from) := by
  refine Fun.ok T.F_is_from sc_is_from (fun vs H Q E h => SpA.len AU.len_is_from h) (fun cdv A outer s H vs Q E hr h => ⟨_, (pss_one (ps_ret (pe_and (pe_call G_is_integer (hr.mono (by decide)) (by rfl) T.g_is_integer T.F_is_integer.kp T.b_is_integer .nil pass0 (pa_cons (pv 0) pa_nil)) (pe_one (pe_chain op_leA op_leA (pv 1) (pv 0) (pv 2)))))), run_def h (fun ds O R X c hK hE hX hp => ?_)⟩)
  subst hK; clear h hr
  try dsimp only [cxOf, Cx.nox, Cx.wish]
  have hcl_Ask := T.cl_Ask; have hna_Ask_most := T.nA_Ask_most; have hna_Ask_prompt := T.nA_Ask_prompt; have hna_Ask_rule := T.nA_Ask_rule; have hna_Ask_stops := T.nA_Ask_stops; have hna_Ask_tape := T.nA_Ask_tape; have hcl_Rule := T.cl_Rule; have hna_Rule_start := T.nA_Rule_start; have hna_Rule_steps := T.nA_Rule_steps
  obtain ⟨d, a, b, rfl, hd, k⟩ := hp
  walk_at "al"
  refine ⟨d, rfl, hd, ?_⟩
  cases hd with
  | int n =>
    rw [show AU.isIntD (.int n) = true from rfl]
    walk_at "al"
    refine we_chain ?_
    walk_at "al"
    have k' : R O (.bl (decide (a ≤ n) && decide (n ≤ b))) := k
    refine ⟨fun ha => ?_, fun ha => ?_⟩
    · rw [ha] at k'
      walk_at "al"
      exact k'
    · rw [ha] at k'
      exact k'
  | bl n => rw [show AU.isIntD (.bl n) = false from rfl]; walk_at "al"; exact k
  | non => rw [show AU.isIntD .non = false from rfl]; walk_at "al"; exact k
  | str n => rw [show AU.isIntD (.str n) = false from rfl]; walk_at "al"; exact k
  | tup n => rw [show AU.isIntD (.tup n) = false from rfl]; walk_at "al"; exact k
  | lst n => rw [show AU.isIntD (.lst n) = false from rfl]; walk_at "al"; exact k

set_option maxHeartbeats 8000000 in
theorem ok_greatest (T : Tx K mg) : FnOk P w K mg base CX0 1 T.a_greatest T.fd_greatest ["weights"] (SpA K C_greatest) := by
  refine Fun.ok T.F_greatest sc_greatest (fun vs H Q E h => SpA.len len_greatest h) (fun cdv A outer s H vs Q E hr h => ⟨_, (pss_one (ps_ret (pe_K (fun K => tIndexA K _ _) (K := K) rfl (pe_orE (pe_bm PySem.F.plainAttrs_list PySem.F.slot_list_index PySem.F.type_list_index mt_index (pv 0) (pa_cons (pe_callB (call_maxK (K := K) rfl rfl) (by rfl) T.m_max (by decide +kernel) (pa_cons (pv 0) pa_nil)) pa_nil)) (pe_indexT (pv 0) (pa_cons (pe_callB (call_maxK (K := K) rfl rfl) (by rfl) T.m_max (by decide +kernel) (pa_cons (pv 0) pa_nil)) pa_nil) PySem.F.slot_tuple_index))))), run_def h (fun ds O R X c hK hE hX hp => ?_)⟩)
  subst hK; clear h hr
  try dsimp only [cxOf, Cx.nox, Cx.wish]
  have hcl_Ask := T.cl_Ask; have hna_Ask_most := T.nA_Ask_most; have hna_Ask_prompt := T.nA_Ask_prompt; have hna_Ask_rule := T.nA_Ask_rule; have hna_Ask_stops := T.nA_Ask_stops; have hna_Ask_tape := T.nA_Ask_tape; have hcl_Rule := T.cl_Rule; have hna_Rule_start := T.nA_Rule_start; have hna_Rule_steps := T.nA_Rule_steps
  obtain ⟨d, ns, rfl, hd, h0, k⟩ := hp
  walk_at "al"
  refine we_indexS (by rfl) hd ?_
  walk_at "al"
  refine cb_maxS hd h0 fun M hM hmax => ?_
  walk_at "al"
  obtain ⟨j, hj, hn⟩ := firstAt hM
  exact ⟨M, j, rfl, hj, hn, k j ⟨M, hj, hmax, hn⟩⟩

set_option maxHeartbeats 8000000 in
theorem ok_by_number (T : Tx K mg) : FnOk P w K mg base CX0 1 T.a_by_number T.fd_by_number ["weights", "number"] (SpA K C_by_number) := by
  refine Fun.ok T.F_by_number sc_by_number (fun vs H Q E h => SpA.len len_by_number h) (fun cdv A outer s H vs Q E hr h => ⟨_, (pss_cons (ps_set (i := 2) sc_by_number.nd rfl (.inl rfl) (pe_op op_modA (pv 1) (pe_callB (call_sumK (K := K) rfl rfl) (by rfl) T.m_sum (by decide +kernel) (pa_cons (pv 0) pa_nil))))
      (pss_cons (ps_set (i := 3) sc_by_number.nd rfl (.inl rfl) pe_int)
      (pss_cons (ps_while PassesOwn.never (pt_cmpR op_geA (pv 2) (pe_ix (ix_seqK (K := K) rfl) (pv 0) (pv 3) (fun _ _ => rfl)) (nomark _)) (pss_cons (ps_set (i := 2) sc_by_number.nd rfl (.inl rfl) (pe_op op_subA (pv 2) (pe_ix (ix_seqK (K := K) rfl) (pv 0) (pv 3) (fun _ _ => rfl))))
      (pss_one (ps_set (i := 3) sc_by_number.nd rfl (.inl rfl) (pe_op (op_addK (K := K) rfl) (pv 3) pe_int)))))
      (pss_one (ps_ret (pv 3)))))), run_def h (fun ds O R X c hK hE hX hp => ?_)⟩)
  subst hK; clear h hr
  try dsimp only [cxOf, Cx.nox, Cx.wish]
  have hcl_Ask := T.cl_Ask; have hna_Ask_most := T.nA_Ask_most; have hna_Ask_prompt := T.nA_Ask_prompt; have hna_Ask_rule := T.nA_Ask_rule; have hna_Ask_stops := T.nA_Ask_stops; have hna_Ask_tape := T.nA_Ask_tape; have hcl_Rule := T.cl_Rule; have hna_Rule_start := T.nA_Rule_start; have hna_Rule_steps := T.nA_Rule_steps
  obtain ⟨d, ns, n, rfl, hd, hl, h0, hs, k⟩ := hp
  walk_at "al"
  refine cb_sumS hd ?_
  walk_at "al"
  have hr0 := Int.emod_nonneg n (show ns.sum ≠ 0 by omega)
  have hr1 := Int.emod_lt_of_pos n hs
  refine vs_while (fun m A => ∃ l : Nat, A = ⟨[some (.val d), some (.val (.int n)), some (.val (.int (n % ns.sum - (ns.take l).sum))), some (.val (.int (l : Nat)))], O⟩ ∧ l + m = ns.length ∧ (ns.take l).sum ≤ n % ns.sum) ns.length ⟨0, by simp [entry, AS.setS], by omega, by simpa using hr0⟩ ?_
  rintro m A1 ⟨l, rfl, e1, e2⟩
  have hlt : l < ns.length := by
    by_cases h : l < ns.length
    · exact h
    · exfalso
      rw [List.take_of_length_le (by omega)] at e2
      omega
  walk_at "al"
  refine od_ixS hd (by omega) (by omega) ?_
  walk_at "al"
  rw [show ((l : Nat) : Int).toNat = l by omega]
  have e3 := sumTk ns l
  refine ⟨fun hb => ?_, fun hb => ?_⟩
  · have hb := of_decide_eq_true hb
    walk_at "al"
    refine od_ixS hd (by omega) (by omega) ?_
    walk_at "al"
    rw [show ((l : Nat) : Int).toNat = l by omega]
    refine ⟨m - 1, by omega, l + 1, ?_, by omega, by omega⟩
    have e4 : n % ns.sum - (ns.take l).sum - ns.getD l 0 = n % ns.sum - (ns.take (l + 1)).sum := by omega
    rw [← e4]; rfl
  · have hb := of_decide_eq_false hb
    walk_at "al"
    exact k l ⟨hlt, e2, by omega⟩

set_option maxHeartbeats 8000000 in
theorem ok_Rule___init__ (T : Tx K mg) : FnOk P w K mg base CX0 1 T.a_Rule___init__ T.fd_Rule___init__ ["self", "start", "steps"] (SpA K (C_Rule___init__ T.aC_Rule)) := by
  refine Fun.ok T.F_Rule___init__ sc_Rule___init__ (fun vs H Q E h => SpA.len len_Rule___init__ h) (fun cdv A outer s H vs Q E hr h => ⟨_, (pss_cons (ps_K (fun K => sFld K _ _ _) (K := K) rfl (ps_fld (pv 0) (pv 1) rfl))
      (pss_one (ps_K (fun K => sFld K _ _ _) (K := K) rfl (ps_fld (pv 0) (pe_callTy (call_tupK (K := K) rfl) (by rfl) T.m_tuple (by decide +kernel) (pa_cons (pe_lc (own := [("row", 3)]) (g := gName 3) (tt := tYes) rfl sc_Rule___init__.nd (pi_K (fun K => iSeq K _) (K := K) rfl (pi_seq (pv 2))) (blkOk_by (N := n_Rule___init__) (sc := defScope s_Rule___init__) (by decide +kernel)) (fun _ _ _ _ _ => (pg_name (i := 3) sc_Rule___init__.nd rfl (.inl rfl))) (fun _ _ _ _ _ => pts_nil) (fun _ _ _ _ _ => (pe_callTy (call_tupK (K := K) rfl) (by rfl) T.m_tuple (by decide +kernel) (pa_cons (pv 3) pa_nil)))) pa_nil)) rfl)))), run_def h (fun ds O R X c hK hE hX hp => ?_)⟩)
  subst hK; clear h hr
  try dsimp only [cxOf, Cx.nox, Cx.wish]
  have hcl_Ask := T.cl_Ask; have hna_Ask_most := T.nA_Ask_most; have hna_Ask_prompt := T.nA_Ask_prompt; have hna_Ask_rule := T.nA_Ask_rule; have hna_Ask_stops := T.nA_Ask_stops; have hna_Ask_tape := T.nA_Ask_tape; have hcl_Rule := T.cl_Rule; have hna_Rule_start := T.nA_Rule_start; have hna_Rule_steps := T.nA_Rule_steps
  obtain ⟨i, r, rfl, hi, hl, k⟩ := hp
  obtain ⟨hO, hil⟩ := set_id hi
  refine vs_seq (vs_fldI ?_)
  walk_at "al"
  refine ⟨i, O, T.aC_Rule, [], rfl, hO, hil, hcl_Rule, hna_Rule_start, by decide, ?_⟩
  refine vs_fldI ?_
  walk_at "al"
  refine wn_lcM (α := List (Option Nat)) dStep dStep (gok_name (by decide)) ?_
  walk_at "al"
  refine ⟨_, rfl, r.steps, rfl, rfl, by omega, fun x hx => ?_, ?_⟩
  · walk_at "al"
    exact ⟨rfl, by walk_at "keeps"⟩
  · walk_at "al"
    refine ⟨i, O, T.aC_Rule, _, rfl, rfl, hil, hcl_Rule, hna_Rule_steps, Nat.le_of_ble_eq_true rfl, ?_⟩
    exact k

set_option maxHeartbeats 8000000 in
theorem ok_Rule_after (T : Tx K mg) : FnOk P w K mg base CX0 1 T.a_Rule_after T.fd_Rule_after ["self", "text"] (SpA K (C_Rule_after T.aC_Rule)) := by
  refine Fun.ok T.F_Rule_after sc_Rule_after (fun vs H Q E h => SpA.len len_Rule_after h) (fun cdv A outer s H vs Q E hr h => ⟨_, (pss_cons (ps_set (i := 2) sc_Rule_after.nd rfl (.inl rfl) (pe_K (fun K => tFld K _ _) (K := K) rfl (pe_fld (pv 0) rfl)))
      (pss_cons (ps_for PassesOwn.never rfl (pi_K (fun K => iSeq K _) (K := K) rfl (pi_seq (pv 1))) (pg_name (i := 3) sc_Rule_after.nd rfl (.inl rfl)) (pss_cons (ps_if (pt_cmpR op_isA (pv 2) pe_non (nomark _)) (pss_one (ps_ret pe_non)) pss_nil)
      (pss_one (ps_set (i := 2) sc_Rule_after.nd rfl (.inl rfl) (pe_ix (ix_seqK (K := K) rfl) (pe_ix (ix_seqK (K := K) rfl) (pe_K (fun K => tFld K _ _) (K := K) rfl (pe_fld (pv 0) rfl)) (pv 2) (fun _ _ => rfl)) (pv 3) (fun _ _ => rfl))))))
      (pss_one (ps_ret (pv 2))))), run_def h (fun ds O R X c hK hE hX hp => ?_)⟩)
  subst hK; clear h hr
  try dsimp only [cxOf, Cx.nox, Cx.wish]
  have hcl_Ask := T.cl_Ask; have hna_Ask_most := T.nA_Ask_most; have hna_Ask_prompt := T.nA_Ask_prompt; have hna_Ask_rule := T.nA_Ask_rule; have hna_Ask_stops := T.nA_Ask_stops; have hna_Ask_tape := T.nA_Ask_tape; have hcl_Rule := T.cl_Rule; have hna_Rule_start := T.nA_Rule_start; have hna_Rule_steps := T.nA_Rule_steps
  obtain ⟨r, L, d, text, rfl, hd, hw, hl, k⟩ := hp
  walk_at "als"
  refine vs_seq ?_
  refine vs_forI (α := Option Nat) [3] (fun s => [(2, some (.val (dOp s)))]) (fun _ => O) (fun _ i s => (∀ x, s = some x → x < r.steps.length) ∧ (text.drop i).foldl (fun s l => s.bind fun s => rstI r s l) s = afterI r text) ?_
  walk_at "als"
  refine ⟨_, hd.sq, ⟨some r.start, rfl, fun x e => by cases e; exact hw.s0, rfl⟩, ?_, ?_⟩
  · rintro i g s hg ⟨hs, hm⟩
    rw [List.map_map, List.getElem?_map] at hg
    obtain ⟨l, hi, rfl⟩ : ∃ l : Nat, text[i]? = some l ∧ g = .int (l : Nat) := by
      cases e : text[i]? with
      | none => rw [e] at hg; cases hg
      | some kk => rw [e] at hg; cases hg; exact ⟨kk, rfl, rfl⟩
    have hll := hl l (List.mem_of_getElem? hi)
    rw [drop_at hi, List.foldl_cons] at hm
    cases s with
    | none =>
      walk_at "als"
      refine vs_seq (vs_if ?_)
      walk_at "als"
      have hm : List.foldl (fun s l => s.bind fun s => rstI r s l) none (text.drop (i + 1)) = afterI r text := hm
      have hn : ∀ t : List Nat, List.foldl (fun s l => s.bind fun s => rstI r s l) none t = (none : Option Nat) := fun t => by
        induction t with
        | nil => rfl
        | cons x t ih => exact ih
      rw [hn] at hm
      rw [← hm] at k
      exact k
    | some s =>
      have hs := hs s rfl
      rw [dOp_some]
      walk_at "als"
      refine vs_seq (vs_if ?_)
      walk_at "als"
      refine od_ixT (ds := r.steps.map dStep) rfl (atI_map (x := r.steps.getD s []) (by omega) (by rw [show ((s : Nat) : Int).toNat = s by omega, List.getElem?_eq_getElem hs, getD_lt hs])) ?_
      walk_at "als"
      have hr := hw.row _ (List.getElem_mem hs)
      refine od_ixT (ds := (r.steps.getD s []).map dOp) rfl (atI_map (x := (r.steps.getD s []).getD l none) (by omega) (by rw [show ((l : Nat) : Int).toNat = l by omega, getD_lt hs, List.getElem?_eq_getElem (by rw [hr.1]; exact hll), getD_lt (by rw [hr.1]; exact hll)])) ?_
      walk_at "als"
      exact ⟨rstI r s l, rfl, fun x e => step_wf hw hs hll e, hm⟩
  · rintro s ⟨hs, hm⟩
    rw [List.length_map, List.length_map, List.drop_length] at hm
    walk_at "als"
    rw [show s = afterI r text from hm]
    exact k

set_option maxHeartbeats 8000000 in
theorem ok_Rule_lets (T : Tx K mg) (G_Rule_after : FnOk P w K mg base CX0 1 T.a_Rule_after T.fd_Rule_after ["self", "text"] (SpA K (C_Rule_after T.aC_Rule))) : FnOk P w K mg base CX0 2 T.a_Rule_lets T.fd_Rule_lets ["self", "text", "letter"] (SpA K (C_Rule_lets T.aC_Rule)) := by
  refine Fun.ok T.F_Rule_lets sc_Rule_lets (fun vs H Q E h => SpA.len len_Rule_lets h) (fun cdv A outer s H vs Q E hr h => ⟨_, (pss_cons (ps_set (i := 3) sc_Rule_lets.nd rfl (.inl rfl) (pe_meth (pv 0) T.cl_Rule T.meth_Rule_after G_Rule_after (hr.mono (by decide)) T.b_Rule_after .nil pass0 (pa_cons (pv 1) pa_nil)))
      (pss_one (ps_ret (pe_and (pe_cmpR op_notA (pv 3) pe_non (nomark _)) (pe_one (pe_cmpR op_notA (pe_ix (ix_seqK (K := K) rfl) (pe_ix (ix_seqK (K := K) rfl) (pe_K (fun K => tFld K _ _) (K := K) rfl (pe_fld (pv 0) rfl)) (pv 3) (fun _ _ => rfl)) (pv 2) (fun _ _ => rfl)) pe_non (nomark _))))))), run_def h (fun ds O R X c hK hE hX hp => ?_)⟩)
  subst hK; clear h hr
  try dsimp only [cxOf, Cx.nox, Cx.wish]
  have hcl_Ask := T.cl_Ask; have hna_Ask_most := T.nA_Ask_most; have hna_Ask_prompt := T.nA_Ask_prompt; have hna_Ask_rule := T.nA_Ask_rule; have hna_Ask_stops := T.nA_Ask_stops; have hna_Ask_tape := T.nA_Ask_tape; have hcl_Rule := T.cl_Rule; have hna_Rule_start := T.nA_Rule_start; have hna_Rule_steps := T.nA_Rule_steps
  obtain ⟨r, L, d, text, l, rfl, hd, hw, hl, hll, k⟩ := hp
  walk_at "als"
  refine ⟨r, L, d, text, rfl, hd, hw, hl, ?_⟩
  walk_at "als"
  unfold letsI at k
  cases e : afterI r text with
  | none =>
    rw [e] at k
    walk_at "als"
    exact k
  | some s =>
    rw [e] at k
    have hs := afterI_wf hw hl e
    rw [dOp_some]
    walk_at "als"
    refine od_ixT (ds := r.steps.map dStep) rfl (atI_map (x := r.steps.getD s []) (by omega) (by rw [show ((s : Nat) : Int).toNat = s by omega, List.getElem?_eq_getElem hs, getD_lt hs])) ?_
    walk_at "als"
    have hr := hw.row _ (List.getElem_mem hs)
    refine od_ixT (ds := (r.steps.getD s []).map dOp) rfl (atI_map (x := (r.steps.getD s []).getD l none) (by omega) (by rw [show ((l : Nat) : Int).toNat = l by omega, getD_lt hs, List.getElem?_eq_getElem (by rw [hr.1]; exact hll), getD_lt (by rw [hr.1]; exact hll)])) ?_
    walk_at "als"
    have k : R O (.bl (rstI r s l).isSome) := k
    unfold rstI at k
    cases e2 : (r.steps.getD s []).getD l none with
    | none => rw [e2] at k; refine od_not (b := true) rfl ?_; walk_at "als"; exact k
    | some x => rw [e2] at k; refine od_not (b := false) rfl ?_; walk_at "als"; exact k

set_option maxHeartbeats 8000000 in
theorem ok_Rule___eq__ (T : Tx K mg) : FnOk P w K mg base CX0 1 T.a_Rule___eq__ T.fd_Rule___eq__ ["self", "other"] (SpA K (AP.C_Rule___eq__ T.aC_Rule)) := by
  refine Fun.ok T.F_Rule___eq__ sc_Rule___eq__ (fun vs H Q E h => SpA.len AP.len_Rule___eq__ h) (fun cdv A outer s H vs Q E hr h => ⟨_, (pss_one (ps_ret (pe_and (pe_callB (call_isiK (K := K) rfl) (by rfl) T.m_isinstance (by decide +kernel) (pa_cons (pv 1) (pa_cons (pe_glob (v := .ref T.aC_Rule) rfl T.mgC_Rule rfl) pa_nil))) (pe_and (pe_cmpR (op_eqK (K := K) rfl hr.units) (pe_K (fun K => tFld K _ _) (K := K) rfl (pe_fld (pv 0) rfl)) (pe_K (fun K => tFld K _ _) (K := K) rfl (pe_fld (pv 1) rfl)) (nomark _)) (pe_one (pe_cmpR (op_eqK (K := K) rfl hr.units) (pe_K (fun K => tFld K _ _) (K := K) rfl (pe_fld (pv 0) rfl)) (pe_K (fun K => tFld K _ _) (K := K) rfl (pe_fld (pv 1) rfl)) (nomark _))))))), run_def h (fun ds O R X c hK hE hX hp => ?_)⟩)
  subst hK; clear h hr
  try dsimp only [cxOf, Cx.nox, Cx.wish]
  have hcl_Ask := T.cl_Ask; have hna_Ask_most := T.nA_Ask_most; have hna_Ask_prompt := T.nA_Ask_prompt; have hna_Ask_rule := T.nA_Ask_rule; have hna_Ask_stops := T.nA_Ask_stops; have hna_Ask_tape := T.nA_Ask_tape; have hcl_Rule := T.cl_Rule; have hna_Rule_start := T.nA_Rule_start; have hna_Rule_steps := T.nA_Rule_steps
  rcases hp with ⟨r, s, rfl, k⟩ | ⟨r, e, rfl, he, k⟩
  · walk_at "go"
    refine we_cls ?_
    walk_at "go"
    refine cb_isO T.ic_Rule rfl ?_
    walk_at "go"
    unfold sameR at k
    refine ⟨fun h => ?_, fun h => ?_⟩
    · rw [show decide (r.start = s.start) = true from decide_eq_true (by have := of_decide_eq_true h; omega)] at k
      walk_at "go"
      refine od_eqD (py_steps _) (py_steps _) (shaped_stepsT _) (shaped_stepsT _) (b := decide (r.steps = s.steps)) (eqv_mapT eqv_stepT _ _) ?_
      walk_at "go"
      exact k
    · rw [show decide (r.start = s.start) = false from decide_eq_false (by have := of_decide_eq_false h; omega)] at k
      walk_at "go"
      exact k
  · cases he
    all_goals walk_at "go"
    all_goals refine we_cls ?_
    all_goals walk_at "go"
    all_goals refine cb_isOB rfl (T.nb_Rule _ (by decide)) ?_
    all_goals walk_at "go"
    all_goals exact k

set_option maxHeartbeats 8000000 in
theorem ok_Ask___init__ (T : Tx K mg) (G_is_from : FnOk P w K mg base CX0 2 T.a_is_from T.fd_is_from ["value", "low", "high"] (SpA K AU.C_is_from)) : FnOk P w K mg base (L2N.CX P w) 3 T.a_Ask___init__ T.fd_Ask___init__ ["self", "prompt", "most", "stops", "tape", "rule"] (SpA K (AQ.C_Ask___init__ T.aC_Ask T.aC_InvalidNumber)) := by
  refine okN T.F_Ask___init__ sc_Ask___init__ (fun vs H Q E h => SpA.len AQ.len_Ask___init__ h) (fun cdv A outer s H vs Q E hr h => ⟨_, (pss_cons (ps_if (pt_not (pt_val (pe_call G_is_from (hr.mono (by decide)) (by rfl) T.g_is_from T.F_is_from.kp T.b_is_from .nil pass0 (pa_cons (pv 2) (pa_cons pe_int (pa_cons pe_int pa_nil)))))) (pss_one (ps_raise1 rfl (IsDef.tk isDef) (L2N.pmknumber T.tx_InvalidNumber hr (pa_cons (pv 2) pa_nil) (by rfl)))) pss_nil)
      (pss_cons (ps_K (fun K => sFld K _ _ _) (K := K) rfl (ps_fld (pv 0) (pe_callTy (call_tupK (K := K) rfl) (by rfl) T.m_tuple (by decide +kernel) (pa_cons (pv 1) pa_nil)) rfl))
      (pss_cons (ps_K (fun K => sFld K _ _ _) (K := K) rfl (ps_fld (pv 0) (pv 2) rfl))
      (pss_cons (ps_K (fun K => sFld K _ _ _) (K := K) rfl (ps_fld (pv 0) (pe_callTy (call_tupK (K := K) rfl) (by rfl) T.m_tuple (by decide +kernel) (pa_cons (pe_lc (own := [("stop", 6)]) (g := gName 6) (tt := tYes) rfl sc_Ask___init__.nd (pi_K (fun K => iSeq K _) (K := K) rfl (pi_seq (pv 3))) (blkOk_by (N := n_Ask___init__) (sc := defScope s_Ask___init__) (by decide +kernel)) (fun _ _ _ _ _ => (pg_name (i := 6) sc_Ask___init__.nd rfl (.inl rfl))) (fun _ _ _ _ _ => pts_nil) (fun _ _ _ _ _ => (pe_callTy (call_tupK (K := K) rfl) (by rfl) T.m_tuple (by decide +kernel) (pa_cons (pv 6) pa_nil)))) pa_nil)) rfl))
      (pss_cons (ps_K (fun K => sFld K _ _ _) (K := K) rfl (ps_fld (pv 0) (pe_callTy (call_tupK (K := K) rfl) (by rfl) T.m_tuple (by decide +kernel) (pa_cons (pv 4) pa_nil)) rfl))
      (pss_one (ps_K (fun K => sFld K _ _ _) (K := K) rfl (ps_fld (pv 0) (pv 5) rfl)))))))), run_def h (fun ds O R X c hK hE hX hp => ?_)⟩)
  subst hK; clear h hr
  try dsimp only [cxOf, Cx.nox, Cx.wish]
  have hcl_Ask := T.cl_Ask; have hna_Ask_most := T.nA_Ask_most; have hna_Ask_prompt := T.nA_Ask_prompt; have hna_Ask_rule := T.nA_Ask_rule; have hna_Ask_stops := T.nA_Ask_stops; have hna_Ask_tape := T.nA_Ask_tape; have hcl_Rule := T.cl_Rule; have hna_Rule_start := T.nA_Rule_start; have hna_Rule_steps := T.nA_Rule_steps
  obtain ⟨i, dp, dm, dst, dtp, r, P, T', rows, S, rfl, hi, ho, hP, hst, hS, hT, hl, kx, k⟩ := hp
  obtain ⟨hO, hil⟩ := set_id hi
  refine vs_cut (fun A1 => A1 = ⟨entry n_Ask___init__.length [.ptr i, dp, dm, dst, dtp, r], O⟩ ∧ isFromD dm 1 30 = true) ?_ ?_
  · refine vs_if ?_
    walk_at "go"
    refine ⟨dm, _, _, rfl, ho, ?_⟩
    cases hf : isFromD dm 1 30 with
    | true =>
      walk_at "go"
      exact ⟨rfl, rfl⟩
    | false =>
      walk_at "go"
      refine ws_raise1 hE ?_
      walk_at "go"
      exact ⟨dm, rfl, hX _ _ _ (kx hf)⟩
  rintro A1 ⟨rfl, hf⟩
  have k := k hf
  have st : ∀ c : Cell, SeqO (O.set i c) dp P ∧ SeqO (O.set i c) dst rows ∧ RowsD (O.set i c) rows S ∧ SeqO (O.set i c) dtp T' := fun c => ⟨hP.set hi, hst.set hi, hS.set hi, hT.set hi⟩
  refine vs_seq (vs_fldI ?_)
  walk_at "al"
  refine cb_tupO hP ?_
  walk_at "al"
  refine ⟨i, O, T.aC_Ask, [], rfl, hO, hil, hcl_Ask, hna_Ask_prompt, by decide, ?_⟩
  refine vs_seq (vs_fldI ?_)
  walk_at "al"
  refine ⟨i, O, T.aC_Ask, _, rfl, rfl, hil, hcl_Ask, hna_Ask_most, Nat.le_of_ble_eq_true rfl, ?_⟩
  refine vs_seq (vs_fldI ?_)
  walk_at "al"
  refine wn_lcV (ds := rows) (es := S.map D.tup) (gok_name (by decide)) rfl (st _).2.1 rfl (by rw [hS.1]; omega) (by rw [List.length_map, hS.1]) (fun j x hx => ?_) ?_
  · obtain ⟨y, hy⟩ : ∃ y, S[j]? = some y := ⟨S[j]'(by have := (List.getElem?_eq_some_iff.mp hx).1; rw [hS.1] at this; exact this), List.getElem?_eq_getElem _⟩
    walk_at "al"
    refine cb_tupO ((st _).2.2.1.2 j x y hx hy) ?_
    walk_at "al"
    refine ⟨?_, rfl, fun q hq => ?_⟩
    · rw [List.getElem?_map, hy]; rfl
    · show (List.set _ 6 _)[q]? = _
      rw [List.getElem?_set_ne (fun z => hq (by rw [← z]; decide))]
      exact wipe_keeps hq
  walk_at "al"
  refine ⟨i, O, T.aC_Ask, _, rfl, rfl, hil, hcl_Ask, hna_Ask_stops, Nat.le_of_ble_eq_true rfl, ?_⟩
  refine vs_seq (vs_fldI ?_)
  walk_at "al"
  refine cb_tupO (st _).2.2.2 ?_
  walk_at "al"
  refine ⟨i, O, T.aC_Ask, _, rfl, rfl, hil, hcl_Ask, hna_Ask_tape, Nat.le_of_ble_eq_true rfl, ?_⟩
  refine vs_fldI ?_
  walk_at "al"
  refine ⟨i, O, T.aC_Ask, _, rfl, rfl, hil, hcl_Ask, hna_Ask_rule, Nat.le_of_ble_eq_true rfl, ?_⟩
  exact k

set_option maxHeartbeats 8000000 in
theorem ok_Ask_counted (T : Tx K mg) (G_Rule_lets : FnOk P w K mg base CX0 2 T.a_Rule_lets T.fd_Rule_lets ["self", "text", "letter"] (SpA K (C_Rule_lets T.aC_Rule))) : FnOk P w K mg base CX0 3 T.a_Ask_counted T.fd_Ask_counted ["self", "weights", "text"] (SpA K (C_Ask_counted T.aC_Ask T.aC_Rule)) := by
  refine Fun.ok T.F_Ask_counted sc_Ask_counted (fun vs H Q E h => SpA.len len_Ask_counted h) (fun cdv A outer s H vs Q E hr h => ⟨_, (pss_cons (ps_if (pt_cmpR op_isA (pe_K (fun K => tFld K _ _) (K := K) rfl (pe_fld (pv 0) rfl)) pe_non (nomark _)) (pss_one (ps_ret (pv 1))) pss_nil)
      (pss_one (ps_ret (pe_lc (own := [("letter", 3), ("weight", 4)]) (g := gTup K 2 (gCons (gName 3) (gCons (gName 4) gNil))) (tt := tYes) rfl sc_Ask_counted.nd (pi_K (fun K => iEnumA K _) (K := K) rfl (pi_enumA (by rfl) T.m_enumerate (pa_cons (pv 1) pa_nil))) (blkOk_by (N := n_Ask_counted) (sc := defScope s_Ask_counted) (by decide +kernel)) (fun _ _ _ _ _ => (pg_K (fun K => gTup K 2 _) (K := K) rfl (pg_tup (by rfl) (pgs_cons (pg_name (i := 3) sc_Ask_counted.nd rfl (.inl rfl)) (pgs_cons (pg_name (i := 4) sc_Ask_counted.nd rfl (.inl rfl)) pgs_nil))))) (fun _ _ _ _ _ => pts_nil) (fun _ _ _ _ _ => (pe_ifExp (pt_val (pe_meth (pe_K (fun K => tFld K _ _) (K := K) rfl (pe_fld (pv 0) rfl)) T.cl_Rule T.meth_Rule_lets G_Rule_lets (hr.mono (by decide)) T.b_Rule_lets .nil pass0 (pa_cons (pv 2) (pa_cons (pv 3) pa_nil)))) (pv 4) pe_int)))))), run_def h (fun ds O R X c hK hE hX hp => ?_)⟩)
  subst hK; clear h hr
  try dsimp only [cxOf, Cx.nox, Cx.wish]
  have hcl_Ask := T.cl_Ask; have hna_Ask_most := T.nA_Ask_most; have hna_Ask_prompt := T.nA_Ask_prompt; have hna_Ask_rule := T.nA_Ask_rule; have hna_Ask_stops := T.nA_Ask_stops; have hna_Ask_tape := T.nA_Ask_tape; have hcl_Rule := T.cl_Rule; have hna_Rule_start := T.nA_Rule_start; have hna_Rule_steps := T.nA_Rule_steps
  obtain ⟨a, L, d, ws, t, text, rfl, hd, ht, hr, hwl, hL, hl, k⟩ := hp
  obtain ⟨pr, mo, st, tp, ru⟩ := a
  cases ru with
  | none =>
    refine vs_seq (vs_if ?_)
    walk_at "als"
    exact k d hd
  | some r =>
    have hr := hr r rfl
    refine vs_seq (vs_if ?_)
    walk_at "als"
    refine wn_lcM (α := Nat) (fun i => .sct [.int (i : Nat), .int (ws.getD i 0)]) (fun l => .int (if letsI r text l then ws.getD l 0 else 0)) (gok_two (by decide) (by decide)) ?_
    refine frame_enum hd ?_
    walk_at "als"
    refine ⟨rfl, List.range ws.length, rfl, rfl, by rw [List.length_range]; omega, fun l hll => ?_, ?_⟩
    · have hll := List.mem_range.mp hll
      walk_at "als"
      refine ⟨r, L, t, text, l, rfl, ht, hr, hl, by omega, ?_⟩
      walk_at "als"
      refine ⟨fun hb => ?_, fun hb => ?_⟩
      · walk_at "als"
        exact ⟨by rw [hb]; rfl, by walk_at "keeps"⟩
      · walk_at "als"
        exact ⟨by rw [hb]; rfl, by walk_at "keeps"⟩
    · walk_at "als"
      refine k _ (.inl ?_)
      show _ = D.lst ((List.map _ _).map D.int)
      rw [List.map_map]; rfl

set_option maxHeartbeats 8000000 in
theorem ok_Ask_choice (T : Tx K mg) (G_Ask_counted : FnOk P w K mg base CX0 3 T.a_Ask_counted T.fd_Ask_counted ["self", "weights", "text"] (SpA K (C_Ask_counted T.aC_Ask T.aC_Rule))) (G_by_number : FnOk P w K mg base CX0 1 T.a_by_number T.fd_by_number ["weights", "number"] (SpA K C_by_number)) (G_greatest : FnOk P w K mg base CX0 1 T.a_greatest T.fd_greatest ["weights"] (SpA K C_greatest)) : FnOk P w K mg base CX0 4 T.a_Ask_choice T.fd_Ask_choice ["self", "weights", "text"] (SpA K (C_Ask_choice T.aC_Ask T.aC_Rule)) := by
  refine Fun.ok T.F_Ask_choice sc_Ask_choice (fun vs H Q E h => SpA.len len_Ask_choice h) (fun cdv A outer s H vs Q E hr h => ⟨_, (pss_cons (ps_set (i := 3) sc_Ask_choice.nd rfl (.inl rfl) (pe_meth (pv 0) T.cl_Ask T.meth_Ask_counted G_Ask_counted (hr.mono (by decide)) T.b_Ask_counted .nil pass0 (pa_cons (pv 1) (pa_cons (pv 2) pa_nil))))
      (pss_cons (ps_if (pt_cmpR (op_eqK (K := K) rfl hr.units) (pe_callB (call_maxK (K := K) rfl rfl) (by rfl) T.m_max (by decide +kernel) (pa_cons (pv 3) pa_nil)) pe_int (nomark _)) (pss_one (ps_ret pe_non)) pss_nil)
      (pss_cons (ps_if (pt_cmpR (op_eqK (K := K) rfl hr.units) (pe_callB (call_lenK (K := K) rfl) (by rfl) T.m_len (by decide +kernel) (pa_cons (pe_K (fun K => tFld K _ _) (K := K) rfl (pe_fld (pv 0) rfl)) pa_nil)) pe_int (nomark _)) (pss_one (ps_ret (pe_call G_greatest (hr.mono (by decide)) (by rfl) T.g_greatest T.F_greatest.kp T.b_greatest .nil pass0 (pa_cons (pv 3) pa_nil)))) pss_nil)
      (pss_one (ps_ret (pe_call G_by_number (hr.mono (by decide)) (by rfl) T.g_by_number T.F_by_number.kp T.b_by_number .nil pass0 (pa_cons (pv 3) (pa_cons (pe_ix (ix_seqK (K := K) rfl) (pe_K (fun K => tFld K _ _) (K := K) rfl (pe_fld (pv 0) rfl)) (pe_op op_modA (pe_callB (call_lenK (K := K) rfl) (by rfl) T.m_len (by decide +kernel) (pa_cons (pv 2) pa_nil)) (pe_callB (call_lenK (K := K) rfl) (by rfl) T.m_len (by decide +kernel) (pa_cons (pe_K (fun K => tFld K _ _) (K := K) rfl (pe_fld (pv 0) rfl)) pa_nil))) (fun _ _ => rfl)) pa_nil)))))))), run_def h (fun ds O R X c hK hE hX hp => ?_)⟩)
  subst hK; clear h hr
  try dsimp only [cxOf, Cx.nox, Cx.wish]
  have hcl_Ask := T.cl_Ask; have hna_Ask_most := T.nA_Ask_most; have hna_Ask_prompt := T.nA_Ask_prompt; have hna_Ask_rule := T.nA_Ask_rule; have hna_Ask_stops := T.nA_Ask_stops; have hna_Ask_tape := T.nA_Ask_tape; have hcl_Rule := T.cl_Rule; have hna_Rule_start := T.nA_Rule_start; have hna_Rule_steps := T.nA_Rule_steps
  obtain ⟨a, L, d, ws, t, text, rfl, hd, ht, hr, h0, hwl, hL, hx, hl, htl, htp, k⟩ := hp
  walk_at "als"
  refine ⟨a, L, d, ws, t, text, rfl, hd, ht, hr, hwl, hL, hl, fun d' hd' => ?_⟩
  have hcl : (countedI a.rule ws text).length = ws.length := counted_len
  have hcn := counted_nn (r := a.rule) (text := text) hx
  simp only [choiceI] at k
  generalize countedI a.rule ws text = cs at *
  walk_at "als"
  refine vs_seq (vs_if ?_)
  walk_at "als"
  refine cb_maxS hd' (by omega) fun M hM hmax => ?_
  have hz := sum0_of hcn hM hmax
  walk_at "als"
  refine ⟨fun hb => ?_, fun hb => ?_⟩
  · rw [if_pos (hz.mpr (of_decide_eq_true hb))] at k
    walk_at "als"
    exact k fun c hc => nomatch hc
  have hs : ¬ cs.sum = 0 := fun z => (of_decide_eq_false hb) (hz.mp z)
  rw [if_neg hs] at k
  have hsp : 0 < cs.sum := by have := sumNN hcn; omega
  walk_at "als"
  refine vs_seq (vs_if ?_)
  walk_at "als"
  rw [List.length_map]
  refine ⟨fun hb => ?_, fun hb => ?_⟩
  · have hb : a.tape = [] := List.eq_nil_of_length_eq_zero (by have := of_decide_eq_true hb; omega)
    rw [if_pos hb] at k
    walk_at "als"
    refine ⟨d', cs, rfl, hd', by omega, fun j hj => ?_⟩
    rw [argI_of hj] at k
    have hjl : j < cs.length := by obtain ⟨M, h, _⟩ := hj; exact (List.getElem?_eq_some_iff.mp h).1
    walk_at "als"
    exact k fun c hc => by cases hc; omega
  · have hb : ¬ a.tape = [] := fun z => (of_decide_eq_false hb) (by rw [z]; rfl)
    rw [if_neg hb] at k
    have htp0 : 0 < a.tape.length := by
      cases e : a.tape with
      | nil => exact absurd e hb
      | cons x y => exact Nat.succ_pos _
    walk_at "als"
    refine cb_lenS ht ?_
    walk_at "als"
    rw [List.length_map, List.length_map]
    have e1 := Int.emod_nonneg (text.length : Int) (show (a.tape.length : Int) ≠ 0 by omega)
    have e2 := Int.emod_lt_of_pos (text.length : Int) (show 0 < (a.tape.length : Int) by omega)
    refine od_mod (by omega) ?_
    walk_at "als"
    refine od_ixT (ds := a.tape.map D.int) rfl (atI_ints e1 e2) ?_
    walk_at "als"
    refine ⟨d', cs, _, rfl, hd', by omega, hcn, hsp, fun l hby => ?_⟩
    rw [show ((text.length : Int) % (a.tape.length : Int)).toNat = text.length % a.tape.length by omega] at hby
    rw [byI_of hcn hby] at k
    have hjl := hby.1
    walk_at "als"
    exact k fun c hc => by cases hc; omega

set_option maxHeartbeats 8000000 in
theorem ok__law_numbers (T : Tx K mg) : FnOk P w K mg base CX0 1 T.a__law_numbers T.fd__law_numbers ["cell", "at", "many"] (SpA K C__law_numbers) := by
  refine Fun.ok T.F__law_numbers sc__law_numbers (fun vs H Q E h => SpA.len len__law_numbers h) (fun cdv A outer s H vs Q E hr h => ⟨_, (pss_cons (ps_set (i := 3) sc__law_numbers.nd rfl (.inl rfl) (pe_cmpR op_geA (pe_callB call_absA (by rfl) T.m_abs (by decide +kernel) (pa_cons (pe_callTy call_intA (by rfl) T.m_int (by decide +kernel) (pa_cons (pv 0) pa_nil)) pa_nil)) (pe_op op_powA pe_int pe_int) (nomark _)))
      (pss_cons (ps_set (i := 4) sc__law_numbers.nd rfl (.inl rfl) (pe_op (op_addK (K := K) rfl) (pe_op op_mulA pe_int (pe_callB call_absA (by rfl) T.m_abs (by decide +kernel) (pa_cons (pe_callTy call_intA (by rfl) T.m_int (by decide +kernel) (pa_cons (pv 0) pa_nil)) pa_nil))) (pe_callTy call_intA (by rfl) T.m_int (by decide +kernel) (pa_cons (pe_cmpR op_ltA (pv 0) pe_int (nomark _)) pa_nil))))
      (pss_cons (ps_own (ps_set (i := 5) sc__law_numbers.nd rfl (.inl rfl) (pe_lst pa_nil)))
      (pss_cons (ps_for PassesOwn.never rfl (pi_range1 (by rfl) T.m_range (pa_cons (pv 2) pa_nil)) (pg_name (i := 6) sc__law_numbers.nd rfl (.inl rfl)) (pss_one (ps_if (pt_val (pv 3)) (pss_cons (ps_expr (pe_K (fun K => tBM K "list" rAppend _ _) (K := K) rfl (pe_bm PySem.F.plainAttrs_list PySem.F.slot_list_append PySem.F.type_list_append mt_append (pv 5) (pa_cons (pe_op op_modA (pe_callTy call_intA (by rfl) T.m_int (by decide +kernel) (pa_cons (pv 4) pa_nil)) pe_int) pa_nil))))
      (pss_one (ps_set (i := 4) sc__law_numbers.nd rfl (.inl rfl) (pe_op op_divA (pv 4) pe_int)))) (pss_cons (ps_set (i := 7) sc__law_numbers.nd rfl (.inl rfl) (pe_op op_modA (pe_callTy call_intA (by rfl) T.m_int (by decide +kernel) (pa_cons (pe_op (op_addK (K := K) rfl) (pe_op (op_addK (K := K) rfl) (pe_op (op_addK (K := K) rfl) (pe_op op_mulA (pv 4) pe_int) (pe_op op_mulA (pv 1) pe_int)) (pe_op op_mulA (pv 6) pe_int)) pe_int) pa_nil)) pe_int))
      (pss_cons (ps_set (i := 7) sc__law_numbers.nd rfl (.inl rfl) (pe_op op_modA (pe_callTy call_intA (by rfl) T.m_int (by decide +kernel) (pa_cons (pe_op (op_addK (K := K) rfl) (pe_op (op_addK (K := K) rfl) (pe_op op_mulA (pv 7) (pv 7)) (pe_op op_mulA (pv 6) pe_int)) pe_int) pa_nil)) pe_int))
      (pss_cons (ps_set (i := 7) sc__law_numbers.nd rfl (.inl rfl) (pe_op op_modA (pe_callTy call_intA (by rfl) T.m_int (by decide +kernel) (pa_cons (pe_op (op_addK (K := K) rfl) (pe_op (op_addK (K := K) rfl) (pe_op op_mulA (pv 7) (pv 7)) (pe_op op_mulA (pv 1) pe_int)) pe_int) pa_nil)) pe_int))
      (pss_one (ps_expr (pe_K (fun K => tBM K "list" rAppend _ _) (K := K) rfl (pe_bm PySem.F.plainAttrs_list PySem.F.slot_list_append PySem.F.type_list_append mt_append (pv 5) (pa_cons (pe_op op_modA (pe_callTy call_intA (by rfl) T.m_int (by decide +kernel) (pa_cons (pe_op op_divA (pv 7) pe_int) pa_nil)) pe_int) pa_nil)))))))))))
      (pss_one (ps_ret (pv 5))))))), run_def h (fun ds O R X c hK hE hX hp => ?_)⟩)
  subst hK; clear h hr
  try dsimp only [cxOf, Cx.nox, Cx.wish]
  have hcl_Ask := T.cl_Ask; have hna_Ask_most := T.nA_Ask_most; have hna_Ask_prompt := T.nA_Ask_prompt; have hna_Ask_rule := T.nA_Ask_rule; have hna_Ask_stops := T.nA_Ask_stops; have hna_Ask_tape := T.nA_Ask_tape; have hcl_Rule := T.cl_Rule; have hna_Rule_start := T.nA_Rule_start; have hna_Rule_steps := T.nA_Rule_steps
  obtain ⟨cell, at_, many, rfl, h0, h1, k⟩ := hp
  walk_at "al"
  refine vs_for (fun i A => ∃ (rest : Int) (ns : List Int) (z1 z2 : Option SV) (b : Bool), A = ⟨[some (.val (.int cell)), some (.val (.int at_)), some (.val (.int many)), some (.val (.bl b)), some (.val (.int rest)), some (.own (.lst (ns.map .int))), z1, z2], O⟩ ∧ ns.length = i ∧ AllN ns) ?_
  walk_at "al"
  refine ⟨many, rfl, by omega, by omega, ⟨_, [], none, none, _, rfl, rfl, fun n h => (nomatch h)⟩, ?_, ?_⟩
  · rintro i d A2 hd ⟨rest, ns, z1, z2, b, rfl, hl, ha⟩
    obtain ⟨hi, rfl⟩ := intsD_at hd
    walk_at "al"
    refine ⟨fun hb => ?_, fun hb => ?_⟩
    · walk_at "al"
      refine ⟨_, rfl, by rw [List.length_map]; omega, ?_⟩
      walk_at "al"
      exact ⟨_, ns ++ [rest % 1000], _, _, _, by rw [List.map_append]; rfl, by rw [List.length_append, hl]; rfl, ha.app (by omega)⟩
    · walk_at "al"
      refine ⟨_, rfl, by rw [List.length_map]; omega, ?_⟩
      refine ⟨rest, ns ++ [_], _, _, _, by rw [List.map_append]; rfl, by rw [List.length_append, hl]; rfl, ha.app ?_⟩
      omega
  · rintro A2 ⟨rest, ns, z1, z2, b, rfl, hl, ha⟩
    walk_at "al"
    rw [intsD_len] at hl
    exact k ns (by omega) ha

set_option maxHeartbeats 8000000 in
theorem ok__law_same (T : Tx K mg) : ∀ k : Nat, FnOk P w K mg base CX0 (k + 1) T.a__law_same T.fd__law_same ["actual", "expected"] (SpA K (C__law_same k)) := by
  intro k
  induction k with
  | zero => exact ⟨fun vs H Q E h => SpA.len len__law_same h, fun A outer s H args us vs Q E hr e b v h => (none__law_same h).elim⟩
  | succ k G__law_same =>
  refine T.F__law_same.ok sc__law_same (fun vs H Q E h => SpA.len len__law_same h) (fun cdv A outer s H vs Q E hr h => ⟨_, (pss_cons (ps_if (pt_cmpR op_isA (pv 1) pe_non (nomark _)) (pss_one (ps_ret (pe_cmpR op_isA (pv 0) pe_non (nomark _)))) pss_nil)
      (pss_cons (ps_if (pt_val (pe_callB (call_isiK (K := K) rfl) (by rfl) T.m_isinstance (by decide +kernel) (pa_cons (pv 1) (pa_cons (pe_bltn (v := .ty "str") (u := .type "str") (by rfl) T.m_str (by decide +kernel) rfl) pa_nil)))) (pss_one (ps_ret (pe_and (pe_callB (call_isiK (K := K) rfl) (by rfl) T.m_isinstance (by decide +kernel) (pa_cons (pv 0) (pa_cons (pe_bltn (v := .ty "str") (u := .type "str") (by rfl) T.m_str (by decide +kernel) rfl) pa_nil))) (pe_one (pe_cmpR (op_eqK (K := K) rfl hr.units) (pv 0) (pv 1) (nomark _)))))) pss_nil)
      (pss_cons (ps_if (pt_val (pe_callB (call_isiK (K := K) rfl) (by rfl) T.m_isinstance (by decide +kernel) (pa_cons (pv 1) (pa_cons (pe_bltn (v := .ty "bool") (u := .type "bool") (by rfl) T.m_bool (by decide +kernel) rfl) pa_nil)))) (pss_one (ps_ret (pe_and (pe_callB (call_isiK (K := K) rfl) (by rfl) T.m_isinstance (by decide +kernel) (pa_cons (pv 0) (pa_cons (pe_bltn (v := .ty "bool") (u := .type "bool") (by rfl) T.m_bool (by decide +kernel) rfl) pa_nil))) (pe_one (pe_cmpR (op_eqK (K := K) rfl hr.units) (pv 0) (pv 1) (nomark _)))))) pss_nil)
      (pss_cons (ps_if (pt_val (pe_callB (call_isiK (K := K) rfl) (by rfl) T.m_isinstance (by decide +kernel) (pa_cons (pv 1) (pa_cons (pe_bltn (v := .ty "int") (u := .type "int") (by rfl) T.m_int (by decide +kernel) rfl) pa_nil)))) (pss_one (ps_ret (pe_and (pe_callB (call_isiK (K := K) rfl) (by rfl) T.m_isinstance (by decide +kernel) (pa_cons (pv 0) (pa_cons (pe_bltn (v := .ty "int") (u := .type "int") (by rfl) T.m_int (by decide +kernel) rfl) pa_nil))) (pe_and (pe_not (pe_callB (call_isiK (K := K) rfl) (by rfl) T.m_isinstance (by decide +kernel) (pa_cons (pv 0) (pa_cons (pe_bltn (v := .ty "bool") (u := .type "bool") (by rfl) T.m_bool (by decide +kernel) rfl) pa_nil)))) (pe_one (pe_cmpR (op_eqK (K := K) rfl hr.units) (pv 0) (pv 1) (nomark _))))))) pss_nil)
      (pss_cons (ps_if (PW.pt (pw_or (pt_not (pt_val (pe_callB (call_isiK (K := K) rfl) (by rfl) T.m_isinstance (by decide +kernel) (pa_cons (pv 0) (pa_cons (pe_bltn (v := .ty "tuple") (u := .type "tuple") (by rfl) T.m_tuple (by decide +kernel) rfl) pa_nil))))) (pw_or1 (pt_cmpR (op_neK (K := K) rfl hr.units) (pe_callB (call_lenK (K := K) rfl) (by rfl) T.m_len (by decide +kernel) (pa_cons (pv 0) pa_nil)) (pe_callB (call_lenK (K := K) rfl) (by rfl) T.m_len (by decide +kernel) (pa_cons (pv 1) pa_nil)) (nomark _))))) (pss_one (ps_ret pe_bl)) pss_nil)
      (pss_cons (ps_for PassesOwn.never rfl (pi_range1 (by rfl) T.m_range (pa_cons (pe_callB (call_lenK (K := K) rfl) (by rfl) T.m_len (by decide +kernel) (pa_cons (pv 1) pa_nil)) pa_nil)) (pg_name (i := 2) sc__law_same.nd rfl (.inl rfl)) (pss_one (ps_if (pt_not (pt_val (pe_call G__law_same hr (by rfl) T.g__law_same T.F__law_same.kp T.b__law_same .nil pass0 (pa_cons (pe_ix (ix_seqK (K := K) rfl) (pv 0) (pv 2) (fun _ _ => rfl)) (pa_cons (pe_ix (ix_seqK (K := K) rfl) (pv 1) (pv 2) (fun _ _ => rfl)) pa_nil))))) (pss_one (ps_ret pe_bl)) pss_nil)))
      (pss_one (ps_ret pe_bl)))))))), run_def h (fun ds O R X c hK hE hX hp => ?_)⟩)
  subst hK; clear h hr
  try dsimp only [cxOf, Cx.nox, Cx.wish]
  have hcl_Ask := T.cl_Ask; have hna_Ask_most := T.nA_Ask_most; have hna_Ask_prompt := T.nA_Ask_prompt; have hna_Ask_rule := T.nA_Ask_rule; have hna_Ask_stops := T.nA_Ask_stops; have hna_Ask_tape := T.nA_Ask_tape; have hcl_Rule := T.cl_Rule; have hna_Rule_start := T.nA_Rule_start; have hna_Rule_steps := T.nA_Rule_steps
  obtain ⟨a, e, rfl, ha, he, q⟩ := hp
  have fin : ∀ {b : Bool}, sameK (k + 1) a e = b → R O (.bl b) := fun {b} z => z ▸ q
  cases e <;> first
    | exact (he : False).elim
    | (walk_at "al"
       cases a <;> first
        | exact (ha : False).elim
        | (walk_at "al" <;> exact fin rfl)
        | skip)
  rename_i es as
  walk_at "al"
  refine ⟨fun hb => ?_, fun hb => ?_⟩
  · walk_at "al"
    refine fin ?_
    have hb : ¬ as.length = es.length := fun z => by rw [z] at hb; simp at hb
    simp [sameK, hb]
  · have hb : as.length = es.length := by
      have z : (as.length : Int) = es.length := by simpa using hb
      omega
    walk_at "al"
    refine vs_for (fun i A => ∃ z, A = ⟨[some (.val (.tup as)), some (.val (.tup es)), z], O⟩ ∧ ∀ j : Nat, j < i → sameK k (as.getD j .non) (es.getD j .non) = true) ?_
    walk_at "al"
    have hel : es.length < 1000 := he.1
    refine ⟨_, rfl, by omega, by omega, ⟨none, rfl, fun j h => absurd h (Nat.not_lt_zero _)⟩, ?_, ?_⟩
    · rintro i d A2 hd ⟨z, rfl, hz⟩
      obtain ⟨hi, rfl⟩ := intsD_at hd
      have hi : i < es.length := by omega
      have hia : i < as.length := by omega
      walk_at "al"
      refine od_ixT (ds := as) rfl (atI_of (by omega) (show as[(0 + (i : Int)).toNat]? = some (as.getD i .non) by rw [show (0 + (i : Int)).toNat = i by omega, List.getElem?_eq_getElem hia, getD_lt hia])) ?_
      walk_at "al"
      refine od_ixT (ds := es) rfl (atI_of (by omega) (show es[(0 + (i : Int)).toNat]? = some (es.getD i .non) by rw [show (0 + (i : Int)).toNat = i by omega, List.getElem?_eq_getElem hi, getD_lt hi])) ?_
      walk_at "al"
      refine ⟨_, _, rfl, by rw [getD_lt hia]; exact ha.2 _ (List.getElem_mem hia), by rw [getD_lt hi]; exact he.2 _ (List.getElem_mem hi), ?_⟩
      walk_at "al"
      refine ⟨fun hc => ?_, fun hc => ?_⟩
      · walk_at "al"
        refine fin ?_
        have hc : sameK k (as.getD i .non) (es.getD i .non) = false := by simpa using hc
        simp only [sameK, hb, decide_true, Bool.true_and]
        exact List.all_eq_false.mpr ⟨i, List.mem_range.mpr hi, by rw [hc]; exact Bool.false_ne_true⟩
      · have hc : sameK k (as.getD i .non) (es.getD i .non) = true := by simpa using hc
        walk_at "al"
        refine ⟨_, rfl, fun j hj => ?_⟩
        by_cases e : j = i
        · subst e; exact hc
        · exact hz j (by omega)
    · rintro A2 ⟨z, rfl, hz⟩
      walk_at "al"
      refine fin ?_
      simp only [sameK, hb, decide_true, Bool.true_and]
      refine List.all_eq_true.mpr fun j hj => ?_
      rw [intsD_len] at hz
      exact hz j (by have := List.mem_range.mp hj; omega)

set_option maxHeartbeats 8000000 in
theorem ok__law_after (T : Tx K mg) : FnOk P w K mg base CX0 1 T.a__law_after T.fd__law_after ["rule", "text"] (SpA K C__law_after) := by
  refine Fun.ok T.F__law_after sc__law_after (fun vs H Q E h => SpA.len len__law_after h) (fun cdv A outer s H vs Q E hr h => ⟨_, (pss_cons (ps_set (i := 2) sc__law_after.nd rfl (.inl rfl) (pe_ix (ix_seqK (K := K) rfl) (pv 0) pe_int (fun _ _ => rfl)))
      (pss_cons (ps_for PassesOwn.never rfl (pi_K (fun K => iSeq K _) (K := K) rfl (pi_seq (pv 1))) (pg_name (i := 3) sc__law_after.nd rfl (.inl rfl)) (pss_one (ps_if (pt_cmpR op_notA (pv 2) pe_non (nomark _)) (pss_one (ps_set (i := 2) sc__law_after.nd rfl (.inl rfl) (pe_ix (ix_seqK (K := K) rfl) (pe_ix (ix_seqK (K := K) rfl) (pe_ix (ix_seqK (K := K) rfl) (pv 0) pe_int (fun _ _ => rfl)) (pv 2) (fun _ _ => rfl)) (pv 3) (fun _ _ => rfl)))) pss_nil)))
      (pss_one (ps_ret (pv 2))))), run_def h (fun ds O R X c hK hE hX hp => ?_)⟩)
  subst hK; clear h hr
  try dsimp only [cxOf, Cx.nox, Cx.wish]
  have hcl_Ask := T.cl_Ask; have hna_Ask_most := T.nA_Ask_most; have hna_Ask_prompt := T.nA_Ask_prompt; have hna_Ask_rule := T.nA_Ask_rule; have hna_Ask_stops := T.nA_Ask_stops; have hna_Ask_tape := T.nA_Ask_tape; have hcl_Rule := T.cl_Rule; have hna_Rule_start := T.nA_Rule_start; have hna_Rule_steps := T.nA_Rule_steps
  obtain ⟨r, L, d, text, rfl, hd, hw, hl, k⟩ := hp
  walk_at "als"
  refine od_ixT (ds := [.int (r.start : Nat), .tup (r.steps.map dStep)]) rfl (atI_of (by decide) rfl) ?_
  walk_at "als"
  refine vs_seq ?_
  refine vs_forI (α := Option Nat) [3] (fun s => [(2, some (.val (dOp s)))]) (fun _ => O) (fun _ i s => (∀ x, s = some x → x < r.steps.length) ∧ (text.drop i).foldl (fun s l => s.bind fun s => rstI r s l) s = afterI r text) ?_
  walk_at "als"
  refine ⟨_, hd.sq, ⟨some r.start, rfl, fun x e => by cases e; exact hw.s0, rfl⟩, ?_, ?_⟩
  · rintro i g s hg ⟨hs, hm⟩
    rw [List.map_map, List.getElem?_map] at hg
    obtain ⟨l, hi, rfl⟩ : ∃ l : Nat, text[i]? = some l ∧ g = .int (l : Nat) := by
      cases e : text[i]? with
      | none => rw [e] at hg; cases hg
      | some kk => rw [e] at hg; cases hg; exact ⟨kk, rfl, rfl⟩
    have hll := hl l (List.mem_of_getElem? hi)
    rw [drop_at hi, List.foldl_cons] at hm
    cases s with
    | none =>
      walk_at "als"
      refine vs_if ?_
      walk_at "als"
      exact ⟨none, rfl, fun x e => (nomatch e), hm⟩
    | some s =>
      have hs := hs s rfl
      rw [dOp_some]
      walk_at "als"
      refine vs_if ?_
      walk_at "als"
      refine od_ixT (ds := [.int (r.start : Nat), .tup (r.steps.map dStep)]) rfl (atI_of (by decide) rfl) ?_
      walk_at "als"
      refine od_ixT (ds := r.steps.map dStep) rfl (atI_map (x := r.steps.getD s []) (by omega) (by rw [show ((s : Nat) : Int).toNat = s by omega, List.getElem?_eq_getElem hs, getD_lt hs])) ?_
      walk_at "als"
      have hr := hw.row _ (List.getElem_mem hs)
      refine od_ixT (ds := (r.steps.getD s []).map dOp) rfl (atI_map (x := (r.steps.getD s []).getD l none) (by omega) (by rw [show ((l : Nat) : Int).toNat = l by omega, getD_lt hs, List.getElem?_eq_getElem (by rw [hr.1]; exact hll), getD_lt (by rw [hr.1]; exact hll)])) ?_
      walk_at "als"
      exact ⟨rstI r s l, rfl, fun x e => step_wf hw hs hll e, hm⟩
  · rintro s ⟨hs, hm⟩
    rw [List.length_map, List.length_map, List.drop_length] at hm
    walk_at "als"
    rw [show s = afterI r text from hm]
    exact k

set_option maxHeartbeats 8000000 in
theorem ok__law_counted (T : Tx K mg) (G__law_after : FnOk P w K mg base CX0 1 T.a__law_after T.fd__law_after ["rule", "text"] (SpA K C__law_after)) : FnOk P w K mg base CX0 2 T.a__law_counted T.fd__law_counted ["weights", "rule", "text"] (SpA K C__law_counted) := by
  refine Fun.ok T.F__law_counted sc__law_counted (fun vs H Q E h => SpA.len len__law_counted h) (fun cdv A outer s H vs Q E hr h => ⟨_, (pss_cons (ps_own (ps_set (i := 3) sc__law_counted.nd rfl (.inl rfl) (pe_callTy (call_listK (K := K) rfl) (by rfl) T.m_list (by decide +kernel) (pa_cons (pv 0) pa_nil))))
      (pss_cons (ps_if (pt_cmpR op_notA (pv 1) pe_non (nomark _)) (pss_cons (ps_set (i := 4) sc__law_counted.nd rfl (.inl rfl) (pe_call G__law_after (hr.mono (by decide)) (by rfl) T.g__law_after T.F__law_after.kp T.b__law_after .nil pass0 (pa_cons (pv 1) (pa_cons (pv 2) pa_nil))))
      (pss_one (ps_for PassesOwn.never rfl (pi_range1 (by rfl) T.m_range (pa_cons (pe_callB (call_lenK (K := K) rfl) (by rfl) T.m_len (by decide +kernel) (pa_cons (pv 0) pa_nil)) pa_nil)) (pg_name (i := 5) sc__law_counted.nd rfl (.inl rfl)) (pss_one (ps_if (PW.pt (pw_or (pt_cmpR op_isA (pv 4) pe_non (nomark _)) (pw_or1 (pt_cmpR op_isA (pe_ix (ix_seqK (K := K) rfl) (pe_ix (ix_seqK (K := K) rfl) (pe_ix (ix_seqK (K := K) rfl) (pv 1) pe_int (fun _ _ => rfl)) (pv 4) (fun _ _ => rfl)) (pv 5) (fun _ _ => rfl)) pe_non (nomark _))))) (pss_one (ps_asg pe_int (pg_sub (pv 3) (pv 5) set_list))) pss_nil))))) pss_nil)
      (pss_one (ps_ret (pv 3))))), run_def h (fun ds O R X c hK hE hX hp => ?_)⟩)
  subst hK; clear h hr
  try dsimp only [cxOf, Cx.nox, Cx.wish]
  have hcl_Ask := T.cl_Ask; have hna_Ask_most := T.nA_Ask_most; have hna_Ask_prompt := T.nA_Ask_prompt; have hna_Ask_rule := T.nA_Ask_rule; have hna_Ask_stops := T.nA_Ask_stops; have hna_Ask_tape := T.nA_Ask_tape; have hcl_Rule := T.cl_Rule; have hna_Rule_start := T.nA_Rule_start; have hna_Rule_steps := T.nA_Rule_steps
  obtain ⟨ru, L, d, ws, t, text, rfl, hd, ht, hr, hwl, hL, hl, k⟩ := hp
  walk_at "als"
  refine cn_listS hd ?_
  walk_at "als"
  refine vs_cutI (α := Unit) [4, 5] (fun _ => [(3, some (.own (.lst ((countedI ru ws text).map .int))))]) (fun _ => O) (fun _ => True) ?_ ?_
  · cases ru with
    | none =>
      refine vs_if ?_
      walk_at "als"
      exact ⟨(), rfl, trivial⟩
    | some r =>
      have hr := hr r rfl
      refine vs_if ?_
      walk_at "als"
      refine ⟨r, L, t, text, rfl, ht, hr, hl, ?_⟩
      walk_at "als"
      refine vs_forN (α := Unit) [5] (fun i _ => [(3, some (.own (.lst (((countedI (some r) ws text).take i ++ ws.drop i).map .int))))]) (fun _ _ => O) (fun _ _ _ => True) ?_
      walk_at "als"
      refine cb_lenS hd ?_
      walk_at "als"
      refine ⟨_, rfl, by omega, by omega, ⟨(), rfl, trivial⟩, ?_, ?_⟩
      · rintro i g _ hg -
        obtain ⟨hi, rfl⟩ := intsD_at hg
        have hi : i < ws.length := by omega
        have hcl : (countedI (some r) ws text).length = ws.length := counted_len
        have hca := counted_at (r := r) (text := text) hi
        generalize countedI (some r) ws text = cs at *
        have hml : (cs.take i ++ ws.drop i).length = ws.length := by rw [List.length_append, List.length_take, List.length_drop]; omega
        have step0 : letsI r text i = false → List.set ((cs.take i ++ ws.drop i).map D.int) i (D.int 0) = (cs.take (i + 1) ++ ws.drop (i + 1)).map D.int := fun h => by
          rw [h, if_neg (by decide)] at hca
          rw [← mix_next hcl hca, List.map_set]
        have step1 : letsI r text i = true → (cs.take i ++ ws.drop i) = cs.take (i + 1) ++ ws.drop (i + 1) := fun h => by
          rw [h, if_pos rfl] at hca
          exact mix_same hca (by rw [List.getElem?_eq_getElem hi, getD_lt hi])
        unfold letsI at step0 step1
        cases e : afterI r text with
        | none =>
          rw [e] at step0
          walk_at "als"
          refine vs_if ?_
          walk_at "als"
          refine vs_setitem ?_
          walk_at "als"
          refine ⟨_, rfl, ?_⟩
          walk_at "als"
          refine ⟨_, i, rfl, by rw [List.length_map, hml]; exact (ixN_of (by omega) (by omega)).trans (by congr 1; omega), (), ?_, trivial⟩
          rw [step0 rfl]; rfl
        | some s =>
          rw [e] at step0 step1
          have hs := afterI_wf hr hl e
          have hrr := hr.row _ (List.getElem_mem hs)
          rw [dOp_some]
          walk_at "als"
          refine vs_if ?_
          walk_at "als"
          refine od_ixT (ds := [.int (r.start : Nat), .tup (r.steps.map dStep)]) rfl (atI_of (by decide) rfl) ?_
          walk_at "als"
          refine od_ixT (ds := r.steps.map dStep) rfl (atI_map (x := r.steps.getD s []) (by omega) (by rw [show ((s : Nat) : Int).toNat = s by omega, List.getElem?_eq_getElem hs, getD_lt hs])) ?_
          walk_at "als"
          refine od_ixT (ds := (r.steps.getD s []).map dOp) rfl (atI_map (x := (r.steps.getD s []).getD i none) (by omega) (by rw [show ((0 : Int) + (i : Nat)).toNat = i by omega, getD_lt hs, List.getElem?_eq_getElem (by rw [hrr.1]; omega), getD_lt (by rw [hrr.1]; omega)])) ?_
          walk_at "als"
          have e3 : ((some s).bind fun s => rstI r s i) = (r.steps.getD s []).getD i none := rfl
          rw [e3] at step0 step1
          cases e2 : (r.steps.getD s []).getD i none with
          | none =>
            rw [e2] at step0
            refine od_is (b := true) rfl ?_
            walk_at "als"
            refine vs_setitem ?_
            walk_at "als"
            refine ⟨_, rfl, ?_⟩
            walk_at "als"
            refine ⟨_, i, rfl, by rw [List.length_map, hml]; exact (ixN_of (by omega) (by omega)).trans (by congr 1; omega), (), ?_, trivial⟩
            rw [step0 rfl]; rfl
          | some x =>
            rw [e2] at step1
            refine od_is (b := false) rfl ?_
            walk_at "als"
            refine ⟨(), ?_, trivial⟩
            rw [← step1 rfl]; rfl
      · rintro _ -
        rw [intsD_len]
        refine ⟨(), ?_, trivial⟩
        rw [show ((countedI (some r) ws text).take (ws.length : Int).toNat ++ ws.drop (ws.length : Int).toNat) = countedI (some r) ws text by rw [List.take_of_length_le (by rw [counted_len]; omega), List.drop_eq_nil_of_le (by omega), List.append_nil]]
        rfl
  · rintro _ -
    walk_at "als"
    exact k

set_option maxHeartbeats 8000000 in
theorem ok__law_choice (T : Tx K mg) (G__law_counted : FnOk P w K mg base CX0 2 T.a__law_counted T.fd__law_counted ["weights", "rule", "text"] (SpA K C__law_counted)) : FnOk P w K mg base CX0 3 T.a__law_choice T.fd__law_choice ["weights", "rule", "tape", "text"] (SpA K C__law_choice) := by
  refine Fun.ok T.F__law_choice sc__law_choice (fun vs H Q E h => SpA.len len__law_choice h) (fun cdv A outer s H vs Q E hr h => ⟨_, (pss_cons (ps_set (i := 4) sc__law_choice.nd rfl (.inl rfl) (pe_call G__law_counted (hr.mono (by decide)) (by rfl) T.g__law_counted T.F__law_counted.kp T.b__law_counted .nil pass0 (pa_cons (pv 0) (pa_cons (pv 1) (pa_cons (pv 3) pa_nil)))))
      (pss_cons (ps_if (pt_cmpR (op_eqK (K := K) rfl hr.units) (pe_callB (call_sumK (K := K) rfl rfl) (by rfl) T.m_sum (by decide +kernel) (pa_cons (pv 4) pa_nil)) pe_int (nomark _)) (pss_one (ps_ret pe_non)) pss_nil)
      (pss_cons (ps_if (pt_cmpR (op_eqK (K := K) rfl hr.units) (pe_callB (call_lenK (K := K) rfl) (by rfl) T.m_len (by decide +kernel) (pa_cons (pv 2) pa_nil)) pe_int (nomark _)) (pss_one (ps_ret (pe_K (fun K => tIndexA K _ _) (K := K) rfl (pe_orE (pe_bm PySem.F.plainAttrs_list PySem.F.slot_list_index PySem.F.type_list_index mt_index (pv 4) (pa_cons (pe_callB (call_maxK (K := K) rfl rfl) (by rfl) T.m_max (by decide +kernel) (pa_cons (pv 4) pa_nil)) pa_nil)) (pe_indexT (pv 4) (pa_cons (pe_callB (call_maxK (K := K) rfl rfl) (by rfl) T.m_max (by decide +kernel) (pa_cons (pv 4) pa_nil)) pa_nil) PySem.F.slot_tuple_index))))) pss_nil)
      (pss_cons (ps_set (i := 5) sc__law_choice.nd rfl (.inl rfl) (pe_op op_modA (pe_callTy call_intA (by rfl) T.m_int (by decide +kernel) (pa_cons (pe_ix (ix_seqK (K := K) rfl) (pv 2) (pe_op op_modA (pe_callTy call_intA (by rfl) T.m_int (by decide +kernel) (pa_cons (pe_callB (call_lenK (K := K) rfl) (by rfl) T.m_len (by decide +kernel) (pa_cons (pv 3) pa_nil)) pa_nil)) (pe_callB (call_lenK (K := K) rfl) (by rfl) T.m_len (by decide +kernel) (pa_cons (pv 2) pa_nil))) (fun _ _ => rfl)) pa_nil)) (pe_callB (call_sumK (K := K) rfl rfl) (by rfl) T.m_sum (by decide +kernel) (pa_cons (pv 4) pa_nil))))
      (pss_cons (ps_set (i := 6) sc__law_choice.nd rfl (.inl rfl) pe_int)
      (pss_cons (ps_for PassesOwn.never rfl (pi_range1 (by rfl) T.m_range (pa_cons (pe_callB (call_lenK (K := K) rfl) (by rfl) T.m_len (by decide +kernel) (pa_cons (pv 4) pa_nil)) pa_nil)) (pg_name (i := 7) sc__law_choice.nd rfl (.inl rfl)) (pss_one (ps_if (pt_cmpR op_geA (pv 5) (pe_callB (call_sumK (K := K) rfl rfl) (by rfl) T.m_sum (by decide +kernel) (pa_cons (pe_slice (sl_K (K := K) rfl) (pv 4) po_none (po_some (pe_op (op_addK (K := K) rfl) (pv 7) pe_int))) pa_nil)) (nomark _)) (pss_one (ps_set (i := 6) sc__law_choice.nd rfl (.inl rfl) (pe_op (op_addK (K := K) rfl) (pv 7) pe_int))) pss_nil)))
      (pss_one (ps_ret (pv 6))))))))), run_def h (fun ds O R X c hK hE hX hp => ?_)⟩)
  subst hK; clear h hr
  try dsimp only [cxOf, Cx.nox, Cx.wish]
  have hcl_Ask := T.cl_Ask; have hna_Ask_most := T.nA_Ask_most; have hna_Ask_prompt := T.nA_Ask_prompt; have hna_Ask_rule := T.nA_Ask_rule; have hna_Ask_stops := T.nA_Ask_stops; have hna_Ask_tape := T.nA_Ask_tape; have hcl_Rule := T.cl_Rule; have hna_Rule_start := T.nA_Rule_start; have hna_Rule_steps := T.nA_Rule_steps
  obtain ⟨ru, tape, L, d, ws, t, text, rfl, hd, ht, hr, h0, hwl, hL, hx, hl, htl, htp, k⟩ := hp
  walk_at "als"
  refine ⟨ru, L, d, ws, t, text, rfl, hd, ht, hr, hwl, hL, hl, ?_⟩
  have hcl : (countedI ru ws text).length = ws.length := counted_len
  have hcn := counted_nn (r := ru) (text := text) hx
  simp only [choiceI] at k
  generalize countedI ru ws text = cs at *
  walk_at "als"
  refine vs_seq (vs_if ?_)
  walk_at "als"
  refine cb_sumL rfl ?_
  walk_at "als"
  refine ⟨fun hb => ?_, fun hb => ?_⟩
  · rw [if_pos (of_decide_eq_true hb)] at k
    walk_at "als"
    exact k fun c hc => nomatch hc
  have hs : ¬ cs.sum = 0 := of_decide_eq_false hb
  rw [if_neg hs] at k
  have hsp : 0 < cs.sum := by have := sumNN hcn; omega
  walk_at "als"
  refine vs_seq (vs_if ?_)
  walk_at "als"
  rw [List.length_map]
  refine ⟨fun hb => ?_, fun hb => ?_⟩
  · have hb : tape = [] := List.eq_nil_of_length_eq_zero (by have := of_decide_eq_true hb; omega)
    rw [if_pos hb] at k
    walk_at "als"
    refine we_indexS (by rfl) (.inl rfl) ?_
    walk_at "als"
    refine cb_maxL (ns := cs) rfl (by omega) fun M hM hmax => ?_
    walk_at "als"
    obtain ⟨j, hj, hn⟩ := firstAt hM
    have hA : IsArg cs j := ⟨M, hj, hmax, hn⟩
    have hjl := (List.getElem?_eq_some_iff.mp hj).1
    refine ⟨M, j, rfl, hj, hn, ?_⟩
    rw [argI_of hA] at k
    exact k fun c hc => by cases hc; omega
  · have hb : ¬ tape = [] := fun z => (of_decide_eq_false hb) (by rw [z]; rfl)
    rw [if_neg hb] at k
    have htp0 : 0 < tape.length := by
      cases e : tape with
      | nil => exact absurd e hb
      | cons x y => exact Nat.succ_pos _
    walk_at "als"
    refine cb_lenS ht ?_
    walk_at "als"
    rw [List.length_map, List.length_map]
    have e1 := Int.emod_nonneg (text.length : Int) (show (tape.length : Int) ≠ 0 by omega)
    have e2 := Int.emod_lt_of_pos (text.length : Int) (show 0 < (tape.length : Int) by omega)
    refine od_mod (by omega) ?_
    walk_at "als"
    refine od_ixT (ds := tape.map D.int) rfl (atI_ints e1 e2) ?_
    walk_at "als"
    refine cb_sumL rfl ?_
    walk_at "als"
    rw [show ((text.length : Int) % (tape.length : Int)).toNat = text.length % tape.length by omega]
    generalize tape.getD (text.length % tape.length) 0 = number at *
    have hr0 := Int.emod_nonneg number (show cs.sum ≠ 0 by omega)
    have hr1 := Int.emod_lt_of_pos number hsp
    refine vs_seq ?_
    refine vs_forI (α := Nat) [7] (fun l => [(6, some (.val (.int (l : Nat))))]) (fun _ => O) (fun _ i l => Let cs (number % cs.sum) i l) ?_
    walk_at "als"
    refine ⟨_, rfl, by rw [List.length_map]; omega, by omega, ⟨0, rfl, Nat.le_refl _, by simpa using hr0, fun j a b => by omega⟩, ?_, ?_⟩
    · rintro j g l hg ⟨hL1, hL2, hL3⟩
      obtain ⟨hjl, rfl⟩ := intsD_at hg
      have hjl : j < cs.length := by rw [List.length_map] at hjl; omega
      walk_at "als"
      refine vs_if ?_
      walk_at "als"
      refine we_slL ?_
      walk_at "als"
      refine ⟨_, rfl, rfl, trivial, ?_⟩
      rw [cutD_to (by omega), ← List.map_take, show (0 + (j : Int) + 1).toNat = j + 1 by omega]
      walk_at "als"
      refine cb_sumL rfl ?_
      walk_at "als"
      refine ⟨fun hb => ?_, fun hb => ?_⟩
      · have hb := of_decide_eq_true hb
        walk_at "als"
        refine ⟨j + 1, ?_, Nat.le_refl _, hb, fun a b c => by omega⟩
        rw [show ((j + 1 : Nat) : Int) = 0 + (j : Int) + 1 by omega]; rfl
      · have hb := of_decide_eq_false hb
        walk_at "als"
        refine ⟨l, rfl, by omega, hL2, fun a b c => ?_⟩
        by_cases e : a = j + 1
        · subst e; omega
        · exact hL3 a b (by omega)
    · intro l hl'
      rw [intsD_len, List.length_map] at hl'
      obtain ⟨b, hb2⟩ : ∃ b, IsBy cs (number % cs.sum) b := by
        have key : ∀ m : Nat, m ≤ cs.length → number % cs.sum < (cs.take m).sum → ∃ l, IsBy cs (number % cs.sum) l := fun m => by
          induction m with
          | zero => intro _ h; simp at h; omega
          | succ m ih =>
            intro hm h
            by_cases c : number % cs.sum < (cs.take m).sum
            · exact ih (by omega) c
            · exact ⟨m, by omega, by omega, h⟩
        exact key cs.length (Nat.le_refl _) (by rwa [List.take_length])
      have e3 : b = l := let_by hcn (by rw [show ((cs.length : Int)).toNat = cs.length by omega] at hl'; exact hl') hb2
      rw [byI_of hcn hb2, e3] at k
      have hbl := hb2.1
      walk_at "als"
      exact k fun c hc => by cases hc; omega

set_option maxHeartbeats 8000000 in
theorem ok__law_rule (T : Tx K mg) : FnOk P w K mg base CX0 1 T.a__law_rule T.fd__law_rule ["numbers", "k", "letters"] (SpA K C__law_rule) := by
  refine Fun.ok T.F__law_rule sc__law_rule (fun vs H Q E h => SpA.len len__law_rule h) (fun cdv A outer s H vs Q E hr h => ⟨_, (pss_cons (ps_if (pt_cmpR op_gtA (pe_op op_modA (pe_callTy call_intA (by rfl) T.m_int (by decide +kernel) (pa_cons (pe_ix (ix_seqK (K := K) rfl) (pv 0) (pv 1) (fun _ _ => rfl)) pa_nil)) pe_int) pe_int (nomark _)) (pss_one (ps_ret pe_non)) pss_nil)
      (pss_cons (ps_set (i := 3) sc__law_rule.nd rfl (.inl rfl) (pe_op (op_addK (K := K) rfl) pe_int (pe_op op_modA (pe_callTy call_intA (by rfl) T.m_int (by decide +kernel) (pa_cons (pe_ix (ix_seqK (K := K) rfl) (pv 0) (pe_op (op_addK (K := K) rfl) (pv 1) pe_int) (fun _ _ => rfl)) pa_nil)) pe_int)))
      (pss_cons (ps_own (ps_set (i := 4) sc__law_rule.nd rfl (.inl rfl) (pe_lst pa_nil)))
      (pss_cons (ps_for PassesOwn.never rfl (pi_range1 (by rfl) T.m_range (pa_cons (pv 3) pa_nil)) (pg_name (i := 5) sc__law_rule.nd rfl (.inl rfl)) (pss_cons (ps_own (ps_set (i := 6) sc__law_rule.nd rfl (.inl rfl) (pe_lst pa_nil)))
      (pss_cons (ps_for PassesOwn.never rfl (pi_range1 (by rfl) T.m_range (pa_cons (pv 2) pa_nil)) (pg_name (i := 7) sc__law_rule.nd rfl (.inl rfl)) (pss_cons (ps_set (i := 8) sc__law_rule.nd rfl (.inl rfl) (pe_ix (ix_seqK (K := K) rfl) (pv 0) (pe_op (op_addK (K := K) rfl) (pe_op (op_addK (K := K) rfl) (pe_op (op_addK (K := K) rfl) (pv 1) pe_int) (pe_op op_mulA (pv 5) (pv 2))) (pv 7)) (fun _ _ => rfl)))
      (pss_one (ps_expr (pe_K (fun K => tBM K "list" rAppend _ _) (K := K) rfl (pe_bm PySem.F.plainAttrs_list PySem.F.slot_list_append PySem.F.type_list_append mt_append (pv 6) (pa_cons (pe_ix (ix_seqK (K := K) rfl) (pe_lst (pa_cons (pe_op op_modA (pe_callTy call_intA (by rfl) T.m_int (by decide +kernel) (pa_cons (pv 8) pa_nil)) (pv 3)) (pa_cons (pe_op op_modA (pe_callTy call_intA (by rfl) T.m_int (by decide +kernel) (pa_cons (pv 8) pa_nil)) (pv 3)) (pa_cons (pe_op op_modA (pe_callTy call_intA (by rfl) T.m_int (by decide +kernel) (pa_cons (pv 8) pa_nil)) (pv 3)) (pa_cons pe_non pa_nil))))) (pe_op op_modA (pe_callTy call_intA (by rfl) T.m_int (by decide +kernel) (pa_cons (pe_op op_divA (pv 8) pe_int) pa_nil)) pe_int) (fun _ _ => rfl)) pa_nil)))))))
      (pss_one (ps_expr (pe_K (fun K => tBM K "list" rAppend _ _) (K := K) rfl (pe_bm PySem.F.plainAttrs_list PySem.F.slot_list_append PySem.F.type_list_append mt_append (pv 4) (pa_cons (pe_callTy (call_tupK (K := K) rfl) (by rfl) T.m_tuple (by decide +kernel) (pa_cons (pv 6) pa_nil)) pa_nil))))))))
      (pss_one (ps_ret (pe_tupP (pa_cons (pe_op op_modA (pe_callTy call_intA (by rfl) T.m_int (by decide +kernel) (pa_cons (pe_ix (ix_seqK (K := K) rfl) (pv 0) (pe_op (op_addK (K := K) rfl) (pv 1) pe_int) (fun _ _ => rfl)) pa_nil)) (pv 3)) (pa_cons (pe_callTy (call_tupK (K := K) rfl) (by rfl) T.m_tuple (by decide +kernel) (pa_cons (pv 4) pa_nil)) pa_nil))))))))), run_def h (fun ds O R X c hK hE hX hp => ?_)⟩)
  subst hK; clear h hr
  try dsimp only [cxOf, Cx.nox, Cx.wish]
  have hcl_Ask := T.cl_Ask; have hna_Ask_most := T.nA_Ask_most; have hna_Ask_prompt := T.nA_Ask_prompt; have hna_Ask_rule := T.nA_Ask_rule; have hna_Ask_stops := T.nA_Ask_stops; have hna_Ask_tape := T.nA_Ask_tape; have hcl_Rule := T.cl_Rule; have hna_Rule_start := T.nA_Rule_start; have hna_Rule_steps := T.nA_Rule_steps
  obtain ⟨ns, k', L, rfl, hN, h0, h12, hk, hlen, k⟩ := hp
  refine vs_seq (vs_if ?_)
  walk_at "aln"
  refine br (fun _ => ?_) (fun _ => ?_)
  · walk_at "aln"
    exact k none (fun r h => nomatch h)
  walk_at "aln"
  rename_i _ _ _ _ v hv0 hv1
  obtain ⟨S, hS, hS6⟩ := modN (x := v) (m := 6) (by decide)
  rw [show v % 6 = (S : Int) from hS, show (1 : Int) + (S : Int) = ((1 + S : Nat) : Int) by omega]
  generalize hSS : 1 + S = S1
  have hS1 : 1 ≤ S1 ∧ S1 ≤ 6 := by omega
  clear hSS hS hS6
  refine vs_seq ?_
  walk_at "fl"
  refine vs_forI (α := List (List (Option Nat))) [5, 6, 7, 8] (fun a => [(4, some (.own (.lst (a.map dStep))))]) (fun _ => O) (fun _ i a => a.length = i ∧ ∀ row ∈ a, row.length = L ∧ ∀ s, some s ∈ row → s < S1) ?_
  walk_at "aln"
  refine ⟨_, rfl, by omega, by omega, ⟨[], rfl, rfl, fun row h => nomatch h⟩, ?_, ?_⟩
  · rintro i g a hg ⟨hal, har⟩
    obtain ⟨hi, rfl⟩ := intsD_at hg
    have hi : i < S1 := by omega
    walk_at "fl"
    walk_at "aln"
    walk_at "fl"
    refine vs_seq ?_
    refine vs_forI (α := List (Option Nat)) [7, 8] (fun a => [(6, some (.own (.lst (a.map dOp))))]) (fun _ => O) (fun _ j a => a.length = j ∧ ∀ s, some s ∈ a → s < S1) ?_
    walk_at "aln"
    refine ⟨_, rfl, by omega, by omega, ⟨[], rfl, rfl, fun s h => nomatch h⟩, ?_, ?_⟩
    · rintro j g row hg ⟨hrl, hrs⟩
      obtain ⟨hj, rfl⟩ := intsD_at hg
      have hj : j < L := by omega
      have e1 : (0 + (i : Int)) * (L : Int) = ((i * L : Nat) : Int) := by rw [Int.zero_add]; exact (Int.natCast_mul i L).symm
      have e2 : i * L ≤ 5 * L := Nat.mul_le_mul_right L (by omega)
      walk_at "fl"
      walk_at "aln"
      rename_i u hu0 hu1
      refine od_ixAll (P := fun d => ∃ o, d = dOp o ∧ ∀ s, o = some s → s < S1) rfl (by omega) (by show _ < ((4 : Nat) : Int); omega) ?_ ?_
      · obtain ⟨s, hs, hs2⟩ := modN (x := u) (m := S1) (by omega)
        intro d hd
        rw [hs] at hd
        simp only [List.mem_cons, List.not_mem_nil, or_false] at hd
        rcases hd with rfl | rfl | rfl | rfl
        · exact ⟨some s, rfl, fun x e => by cases e; exact hs2⟩
        · exact ⟨some s, rfl, fun x e => by cases e; exact hs2⟩
        · exact ⟨some s, rfl, fun x e => by cases e; exact hs2⟩
        · exact ⟨none, rfl, fun x e => nomatch e⟩
      rintro _ ⟨o, rfl, ho⟩
      walk_at "aln"
      refine ⟨_, rfl, by rw [List.length_map]; omega, row ++ [o], ?_, by rw [List.length_append, hrl]; rfl, fun s hs => ?_⟩
      · rw [List.map_append]; rfl
      · rcases List.mem_append.mp hs with h | h
        · exact hrs s h
        · rw [List.mem_singleton] at h; exact ho s h.symm
    · rintro row ⟨hrl, hrs⟩
      rw [intsD_len] at hrl
      walk_at "aln"
      refine ⟨_, rfl, by rw [List.length_map]; omega, a ++ [row], ?_, by rw [List.length_append, hal]; rfl, fun r hr => ?_⟩
      · rw [List.map_append]; rfl
      · rcases List.mem_append.mp hr with h | h
        · exact har r h
        · rw [List.mem_singleton] at h; subst h; exact ⟨by omega, hrs⟩
  · rintro a ⟨hal, har⟩
    rw [intsD_len] at hal
    walk_at "aln"
    rename_i u hu0 hu1
    obtain ⟨s, hs, hs2⟩ := modN (x := u) (m := S1) (by omega)
    rw [hs]
    exact k (some ⟨s, a⟩) fun r h => by
      cases h
      exact ⟨show s < a.length by omega, show a.length ≤ 100 by omega, by omega, fun row hrow => ⟨(har row hrow).1, fun s h => by have := (har row hrow).2 s h; show s < a.length; omega⟩⟩

set_option maxHeartbeats 8000000 in
theorem ok__law_stops (T : Tx K mg) : FnOk P w K mg base CX0 1 T.a__law_stops T.fd__law_stops ["numbers", "k", "letters"] (SpA K C__law_stops) := by
  refine Fun.ok T.F__law_stops sc__law_stops (fun vs H Q E h => SpA.len len__law_stops h) (fun cdv A outer s H vs Q E hr h => ⟨_, (pss_cons (ps_own (ps_set (i := 3) sc__law_stops.nd rfl (.inl rfl) (pe_lst pa_nil)))
      (pss_cons (ps_for PassesOwn.never rfl (pi_range1 (by rfl) T.m_range (pa_cons (pe_ix (ix_seqK (K := K) rfl) (pe_lst (pa_cons pe_int (pa_cons pe_int (pa_cons pe_int (pa_cons pe_int (pa_cons pe_int (pa_cons pe_int pa_nil))))))) (pe_op op_modA (pe_callTy call_intA (by rfl) T.m_int (by decide +kernel) (pa_cons (pe_ix (ix_seqK (K := K) rfl) (pv 0) (pv 1) (fun _ _ => rfl)) pa_nil)) pe_int) (fun _ _ => rfl)) pa_nil)) (pg_name (i := 4) sc__law_stops.nd rfl (.inl rfl)) (pss_cons (ps_own (ps_set (i := 5) sc__law_stops.nd rfl (.inl rfl) (pe_lst pa_nil)))
      (pss_cons (ps_for PassesOwn.never rfl (pi_range1 (by rfl) T.m_range (pa_cons (pe_op (op_addK (K := K) rfl) pe_int (pe_op op_modA (pe_callTy call_intA (by rfl) T.m_int (by decide +kernel) (pa_cons (pe_ix (ix_seqK (K := K) rfl) (pv 0) (pe_op (op_addK (K := K) rfl) (pe_op (op_addK (K := K) rfl) (pv 1) pe_int) (pe_op op_mulA pe_int (pv 4))) (fun _ _ => rfl)) pa_nil)) pe_int)) pa_nil)) (pg_name (i := 6) sc__law_stops.nd rfl (.inl rfl)) (pss_one (ps_expr (pe_K (fun K => tBM K "list" rAppend _ _) (K := K) rfl (pe_bm PySem.F.plainAttrs_list PySem.F.slot_list_append PySem.F.type_list_append mt_append (pv 5) (pa_cons (pe_op op_modA (pe_callTy call_intA (by rfl) T.m_int (by decide +kernel) (pa_cons (pe_ix (ix_seqK (K := K) rfl) (pv 0) (pe_op (op_addK (K := K) rfl) (pe_op (op_addK (K := K) rfl) (pe_op (op_addK (K := K) rfl) (pv 1) pe_int) (pe_op op_mulA pe_int (pv 4))) (pv 6)) (fun _ _ => rfl)) pa_nil)) (pv 2)) pa_nil))))))
      (pss_one (ps_expr (pe_K (fun K => tBM K "list" rAppend _ _) (K := K) rfl (pe_bm PySem.F.plainAttrs_list PySem.F.slot_list_append PySem.F.type_list_append mt_append (pv 3) (pa_cons (pe_callTy (call_tupK (K := K) rfl) (by rfl) T.m_tuple (by decide +kernel) (pa_cons (pv 5) pa_nil)) pa_nil))))))))
      (pss_one (ps_ret (pe_callTy (call_tupK (K := K) rfl) (by rfl) T.m_tuple (by decide +kernel) (pa_cons (pv 3) pa_nil)))))), run_def h (fun ds O R X c hK hE hX hp => ?_)⟩)
  subst hK; clear h hr
  try dsimp only [cxOf, Cx.nox, Cx.wish]
  have hcl_Ask := T.cl_Ask; have hna_Ask_most := T.nA_Ask_most; have hna_Ask_prompt := T.nA_Ask_prompt; have hna_Ask_rule := T.nA_Ask_rule; have hna_Ask_stops := T.nA_Ask_stops; have hna_Ask_tape := T.nA_Ask_tape; have hcl_Rule := T.cl_Rule; have hna_Rule_start := T.nA_Rule_start; have hna_Rule_steps := T.nA_Rule_steps
  obtain ⟨ns, k', L, rfl, hN, h0, hk, hlen, k⟩ := hp
  walk_at "aln"
  refine vs_seq ?_
  walk_at "fl"
  refine vs_forI (α := List (List Nat)) [4, 5, 6] (fun a => [(3, some (.own (.lst (a.map dTx))))]) (fun _ => O) (fun ds i a => ds.length ≤ 4 ∧ a.length = i ∧ ∀ s ∈ a, s.length ≤ 4 ∧ ∀ l ∈ s, l < L) ?_
  walk_at "aln"
  refine od_ixAll (P := fun d => ∃ m : Nat, d = .int (m : Nat) ∧ m ≤ 4) rfl (by omega) (by show _ < ((6 : Nat) : Int); omega) ?_ ?_
  · intro d hd
    simp only [List.mem_cons, List.not_mem_nil, or_false] at hd
    rcases hd with rfl | rfl | rfl | rfl | rfl | rfl
    · exact ⟨0, rfl, by decide⟩
    · exact ⟨0, rfl, by decide⟩
    · exact ⟨1, rfl, by decide⟩
    · exact ⟨2, rfl, by decide⟩
    · exact ⟨3, rfl, by decide⟩
    · exact ⟨4, rfl, by decide⟩
  rintro _ ⟨m, rfl, hm⟩
  walk_at "aln"
  refine ⟨_, rfl, by omega, by omega, ⟨[], rfl, by rw [intsD_len]; omega, rfl, fun row h => nomatch h⟩, ?_, ?_⟩
  · rintro i g a hg ⟨hdl, hal, har⟩
    obtain ⟨hi, rfl⟩ := intsD_at hg
    have hi : i < m := by omega
    walk_at "fl"
    walk_at "aln"
    refine vs_seq ?_
    walk_at "fl"
    refine vs_forI (α := List Nat) [6] (fun a => [(5, some (.own (.lst (dL a))))]) (fun _ => O) (fun ds j a => ds.length ≤ 4 ∧ a.length = j ∧ ∀ l ∈ a, l < L) ?_
    walk_at "aln"
    refine ⟨_, rfl, by omega, by omega, ⟨[], rfl, by rw [intsD_len]; omega, rfl, fun s h => nomatch h⟩, ?_, ?_⟩
    · rintro j g row hg ⟨hdl2, hrl, hrs⟩
      rw [intsD_len] at hdl2
      obtain ⟨hj, rfl⟩ := intsD_at hg
      have hj : j < 4 := by omega
      walk_at "fl"
      walk_at "aln"
      rename_i u hu0 hu1
      obtain ⟨s, hs, hs2⟩ := modN (x := u) (m := L) h0
      rw [hs]
      refine ⟨_, rfl, by rw [dL_len]; omega, row ++ [s], ?_, by rw [intsD_len]; omega, by rw [List.length_append, hrl]; rfl, fun l hl => ?_⟩
      · rw [dL_app]; rfl
      · rcases List.mem_append.mp hl with h | h
        · exact hrs l h
        · rw [List.mem_singleton] at h; subst h; exact hs2
    · rintro row ⟨hdl2, hrl, hrs⟩
      rw [intsD_len] at hrl hdl2
      walk_at "aln"
      refine ⟨_, rfl, by rw [List.length_map]; omega, a ++ [row], ?_, hdl, by rw [List.length_append, hal]; rfl, fun r hr => ?_⟩
      · rw [List.map_append]; rfl
      · rcases List.mem_append.mp hr with h | h
        · exact har r h
        · rw [List.mem_singleton] at h; subst h; exact ⟨by omega, hrs⟩
  · rintro a ⟨hdl, hal, har⟩
    walk_at "aln"
    exact k a (by omega) har

set_option maxHeartbeats 8000000 in
theorem ok__law_tape (T : Tx K mg) : FnOk P w K mg base CX0 1 T.a__law_tape T.fd__law_tape ["numbers", "k"] (SpA K AQ.C__law_tape) := by
  refine Fun.ok T.F__law_tape sc__law_tape (fun vs H Q E h => SpA.len AQ.len__law_tape h) (fun cdv A outer s H vs Q E hr h => ⟨_, (pss_cons (ps_own (ps_set (i := 2) sc__law_tape.nd rfl (.inl rfl) (pe_lst pa_nil)))
      (pss_cons (ps_for PassesOwn.never rfl (pi_range1 (by rfl) T.m_range (pa_cons (pe_ix (ix_seqK (K := K) rfl) (pe_lst (pa_cons pe_int (pa_cons pe_int (pa_cons pe_int (pa_cons pe_int (pa_cons (pe_op op_modA (pe_callTy call_intA (by rfl) T.m_int (by decide +kernel) (pa_cons (pe_ix (ix_seqK (K := K) rfl) (pv 0) (pv 1) (fun _ _ => rfl)) pa_nil)) pe_int) pa_nil)))))) (pe_op op_modA (pe_callTy call_intA (by rfl) T.m_int (by decide +kernel) (pa_cons (pe_op op_divA (pe_ix (ix_seqK (K := K) rfl) (pv 0) (pv 1) (fun _ _ => rfl)) pe_int) pa_nil)) pe_int) (fun _ _ => rfl)) pa_nil)) (pg_name (i := 3) sc__law_tape.nd rfl (.inl rfl)) (pss_one (ps_expr (pe_K (fun K => tBM K "list" rAppend _ _) (K := K) rfl (pe_bm PySem.F.plainAttrs_list PySem.F.slot_list_append PySem.F.type_list_append mt_append (pv 2) (pa_cons (pe_op (op_addK (K := K) rfl) (pe_op op_mulA (pe_ix (ix_seqK (K := K) rfl) (pv 0) (pe_op (op_addK (K := K) rfl) (pe_op (op_addK (K := K) rfl) (pv 1) pe_int) (pe_op op_mulA pe_int (pv 3))) (fun _ _ => rfl)) pe_int) (pe_ix (ix_seqK (K := K) rfl) (pv 0) (pe_op (op_addK (K := K) rfl) (pe_op (op_addK (K := K) rfl) (pv 1) pe_int) (pe_op op_mulA pe_int (pv 3))) (fun _ _ => rfl))) pa_nil))))))
      (pss_one (ps_ret (pe_callTy (call_tupK (K := K) rfl) (by rfl) T.m_tuple (by decide +kernel) (pa_cons (pv 2) pa_nil)))))), run_def h (fun ds O R X c hK hE hX hp => ?_)⟩)
  subst hK; clear h hr
  try dsimp only [cxOf, Cx.nox, Cx.wish]
  have hcl_Ask := T.cl_Ask; have hna_Ask_most := T.nA_Ask_most; have hna_Ask_prompt := T.nA_Ask_prompt; have hna_Ask_rule := T.nA_Ask_rule; have hna_Ask_stops := T.nA_Ask_stops; have hna_Ask_tape := T.nA_Ask_tape; have hcl_Rule := T.cl_Rule; have hna_Rule_start := T.nA_Rule_start; have hna_Rule_steps := T.nA_Rule_steps
  obtain ⟨ns, k', rfl, hN, hk, hlen, k⟩ := hp
  walk_at "aln"
  refine vs_seq ?_
  walk_at "fl"
  refine vs_forI (α := List Int) [3] (fun a => [(2, some (.own (.lst (a.map .int))))]) (fun _ => O) (fun ds i a => ds.length ≤ 12 ∧ a.length = i ∧ ∀ z ∈ a, z.natAbs < 1000000) ?_
  walk_at "aln"
  rename_i u hu0 hu1 _ _ _
  obtain ⟨s, hs, hs2⟩ := modN (x := u) (m := 13) (by decide)
  rw [show u % 13 = (s : Int) from hs]
  refine od_ixAll (P := fun d => ∃ m : Nat, d = .int (m : Nat) ∧ m ≤ 12) rfl (by omega) (by show _ < ((5 : Nat) : Int); omega) ?_ ?_
  · intro d hd
    simp only [List.mem_cons, List.not_mem_nil, or_false] at hd
    rcases hd with rfl | rfl | rfl | rfl | rfl
    · exact ⟨0, rfl, by decide⟩
    · exact ⟨0, rfl, by decide⟩
    · exact ⟨1, rfl, by decide⟩
    · exact ⟨2, rfl, by decide⟩
    · exact ⟨s, rfl, by omega⟩
  rintro _ ⟨m, rfl, hm⟩
  walk_at "aln"
  refine ⟨_, rfl, by omega, by omega, ⟨[], rfl, by rw [intsD_len]; omega, rfl, fun z h => nomatch h⟩, ?_, ?_⟩
  · rintro i g a hg ⟨hdl, hal, haz⟩
    obtain ⟨hi, rfl⟩ := intsD_at hg
    have hi : i < m := by omega
    walk_at "fl"
    walk_at "aln"
    rename_i x hx0 hx1 y hy0 hy1
    refine ⟨_, rfl, by rw [List.length_map]; omega, a ++ [x * 1000 + y], ?_, hdl, by rw [List.length_append, hal]; rfl, fun z hz => by rcases List.mem_append.mp hz with h | h; exact haz z h; rw [List.mem_singleton] at h; omega⟩
    rw [List.map_append]; rfl
  · rintro a ⟨hdl, hal, haz⟩
    walk_at "aln"
    exact k a (by omega) haz

set_option maxHeartbeats 8000000 in
theorem ok__law_made (T : Tx K mg) (G_Ask___init__ : FnOk P w K mg base (L2N.CX P w) 3 T.a_Ask___init__ T.fd_Ask___init__ ["self", "prompt", "most", "stops", "tape", "rule"] (SpA K (AQ.C_Ask___init__ T.aC_Ask T.aC_InvalidNumber))) : FnOk P w K mg base CX0 5 T.a__law_made T.fd__law_made ["prompt", "most", "stops", "tape", "rule", "short"] (SpA K (C__law_made T.aC_Ask T.aC_Rule)) := by
  refine Fun.ok T.F__law_made sc__law_made (fun vs H Q E h => SpA.len len__law_made h) (fun cdv A outer s H vs Q E hr h => ⟨_, (pss_cons (ps_if (PW.pt (pw_and (pt_val (pv 5)) (pw_and (pt_cmpR (op_eqK (K := K) rfl hr.units) (pe_callB (call_lenK (K := K) rfl) (by rfl) T.m_len (by decide +kernel) (pa_cons (pv 2) pa_nil)) pe_int (nomark _)) (pw_and (pt_cmpR (op_eqK (K := K) rfl hr.units) (pe_callB (call_lenK (K := K) rfl) (by rfl) T.m_len (by decide +kernel) (pa_cons (pv 3) pa_nil)) pe_int (nomark _)) (pw_and1 (pt_cmpR op_isA (pv 4) pe_non (nomark _))))))) (pss_one (ps_ret (pe_make T.mk_Ask G_Ask___init__ (hr.mono (by decide)) (by rfl) T.mgC_Ask T.b_Ask___init__ T.v_Ask___init__ passN0 (pa_cons (pv 0) (pa_cons (pv 1) pa_nil))))) pss_nil)
      (pss_cons (ps_if (PW.pt (pw_and (pt_val (pv 5)) (pw_and (pt_cmpR (op_eqK (K := K) rfl hr.units) (pe_callB (call_lenK (K := K) rfl) (by rfl) T.m_len (by decide +kernel) (pa_cons (pv 3) pa_nil)) pe_int (nomark _)) (pw_and1 (pt_cmpR op_isA (pv 4) pe_non (nomark _)))))) (pss_one (ps_ret (pe_makeK T.mk_Ask G_Ask___init__ (hr.mono (by decide)) (by rfl) T.mgC_Ask T.kb_Ask___init___2.choose_spec passN0 (pa_cons (pv 0) (pa_cons (pv 1) pa_nil)) (pk_cons (pv 2) pk_nil)))) pss_nil)
      (pss_cons (ps_if (PW.pt (pw_and (pt_val (pv 5)) (pw_and (pt_cmpR (op_eqK (K := K) rfl hr.units) (pe_callB (call_lenK (K := K) rfl) (by rfl) T.m_len (by decide +kernel) (pa_cons (pv 2) pa_nil)) pe_int (nomark _)) (pw_and1 (pt_cmpR op_isA (pv 4) pe_non (nomark _)))))) (pss_one (ps_ret (pe_makeK T.mk_Ask G_Ask___init__ (hr.mono (by decide)) (by rfl) T.mgC_Ask T.kb_Ask___init___1.choose_spec passN0 (pa_cons (pv 0) (pa_cons (pv 1) pa_nil)) (pk_cons (pv 3) pk_nil)))) pss_nil)
      (pss_one (ps_ret (pe_makeK T.mk_Ask G_Ask___init__ (hr.mono (by decide)) (by rfl) T.mgC_Ask T.kb_Ask___init___0.choose_spec passN0 (pa_cons (pv 0) (pa_cons (pv 1) pa_nil)) (pk_cons (pv 2) (pk_cons (pv 3) (pk_cons (pv 4) pk_nil))))))))), run_def h (fun ds O R X c hK hE hX hp => ?_)⟩)
  subst hK; clear h hr
  try dsimp only [cxOf, Cx.nox, Cx.wish]
  have hcl_Ask := T.cl_Ask; have hna_Ask_most := T.nA_Ask_most; have hna_Ask_prompt := T.nA_Ask_prompt; have hna_Ask_rule := T.nA_Ask_rule; have hna_Ask_stops := T.nA_Ask_stops; have hna_Ask_tape := T.nA_Ask_tape; have hcl_Rule := T.cl_Rule; have hna_Rule_start := T.nA_Rule_start; have hna_Rule_steps := T.nA_Rule_steps
  obtain ⟨dp, dst, dtp, r, b, m, P, T', rows, S, rfl, hP, hst, hS, hT, hSl, hm1, hm2, k⟩ := hp
  have hf : isFromD (.int (m : Nat)) 1 30 = true := AU.isFromD_of (by omega) (by omega)
  have hrl := hS.1
  have fin : ∀ (dst2 dtp2 : D) (rows2 : List D), SeqO O dst2 rows2 → RowsD O rows2 S → SeqO O dtp2 T' → AQ.C_Ask___init__ T.aC_Ask T.aC_InvalidNumber [.ptr O.length, dp, .int (m : Nat), dst2, dtp2, dRu T.aC_Rule r] (O ++ [.ins T.c_Ask.aC []]) (fun O' d => d = .non ∧ ∃ fs, O'[O.length]? = some (.ins T.c_Ask.aC fs) ∧ R (O'.set O.length .gone) (.obj T.c_Ask.aC fs)) (fun _ _ _ => False) := fun dst2 dtp2 rows2 h1 h2 h3 => by
    refine ⟨O.length, dp, .int (m : Nat), dst2, dtp2, dRu T.aC_Rule r, P, T', rows2, S, rfl, by simp, .int _, hP.app, h1.app, h2.app, h3.app, by omega, fun h => (by rw [hf] at h; cases h), fun _ => ?_⟩
    refine ⟨rfl, askX P (.int (m : Nat)) S T' (dRu T.aC_Rule r), by simp, ?_⟩
    rw [AZ.mk_gone]
    exact k
  have eN : ∀ {xs : List D}, xs = [] → SeqO O (.tup []) xs := fun h => by subst h; exact .inr (.inl rfl)
  have eR : S = [] → RowsD O [] S := fun h => by subst h; exact ⟨rfl, fun k r y h1 => by simp at h1⟩
  have nS : decide ((rows.length : Int) = 0) = true → rows = [] ∧ S = [] := fun h => by have := of_decide_eq_true h; exact ⟨List.eq_nil_of_length_eq_zero (by omega), List.eq_nil_of_length_eq_zero (by omega)⟩
  have nT : decide ((T'.length : Int) = 0) = true → T' = [] := fun h => by have := of_decide_eq_true h; exact List.eq_nil_of_length_eq_zero (by omega)
  refine vs_cutI (α := Unit) [] (fun _ => []) (fun _ => O) (fun _ => True) ?_ ?_
  · refine vs_if ?_
    cases b with
    | false =>
      walk_at "go"
      exact ⟨(), rfl, trivial⟩
    | true =>
    walk_at "go"
    refine cb_lenO hst ?_
    walk_at "go"
    refine ⟨fun h1 => ?_, fun _ => ?_⟩
    rotate_left
    · walk_at "go"
      exact ⟨(), rfl, trivial⟩
    refine wt_and ?_
    walk_at "go"
    refine cb_lenO hT ?_
    walk_at "go"
    refine ⟨fun h2 => ?_, fun _ => ⟨fun h => (nomatch h), fun _ => ?_⟩⟩
    rotate_left
    · walk_at "go"
      exact ⟨(), rfl, trivial⟩
    cases r with
    | some r =>
      walk_at "go"
      exact ⟨(), rfl, trivial⟩
    | none =>
      walk_at "go"
      refine we_makeFD (dds := [.tup [], .tup [], .non]) (fun F mm => .cons (sq_empty T.kt_Ask___init___stops F mm) (.cons (sq_empty T.kt_Ask___init___tape F mm) (.cons .non .nil))) ?_
      walk_at "go"
      obtain ⟨z1, z2⟩ := nS h1
      have z3 := nT h2
      exact fin (.tup []) (.tup []) [] (.inr (.inl rfl)) (eR z2) (eN z3)
  rintro - -
  walk_at "fl"
  refine vs_cutI (α := Unit) [] (fun _ => []) (fun _ => O) (fun _ => True) ?_ ?_
  · refine vs_if ?_
    cases b with
    | false =>
      walk_at "go"
      exact ⟨(), rfl, trivial⟩
    | true =>
    walk_at "go"
    refine cb_lenO hT ?_
    walk_at "go"
    refine ⟨fun h1 => ?_, fun _ => ?_⟩
    rotate_left
    · walk_at "go"
      exact ⟨(), rfl, trivial⟩
    cases r with
    | some r =>
      walk_at "go"
      exact ⟨(), rfl, trivial⟩
    | none =>
      walk_at "go"
      refine we_makeKF (fun ds es => ds ++ ((es.drop 0).take 1 ++ (List.drop 0 [D.tup [], D.non]).take 1 ++ (List.drop 1 [D.tup [], D.non]).take 1)) (fun F mm _ _ _ _ a b => a.app ((((b.drop 0).take 1).app (Reps.take 1 (Reps.drop 0 (.cons (sq_empty T.kt_Ask___init___tape F mm) (.cons .non .nil))))).app (Reps.take 1 (Reps.drop 1 (.cons (sq_empty T.kt_Ask___init___tape F mm) (.cons .non .nil)))))) ?_
      walk_at "go"
      have z3 := nT h1
      exact ⟨rfl, rfl, fin dst (.tup []) rows hst hS (eN z3)⟩
  rintro - -
  walk_at "fl"
  refine vs_cutI (α := Unit) [] (fun _ => []) (fun _ => O) (fun _ => True) ?_ ?_
  · refine vs_if ?_
    cases b with
    | false =>
      walk_at "go"
      exact ⟨(), rfl, trivial⟩
    | true =>
    walk_at "go"
    refine cb_lenO hst ?_
    walk_at "go"
    refine ⟨fun h1 => ?_, fun _ => ?_⟩
    rotate_left
    · walk_at "go"
      exact ⟨(), rfl, trivial⟩
    cases r with
    | some r =>
      walk_at "go"
      exact ⟨(), rfl, trivial⟩
    | none =>
      walk_at "go"
      refine we_makeKF (fun ds es => ds ++ ((List.drop 0 [D.tup [], D.non]).take 1 ++ (es.drop 0).take 1 ++ (List.drop 1 [D.tup [], D.non]).take 1)) (fun F mm _ _ _ _ a b => a.app (((Reps.take 1 (Reps.drop 0 (.cons (sq_empty T.kt_Ask___init___stops F mm) (.cons .non .nil)))).app ((b.drop 0).take 1)).app (Reps.take 1 (Reps.drop 1 (.cons (sq_empty T.kt_Ask___init___stops F mm) (.cons .non .nil)))))) ?_
      walk_at "go"
      obtain ⟨z1, z2⟩ := nS h1
      exact ⟨rfl, rfl, fin (.tup []) dtp [] (.inr (.inl rfl)) (eR z2) hT⟩
  rintro - -
  walk_at "fl"
  refine vs_ret (we_makeKF (fun ds es => ds ++ es) (fun _ _ _ _ _ _ a b => a.app b) ?_)
  walk_at "go"
  exact ⟨rfl, rfl, fin dst dtp rows hst hS hT⟩

set_option maxHeartbeats 8000000 in
theorem ok__law_refuses (T : Tx K mg) (G_Ask___init__ : FnOk P w K mg base (L2N.CX P w) 3 T.a_Ask___init__ T.fd_Ask___init__ ["self", "prompt", "most", "stops", "tape", "rule"] (SpA K (AQ.C_Ask___init__ T.aC_Ask T.aC_InvalidNumber))) : FnG P w K mg base CX0 5 T.a__law_refuses T.fd__law_refuses ["prompt", "most"] (SpA K (C__law_refuses T.aC_Ask)) := by
  refine okG T.F__law_refuses sc__law_refuses (fun vs H Q E h => SpA.len len__law_refuses h) (fun cdv A outer s H vs Q E hr hgd h => ⟨_, (pss_cons (ps_own (ps_set (i := 2) sc__law_refuses.nd rfl (.inl rfl) (pe_lst pa_nil)))
      (pss_cons (ps_try1N (K := K) (i := 3) rfl rfl rfl sc__law_refuses.nd rfl rfl ⟨by rfl, by decide, .inl T.mgC_ServeError⟩ (fun W pn xe tk => (pss_one (ps_expr (pe_makeS T.mk_Ask G_Ask___init__ (hr.mono (by decide)) (by rfl) T.mgC_Ask T.b_Ask___init__ T.v_Ask___init__ (fun σ => L2N.passAt tk σ) (pa_cons (pv 0) (pa_cons (pv 1) pa_nil)))))) (fun a oe cls d pn hz hf => (pss_cons (ps_if (pt_val (pe_callB (call_isXK (K := K) rfl hz.zc hf) (by rfl) T.m_isinstance (by decide +kernel) (pa_cons (pv 3) (pa_cons (pe_glob (v := .ref T.aC_InvalidNumber) rfl T.mgC_InvalidNumber rfl) pa_nil)))) (pss_one (ps_expr (pe_K (fun K => tBM K "list" rAppend _ _) (K := K) rfl (pe_bm PySem.F.plainAttrs_list PySem.F.slot_list_append PySem.F.type_list_append mt_append (pv 2) (pa_cons (pe_callB (call_reprK (K := K) rfl hgd hr.units) (by rfl) T.m_repr (by decide +kernel) (pa_cons (pe_xf T.xf_InvalidNumber T.nf_InvalidNumber hz.zc hf (pv 3)) pa_nil)) pa_nil))))) pss_nil)
      (pss_cons (ps_if (pt_val (pe_callB (call_isXK (K := K) rfl hz.zc hf) (by rfl) T.m_isinstance (by decide +kernel) (pa_cons (pv 3) (pa_cons (pe_tupP (pa_cons (pe_glob (v := .ref T.aC_InvalidLetter) rfl T.mgC_InvalidLetter rfl) (pa_cons (pe_glob (v := .ref T.aC_NoHouse) rfl T.mgC_NoHouse rfl) (pa_cons (pe_glob (v := .ref T.aC_NoRequest) rfl T.mgC_NoRequest rfl) (pa_cons (pe_glob (v := .ref T.aC_NoRoom) rfl T.mgC_NoRoom rfl) (pa_cons (pe_glob (v := .ref T.aC_NotAlone) rfl T.mgC_NotAlone rfl) (pa_cons (pe_glob (v := .ref T.aC_NotHeld) rfl T.mgC_NotHeld rfl) (pa_cons (pe_glob (v := .ref T.aC_TooLarge) rfl T.mgC_TooLarge rfl) pa_nil)))))))) pa_nil)))) (pss_one (ps_expr (pe_K (fun K => tBM K "list" rAppend _ _) (K := K) rfl (pe_bm PySem.F.plainAttrs_list PySem.F.slot_list_append PySem.F.type_list_append mt_append (pv 2) (pa_cons pe_str pa_nil))))) pss_nil)
      (pss_one (ps_if (pt_not (pt_val (pe_callB (call_isXK (K := K) rfl hz.zc hf) (by rfl) T.m_isinstance (by decide +kernel) (pa_cons (pv 3) (pa_cons (pe_bltn (v := .ty "ValueError") (u := .type "ValueError") (by rfl) T.m_ValueError (by decide +kernel) rfl) pa_nil))))) (pss_one (ps_expr (pe_K (fun K => tBM K "list" rAppend _ _) (K := K) rfl (pe_bm PySem.F.plainAttrs_list PySem.F.slot_list_append PySem.F.type_list_append mt_append (pv 2) (pa_cons pe_str pa_nil))))) pss_nil))))))
      (pss_one (ps_ret (pe_cmpR (op_eqK (K := K) rfl hr.units) (pv 2) (pe_lst (pa_cons (pe_callB (call_reprK (K := K) rfl hgd hr.units) (by rfl) T.m_repr (by decide +kernel) (pa_cons (pv 1) pa_nil)) pa_nil)) (nomark _)))))), run_def h (fun ds O R X c hK hE hX hp => ?_)⟩)
  subst hK; clear h hr
  try dsimp only [cxOf, Cx.nox, Cx.wish]
  have hcl_Ask := T.cl_Ask; have hna_Ask_most := T.nA_Ask_most; have hna_Ask_prompt := T.nA_Ask_prompt; have hna_Ask_rule := T.nA_Ask_rule; have hna_Ask_stops := T.nA_Ask_stops; have hna_Ask_tape := T.nA_Ask_tape; have hcl_Rule := T.cl_Rule; have hna_Rule_start := T.nA_Rule_start; have hna_Rule_steps := T.nA_Rule_steps; have hxc_InvalidNumber := T.xc_InvalidNumber; have hkv_InvalidNumber := T.kv_InvalidNumber; have hem_InvalidNumber := T.em_InvalidNumber; have hko_InvalidNumber_InvalidLetter := T.ko_InvalidNumber_InvalidLetter; have hko_InvalidNumber_InvalidNumber := T.ko_InvalidNumber_InvalidNumber; have hko_InvalidNumber_NoHouse := T.ko_InvalidNumber_NoHouse; have hko_InvalidNumber_NoRequest := T.ko_InvalidNumber_NoRequest; have hko_InvalidNumber_NoRoom := T.ko_InvalidNumber_NoRoom; have hko_InvalidNumber_NotAlone := T.ko_InvalidNumber_NotAlone; have hko_InvalidNumber_NotHeld := T.ko_InvalidNumber_NotHeld; have hko_InvalidNumber_ServeError := T.ko_InvalidNumber_ServeError; have hko_InvalidNumber_TooLarge := T.ko_InvalidNumber_TooLarge
  obtain ⟨p, dm, rfl, ⟨ho, pp, hp1, hp2, hp3⟩, hf, k⟩ := hp
  walk_at "go"
  refine vs_seq (ws_try fun W => ?_)
  walk_at "go"
  refine we_makeSD (dds := [.tup [], .tup [], .non]) (fun _ => rfl) (fun F mm => .cons (sq_empty T.kt_Ask___init___stops F mm) (.cons (sq_empty T.kt_Ask___init___tape F mm) (.cons .non .nil))) ?_
  walk_at "go"
  refine ⟨O.length, dTx p, dm, .tup [], .tup [], .non, dL p, [], [], [], rfl, by show (O ++ [Cell.ins T.c_Ask.aC []])[O.length]? = _; simp, ho, .inr (.inl rfl), .inr (.inl rfl), ⟨rfl, fun k r y h1 => by simp at h1⟩, .inr (.inl rfl), by decide, fun _ => ⟨T.em_InvalidNumber, fun a dx => ?_⟩, fun h => by rw [hf] at h; cases h⟩
  walk_at "alx"
  refine od_eqStr1 hp3 rfl ?_
  walk_at "alx"
  exact k

set_option maxHeartbeats 8000000 in
theorem ok__law_chosen (T : Tx K mg) (G_Ask_choice : FnOk P w K mg base CX0 4 T.a_Ask_choice T.fd_Ask_choice ["self", "weights", "text"] (SpA K (C_Ask_choice T.aC_Ask T.aC_Rule))) (G__law_choice : FnOk P w K mg base CX0 3 T.a__law_choice T.fd__law_choice ["weights", "rule", "tape", "text"] (SpA K C__law_choice)) (G__law_same : FnOk P w K mg base CX0 7 T.a__law_same T.fd__law_same ["actual", "expected"] (SpA K (C__law_same 6))) : FnOk P w K mg base CX0 8 T.a__law_chosen T.fd__law_chosen ["ask", "numbers", "letters", "rule", "tape"] (SpA K (C__law_chosen T.aC_Ask T.aC_Rule)) := by
  refine Fun.ok T.F__law_chosen sc__law_chosen (fun vs H Q E h => SpA.len len__law_chosen h) (fun cdv A outer s H vs Q E hr h => ⟨_, (pss_cons (ps_for PassesOwn.never rfl (pi_range1 (by rfl) T.m_range (pa_cons pe_int pa_nil)) (pg_name (i := 5) sc__law_chosen.nd rfl (.inr rfl)) (pss_cons (ps_own (ps_set (i := 6) sc__law_chosen.nd rfl (.inl rfl) (pe_lst pa_nil)))
      (pss_cons (ps_for PassesOwn.never rfl (pi_range1 (by rfl) T.m_range (pa_cons (pv 2) pa_nil)) (pg_name (i := 7) sc__law_chosen.nd rfl (.inl rfl)) (pss_cons (ps_set (i := 8) sc__law_chosen.nd rfl (.inl rfl) (pe_ix (ix_seqK (K := K) rfl) (pv 1) (pe_op op_modA (pe_callTy call_intA (by rfl) T.m_int (by decide +kernel) (pa_cons (pe_op (op_addK (K := K) rfl) (pe_op (op_addK (K := K) rfl) pe_int (pe_op op_mulA pe_int (pv 7))) (pv 5)) pa_nil)) (pe_callB (call_lenK (K := K) rfl) (by rfl) T.m_len (by decide +kernel) (pa_cons (pv 1) pa_nil))) (fun _ _ => rfl)))
      (pss_one (ps_expr (pe_K (fun K => tBM K "list" rAppend _ _) (K := K) rfl (pe_bm PySem.F.plainAttrs_list PySem.F.slot_list_append PySem.F.type_list_append mt_append (pv 6) (pa_cons (pe_ix (ix_seqK (K := K) rfl) (pe_lst (pa_cons pe_int (pa_cons pe_int (pa_cons (pe_op op_modA (pe_callTy call_intA (by rfl) T.m_int (by decide +kernel) (pa_cons (pe_op op_divA (pv 8) pe_int) pa_nil)) pe_int) (pa_cons (pe_op op_modA (pe_callTy call_intA (by rfl) T.m_int (by decide +kernel) (pa_cons (pe_op op_divA (pv 8) pe_int) pa_nil)) pe_int) pa_nil))))) (pe_op op_modA (pe_callTy call_intA (by rfl) T.m_int (by decide +kernel) (pa_cons (pv 8) pa_nil)) pe_int) (fun _ _ => rfl)) pa_nil)))))))
      (pss_cons (ps_if (pt_cmpR (op_eqK (K := K) rfl hr.units) (pe_callB (call_sumK (K := K) rfl rfl) (by rfl) T.m_sum (by decide +kernel) (pa_cons (pv 6) pa_nil)) pe_int (nomark _)) (pss_one (ps_asg pe_int (pg_sub (pv 6) (pe_op op_modA (pe_callTy call_intA (by rfl) T.m_int (by decide +kernel) (pa_cons (pe_ix (ix_seqK (K := K) rfl) (pv 1) pe_int (fun _ _ => rfl)) pa_nil)) (pv 2)) set_list))) pss_nil)
      (pss_cons (ps_set (i := 9) sc__law_chosen.nd rfl (.inl rfl) (pe_op op_modA (pe_callTy call_intA (by rfl) T.m_int (by decide +kernel) (pa_cons (pe_ix (ix_seqK (K := K) rfl) (pv 1) (pe_op (op_addK (K := K) rfl) pe_int (pv 5)) (fun _ _ => rfl)) pa_nil)) pe_int))
      (pss_cons (ps_setLc (i := 10) (own := [("k", 7)]) (g := gName 7) (tt := tYes) rfl sc__law_chosen.nd rfl rfl (sw_true rfl rfl rfl (by decide +kernel)) (pi_range1 (by rfl) T.m_range (pa_cons (pv 9) pa_nil)) (blkOk_by (N := n__law_chosen) (sc := defScope s__law_chosen) (by decide +kernel)) (fun _ _ _ _ _ => (pg_name (i := 7) sc__law_chosen.nd rfl (.inl rfl))) (fun _ _ _ _ _ => pts_nil) (fun _ _ _ _ _ => (pe_op op_modA (pe_callTy call_intA (by rfl) T.m_int (by decide +kernel) (pa_cons (pe_ix (ix_seqK (K := K) rfl) (pv 1) (pe_op op_modA (pe_callTy call_intA (by rfl) T.m_int (by decide +kernel) (pa_cons (pe_op (op_addK (K := K) rfl) (pe_op (op_addK (K := K) rfl) pe_int (pv 5)) (pe_op op_mulA pe_int (pv 7))) pa_nil)) (pe_callB (call_lenK (K := K) rfl) (by rfl) T.m_len (by decide +kernel) (pa_cons (pv 1) pa_nil))) (fun _ _ => rfl)) pa_nil)) (pv 2))))
      (pss_cons (ps_set (i := 11) sc__law_chosen.nd rfl (.inl rfl) (pe_lend (pe_call G__law_choice (hr.mono (by decide)) (by rfl) T.g__law_choice T.F__law_choice.kp T.b__law_choice .nil pass0 (pa_cons (pv 6) (pa_cons (pv 3) (pa_cons (pv 4) (pa_cons (pv 10) pa_nil)))))))
      (pss_cons (ps_set (i := 12) sc__law_chosen.nd rfl (.inl rfl) (pe_lst (pa_cons (pe_callTy (call_listK (K := K) rfl) (by rfl) T.m_list (by decide +kernel) (pa_cons (pv 6) pa_nil)) (pa_cons (pe_callTy (call_listK (K := K) rfl) (by rfl) T.m_list (by decide +kernel) (pa_cons (pv 10) pa_nil)) pa_nil))))
      (pss_cons (ps_if (pt_cmpR (op_eqK (K := K) rfl hr.units) (pe_op op_modA (pe_callTy call_intA (by rfl) T.m_int (by decide +kernel) (pa_cons (pe_op op_divA (pe_ix (ix_seqK (K := K) rfl) (pv 1) (pe_op (op_addK (K := K) rfl) pe_int (pv 5)) (fun _ _ => rfl)) pe_int) pa_nil)) pe_int) pe_int (nomark _)) (pss_one (ps_set (i := 12) sc__law_chosen.nd rfl (.inl rfl) (pe_lst (pa_cons (pe_callTy (call_tupK (K := K) rfl) (by rfl) T.m_tuple (by decide +kernel) (pa_cons (pv 6) pa_nil)) (pa_cons (pe_callTy (call_tupK (K := K) rfl) (by rfl) T.m_tuple (by decide +kernel) (pa_cons (pv 10) pa_nil)) pa_nil))))) pss_nil)
      (pss_cons (ps_if (pt_not (pt_val (pe_call G__law_same (hr.mono (by decide)) (by rfl) T.g__law_same T.F__law_same.kp T.b__law_same .nil pass0 (pa_cons (pe_meth (pv 0) T.cl_Ask T.meth_Ask_choice G_Ask_choice (hr.mono (by decide)) T.b_Ask_choice .nil pass0 (pa_cons (pe_ix (ix_seqK (K := K) rfl) (pv 12) pe_int (fun _ _ => rfl)) (pa_cons (pe_ix (ix_seqK (K := K) rfl) (pv 12) pe_int (fun _ _ => rfl)) pa_nil))) (pa_cons (pv 11) pa_nil))))) (pss_one (ps_ret pe_bl)) pss_nil)
      (pss_one (ps_if (PW.pt (pw_or (pt_cmpR (op_neK (K := K) rfl hr.units) (pe_callTy (call_listK (K := K) rfl) (by rfl) T.m_list (by decide +kernel) (pa_cons (pe_ix (ix_seqK (K := K) rfl) (pv 12) pe_int (fun _ _ => rfl)) pa_nil)) (pv 6) (nomark _)) (pw_or1 (pt_cmpR (op_neK (K := K) rfl hr.units) (pe_callTy (call_listK (K := K) rfl) (by rfl) T.m_list (by decide +kernel) (pa_cons (pe_ix (ix_seqK (K := K) rfl) (pv 12) pe_int (fun _ _ => rfl)) pa_nil)) (pv 10) (nomark _))))) (pss_one (ps_ret pe_bl)) pss_nil))))))))))))
      (pss_one (ps_ret pe_bl))), run_def h (fun ds O R X c hK hE hX hp => ?_)⟩)
  subst hK; clear h hr
  try dsimp only [cxOf, Cx.nox, Cx.wish]
  have hcl_Ask := T.cl_Ask; have hna_Ask_most := T.nA_Ask_most; have hna_Ask_prompt := T.nA_Ask_prompt; have hna_Ask_rule := T.nA_Ask_rule; have hna_Ask_stops := T.nA_Ask_stops; have hna_Ask_tape := T.nA_Ask_tape; have hcl_Rule := T.cl_Rule; have hna_Rule_start := T.nA_Rule_start; have hna_Rule_steps := T.nA_Rule_steps
  obtain ⟨a, ns, L, rfl, hN, hn0, hn30, hn1, hL0, hL12, hru, htl, hO, k⟩ := hp
  have hml : (List.map D.int ns).length = ns.length := List.length_map ..
  refine vs_seq ?_
  walk_at "fl"
  refine vs_forI (α := Unit) [5, 6, 7, 8, 9, 10, 11, 12] (fun _ => []) (fun _ => O) (fun _ _ _ => True) ?_
  walk_at "als"
  refine ⟨4, rfl, by decide, by decide, ⟨(), rfl, trivial⟩, ?_, ?_⟩
  · rintro j g _ hg -
    obtain ⟨hj, rfl⟩ := intsD_at hg
    have hj : j < 4 := hj
    walk_at "fl"
    walk_at "als"
    refine vs_seq ?_
    walk_at "fl"
    refine vs_forI (α := List Int) [7, 8] (fun w => [(6, some (.own (.lst (w.map .int))))]) (fun _ => O) (fun _ i w => w.length = i ∧ ∀ x ∈ w, 0 ≤ x ∧ x ≤ 1000) ?_
    walk_at "als"
    refine ⟨_, rfl, by omega, by omega, ⟨[], rfl, rfl, fun x h => nomatch h⟩, ?_, ?_⟩
    · rintro i g w hg ⟨hwl, hwb⟩
      obtain ⟨hi, rfl⟩ := intsD_at hg
      have hi : i < L := by omega
      have q0 := Int.emod_nonneg (100 + 7 * (0 + (i : Int)) + (0 + (j : Int))) (show (((List.map D.int ns).length : Nat) : Int) ≠ 0 by omega)
      have q1 := Int.emod_lt_of_pos (100 + 7 * (0 + (i : Int)) + (0 + (j : Int))) (show 0 < (((List.map D.int ns).length : Nat) : Int) by omega)
      walk_at "fl"
      walk_at "aln"
      rename_i v h0 h1
      refine od_ixAll (P := fun d => ∃ x : Int, d = .int x ∧ 0 ≤ x ∧ x ≤ 1000) rfl (by omega) (by walk_at "pk") ?_ ?_
      · intro d hd
        simp only [List.mem_cons, List.not_mem_nil, or_false] at hd
        rcases hd with rfl | rfl | rfl | rfl
        · exact ⟨0, rfl, by decide, by decide⟩
        · exact ⟨1, rfl, by decide, by decide⟩
        · exact ⟨_, rfl, by omega, by omega⟩
        · exact ⟨_, rfl, by omega, by omega⟩
      rintro _ ⟨x, rfl, hx0, hx1⟩
      walk_at "aln"
      refine ⟨_, rfl, by rw [List.length_map]; omega, w ++ [x], ?_, by rw [List.length_append, hwl]; rfl, fun y hy => ?_⟩
      · rw [List.map_append]; rfl
      · rcases List.mem_append.mp hy with h | h
        · exact hwb y h
        · rw [List.mem_singleton] at h; subst h; exact ⟨hx0, hx1⟩
    rintro w0 ⟨hwl0, hwb0⟩
    rw [intsD_len] at hwl0
    have hwl1 : w0.length = L := by omega
    clear hwl0
    have hwl0 := hwl1
    clear hwl1
    walk_at "fl"
    refine vs_cutI (α := List Int) [] (fun w => [(6, some (.own (.lst (w.map .int))))]) (fun _ => O) (fun w => w.length = L ∧ ∀ x ∈ w, 0 ≤ x ∧ x ≤ 1000) ?_ ?_
    · refine vs_if ?_
      walk_at "als"
      refine cb_sumL (ns := w0) rfl ?_
      walk_at "als"
      refine ⟨fun _ => ?_, fun _ => ?_⟩
      rotate_left
      · walk_at "als"
        exact ⟨w0, rfl, hwl0, hwb0⟩
      refine vs_setitem ?_
      walk_at "aln"
      refine ⟨_, rfl, ?_⟩
      walk_at "aln"
      rename_i v h0 h1
      obtain ⟨s, hs, hs2⟩ := modN (x := v) (m := L) hL0
      rw [hs]
      refine ⟨_, s, rfl, Evl.ixN_nat (by rw [List.length_map]; omega), ?_⟩
      refine ⟨w0.set s 1, ?_, by rw [List.length_set]; exact hwl0, fun x hx => ?_⟩
      · rw [List.map_set]; rfl
      · rcases List.mem_or_eq_of_mem_set hx with h | h
        · exact hwb0 x h
        · subst h; exact ⟨by decide, by decide⟩
    rintro w ⟨hwl, hwb⟩
    clear hwl0 hwb0
    walk_at "fl"
    walk_at "aln"
    rename_i v9 h90 h91
    obtain ⟨c9, hc9, hc92⟩ := modN (x := v9) (m := 9) (by decide)
    rw [show v9 % 9 = (c9 : Int) from hc9]
    refine wn_lcM (α := Nat) (fun k => .int (0 + (k : Nat))) (fun k => .int (ns.getD ((20 + (0 + (j : Int)) + 5 * (0 + (k : Int))) % (((List.map D.int ns).length : Nat) : Int)).toNat 0 % (L : Int))) (gok_name (by decide)) ?_
    walk_at "als"
    refine ⟨_, rfl, by omega, by omega, List.range c9, rfl, rfl, by rw [List.length_range]; omega, fun q hq => ?_, ?_⟩
    · have hql := List.mem_range.mp hq
      have q0 := Int.emod_nonneg (20 + (0 + (j : Int)) + 5 * (0 + (q : Int))) (show (((List.map D.int ns).length : Nat) : Int) ≠ 0 by omega)
      have q1 := Int.emod_lt_of_pos (20 + (0 + (j : Int)) + 5 * (0 + (q : Int))) (show 0 < (((List.map D.int ns).length : Nat) : Int) by omega)
      walk_at "als"
      exact ⟨rfl, by walk_at "keeps"⟩
    obtain ⟨ts, ets, hts, htsl⟩ := pickF (fun k => ns.getD ((20 + (0 + (j : Int)) + 5 * (0 + (k : Int))) % (((List.map D.int ns).length : Nat) : Int)).toNat 0) L c9 hL0
    rw [ets]
    walk_at "als"
    refine ⟨a.rule, a.tape, L, _, w, _, ts, rfl, .inl rfl, seqL ts, hru, by omega, by omega, by omega, fun x hx => (hwb x hx).1, hts, by omega, htl, fun hch => ?_⟩
    generalize hce : choiceI a.rule a.tape w ts = ch at hch
    refine ⟨by cases ch <;> constructor, hO, ?_⟩
    have kc : okE 6 (dOp ch) := okE_op ch
    walk_at "als"
    walk_at "fl"
    refine vs_cutI (α := D × D) [] (fun q => [(12, some (.val (.lst [q.1, q.2])))]) (fun _ => O) (fun q => Seq q.1 w ∧ Seq q.2 (ts.map Int.ofNat)) ?_ ?_
    · refine vs_if ?_
      walk_at "als"
      refine ⟨fun _ => ?_, fun _ => ?_⟩
      · walk_at "als"
        refine ⟨(.tup (w.map .int), .tup (dL ts)), rfl, .inr rfl, seqTx ts⟩
      · walk_at "als"
        exact ⟨(.lst (w.map .int), .lst (dL ts)), rfl, .inl rfl, seqL ts⟩
    rintro ⟨d1, d2⟩ ⟨hd1, hd2⟩
    dsimp only at hd1 hd2
    walk_at "fl"
    refine vs_seq (vs_if ?_)
    walk_at "als"
    refine od_ixL (ds := [d1, d2]) rfl (atI_of (by decide) rfl) ?_
    walk_at "als"
    refine od_ixL (ds := [d1, d2]) rfl (atI_of (by decide) rfl) ?_
    walk_at "als"
    refine ⟨a, L, d1, w, d2, ts, rfl, hd1, hd2, hru, by omega, by omega, by omega, fun x hx => (hwb x hx).1, hts, by omega, htl, fun _ => ?_⟩
    rw [hce]
    walk_at "als"
    refine ⟨_, _, rfl, okD_of 6 _ kc, kc, ?_⟩
    rw [same_refl 6 _ kc]
    walk_at "als"
    refine vs_if ?_
    walk_at "als"
    refine od_ixL (ds := [d1, d2]) rfl (atI_of (by decide) rfl) ?_
    walk_at "als"
    refine cn_listS hd1 ?_
    walk_at "als"
    refine od_neD (p := .list (w.map .int)) (q := .list (w.map .int)) (Py.lst (pys_ints w)) ⟨_, _, rfl, pys_ints w, rfl⟩ (shaped_ints _) (shaped_ints _) (eqv_ints _) ?_
    walk_at "als"
    refine od_ixL (ds := [d1, d2]) rfl (atI_of (by decide) rfl) ?_
    walk_at "als"
    refine cn_listS hd2 ?_
    walk_at "als"
    rw [show (ts.map Int.ofNat).map D.int = dL ts by rw [dL_eq, List.map_map]; rfl]
    refine od_neD (py_L ts) (py_L ts) (shaped_ints _) (shaped_ints _) (eqv_ints _) ?_
    walk_at "als"
    exact ⟨(), by walk_at "fl", trivial⟩
  · rintro _ -
    walk_at "fl"
    walk_at "als"
    exact k

set_option maxHeartbeats 8000000 in
theorem ok_law (T : Tx K mg) (G_Rule___eq__ : FnOk P w K mg base CX0 1 T.a_Rule___eq__ T.fd_Rule___eq__ ["self", "other"] (SpA K (AP.C_Rule___eq__ T.aC_Rule))) (G_Rule___init__ : FnOk P w K mg base CX0 1 T.a_Rule___init__ T.fd_Rule___init__ ["self", "start", "steps"] (SpA K (C_Rule___init__ T.aC_Rule))) (G__law_chosen : FnOk P w K mg base CX0 8 T.a__law_chosen T.fd__law_chosen ["ask", "numbers", "letters", "rule", "tape"] (SpA K (C__law_chosen T.aC_Ask T.aC_Rule))) (G__law_made : FnOk P w K mg base CX0 5 T.a__law_made T.fd__law_made ["prompt", "most", "stops", "tape", "rule", "short"] (SpA K (C__law_made T.aC_Ask T.aC_Rule))) (G__law_numbers : FnOk P w K mg base CX0 1 T.a__law_numbers T.fd__law_numbers ["cell", "at", "many"] (SpA K C__law_numbers)) (G__law_refuses : FnG P w K mg base CX0 5 T.a__law_refuses T.fd__law_refuses ["prompt", "most"] (SpA K (C__law_refuses T.aC_Ask))) (G__law_rule : FnOk P w K mg base CX0 1 T.a__law_rule T.fd__law_rule ["numbers", "k", "letters"] (SpA K C__law_rule)) (G__law_same : FnOk P w K mg base CX0 7 T.a__law_same T.fd__law_same ["actual", "expected"] (SpA K (C__law_same 6))) (G__law_stops : FnOk P w K mg base CX0 1 T.a__law_stops T.fd__law_stops ["numbers", "k", "letters"] (SpA K C__law_stops)) (G__law_tape : FnOk P w K mg base CX0 1 T.a__law_tape T.fd__law_tape ["numbers", "k"] (SpA K AQ.C__law_tape)) : FnG P w K mg base CX0 9 T.a_law T.fd_law ["script"] (SpA K C_law) := by
  refine okG T.F_law sc_law (fun vs H Q E h => SpA.len len_law h) (fun cdv A outer s H vs Q E hr hgd h => ⟨_, (pss_cons (ps_for PassesOwn.never rfl (pi_range1 (by rfl) T.m_range (pa_cons (pe_callB (call_min2A rfl) (by rfl) T.m_min (by decide +kernel) (pa_cons (pe_callB (call_lenK (K := K) rfl) (by rfl) T.m_len (by decide +kernel) (pa_cons (pv 0) pa_nil)) (pa_cons pe_int pa_nil))) pa_nil)) (pg_name (i := 1) sc_law.nd rfl (.inl rfl)) (pss_cons (ps_set (i := 2) sc_law.nd rfl (.inr rfl) (pe_call G__law_numbers (hr.mono (by decide)) (by rfl) T.g__law_numbers T.F__law_numbers.kp T.b__law_numbers .nil pass0 (pa_cons (pe_ix (ix_seqK (K := K) rfl) (pv 0) (pv 1) (fun _ _ => rfl)) (pa_cons (pv 1) (pa_cons pe_int pa_nil)))))
      (pss_cons (ps_set (i := 3) sc_law.nd rfl (.inr rfl) (pe_ix (ix_seqK (K := K) rfl) (pe_lst (pa_cons pe_int (pa_cons pe_int (pa_cons pe_int (pa_cons pe_int (pa_cons pe_int (pa_cons (pe_op (op_addK (K := K) rfl) pe_int (pe_op op_modA (pe_callTy call_intA (by rfl) T.m_int (by decide +kernel) (pa_cons (pe_ix (ix_seqK (K := K) rfl) (pv 2) pe_int (fun _ _ => rfl)) pa_nil)) pe_int)) pa_nil))))))) (pe_op op_modA (pe_callTy call_intA (by rfl) T.m_int (by decide +kernel) (pa_cons (pe_ix (ix_seqK (K := K) rfl) (pv 2) pe_int (fun _ _ => rfl)) pa_nil)) pe_int) (fun _ _ => rfl)))
      (pss_cons (ps_setLc (i := 4) (own := [("k", 14)]) (g := gName 14) (tt := tYes) rfl sc_law.nd rfl rfl (sw_true rfl rfl rfl (by decide +kernel)) (pi_range1 (by rfl) T.m_range (pa_cons (pe_op (op_addK (K := K) rfl) pe_int (pe_op op_modA (pe_callTy call_intA (by rfl) T.m_int (by decide +kernel) (pa_cons (pe_ix (ix_seqK (K := K) rfl) (pv 2) pe_int (fun _ _ => rfl)) pa_nil)) pe_int)) pa_nil)) (blkOk_by (N := n_law) (sc := defScope s_law) (by decide +kernel)) (fun _ _ _ _ _ => (pg_name (i := 14) sc_law.nd rfl (.inl rfl))) (fun _ _ _ _ _ => pts_nil) (fun _ _ _ _ _ => (pe_op op_modA (pe_callTy call_intA (by rfl) T.m_int (by decide +kernel) (pa_cons (pe_ix (ix_seqK (K := K) rfl) (pv 2) (pe_op (op_addK (K := K) rfl) pe_int (pv 14)) (fun _ _ => rfl)) pa_nil)) (pv 3))))
      (pss_cons (ps_set (i := 5) sc_law.nd rfl (.inl rfl) (pe_ix (ix_seqK (K := K) rfl) (pe_lst (pa_cons pe_int (pa_cons pe_int (pa_cons (pe_op (op_addK (K := K) rfl) pe_int (pe_op op_modA (pe_callTy call_intA (by rfl) T.m_int (by decide +kernel) (pa_cons (pe_ix (ix_seqK (K := K) rfl) (pv 2) pe_int (fun _ _ => rfl)) pa_nil)) pe_int)) pa_nil)))) (pe_op op_modA (pe_callTy call_intA (by rfl) T.m_int (by decide +kernel) (pa_cons (pe_ix (ix_seqK (K := K) rfl) (pv 2) pe_int (fun _ _ => rfl)) pa_nil)) pe_int) (fun _ _ => rfl)))
      (pss_cons (ps_set (i := 6) sc_law.nd rfl (.inl rfl) (pe_call G__law_stops (hr.mono (by decide)) (by rfl) T.g__law_stops T.F__law_stops.kp T.b__law_stops .nil pass0 (pa_cons (pv 2) (pa_cons pe_int (pa_cons (pv 3) pa_nil)))))
      (pss_cons (ps_set (i := 7) sc_law.nd rfl (.inl rfl) (pe_call G__law_tape (hr.mono (by decide)) (by rfl) T.g__law_tape T.F__law_tape.kp T.b__law_tape .nil pass0 (pa_cons (pv 2) (pa_cons pe_int pa_nil))))
      (pss_cons (ps_set (i := 8) sc_law.nd rfl (.inl rfl) (pe_call G__law_rule (hr.mono (by decide)) (by rfl) T.g__law_rule T.F__law_rule.kp T.b__law_rule .nil pass0 (pa_cons (pv 2) (pa_cons pe_int (pa_cons (pv 3) pa_nil)))))
      (pss_cons (ps_set (i := 9) sc_law.nd rfl (.inl rfl) pe_non)
      (pss_cons (ps_if (pt_cmpR op_notA (pv 8) pe_non (nomark _)) (pss_one (ps_set (i := 9) sc_law.nd rfl (.inl rfl) (pe_make T.mk_Rule G_Rule___init__ (hr.mono (by decide)) (by rfl) T.mgC_Rule T.b_Rule___init__ .nil pass0 (pa_cons (pe_ix (ix_seqK (K := K) rfl) (pv 8) pe_int (fun _ _ => rfl)) (pa_cons (pe_ix (ix_seqK (K := K) rfl) (pv 8) pe_int (fun _ _ => rfl)) pa_nil))))) pss_nil)
      (pss_cons (ps_set (i := 10) sc_law.nd rfl (.inl rfl) (pe_tupP (pa_cons (pe_callTy (call_listK (K := K) rfl) (by rfl) T.m_list (by decide +kernel) (pa_cons (pv 4) pa_nil)) (pa_cons (pe_lc (own := [("stop", 15)]) (g := gName 15) (tt := tYes) rfl sc_law.nd (pi_K (fun K => iSeq K _) (K := K) rfl (pi_seq (pv 6))) (blkOk_by (N := n_law) (sc := defScope s_law) (by decide +kernel)) (fun _ _ _ _ _ => (pg_name (i := 15) sc_law.nd rfl (.inl rfl))) (fun _ _ _ _ _ => pts_nil) (fun _ _ _ _ _ => (pe_callTy (call_listK (K := K) rfl) (by rfl) T.m_list (by decide +kernel) (pa_cons (pv 15) pa_nil)))) (pa_cons (pe_callTy (call_listK (K := K) rfl) (by rfl) T.m_list (by decide +kernel) (pa_cons (pv 7) pa_nil)) pa_nil)))))
      (pss_cons (ps_if (pt_cmpR (op_eqK (K := K) rfl hr.units) (pe_op op_modA (pe_callTy call_intA (by rfl) T.m_int (by decide +kernel) (pa_cons (pe_ix (ix_seqK (K := K) rfl) (pv 2) pe_int (fun _ _ => rfl)) pa_nil)) pe_int) pe_int (nomark _)) (pss_one (ps_set (i := 10) sc_law.nd rfl (.inl rfl) (pe_tupP (pa_cons (pe_callTy (call_tupK (K := K) rfl) (by rfl) T.m_tuple (by decide +kernel) (pa_cons (pv 4) pa_nil)) (pa_cons (pv 6) (pa_cons (pv 7) pa_nil)))))) pss_nil)
      (pss_cons (ps_set (i := 11) sc_law.nd rfl (.inl rfl) (pe_callB (call_reprK (K := K) rfl hgd hr.units) (by rfl) T.m_repr (by decide +kernel) (pa_cons (pv 10) pa_nil)))
      (pss_cons (ps_set (i := 12) sc_law.nd rfl (.inl rfl) (pe_call G__law_made (hr.mono (by decide)) (by rfl) T.g__law_made T.F__law_made.kp T.b__law_made .nil pass0 (pa_cons (pe_ix (ix_seqK (K := K) rfl) (pv 10) pe_int (fun _ _ => rfl)) (pa_cons (pv 5) (pa_cons (pe_ix (ix_seqK (K := K) rfl) (pv 10) pe_int (fun _ _ => rfl)) (pa_cons (pe_ix (ix_seqK (K := K) rfl) (pv 10) pe_int (fun _ _ => rfl)) (pa_cons (pv 9) (pa_cons (pe_cmpR (op_eqK (K := K) rfl hr.units) (pe_op op_modA (pe_callTy call_intA (by rfl) T.m_int (by decide +kernel) (pa_cons (pe_ix (ix_seqK (K := K) rfl) (pv 2) pe_int (fun _ _ => rfl)) pa_nil)) pe_int) pe_int (nomark _)) pa_nil))))))))
      (pss_cons (ps_if (pt_cmpR (op_neK (K := K) rfl hr.units) (pe_callB (call_reprK (K := K) rfl hgd hr.units) (by rfl) T.m_repr (by decide +kernel) (pa_cons (pv 10) pa_nil)) (pv 11) (nomark _)) (pss_one (ps_ret pe_bl)) pss_nil)
      (pss_cons (ps_if (pt_cmpR op_gtA (pe_op op_modA (pe_callTy call_intA (by rfl) T.m_int (by decide +kernel) (pa_cons (pe_ix (ix_seqK (K := K) rfl) (pv 2) pe_int (fun _ _ => rfl)) pa_nil)) pe_int) pe_int (nomark _)) (pss_cons (ps_expr (pe_K (fun K => tBM K "list" rAppend _ _) (K := K) rfl (pe_bm PySem.F.plainAttrs_list PySem.F.slot_list_append PySem.F.type_list_append mt_append (pe_ix (ix_seqK (K := K) rfl) (pv 10) pe_int (fun _ _ => rfl)) (pa_cons pe_int pa_nil))))
      (pss_cons (ps_expr (pe_K (fun K => tBM K "list" rAppend _ _) (K := K) rfl (pe_bm PySem.F.plainAttrs_list PySem.F.slot_list_append PySem.F.type_list_append mt_append (pe_ix (ix_seqK (K := K) rfl) (pv 10) pe_int (fun _ _ => rfl)) (pa_cons (pe_lst (pa_cons pe_int pa_nil)) pa_nil))))
      (pss_cons (ps_expr (pe_K (fun K => tBM K "list" rAppend _ _) (K := K) rfl (pe_bm PySem.F.plainAttrs_list PySem.F.slot_list_append PySem.F.type_list_append mt_append (pe_ix (ix_seqK (K := K) rfl) (pv 10) pe_int (fun _ _ => rfl)) (pa_cons pe_int pa_nil))))
      (pss_one (ps_if (pt_cmpR op_gtA (pe_callB (call_lenK (K := K) rfl) (by rfl) T.m_len (by decide +kernel) (pa_cons (pv 6) pa_nil)) pe_int (nomark _)) (pss_one (ps_expr (pe_K (fun K => tBM K "list" rAppend _ _) (K := K) rfl (pe_bm PySem.F.plainAttrs_list PySem.F.slot_list_append PySem.F.type_list_append mt_append (pe_ix (ix_seqK (K := K) rfl) (pe_ix (ix_seqK (K := K) rfl) (pv 10) pe_int (fun _ _ => rfl)) pe_int (fun _ _ => rfl)) (pa_cons pe_int pa_nil))))) pss_nil))))) pss_nil)
      (pss_cons (ps_if (PW.pt (pw_or (pt_not (pt_val (pe_call G__law_same (hr.mono (by decide)) (by rfl) T.g__law_same T.F__law_same.kp T.b__law_same .nil pass0 (pa_cons (pe_K (fun K => tFld K _ _) (K := K) rfl (pe_fld (pv 12) rfl)) (pa_cons (pe_callTy (call_tupK (K := K) rfl) (by rfl) T.m_tuple (by decide +kernel) (pa_cons (pv 4) pa_nil)) pa_nil))))) (pw_or1 (pt_not (pt_val (pe_call G__law_same (hr.mono (by decide)) (by rfl) T.g__law_same T.F__law_same.kp T.b__law_same .nil pass0 (pa_cons (pe_K (fun K => tFld K _ _) (K := K) rfl (pe_fld (pv 12) rfl)) (pa_cons (pv 5) pa_nil)))))))) (pss_one (ps_ret pe_bl)) pss_nil)
      (pss_cons (ps_if (PW.pt (pw_or (pt_not (pt_val (pe_call G__law_same (hr.mono (by decide)) (by rfl) T.g__law_same T.F__law_same.kp T.b__law_same .nil pass0 (pa_cons (pe_K (fun K => tFld K _ _) (K := K) rfl (pe_fld (pv 12) rfl)) (pa_cons (pv 6) pa_nil))))) (pw_or1 (pt_not (pt_val (pe_call G__law_same (hr.mono (by decide)) (by rfl) T.g__law_same T.F__law_same.kp T.b__law_same .nil pass0 (pa_cons (pe_K (fun K => tFld K _ _) (K := K) rfl (pe_fld (pv 12) rfl)) (pa_cons (pv 7) pa_nil)))))))) (pss_one (ps_ret pe_bl)) pss_nil)
      (pss_cons (ps_if (PW.pt (pw_or (pt_cmpR (op_neK (K := K) rfl hr.units) (pe_cmpR op_isA (pe_K (fun K => tFld K _ _) (K := K) rfl (pe_fld (pv 12) rfl)) pe_non (nomark _)) (pe_cmpR op_isA (pv 8) pe_non (nomark _)) (nomark _)) (pw_or1 (PW.pt (pw_and (pt_cmpR op_notA (pv 8) pe_non (nomark _)) (pw_and1 (pt_not (pt_cmpR (op_cmpOwnK (K := K) rfl G_Rule___eq__ T.meth_Rule___eq__ T.b_Rule___eq__ pass0 (hr.mono (by decide)) (fun _ _ => rfl) rfl) (pe_K (fun K => tFld K _ _) (K := K) rfl (pe_fld (pv 12) rfl)) (pv 9) (nomark _))))))))) (pss_one (ps_ret pe_bl)) pss_nil)
      (pss_cons (ps_if (pt_not (pt_val (pe_call G__law_chosen (hr.mono (by decide)) (by rfl) T.g__law_chosen T.F__law_chosen.kp T.b__law_chosen .nil pass0 (pa_cons (pv 12) (pa_cons (pv 2) (pa_cons (pv 3) (pa_cons (pv 8) (pa_cons (pv 7) pa_nil)))))))) (pss_one (ps_ret pe_bl)) pss_nil)
      (pss_cons (ps_set (i := 13) sc_law.nd rfl (.inl rfl) (pe_lst (pa_cons pe_int (pa_cons pe_int (pa_cons (pe_un un_neg pe_int) (pa_cons (pe_op (op_addK (K := K) rfl) pe_int (pe_ix (ix_seqK (K := K) rfl) (pv 2) pe_int (fun _ _ => rfl))) (pa_cons (pe_op op_powA pe_int pe_int) (pa_cons pe_bl (pa_cons pe_bl (pa_cons pe_non (pa_cons pe_str (pa_cons (pe_tupP (pa_cons pe_int pa_nil)) (pa_cons (pe_lst (pa_cons pe_int pa_nil)) (pa_cons (pe_tupP pa_nil) pa_nil))))))))))))))
      (pss_one (ps_if (pt_not (pt_val (pe_callG G__law_refuses (hr.mono (by decide)) hgd (by rfl) T.g__law_refuses T.F__law_refuses.kp T.b__law_refuses pass0 (pa_cons (pe_callTy (call_tupK (K := K) rfl) (by rfl) T.m_tuple (by decide +kernel) (pa_cons (pv 4) pa_nil)) (pa_cons (pe_ix (ix_seqK (K := K) rfl) (pv 13) (pe_op op_modA (pe_callTy call_intA (by rfl) T.m_int (by decide +kernel) (pa_cons (pe_ix (ix_seqK (K := K) rfl) (pv 2) pe_int (fun _ _ => rfl)) pa_nil)) pe_int) (fun _ _ => rfl)) pa_nil))))) (pss_one (ps_ret pe_bl)) pss_nil)))))))))))))))))))))))
      (pss_one (ps_ret pe_bl))), run_def h (fun ds O R X c hK hE hX hp => ?_)⟩)
  subst hK; clear h hr
  try dsimp only [cxOf, Cx.nox, Cx.wish]
  have hcl_Ask := T.cl_Ask; have hna_Ask_most := T.nA_Ask_most; have hna_Ask_prompt := T.nA_Ask_prompt; have hna_Ask_rule := T.nA_Ask_rule; have hna_Ask_stops := T.nA_Ask_stops; have hna_Ask_tape := T.nA_Ask_tape; have hcl_Rule := T.cl_Rule; have hna_Rule_start := T.nA_Rule_start; have hna_Rule_steps := T.nA_Rule_steps
  obtain ⟨ns, rfl, hl, hO, k⟩ := hp
  refine vs_seq ?_
  walk_at "fl"
  refine vs_forI (α := List Cell) [1, 2, 3, 4, 5, 6, 7, 8, 9, 10, 11, 12, 13, 14, 15] (fun _ => []) (fun O' => O') (fun _ _ O' => NoLstO O') ?_
  walk_at "als"
  refine ⟨_, rfl, ?_, ?_, ⟨O, rfl, hO⟩, ?_, ?_⟩
  · split <;> omega
  · split <;> omega
  · rintro i d O' hd hO'
    obtain ⟨hi, rfl⟩ := intsD_at hd
    have hi : i < ns.length := by rw [List.length_map] at hi; split at hi <;> omega
    walk_at "fl"
    walk_at "als"
    refine ⟨_, _, _, rfl, by omega, by omega, fun ms hms hN => ?_⟩
    have hms : ms.length = 270 := by omega
    walk_at "go"
    refine od_pickN 1 12 rfl (by omega) (by walk_at "pk") (by walk_at "inb") fun l hl0 hl1 => ?_
    walk_at "go"
    walk_at "fl"
    refine wn_lcM (α := Nat) (fun k => .int (0 + (k : Nat))) (fun k => .int (ms.getD (20 + (0 + (k : Int))).toNat 0 % (l : Int))) (gok_name (by decide)) ?_
    walk_at "go"
    rename_i v2 h20 h21
    refine ⟨_, rfl, by omega, by omega, List.range (1 + v2 % 20).toNat, rfl, rfl, by rw [List.length_range]; omega, fun q hq => ?_, ?_⟩
    · have hql := List.mem_range.mp hq
      walk_at "als"
      exact ⟨rfl, by walk_at "keeps"⟩
    obtain ⟨ps, eps, hps, hpl⟩ := pickF (fun k => ms.getD (20 + (0 + (k : Int))).toNat 0) l (1 + v2 % 20).toNat hl0
    rw [eps]
    walk_at "go"
    rename_i v3 h30 h31 v4 h40 h41
    refine od_pickN 1 30 rfl (by omega) (by walk_at "pk") (by walk_at "inb") fun mo hm1 hm2 => ?_
    walk_at "fl"
    walk_at "go"
    refine ⟨ms, 140, l, rfl, hN, hl0, by omega, by omega, fun stops hs1 hs2 => ?_⟩
    walk_at "go"
    refine ⟨ms, 162, rfl, hN, by omega, by omega, fun tape ht1 ht2 => ?_⟩
    walk_at "go"
    refine ⟨ms, 190, l, rfl, hN, hl0, by omega, by omega, by omega, fun ru hru => ?_⟩
    walk_at "go"
    walk_at "fl"
    refine vs_cutI (α := Nat) [] (fun _ => [(9, some (.val (dRu T.aC_Rule ru)))]) (fun j => O' ++ List.replicate j .gone) (fun _ => True) ?_ ?_
    · refine vs_if ?_
      cases ru with
      | none =>
        walk_at "go"
        refine ⟨0, ?_, trivial⟩
        show AS.mk _ _ = AS.mk _ (O' ++ [])
        rw [List.append_nil]; rfl
      | some r =>
        have hr := hru r rfl
        walk_at "go"
        refine ⟨O'.length, r, rfl, by simp, by have := hr.n; omega, rfl, ruleF r, by simp, ?_⟩
        rw [AZ.mk_gone]
        walk_at "go"
        exact ⟨1, rfl, trivial⟩
    rintro j1 -
    walk_at "fl"
    have hO2 : NoLstO (O' ++ List.replicate j1 .gone) := noLstO_gone hO' j1
    generalize O' ++ List.replicate j1 Cell.gone = O2 at hO2 ⊢
    have eS : (stops.map dTx) = (stops.map dL).map D.tup := by rw [List.map_map]; rfl
    refine vs_seq (vs_asg (we_tup (wa_cons (we_cell (wn_cb (war_cons (we_var rfl (war_nil ⟨trivial, cn_listL rfl ?_⟩)))))))) 
    refine frz_val (wa_cons (we_cell (wn_copyG (ds := stops.map dTx) (S := stops.map dL) rfl (fun B => frz_val ⟨rfl, rfl⟩) (by rw [List.length_map, List.length_map]) (fun k r y h1 h2 => ?_) rfl (Nat.le_of_ble_eq_true rfl) (by rw [List.length_map]; omega) ?_)))
    · rw [List.getElem?_map] at h1 h2
      cases e : stops[k]? with
      | none => rw [e] at h1; cases h1
      | some s => rw [e] at h1 h2; cases h1; cases h2; exact .inr rfl
    refine frz_val (wa_cons (we_cell (wn_cb (war_cons (we_var rfl (war_nil ⟨trivial, cn_listT rfl ?_⟩))))))
    refine frz_val ?_
    have hH := HL.new O2 (dL ps) (stops.map dL) (tape.map .int)
    refine wa_nil ⟨by show 3 ≤ 1000; decide, frz_val ?_⟩
    walk_at "fl"
    simp only [List.length_append, List.length_map, List.length_singleton] at hH ⊢
    obtain ⟨O3, hO3⟩ : ∃ O3 : List Cell, O3 = O2 ++ [Cell.lst (dL ps)] ++ List.map Cell.lst (List.map dL stops) ++ [Cell.lst (ptrs (O2.length + 1) stops.length)] ++ [Cell.lst (List.map D.int tape)] := ⟨_, rfl⟩
    rw [← hO3] at hH ⊢
    rw [show O2.length + 1 + stops.length + 1 = O2.length + 2 + stops.length by omega]
    have hPI : dL ps = (ps.map Int.ofNat).map D.int := by rw [dL_eq, List.map_map]; rfl
    have hSI : stops.map dL = (stops.map fun s => s.map Int.ofNat).map fun s => s.map D.int := by
      rw [List.map_map]
      apply List.map_congr_left
      intro s _
      show dL s = _
      rw [dL_eq]
      show _ = (s.map Int.ofNat).map D.int
      rw [List.map_map]; rfl
    have hN3 : NoLstO O3 := by
      rw [hO3, hPI, hSI]
      exact noLstO_app (noLstO_app (noLstO_app (noLstO_app hO2 (noLstO_one (.lst (noLsts_ints _)))) (noLstO_ints _)) (noLstO_one (.lst (noLsts_ptrs _ _)))) (noLstO_one (.lst (noLsts_ints _)))
    rw [hPI, hSI] at hH
    clear hO3 hO2
    have hhand : ∀ b, hand b O2.length (dL ps) (stops.map dL) (tape.map .int) = if b then [.ptr O2.length, .ptr (O2.length + 1 + stops.length), .ptr (O2.length + 2 + stops.length)] else [.tup (dL ps), .tup (stops.map dTx), .tup (tape.map .int)] := fun b => by
      unfold hand; rw [List.length_map, List.map_map]; rfl
    have h5a := (hN.at 5).1
    have h5b := (hN.at 5).2
    refine vs_cutI (α := Bool) [] (fun b => [(10, some (.val (.tup (hand b O2.length (dL ps) (stops.map dL) (tape.map .int)))))]) (fun _ => O3) (fun b => b = !decide (ms.getD 5 0 % 2 = 0)) ?_ ?_
    · refine vs_if ?_
      walk_at "als"
      refine ⟨fun h => ?_, fun h => ?_⟩
      · walk_at "als"
        refine ⟨false, by rw [hhand]; rfl, ?_⟩
        rw [show decide (ms.getD 5 0 % 2 = 0) = true from h]; rfl
      · refine vs_next ⟨true, by rw [hhand]; rfl, ?_⟩
        rw [show decide (ms.getD 5 0 % 2 = 0) = false from h]; rfl
    rintro b hb
    obtain ⟨dp, dst, dtp, rows, hh, hq1, hq2, hq3, hq4, hq5, hq6⟩ := hand_ok hH b
    rw [← hPI, ← hSI] at hh
    rw [← hSI] at hq3
    rw [← hPI] at hq1
    rw [hh]
    have hshow : Shows (pHand b (ps.map Int.ofNat) (stops.map fun s => s.map Int.ofNat) tape) := shows_hand b (fun i hi => by obtain ⟨x, hx, rfl⟩ := List.mem_map.mp hi; have := hps x hx; show x < _; omega) (fun s hs => by
      obtain ⟨s, hs', rfl⟩ := List.mem_map.mp hs
      have := hs2 s hs'
      exact ⟨by rw [List.length_map]; omega, fun i hi => by obtain ⟨x, hx, rfl⟩ := List.mem_map.mp hi; have := this.2 x hx; show x < _; omega⟩) ht2 (by rw [List.length_map]; omega) (by rw [List.length_map]; omega) (by omega)
    walk_at "fl"
    walk_at "go"
    refine cb_reprO hq5 hshow ?_
    walk_at "go"
    have hA : WfA l ⟨ps, mo, stops, tape, ru⟩ := ⟨show 0 < ps.length by omega, show ps.length ≤ 100 by omega, hps, hm1, hm2, ⟨show stops.length ≤ 100 by omega, fun s h => ⟨by have := (hs2 s h).1; omega, (hs2 s h).2⟩⟩, show tape.length ≤ 100 by omega, hru⟩
    refine ⟨dp, dst, dtp, ru, _, mo, dL ps, tape.map .int, rows, stops.map dL, rfl, hq1, hq2, hq3, hq4, by rw [List.length_map]; omega, hm1, hm2, ?_⟩
    rw [show D.obj T.aC_Ask (askX (dL ps) (.int (mo : Nat)) (stops.map dL) (tape.map .int) (dRu T.aC_Rule ru)) = dAsk T.aC_Ask T.aC_Rule ⟨ps, mo, stops, tape, ru⟩ from askX_eq (a := ⟨ps, mo, stops, tape, ru⟩)]
    obtain ⟨dp2, dst2, dtp2, rows2, hh2, _, _, _, _, hy2, _⟩ := hand_ok (hH.app (X := [.gone])) b
    rw [← hPI, ← hSI] at hh2
    have hh3 := hh.symm.trans hh2
    injection hh3 with e1 hh3
    injection hh3 with e2 hh3
    injection hh3 with e3 hh3
    subst e1 e2 e3
    have hN4 : NoLstO (O3 ++ [.gone]) := noLstO_gone hN3 1
    have hH4 := hH.app (X := [.gone])
    clear hH hN3 hq5 hq1 hq2 hq3 hq4 hh hh2 hh3
    refine frz_val ?_
    walk_at "fl"
    generalize O3 ++ [Cell.gone] = O4 at hN4 hH4 hy2 ⊢
    refine vs_seq (vs_if ?_)
    walk_at "als"
    refine cb_reprO hy2 hshow ?_
    walk_at "als"
    refine ⟨fun h => absurd h (by simp), fun _ => ?_⟩
    walk_at "als"
    clear hy2
    refine vs_cutI (α := List Cell) [] (fun _ => []) (fun q => q) (fun q => NoLstO q) ?_ ?_
    · walk_at "fl"
      refine vs_if ?_
      walk_at "als"
      have hl1 := hH4.l
      have hl2 := hH4.t
      rw [List.length_map, List.length_map] at hl1 hl2
      have hl3 := hH4.p
      have hlS := hH4.s
      refine ⟨fun h => ?_, fun h => ?_⟩
      rotate_left
      · walk_at "als"
        exact ⟨O4, rfl, hN4⟩
      have hbt : b = true := by
        have h1 : 0 < ms.getD 5 0 % 2 := of_decide_eq_true h
        rw [hb, show decide (ms.getD 5 0 % 2 = 0) = false from decide_eq_false (by omega)]; rfl
      rw [List.length_map] at hq6
      obtain ⟨rfl, rfl, rfl⟩ := hq6 hbt
      refine vs_seqD (vs_appendP ?_)
      walk_at "als"
      refine od_ixT (ds := [.ptr O2.length, .ptr (O2.length + 1 + stops.length), .ptr (O2.length + 2 + stops.length)]) rfl (atI_of (by decide) rfl) ?_
      refine ⟨_, _, rfl, hl3, ?_⟩
      walk_at "als"
      refine ⟨_, hl3, by rw [List.length_map, List.length_map]; omega, ?_⟩
      have hN5 : NoLstO (O4.set O2.length (.lst ((ps.map Int.ofNat).map D.int ++ [.int 0]))) := AQ.noLstO_set hN4 (.lst (noLsts_snoc (lst_of hN4 hl3) (.int _)))
      have g1 : (O4.set O2.length (.lst ((ps.map Int.ofNat).map D.int ++ [.int 0])))[O2.length + 1 + stops.length]? = _ := (List.getElem?_set_ne (by omega)).trans hl1
      have g2 : (O4.set O2.length (.lst ((ps.map Int.ofNat).map D.int ++ [.int 0])))[O2.length + 2 + stops.length]? = _ := (List.getElem?_set_ne (by omega)).trans hl2
      have gS : ∀ (k : Nat) y, ((stops.map fun s => s.map Int.ofNat).map fun s => s.map D.int)[k]? = some y → (O4.set O2.length (.lst ((ps.map Int.ofNat).map D.int ++ [.int 0])))[O2.length + 1 + k]? = some (.lst y) := fun k y e => (List.getElem?_set_ne (by omega)).trans (hlS k y e)
      clear hl1 hl2 hl3 hlS hH4 hN4
      generalize O4.set O2.length (.lst ((ps.map Int.ofNat).map D.int ++ [.int 0])) = O5 at hN5 g1 g2 gS ⊢
      refine vs_seqD (vs_appendP ?_)
      walk_at "als"
      refine od_ixT (ds := [.ptr O2.length, .ptr (O2.length + 1 + stops.length), .ptr (O2.length + 2 + stops.length)]) rfl (atI_of (by decide) rfl) ?_
      refine ⟨_, _, rfl, g1, ?_⟩
      refine we_cell (wn_lst ?_)
      walk_at "als"
      refine ⟨_, getA g1, by unfold ptrs; rw [List.length_map, List.length_range]; omega, ?_⟩
      have hN6 : NoLstO (O5 ++ [.lst [.int 0]]) := noLstO_app hN5 (noLstO_one (.lst (.cons (.int _) .nil)))
      have g1' := getA (P := [.lst [.int 0]]) g1
      have g2' := getA (P := [.lst [.int 0]]) g2
      have gS' := fun k y e => getA (P := [.lst [.int 0]]) (gS k y e)
      generalize hpn : O5.length = pn
      clear hpn g1 g2 gS hN5
      generalize O5 ++ [Cell.lst [.int 0]] = O6 at hN6 g1' g2' gS' ⊢
      have hN7 : NoLstO (O6.set (O2.length + 1 + stops.length) (.lst (ptrs (O2.length + 1) stops.length ++ [.ptr pn]))) := AQ.noLstO_set hN6 (.lst (noLsts_snoc (noLsts_ptrs _ _) (.ptr _)))
      have k1 : (O6.set (O2.length + 1 + stops.length) (.lst (ptrs (O2.length + 1) stops.length ++ [.ptr pn])))[O2.length + 1 + stops.length]? = some (.lst (ptrs (O2.length + 1) stops.length ++ [.ptr pn])) := List.getElem?_set_self (List.getElem?_eq_some_iff.mp g1').1
      have k2 : (O6.set (O2.length + 1 + stops.length) (.lst (ptrs (O2.length + 1) stops.length ++ [.ptr pn])))[O2.length + 2 + stops.length]? = _ := (List.getElem?_set_ne (by omega)).trans g2'
      have kS : ∀ (k : Nat) y, k < stops.length → ((stops.map fun s => s.map Int.ofNat).map fun s => s.map D.int)[k]? = some y → (O6.set (O2.length + 1 + stops.length) (.lst (ptrs (O2.length + 1) stops.length ++ [.ptr pn])))[O2.length + 1 + k]? = some (.lst y) := fun k y hk e => (List.getElem?_set_ne (by omega)).trans (gS' k y e)
      clear g1' g2' gS' hN6
      walk_at "fl"
      generalize O6.set (O2.length + 1 + stops.length) (.lst (ptrs (O2.length + 1) stops.length ++ [.ptr pn])) = O7 at hN7 k1 k2 kS ⊢
      refine vs_seqD (vs_appendP ?_)
      walk_at "als"
      refine od_ixT (ds := [.ptr O2.length, .ptr (O2.length + 1 + stops.length), .ptr (O2.length + 2 + stops.length)]) rfl (atI_of (by decide) rfl) ?_
      refine ⟨_, _, rfl, k2, ?_⟩
      walk_at "als"
      refine ⟨_, k2, by rw [List.length_map]; omega, ?_⟩
      have hN8 : NoLstO (O7.set (O2.length + 2 + stops.length) (.lst (tape.map D.int ++ [.int 5]))) := AQ.noLstO_set hN7 (.lst (noLsts_snoc (lst_of hN7 k2) (.int _)))
      have m1 : (O7.set (O2.length + 2 + stops.length) (.lst (tape.map D.int ++ [.int 5])))[O2.length + 1 + stops.length]? = _ := (List.getElem?_set_ne (by omega)).trans k1
      have mS : ∀ (k : Nat) y, k < stops.length → ((stops.map fun s => s.map Int.ofNat).map fun s => s.map D.int)[k]? = some y → (O7.set (O2.length + 2 + stops.length) (.lst (tape.map D.int ++ [.int 5])))[O2.length + 1 + k]? = some (.lst y) := fun k y hk e => (List.getElem?_set_ne (by omega)).trans (kS k y hk e)
      clear k1 k2 kS hN7
      generalize O7.set (O2.length + 2 + stops.length) (.lst (tape.map D.int ++ [.int 5])) = O8 at hN8 m1 mS ⊢
      refine vs_if ?_
      walk_at "als"
      rw [List.length_map]
      refine ⟨fun hs0 => ?_, fun _ => ?_⟩
      rotate_left
      · walk_at "als"
        exact ⟨O8, rfl, hN8⟩
      have hs0 : 0 < stops.length := by have := of_decide_eq_true hs0; omega
      refine vs_appendP ?_
      walk_at "als"
      refine od_ixT (ds := [.ptr O2.length, .ptr (O2.length + 1 + stops.length), .ptr (O2.length + 2 + stops.length)]) rfl (atI_of (by decide) rfl) ?_
      walk_at "als"
      refine od_ixL (ds := ptrs (O2.length + 1) stops.length ++ [.ptr pn]) (lsC m1) (atI_of (x := .ptr (O2.length + 1)) (by decide) (by
        show (ptrs (O2.length + 1) stops.length ++ [.ptr pn])[0]? = _
        unfold ptrs
        rw [List.getElem?_append_left (by rw [List.length_map, List.length_range]; exact hs0), List.getElem?_map, List.getElem?_range hs0]; rfl)) ?_
      obtain ⟨s0, hs00⟩ : ∃ s, stops[0]? = some s := ⟨stops[0], List.getElem?_eq_getElem hs0⟩
      have m0 := mS 0 ((s0.map Int.ofNat).map D.int) hs0 (by rw [List.getElem?_map, List.getElem?_map, hs00]; rfl)
      have ls0 := (hs2 s0 (List.mem_of_getElem? hs00)).1
      refine ⟨_, _, rfl, m0, ?_⟩
      walk_at "als"
      refine ⟨_, m0, by rw [List.length_map, List.length_map]; omega, ?_⟩
      exact ⟨_, rfl, AQ.noLstO_set hN8 (.lst (noLsts_snoc (lst_of hN8 m0) (.int _)))⟩
    rintro O9 hO9
    walk_at "fl"
    refine vs_seq (vs_if ?_)
    walk_at "go"
    have kp : okE 6 (dTx ps) := okE_V (k := 4) (v := ps.map Int.ofNat) (by rw [List.length_map]; omega)
    have kst : okE 6 (.tup (stops.map dTx)) := ⟨by rw [List.length_map]; omega, fun d hd => by
      obtain ⟨s, hs, rfl⟩ := List.mem_map.mp hd
      exact okE_V (k := 3) (v := s.map Int.ofNat) (by rw [List.length_map]; have := (hs2 s hs).1; omega)⟩
    have kt : okE 6 (.tup (tape.map .int)) := okE_V (k := 4) (v := tape) (by omega)
    have ki : ∀ i : Int, okE 6 (.int i) := fun _ => trivial
    refine ⟨dTx ps, dTx ps, rfl, okD_of 6 _ kp, kp, ?_⟩
    rw [same_refl 6 _ kp]
    walk_at "go"
    refine ⟨_, _, rfl, okD_of 6 _ (ki _), ki _, ?_⟩
    rw [same_refl 6 _ (ki _)]
    walk_at "go"
    refine vs_seq (vs_if ?_)
    walk_at "go"
    refine ⟨_, _, rfl, okD_of 6 _ kst, kst, ?_⟩
    rw [same_refl 6 _ kst]
    walk_at "go"
    refine ⟨_, _, rfl, okD_of 6 _ kt, kt, ?_⟩
    rw [same_refl 6 _ kt]
    walk_at "go"
    refine vs_cutI (α := Unit) [] (fun _ => []) (fun _ => O9) (fun _ => True) ?_ ?_
    · walk_at "fl"
      refine vs_if ?_
      cases ru with
      | none =>
        walk_at "go"
        refine ⟨fun h => absurd h (by decide), fun _ => ?_⟩
        walk_at "go"
        exact ⟨(), rfl, trivial⟩
      | some r =>
        walk_at "go"
        refine ⟨fun h => absurd h (by decide), fun _ => ?_⟩
        walk_at "go"
        refine od_own rfl (TyD.ins rfl) (.inl ⟨r, r, rfl, ?_⟩)
        rw [show sameR r r = true from AP.same_self]
        walk_at "go"
        exact ⟨(), rfl, trivial⟩
    rintro - -
    walk_at "fl"
    refine vs_seq (vs_if ?_)
    walk_at "go"
    refine ⟨⟨ps, mo, stops, tape, ru⟩, ms, l, rfl, hN, by omega, by omega, by omega, hl0, hl1, hru, by show tape.length ≤ 100; omega, hO9, ?_⟩
    walk_at "go"
    walk_at "fl"
    refine vs_if ?_
    walk_at "go"
    refine od_ixAll (P := fun d => OddS d ∧ isFromD d 1 30 = false) rfl (by omega) (by walk_at "pk") ?_ ?_
    · intro d hd
      simp only [List.mem_cons, List.not_mem_nil, or_false] at hd
      rcases hd with rfl | rfl | rfl | rfl | rfl | rfl | rfl | rfl | rfl | rfl | rfl | rfl
      · exact ⟨oddS_lt (by omega) (by omega), AU.isFromD_lo (by omega)⟩
      · exact ⟨oddS_lt (by omega) (by omega), AU.isFromD_hi (by omega)⟩
      · exact ⟨oddS_lt (by omega) (by omega), AU.isFromD_lo (by omega)⟩
      · exact ⟨oddS_lt (by omega) (by omega), AU.isFromD_hi (by omega)⟩
      · exact ⟨oddS_int (by decide), AU.isFromD_hi (by decide)⟩
      · exact ⟨AU.oddS_bl _, rfl⟩
      · exact ⟨AU.oddS_bl _, rfl⟩
      · exact ⟨AU.oddS_non, rfl⟩
      · exact ⟨AU.oddS_str _ ⟨by unfold PyData.showable; rfl, by unfold PyData.hasDict; rfl, by unfold PyData.depth; decide, by unfold PyData.shown; decide +kernel, trivial⟩ (by decide +kernel), rfl⟩
      · exact ⟨AU.oddS_t1, rfl⟩
      · exact ⟨AU.oddS_l1, rfl⟩
      · exact ⟨AU.oddS_t, rfl⟩
    rintro odd ⟨hodd, hbad⟩
    walk_at "go"
    refine ⟨ps, odd, rfl, hodd, hbad, ?_⟩
    walk_at "go"
    exact ⟨O9 ++ [.ins T.aC_Ask []], by walk_at "fl", noLstO_app hO9 (noLstO_one (.ins .nil))⟩
  · rintro O' hO'
    walk_at "als"
    exact k _

end
set_option maxHeartbeats 0 in
theorem all_mk {l : PySem.W.OpenLaw} {w : World} {K : PySem.W.Frag} {h : Heap} {mg : Str → Option Value} {fa : Addr} (X : K.In h) (G : h.Ns mainGlobals mg) (hfa : mg "law" = some (.ref fa))
    {fC_Ask : Addr} (AC_Ask : PySem.W.nsIn K mainGlobals "Ask" = some (some (.ref fC_Ask))) (pg_Ask : PySem.W.plainGet K fC_Ask Str.empty = true) (hd_Ask : PySem.W.hasDictIn K fC_Ask = true) (po_Ask : PySem.W.plainOver K fC_Ask = true) (sa_Ask : PySem.W.findIn K (.ref fC_Ask) "__setattr__" = some (some (.builtin "object.__setattr__"))) (mk_Ask : PySem.W.makesIn K fC_Ask = true) (kc_Ask : PySem.W.keepIn K (.ref fC_Ask) = true)
    (na_Ask_most : PySem.W.findIn K (.ref fC_Ask) "most" = some none)
    (na_Ask_prompt : PySem.W.findIn K (.ref fC_Ask) "prompt" = some none)
    (na_Ask_rule : PySem.W.findIn K (.ref fC_Ask) "rule" = some none)
    (na_Ask_stops : PySem.W.findIn K (.ref fC_Ask) "stops" = some none)
    (na_Ask_tape : PySem.W.findIn K (.ref fC_Ask) "tape" = some none)
    {fC_Rule : Addr} (AC_Rule : PySem.W.nsIn K mainGlobals "Rule" = some (some (.ref fC_Rule))) (pg_Rule : PySem.W.plainGet K fC_Rule Str.empty = true) (hd_Rule : PySem.W.hasDictIn K fC_Rule = true) (po_Rule : PySem.W.plainOver K fC_Rule = true) (sa_Rule : PySem.W.findIn K (.ref fC_Rule) "__setattr__" = some (some (.builtin "object.__setattr__"))) (mk_Rule : PySem.W.makesIn K fC_Rule = true) (kc_Rule : PySem.W.keepIn K (.ref fC_Rule) = true)
    (na_Rule_start : PySem.W.findIn K (.ref fC_Rule) "start" = some none)
    (na_Rule_steps : PySem.W.findIn K (.ref fC_Rule) "steps" = some none)
    {fC_InvalidLetter : Addr} (AC_InvalidLetter : PySem.W.nsIn K mainGlobals "InvalidLetter" = some (some (.ref fC_InvalidLetter)))
    {fC_InvalidNumber : Addr} (AC_InvalidNumber : PySem.W.nsIn K mainGlobals "InvalidNumber" = some (some (.ref fC_InvalidNumber)))
    {nm_InvalidNumber q_InvalidNumber : Str} {N_InvalidNumber : Addr} {bs_InvalidNumber bm_InvalidNumber : List Value} {sn_InvalidNumber : List Str} {sub_InvalidNumber : List Value} {ab_InvalidNumber : Bool} {col_InvalidNumber : Option Bool} {dd_InvalidNumber : Option Addr} {m0_InvalidNumber m1_InvalidNumber m2_InvalidNumber m3_InvalidNumber m5_InvalidNumber : Option Value} (xL_InvalidNumber : K.lookup fC_InvalidNumber = some (excClassObj nm_InvalidNumber q_InvalidNumber fC_InvalidNumber N_InvalidNumber bs_InvalidNumber bm_InvalidNumber true sn_InvalidNumber sub_InvalidNumber ab_InvalidNumber col_InvalidNumber dd_InvalidNumber m0_InvalidNumber m1_InvalidNumber m2_InvalidNumber m3_InvalidNumber m5_InvalidNumber "ValueError.__new__")) (rvE_InvalidNumber : PySem.HandSPX.refsVE bm_InvalidNumber = true) (sa_InvalidNumber : PySem.W.findIn K (.ref fC_InvalidNumber) "__setattr__" = some (some (.builtin "object.__setattr__"))) (ga_InvalidNumber : PySem.W.findIn K (.ref fC_InvalidNumber) "__getattribute__" = some (some (.builtin "BaseException.__getattribute__"))) (gg_InvalidNumber : PySem.W.findIn K (.ref fC_InvalidNumber) "__getattr__" = some none) (nb_InvalidNumber : PySem.W.findIn K (.ref fC_InvalidNumber) "number" = some none) {fI_InvalidNumber : Addr} (a1_InvalidNumber : PySem.W.findIn K (.ref fC_InvalidNumber) "__init__" = some (some (.ref fI_InvalidNumber))) (t1_InvalidNumber : PySem.W.typeIn K (.ref fI_InvalidNumber) = some (.type "function")) {od_InvalidNumber an_InvalidNumber : Option Addr} {sl_InvalidNumber : Array (Option Value)} {oc_InvalidNumber dc_InvalidNumber pm_InvalidNumber cd_InvalidNumber ct_InvalidNumber : Value} (l1_InvalidNumber : K.lookup fI_InvalidNumber = some ⟨oc_InvalidNumber, od_InvalidNumber, .func (PySem.W.fnOf "__init__" "InvalidNumber.__init__" (defArgs s_XInvalidNumber) (defBody s_XInvalidNumber) (defScope s_XInvalidNumber) .none .none dc_InvalidNumber pm_InvalidNumber an_InvalidNumber cd_InvalidNumber ct_InvalidNumber), sl_InvalidNumber⟩) (c1_InvalidNumber : PySem.W.codeIn K cd_InvalidNumber "InvalidNumber.__init__" = true) (kC_InvalidNumber : PySem.W.keepIn K (.ref fC_InvalidNumber) = true) (eC_InvalidNumber : PySem.W.subIn K (.ref fC_InvalidNumber) (.type "BaseException") = some true) (tC_InvalidNumber : PySem.W.typeIn K (.ref fC_InvalidNumber) = some (.type "type")) (hC_InvalidNumber : PySem.W.hasDictIn K fC_InvalidNumber = true) (iC_InvalidNumber : PySem.W.isClsIn K fC_InvalidNumber = true) (ca_InvalidNumber : PySem.W.findIn K (.ref fC_InvalidNumber) "__class__" = some (some (.builtin "object.__class__"))) (mo_InvalidNumber : PySem.W.mroIn K fC_InvalidNumber (.type "object") = some true)
    {fC_NoHouse : Addr} (AC_NoHouse : PySem.W.nsIn K mainGlobals "NoHouse" = some (some (.ref fC_NoHouse)))
    {fC_NoRequest : Addr} (AC_NoRequest : PySem.W.nsIn K mainGlobals "NoRequest" = some (some (.ref fC_NoRequest)))
    {fC_NoRoom : Addr} (AC_NoRoom : PySem.W.nsIn K mainGlobals "NoRoom" = some (some (.ref fC_NoRoom)))
    {fC_NotAlone : Addr} (AC_NotAlone : PySem.W.nsIn K mainGlobals "NotAlone" = some (some (.ref fC_NotAlone)))
    {fC_NotHeld : Addr} (AC_NotHeld : PySem.W.nsIn K mainGlobals "NotHeld" = some (some (.ref fC_NotHeld)))
    {fC_ServeError : Addr} (AC_ServeError : PySem.W.nsIn K mainGlobals "ServeError" = some (some (.ref fC_ServeError)))
    {fC_TooLarge : Addr} (AC_TooLarge : PySem.W.nsIn K mainGlobals "TooLarge" = some (some (.ref fC_TooLarge)))
    (cgE : PySem.W.specialIn K (.builtin "object.__class__") "__get__" = some (some (.builtin "getset_descriptor.__get__"))) (tkE : PySem.W.takesIn K (.builtin "object.__class__") = some true)
    (eS : PySem.W.subIn K (.ref fC_ServeError) (.type "BaseException") = some true) (hS : PySem.W.hasDictIn K fC_ServeError = true) (tS : PySem.W.typeIn K (.ref fC_ServeError) = some (.type "type"))
    (sS_InvalidNumber : PySem.W.subIn K (.ref fC_InvalidNumber) (.ref fC_ServeError) = some true)
    (kvE_InvalidNumber : PySem.W.kitOne K (.ref fC_InvalidNumber) (.type "ValueError") = some true)
    (koE_InvalidNumber_InvalidLetter : PySem.W.kitOne K (.ref fC_InvalidNumber) (.ref fC_InvalidLetter) = some false)
    (koE_InvalidNumber_NoHouse : PySem.W.kitOne K (.ref fC_InvalidNumber) (.ref fC_NoHouse) = some false)
    (koE_InvalidNumber_NoRequest : PySem.W.kitOne K (.ref fC_InvalidNumber) (.ref fC_NoRequest) = some false)
    (koE_InvalidNumber_NoRoom : PySem.W.kitOne K (.ref fC_InvalidNumber) (.ref fC_NoRoom) = some false)
    (koE_InvalidNumber_NotAlone : PySem.W.kitOne K (.ref fC_InvalidNumber) (.ref fC_NotAlone) = some false)
    (koE_InvalidNumber_NotHeld : PySem.W.kitOne K (.ref fC_InvalidNumber) (.ref fC_NotHeld) = some false)
    (koE_InvalidNumber_ServeError : PySem.W.kitOne K (.ref fC_InvalidNumber) (.ref fC_ServeError) = some true)
    (koE_InvalidNumber_TooLarge : PySem.W.kitOne K (.ref fC_InvalidNumber) (.ref fC_TooLarge) = some false)
    (cgO : PySem.W.specialIn K (.builtin "object.__class__") "__get__" = some (some (.builtin "getset_descriptor.__get__"))) (tkO : PySem.W.takesIn K (.builtin "object.__class__") = some true)
    (caO_Rule : PySem.W.findIn K (.ref fC_Rule) "__class__" = some (some (.builtin "object.__class__"))) (moO_Rule : PySem.W.mroIn K fC_Rule (.type "object") = some true)
    (koE_NoneType_Rule : PySem.W.kitOne K (.type "NoneType") (.ref fC_Rule) = some false)
    (koE_bool_Rule : PySem.W.kitOne K (.type "bool") (.ref fC_Rule) = some false)
    (koE_int_Rule : PySem.W.kitOne K (.type "int") (.ref fC_Rule) = some false)
    (koE_str_Rule : PySem.W.kitOne K (.type "str") (.ref fC_Rule) = some false)
    (koE_list_Rule : PySem.W.kitOne K (.type "list") (.ref fC_Rule) = some false)
    (koE_tuple_Rule : PySem.W.kitOne K (.type "tuple") (.ref fC_Rule) = some false)
    {f_is_integer : Addr} {od_is_integer an_is_integer : Option Addr} {sl_is_integer : Array (Option Value)} {oc_is_integer kV_is_integer dc_is_integer pm_is_integer cd_is_integer ct_is_integer : Value} (A_is_integer : PySem.W.nsIn K mainGlobals "is_integer" = some (some (.ref f_is_integer))) (l_is_integer : K.lookup f_is_integer = some ⟨oc_is_integer, od_is_integer, .func (PySem.W.fnOf "is_integer" "is_integer" (defArgs s_is_integer) (defBody s_is_integer) (defScope s_is_integer) .none kV_is_integer dc_is_integer pm_is_integer an_is_integer cd_is_integer ct_is_integer), sl_is_integer⟩) (c_is_integer : PySem.W.codeIn K cd_is_integer "is_integer" = true) (k_is_integer : PySem.W.keepIn K (.ref f_is_integer) = true)
    {f_is_from : Addr} {od_is_from an_is_from : Option Addr} {sl_is_from : Array (Option Value)} {oc_is_from kV_is_from dc_is_from pm_is_from cd_is_from ct_is_from : Value} (A_is_from : PySem.W.nsIn K mainGlobals "is_from" = some (some (.ref f_is_from))) (l_is_from : K.lookup f_is_from = some ⟨oc_is_from, od_is_from, .func (PySem.W.fnOf "is_from" "is_from" (defArgs s_is_from) (defBody s_is_from) (defScope s_is_from) .none kV_is_from dc_is_from pm_is_from an_is_from cd_is_from ct_is_from), sl_is_from⟩) (c_is_from : PySem.W.codeIn K cd_is_from "is_from" = true) (k_is_from : PySem.W.keepIn K (.ref f_is_from) = true)
    {f_greatest : Addr} {od_greatest an_greatest : Option Addr} {sl_greatest : Array (Option Value)} {oc_greatest kV_greatest dc_greatest pm_greatest cd_greatest ct_greatest : Value} (A_greatest : PySem.W.nsIn K mainGlobals "greatest" = some (some (.ref f_greatest))) (l_greatest : K.lookup f_greatest = some ⟨oc_greatest, od_greatest, .func (PySem.W.fnOf "greatest" "greatest" (defArgs s_greatest) (defBody s_greatest) (defScope s_greatest) .none kV_greatest dc_greatest pm_greatest an_greatest cd_greatest ct_greatest), sl_greatest⟩) (c_greatest : PySem.W.codeIn K cd_greatest "greatest" = true) (k_greatest : PySem.W.keepIn K (.ref f_greatest) = true)
    {f_by_number : Addr} {od_by_number an_by_number : Option Addr} {sl_by_number : Array (Option Value)} {oc_by_number kV_by_number dc_by_number pm_by_number cd_by_number ct_by_number : Value} (A_by_number : PySem.W.nsIn K mainGlobals "by_number" = some (some (.ref f_by_number))) (l_by_number : K.lookup f_by_number = some ⟨oc_by_number, od_by_number, .func (PySem.W.fnOf "by_number" "by_number" (defArgs s_by_number) (defBody s_by_number) (defScope s_by_number) .none kV_by_number dc_by_number pm_by_number an_by_number cd_by_number ct_by_number), sl_by_number⟩) (c_by_number : PySem.W.codeIn K cd_by_number "by_number" = true) (k_by_number : PySem.W.keepIn K (.ref f_by_number) = true)
    {f_Rule___init__ : Addr} {od_Rule___init__ an_Rule___init__ : Option Addr} {sl_Rule___init__ : Array (Option Value)} {oc_Rule___init__ kV_Rule___init__ dc_Rule___init__ pm_Rule___init__ cd_Rule___init__ ct_Rule___init__ : Value} (A_Rule___init__ : PySem.W.findIn K (.ref fC_Rule) "__init__" = some (some (.ref f_Rule___init__))) (i_Rule___init__ : PySem.W.isFn K (.ref f_Rule___init__) = true) (l_Rule___init__ : K.lookup f_Rule___init__ = some ⟨oc_Rule___init__, od_Rule___init__, .func (PySem.W.fnOf "__init__" "Rule.__init__" (defArgs s_Rule___init__) (defBody s_Rule___init__) (defScope s_Rule___init__) .none kV_Rule___init__ dc_Rule___init__ pm_Rule___init__ an_Rule___init__ cd_Rule___init__ ct_Rule___init__), sl_Rule___init__⟩) (c_Rule___init__ : PySem.W.codeIn K cd_Rule___init__ "Rule.__init__" = true) (k_Rule___init__ : PySem.W.keepIn K (.ref f_Rule___init__) = true)
    {f_Rule_after : Addr} {od_Rule_after an_Rule_after : Option Addr} {sl_Rule_after : Array (Option Value)} {oc_Rule_after kV_Rule_after dc_Rule_after pm_Rule_after cd_Rule_after ct_Rule_after : Value} (A_Rule_after : PySem.W.findIn K (.ref fC_Rule) "after" = some (some (.ref f_Rule_after))) (i_Rule_after : PySem.W.isFn K (.ref f_Rule_after) = true) (l_Rule_after : K.lookup f_Rule_after = some ⟨oc_Rule_after, od_Rule_after, .func (PySem.W.fnOf "after" "Rule.after" (defArgs s_Rule_after) (defBody s_Rule_after) (defScope s_Rule_after) .none kV_Rule_after dc_Rule_after pm_Rule_after an_Rule_after cd_Rule_after ct_Rule_after), sl_Rule_after⟩) (c_Rule_after : PySem.W.codeIn K cd_Rule_after "Rule.after" = true) (k_Rule_after : PySem.W.keepIn K (.ref f_Rule_after) = true)
    {f_Rule_lets : Addr} {od_Rule_lets an_Rule_lets : Option Addr} {sl_Rule_lets : Array (Option Value)} {oc_Rule_lets kV_Rule_lets dc_Rule_lets pm_Rule_lets cd_Rule_lets ct_Rule_lets : Value} (A_Rule_lets : PySem.W.findIn K (.ref fC_Rule) "lets" = some (some (.ref f_Rule_lets))) (i_Rule_lets : PySem.W.isFn K (.ref f_Rule_lets) = true) (l_Rule_lets : K.lookup f_Rule_lets = some ⟨oc_Rule_lets, od_Rule_lets, .func (PySem.W.fnOf "lets" "Rule.lets" (defArgs s_Rule_lets) (defBody s_Rule_lets) (defScope s_Rule_lets) .none kV_Rule_lets dc_Rule_lets pm_Rule_lets an_Rule_lets cd_Rule_lets ct_Rule_lets), sl_Rule_lets⟩) (c_Rule_lets : PySem.W.codeIn K cd_Rule_lets "Rule.lets" = true) (k_Rule_lets : PySem.W.keepIn K (.ref f_Rule_lets) = true)
    {f_Rule___eq__ : Addr} {od_Rule___eq__ an_Rule___eq__ : Option Addr} {sl_Rule___eq__ : Array (Option Value)} {oc_Rule___eq__ kV_Rule___eq__ dc_Rule___eq__ pm_Rule___eq__ cd_Rule___eq__ ct_Rule___eq__ : Value} (A_Rule___eq__ : PySem.W.findIn K (.ref fC_Rule) "__eq__" = some (some (.ref f_Rule___eq__))) (i_Rule___eq__ : PySem.W.isFn K (.ref f_Rule___eq__) = true) (l_Rule___eq__ : K.lookup f_Rule___eq__ = some ⟨oc_Rule___eq__, od_Rule___eq__, .func (PySem.W.fnOf "__eq__" "Rule.__eq__" (defArgs s_Rule___eq__) (defBody s_Rule___eq__) (defScope s_Rule___eq__) .none kV_Rule___eq__ dc_Rule___eq__ pm_Rule___eq__ an_Rule___eq__ cd_Rule___eq__ ct_Rule___eq__), sl_Rule___eq__⟩) (c_Rule___eq__ : PySem.W.codeIn K cd_Rule___eq__ "Rule.__eq__" = true) (k_Rule___eq__ : PySem.W.keepIn K (.ref f_Rule___eq__) = true)
    {kD_Ask___init__ : Addr} {kT_Ask___init___stops : Addr} {itsT_Ask___init___stops : Array Value} {nT_Ask___init___stops : Nat} {slT_Ask___init___stops : Array (Option Value)} {kT_Ask___init___tape : Addr} {itsT_Ask___init___tape : Array Value} {nT_Ask___init___tape : Nat} {slT_Ask___init___tape : Array (Option Value)} {f_Ask___init__ : Addr} {od_Ask___init__ an_Ask___init__ : Option Addr} {sl_Ask___init__ : Array (Option Value)} {oc_Ask___init__ dc_Ask___init__ pm_Ask___init__ cd_Ask___init__ ct_Ask___init__ : Value} (A_Ask___init__ : PySem.W.findIn K (.ref fC_Ask) "__init__" = some (some (.ref f_Ask___init__))) (i_Ask___init__ : PySem.W.isFn K (.ref f_Ask___init__) = true) (l_Ask___init__ : K.lookup f_Ask___init__ = some ⟨oc_Ask___init__, od_Ask___init__, .func (PySem.W.fnOf "__init__" "Ask.__init__" (defArgs s_Ask___init__) (defBody s_Ask___init__) (defScope s_Ask___init__) .none (.ref kD_Ask___init__) dc_Ask___init__ pm_Ask___init__ an_Ask___init__ cd_Ask___init__ ct_Ask___init__), sl_Ask___init__⟩) (c_Ask___init__ : PySem.W.codeIn K cd_Ask___init__ "Ask.__init__" = true) (k_Ask___init__ : PySem.W.keepIn K (.ref f_Ask___init__) = true)
    (kd_Ask___init___stops : PySem.W.nsIn K kD_Ask___init__ "stops" = some (some (.ref kT_Ask___init___stops))) (lT_Ask___init___stops : K.lookup kT_Ask___init___stops = some ⟨.type "tuple", none, .seq itsT_Ask___init___stops nT_Ask___init___stops, slT_Ask___init___stops⟩) (zK_T_Ask___init___stops : itsT_Ask___init___stops.size ≤ sizeLine) (vK_T_Ask___init___stops : Vals [] itsT_Ask___init___stops.toList)
    (kd_Ask___init___tape : PySem.W.nsIn K kD_Ask___init__ "tape" = some (some (.ref kT_Ask___init___tape))) (lT_Ask___init___tape : K.lookup kT_Ask___init___tape = some ⟨.type "tuple", none, .seq itsT_Ask___init___tape nT_Ask___init___tape, slT_Ask___init___tape⟩) (zK_T_Ask___init___tape : itsT_Ask___init___tape.size ≤ sizeLine) (vK_T_Ask___init___tape : Vals [] itsT_Ask___init___tape.toList)
    (kd_Ask___init___rule : PySem.W.nsIn K kD_Ask___init__ "rule" = some (some .none))
    {f_Ask_counted : Addr} {od_Ask_counted an_Ask_counted : Option Addr} {sl_Ask_counted : Array (Option Value)} {oc_Ask_counted kV_Ask_counted dc_Ask_counted pm_Ask_counted cd_Ask_counted ct_Ask_counted : Value} (A_Ask_counted : PySem.W.findIn K (.ref fC_Ask) "counted" = some (some (.ref f_Ask_counted))) (i_Ask_counted : PySem.W.isFn K (.ref f_Ask_counted) = true) (l_Ask_counted : K.lookup f_Ask_counted = some ⟨oc_Ask_counted, od_Ask_counted, .func (PySem.W.fnOf "counted" "Ask.counted" (defArgs s_Ask_counted) (defBody s_Ask_counted) (defScope s_Ask_counted) .none kV_Ask_counted dc_Ask_counted pm_Ask_counted an_Ask_counted cd_Ask_counted ct_Ask_counted), sl_Ask_counted⟩) (c_Ask_counted : PySem.W.codeIn K cd_Ask_counted "Ask.counted" = true) (k_Ask_counted : PySem.W.keepIn K (.ref f_Ask_counted) = true)
    {f_Ask_choice : Addr} {od_Ask_choice an_Ask_choice : Option Addr} {sl_Ask_choice : Array (Option Value)} {oc_Ask_choice kV_Ask_choice dc_Ask_choice pm_Ask_choice cd_Ask_choice ct_Ask_choice : Value} (A_Ask_choice : PySem.W.findIn K (.ref fC_Ask) "choice" = some (some (.ref f_Ask_choice))) (i_Ask_choice : PySem.W.isFn K (.ref f_Ask_choice) = true) (l_Ask_choice : K.lookup f_Ask_choice = some ⟨oc_Ask_choice, od_Ask_choice, .func (PySem.W.fnOf "choice" "Ask.choice" (defArgs s_Ask_choice) (defBody s_Ask_choice) (defScope s_Ask_choice) .none kV_Ask_choice dc_Ask_choice pm_Ask_choice an_Ask_choice cd_Ask_choice ct_Ask_choice), sl_Ask_choice⟩) (c_Ask_choice : PySem.W.codeIn K cd_Ask_choice "Ask.choice" = true) (k_Ask_choice : PySem.W.keepIn K (.ref f_Ask_choice) = true)
    {f__law_numbers : Addr} {od__law_numbers an__law_numbers : Option Addr} {sl__law_numbers : Array (Option Value)} {oc__law_numbers kV__law_numbers dc__law_numbers pm__law_numbers cd__law_numbers ct__law_numbers : Value} (A__law_numbers : PySem.W.nsIn K mainGlobals "_law_numbers" = some (some (.ref f__law_numbers))) (l__law_numbers : K.lookup f__law_numbers = some ⟨oc__law_numbers, od__law_numbers, .func (PySem.W.fnOf "_law_numbers" "_law_numbers" (defArgs s__law_numbers) (defBody s__law_numbers) (defScope s__law_numbers) .none kV__law_numbers dc__law_numbers pm__law_numbers an__law_numbers cd__law_numbers ct__law_numbers), sl__law_numbers⟩) (c__law_numbers : PySem.W.codeIn K cd__law_numbers "_law_numbers" = true) (k__law_numbers : PySem.W.keepIn K (.ref f__law_numbers) = true)
    {f__law_same : Addr} {od__law_same an__law_same : Option Addr} {sl__law_same : Array (Option Value)} {oc__law_same kV__law_same dc__law_same pm__law_same cd__law_same ct__law_same : Value} (A__law_same : PySem.W.nsIn K mainGlobals "_law_same" = some (some (.ref f__law_same))) (l__law_same : K.lookup f__law_same = some ⟨oc__law_same, od__law_same, .func (PySem.W.fnOf "_law_same" "_law_same" (defArgs s__law_same) (defBody s__law_same) (defScope s__law_same) .none kV__law_same dc__law_same pm__law_same an__law_same cd__law_same ct__law_same), sl__law_same⟩) (c__law_same : PySem.W.codeIn K cd__law_same "_law_same" = true) (k__law_same : PySem.W.keepIn K (.ref f__law_same) = true)
    {f__law_after : Addr} {od__law_after an__law_after : Option Addr} {sl__law_after : Array (Option Value)} {oc__law_after kV__law_after dc__law_after pm__law_after cd__law_after ct__law_after : Value} (A__law_after : PySem.W.nsIn K mainGlobals "_law_after" = some (some (.ref f__law_after))) (l__law_after : K.lookup f__law_after = some ⟨oc__law_after, od__law_after, .func (PySem.W.fnOf "_law_after" "_law_after" (defArgs s__law_after) (defBody s__law_after) (defScope s__law_after) .none kV__law_after dc__law_after pm__law_after an__law_after cd__law_after ct__law_after), sl__law_after⟩) (c__law_after : PySem.W.codeIn K cd__law_after "_law_after" = true) (k__law_after : PySem.W.keepIn K (.ref f__law_after) = true)
    {f__law_counted : Addr} {od__law_counted an__law_counted : Option Addr} {sl__law_counted : Array (Option Value)} {oc__law_counted kV__law_counted dc__law_counted pm__law_counted cd__law_counted ct__law_counted : Value} (A__law_counted : PySem.W.nsIn K mainGlobals "_law_counted" = some (some (.ref f__law_counted))) (l__law_counted : K.lookup f__law_counted = some ⟨oc__law_counted, od__law_counted, .func (PySem.W.fnOf "_law_counted" "_law_counted" (defArgs s__law_counted) (defBody s__law_counted) (defScope s__law_counted) .none kV__law_counted dc__law_counted pm__law_counted an__law_counted cd__law_counted ct__law_counted), sl__law_counted⟩) (c__law_counted : PySem.W.codeIn K cd__law_counted "_law_counted" = true) (k__law_counted : PySem.W.keepIn K (.ref f__law_counted) = true)
    {f__law_choice : Addr} {od__law_choice an__law_choice : Option Addr} {sl__law_choice : Array (Option Value)} {oc__law_choice kV__law_choice dc__law_choice pm__law_choice cd__law_choice ct__law_choice : Value} (A__law_choice : PySem.W.nsIn K mainGlobals "_law_choice" = some (some (.ref f__law_choice))) (l__law_choice : K.lookup f__law_choice = some ⟨oc__law_choice, od__law_choice, .func (PySem.W.fnOf "_law_choice" "_law_choice" (defArgs s__law_choice) (defBody s__law_choice) (defScope s__law_choice) .none kV__law_choice dc__law_choice pm__law_choice an__law_choice cd__law_choice ct__law_choice), sl__law_choice⟩) (c__law_choice : PySem.W.codeIn K cd__law_choice "_law_choice" = true) (k__law_choice : PySem.W.keepIn K (.ref f__law_choice) = true)
    {f__law_rule : Addr} {od__law_rule an__law_rule : Option Addr} {sl__law_rule : Array (Option Value)} {oc__law_rule kV__law_rule dc__law_rule pm__law_rule cd__law_rule ct__law_rule : Value} (A__law_rule : PySem.W.nsIn K mainGlobals "_law_rule" = some (some (.ref f__law_rule))) (l__law_rule : K.lookup f__law_rule = some ⟨oc__law_rule, od__law_rule, .func (PySem.W.fnOf "_law_rule" "_law_rule" (defArgs s__law_rule) (defBody s__law_rule) (defScope s__law_rule) .none kV__law_rule dc__law_rule pm__law_rule an__law_rule cd__law_rule ct__law_rule), sl__law_rule⟩) (c__law_rule : PySem.W.codeIn K cd__law_rule "_law_rule" = true) (k__law_rule : PySem.W.keepIn K (.ref f__law_rule) = true)
    {f__law_stops : Addr} {od__law_stops an__law_stops : Option Addr} {sl__law_stops : Array (Option Value)} {oc__law_stops kV__law_stops dc__law_stops pm__law_stops cd__law_stops ct__law_stops : Value} (A__law_stops : PySem.W.nsIn K mainGlobals "_law_stops" = some (some (.ref f__law_stops))) (l__law_stops : K.lookup f__law_stops = some ⟨oc__law_stops, od__law_stops, .func (PySem.W.fnOf "_law_stops" "_law_stops" (defArgs s__law_stops) (defBody s__law_stops) (defScope s__law_stops) .none kV__law_stops dc__law_stops pm__law_stops an__law_stops cd__law_stops ct__law_stops), sl__law_stops⟩) (c__law_stops : PySem.W.codeIn K cd__law_stops "_law_stops" = true) (k__law_stops : PySem.W.keepIn K (.ref f__law_stops) = true)
    {f__law_tape : Addr} {od__law_tape an__law_tape : Option Addr} {sl__law_tape : Array (Option Value)} {oc__law_tape kV__law_tape dc__law_tape pm__law_tape cd__law_tape ct__law_tape : Value} (A__law_tape : PySem.W.nsIn K mainGlobals "_law_tape" = some (some (.ref f__law_tape))) (l__law_tape : K.lookup f__law_tape = some ⟨oc__law_tape, od__law_tape, .func (PySem.W.fnOf "_law_tape" "_law_tape" (defArgs s__law_tape) (defBody s__law_tape) (defScope s__law_tape) .none kV__law_tape dc__law_tape pm__law_tape an__law_tape cd__law_tape ct__law_tape), sl__law_tape⟩) (c__law_tape : PySem.W.codeIn K cd__law_tape "_law_tape" = true) (k__law_tape : PySem.W.keepIn K (.ref f__law_tape) = true)
    {f__law_made : Addr} {od__law_made an__law_made : Option Addr} {sl__law_made : Array (Option Value)} {oc__law_made kV__law_made dc__law_made pm__law_made cd__law_made ct__law_made : Value} (A__law_made : PySem.W.nsIn K mainGlobals "_law_made" = some (some (.ref f__law_made))) (l__law_made : K.lookup f__law_made = some ⟨oc__law_made, od__law_made, .func (PySem.W.fnOf "_law_made" "_law_made" (defArgs s__law_made) (defBody s__law_made) (defScope s__law_made) .none kV__law_made dc__law_made pm__law_made an__law_made cd__law_made ct__law_made), sl__law_made⟩) (c__law_made : PySem.W.codeIn K cd__law_made "_law_made" = true) (k__law_made : PySem.W.keepIn K (.ref f__law_made) = true)
    {f__law_refuses : Addr} {od__law_refuses an__law_refuses : Option Addr} {sl__law_refuses : Array (Option Value)} {oc__law_refuses kV__law_refuses dc__law_refuses pm__law_refuses cd__law_refuses ct__law_refuses : Value} (A__law_refuses : PySem.W.nsIn K mainGlobals "_law_refuses" = some (some (.ref f__law_refuses))) (l__law_refuses : K.lookup f__law_refuses = some ⟨oc__law_refuses, od__law_refuses, .func (PySem.W.fnOf "_law_refuses" "_law_refuses" (defArgs s__law_refuses) (defBody s__law_refuses) (defScope s__law_refuses) .none kV__law_refuses dc__law_refuses pm__law_refuses an__law_refuses cd__law_refuses ct__law_refuses), sl__law_refuses⟩) (c__law_refuses : PySem.W.codeIn K cd__law_refuses "_law_refuses" = true) (k__law_refuses : PySem.W.keepIn K (.ref f__law_refuses) = true)
    {f__law_chosen : Addr} {od__law_chosen an__law_chosen : Option Addr} {sl__law_chosen : Array (Option Value)} {oc__law_chosen kV__law_chosen dc__law_chosen pm__law_chosen cd__law_chosen ct__law_chosen : Value} (A__law_chosen : PySem.W.nsIn K mainGlobals "_law_chosen" = some (some (.ref f__law_chosen))) (l__law_chosen : K.lookup f__law_chosen = some ⟨oc__law_chosen, od__law_chosen, .func (PySem.W.fnOf "_law_chosen" "_law_chosen" (defArgs s__law_chosen) (defBody s__law_chosen) (defScope s__law_chosen) .none kV__law_chosen dc__law_chosen pm__law_chosen an__law_chosen cd__law_chosen ct__law_chosen), sl__law_chosen⟩) (c__law_chosen : PySem.W.codeIn K cd__law_chosen "_law_chosen" = true) (k__law_chosen : PySem.W.keepIn K (.ref f__law_chosen) = true)
    {f_law : Addr} {od_law an_law : Option Addr} {sl_law : Array (Option Value)} {oc_law kV_law dc_law pm_law cd_law ct_law : Value} (A_law : PySem.W.nsIn K mainGlobals "law" = some (some (.ref f_law))) (l_law : K.lookup f_law = some ⟨oc_law, od_law, .func (PySem.W.fnOf "law" "law" (defArgs s_law) (defBody s_law) (defScope s_law) .none kV_law dc_law pm_law an_law cd_law ct_law), sl_law⟩) (c_law : PySem.W.codeIn K cd_law "law" = true) (k_law : PySem.W.keepIn K (.ref f_law) = true)
    (z_ValueError : PySem.W.nsIn K mainGlobals "ValueError" = some none)
    (z_abs : PySem.W.nsIn K mainGlobals "abs" = some none)
    (z_bool : PySem.W.nsIn K mainGlobals "bool" = some none)
    (z_enumerate : PySem.W.nsIn K mainGlobals "enumerate" = some none)
    (z_int : PySem.W.nsIn K mainGlobals "int" = some none)
    (z_isinstance : PySem.W.nsIn K mainGlobals "isinstance" = some none)
    (z_len : PySem.W.nsIn K mainGlobals "len" = some none)
    (z_list : PySem.W.nsIn K mainGlobals "list" = some none)
    (z_max : PySem.W.nsIn K mainGlobals "max" = some none)
    (z_min : PySem.W.nsIn K mainGlobals "min" = some none)
    (z_range : PySem.W.nsIn K mainGlobals "range" = some none)
    (z_repr : PySem.W.nsIn K mainGlobals "repr" = some none)
    (z_str : PySem.W.nsIn K mainGlobals "str" = some none)
    (z_sum : PySem.W.nsIn K mainGlobals "sum" = some none)
    (z_tuple : PySem.W.nsIn K mainGlobals "tuple" = some none) :
    ∃ fd : FuncData, (∀ (s : Shared) (v : Value), BindsTo s fd ⟨[v], []⟩ [("script", v)]) ∧ ∀ base : Heap, K.In base → base.Ns mainGlobals mg → FnG l.prog w K mg base CX0 9 fa fd ["script"] (SpA K C_law) := by
  have e := hfa.symm.trans (PySem.W.mg_of X G A_law)
  cases e
  obtain ⟨p1_InvalidNumber, p2_InvalidNumber, q1_InvalidNumber, q2_InvalidNumber, q3_InvalidNumber, q4_InvalidNumber, ea_InvalidNumber, eb_InvalidNumber, es_InvalidNumber⟩ := ex_InvalidNumber
  rw [ea_InvalidNumber, eb_InvalidNumber, es_InvalidNumber] at l1_InvalidNumber
  have F_is_integer := fun_mk (st := s_is_integer) l_is_integer c_is_integer k_is_integer
  have b_is_integer := F_is_integer.binds (ps := ["value"]) fun _ _ _ _ _ _ us hl => match us, hl with | [_], _ => rfl
  have F_is_from := fun_mk (st := s_is_from) l_is_from c_is_from k_is_from
  have b_is_from := F_is_from.binds (ps := ["value", "low", "high"]) fun _ _ _ _ _ _ us hl => match us, hl with | [_, _, _], _ => rfl
  have F_greatest := fun_mk (st := s_greatest) l_greatest c_greatest k_greatest
  have b_greatest := F_greatest.binds (ps := ["weights"]) fun _ _ _ _ _ _ us hl => match us, hl with | [_], _ => rfl
  have F_by_number := fun_mk (st := s_by_number) l_by_number c_by_number k_by_number
  have b_by_number := F_by_number.binds (ps := ["weights", "number"]) fun _ _ _ _ _ _ us hl => match us, hl with | [_, _], _ => rfl
  have F_Rule___init__ := fun_mk (st := s_Rule___init__) l_Rule___init__ c_Rule___init__ k_Rule___init__
  have b_Rule___init__ := F_Rule___init__.binds (ps := ["self", "start", "steps"]) fun _ _ _ _ _ _ us hl => match us, hl with | [_, _, _], _ => rfl
  have F_Rule_after := fun_mk (st := s_Rule_after) l_Rule_after c_Rule_after k_Rule_after
  have b_Rule_after := F_Rule_after.binds (ps := ["self", "text"]) fun _ _ _ _ _ _ us hl => match us, hl with | [_, _], _ => rfl
  have F_Rule_lets := fun_mk (st := s_Rule_lets) l_Rule_lets c_Rule_lets k_Rule_lets
  have b_Rule_lets := F_Rule_lets.binds (ps := ["self", "text", "letter"]) fun _ _ _ _ _ _ us hl => match us, hl with | [_, _, _], _ => rfl
  have F_Rule___eq__ := fun_mk (st := s_Rule___eq__) l_Rule___eq__ c_Rule___eq__ k_Rule___eq__
  have b_Rule___eq__ := F_Rule___eq__.binds (ps := ["self", "other"]) fun _ _ _ _ _ _ us hl => match us, hl with | [_, _], _ => rfl
  have F_Ask___init__ := fun_mk (st := s_Ask___init__) l_Ask___init__ c_Ask___init__ k_Ask___init__
  have FD_Ask___init__ : FunD K "__init__" "Ask.__init__" (defArgs s_Ask___init__) (defBody s_Ask___init__) (defScope s_Ask___init__) [] [("stops", .ref kT_Ask___init___stops), ("tape", .ref kT_Ask___init___tape), ("rule", .non)] f_Ask___init__ _ := ⟨⟨_, _, _, _, _, _, _, _, _, _, rfl, l_Ask___init__, c_Ask___init__, .inl ⟨rfl, rfl⟩, .inr ⟨kD_Ask___init__, rfl, fun q hq => by
    simp only [List.mem_cons, List.not_mem_nil, or_false] at hq
    rcases hq with rfl | rfl | rfl
    · exact ⟨_, kd_Ask___init___stops, rfl⟩
    · exact ⟨_, kd_Ask___init___tape, rfl⟩
    · exact ⟨_, kd_Ask___init___rule, rfl⟩⟩⟩, k_Ask___init__⟩
  obtain ⟨ds_Ask___init__, v_Ask___init__, b_Ask___init__⟩ := FD_Ask___init__.binds0 (ps := ["self", "prompt", "most", "stops", "tape", "rule"]) 3 (by simp) rfl (fun D doc pm an cdv ct us ks l1 l2 => match us, ks, l1, l2 with | [_, _, _], [_, _, _], _, _ => ⟨_, _, _, _, _, _, rfl, rfl, ⟨_, _, _, _, _, _, rfl, rfl, ⟨_, _, _, _, _, _, rfl, rfl, rfl⟩⟩⟩)
  have kb_Ask___init___0 := FD_Ask___init__.kbinds0 (ps := ["self", "prompt", "most", "stops", "tape", "rule"]) 3 ["stops", "tape", "rule"] ([] : List (Str × V)) (fun vs mz zs => vs ++ zs) (by simp) (by simp) (fun a b c => a.append c) (fun D doc pm an cdv ct us mv ws l1 l2 l3 => match us, mv, ws, l1, l2, l3 with | [_, _, _], [], [_, _, _], _, _, _ => rfl)
  have kb_Ask___init___1 := FD_Ask___init__.kbinds0 (ps := ["self", "prompt", "most", "stops", "tape", "rule"]) 3 ["tape"] ([("stops", .ref kT_Ask___init___stops), ("rule", .non)] : List (Str × V)) (fun vs mz zs => vs ++ ((mz.drop 0).take 1 ++ (zs.drop 0).take 1 ++ (mz.drop 1).take 1)) (by simp) (by simp) (fun a b c => a.append ((((b.drop 0).take 1).append ((c.drop 0).take 1)).append ((b.drop 1).take 1))) (fun D doc pm an cdv ct us mv ws l1 l2 l3 => match us, mv, ws, l1, l2, l3 with | [_, _, _], [_, _], [_], _, _, _ => ⟨_, _, _, _, _, _, rfl, rfl, ⟨_, _, _, _, _, _, rfl, rfl, rfl⟩⟩)
  have kb_Ask___init___2 := FD_Ask___init__.kbinds0 (ps := ["self", "prompt", "most", "stops", "tape", "rule"]) 3 ["stops"] ([("tape", .ref kT_Ask___init___tape), ("rule", .non)] : List (Str × V)) (fun vs mz zs => vs ++ ((zs.drop 0).take 1 ++ (mz.drop 0).take 1 ++ (mz.drop 1).take 1)) (by simp) (by simp) (fun a b c => a.append ((((c.drop 0).take 1).append ((b.drop 0).take 1)).append ((b.drop 1).take 1))) (fun D doc pm an cdv ct us mv ws l1 l2 l3 => match us, mv, ws, l1, l2, l3 with | [_, _, _], [_, _], [_], _, _, _ => ⟨_, _, _, _, _, _, rfl, rfl, ⟨_, _, _, _, _, _, rfl, rfl, rfl⟩⟩)
  have F_Ask___init__ := fun_mk (st := s_Ask___init__) l_Ask___init__ c_Ask___init__ k_Ask___init__
  have F_Ask_counted := fun_mk (st := s_Ask_counted) l_Ask_counted c_Ask_counted k_Ask_counted
  have b_Ask_counted := F_Ask_counted.binds (ps := ["self", "weights", "text"]) fun _ _ _ _ _ _ us hl => match us, hl with | [_, _, _], _ => rfl
  have F_Ask_choice := fun_mk (st := s_Ask_choice) l_Ask_choice c_Ask_choice k_Ask_choice
  have b_Ask_choice := F_Ask_choice.binds (ps := ["self", "weights", "text"]) fun _ _ _ _ _ _ us hl => match us, hl with | [_, _, _], _ => rfl
  have F__law_numbers := fun_mk (st := s__law_numbers) l__law_numbers c__law_numbers k__law_numbers
  have b__law_numbers := F__law_numbers.binds (ps := ["cell", "at", "many"]) fun _ _ _ _ _ _ us hl => match us, hl with | [_, _, _], _ => rfl
  have F__law_same := fun_mk (st := s__law_same) l__law_same c__law_same k__law_same
  have b__law_same := F__law_same.binds (ps := ["actual", "expected"]) fun _ _ _ _ _ _ us hl => match us, hl with | [_, _], _ => rfl
  have F__law_after := fun_mk (st := s__law_after) l__law_after c__law_after k__law_after
  have b__law_after := F__law_after.binds (ps := ["rule", "text"]) fun _ _ _ _ _ _ us hl => match us, hl with | [_, _], _ => rfl
  have F__law_counted := fun_mk (st := s__law_counted) l__law_counted c__law_counted k__law_counted
  have b__law_counted := F__law_counted.binds (ps := ["weights", "rule", "text"]) fun _ _ _ _ _ _ us hl => match us, hl with | [_, _, _], _ => rfl
  have F__law_choice := fun_mk (st := s__law_choice) l__law_choice c__law_choice k__law_choice
  have b__law_choice := F__law_choice.binds (ps := ["weights", "rule", "tape", "text"]) fun _ _ _ _ _ _ us hl => match us, hl with | [_, _, _, _], _ => rfl
  have F__law_rule := fun_mk (st := s__law_rule) l__law_rule c__law_rule k__law_rule
  have b__law_rule := F__law_rule.binds (ps := ["numbers", "k", "letters"]) fun _ _ _ _ _ _ us hl => match us, hl with | [_, _, _], _ => rfl
  have F__law_stops := fun_mk (st := s__law_stops) l__law_stops c__law_stops k__law_stops
  have b__law_stops := F__law_stops.binds (ps := ["numbers", "k", "letters"]) fun _ _ _ _ _ _ us hl => match us, hl with | [_, _, _], _ => rfl
  have F__law_tape := fun_mk (st := s__law_tape) l__law_tape c__law_tape k__law_tape
  have b__law_tape := F__law_tape.binds (ps := ["numbers", "k"]) fun _ _ _ _ _ _ us hl => match us, hl with | [_, _], _ => rfl
  have F__law_made := fun_mk (st := s__law_made) l__law_made c__law_made k__law_made
  have b__law_made := F__law_made.binds (ps := ["prompt", "most", "stops", "tape", "rule", "short"]) fun _ _ _ _ _ _ us hl => match us, hl with | [_, _, _, _, _, _], _ => rfl
  have F__law_refuses := fun_mk (st := s__law_refuses) l__law_refuses c__law_refuses k__law_refuses
  have b__law_refuses := F__law_refuses.binds (ps := ["prompt", "most"]) fun _ _ _ _ _ _ us hl => match us, hl with | [_, _], _ => rfl
  have F__law_chosen := fun_mk (st := s__law_chosen) l__law_chosen c__law_chosen k__law_chosen
  have b__law_chosen := F__law_chosen.binds (ps := ["ask", "numbers", "letters", "rule", "tape"]) fun _ _ _ _ _ _ us hl => match us, hl with | [_, _, _, _, _], _ => rfl
  have F_law := fun_mk (st := s_law) l_law c_law k_law
  have b_law := F_law.binds (ps := ["script"]) fun _ _ _ _ _ _ us hl => match us, hl with | [_], _ => rfl
  let T : Tx K mg := { d_is_integer := { a := _, fd := _, F := F_is_integer, b := b_is_integer, g := PySem.W.mg_of X G A_is_integer }, d_is_from := { a := _, fd := _, F := F_is_from, b := b_is_from, g := PySem.W.mg_of X G A_is_from }, d_greatest := { a := _, fd := _, F := F_greatest, b := b_greatest, g := PySem.W.mg_of X G A_greatest }, d_by_number := { a := _, fd := _, F := F_by_number, b := b_by_number, g := PySem.W.mg_of X G A_by_number }, d_Rule___init__ := { a := _, fd := _, F := F_Rule___init__, b := b_Rule___init__ }, d_Rule_after := { a := _, fd := _, F := F_Rule_after, b := b_Rule_after }, d_Rule_lets := { a := _, fd := _, F := F_Rule_lets, b := b_Rule_lets }, d_Rule___eq__ := { a := _, fd := _, F := F_Rule___eq__, b := b_Rule___eq__ }, d_Ask___init__ := { a := _, fd := _, F := F_Ask___init__, b := b_Ask___init__, ds := ds_Ask___init__, v := v_Ask___init__, kT_stops := _, kt_stops := .inr ⟨_, _, _, lT_Ask___init___stops, zK_T_Ask___init___stops, vK_T_Ask___init___stops⟩, kT_tape := _, kt_tape := .inr ⟨_, _, _, lT_Ask___init___tape, zK_T_Ask___init___tape, vK_T_Ask___init___tape⟩, kb_0 := kb_Ask___init___0, kb_1 := kb_Ask___init___1, kb_2 := kb_Ask___init___2 }, d_Ask_counted := { a := _, fd := _, F := F_Ask_counted, b := b_Ask_counted }, d_Ask_choice := { a := _, fd := _, F := F_Ask_choice, b := b_Ask_choice }, d__law_numbers := { a := _, fd := _, F := F__law_numbers, b := b__law_numbers, g := PySem.W.mg_of X G A__law_numbers }, d__law_same := { a := _, fd := _, F := F__law_same, b := b__law_same, g := PySem.W.mg_of X G A__law_same }, d__law_after := { a := _, fd := _, F := F__law_after, b := b__law_after, g := PySem.W.mg_of X G A__law_after }, d__law_counted := { a := _, fd := _, F := F__law_counted, b := b__law_counted, g := PySem.W.mg_of X G A__law_counted }, d__law_choice := { a := _, fd := _, F := F__law_choice, b := b__law_choice, g := PySem.W.mg_of X G A__law_choice }, d__law_rule := { a := _, fd := _, F := F__law_rule, b := b__law_rule, g := PySem.W.mg_of X G A__law_rule }, d__law_stops := { a := _, fd := _, F := F__law_stops, b := b__law_stops, g := PySem.W.mg_of X G A__law_stops }, d__law_tape := { a := _, fd := _, F := F__law_tape, b := b__law_tape, g := PySem.W.mg_of X G A__law_tape }, d__law_made := { a := _, fd := _, F := F__law_made, b := b__law_made, g := PySem.W.mg_of X G A__law_made }, d__law_refuses := { a := _, fd := _, F := F__law_refuses, b := b__law_refuses, g := PySem.W.mg_of X G A__law_refuses }, d__law_chosen := { a := _, fd := _, F := F__law_chosen, b := b__law_chosen, g := PySem.W.mg_of X G A__law_chosen }, d_law := { a := _, fd := _, F := F_law, b := b_law, g := PySem.W.mg_of X G A_law }, m_ValueError := PySem.W.mg_none_of X G z_ValueError, m_abs := PySem.W.mg_none_of X G z_abs, m_bool := PySem.W.mg_none_of X G z_bool, m_enumerate := PySem.W.mg_none_of X G z_enumerate, m_int := PySem.W.mg_none_of X G z_int, m_isinstance := PySem.W.mg_none_of X G z_isinstance, m_len := PySem.W.mg_none_of X G z_len, m_list := PySem.W.mg_none_of X G z_list, m_max := PySem.W.mg_none_of X G z_max, m_min := PySem.W.mg_none_of X G z_min, m_range := PySem.W.mg_none_of X G z_range, m_repr := PySem.W.mg_none_of X G z_repr, m_str := PySem.W.mg_none_of X G z_str, m_sum := PySem.W.mg_none_of X G z_sum, m_tuple := PySem.W.mg_none_of X G z_tuple, c_Ask := { aC := _, cl := ⟨pg_Ask, hd_Ask, po_Ask, sa_Ask⟩, mgC := PySem.W.mg_of X G AC_Ask, nA_most := na_Ask_most, nA_prompt := na_Ask_prompt, nA_rule := na_Ask_rule, nA_stops := na_Ask_stops, nA_tape := na_Ask_tape }, mk_Ask := ⟨mk_Ask, A_Ask___init__, i_Ask___init__, kc_Ask⟩, c_Rule := { aC := _, cl := ⟨pg_Rule, hd_Rule, po_Rule, sa_Rule⟩, mgC := PySem.W.mg_of X G AC_Rule, nA_start := na_Rule_start, nA_steps := na_Rule_steps }, mk_Rule := ⟨mk_Rule, A_Rule___init__, i_Rule___init__, kc_Rule⟩, e_InvalidLetter := { aC := fC_InvalidLetter, mgC := PySem.W.mg_of X G AC_InvalidLetter }, e_InvalidNumber := { aC := fC_InvalidNumber, mgC := PySem.W.mg_of X G AC_InvalidNumber, fI := fI_InvalidNumber, tx := { gC := PySem.W.mg_of X G AC_InvalidNumber, cls := ⟨_, _, _, _, _, _, _, _, _, _, _, _, _, _, _, xL_InvalidNumber, rvE_InvalidNumber⟩, sa := sa_InvalidNumber, noN := nb_InvalidNumber, iC := a1_InvalidNumber, tC := t1_InvalidNumber, kC := kC_InvalidNumber, exC := eC_InvalidNumber, tyC := tC_InvalidNumber, fn := ⟨_, _, _, _, _, _, _, _, _, _, _, _, _, _, l1_InvalidNumber, c1_InvalidNumber⟩ }, xc := ⟨iC_InvalidNumber, ga_InvalidNumber, gg_InvalidNumber, eC_InvalidNumber, ca_InvalidNumber, cgE, tkE, mo_InvalidNumber, hC_InvalidNumber⟩, xf := ⟨ga_InvalidNumber, gg_InvalidNumber, eC_InvalidNumber, hC_InvalidNumber⟩, nf := nb_InvalidNumber }, e_NoHouse := { aC := fC_NoHouse, mgC := PySem.W.mg_of X G AC_NoHouse }, e_NoRequest := { aC := fC_NoRequest, mgC := PySem.W.mg_of X G AC_NoRequest }, e_NoRoom := { aC := fC_NoRoom, mgC := PySem.W.mg_of X G AC_NoRoom }, e_NotAlone := { aC := fC_NotAlone, mgC := PySem.W.mg_of X G AC_NotAlone }, e_NotHeld := { aC := fC_NotHeld, mgC := PySem.W.mg_of X G AC_NotHeld }, e_ServeError := { aC := fC_ServeError, mgC := PySem.W.mg_of X G AC_ServeError }, e_TooLarge := { aC := fC_TooLarge, mgC := PySem.W.mg_of X G AC_TooLarge }, em_InvalidNumber := PySem.W.exm_ref eS hS tS sS_InvalidNumber, kv_InvalidNumber := kvE_InvalidNumber, ko_InvalidNumber_InvalidLetter := koE_InvalidNumber_InvalidLetter, ko_InvalidNumber_InvalidNumber := by unfold PySem.W.kitOne; rw [if_pos (by simp)], ko_InvalidNumber_NoHouse := koE_InvalidNumber_NoHouse, ko_InvalidNumber_NoRequest := koE_InvalidNumber_NoRequest, ko_InvalidNumber_NoRoom := koE_InvalidNumber_NoRoom, ko_InvalidNumber_NotAlone := koE_InvalidNumber_NotAlone, ko_InvalidNumber_NotHeld := koE_InvalidNumber_NotHeld, ko_InvalidNumber_ServeError := koE_InvalidNumber_ServeError, ko_InvalidNumber_TooLarge := koE_InvalidNumber_TooLarge, ic_Rule := ⟨⟨pg_Rule, hd_Rule, po_Rule, sa_Rule⟩, caO_Rule, cgO, tkO, moO_Rule⟩, nb_Rule := AL.noB_mk koE_NoneType_Rule koE_bool_Rule koE_int_Rule koE_str_Rule koE_list_Rule koE_tuple_Rule, meth_Ask_choice := ⟨A_Ask_choice, i_Ask_choice, k_Ask_choice⟩, meth_Ask_counted := ⟨A_Ask_counted, i_Ask_counted, k_Ask_counted⟩, meth_Rule___eq__ := ⟨A_Rule___eq__, i_Rule___eq__, k_Rule___eq__⟩, meth_Rule_after := ⟨A_Rule_after, i_Rule_after, k_Rule_after⟩, meth_Rule_lets := ⟨A_Rule_lets, i_Rule_lets, k_Rule_lets⟩ }
  refine ⟨PySem.W.fnOf "law" "law" (defArgs s_law) (defBody s_law) (defScope s_law) .none kV_law dc_law pm_law an_law cd_law ct_law, fun s v => .of_eq rfl, fun base _ _ => ?_⟩
  have g_is_integer := ok_is_integer (P := l.prog) (w := w) (base := base) T
  have g_is_from := ok_is_from (P := l.prog) (w := w) (base := base) T g_is_integer
  have g_greatest := ok_greatest (P := l.prog) (w := w) (base := base) T
  have g_by_number := ok_by_number (P := l.prog) (w := w) (base := base) T
  have g_Rule___init__ := ok_Rule___init__ (P := l.prog) (w := w) (base := base) T
  have g_Rule_after := ok_Rule_after (P := l.prog) (w := w) (base := base) T
  have g_Rule_lets := ok_Rule_lets (P := l.prog) (w := w) (base := base) T g_Rule_after
  have g_Rule___eq__ := ok_Rule___eq__ (P := l.prog) (w := w) (base := base) T
  have g_Ask___init__ := ok_Ask___init__ (P := l.prog) (w := w) (base := base) T g_is_from
  have g_Ask_counted := ok_Ask_counted (P := l.prog) (w := w) (base := base) T g_Rule_lets
  have g_Ask_choice := ok_Ask_choice (P := l.prog) (w := w) (base := base) T g_Ask_counted g_by_number g_greatest
  have g__law_numbers := ok__law_numbers (P := l.prog) (w := w) (base := base) T
  have g__law_same := fun k => ok__law_same (P := l.prog) (w := w) (base := base) T k
  have g__law_after := ok__law_after (P := l.prog) (w := w) (base := base) T
  have g__law_counted := ok__law_counted (P := l.prog) (w := w) (base := base) T g__law_after
  have g__law_choice := ok__law_choice (P := l.prog) (w := w) (base := base) T g__law_counted
  have g__law_rule := ok__law_rule (P := l.prog) (w := w) (base := base) T
  have g__law_stops := ok__law_stops (P := l.prog) (w := w) (base := base) T
  have g__law_tape := ok__law_tape (P := l.prog) (w := w) (base := base) T
  have g__law_made := ok__law_made (P := l.prog) (w := w) (base := base) T g_Ask___init__
  have g__law_refuses := ok__law_refuses (P := l.prog) (w := w) (base := base) T g_Ask___init__
  have g__law_chosen := ok__law_chosen (P := l.prog) (w := w) (base := base) T g_Ask_choice g__law_choice (g__law_same 6)
  have g_law := ok_law (P := l.prog) (w := w) (base := base) T g_Rule___eq__ g_Rule___init__ g__law_chosen g__law_made g__law_numbers g__law_refuses g__law_rule (g__law_same 6) g__law_stops g__law_tape
  exact g_law
end LW

open PySem PySem.W PyProof.Rows
set_option maxRecDepth 100000 in
set_option maxHeartbeats 0 in
theorem PySem.Challenge.cw_servedalone_k05_asks_and_choices_holds : PySem.Challenge.rw_servedalone_k05_asks_and_choices.Holds := by
  w_on; o_law; k_head; (case hw => w_witness2)
  k_fill
  refine AL.walk_ofG (l := PySem.Challenge.rw_servedalone_k05_asks_and_choices) (n := 63) (k := 9) (x := "script") (sp := fun w => AL.SpA _ LW.C_law) rfl (by decide) rfl ⟨rfl, by decide, by decide⟩ (fun w h Y => PySem.W.kIn_of Y) ?F (fun _ _ a ns hl _ hS => AL.spa_start hS (LW.start_law ns hl))
  case F =>
    intro w mg fa h KX G hmg
    refine' LW.all_mk KX G hmg ?AC_Ask ?pg_Ask ?hd_Ask ?po_Ask ?sa_Ask ?mk_Ask ?kc_Ask ?na_Ask_most ?na_Ask_prompt ?na_Ask_rule ?na_Ask_stops ?na_Ask_tape ?AC_Rule ?pg_Rule ?hd_Rule ?po_Rule ?sa_Rule ?mk_Rule ?kc_Rule ?na_Rule_start ?na_Rule_steps ?AC_InvalidLetter ?AC_InvalidNumber ?xL_InvalidNumber ?rvE_InvalidNumber ?sa_InvalidNumber ?ga_InvalidNumber ?gg_InvalidNumber ?nb_InvalidNumber ?a1_InvalidNumber ?t1_InvalidNumber ?l1_InvalidNumber ?c1_InvalidNumber ?kC_InvalidNumber ?eC_InvalidNumber ?tC_InvalidNumber ?hC_InvalidNumber ?iC_InvalidNumber ?ca_InvalidNumber ?mo_InvalidNumber ?AC_NoHouse ?AC_NoRequest ?AC_NoRoom ?AC_NotAlone ?AC_NotHeld ?AC_ServeError ?AC_TooLarge ?cgE ?tkE ?eS ?hS ?tS ?sS_InvalidNumber ?kvE_InvalidNumber ?koE_InvalidNumber_InvalidLetter ?koE_InvalidNumber_NoHouse ?koE_InvalidNumber_NoRequest ?koE_InvalidNumber_NoRoom ?koE_InvalidNumber_NotAlone ?koE_InvalidNumber_NotHeld ?koE_InvalidNumber_ServeError ?koE_InvalidNumber_TooLarge ?cgO ?tkO ?caO_Rule ?moO_Rule ?koE_NoneType_Rule ?koE_bool_Rule ?koE_int_Rule ?koE_str_Rule ?koE_list_Rule ?koE_tuple_Rule ?A_is_integer ?l_is_integer ?c_is_integer ?k_is_integer ?A_is_from ?l_is_from ?c_is_from ?k_is_from ?A_greatest ?l_greatest ?c_greatest ?k_greatest ?A_by_number ?l_by_number ?c_by_number ?k_by_number ?A_Rule___init__ ?i_Rule___init__ ?l_Rule___init__ ?c_Rule___init__ ?k_Rule___init__ ?A_Rule_after ?i_Rule_after ?l_Rule_after ?c_Rule_after ?k_Rule_after ?A_Rule_lets ?i_Rule_lets ?l_Rule_lets ?c_Rule_lets ?k_Rule_lets ?A_Rule___eq__ ?i_Rule___eq__ ?l_Rule___eq__ ?c_Rule___eq__ ?k_Rule___eq__ ?A_Ask___init__ ?i_Ask___init__ ?l_Ask___init__ ?c_Ask___init__ ?k_Ask___init__ ?kd_Ask___init___stops ?lT_Ask___init___stops ?zK_T_Ask___init___stops ?vK_T_Ask___init___stops ?kd_Ask___init___tape ?lT_Ask___init___tape ?zK_T_Ask___init___tape ?vK_T_Ask___init___tape ?kd_Ask___init___rule ?A_Ask_counted ?i_Ask_counted ?l_Ask_counted ?c_Ask_counted ?k_Ask_counted ?A_Ask_choice ?i_Ask_choice ?l_Ask_choice ?c_Ask_choice ?k_Ask_choice ?A__law_numbers ?l__law_numbers ?c__law_numbers ?k__law_numbers ?A__law_same ?l__law_same ?c__law_same ?k__law_same ?A__law_after ?l__law_after ?c__law_after ?k__law_after ?A__law_counted ?l__law_counted ?c__law_counted ?k__law_counted ?A__law_choice ?l__law_choice ?c__law_choice ?k__law_choice ?A__law_rule ?l__law_rule ?c__law_rule ?k__law_rule ?A__law_stops ?l__law_stops ?c__law_stops ?k__law_stops ?A__law_tape ?l__law_tape ?c__law_tape ?k__law_tape ?A__law_made ?l__law_made ?c__law_made ?k__law_made ?A__law_refuses ?l__law_refuses ?c__law_refuses ?k__law_refuses ?A__law_chosen ?l__law_chosen ?c__law_chosen ?k__law_chosen ?A_law ?l_law ?c_law ?k_law ?z_ValueError ?z_abs ?z_bool ?z_enumerate ?z_int ?z_isinstance ?z_len ?z_list ?z_max ?z_min ?z_range ?z_repr ?z_str ?z_sum ?z_tuple
    (case AC_Ask => k_is); (case pg_Ask => k_is); (case hd_Ask => k_is); (case po_Ask => k_is); (case sa_Ask => k_is); (case mk_Ask => k_is); (case kc_Ask => k_is); (case na_Ask_most => k_is); (case na_Ask_prompt => k_is); (case na_Ask_rule => k_is); (case na_Ask_stops => k_is); (case na_Ask_tape => k_is); (case AC_Rule => k_is); (case pg_Rule => k_is); (case hd_Rule => k_is); (case po_Rule => k_is); (case sa_Rule => k_is); (case mk_Rule => k_is); (case kc_Rule => k_is); (case na_Rule_start => k_is); (case na_Rule_steps => k_is); (case AC_InvalidLetter => k_is); (case AC_InvalidNumber => k_is); (case xL_InvalidNumber => k_is); (case rvE_InvalidNumber => decide +kernel); (case sa_InvalidNumber => k_is); (case ga_InvalidNumber => k_is); (case gg_InvalidNumber => k_is); (case nb_InvalidNumber => k_is); (case a1_InvalidNumber => k_is); (case t1_InvalidNumber => k_is); (case l1_InvalidNumber => k_is); (case c1_InvalidNumber => k_is); (case kC_InvalidNumber => k_is); (case eC_InvalidNumber => k_is); (case tC_InvalidNumber => k_is); (case hC_InvalidNumber => k_is); (case iC_InvalidNumber => k_is); (case ca_InvalidNumber => k_is); (case mo_InvalidNumber => k_is); (case AC_NoHouse => k_is); (case AC_NoRequest => k_is); (case AC_NoRoom => k_is); (case AC_NotAlone => k_is); (case AC_NotHeld => k_is); (case AC_ServeError => k_is); (case AC_TooLarge => k_is); (case cgE => k_is); (case tkE => k_is); (case eS => k_is); (case hS => k_is); (case tS => k_is); (case sS_InvalidNumber => k_is); (case kvE_InvalidNumber => (first | kit_is | k_is)); (case koE_InvalidNumber_InvalidLetter => (first | kit_is | k_is)); (case koE_InvalidNumber_NoHouse => (first | kit_is | k_is)); (case koE_InvalidNumber_NoRequest => (first | kit_is | k_is)); (case koE_InvalidNumber_NoRoom => (first | kit_is | k_is)); (case koE_InvalidNumber_NotAlone => (first | kit_is | k_is)); (case koE_InvalidNumber_NotHeld => (first | kit_is | k_is)); (case koE_InvalidNumber_ServeError => (first | kit_is | k_is)); (case koE_InvalidNumber_TooLarge => (first | kit_is | k_is)); (case cgO => k_is); (case tkO => k_is); (case caO_Rule => k_is); (case moO_Rule => k_is); (case koE_NoneType_Rule => (first | kit_is | k_is)); (case koE_bool_Rule => (first | kit_is | k_is)); (case koE_int_Rule => (first | kit_is | k_is)); (case koE_str_Rule => (first | kit_is | k_is)); (case koE_list_Rule => (first | kit_is | k_is)); (case koE_tuple_Rule => (first | kit_is | k_is)); (case A_is_integer => k_is); (case l_is_integer => k_is); (case c_is_integer => k_is); (case k_is_integer => k_is); (case A_is_from => k_is); (case l_is_from => k_is); (case c_is_from => k_is); (case k_is_from => k_is); (case A_greatest => k_is); (case l_greatest => k_is); (case c_greatest => k_is); (case k_greatest => k_is); (case A_by_number => k_is); (case l_by_number => k_is); (case c_by_number => k_is); (case k_by_number => k_is); (case A_Rule___init__ => k_is); (case i_Rule___init__ => k_is); (case l_Rule___init__ => k_is); (case c_Rule___init__ => k_is); (case k_Rule___init__ => k_is); (case A_Rule_after => k_is); (case i_Rule_after => k_is); (case l_Rule_after => k_is); (case c_Rule_after => k_is); (case k_Rule_after => k_is); (case A_Rule_lets => k_is); (case i_Rule_lets => k_is); (case l_Rule_lets => k_is); (case c_Rule_lets => k_is); (case k_Rule_lets => k_is); (case A_Rule___eq__ => k_is); (case i_Rule___eq__ => k_is); (case l_Rule___eq__ => k_is); (case c_Rule___eq__ => k_is); (case k_Rule___eq__ => k_is); (case A_Ask___init__ => k_is); (case i_Ask___init__ => k_is); (case l_Ask___init__ => k_is); (case c_Ask___init__ => k_is); (case k_Ask___init__ => k_is); (case kd_Ask___init___stops => k_is); (case lT_Ask___init___stops => k_is); (case zK_T_Ask___init___stops => decide +kernel); (case vK_T_Ask___init___stops => repeat (first | exact .nil | refine .cons ⟨_, rfl⟩ ?_)); (case kd_Ask___init___tape => k_is); (case lT_Ask___init___tape => k_is); (case zK_T_Ask___init___tape => decide +kernel); (case vK_T_Ask___init___tape => repeat (first | exact .nil | refine .cons ⟨_, rfl⟩ ?_)); (case kd_Ask___init___rule => k_is); (case A_Ask_counted => k_is); (case i_Ask_counted => k_is); (case l_Ask_counted => k_is); (case c_Ask_counted => k_is); (case k_Ask_counted => k_is); (case A_Ask_choice => k_is); (case i_Ask_choice => k_is); (case l_Ask_choice => k_is); (case c_Ask_choice => k_is); (case k_Ask_choice => k_is); (case A__law_numbers => k_is); (case l__law_numbers => k_is); (case c__law_numbers => k_is); (case k__law_numbers => k_is); (case A__law_same => k_is); (case l__law_same => k_is); (case c__law_same => k_is); (case k__law_same => k_is); (case A__law_after => k_is); (case l__law_after => k_is); (case c__law_after => k_is); (case k__law_after => k_is); (case A__law_counted => k_is); (case l__law_counted => k_is); (case c__law_counted => k_is); (case k__law_counted => k_is); (case A__law_choice => k_is); (case l__law_choice => k_is); (case c__law_choice => k_is); (case k__law_choice => k_is); (case A__law_rule => k_is); (case l__law_rule => k_is); (case c__law_rule => k_is); (case k__law_rule => k_is); (case A__law_stops => k_is); (case l__law_stops => k_is); (case c__law_stops => k_is); (case k__law_stops => k_is); (case A__law_tape => k_is); (case l__law_tape => k_is); (case c__law_tape => k_is); (case k__law_tape => k_is); (case A__law_made => k_is); (case l__law_made => k_is); (case c__law_made => k_is); (case k__law_made => k_is); (case A__law_refuses => k_is); (case l__law_refuses => k_is); (case c__law_refuses => k_is); (case k__law_refuses => k_is); (case A__law_chosen => k_is); (case l__law_chosen => k_is); (case c__law_chosen => k_is); (case k__law_chosen => k_is); (case A_law => k_is); (case l_law => k_is); (case c_law => k_is); (case k_law => k_is); (case z_ValueError => k_is); (case z_abs => k_is); (case z_bool => k_is); (case z_enumerate => k_is); (case z_int => k_is); (case z_isinstance => k_is); (case z_len => k_is); (case z_list => k_is); (case z_max => k_is); (case z_min => k_is); (case z_range => k_is); (case z_repr => k_is); (case z_str => k_is); (case z_sum => k_is); (case z_tuple => k_is)
