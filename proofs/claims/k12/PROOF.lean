import PyProof.Rows.All
import Wide.All
import OpenK.AllK
import Wide.FinOn
import HandS.ForMost
import HandS.Evl
import HandS.Wide
import HandS.Property
import HandS.IsInst
import HandS.Strs
import HandS.TupAny
import HandS.Exc
import HandS.TryOnly
import HandS.ExcInit
import KE.DataMinMax
import KE.GoesMore
import HandS.Zip
import HandS.MakeKwOnly
import HandS.Dict
import HandS.Conv
import HandS.ForExc
import HandS.ExcCtx
import HandS.HotCalls
import HandS.ExcIs
import HandS.ExcField
import KE.KExcIs
import KE.KIsAll
import HandS.Defaults
import HandS.CallSlots
import PyProof.ReprRoads
import PyProof.CallFns
import HandS.SetFor
import PySem.Challenge.RW_servedalone_k12_whole_stores
set_option Elab.async false
set_option linter.all false
set_option maxRecDepth 100000
/-! Rules of my own over the hand layer: alternatives; tuples that are known as objects; sum, max, index of tuples. -/
namespace AL
open PySem PySem.Spec PyProof.Rows L2
/-! ### alternatives -/
def orR (r s : R2) : R2 := fun x y H Q => r x y H Q ∨ s x y H Q
def orC (r s : List V → Hp → VK → Prop) : List V → Hp → VK → Prop := fun xs H Q => r xs H Q ∨ s xs H Q
def orI (r s : TI) : TI := fun σ H R => r σ H R ∨ s σ H R
def orE (r s : TE) : TE := fun σ H Q => r σ H Q ∨ s σ H Q
def orS (r s : V → Option Int → Option Int → Hp → VK → Prop) : V → Option Int → Option Int → Hp → VK → Prop := fun x a b H Q => r x a b H Q ∨ s x a b H Q
section
variable {X : Cx}
theorem op_or {f : Value → Value → Sem Value} {r s : R2} (a : OpR X f r) (b : OpR X f s) : OpR X f (orR r s) := fun pins st σ H x y v u Q I rx ry h => h.elim (a pins st σ H x y v u Q I rx ry) (b pins st σ H x y v u Q I rx ry)
theorem call_or {f : Value} {r s : List V → Hp → VK → Prop} (a : CallR X f r) (b : CallR X f s) : CallR X f (orC r s) := fun pins st σ H xs us Q I rx h => h.elim (a pins st σ H xs us Q I rx) (b pins st σ H xs us Q I rx)
theorem pi_or {tg it : Expr} {r s : TI} (a : PI X tg it r) (b : PI X tg it s) : PI X tg it (orI r s) := ⟨fun pins st σ H R I h => h.elim (a.run pins st σ H R I) (b.run pins st σ H R I)⟩
theorem pe_orE {e : Expr} {r s : TE} (a : PE X e r) (b : PE X e s) : PE X e (orE r s) := ⟨fun pins st σ H Q I h => h.elim (a.run pins st σ H Q I) (b.run pins st σ H Q I)⟩
theorem sl_or {r s : V → Option Int → Option Int → Hp → VK → Prop} (a : SlR X r) (b : SlR X s) : SlR X (orS r s) := fun pins st σ H x v vl vu lo hi sl Q I rx hs pl pu h => h.elim (a pins st σ H x v vl vu lo hi sl Q I rx hs pl pu) (b pins st σ H x v vl vu lo hi sl Q I rx hs pl pu)
end
/-! ### a tuple, known as an object -/
def tupObj (its : List Value) : Obj := { cls := .type "tuple", data := .seq its.toArray }
/-- what stands at a is just that tuple -/
def tupHO (its : List Value) (vs : List V) : HO := .frz (tupObj its) (.tup vs)
def PTup (K : PySem.W.Frag) (H : Hp) (a : Addr) (vs : List V) : Prop := (∃ its, H a = some (tupHO its vs)) ∨ ∃ (its : Array Value) (n : Nat) (sl : Array (Option Value)), K.lookup a = some ⟨.type "tuple", none, .seq its n, sl⟩ ∧ its.size ≤ sizeLine ∧ Vals vs its.toList
theorem PTup.seq {K : PySem.W.Frag} {H : Hp} {a : Addr} {vs : List V} (h : PTup K H a vs) : SqT K H a vs := by
  rcases h with ⟨its, e⟩ | ⟨its, n, sl, l, z, v⟩
  · exact .inl (.inr ⟨_, e⟩)
  · exact .inr ⟨_, _, _, l, rfl, rfl, z, v⟩
theorem PTup.mono {K : PySem.W.Frag} {F H : Hp} {a : Addr} {vs : List V} (e : Evl.Ex F H) (h : PTup K F a vs) : PTup K H a vs := by
  rcases h with ⟨its, q⟩ | h
  · exact .inl ⟨its, e _ _ q⟩
  · exact .inr h
section
variable {X : Cx} {pins : List (Addr × Obj)} {σ : L2.St} {H : Hp} {s : Shared}
theorem tup_ok {P : Program} {w : World} {h : Heap} {a : Addr} {its : List Value} {vs : List V} (z : vs.length ≤ sizeLine) (r : Vals vs its) (g : h.get? a = some (tupObj its)) : ObjOk P w H h a (tupHO its vs) :=
  ⟨g, z, its, r, tupObj its, g, rfl, 0, rfl⟩
/-- a tuple comes to stand at the heap's end -/
theorem lay_tup {h' : Heap} {its : List Value} {vs : List V} {Q : VK} (I : Inv X pins σ H s) (k : ∀ b u, s.heap.get? b = some u → h'.get? b = some u) (z : vs.length ≤ sizeLine) (r : Vals vs its) (q : ∀ p its, H p = none → Q (.ref p) (upd H p (tupHO its vs))) :
    EP X pins σ Q (.ref h'.objs.size) { s with heap := h'.push (tupObj its) } := by
  have I1 : Inv X pins σ H { s with heap := h' } := I.kept (t' := s.toks) k
  refine ⟨.ref h'.objs.size, _, I1.laid (t' := s.toks) (o := tupHO its vs) (fun b u e => ?_) (Nat.le_refl _) (tup_ok z r ?_), rfl, q _ its (I1.hok.fresh (Nat.le_refl _))⟩
  · exact Heap.get?_push_of_some _ e
  · exact Heap.get?_push_size _ rfl
def tTupP (t : TA) : TE := fun σ H Q => t σ H fun xs H1 => xs.length ≤ sizeLine ∧ ∀ p its, H1 p = none → Q (.ref p) (upd H1 p (tupHO its xs))
theorem pe_tupP {es : List Expr} {x1 : Nat} {pos : Pos} {t : TA} (h : PA X es t) : PE X (.Tuple es x1 pos) (tTupP t) := by
  constructor
  intro pins s σ H Q I hq
  refine wpAny_Tuple_spliced (wpAny_mono (h.run pos pins s σ H _ I hq) (fun us s1 g => ?_) (fun _ _ x => x))
  obtain ⟨xs, H1, I1, r, z, q⟩ := g
  exact ⟨by rw [← r.length]; exact z, lay_tup I1 (fun _ _ e => e) z r q⟩
def rTupP (K : PySem.W.Frag) : List V → Hp → VK → Prop := fun xs H Q => ∃ p ys, xs = [.ref p] ∧ ((SqL K H p ys ∧ ∀ l its, H l = none → Q (.ref l) (upd H l (tupHO its ys))) ∨ (SqT K H p ys ∧ Q (.ref p) H))
theorem call_tupP : CallR X (.type "tuple") (rTupP X.K) := by
  intro pins s σ H xs us Q I r h
  obtain ⟨p, ys, rfl, h⟩ := h
  have e := Vals.ref1 r
  subst e
  rcases h with ⟨hq, q⟩ | ⟨hq, q⟩
  · obtain ⟨its, r', pl, hz⟩ := I.list hq
    refine call_tuple_list pl.isList (fun h' kp => lay_tup I kp hz r' q) ?_
    rw [List.size_toArray, ← r'.length]; exact hz
  · obtain ⟨its, r', pl, hz⟩ := I.tuple hq
    exact call_tuple_same pl ⟨.ref p, H, I, rfl, q⟩
def rCatP (K : PySem.W.Frag) : R2 := fun x y H Q => ∃ a b xs ys, x = .ref a ∧ y = .ref b ∧ SqT K H a xs ∧ SqT K H b ys ∧ xs.length + ys.length ≤ sizeLine ∧
  (xs = [] → Q (.ref b) H) ∧ (xs ≠ [] → ys = [] → Q (.ref a) H) ∧ (xs ≠ [] → ys ≠ [] → ∀ p its, H p = none → Q (.ref p) (upd H p (tupHO its (xs ++ ys))))
theorem op_catP : OpR X (binaryOp .Add) (rCatP X.K) := by
  intro pins s σ H x y v u Q I rx ry h
  obtain ⟨a, b, xs, ys, rfl, rfl, ha, hb, hz, q0, q1, q2⟩ := h
  obtain ⟨is1, r1, p1, _⟩ := I.tuple ha
  obtain ⟨is2, r2, p2, _⟩ := I.tuple hb
  cases rx; cases ry
  cases xs with
  | nil => cases r1; exact cat_tup0 p1 p2 ⟨.ref b, H, I, rfl, q0 rfl⟩
  | cons x0 xr =>
    have nx : x0 :: xr ≠ [] := List.cons_ne_nil _ _
    refine HT.cat_tup p1 p2 (fun z => ?_) (fun z => ?_) (fun z => ?_) ?_
    · rw [z] at r1; cases r1
    · rw [z] at r2; exact ⟨.ref a, H, I, rfl, q1 nx (by cases r2; rfl)⟩
    · refine lay_tup I (fun _ _ e => e) ?_ (r1.append r2) (q2 nx fun w => z ?_)
      · rw [List.length_append]; exact hz
      · rw [w] at r2; cases r2; rfl
    · rw [← r1.length, ← r2.length]; exact hz
def rSlP (K : PySem.W.Frag) : V → Option Int → Option Int → Hp → VK → Prop := fun x lo hi H Q => ∃ a xs, x = .ref a ∧ SqT K H a xs ∧
  (HT.sIx xs.length 0 lo = 0 ∧ HT.sIx xs.length xs.length hi = xs.length → Q (.ref a) H) ∧ (¬ (HT.sIx xs.length 0 lo = 0 ∧ HT.sIx xs.length xs.length hi = xs.length) → ∀ p its, H p = none → Q (.ref p) (upd H p (tupHO its (cutV xs lo hi))))
theorem sl_tupP : SlR X (rSlP X.K) := by
  intro pins s σ H x v vl vu lo hi sl Q I rx hs pl pu h
  obtain ⟨a, xs, rfl, hx, q1, q2⟩ := h
  cases rx
  obtain ⟨its, r, ht, hz⟩ := I.tuple hx
  have hlen : its.toArray.size = xs.length := by rw [List.size_toArray, ← r.length]
  refine ⟨"tuple", _, PyProof.Rows.slot_tuple_getitem.lookup, ht.typeIs, ?_⟩
  by_cases hw : HT.sIx xs.length 0 lo = 0 ∧ HT.sIx xs.length xs.length hi = xs.length
  · exact getItem_tuple_whole ht hs pl pu (by rw [hlen]; exact hw) ⟨.ref a, H, I, rfl, q1 hw⟩
  · refine HT.getItem_tuple_cut ht hs pl pu (by rw [hlen]; exact hw) ?_ (by rw [hlen]; exact hz)
    rw [hlen]
    exact lay_tup I (fun _ _ e => e) (Nat.le_trans (cutV_length xs lo hi) hz) ((r.drop _).take _) (q2 hw)
/-! ### sum, max of a tuple of ints -/
theorem old_new {h h' : Heap} {ob : Obj} (hk : ∀ b o, b ∉ [h.objs.size] → (h.push ob).get? b = some o → h'.get? b = some o) : ∀ b o, h.get? b = some o → h'.get? b = some o := fun b o e =>
  hk b o (by
    have := Heap.lt_size e
    simp only [List.mem_cons, List.not_mem_nil, or_false]
    exact fun z => Nat.lt_irrefl _ (z ▸ this)) (Heap.get?_push_of_some _ e)
theorem sum_tup {l : Addr} {its : List Value} {ns : List Int} {A : Around} {E : Value → Shared → Prop} {Q : Value → Shared → Prop} {P : Program} {w : World} (hh : A.handled = none) (hl : s.heap.IsTuple l its.toArray) (hi : IntsAre its ns)
    (h : ∀ h' tk t', (∀ b o, s.heap.get? b = some o → h'.get? b = some o) → Q (.int ns.sum t') { s with heap := h', toks := tk }) : wpAny (model P w) A (call (.builtin "sum") [.ref l]) Q E s := by
  obtain ⟨xs, e⟩ := hi.allInts.items
  have hn : numsOf (intItems xs).toList = ns := by rw [← e]; exact hi.numsOf
  rw [nums_intItems] at hn
  rw [e] at hl
  have hlt : l < s.heap.objs.size := by obtain ⟨_, e, _⟩ := hl; exact Heap.lt_size e
  refine call_sum_walkG (wpAny_pyIter_tuple hl ?_)
  refine ⟨_, _, _, _, _, _, numAt xs, rfl, Walks.tuple (A := A.in1) hh _ l (Nat.ne_of_lt hlt) (intItems xs), ⟨⟨_, Heap.get?_push_size _ rfl, rfl, rfl⟩, hl.push _⟩, fun b hb => ?_, (fun _ _ => intItems_at), fun h' tk t' hk => ?_⟩
  · show b < (s.heap.push _).objs.size
    rw [Heap.size_push]
    simp only [List.mem_cons, List.not_mem_nil, or_false] at hb
    rcases hb with rfl | rfl
    · exact Nat.lt_succ_self _
    · exact Nat.lt_succ_of_lt hlt
  · have q := h h' tk t' (old_new hk)
    rw [preSum_eq, List.take_of_length_le (by simp [intItems]), hn]; exact q
theorem max_tup {l : Addr} {its : List Value} {ns : List Int} {A : Around} {E : Value → Shared → Prop} {Q : Value → Shared → Prop} {P : Program} {w : World} (hh : A.handled = none) (hl : s.heap.IsTuple l its.toArray) (hi : IntsAre its ns) (hne : 0 < ns.length)
    (h : ∀ h' tk M t', (∀ b o, s.heap.get? b = some o → h'.get? b = some o) → M ∈ ns → (∀ a, a ∈ ns → a ≤ M) → Q (.int M t') { s with heap := h', toks := tk }) : wpAny (model P w) A (call (.builtin "max") [.ref l]) Q E s := by
  obtain ⟨xs, e⟩ := hi.allInts.items
  have hn : numsOf (intItems xs).toList = ns := by rw [← e]; exact hi.numsOf
  rw [nums_intItems] at hn
  subst hn
  rw [e] at hl
  have hlt : l < s.heap.objs.size := by obtain ⟨_, e, _⟩ := hl; exact Heap.lt_size e
  refine call_max_walk (wpAny_pyIter_tuple hl ?_)
  refine ⟨_, _, _, _, _, _, _, rfl, Walks.tuple (A := A.in1) hh _ l (Nat.ne_of_lt hlt) (intItems xs), ⟨⟨_, Heap.get?_push_size _ rfl, rfl, rfl⟩, hl.push _⟩, fun b hb => ?_, by simpa [intItems] using hne, CmpOf.ints_gt (numAt xs) (fun _ _ => intItems_at), fun v h' tk hP hk => ?_⟩
  · show b < (s.heap.push _).objs.size
    rw [Heap.size_push]
    simp only [List.mem_cons, List.not_mem_nil, or_false] at hb
    rcases hb with rfl | rfl
    · exact Nat.lt_succ_self _
    · exact Nat.lt_succ_of_lt hlt
  · have hv := hP
    simp only [intItems, Array.size_map] at hv
    obtain ⟨t, ev⟩ := intItems_at hP
    subst ev
    obtain ⟨h1, h2⟩ := argBest_gt (numAt xs) ((intItems xs).size - 1)
    have hsz : (intItems xs).size = xs.size := by simp [intItems]
    rw [hsz] at h1 h2 ⊢
    have hx : 0 < xs.size := by simpa using hne
    refine h h' tk _ t (old_new hk) ?_ fun a ha => ?_
    · rw [numAt_eq]; exact PySem.getD_mem (by simp only [List.length_map, Array.length_toList]; exact Nat.lt_of_le_of_lt h1 (Nat.sub_lt hx Nat.one_pos))
    · obtain ⟨j, hj, rfl⟩ := mem_getD ha
      rw [List.length_map, Array.length_toList] at hj
      rw [← numAt_eq]; exact h2 j (by omega)
def rSumT (K : PySem.W.Frag) : List V → Hp → VK → Prop := fun vs H Q => ∃ (a : Addr) (ns : List Int), vs = [V.ref a] ∧ SqT K H a (ns.map V.int) ∧ Q (.int ns.sum) H
def rMaxT (K : PySem.W.Frag) : List V → Hp → VK → Prop := fun vs H Q => ∃ (a : Addr) (ns : List Int), vs = [V.ref a] ∧ SqT K H a (ns.map V.int) ∧ 0 < ns.length ∧ ∀ m, m ∈ ns → (∀ y, y ∈ ns → y ≤ m) → Q (.int m) H
theorem call_sumT (hc : X.calm = true) : CallR X (.builtin "sum") (rSumT X.K) := by
  intro pins s σ H vs us Q I r h
  obtain ⟨a, ns, rfl, hs, q⟩ := h
  obtain ⟨its, rv, hl, _⟩ := I.tuple hs
  have e := Vals.ref1 r
  subst e
  exact sum_tup (I.ok.hd hc) hl rv.ints fun h' tk t' hk => ⟨.int _, H, I.kept hk, ⟨_, rfl⟩, q⟩
theorem call_maxT (hc : X.calm = true) : CallR X (.builtin "max") (rMaxT X.K) := by
  intro pins s σ H vs us Q I r h
  obtain ⟨a, ns, rfl, hs, hne, q⟩ := h
  obtain ⟨its, rv, hl, _⟩ := I.tuple hs
  have e := Vals.ref1 r
  subst e
  exact max_tup (I.ok.hd hc) hl rv.ints hne fun h' tk m t' hk h1 h2 => ⟨.int _, H, I.kept hk, ⟨_, rfl⟩, q m h1 h2⟩
/-! ### t.index(x), t a tuple that is known as an object -/
def tIndexT (K : PySem.W.Frag) (to : TE) (t : TA) : TE := fun σ H Q => to σ H fun x H1 => ∃ a vs, x = .ref a ∧ PTup K H1 a vs ∧ t σ H1 fun xs H2 => ∃ (y : V) (j : Nat) (z : V), PTup K H2 a vs ∧ xs = [y] ∧ flatV y = true ∧ vs.all flatV = true ∧ vs[j]? = some z ∧ eqV z y = true ∧
  (∀ (m : Nat) (z' : V), m < j → vs[m]? = some z' → eqV z' y = false) ∧ Q (.int (j : Nat)) H2
theorem ptup_at (I : Inv X pins σ H s) {a : Addr} {vs : List V} (h : PTup X.K H a vs) : ∃ its n sl, s.heap.get? a = some ⟨.type "tuple", none, .seq (List.toArray its) n, sl⟩ ∧ Vals vs its := by
  rcases h with ⟨its, e⟩ | ⟨its, n, sl, l, _, v⟩
  case inr => exact ⟨its.toList, n, sl, I.kIn _ _ l, v⟩
  obtain ⟨g, z, its', r, o, g', hc, n, hd⟩ := (show ObjOk X.prog X.w H s.heap a (tupHO its vs) from I.hok a _ e)
  rw [g] at g'; cases g'
  have e2 : its.toArray = its'.toArray := by injection hd
  have e3 : its = its' := by simpa using e2
  subst e3
  exact ⟨its, _, _, g, r⟩
theorem eqU_at {vs : List V} {its : List Value} {y : V} {uy : Value} (ry : RelV y uy) (fy : flatV y = true) (r : Vals vs its) (fv : vs.all flatV = true) {j : Nat} {z : V} (hz : vs[j]? = some z) : ∃ u, its[j]? = some u ∧ eqU y u = eqV z y := by
  obtain ⟨u, hu, ru⟩ := r.get hz
  exact ⟨u, hu, eqU_of ru (flat_at fv hz)⟩
theorem call_indexT (I : Inv X pins σ H s) {a : Addr} {vs : List V} {y z : V} {uy : Value} {j : Nat} {Q : VK} (h : PTup X.K H a vs) (ry : RelV y uy) (fy : flatV y = true) (fv : vs.all flatV = true) (hz : vs[j]? = some z) (hj : eqV z y = true)
    (hn : ∀ (m : Nat) (z' : V), m < j → vs[m]? = some z' → eqV z' y = false) (q : Q (.int (j : Nat)) H) : wpAny (model X.prog X.w) X.A (call (.builtin "tuple.index") [.ref a, uy]) (EP X pins σ Q) X.xe s := by
  obtain ⟨its, n0, sl, g, r⟩ := ptup_at I h
  have hl : its.toArray.size = vs.length := by rw [List.size_toArray, ← r.length]
  have jl : j < its.toArray.size := by rw [hl]; exact (List.getElem?_eq_some_iff.mp hz).1
  refine call_meets PySem.F.slot_tuple_index ⟨_, g, rfl⟩ PySem.F.entry_tuple_index (PySem.F.args_tuple_index_2 _ _) (TI.tuple_indexAt a its.toArray n0 none sl uy (eqU y) j jl ?_ ?_)
    ⟨g, fun w hw => mem_eqAt ry fy r fv w (by simpa using hw), ⟨.int (j : Nat), H, I.tok _, ⟨_, rfl⟩, q⟩⟩
  · obtain ⟨u, hu, e⟩ := eqU_at ry fy r fv hz
    have e2 : its.toArray[j] = u := by have := (List.getElem?_eq_some_iff.mp hu).2; simpa using this
    rw [e2, e]; exact hj
  · intro m hm hmj
    have hmv : m < vs.length := by rw [← hl]; exact hm
    obtain ⟨u, hu, e⟩ := eqU_at ry fy r fv (List.getElem?_eq_getElem hmv)
    have e2 : its.toArray[m] = u := by have := (List.getElem?_eq_some_iff.mp hu).2; simpa using this
    rw [e2, e]; exact hn m _ hmj (List.getElem?_eq_getElem hmv)
theorem pe_indexT {o e : Expr} {to : TE} {t : TA} {apos cpos : Pos} {name : Str} (ho : PE X o to) (ha : PA X [e] t) (hN : Slot "tuple" name "tuple.index")
    (hbase : attributeBase o name X.env (eval o X.env) = eval o X.env := by rfl)
    (hfew : ((backTo cpos (starEach [e] X.env)).all (fun x => !x.1) && (backToKw cpos (keywordEach [] X.env)).all (fun x => x.1.isSome) && decide ([e].length + ([] : List Keyword).length + (if ([] : List Keyword).isEmpty then 0 else 1) < 30)) = true := by rfl)
    (hline : (apos.endLine == cpos.line) = true := by rfl) (hs : starEach [e] X.env = (false, eval e X.env) :: starEach [] X.env := by rfl) (hplain : (backTo cpos (starEach [] X.env)).any (·.1) = false := by rfl) :
    PE X (.Call (.Attribute o name apos) [e] [] cpos) (tIndexT X.K to t) := by
  constructor
  intro pins s σ H Q I h
  refine wpAny_Call_method_late hbase hfew hline rfl (wpAny_mono (ho.run pins s σ H _ I h) (fun v s1 g => ?_) (fun _ _ x => x))
  obtain ⟨x, H1, I1, r1, a, vs, ex, pt, q1⟩ := g
  subst ex
  cases r1
  obtain ⟨its, _, _, ga, _⟩ := ptup_at I1 pt
  refine ⟨"tuple", "tuple.index", PySem.F.plainAttrs_tuple, hN, PySem.F.type_tuple_index, ⟨_, ga, rfl⟩, fun b eb => ?_, ?_⟩
  · cases eb; exact ⟨_, ga, rfl⟩
  · have hA := ha.run cpos pins s1 σ H1 _ I1 q1
    rw [hs] at hA ⊢
    refine Calls.callWith_builtin (by show (false || (backTo cpos (starEach [] X.env)).any (·.1)) = false; rw [hplain]; rfl) (Calls.evalArgs_plain ?_)
    refine wpAny_mono hA (fun us s2 g => ?_) (fun _ _ x => x)
    obtain ⟨ys, H2, I2, r2, y, j, z, pt2, ey, fy, fv, hz, hj, hn, q⟩ := g
    subst ey
    cases r2 with
    | cons ry rt => cases rt; exact call_indexT I2 pt2 ry fy fv hz hj hn q
end
end AL

/-! enumerate over a tuple. -/
namespace AL
open PySem PySem.Spec PyProof.Rows L2
abbrev tIterOb (l : Addr) : Obj := { cls := .type "tuple_iterator", data := .fields #[.ref l, .int 0 0] }
abbrev enumOb (i : Addr) : Obj := { cls := .type "enumerate", data := .fields #[.none, .bool false, .ref i, rawInt 0, .none, .none] }
set_option maxHeartbeats 1000000 in
theorem enum_newT (l : Addr) (its : Array Value) (n : Nat) (dc : Option Addr) (sl : Array (Option Value)) :
    Meets (Builtin.«enumerate.__new__» ⟨[.type "enumerate", .ref l], []⟩) (fun _ R s => s.heap.get? l = some { cls := .type "tuple", dict := dc, data := .seq its n, slots := sl } ∧
      R (.ok (.ret (.ref (s.heap.push (tIterOb l)).objs.size))) { s with heap := (s.heap.push (tIterOb l)).push (enumOb s.heap.objs.size) }) :=
  .of_wp fun prog w A R s hh => by
    obtain ⟨hp, g, d, tk, os⟩ := s
    obtain ⟨hl, h⟩ := hh
    have hsub := PySem.sub_enumerate
    have hT : Heap.IsTuple (Shared.heap ⟨hp, g, d, tk, os⟩) l its := ⟨_, hl, rfl, n, rfl⟩
    wp_walk using PySem.AutoSeq1.wpAny_loadPart' hl
    refine wpAny_stack_any fun st => ?_
    refine wpAny_pure ?_
    split
    · rename_i c _ _ _ _ _
      cases (c == Value.type "enumerate") <;> (wp_walk using PySem.AutoSeq1.wpAny_loadPart' hl, wpAny_pyIter_tuple hT; exact ⟨_, rfl, h⟩)
    · wp_walk using PySem.AutoSeq1.wpAny_loadPart' hl, wpAny_pyIter_tuple hT
      exact ⟨_, rfl, h⟩
/-- the tuple at a, an item a turn beside its place -/
def IteT (K : PySem.W.Frag) (a : Addr) : It where
  go := fun i H => ∃ (vs : List V) (v : V), SqT K H a vs ∧ vs[i]? = some v
  yld := fun i H r H' => ∃ T v, r = .ref T ∧ H T = none ∧ H' = upd H T (.tup [.int (i : Nat), v]) ∧ ∀ vs, SqT K H a vs → vs[i]? = some v
  stop := fun i H => ∃ vs : List V, SqT K H a vs ∧ vs.length ≤ i
def EnT (a e it : Addr) (i : Nat) (h : Heap) : Prop := (∃ old, IsEnum h e it ((i : Nat) : Int) old) ∧ h.IsTupleIter it a i ∧ e ≠ it ∧ a ≠ it ∧ a ≠ e
/-- a walk that is at its end, wherever that is -/
theorem draws_end {P : Program} {w : World} {A : Around} (hh : A.handled = none) (it t : Addr) (its : Array Value) (i : Nat) (hi : its[i]? = none) :
    Draws P w A it [it, t] i (fun _ _ => True) (fun j h => j = i ∧ h.IsTupleIter it t i ∧ h.IsTuple t its) where
  live := fun j h st => by
    obtain ⟨_, ⟨o, g, _⟩, _⟩ := st
    exact ⟨o, g⟩
  frame := fun j h h' st k => ⟨st.1, st.2.1.at fun o e => k it (by simp) o e, st.2.2.at fun o e => k t (by simp) o e⟩
  item := fun j s Q E hj st _ => absurd st.1 (Nat.ne_of_lt hj)
  done := fun s Q E st q => wpAny_nextOf_tuple_end hh st.2.1 st.2.2 hi q
section
variable {X : Cx}
theorem call_enumT {A : Around} {E : Value → Shared → Prop} {P : Program} {w : World} {s : Shared} {l : Addr} {its : Array Value} {Q : Value → Shared → Prop} (hl : s.heap.IsTuple l its)
    (q : ∀ h', EnT l (s.heap.objs.size + 1) s.heap.objs.size 0 h' → (∀ b o, s.heap.get? b = some o → h'.get? b = some o) → Q (.ref (s.heap.objs.size + 1)) { s with heap := h' }) : wpAny (model P w) A (call (.type "enumerate") [.ref l]) Q E s := by
  obtain ⟨⟨cls, dc, dt, sl⟩, g, hc, n, hd⟩ := hl
  simp only at hc hd
  subst hc hd
  have lt : l < s.heap.objs.size := Heap.lt_size g
  have z : (s.heap.push (tIterOb l)).objs.size = s.heap.objs.size + 1 := Heap.size_push ..
  refine callType_new F.called_enumerate (by decide) (F.typeCall_enumerate_1 _) (F.newCall_enumerate_1 _) (fun obj => F.args_object_init_2 obj _) F.entry_enumerate_new (enum_newT l its n dc sl) ⟨g, ?_⟩
  show _ ∧ _
  rw [z]
  have ge : ((s.heap.push (tIterOb l)).push (enumOb s.heap.objs.size)).get? (s.heap.objs.size + 1) = some (enumOb s.heap.objs.size) := by
    have y := Heap.get?_push_size (s.heap.push (tIterOb l)) (o := enumOb s.heap.objs.size) rfl
    rw [z] at y
    exact y
  refine ⟨⟨_, ge, rfl⟩, q _ ⟨⟨_, ge⟩, ⟨_, Heap.get?_push_of_some _ (Heap.get?_push_size _ rfl), rfl, rfl⟩, Nat.succ_ne_self _, Nat.ne_of_lt lt, Nat.ne_of_lt (Nat.lt_succ_of_lt lt)⟩ fun b o x => ?_⟩
  exact Heap.get?_push_of_some _ (Heap.get?_push_of_some _ x)
theorem turn_enumT {P : Program} {w : World} {K : PySem.W.Frag} {elts : List Expr} {kk : Nat} {tpos : Pos} (a e it : Addr) : Turn P w K (.Tuple elts kk tpos) (IteT K a) [e, it] e (EnT a e it) where
  mem := List.mem_cons_self
  obj := fun i h st b hb => by
    obtain ⟨⟨old, ge⟩, ⟨o, go, _, gd⟩, _⟩ := st
    rcases List.mem_cons.mp hb with z | z
    · subst z; exact ⟨_, ge, fun v q => nomatch q⟩
    · rw [List.mem_singleton] at z; subst z; exact ⟨o, go, fun v q => by rw [gd] at q; cases q⟩
  keep := fun i h h' st k => by
    obtain ⟨⟨old, ge⟩, gi, n1, n2⟩ := st
    exact ⟨⟨old, k e (by simp) _ ge⟩, gi.at fun o q => k it (by simp) o q, n1, n2⟩
  item := by
    intro X hP hw hK hc i pins s σ H E I hf st hg
    subst hP hw hK
    obtain ⟨⟨old, ge⟩, gi, n1, n2, n3⟩ := st
    obtain ⟨vs, v, hq, hv⟩ := hg
    obtain ⟨its, rv, p, hz⟩ := I.tuple hq
    obtain ⟨u, hu, ru⟩ := rv.get hv
    have le : e < s.heap.objs.size := Heap.lt_size ge
    have li : it < s.heap.objs.size := by obtain ⟨_, q, _⟩ := gi; exact Heap.lt_size q
    have hi : i < its.toArray.size := by have := (List.getElem?_eq_some_iff.mp hu).1; simpa using this
    refine wpAny_pyNext_enum_itemD (Draws.tuple (A := X.A.in1) (I.ok.hd hc) it a n2 its.toArray) ge ⟨gi, p⟩ hi n1 (by simp [n1, Ne.symm n3]) fun x h' tk hx ho st' hT hsz hk => ?_
    have ex : x = u := by
      have y : its.toArray[i]? = some u := by simpa using hu
      rw [y] at hx; exact (Option.some.inj hx).symm
    subst ex
    refine ⟨_, rfl, wpAny_letOwnedTupleGo_enum (s := { s with heap := h', toks := tk + 1 }) ho fun h2 ge2 sb => ?_⟩
    have kk2 : ∀ b ob, b ∉ [e, it] → s.heap.get? b = some ob → h2.get? b = some ob := fun b ob hb q => by
      have b1 : b ≠ e := fun z => hb (by simp [z])
      have b2 : b ≠ it := fun z => hb (by simp [z])
      exact (sb.2 b b1).trans (hk b ob b1 b2 q)
    have g2 : h2.get? s.heap.objs.size = some { cls := .type "tuple", data := .seq #[.int i tk, x] } := (sb.2 _ (Nat.ne_of_gt le)).trans hT
    have new : ObjOk X.prog X.w (upd H s.heap.objs.size (.tup [.int (i : Nat), v])) h2 s.heap.objs.size (.tup [.int (i : Nat), v]) := by
      refine ⟨?_, [.int i tk, x], .cons ⟨_, rfl⟩ (.cons ru .nil), _, g2, rfl, _, rfl⟩
      show 2 ≤ sizeLine
      decide
    have I2 := I.turnedNew (t' := tk + 1) kk2 hf (Nat.le_refl _) new
    refine ⟨.ref s.heap.objs.size, _, I2, rfl, ⟨_, v, rfl, I.hok.fresh (Nat.le_refl _), rfl, fun ws hw => by rw [I.tuple_inj hw hq]; exact hv⟩, ⟨⟨x, ?_⟩, st'.1.at fun o q => (sb.2 it (Ne.symm n1)).trans q, n1, n2, n3⟩, fun b hb => ?_⟩
    · rw [show ((i + 1 : Nat) : Int) = (i : Int) + 1 by omega]
      exact ge2
    · have lb : b < s.heap.objs.size := by
        rcases List.mem_cons.mp hb with z | z
        · subst z; exact le
        · rw [List.mem_singleton] at z; subst z; exact li
      rw [upd_ne (Nat.ne_of_lt lb)]
      exact (hf b hb).1
  done := by
    intro X hP hw hK hc i pins s σ H E I hf st hg
    subst hP hw hK
    obtain ⟨⟨old, ge⟩, gi, n1, n2, n3⟩ := st
    obtain ⟨vs, hq, hv⟩ := hg
    obtain ⟨its, rv, p, hz⟩ := I.tuple hq
    obtain ⟨f0, f1, f2, f3, f4, f5⟩ := hf it (by simp)
    have no : its.toArray[i]? = none := by
      have := rv.length
      simp only [List.getElem?_toArray]
      exact List.getElem?_eq_none (by omega)
    refine wpAny_pyNext_enum_endD (draws_end (A := X.A.in1) (I.ok.hd hc) it a its.toArray i no) ge ⟨rfl, gi, p⟩ fun h' eb => ⟨rfl, ?_⟩
    exact I.turned (t' := s.toks) (fun b o hb q => eb b o hb q) f0 f1 f3 f4 f5
  self := fun A i s Q E st q => by
    obtain ⟨⟨old, ge⟩, _⟩ := st
    exact wpAny_pyIter_enum ge q
/-- enumerate of a list or a tuple -/
def iEnumA (K : PySem.W.Frag) (ta : TA) : TI := orI (iEnum K ta) fun σ H R => ta σ H fun vs H1 => ∃ a xs, vs = [.ref a] ∧ SqT K H1 a xs ∧ R (IteT K a) H1
theorem pi_enumA {e : Expr} {ta : TA} {p pos tpos : Pos} {elts : List Expr} {kk : Nat} (hg : Gl X "enumerate") (hm : X.mg "enumerate" = none) (ha : PA X [e] ta) (hs : starEach [e] X.env = [(false, eval e X.env)] := by rfl) :
    PI X (.Tuple elts kk tpos) (.Call (.Name "enumerate" p) [e] [] pos) (iEnumA X.K ta) := by
  refine pi_or (pi_enum hg hm ha hs) ⟨fun pins s σ H R I h => ?_⟩
  refine Call_ (ld_blt I hg hm boot_enumerate (PyProof.Rows.callWith_type1 (wpAny_mono (ha.run pos pins s σ H _ I h) (fun us s1 g => ?_) (fun _ _ x => x)) hs rfl))
  obtain ⟨vs, H1, I1, r1, a, xs, ex, hq, q⟩ := g
  subst ex
  have e1 := Vals.ref1 r1
  subst e1
  obtain ⟨its, rv, p', hz⟩ := I1.tuple hq
  refine call_enumT p' fun h' st hk => ?_
  obtain ⟨⟨old, ge⟩, gi, n1, n2, n3⟩ := id st
  have lz : s1.heap.objs.size ≤ s1.heap.objs.size + 1 := Nat.le_succ _
  refine wpAny_pyIter_enum ge ⟨s1.heap.objs.size + 1, [s1.heap.objs.size + 1, s1.heap.objs.size], _, _, H1, rfl, I1.kept (t' := s1.toks) hk, turn_enumT a _ _, st, fun b hb => ?_, q⟩
  rcases List.mem_cons.mp hb with z | z
  · subst z; exact I1.fpOk lz (I1.hok.fresh lz)
  · rw [List.mem_singleton] at z; subst z; exact I1.fpOk (Nat.le_refl _) (I1.hok.fresh (Nat.le_refl _))
end
end AL

/-! zip of a tuple and a list. -/
namespace AL
open PySem PySem.Spec PyProof.Rows L2
abbrev lIterOb (l : Addr) : Obj := { cls := .type "list_iterator", data := .fields #[.ref l, .int 0 0] }
abbrev zH1 (h : Heap) (a : Addr) : Heap := h.push (tIterOb a)
abbrev zH2 (h : Heap) (a b : Addr) : Heap := (zH1 h a).push (lIterOb b)
abbrev zH3 (h : Heap) (a b : Addr) : Heap := (zH2 h a b).push { cls := .type "tuple", data := .seq #[.ref h.objs.size, .ref (zH1 h a).objs.size] }
abbrev zH4 (h : Heap) (a b : Addr) : Heap := (zH3 h a b).push { cls := .type "tuple", data := .seq #[.none, .none] }
abbrev zH5 (h : Heap) (a b : Addr) : Heap := (zH4 h a b).push { cls := .type "zip", data := .fields #[.none, .bool false, .bool false, .ref (zH2 h a b).objs.size, .ref (zH3 h a b).objs.size] }
set_option maxHeartbeats 1000000 in
theorem zip_newM (a b : Addr) (xs ys : Array Value) :
    Meets (Builtin.«zip.__new__» ⟨[.type "zip", .ref a, .ref b], []⟩) (fun _ R s => s.heap.IsTuple a xs ∧ s.heap.IsList b ys ∧ R (.ok (.ret (.ref (zH4 s.heap a b).objs.size))) { s with heap := zH5 s.heap a b }) :=
  .of_wp fun prog w A R s hh => by
    obtain ⟨hp, g, d, tk, os⟩ := s
    obtain ⟨ha, hb, h⟩ := hh
    have hsub := sub_zip
    have hA : Heap.IsTuple (Shared.heap ⟨hp, g, d, tk, os⟩) a xs := ha
    have hB : Heap.IsList (Shared.heap ⟨hp.push (tIterOb a), g, d, tk, os⟩) b ys := Heap.IsList.push hb _
    wp_walk using wpAny_pyIter_tuple hA, wpAny_pyIter_list hB
    exact ⟨_, rfl, h⟩
section
variable {X : Cx}
/-- the cells of the zip at n: the two walks, what they are kept in, the zip -/
structure ZmSt (a b n : Addr) (i : Nat) (h : Heap) : Prop where
  z : IsZip h (n + 4) (n + 2) (n + 3) .none
  ti : IsPair h (n + 2) (.ref n) (.ref (n + 1))
  tO : ∃ x y, IsPair h (n + 3) x y
  i1 : h.IsTupleIter n a i
  i2 : h.IsListIter (n + 1) b i
theorem call_zipM {A : Around} {E : Value → Shared → Prop} {P : Program} {w : World} {s : Shared} {a b : Addr} {xs ys : Array Value} {Q : Value → Shared → Prop} (ha : s.heap.IsTuple a xs) (hb : s.heap.IsList b ys)
    (q : ∀ h', ZmSt a b s.heap.objs.size 0 h' → (∀ c o, s.heap.get? c = some o → h'.get? c = some o) → Q (.ref (s.heap.objs.size + 4)) { s with heap := h' }) : wpAny (model P w) A (call (.type "zip") [.ref a, .ref b]) Q E s := by
  refine callType_new F.called_zip (by decide) (F.typeCall_zip_2 _ _) (F.newCall_zip_2 _ _) (fun o => F.args_object_init_3 o _ _) F.entry_zip_new (zip_newM a b xs ys) ⟨ha, hb, ?_⟩
  generalize hh : s.heap = hp at *
  have z1 : (zH1 hp a).objs.size = hp.objs.size + 1 := Heap.size_push ..
  have z2 : (zH2 hp a b).objs.size = hp.objs.size + 2 := by rw [Heap.size_push, z1]
  have z3 : (zH3 hp a b).objs.size = hp.objs.size + 3 := by rw [Heap.size_push, z2]
  have z4 : (zH4 hp a b).objs.size = hp.objs.size + 4 := by rw [Heap.size_push, z3]
  have p : ∀ {k : Heap} {o : Obj} {c : Addr} {u : Obj}, k.get? c = some u → (k.push o).get? c = some u := fun e => Heap.get?_push_of_some _ e
  have g5 : (zH5 hp a b).get? (zH4 hp a b).objs.size = some _ := Heap.get?_push_size _ rfl
  have g4 : (zH5 hp a b).get? (zH3 hp a b).objs.size = some _ := p (Heap.get?_push_size _ rfl)
  have g3 : (zH5 hp a b).get? (zH2 hp a b).objs.size = some _ := p (p (Heap.get?_push_size _ rfl))
  have g2 : (zH5 hp a b).get? (zH1 hp a).objs.size = some _ := p (p (p (Heap.get?_push_size _ rfl)))
  have g1 : (zH5 hp a b).get? hp.objs.size = some _ := p (p (p (p (Heap.get?_push_size _ rfl))))
  show _ ∧ _
  rw [z2, z3, z4] at g5
  rw [z1, z2] at g3
  rw [z3] at g4
  rw [z1] at g2
  rw [z4]
  exact ⟨⟨_, g5, rfl⟩, q _ ⟨g5, g3, ⟨_, _, g4⟩, ⟨_, g1, rfl, rfl⟩, ⟨_, g2, rfl, rfl⟩⟩ fun c o x => p (p (p (p (p x))))⟩
/-- the tuple at a and the list at b, an item of each a turn -/
def ItM (K : PySem.W.Frag) (a b : Addr) : It where
  go := fun i H => ∃ (vs ws : List V) (v u : V), SqT K H a vs ∧ SqL K H b ws ∧ vs[i]? = some v ∧ ws[i]? = some u
  yld := fun i H r H' => ∃ T v u, r = .ref T ∧ H T = none ∧ H' = upd H T (.tup [v, u]) ∧ (∀ vs, SqT K H a vs → vs[i]? = some v) ∧ ∀ ws, SqL K H b ws → ws[i]? = some u
  stop := fun i H => ∃ vs ws : List V, SqT K H a vs ∧ SqL K H b ws ∧ (vs.length ≤ i ∨ ws.length ≤ i)
def zCells (n : Addr) : List Addr := [n + 4, n + 2, n + 3, n, n + 1]
theorem zCells_in {n c : Addr} (h : c ∈ zCells n) : c = n + 4 ∨ c = n + 2 ∨ c = n + 3 ∨ c = n ∨ c = n + 1 := by
  simpa [zCells] using h
theorem draws_endL {P : Program} {w : World} {A : Around} (hh : A.handled = none) (it t : Addr) (its : Array Value) (i : Nat) (hi : its[i]? = none) :
    Draws P w A it [it, t] i (fun _ _ => True) (fun j h => j = i ∧ h.IsListIter it t i ∧ h.IsList t its) where
  live := fun j h st => by
    obtain ⟨_, ⟨o, g, _⟩, _⟩ := st
    exact ⟨o, g⟩
  frame := fun j h h' st k => ⟨st.1, st.2.1.at fun o e => k it (by simp) o e, st.2.2.at fun o e => k t (by simp) o e⟩
  item := fun j s Q E hj st _ => absurd st.1 (Nat.ne_of_lt hj)
  done := fun s Q E st q => wpAny_nextOf_list_end hh st.2.1 st.2.2 hi q
theorem sepM {a b n : Nat} (la : a < n) (lb : b < n) : ZipSep2 (n + 4) (n + 2) (n + 3) n (n + 1) [n, a] [n + 1, b] := by
  have k : ∀ {x y c : Nat}, x ≠ c → x ≠ y → x ∉ [c, y] := fun h1 h2 h => by
    rcases List.mem_cons.mp h with z | z
    · exact h1 z
    · rw [List.mem_singleton] at z; exact h2 z
  constructor <;> first
    | exact List.mem_cons_self
    | exact (show (_ : Nat) ≠ (_ : Nat) by omega)
    | exact k (by omega) (by omega)
theorem turn_zipM {P : Program} {w : World} {K : PySem.W.Frag} {elts : List Expr} {kk : Nat} {tpos : Pos} {a b n : Addr} (la : a < n) (lb : b < n) : Turn P w K (.Tuple elts kk tpos) (ItM K a b) (zCells n) (n + 4) (ZmSt a b n) where
  mem := List.mem_cons_self
  obj := fun i h st c hc => by
    obtain ⟨gz, gi, ⟨x, y, gO⟩, ⟨o1, e1, _, d1⟩, ⟨o2, e2, _, d2⟩⟩ := st
    rcases zCells_in hc with q | q | q | q | q <;> subst q
    · exact ⟨_, gz, fun v q => nomatch q⟩
    · exact ⟨_, gi, fun v q => nomatch q⟩
    · exact ⟨_, gO, fun v q => nomatch q⟩
    · exact ⟨o1, e1, fun v q => by rw [d1] at q; cases q⟩
    · exact ⟨o2, e2, fun v q => by rw [d2] at q; cases q⟩
  keep := fun i h h' st k => by
    obtain ⟨gz, gi, ⟨x, y, gO⟩, s1, s2⟩ := st
    exact ⟨k _ (by simp [zCells]) _ gz, k _ (by simp [zCells]) _ gi, ⟨x, y, k _ (by simp [zCells]) _ gO⟩, s1.at fun o q => k _ (by simp [zCells]) o q, s2.at fun o q => k _ (by simp [zCells]) o q⟩
  item := by
    intro X hP hw hK hc i pins s σ H E I hf st hg
    subst hP hw hK
    obtain ⟨gz, gi, ⟨x0, y0, gO⟩, s1, s2⟩ := st
    obtain ⟨vs, ws, v, u, hq1, hq2, hv, hu⟩ := hg
    obtain ⟨is1, r1, p1, _⟩ := I.tuple hq1
    obtain ⟨is2, r2, p2, _⟩ := I.list hq2
    obtain ⟨v1, g1, rv1⟩ := r1.get hv
    obtain ⟨v2, g2, rv2⟩ := r2.get hu
    have l1 : i < is1.toArray.size := by have := (List.getElem?_eq_some_iff.mp g1).1; simpa using this
    have l2 : i < is2.toArray.size := by have := (List.getElem?_eq_some_iff.mp g2).1; simpa using this
    have hd := I.ok.hd hc
    have ln : n < s.heap.objs.size := by obtain ⟨_, e, _⟩ := s1; exact Heap.lt_size e
    have lz : n + 4 < s.heap.objs.size := Heap.lt_size gz
    refine wpAny_pyNext_zipD2_item (sepM la lb) (Draws.tuple (A := X.A.in1) hd n a (Nat.ne_of_lt la) is1.toArray) (Draws.list (A := X.A.in1) hd (n + 1) b (Nat.ne_of_lt (Nat.lt_succ_of_lt lb)) is2.toArray) gz gi gO ⟨s1, p1⟩ ⟨s2, p2.isList⟩ l1 l2 fun x1 x2 h' tk e1 e2 z' O' t1 t2 hT hsz hk => ?_
    have y1 : x1 = v1 := by
      have y : is1.toArray[i]? = some v1 := by simpa using g1
      rw [y] at e1; exact (Option.some.inj e1).symm
    have y2 : x2 = v2 := by
      have y : is2.toArray[i]? = some v2 := by simpa using g2
      rw [y] at e2; exact (Option.some.inj e2).symm
    subst y1 y2
    refine ⟨_, rfl, wpAny_letOwnedTupleGo_zip (s := { s with heap := h', toks := tk }) z' fun h2 z2 sb => ?_⟩
    have kk2 : ∀ c o, c ∉ zCells n → s.heap.get? c = some o → h2.get? c = some o := fun c o hc q => by
      have b1 : c ≠ n + 4 := fun z => hc (by simp [zCells, z])
      have b2 : c ≠ n + 3 := fun z => hc (by simp [zCells, z])
      have b3 : c ≠ n := fun z => hc (by simp [zCells, z])
      have b4 : c ≠ n + 1 := fun z => hc (by simp [zCells, z])
      exact (sb.2 c b1).trans (hk c o b1 b2 b3 b4 q)
    have gT : h2.get? s.heap.objs.size = some { cls := .type "tuple", data := .seq #[x1, x2] } := (sb.2 _ (Nat.ne_of_gt lz)).trans hT
    have new : ObjOk X.prog X.w (upd H s.heap.objs.size (.tup [v, u])) h2 s.heap.objs.size (.tup [v, u]) := by
      refine ⟨?_, [x1, x2], .cons rv1 (.cons rv2 .nil), _, gT, rfl, _, rfl⟩
      show 2 ≤ sizeLine
      decide
    have I2 := I.turnedNew (t' := tk) kk2 hf (Nat.le_refl _) new
    have ne : ∀ k : Nat, k ≠ 4 → n + k ≠ n + 4 := fun k hk z => hk (Nat.add_left_cancel z)
    refine ⟨.ref s.heap.objs.size, _, I2, rfl, ⟨_, v, u, rfl, I.hok.fresh (Nat.le_refl _), rfl, fun l hl => by rw [I.tuple_inj hl hq1]; exact hv, fun l hl => by rw [I.list_inj hl hq2]; exact hu⟩, ⟨z2, ?_, ⟨x1, x2, ?_⟩, ?_, ?_⟩, fun c hcm => ?_⟩
    · exact (sb.2 _ (ne 2 (by decide))).trans (hk _ _ (ne 2 (by decide)) (fun z => absurd (Nat.add_left_cancel z) (by decide)) (fun z => absurd (Nat.add_left_cancel (k := 0) (n := n) z) (by decide)) (fun z => absurd (Nat.add_left_cancel z) (by decide)) gi)
    · exact (sb.2 _ (ne 3 (by decide))).trans O'
    · exact t1.1.at fun o q => (sb.2 _ (ne 0 (by decide))).trans q
    · exact t2.1.at fun o q => (sb.2 _ (ne 1 (by decide))).trans q
    · have lc : c < s.heap.objs.size := by
        rcases zCells_in hcm with q | q | q | q | q <;> subst q
        · exact lz
        · exact Heap.lt_size gi
        · exact Heap.lt_size gO
        · exact ln
        · obtain ⟨_, e, _⟩ := s2; exact Heap.lt_size e
      rw [upd_ne (Nat.ne_of_lt lc)]
      exact (hf c hcm).1
  done := by
    intro X hP hw hK hc i pins s σ H E I hf st hg
    subst hP hw hK
    obtain ⟨gz, gi, ⟨x0, y0, gO⟩, s1, s2⟩ := st
    obtain ⟨vs, ws, hq1, hq2, he⟩ := hg
    obtain ⟨is1, r1, p1, _⟩ := I.tuple hq1
    obtain ⟨is2, r2, p2, _⟩ := I.list hq2
    have e1 := r1.length
    have e2 := r2.length
    have hd := I.ok.hd hc
    have fin : ∀ h' (tk : Nat), (∀ c o, c ≠ n + 4 → c ≠ n + 3 → c ≠ n → c ≠ n + 1 → s.heap.get? c = some o → h'.get? c = some o) → Inv X pins σ H { s with heap := h', toks := tk } := fun h' tk hk =>
      I.turnedL (ch := zCells n) (fun c o hb q => hk c o (fun z => hb (by simp [zCells, z])) (fun z => hb (by simp [zCells, z])) (fun z => hb (by simp [zCells, z])) (fun z => hb (by simp [zCells, z])) q) hf
    have no1 : vs.length ≤ i → is1.toArray[i]? = none := fun h => by simp only [List.getElem?_toArray]; exact List.getElem?_eq_none (by omega)
    have no2 : ws.length ≤ i → is2.toArray[i]? = none := fun h => by simp only [List.getElem?_toArray]; exact List.getElem?_eq_none (by omega)
    have na : a ≠ n := Nat.ne_of_lt la
    have nb : b ≠ n + 1 := Nat.ne_of_lt (Nat.lt_succ_of_lt lb)
    by_cases c1 : vs.length ≤ i
    · have D1 := draws_end (P := X.prog) (w := X.w) (A := X.A.in1) hd n a is1.toArray i (no1 c1)
      by_cases c2 : ws.length ≤ i
      · exact wpAny_pyNext_zipD2_end (sepM la lb) D1 (draws_endL (A := X.A.in1) hd (n + 1) b is2.toArray i (no2 c2)) gz gi gO ⟨rfl, s1, p1⟩ ⟨rfl, s2, p2.isList⟩ (Nat.le_refl _) (Nat.le_refl _) (.inl rfl) fun h' tk hk => ⟨rfl, fin h' tk hk⟩
      · exact wpAny_pyNext_zipD2_end (sepM la lb) D1 (Draws.list (A := X.A.in1) hd (n + 1) b nb is2.toArray) gz gi gO ⟨rfl, s1, p1⟩ ⟨s2, p2.isList⟩ (Nat.le_refl _) (by simp; omega) (.inl rfl) fun h' tk hk => ⟨rfl, fin h' tk hk⟩
    · have c2 : ws.length ≤ i := he.elim (fun z => absurd z c1) id
      exact wpAny_pyNext_zipD2_end (sepM la lb) (Draws.tuple (A := X.A.in1) hd n a na is1.toArray) (draws_endL (A := X.A.in1) hd (n + 1) b is2.toArray i (no2 c2)) gz gi gO ⟨s1, p1⟩ ⟨rfl, s2, p2.isList⟩ (by simp; omega) (Nat.le_refl _) (.inr rfl) fun h' tk hk => ⟨rfl, fin h' tk hk⟩
  self := fun A i s Q E st q => wpAny_pyIter_zip st.z q
def iZipM (K : PySem.W.Frag) (ta : TA) : TI := fun σ H R => ta σ H fun vs H1 => ∃ a b xs ys, vs = [.ref a, .ref b] ∧ SqT K H1 a xs ∧ SqL K H1 b ys ∧ R (ItM K a b) H1
theorem pi_zipM {e e2 : Expr} {ta : TA} {p pos tpos : Pos} {elts : List Expr} {kk : Nat} (hg : Gl X "zip") (hm : X.mg "zip" = none) (ha : PA X [e, e2] ta)
    (hs : starEach [e, e2] X.env = (false, eval e X.env) :: starEach [e2] X.env := by rfl) (hpl : (backTo pos (starEach [e2] X.env)).any (·.1) = false := by rfl) : PI X (.Tuple elts kk tpos) (.Call (.Name "zip" p) [e, e2] [] pos) (iZipM X.K ta) := by
  constructor
  intro pins s σ H R I h
  refine Call_ (ld_blt I hg hm PyProof.Rows.boot_zip (PyProof.Rows.callWith_type1 (wpAny_mono (ha.run pos pins s σ H _ I h) (fun us s1 g => ?_) (fun _ _ x => x)) hs hpl))
  obtain ⟨vs, H1, I1, r1, a, b, xs, ys, ex, hx, hy, q⟩ := g
  subst ex
  have e1 : us = [Value.ref a, Value.ref b] := by
    cases r1 with
    | cons q1 t => cases t with | cons q2 t => cases t; cases q1; cases q2; rfl
  subst e1
  obtain ⟨is1, rv1, p1, _⟩ := I1.tuple hx
  obtain ⟨is2, rv2, p2, _⟩ := I1.list hy
  have la : a < s1.heap.objs.size := by obtain ⟨_, e, _⟩ := id p1; exact Heap.lt_size e
  refine call_zipM p1 p2.isList fun h' st hk => wpAny_pyIter_zip st.z ⟨_, zCells s1.heap.objs.size, _, _, H1, rfl, I1.kept (t' := s1.toks) hk, turn_zipM la p2.lt, st, fun c hc => ?_, q⟩
  have lc : s1.heap.objs.size ≤ c := by
    rcases zCells_in hc with q | q | q | q | q <;> subst q <;> first | exact Nat.le_refl _ | exact Nat.le_add_right _ _
  exact I1.fpOk lc (I1.hok.fresh lc)
def iZipAA (K : PySem.W.Frag) (ta : TA) : TI := orI (RZ.iZipA K ta) (iZipM K ta)
theorem pi_zipAA {e e2 : Expr} {ta : TA} {p pos tpos : Pos} {elts : List Expr} {kk : Nat} (hg : Gl X "zip") (hm : X.mg "zip" = none) (ha : PA X [e, e2] ta)
    (hs : starEach [e, e2] X.env = (false, eval e X.env) :: starEach [e2] X.env := by rfl) (hpl : (backTo pos (starEach [e2] X.env)).any (·.1) = false := by rfl) : PI X (.Tuple elts kk tpos) (.Call (.Name "zip" p) [e, e2] [] pos) (iZipAA X.K ta) := pi_or (RZ.pi_zipA hg hm ha hs hpl) (pi_zipM hg hm ha hs hpl)
end
end AL

/-! An abstract layer over the hand layer: values as data, cells by number, frames apart. -/
namespace AL
open PySem L2
abbrev Ex := Evl.Ex
inductive D where
  | non | bl (b : Bool) | int (i : Int) | str (x : Str)
  | lst (ds : List D) | tup (ds : List D) | scr (ds : List D) | sct (ds : List D)
  | ptr (n : Nat)
  | obj (C : Addr) (fs : List (Str × D))
  | cls (a : Addr) | ty (n : String)
inductive Cell where
  | lst (ds : List D)
  | ins (C : Addr) (fs : List (Str × D))
  | dK (kvs : List (Key × D)) | dT (kvs : List (List Key × D))
  | gone
inductive SV where
  | val (d : D) | own (c : Cell)
inductive RV where
  | val (d : D) | slot (i : Nat)
structure AS where
  s : List (Option SV)
  o : List Cell
def AS.setS (A : AS) (i : Nat) (v : SV) : AS := ⟨A.s.set i (some v), A.o⟩

mutual
inductive Rep (K : PySem.W.Frag) (F : Hp) (m : List Addr) : V → D → Prop where
  | non : Rep K F m .non .non
  | bl (b : Bool) : Rep K F m (.bl b) (.bl b)
  | int (i : Int) : Rep K F m (.int i) (.int i)
  | str (x : Str) : Rep K F m (.str x) (.str x)
  | lst {a : Addr} {vs : List V} {ds : List D} : F a = some (.lst vs) → Reps K F m vs ds → Rep K F m (.ref a) (.lst ds)
  | scr {a : Addr} {vs : List V} {ds : List D} : SqL K F a vs → Reps K F m vs ds → Rep K F m (.ref a) (.scr ds)
  | sct {a : Addr} {vs : List V} {ds : List D} : SqT K F a vs → Reps K F m vs ds → Rep K F m (.ref a) (.sct ds)
  | tup {a : Addr} {vs : List V} {ds : List D} : PTup K F a vs → Reps K F m vs ds → Rep K F m (.ref a) (.tup ds)
  | ptr {n : Nat} {a : Addr} : m[n]? = some a → Rep K F m (.ref a) (.ptr n)
  | obj {a C dx : Addr} {fvs : List (Str × V)} {fs : List (Str × D)} : F a = some (.ins C dx fvs) → RepF K F m fvs fs → Rep K F m (.ref a) (.obj C fs)
  | cls (a : Addr) : Rep K F m (.ref a) (.cls a)
  | ty (n : String) : Rep K F m (.ty n) (.ty n)
inductive Reps (K : PySem.W.Frag) (F : Hp) (m : List Addr) : List V → List D → Prop where
  | nil : Reps K F m [] []
  | cons {v : V} {d : D} {vs : List V} {ds : List D} : Rep K F m v d → Reps K F m vs ds → Reps K F m (v :: vs) (d :: ds)
inductive RepF (K : PySem.W.Frag) (F : Hp) (m : List Addr) : List (Str × V) → List (Str × D) → Prop where
  | nil : RepF K F m [] []
  | cons {f : Str} {v : V} {d : D} {vs : List (Str × V)} {ds : List (Str × D)} : Rep K F m v d → RepF K F m vs ds → RepF K F m ((f, v) :: vs) ((f, d) :: ds)
end
inductive RepK {κ : Type} (K : PySem.W.Frag) (F : Hp) (m : List Addr) : List (κ × V) → List (κ × D) → Prop where
  | nil : RepK K F m [] []
  | cons {k : κ} {v : V} {d : D} {vs : List (κ × V)} {ds : List (κ × D)} : Rep K F m v d → RepK K F m vs ds → RepK K F m ((k, v) :: vs) ((k, d) :: ds)

/-- the map of the cells grows at its end -/
def Pre (m m' : List Addr) : Prop := ∀ (n : Nat) a, m[n]? = some a → m'[n]? = some a
theorem Pre.refl (m : List Addr) : Pre m m := fun _ _ h => h
theorem Pre.trans {m m1 m2 : List Addr} (a : Pre m m1) (b : Pre m1 m2) : Pre m m2 := fun n x h => b n x (a n x h)
theorem Pre.app {m : List Addr} {p : Addr} : Pre m (m ++ [p]) := fun n a h => by
  rw [List.getElem?_append_left (List.getElem?_eq_some_iff.mp h).1]; exact h

section
variable {K : PySem.W.Frag} {F F' : Hp} {m m' : List Addr}
mutual
theorem Rep.mono (e : Ex F F') (p : Pre m m') : ∀ {v : V} {d : D}, Rep K F m v d → Rep K F' m' v d
  | _, _, .non => .non
  | _, _, .bl b => .bl b
  | _, _, .int i => .int i
  | _, _, .str x => .str x
  | _, _, .lst h r => .lst (e _ _ h) (Reps.mono e p r)
  | _, _, .scr h r => .scr (Evl.ex_l e h) (Reps.mono e p r)
  | _, _, .sct h r => .sct (Evl.ex_t e h) (Reps.mono e p r)
  | _, _, .tup h r => .tup (h.mono e) (Reps.mono e p r)
  | _, _, .ptr h => .ptr (p _ _ h)
  | _, _, .obj h r => .obj (e _ _ h) (RepF.mono e p r)
  | _, _, .cls a => .cls a
  | _, _, .ty n => .ty n
theorem Reps.mono (e : Ex F F') (p : Pre m m') : ∀ {v : List V} {d : List D}, Reps K F m v d → Reps K F' m' v d
  | _, _, .nil => .nil
  | _, _, .cons a r => .cons (Rep.mono e p a) (Reps.mono e p r)
theorem RepF.mono (e : Ex F F') (p : Pre m m') : ∀ {v : List (Str × V)} {d : List (Str × D)}, RepF K F m v d → RepF K F' m' v d
  | _, _, .nil => .nil
  | _, _, .cons a r => .cons (Rep.mono e p a) (RepF.mono e p r)
end
theorem RepK.mono {κ : Type} (e : Ex F F') (p : Pre m m') : ∀ {v : List (κ × V)} {d : List (κ × D)}, RepK K F m v d → RepK K F' m' v d
  | _, _, .nil => .nil
  | _, _, .cons a r => .cons (Rep.mono e p a) (RepK.mono e p r)
theorem Reps.len : ∀ {vs : List V} {ds : List D}, Reps K F m vs ds → vs.length = ds.length
  | _, _, .nil => rfl
  | _, _, .cons _ r => by rw [List.length_cons, List.length_cons, Reps.len r]
theorem Reps.get : ∀ {vs : List V} {ds : List D} {i : Nat} {d : D}, Reps K F m vs ds → ds[i]? = some d → ∃ v, vs[i]? = some v ∧ Rep K F m v d
  | _, _, _, _, .nil, h => by simp at h
  | _, _, 0, _, .cons a _, h => by
    rw [List.getElem?_cons_zero] at h ⊢; cases h; exact ⟨_, rfl, a⟩
  | _, _, i + 1, _, .cons _ r, h => by
    rw [List.getElem?_cons_succ] at h ⊢; exact Reps.get r h
theorem Reps.app : ∀ {vs ws : List V} {ds es : List D}, Reps K F m vs ds → Reps K F m ws es → Reps K F m (vs ++ ws) (ds ++ es)
  | _, _, _, _, .nil, h => h
  | _, _, _, _, .cons a r, h => .cons a (Reps.app r h)
theorem Reps.take : ∀ {vs : List V} {ds : List D} (n : Nat), Reps K F m vs ds → Reps K F m (vs.take n) (ds.take n)
  | _, _, 0, _ => .nil
  | _, _, _ + 1, .nil => .nil
  | _, _, n + 1, .cons a r => .cons a (Reps.take n r)
theorem Reps.drop : ∀ {vs : List V} {ds : List D} (n : Nat), Reps K F m vs ds → Reps K F m (vs.drop n) (ds.drop n)
  | _, _, 0, r => r
  | _, _, _ + 1, .nil => .nil
  | _, _, n + 1, .cons a r => Reps.drop n r
theorem Reps.set {v : V} {d : D} (x : Rep K F m v d) : ∀ {vs : List V} {ds : List D} (n : Nat), Reps K F m vs ds → Reps K F m (vs.set n v) (ds.set n d)
  | _, _, _, .nil => .nil
  | _, _, 0, .cons a r => .cons x r
  | _, _, n + 1, .cons a r => .cons a (Reps.set x n r)
theorem Reps.rep {v : V} {d : D} (x : Rep K F m v d) : ∀ n : Nat, Reps K F m (List.replicate n v) (List.replicate n d)
  | 0 => .nil
  | n + 1 => .cons x (Reps.rep x n)
theorem Reps.rev : ∀ {vs : List V} {ds : List D}, Reps K F m vs ds → Reps K F m vs.reverse ds.reverse
  | _, _, .nil => .nil
  | _, _, .cons a r => by
    rw [List.reverse_cons, List.reverse_cons]; exact Reps.app (Reps.rev r) (.cons a .nil)
theorem Reps.flat {vs : List V} {ds : List D} (x : Reps K F m vs ds) : ∀ n : Nat, Reps K F m (List.replicate n vs).flatten (List.replicate n ds).flatten
  | 0 => .nil
  | n + 1 => by rw [List.replicate_succ, List.replicate_succ, List.flatten_cons, List.flatten_cons]; exact Reps.app x (Reps.flat x n)
theorem Reps.ints : ∀ {vs : List V} {ns : List Int}, Reps K F m vs (ns.map D.int) → vs = ns.map V.int
  | _, [], .nil => rfl
  | _, n :: ns, .cons a r => by
    cases a; rw [List.map_cons, Reps.ints r]
theorem reps_ints : ∀ (ns : List Int), Reps K F m (ns.map V.int) (ns.map D.int)
  | [] => .nil
  | n :: ns => .cons (.int n) (reps_ints ns)
theorem RepF.look {f : Str} {d : D} : ∀ {vs : List (Str × V)} {ds : List (Str × D)}, RepF K F m vs ds → ds.lookup f = some d → ∃ v, vs.lookup f = some v ∧ Rep K F m v d
  | _, _, .nil, h => by simp [List.lookup] at h
  | _, _, .cons (f := g) a r, h => by
    rw [List.lookup_cons] at h ⊢
    cases e : f == g with
    | true => rw [e] at h; cases h; exact ⟨_, rfl, a⟩
    | false => rw [e] at h; exact RepF.look r h
theorem RepF.look0 {f : Str} : ∀ {vs : List (Str × V)} {ds : List (Str × D)}, RepF K F m vs ds → ds.lookup f = none → vs.lookup f = none
  | _, _, .nil, _ => rfl
  | _, _, .cons (f := g) a r, h => by
    rw [List.lookup_cons] at h ⊢
    cases e : f == g with
    | true => rw [e] at h; cases h
    | false => rw [e] at h; exact RepF.look0 r h
/-- a field stored, in the abstract -/
def putD (f : Str) (v : D) : List (Str × D) → List (Str × D)
  | [] => [(f, v)]
  | (g, w) :: r => if g = f then (g, v) :: r else (g, w) :: putD f v r
theorem RepF.put {f : Str} {v : V} {d : D} (x : Rep K F m v d) : ∀ {vs : List (Str × V)} {ds : List (Str × D)}, RepF K F m vs ds → RepF K F m (putF f v vs) (putD f d ds)
  | _, _, .nil => .cons x .nil
  | _, _, .cons (f := g) a r => by
    unfold putF putD
    by_cases e : g = f
    · rw [if_pos e, if_pos e]; first | exact .cons x r | (subst e; exact .cons x r)
    · rw [if_neg e, if_neg e]; exact .cons a (RepF.put x r)
theorem RepF.len : ∀ {vs : List (Str × V)} {ds : List (Str × D)}, RepF K F m vs ds → vs.length = ds.length
  | _, _, .nil => rfl
  | _, _, .cons _ r => by rw [List.length_cons, List.length_cons, RepF.len r]
end

/-- what stands at a cell's address -/
def CellAt (K : PySem.W.Frag) (F : Hp) (m : List Addr) (H : Hp) (a : Addr) : Cell → Prop
  | .lst ds => ∃ vs, H a = some (.lst vs) ∧ Reps K F m vs ds
  | .ins C fs => ∃ dx fvs, H a = some (.ins C dx fvs) ∧ RepF K F m fvs fs
  | .dK kvs => ∃ kv, H a = some (.dK kv) ∧ RepK K F m kv kvs
  | .dT kvs => ∃ kv, H a = some (.dT kv) ∧ RepK K F m kv kvs
  | .gone => True
def Cell.live : Cell → Prop
  | .gone => False
  | _ => True
theorem CellAt.mono {K : PySem.W.Frag} {F F' H H' : Hp} {m m' : List Addr} {a : Addr} {c : Cell} (e : Ex F F') (p : Pre m m') (h : H' a = H a) (x : CellAt K F m H a c) : CellAt K F' m' H' a c := by
  cases c with
  | lst ds => obtain ⟨vs, h1, h2⟩ := x; exact ⟨vs, h.trans h1, h2.mono e p⟩
  | ins C fs => obtain ⟨dx, vs, h1, h2⟩ := x; exact ⟨dx, vs, h.trans h1, h2.mono e p⟩
  | dK kvs => obtain ⟨vs, h1, h2⟩ := x; exact ⟨vs, h.trans h1, h2.mono e p⟩
  | dT kvs => obtain ⟨vs, h1, h2⟩ := x; exact ⟨vs, h.trans h1, h2.mono e p⟩
  | gone => trivial
theorem CellAt.some {K : PySem.W.Frag} {F H : Hp} {m : List Addr} {a : Addr} {c : Cell} (x : CellAt K F m H a c) (l : c.live) : ∃ o, H a = some o := by
  cases c with
  | lst ds => obtain ⟨vs, h1, h2⟩ := x; exact ⟨_, h1⟩
  | ins C fs => obtain ⟨dx, vs, h1, h2⟩ := x; exact ⟨_, h1⟩
  | dK kvs => obtain ⟨vs, h1, h2⟩ := x; exact ⟨_, h1⟩
  | dT kvs => obtain ⟨vs, h1, h2⟩ := x; exact ⟨_, h1⟩
  | gone => exact l.elim

/-- the heap: F is frozen, G is the callers', the cells stand at m -/
structure HS (K : PySem.W.Frag) (F G : Hp) (m : List Addr) (O : List Cell) (H : Hp) : Prop where
  exF : Ex F H
  exG : Ex G H
  dj : ∀ a o, F a = some o → G a = none
  len : m.length = O.length
  cell : ∀ (n : Nat) a c, m[n]? = some a → O[n]? = some c → c.live → F a = none ∧ G a = none ∧ CellAt K F m H a c
  inj : ∀ (n n' : Nat) a, m[n]? = some a → m[n']? = some a → n = n'
  here : ∀ (n : Nat) a, m[n]? = some a → ∃ o, H a = some o
  mG : ∀ (n : Nat) a, m[n]? = some a → G a = none
  gn : ∀ (n : Nat) a, m[n]? = some a → O[n]? = some .gone → ∃ C dx fv, F a = some (.ins C dx fv)
def SlotAt (K : PySem.W.Frag) (F G : Hp) (m : List Addr) (H : Hp) : Option V → Option SV → Prop
  | _, none => True
  | some v, some (.val d) => Rep K F m v d
  | some v, some (.own c) => ∃ a, v = .ref a ∧ c.live ∧ F a = none ∧ G a = none ∧ (∀ n : Nat, m[n]? ≠ some a) ∧ CellAt K F m H a c
  | none, some _ => False
structure SS (K : PySem.W.Frag) (F G : Hp) (m : List Addr) (s : List (Option SV)) (σ : St) (H : Hp) : Prop where
  len : σ.length = s.length
  at_ : ∀ (i : Nat) x y, σ[i]? = some x → s[i]? = some y → SlotAt K F G m H x y
  own : ∀ (i j : Nat) c c' v, i ≠ j → s[i]? = some (some (.own c)) → s[j]? = some (some (.own c')) → σ[i]? = some (some v) → σ[j]? = some (some v) → False
structure Sim (K : PySem.W.Frag) (F G : Hp) (m : List Addr) (A : AS) (σ : St) (H : Hp) : Prop where
  h : HS K F G m A.o H
  s : SS K F G m A.s σ H

theorem ex_none {F H : Hp} {a : Addr} (e : Ex F H) (h : H a = none) : F a = none := Evl.fresh_back e h
section
variable {K : PySem.W.Frag} {F G : Hp} {m : List Addr} {O : List Cell} {H : Hp} {A : AS} {σ : St} {s : List (Option SV)}
theorem HS.fresh (h : HS K F G m O H) {p : Addr} (hp : H p = none) : F p = none ∧ G p = none ∧ ∀ n : Nat, m[n]? ≠ some p :=
  ⟨ex_none h.exF hp, ex_none h.exG hp, fun n e => by obtain ⟨o, q⟩ := h.here n p e; rw [hp] at q; cases q⟩
theorem ex_upd {F : Hp} {p : Addr} {o : HO} (h : F p = none) : Ex F (upd F p o) := by
  intro a u e
  rw [upd_ne (ne_of_none e h)]
  exact e
theorem ex_both {F H : Hp} {p : Addr} {o : HO} (e : Ex F H) : Ex (upd F p o) (upd H p o) := fun a u h => by
  by_cases c : a = p
  · subst c; rw [upd_same] at h ⊢; exact h
  · rw [upd_ne c] at h ⊢; exact e _ _ h
theorem ex_right {F H : Hp} {p : Addr} {o : HO} (e : Ex F H) (h : F p = none) : Ex F (upd H p o) := fun a u q => by
  rw [upd_ne (ne_of_none q h)]; exact e _ _ q
theorem CellAt.ne {a p : Addr} {c : Cell} (x : CellAt K F m H a c) (l : c.live) (hp : H p = none) : a ≠ p := by
  obtain ⟨o, q⟩ := x.some l
  exact ne_of_none q hp
/-- a new frozen object -/
theorem HS.frz (h : HS K F G m O H) {p : Addr} {o : HO} (hp : H p = none) : HS K (upd F p o) G m O (upd H p o) where
  exF := ex_both h.exF
  exG := ex_right h.exG (h.fresh hp).2.1
  dj := fun a u e => by
    by_cases c : a = p
    · subst c; exact (h.fresh hp).2.1
    · rw [upd_ne c] at e; exact h.dj _ _ e
  len := h.len
  cell := fun n a c e1 e2 l => by
    obtain ⟨x1, x2, x3⟩ := h.cell n a c e1 e2 l
    have np := x3.ne l hp
    exact ⟨by rw [upd_ne np]; exact x1, x2, x3.mono (ex_upd (h.fresh hp).1) (Pre.refl _) (upd_ne np)⟩
  inj := h.inj
  here := fun n a e => by
    obtain ⟨u, q⟩ := h.here n a e
    exact ⟨u, by rw [upd_ne (ne_of_none q hp)]; exact q⟩
  mG := h.mG
  gn := fun n a e1 e2 => by
    obtain ⟨C, dx, fv, q⟩ := h.gn n a e1 e2
    exact ⟨C, dx, fv, by rw [upd_ne (ne_of_none q (h.fresh hp).1)]; exact q⟩
/-- an object that is not the cells', nor frozen, nor the callers', is new or changes -/
theorem HS.mut (h : HS K F G m O H) {p : Addr} {o : HO} (hF : F p = none) (hG : G p = none) (hm : ∀ n : Nat, m[n]? ≠ some p) : HS K F G m O (upd H p o) where
  exF := ex_right h.exF hF
  exG := ex_right h.exG hG
  dj := h.dj
  len := h.len
  cell := fun n a c e1 e2 l => by
    obtain ⟨x1, x2, x3⟩ := h.cell n a c e1 e2 l
    have np : a ≠ p := fun z => hm n (z ▸ e1)
    exact ⟨x1, x2, x3.mono (fun _ _ h => h) (Pre.refl _) (upd_ne np)⟩
  inj := h.inj
  here := fun n a e => by
    obtain ⟨u, q⟩ := h.here n a e
    by_cases c : a = p
    · subst c; exact ⟨_, upd_same⟩
    · exact ⟨u, by rw [upd_ne c]; exact q⟩
  mG := h.mG
  gn := h.gn
/-- an own object is frozen -/
theorem HS.freeze (h : HS K F G m O H) {p : Addr} {o : HO} (hH : H p = some o) (hF : F p = none) (hG : G p = none) (hm : ∀ n : Nat, m[n]? ≠ some p) : HS K (upd F p o) G m O H where
  exF := fun a u e => by
    by_cases c : a = p
    · subst c; rw [upd_same] at e; cases e; exact hH
    · rw [upd_ne c] at e; exact h.exF _ _ e
  exG := h.exG
  dj := fun a u e => by
    by_cases c : a = p
    · subst c; exact hG
    · rw [upd_ne c] at e; exact h.dj _ _ e
  len := h.len
  cell := fun n a c e1 e2 l => by
    obtain ⟨x1, x2, x3⟩ := h.cell n a c e1 e2 l
    have np : a ≠ p := fun z => hm n (z ▸ e1)
    exact ⟨by rw [upd_ne np]; exact x1, x2, x3.mono (ex_upd hF) (Pre.refl _) rfl⟩
  inj := h.inj
  here := h.here
  mG := h.mG
  gn := fun n a e1 e2 => by
    obtain ⟨C, dx, fv, q⟩ := h.gn n a e1 e2
    exact ⟨C, dx, fv, by rw [upd_ne (ne_of_none q hF)]; exact q⟩
/-- a cell changes -/
theorem HS.cset (h : HS K F G m O H) {n : Nat} {p : Addr} {o : HO} {c c' : Cell} (hm : m[n]? = some p) (hc : O[n]? = some c) (l : c.live) (l' : c'.live) (hx : CellAt K F m (upd H p o) p c') : HS K F G m (O.set n c') (upd H p o) where
  exF := ex_right h.exF (h.cell n p c hm hc l).1
  exG := ex_right h.exG (h.cell n p c hm hc l).2.1
  dj := h.dj
  len := by rw [List.length_set]; exact h.len
  cell := fun i a d e1 e2 l' => by
    by_cases z : i = n
    · subst z
      rw [hm] at e1; cases e1
      have hlt : i < O.length := (List.getElem?_eq_some_iff.mp hc).1
      rw [List.getElem?_set_self hlt] at e2; cases e2
      exact ⟨(h.cell i p c hm hc l).1, (h.cell i p c hm hc l).2.1, hx⟩
    · rw [List.getElem?_set_ne (Ne.symm z)] at e2
      obtain ⟨x1, x2, x3⟩ := h.cell i a d e1 e2 l'
      have np : a ≠ p := fun y => z (h.inj i n p (y ▸ e1) hm)
      exact ⟨x1, x2, x3.mono (fun _ _ h => h) (Pre.refl _) (upd_ne np)⟩
  inj := h.inj
  here := fun n a e => by
    obtain ⟨u, q⟩ := h.here n a e
    by_cases c : a = p
    · subst c; exact ⟨_, upd_same⟩
    · exact ⟨u, by rw [upd_ne c]; exact q⟩
  mG := h.mG
  gn := fun i a e1 e2 => by
    by_cases z : i = n
    · subst z
      rw [List.getElem?_set_self (List.getElem?_eq_some_iff.mp hc).1] at e2
      cases e2; exact l'.elim
    · rw [List.getElem?_set_ne (Ne.symm z)] at e2
      exact h.gn i a e1 e2
/-- a new cell -/
theorem HS.cnew (h : HS K F G m O H) {p : Addr} {o : HO} {c : Cell} (hp : H p = none) (lc : c.live) (hx : CellAt K F (m ++ [p]) (upd H p o) p c) : HS K F G (m ++ [p]) (O ++ [c]) (upd H p o) where
  exF := ex_right h.exF (h.fresh hp).1
  exG := ex_right h.exG (h.fresh hp).2.1
  dj := h.dj
  len := by rw [List.length_append, List.length_append, h.len]; rfl
  cell := fun i a d e1 e2 l' => by
    by_cases z : i < m.length
    · rw [List.getElem?_append_left z] at e1
      rw [List.getElem?_append_left (by rw [← h.len]; exact z)] at e2
      obtain ⟨x1, x2, x3⟩ := h.cell i a d e1 e2 l'
      exact ⟨x1, x2, x3.mono (fun _ _ h => h) Pre.app (upd_ne (x3.ne l' hp))⟩
    · have hl := (List.getElem?_eq_some_iff.mp e1).1
      rw [List.length_append] at hl
      have ei : i = m.length := by simp only [List.length_cons, List.length_nil] at hl; omega
      subst ei
      rw [List.getElem?_append_right (Nat.le_refl _), Nat.sub_self] at e1
      rw [List.getElem?_append_right (by rw [h.len]; exact Nat.le_refl _), h.len, Nat.sub_self] at e2
      cases e1; cases e2
      exact ⟨(h.fresh hp).1, (h.fresh hp).2.1, hx⟩
  inj := fun i j a e1 e2 => by
    by_cases z : i < m.length
    · rw [List.getElem?_append_left z] at e1
      by_cases y : j < m.length
      · rw [List.getElem?_append_left y] at e2; exact h.inj i j a e1 e2
      · have hl := (List.getElem?_eq_some_iff.mp e2).1
        rw [List.length_append] at hl
        have ej : j = m.length := by simp only [List.length_cons, List.length_nil] at hl; omega
        subst ej
        rw [List.getElem?_append_right (Nat.le_refl _), Nat.sub_self] at e2
        cases e2
        exact absurd e1 ((h.fresh hp).2.2 i)
    · have hl := (List.getElem?_eq_some_iff.mp e1).1
      rw [List.length_append] at hl
      have ei : i = m.length := by simp only [List.length_cons, List.length_nil] at hl; omega
      subst ei
      rw [List.getElem?_append_right (Nat.le_refl _), Nat.sub_self] at e1
      cases e1
      by_cases y : j < m.length
      · rw [List.getElem?_append_left y] at e2; exact absurd e2 ((h.fresh hp).2.2 j)
      · have hl := (List.getElem?_eq_some_iff.mp e2).1
        rw [List.length_append] at hl
        simp only [List.length_cons, List.length_nil] at hl; omega
  here := fun i a e => by
    by_cases z : i < m.length
    · rw [List.getElem?_append_left z] at e
      obtain ⟨u, q⟩ := h.here i a e
      exact ⟨u, by rw [upd_ne (ne_of_none q hp)]; exact q⟩
    · have hl := (List.getElem?_eq_some_iff.mp e).1
      rw [List.length_append] at hl
      have ei : i = m.length := by simp only [List.length_cons, List.length_nil] at hl; omega
      subst ei
      rw [List.getElem?_append_right (Nat.le_refl _), Nat.sub_self] at e
      cases e
      exact ⟨_, upd_same⟩
  mG := fun i a e => by
    by_cases z : i < m.length
    · rw [List.getElem?_append_left z] at e
      exact h.mG i a e
    · have hl := (List.getElem?_eq_some_iff.mp e).1
      rw [List.length_append] at hl
      have ei : i = m.length := by simp only [List.length_cons, List.length_nil] at hl; omega
      subst ei
      rw [List.getElem?_append_right (Nat.le_refl _), Nat.sub_self] at e
      cases e
      exact (h.fresh hp).2.1
  gn := fun i a e1 e2 => by
    by_cases z : i < m.length
    · rw [List.getElem?_append_left z] at e1
      rw [List.getElem?_append_left (by rw [← h.len]; exact z)] at e2
      exact h.gn i a e1 e2
    · have hl := (List.getElem?_eq_some_iff.mp e1).1
      rw [List.length_append] at hl
      have ei : i = m.length := by simp only [List.length_cons, List.length_nil] at hl; omega
      subst ei
      rw [List.getElem?_append_right (by rw [h.len]; exact Nat.le_refl _), h.len, Nat.sub_self] at e2
      cases e2; exact lc.elim
/-! ### slots -/
/-- the heap, the frozen part, the cells go on; the own objects stay -/
theorem SS.go (h : SS K F G m s σ H) {F' H' : Hp} {m' : List Addr} (e : Ex F F') (p : Pre m m') (st : ∀ (i : Nat) c a, s[i]? = some (some (.own c)) → σ[i]? = some (some (.ref a)) → F' a = none ∧ (∀ n : Nat, m'[n]? ≠ some a) ∧ H' a = H a) : SS K F' G m' s σ H' where
  len := h.len
  at_ := fun i x y e1 e2 => by
    have q := h.at_ i x y e1 e2
    match x, y, q with
    | _, none, _ => cases x <;> trivial
    | some v, some (.val d), q => exact Rep.mono e p q
    | some v, some (.own c), ⟨a, ea, l, f, g, mm, cc⟩ =>
      subst ea
      obtain ⟨k1, k2, k3⟩ := st i c a e2 e1
      exact ⟨a, rfl, l, k1, g, k2, cc.mono e p k3⟩
  own := h.own
theorem SS.ownAt (h : SS K F G m s σ H) {i : Nat} {c : Cell} (e : s[i]? = some (some (.own c))) : ∃ a, σ[i]? = some (some (.ref a)) ∧ c.live ∧ F a = none ∧ G a = none ∧ (∀ n : Nat, m[n]? ≠ some a) ∧ CellAt K F m H a c := by
  have hl : i < σ.length := by rw [h.len]; exact (List.getElem?_eq_some_iff.mp e).1
  have q := h.at_ i _ _ (List.getElem?_eq_getElem hl) e
  cases z : σ[i] with
  | none => rw [z] at q; exact q.elim
  | some v =>
    rw [z] at q
    obtain ⟨a, ea, l, f, g, mm, cc⟩ := q
    exact ⟨a, by rw [List.getElem?_eq_getElem hl, z, ea], l, f, g, mm, cc⟩
theorem SS.valAt (h : SS K F G m s σ H) {i : Nat} {d : D} (e : s[i]? = some (some (.val d))) : ∃ v, σ[i]? = some (some v) ∧ Rep K F m v d := by
  have hl : i < σ.length := by rw [h.len]; exact (List.getElem?_eq_some_iff.mp e).1
  have q := h.at_ i _ _ (List.getElem?_eq_getElem hl) e
  cases z : σ[i] with
  | none => rw [z] at q; exact q.elim
  | some v =>
    rw [z] at q
    exact ⟨v, by rw [List.getElem?_eq_getElem hl, z], q⟩
theorem SS.setV (h : SS K F G m s σ H) {i : Nat} {v : V} {d : D} (r : Rep K F m v d) : SS K F G m (s.set i (some (.val d))) (σ.set i (some v)) H where
  len := by rw [List.length_set, List.length_set]; exact h.len
  at_ := fun j x y e1 e2 => by
    by_cases z : j = i
    · subst z
      have h1 : j < σ.length := by have := (List.getElem?_eq_some_iff.mp e1).1; rw [List.length_set] at this; exact this
      rw [List.getElem?_set_self h1] at e1
      rw [List.getElem?_set_self (by rw [← h.len]; exact h1)] at e2
      cases e1; cases e2; exact r
    · rw [List.getElem?_set_ne (Ne.symm z)] at e1 e2; exact h.at_ j x y e1 e2
  own := fun j k c c' u n e1 e2 e3 e4 => by
    have zj : j ≠ i := fun z => by
      subst z
      have h1 : j < s.length := by have := (List.getElem?_eq_some_iff.mp e1).1; rw [List.length_set] at this; exact this
      rw [List.getElem?_set_self h1] at e1; cases e1
    have zk : k ≠ i := fun z => by
      subst z
      have h1 : k < s.length := by have := (List.getElem?_eq_some_iff.mp e2).1; rw [List.length_set] at this; exact this
      rw [List.getElem?_set_self h1] at e2; cases e2
    rw [List.getElem?_set_ne (Ne.symm zj)] at e1 e3
    rw [List.getElem?_set_ne (Ne.symm zk)] at e2 e4
    exact h.own j k c c' u n e1 e2 e3 e4
/-- a slot gets an own object that no slot has -/
theorem SS.setO (h : SS K F G m s σ H) {i : Nat} {a : Addr} {c : Cell} (r : SlotAt K F G m H (some (.ref a)) (some (.own c))) (nw : ∀ (j : Nat) c', s[j]? = some (some (.own c')) → σ[j]? ≠ some (some (.ref a))) : SS K F G m (s.set i (some (.own c))) (σ.set i (some (.ref a))) H where
  len := by rw [List.length_set, List.length_set]; exact h.len
  at_ := fun j x y e1 e2 => by
    by_cases z : j = i
    · subst z
      have h1 : j < σ.length := by have := (List.getElem?_eq_some_iff.mp e1).1; rw [List.length_set] at this; exact this
      rw [List.getElem?_set_self h1] at e1
      rw [List.getElem?_set_self (by rw [← h.len]; exact h1)] at e2
      cases e1; cases e2; exact r
    · rw [List.getElem?_set_ne (Ne.symm z)] at e1 e2; exact h.at_ j x y e1 e2
  own := fun j k c1 c2 u n e1 e2 e3 e4 => by
    by_cases zj : j = i
    · subst zj
      have h1 : j < σ.length := by have := (List.getElem?_eq_some_iff.mp e3).1; rw [List.length_set] at this; exact this
      rw [List.getElem?_set_self h1] at e3
      cases e3
      rw [List.getElem?_set_ne n] at e2 e4
      exact nw k c2 e2 e4
    · by_cases zk : k = i
      · subst zk
        have h1 : k < σ.length := by have := (List.getElem?_eq_some_iff.mp e4).1; rw [List.length_set] at this; exact this
        rw [List.getElem?_set_self h1] at e4
        cases e4
        rw [List.getElem?_set_ne (Ne.symm n)] at e1 e3
        exact nw j c1 e1 e3
      · rw [List.getElem?_set_ne (Ne.symm zj)] at e1 e3
        rw [List.getElem?_set_ne (Ne.symm zk)] at e2 e4
        exact h.own j k c1 c2 u n e1 e2 e3 e4
/-- a slot is forgotten -/
theorem SS.forget (h : SS K F G m s σ H) {i : Nat} {x : Option V} : SS K F G m (s.set i none) (σ.set i x) H where
  len := by rw [List.length_set, List.length_set]; exact h.len
  at_ := fun j x y e1 e2 => by
    by_cases z : j = i
    · subst z
      have h1 : j < s.length := by have := (List.getElem?_eq_some_iff.mp e2).1; rw [List.length_set] at this; exact this
      rw [List.getElem?_set_self h1] at e2
      cases e2; cases x <;> trivial
    · rw [List.getElem?_set_ne (Ne.symm z)] at e1 e2; exact h.at_ j x y e1 e2
  own := fun j k c1 c2 u n e1 e2 e3 e4 => by
    have zj : j ≠ i := fun z => by
      subst z
      have h1 : j < s.length := by have := (List.getElem?_eq_some_iff.mp e1).1; rw [List.length_set] at this; exact this
      rw [List.getElem?_set_self h1] at e1; cases e1
    have zk : k ≠ i := fun z => by
      subst z
      have h1 : k < s.length := by have := (List.getElem?_eq_some_iff.mp e2).1; rw [List.length_set] at this; exact this
      rw [List.getElem?_set_self h1] at e2; cases e2
    rw [List.getElem?_set_ne (Ne.symm zj)] at e1 e3
    rw [List.getElem?_set_ne (Ne.symm zk)] at e2 e4
    exact h.own j k c1 c2 u n e1 e2 e3 e4
/-- a slot's own object becomes data -/
theorem SS.toV (h : SS K F G m s σ H) {i : Nat} {a : Addr} {c : Cell} {d : D} (hs : s[i]? = some (some (.own c))) (hσ : σ[i]? = some (some (.ref a))) (r : Rep K F m (.ref a) d) : SS K F G m (s.set i (some (.val d))) σ H := by
  have q := h.setV (i := i) r
  have e : σ.set i (some (.ref a)) = σ := by
    apply List.ext_getElem?
    intro j
    by_cases z : i = j
    · subst z
      rw [List.getElem?_set_self (List.getElem?_eq_some_iff.mp hσ).1, hσ]
    · rw [List.getElem?_set_ne z]
  rw [e] at q
  exact q
end
end AL

namespace AL
open PySem L2
/-! ### calls: the callers' part -/
section
variable {K : PySem.W.Frag} {F G : Hp} {m : List Addr} {O : List Cell} {H : Hp} {A : AS} {σ : St} {s : List (Option SV)}
def IsOwn (s : List (Option SV)) (σ : St) (a : Addr) : Prop := ∃ (i : Nat) (c : Cell), s[i]? = some (some (.own c)) ∧ σ[i]? = some (some (.ref a))
open Classical in
noncomputable def callG (s : List (Option SV)) (σ : St) (G H : Hp) : Hp := fun a => if IsOwn s σ a then H a else G a
theorem callG_own {a : Addr} (h : IsOwn s σ a) : callG s σ G H a = H a := by unfold callG; rw [if_pos h]
theorem callG_not {a : Addr} (h : ¬ IsOwn s σ a) : callG s σ G H a = G a := by unfold callG; rw [if_neg h]
theorem SS.isOwn (h : SS K F G m s σ H) {a : Addr} (o : IsOwn s σ a) : F a = none ∧ G a = none ∧ (∀ n : Nat, m[n]? ≠ some a) ∧ ∃ u, H a = some u := by
  obtain ⟨i, c, e1, e2⟩ := o
  obtain ⟨b, q, l, f, g, mm, cc⟩ := h.ownAt e1
  rw [e2] at q; cases q
  exact ⟨f, g, mm, cc.some l⟩
theorem Sim.call (h : Sim K F G m A σ H) : HS K F (callG A.s σ G H) m A.o H where
  exF := h.h.exF
  exG := fun a o e => by
    by_cases z : IsOwn A.s σ a
    · rw [callG_own z] at e; exact e
    · rw [callG_not z] at e; exact h.h.exG _ _ e
  dj := fun a o e => by
    by_cases z : IsOwn A.s σ a
    · rw [(h.s.isOwn z).1] at e; cases e
    · rw [callG_not z]; exact h.h.dj _ _ e
  len := h.h.len
  cell := fun n a c e1 e2 l => by
    obtain ⟨x1, x2, x3⟩ := h.h.cell n a c e1 e2 l
    refine ⟨x1, ?_, x3⟩
    by_cases z : IsOwn A.s σ a
    · exact absurd e1 ((h.s.isOwn z).2.2.1 n)
    · rw [callG_not z]; exact x2
  inj := h.h.inj
  here := h.h.here
  mG := fun n a e => by
    by_cases z : IsOwn A.s σ a
    · exact absurd e ((h.s.isOwn z).2.2.1 n)
    · rw [callG_not z]; exact h.h.mG n a e
  gn := h.h.gn
theorem Sim.back (h : Sim K F G m A σ H) {F' H' : Hp} {m' : List Addr} {O' : List Cell} (e : Ex F F') (p : Pre m m') (q : HS K F' (callG A.s σ G H) m' O' H') : Sim K F' G m' ⟨A.s, O'⟩ σ H' := by
  have sub : ∀ a o, G a = some o → callG A.s σ G H a = some o := fun a o g => by
    by_cases z : IsOwn A.s σ a
    · rw [(h.s.isOwn z).2.1] at g; cases g
    · rw [callG_not z]; exact g
  have non : ∀ a, callG A.s σ G H a = none → G a = none := fun a c => by
    cases g : G a with
    | none => rfl
    | some o => rw [sub a o g] at c; cases c
  refine ⟨⟨q.exF, fun a o g => q.exG _ _ (sub a o g), fun a o f => non a (q.dj a o f), q.len, fun n a c e1 e2 l => ?_, q.inj, q.here, fun n a e => non a (q.mG n a e), q.gn⟩, h.s.go e p fun i c a e1 e2 => ?_⟩
  · obtain ⟨x1, x2, x3⟩ := q.cell n a c e1 e2 l
    exact ⟨x1, non a x2, x3⟩
  · have z : IsOwn A.s σ a := ⟨i, c, e1, e2⟩
    obtain ⟨f, g, mm, u, hu⟩ := h.s.isOwn z
    have cg : callG A.s σ G H a = some u := by rw [callG_own z]; exact hu
    refine ⟨?_, fun n e => ?_, ?_⟩
    · cases y : F' a with
      | none => rfl
      | some o => rw [q.dj a o y] at cg; cases cg
    · rw [q.mG n a e] at cg; cases cg
    · rw [q.exG _ _ cg, hu]
end

/-! ### judgements -/
abbrev XA := AS → Addr → List (Str × D) → Prop
/-- the written part, what an exception is wished for, in the concrete and in the abstract -/
structure Ct where
  K : PySem.W.Frag
  E : St → XK
  X : XA
  /-- in an except suite: the held exception's dict and fields -/
  hv : Option (Addr × List (Str × D))
structure EOk (c : Ct) (F G : Hp) (m : List Addr) : Prop where
  x : ∀ F' m' A' σ' H' C dx fvs fs, Ex F F' → Pre m m' → Sim c.K F' G m' A' σ' H' → F' dx = some (.xd fvs) → RepF c.K F' m' fvs fs → c.X A' C fs → c.E σ' (.ref C) (some dx) H'
  h : ∀ dx fs, c.hv = some (dx, fs) → ∃ fvs, F dx = some (.xd fvs) ∧ RepF c.K F m fvs fs
theorem EOk.mono {c : Ct} {F F' G : Hp} {m m' : List Addr} (e : Ex F F') (p : Pre m m') (h : EOk c F G m) : EOk c F' G m' :=
  ⟨fun F2 m2 A2 σ2 H2 C dx fvs fs e2 p2 => h.x F2 m2 A2 σ2 H2 C dx fvs fs (e.trans e2) (p.trans p2), fun dx fs z => by obtain ⟨fvs, z1, z2⟩ := h.h dx fs z; exact ⟨fvs, e _ _ z1, z2.mono e p⟩⟩
def RepR (K : PySem.W.Frag) (F : Hp) (m : List Addr) (A : AS) (σ : St) (v : V) : RV → Prop
  | .val d => Rep K F m v d
  | .slot i => σ[i]? = some (some v) ∧ ∃ c, A.s[i]? = some (some (.own c))
abbrev QE := AS → RV → Prop
def WE (c : Ct) (te : TE) (A : AS) (Q : QE) : Prop := ∀ F G m σ H, Sim c.K F G m A σ H → EOk c F G m → ∀ Qc : VK,
  (∀ F' m' A' v H' r, Ex F F' → Pre m m' → Sim c.K F' G m' A' σ H' → RepR c.K F' m' A' σ v r → Q A' r → Qc v H') → te σ H Qc
/-- the value as data: an own list is frozen -/
def Frz (A : AS) (r : RV) (k : AS → D → Prop) : Prop := match r with
  | .val d => k A d
  | .slot i => match A.s[i]? with
    | some (some (.own (.lst ds))) => k (A.setS i (.val (.lst ds))) (.lst ds)
    | _ => False
/-- a new list (or tuple, dict), not frozen yet, at p -/
def WN (c : Ct) (te : TE) (A : AS) (Q : AS → List D → Prop) : Prop := ∀ F G m σ H, Sim c.K F G m A σ H → EOk c F G m → ∀ Qc : VK,
  (∀ F' m' A' p vs H' ds, Ex F F' → Pre m m' → Sim c.K F' G m' A' σ H' → F' p = none → G p = none → (∀ n : Nat, m'[n]? ≠ some p) → ¬ IsOwn A'.s σ p → H' p = some (.lst vs) → Reps c.K F' m' vs ds → Q A' ds → Qc (.ref p) H') → te σ H Qc
def WT (c : Ct) (t : TT) (A : AS) (Q : AS → Bool → Prop) : Prop := ∀ F G m σ H, Sim c.K F G m A σ H → EOk c F G m → ∀ Qc : Bool → Hp → Prop,
  (∀ F' m' A' b H', Ex F F' → Pre m m' → Sim c.K F' G m' A' σ H' → Q A' b → Qc b H') → t σ H Qc
def WA (c : Ct) (t : TA) (A : AS) (Q : AS → List D → Prop) : Prop := ∀ F G m σ H, Sim c.K F G m A σ H → EOk c F G m → ∀ Qc : List V → Hp → Prop,
  (∀ F' m' A' vs H' ds, Ex F F' → Pre m m' → Sim c.K F' G m' A' σ H' → Reps c.K F' m' vs ds → Q A' ds → Qc vs H') → t σ H Qc
def WO (c : Ct) (t : TO) (A : AS) (Q : AS → Option Int → Prop) : Prop := ∀ F G m σ H, Sim c.K F G m A σ H → EOk c F G m → ∀ Qc : Option Int → Hp → Prop,
  (∀ F' m' A' o H', Ex F F' → Pre m m' → Sim c.K F' G m' A' σ H' → Q A' o → Qc o H') → t σ H Qc
structure EA where
  nx : AS → Prop
  rt : List Cell → D → Prop
  bk : AS → Prop := fun _ => False
  ct : AS → Prop := fun _ => False
structure EndsOk (c : Ct) (F G : Hp) (m : List Addr) (B : EA) (Dc : Ends) : Prop where
  nx : ∀ F' m' A' σ' H', Ex F F' → Pre m m' → Sim c.K F' G m' A' σ' H' → B.nx A' → Dc.nx σ' H'
  rt : ∀ F' m' O' v d H', Ex F F' → Pre m m' → HS c.K F' G m' O' H' → Rep c.K F' m' v d → B.rt O' d → Dc.rt v H'
  bk : ∀ F' m' A' σ' H', Ex F F' → Pre m m' → Sim c.K F' G m' A' σ' H' → B.bk A' → Dc.bk σ' H'
  ct : ∀ F' m' A' σ' H', Ex F F' → Pre m m' → Sim c.K F' G m' A' σ' H' → B.ct A' → Dc.ct σ' H'
theorem EndsOk.mono {c : Ct} {F F' G : Hp} {m m' : List Addr} {B : EA} {Dc : Ends} (e : Ex F F') (p : Pre m m') (h : EndsOk c F G m B Dc) : EndsOk c F' G m' B Dc :=
  ⟨fun F2 m2 A2 σ2 H2 e2 p2 => h.nx F2 m2 A2 σ2 H2 (e.trans e2) (p.trans p2), fun F2 m2 O2 v d H2 e2 p2 => h.rt F2 m2 O2 v d H2 (e.trans e2) (p.trans p2), fun F2 m2 A2 σ2 H2 e2 p2 => h.bk F2 m2 A2 σ2 H2 (e.trans e2) (p.trans p2), fun F2 m2 A2 σ2 H2 e2 p2 => h.ct F2 m2 A2 σ2 H2 (e.trans e2) (p.trans p2)⟩
def WS (c : Ct) (t : TS) (A : AS) (B : EA) : Prop := ∀ F G m σ H, Sim c.K F G m A σ H → EOk c F G m → ∀ Dc : Ends, EndsOk c F G m B Dc → t Dc σ H
/-- the target of an assignment gets a value -/
def WG (c : Ct) (g : TG) (d : D) (A : AS) (Q : AS → Prop) : Prop := ∀ F G m σ H v, Sim c.K F G m A σ H → Rep c.K F m v d → EOk c F G m → ∀ Qc : St → Hp → Prop,
  (∀ F' m' A' σ' H', Ex F F' → Pre m m' → Sim c.K F' G m' A' σ' H' → Q A' → Qc σ' H') → g v σ H Qc
/-- what J walks is ds -/
def Real (K : PySem.W.Frag) (F0 : Hp) (m0 : List Addr) (J : It) (ds : List D) : Prop := ∀ F G m A σ H, Ex F0 F → Pre m0 m → Sim K F G m A σ H → ∀ i,
  (∀ d, ds[i]? = some d → J.go i H ∧ ∀ x H', J.yld i H x H' → ∃ F', Ex F F' ∧ Sim K F' G m A σ H' ∧ Rep K F' m x d) ∧ (ds.length ≤ i → J.stop i H)
def WI (c : Ct) (wi : TI) (A : AS) (Q : AS → List D → Prop) : Prop := ∀ F G m σ H, Sim c.K F G m A σ H → EOk c F G m → ∀ Rc : It → Hp → Prop,
  (∀ F' m' A' J H' ds, Ex F F' → Pre m m' → Sim c.K F' G m' A' σ H' → Real c.K F' m' J ds → Q A' ds → Rc J H') → wi σ H Rc

section
variable {c : Ct} {A : AS} {te ta tb : TE} {t u tt : TT}
/-! ### consequence -/
theorem WE.imp {Q Q' : QE} (h : WE c te A Q) (f : ∀ A r, Q A r → Q' A r) : WE c te A Q' := fun F G m σ H S E Qc k => h F G m σ H S E Qc fun F' m' A' v H' r e p S' R q => k F' m' A' v H' r e p S' R (f _ _ q)
theorem WS.imp {ts : TS} {B B' : EA} (h : WS c ts A B) (f1 : ∀ A, B.nx A → B'.nx A) (f2 : ∀ A d, B.rt A d → B'.rt A d) (f3 : ∀ A, B.bk A → B'.bk A) (f4 : ∀ A, B.ct A → B'.ct A) : WS c ts A B' := fun F G m σ H S E Dc k =>
  h F G m σ H S E Dc ⟨fun F' m' A' σ' H' e p S' q => k.nx _ _ _ _ _ e p S' (f1 _ q), fun F' m' O' v d H' e p S' R q => k.rt _ _ _ _ _ _ e p S' R (f2 _ _ q), fun F' m' A' σ' H' e p S' q => k.bk _ _ _ _ _ e p S' (f3 _ q), fun F' m' A' σ' H' e p S' q => k.ct _ _ _ _ _ e p S' (f4 _ q)⟩
/-! ### freezing -/
theorem frz_ok {K : PySem.W.Frag} {F G : Hp} {m : List Addr} {A : AS} {σ : St} {H : Hp} {v : V} {r : RV} {k : AS → D → Prop} (S : Sim K F G m A σ H) (R : RepR K F m A σ v r) (h : Frz A r k) :
    ∃ F' A' d, Ex F F' ∧ Sim K F' G m A' σ H ∧ Rep K F' m v d ∧ k A' d := by
  cases r with
  | val d => exact ⟨F, A, d, Evl.Ex.refl F, S, R, h⟩
  | slot i =>
    obtain ⟨e1, c, e2⟩ := R
    simp only [Frz, e2] at h
    cases c with
    | lst ds =>
      obtain ⟨a, q, l, f, g, mm, vs, hv, rv⟩ := S.s.ownAt e2
      rw [e1] at q; cases q
      have ex : Ex F (upd F a (.lst vs)) := ex_upd f
      have rep : Rep K (upd F a (.lst vs)) m (.ref a) (.lst ds) := .lst upd_same (rv.mono ex (Pre.refl _))
      refine ⟨upd F a (.lst vs), A.setS i (.val (.lst ds)), .lst ds, ex, ⟨S.h.freeze hv f g mm, ?_⟩, rep, h⟩
      have s1 : SS K (upd F a (.lst vs)) G m (A.s.set i none) (σ.set i (some (.ref a))) H := (S.s.forget (i := i) (x := some (.ref a))).go ex (Pre.refl _) fun j c b z1 z2 => by
        have ne : i ≠ j := fun z => by
          subst z
          have hl : i < A.s.length := by have := (List.getElem?_eq_some_iff.mp z1).1; rw [List.length_set] at this; exact this
          rw [List.getElem?_set_self hl] at z1; cases z1
        rw [List.getElem?_set_ne ne] at z1 z2
        obtain ⟨b', q, l', f', g', mm', cc⟩ := S.s.ownAt z1
        rw [z2] at q; cases q
        have nab : b ≠ a := fun z => by subst z; exact S.s.own i j _ _ _ ne e2 z1 e1 z2
        exact ⟨by rw [upd_ne nab]; exact f', mm', rfl⟩
      have s2 := s1.setV (i := i) rep
      rw [List.set_set, List.set_set] at s2
      have e : σ.set i (some (.ref a)) = σ := by
        apply List.ext_getElem?
        intro j
        by_cases z : i = j
        · subst z
          rw [List.getElem?_set_self (List.getElem?_eq_some_iff.mp e1).1, e1]
        · rw [List.getElem?_set_ne z]
      rw [e] at s2
      exact s2
    | ins _ _ => exact h.elim
    | dK _ => exact h.elim
    | dT _ => exact h.elim
    | gone => exact h.elim
/-- a value is taken as data -/
theorem WE.frz {Q : AS → D → Prop} (h : WE c te A fun A1 r => Frz A1 r Q) : WE c te A fun A1 r => ∃ d, r = .val d ∧ Q A1 d := fun F G m σ H S E Qc k =>
  h F G m σ H S E Qc fun F' m' A' v H' r e p S' R q => by
    obtain ⟨F2, A2, d, e2, S2, R2, q2⟩ := frz_ok S' R q
    exact k F2 m' A2 v H' (.val d) (e.trans e2) p S2 R2 ⟨d, rfl, q2⟩
/-! ### expressions -/
theorem we_var {i : Nat} {d : D} {Q : QE} (h : A.s[i]? = some (some (.val d))) (q : Q A (.val d)) : WE c (tVar i) A Q := fun F G m σ H S E Qc k => by
  obtain ⟨v, e, r⟩ := S.s.valAt h
  exact ⟨v, e, k F m A v H (.val d) (Evl.Ex.refl F) (Pre.refl m) S r q⟩
theorem we_own {i : Nat} {x : Cell} {Q : QE} (h : A.s[i]? = some (some (.own x))) (q : Q A (.slot i)) : WE c (tVar i) A Q := fun F G m σ H S E Qc k => by
  obtain ⟨a, e, _⟩ := S.s.ownAt h
  exact ⟨.ref a, e, k F m A (.ref a) H (.slot i) (Evl.Ex.refl F) (Pre.refl m) S ⟨e, x, h⟩ q⟩
theorem we_C {v : V} {d : D} {Q : QE} (h : ∀ F m, Rep c.K F m v d) (q : Q A (.val d)) : WE c (tC v) A Q := fun F G m σ H S E Qc k => k F m A v H (.val d) (Evl.Ex.refl F) (Pre.refl m) S (h F m) q
theorem we_non {Q : QE} (q : Q A (.val .non)) : WE c (tC .non) A Q := we_C (fun _ _ => .non) q
theorem we_bl {b : Bool} {Q : QE} (q : Q A (.val (.bl b))) : WE c (tC (.bl b)) A Q := we_C (fun _ _ => .bl b) q
theorem we_int {i : Int} {Q : QE} (q : Q A (.val (.int i))) : WE c (tC (.int i)) A Q := we_C (fun _ _ => .int i) q
theorem we_str {x : Str} {Q : QE} (q : Q A (.val (.str x))) : WE c (tC (.str x)) A Q := we_C (fun _ _ => .str x) q
/-- what an operator asks of two values, in the abstract -/
def OpD (c : Ct) (r : R2) (x y : RV) (A : AS) (Q : QE) : Prop := ∀ F G m σ H v w, Sim c.K F G m A σ H → EOk c F G m → RepR c.K F m A σ v x → RepR c.K F m A σ w y → ∀ Qc : VK,
  (∀ F' m' A' v H' r, Ex F F' → Pre m m' → Sim c.K F' G m' A' σ H' → RepR c.K F' m' A' σ v r → Q A' r → Qc v H') → r v w H Qc
/-- the first operand stays while the second is reckoned: the slot it stands in isn't frozen on the way -/
def Stays (A A' : AS) : RV → Prop
  | .val _ => True
  | .slot i => A'.s[i]? = A.s[i]?
theorem RepR.stay {K : PySem.W.Frag} {F F' : Hp} {m m' : List Addr} {A A' : AS} {σ : St} {v : V} {r : RV} (h : RepR K F m A σ v r) (e : Ex F F') (p : Pre m m') (s : Stays A A' r) : RepR K F' m' A' σ v r := by
  cases r with
  | val d => exact Rep.mono e p h
  | slot i => obtain ⟨h1, x, h2⟩ := h; exact ⟨h1, x, by rw [s]; exact h2⟩
theorem we_op {r : R2} {Q : QE} (h : WE c ta A fun A1 x => WE c tb A1 fun A2 y => Stays A1 A2 x ∧ OpD c r x y A2 Q) : WE c (tOp r ta tb) A Q := fun F G m σ H S E Qc k =>
  h F G m σ H S E _ fun F1 m1 A1 v H1 x e1 p1 S1 R1 q1 => q1 F1 G m1 σ H1 S1 (E.mono e1 p1) _ fun F2 m2 A2 w H2 y e2 p2 S2 R2 q2 =>
    q2.2 F2 G m2 σ H2 v w S2 (E.mono (e1.trans e2) (p1.trans p2)) (R1.stay e2 p2 q2.1) R2 Qc fun F3 m3 A3 v3 H3 r3 e3 p3 S3 R3 q3 => k F3 m3 A3 v3 H3 r3 ((e1.trans e2).trans e3) ((p1.trans p2).trans p3) S3 R3 q3
def UnD (c : Ct) (r : V → Hp → VK → Prop) (x : RV) (A : AS) (Q : QE) : Prop := ∀ F G m σ H v, Sim c.K F G m A σ H → EOk c F G m → RepR c.K F m A σ v x → ∀ Qc : VK,
  (∀ F' m' A' v H' r, Ex F F' → Pre m m' → Sim c.K F' G m' A' σ H' → RepR c.K F' m' A' σ v r → Q A' r → Qc v H') → r v H Qc
theorem we_un {r : V → Hp → VK → Prop} {Q : QE} (h : WE c ta A fun A1 x => UnD c r x A1 Q) : WE c (tUn r ta) A Q := fun F G m σ H S E Qc k =>
  h F G m σ H S E _ fun F1 m1 A1 v H1 x e1 p1 S1 R1 q1 => q1 F1 G m1 σ H1 v S1 (E.mono e1 p1) R1 Qc fun F3 m3 A3 v3 H3 r3 e3 p3 S3 R3 q3 => k F3 m3 A3 v3 H3 r3 (e1.trans e3) (p1.trans p3) S3 R3 q3
/-! ### tests -/
theorem wt_test {Q : AS → Bool → Prop} (h : WE c te A fun A1 x => ∃ b, x = .val (.bl b) ∧ Q A1 b) : WT c (tTest te) A Q := fun F G m σ H S E Qc k =>
  h F G m σ H S E _ fun F1 m1 A1 v H1 x e1 p1 S1 R1 ⟨b, ex, q⟩ => by
    subst ex; cases R1; exact ⟨b, rfl, k F1 m1 A1 b H1 e1 p1 S1 q⟩
theorem wt_B {Q : AS → Bool → Prop} (h : WE c te A fun A1 x => ∃ b, x = .val (.bl b) ∧ Q A1 b) : WT c (tB te) A Q := fun F G m σ H S E Qc k =>
  h F G m σ H S E _ fun F1 m1 A1 v H1 x e1 p1 S1 R1 ⟨b, ex, q⟩ => by
    subst ex; cases R1; exact ⟨b, rfl, k F1 m1 A1 b H1 e1 p1 S1 q⟩
theorem wt_and {Q : AS → Bool → Prop} (h : WT c t A fun A1 b => (b = true → WT c u A1 Q) ∧ (b = false → Q A1 false)) : WT c (tAnd t u) A Q := fun F G m σ H S E Qc k =>
  h F G m σ H S E _ fun F1 m1 A1 b H1 e1 p1 S1 q => by
    cases b with
    | true => exact q.1 rfl F1 G m1 σ H1 S1 (E.mono e1 p1) Qc fun F2 m2 A2 b2 H2 e2 p2 S2 q2 => k F2 m2 A2 b2 H2 (e1.trans e2) (p1.trans p2) S2 q2
    | false => exact k F1 m1 A1 false H1 e1 p1 S1 (q.2 rfl)
theorem wt_or {Q : AS → Bool → Prop} (h : WT c t A fun A1 b => (b = true → Q A1 true) ∧ (b = false → WT c u A1 Q)) : WT c (tOr t u) A Q := fun F G m σ H S E Qc k =>
  h F G m σ H S E _ fun F1 m1 A1 b H1 e1 p1 S1 q => by
    cases b with
    | false => exact q.2 rfl F1 G m1 σ H1 S1 (E.mono e1 p1) Qc fun F2 m2 A2 b2 H2 e2 p2 S2 q2 => k F2 m2 A2 b2 H2 (e1.trans e2) (p1.trans p2) S2 q2
    | true => exact k F1 m1 A1 true H1 e1 p1 S1 (q.1 rfl)
theorem wt_not {Q : AS → Bool → Prop} (h : WT c t A fun A1 b => Q A1 (!b)) : WT c (tNot t) A Q := fun F G m σ H S E Qc k => h F G m σ H S E _ fun F1 m1 A1 b H1 e1 p1 S1 q => k F1 m1 A1 (!b) H1 e1 p1 S1 q
theorem we_and {Q : QE} (h : WE c ta A fun A1 x => ∃ b, x = .val (.bl b) ∧ (b = true → WE c tb A1 Q) ∧ (b = false → Q A1 (.val (.bl false)))) : WE c (tAndV ta tb) A Q := fun F G m σ H S E Qc k =>
  h F G m σ H S E _ fun F1 m1 A1 v H1 x e1 p1 S1 R1 ⟨b, ex, q1, q2⟩ => by
    subst ex; cases R1
    refine ⟨b, rfl, ?_⟩
    cases b with
    | true => exact q1 rfl F1 G m1 σ H1 S1 (E.mono e1 p1) Qc fun F2 m2 A2 b2 H2 r2 e2 p2 S2 R2 q2 => k F2 m2 A2 b2 H2 r2 (e1.trans e2) (p1.trans p2) S2 R2 q2
    | false => exact k F1 m1 A1 _ H1 (.val (.bl false)) e1 p1 S1 (Rep.bl false) (q2 rfl)
theorem we_or {Q : QE} (h : WE c ta A fun A1 x => ∃ b, x = .val (.bl b) ∧ (b = true → Q A1 (.val (.bl true))) ∧ (b = false → WE c tb A1 Q)) : WE c (tOrV ta tb) A Q := fun F G m σ H S E Qc k =>
  h F G m σ H S E _ fun F1 m1 A1 v H1 x e1 p1 S1 R1 ⟨b, ex, q1, q2⟩ => by
    subst ex; cases R1
    refine ⟨b, rfl, ?_⟩
    cases b with
    | false => exact q2 rfl F1 G m1 σ H1 S1 (E.mono e1 p1) Qc fun F2 m2 A2 b2 H2 r2 e2 p2 S2 R2 q2 => k F2 m2 A2 b2 H2 r2 (e1.trans e2) (p1.trans p2) S2 R2 q2
    | true => exact k F1 m1 A1 _ H1 (.val (.bl true)) e1 p1 S1 (Rep.bl true) (q1 rfl)
theorem we_not {Q : QE} (h : WE c ta A fun A1 x => ∃ b, x = .val (.bl b) ∧ Q A1 (.val (.bl (!b)))) : WE c (tNotV ta) A Q := fun F G m σ H S E Qc k =>
  h F G m σ H S E _ fun F1 m1 A1 v H1 x e1 p1 S1 R1 ⟨b, ex, q⟩ => by
    subst ex; cases R1; exact ⟨b, rfl, k F1 m1 A1 _ H1 (.val (.bl (!b))) e1 p1 S1 (Rep.bl _) q⟩
theorem we_if {Q : QE} (h : WT c t A fun A1 b => (b = true → WE c ta A1 Q) ∧ (b = false → WE c tb A1 Q)) : WE c (tIf t ta tb) A Q := fun F G m σ H S E Qc k =>
  h F G m σ H S E _ fun F1 m1 A1 b H1 e1 p1 S1 q => by
    cases b with
    | true => exact q.1 rfl F1 G m1 σ H1 S1 (E.mono e1 p1) Qc fun F2 m2 A2 b2 H2 r2 e2 p2 S2 R2 q2 => k F2 m2 A2 b2 H2 r2 (e1.trans e2) (p1.trans p2) S2 R2 q2
    | false => exact q.2 rfl F1 G m1 σ H1 S1 (E.mono e1 p1) Qc fun F2 m2 A2 b2 H2 r2 e2 p2 S2 R2 q2 => k F2 m2 A2 b2 H2 r2 (e1.trans e2) (p1.trans p2) S2 R2 q2
/-! ### arguments -/
theorem wa_nil {Q : AS → List D → Prop} (q : Q A []) : WA c tNil A Q := fun F G m σ H S E Qc k => k F m A [] H [] (Evl.Ex.refl F) (Pre.refl m) S .nil q
theorem wa_cons {tr : TA} {Q : AS → List D → Prop} (h : WE c ta A fun A1 r => Frz A1 r fun A2 d => WA c tr A2 fun A3 ds => Q A3 (d :: ds)) : WA c (tCons ta tr) A Q := fun F G m σ H S E Qc k =>
  (WE.frz h) F G m σ H S E _ fun F1 m1 A1 v H1 x e1 p1 S1 R1 ⟨d, ex, q⟩ => by
    subst ex
    exact q F1 G m1 σ H1 S1 (E.mono e1 p1) _ fun F2 m2 A2 vs H2 ds e2 p2 S2 R2 q2 => k F2 m2 A2 _ H2 _ (e1.trans e2) (p1.trans p2) S2 (.cons (Rep.mono e2 p2 R1) R2) q2
theorem wo_none {Q : AS → Option Int → Prop} (q : Q A none) : WO c tNoPart A Q := fun F G m σ H S E Qc k => k F m A none H (Evl.Ex.refl F) (Pre.refl m) S q
theorem wo_some {Q : AS → Option Int → Prop} (h : WE c te A fun A1 x => ∃ i, x = .val (.int i) ∧ Q A1 (some i)) : WO c (tPart te) A Q := fun F G m σ H S E Qc k =>
  h F G m σ H S E _ fun F1 m1 A1 v H1 x e1 p1 S1 R1 ⟨i, ex, q⟩ => by
    subst ex; cases R1; exact ⟨i, rfl, k F1 m1 A1 (some i) H1 e1 p1 S1 q⟩
/-- a new frozen object -/
theorem Sim.frz {K : PySem.W.Frag} {F G : Hp} {m : List Addr} {A : AS} {σ : St} {H : Hp} (S : Sim K F G m A σ H) {p : Addr} {o : HO} (hp : H p = none) : Sim K (upd F p o) G m A σ (upd H p o) :=
  ⟨S.h.frz hp, S.s.go (ex_upd (S.h.fresh hp).1) (Pre.refl _) fun i c a e1 e2 => by
    obtain ⟨b, q, l, f, g, mm, cc⟩ := S.s.ownAt e1
    rw [e2] at q; cases q
    have np := cc.ne l hp
    exact ⟨by rw [upd_ne np]; exact f, mm, upd_ne np⟩⟩
/-- a new object that nobody has yet -/
theorem Sim.new {K : PySem.W.Frag} {F G : Hp} {m : List Addr} {A : AS} {σ : St} {H : Hp} (S : Sim K F G m A σ H) {p : Addr} {o : HO} (hp : H p = none) : Sim K F G m A σ (upd H p o) :=
  ⟨S.h.mut (S.h.fresh hp).1 (S.h.fresh hp).2.1 (S.h.fresh hp).2.2, S.s.go (Evl.Ex.refl F) (Pre.refl _) fun i c a e1 e2 => by
    obtain ⟨b, q, l, f, g, mm, cc⟩ := S.s.ownAt e1
    rw [e2] at q; cases q
    exact ⟨f, mm, upd_ne (cc.ne l hp)⟩⟩
theorem Sim.notOwn {K : PySem.W.Frag} {F G : Hp} {m : List Addr} {A : AS} {σ : St} {H : Hp} (S : Sim K F G m A σ H) {p : Addr} (hp : H p = none) : ¬ IsOwn A.s σ p := fun o => by
  obtain ⟨_, _, _, u, q⟩ := S.s.isOwn o
  rw [hp] at q; cases q
theorem we_tup {ta : TA} {Q : QE} (h : WA c ta A fun A1 ds => ds.length ≤ 1000 ∧ Q A1 (.val (.tup ds))) : WE c (tTupP ta) A Q := fun F G m σ H S E Qc k =>
  h F G m σ H S E _ fun F1 m1 A1 vs H1 ds e1 p1 S1 R1 ⟨hl, q⟩ => by
    refine ⟨Nat.le_trans (by rw [R1.len]; exact hl) (by decide), fun p its hp => ?_⟩
    have ex : Ex F1 (upd F1 p (tupHO its vs)) := ex_upd (S1.h.fresh hp).1
    exact k (upd F1 p (tupHO its vs)) m1 A1 _ _ (.val (.tup ds)) (e1.trans ex) p1 (S1.frz hp) (show Rep c.K _ _ _ _ from .tup (.inl ⟨its, upd_same⟩) (R1.mono ex (Pre.refl _))) q
theorem wn_lst {ta : TA} {Q : AS → List D → Prop} (h : WA c ta A fun A1 ds => ds.length ≤ 1000 ∧ Q A1 ds) : WN c (tLst ta) A Q := fun F G m σ H S E Qc k =>
  h F G m σ H S E _ fun F1 m1 A1 vs H1 ds e1 p1 S1 R1 ⟨hl, q⟩ =>
    ⟨Nat.le_trans (by rw [R1.len]; exact hl) (by decide), fun p hp =>
      k F1 m1 A1 p vs _ ds e1 p1 (S1.new hp) (S1.h.fresh hp).1 (S1.h.fresh hp).2.1 (S1.h.fresh hp).2.2 (S1.notOwn hp) upd_same R1 q⟩
/-- a new list, frozen at once -/
theorem we_ofN {Q : QE} (h : WN c te A fun A1 ds => Q A1 (.val (.lst ds))) : WE c te A Q := fun F G m σ H S E Qc k =>
  h F G m σ H S E Qc fun F1 m1 A1 p vs H1 ds e1 p1 S1 f g mm no hv R q => by
    have ex : Ex F1 (upd F1 p (.lst vs)) := ex_upd f
    refine k (upd F1 p (.lst vs)) m1 A1 _ H1 (.val (.lst ds)) (e1.trans ex) p1 ⟨S1.h.freeze hv f g mm, S1.s.go ex (Pre.refl _) fun i c a z1 z2 => ?_⟩ (show Rep c.K _ _ _ _ from .lst upd_same (R.mono ex (Pre.refl _))) q
    obtain ⟨b, q, l, f', g', mm', cc⟩ := S1.s.ownAt z1
    rw [z2] at q; cases q
    have np : a ≠ p := fun z => no ⟨i, c, z1, z ▸ z2⟩
    exact ⟨by rw [upd_ne np]; exact f', mm', rfl⟩
/-- a new list, a cell from now on -/
theorem we_cell {Q : QE} (h : WN c te A fun A1 ds => Q ⟨A1.s, A1.o ++ [.lst ds]⟩ (.val (.ptr A1.o.length))) : WE c te A Q := fun F G m σ H S E Qc k =>
  h F G m σ H S E Qc fun F1 m1 A1 p vs H1 ds e1 p1 S1 f g mm no hv R q => by
    have pr : Pre m1 (m1 ++ [p]) := Pre.app
    refine k F1 (m1 ++ [p]) ⟨A1.s, A1.o ++ [.lst ds]⟩ (.ref p) H1 (.val (.ptr A1.o.length)) e1 (p1.trans pr) ⟨?_, S1.s.go (Evl.Ex.refl _) pr fun i x a z1 z2 => ?_⟩ (show Rep c.K _ _ _ _ from .ptr ?_) q
    · refine ⟨S1.h.exF, S1.h.exG, S1.h.dj, by rw [List.length_append, List.length_append, S1.h.len]; rfl, fun i a d z1 z2 l => ?_, fun i j a z1 z2 => ?_, fun i a z => ?_, fun i a z => ?_, fun i a z1 z2 => ?_⟩
      · by_cases z : i < m1.length
        · rw [List.getElem?_append_left z] at z1
          rw [List.getElem?_append_left (by rw [← S1.h.len]; exact z)] at z2
          obtain ⟨x1, x2, x3⟩ := S1.h.cell i a d z1 z2 l
          exact ⟨x1, x2, x3.mono (fun _ _ h => h) pr rfl⟩
        · have hl := (List.getElem?_eq_some_iff.mp z1).1
          rw [List.length_append] at hl
          have ei : i = m1.length := by simp only [List.length_cons, List.length_nil] at hl; omega
          subst ei
          rw [List.getElem?_append_right (Nat.le_refl _), Nat.sub_self] at z1
          rw [List.getElem?_append_right (by rw [S1.h.len]; exact Nat.le_refl _), S1.h.len, Nat.sub_self] at z2
          cases z1; cases z2
          exact ⟨f, g, vs, hv, R.mono (fun _ _ h => h) pr⟩
      · by_cases z : i < m1.length
        · rw [List.getElem?_append_left z] at z1
          by_cases y : j < m1.length
          · rw [List.getElem?_append_left y] at z2; exact S1.h.inj i j a z1 z2
          · have hl := (List.getElem?_eq_some_iff.mp z2).1
            rw [List.length_append] at hl
            have ej : j = m1.length := by simp only [List.length_cons, List.length_nil] at hl; omega
            subst ej
            rw [List.getElem?_append_right (Nat.le_refl _), Nat.sub_self] at z2
            cases z2
            exact absurd z1 (mm i)
        · have hl := (List.getElem?_eq_some_iff.mp z1).1
          rw [List.length_append] at hl
          have ei : i = m1.length := by simp only [List.length_cons, List.length_nil] at hl; omega
          subst ei
          rw [List.getElem?_append_right (Nat.le_refl _), Nat.sub_self] at z1
          cases z1
          by_cases y : j < m1.length
          · rw [List.getElem?_append_left y] at z2; exact absurd z2 (mm j)
          · have hl := (List.getElem?_eq_some_iff.mp z2).1
            rw [List.length_append] at hl
            simp only [List.length_cons, List.length_nil] at hl; omega
      · by_cases y : i < m1.length
        · rw [List.getElem?_append_left y] at z; exact S1.h.here i a z
        · have hl := (List.getElem?_eq_some_iff.mp z).1
          rw [List.length_append] at hl
          have ei : i = m1.length := by simp only [List.length_cons, List.length_nil] at hl; omega
          subst ei
          rw [List.getElem?_append_right (Nat.le_refl _), Nat.sub_self] at z
          cases z; exact ⟨_, hv⟩
      · by_cases y : i < m1.length
        · rw [List.getElem?_append_left y] at z; exact S1.h.mG i a z
        · have hl := (List.getElem?_eq_some_iff.mp z).1
          rw [List.length_append] at hl
          have ei : i = m1.length := by simp only [List.length_cons, List.length_nil] at hl; omega
          subst ei
          rw [List.getElem?_append_right (Nat.le_refl _), Nat.sub_self] at z
          cases z; exact g
      · by_cases y : i < m1.length
        · rw [List.getElem?_append_left y] at z1
          rw [List.getElem?_append_left (by rw [← S1.h.len]; exact y)] at z2
          exact S1.h.gn i a z1 z2
        · have hl := (List.getElem?_eq_some_iff.mp z1).1
          rw [List.length_append] at hl
          have ei : i = m1.length := by simp only [List.length_cons, List.length_nil] at hl; omega
          subst ei
          rw [List.getElem?_append_right (by rw [S1.h.len]; exact Nat.le_refl _), S1.h.len, Nat.sub_self] at z2
          cases z2
    · obtain ⟨b, q, l, f', g', mm', cc⟩ := S1.s.ownAt z1
      rw [z2] at q; cases q
      have np : a ≠ p := fun z => no ⟨i, x, z1, z ▸ z2⟩
      refine ⟨f', fun n e => ?_, rfl⟩
      by_cases y : n < m1.length
      · rw [List.getElem?_append_left y] at e; exact mm' n e
      · have hl := (List.getElem?_eq_some_iff.mp e).1
        rw [List.length_append] at hl
        have ei : n = m1.length := by simp only [List.length_cons, List.length_nil] at hl; omega
        subst ei
        rw [List.getElem?_append_right (Nat.le_refl _), Nat.sub_self] at e
        cases e; exact np rfl
    · rw [← S1.h.len, List.getElem?_append_right (Nat.le_refl _), Nat.sub_self]; rfl
/-! ### statements -/
variable {B : EA} {t1 t2 : TS}
theorem ws_seq (h : WS c t1 A { B with nx := fun A1 => WS c t2 A1 B }) : WS c (tSeq t1 t2) A B := fun F G m σ H S E Dc k =>
  h F G m σ H S E _ ⟨fun F1 m1 A1 σ1 H1 e1 p1 S1 q => q F1 G m1 σ1 H1 S1 (E.mono e1 p1) Dc (k.mono e1 p1), k.rt, k.bk, k.ct⟩
theorem ws_next (q : B.nx A) : WS c tNext A B := fun F G m σ H S E Dc k => k.nx F m A σ H (Evl.Ex.refl F) (Pre.refl m) S q
theorem ws_break (q : B.bk A) : WS c tBreak A B := fun F G m σ H S E Dc k => k.bk F m A σ H (Evl.Ex.refl F) (Pre.refl m) S q
theorem ws_cont (q : B.ct A) : WS c tCont A B := fun F G m σ H S E Dc k => k.ct F m A σ H (Evl.Ex.refl F) (Pre.refl m) S q
theorem ws_drop (h : WE c te A fun A1 _ => B.nx A1) : WS c (tDrop te) A B := fun F G m σ H S E Dc k => h F G m σ H S E _ fun F1 m1 A1 v H1 r e1 p1 S1 R1 q => k.nx F1 m1 A1 σ H1 e1 p1 S1 q
theorem ws_ret (h : WE c te A fun A1 r => Frz A1 r fun A2 d => B.rt A2.o d) : WS c (tRet te) A B := fun F G m σ H S E Dc k => (WE.frz h) F G m σ H S E _ fun F1 m1 A1 v H1 r e1 p1 S1 R1 ⟨d, ex, q⟩ => by
  subst ex; exact k.rt F1 m1 A1.o v d H1 e1 p1 S1.h R1 q
theorem ws_retN (q : B.rt A.o .non) : WS c tRetN A B := fun F G m σ H S E Dc k => k.rt F m A.o .non .non H (Evl.Ex.refl F) (Pre.refl m) S.h .non q
theorem ws_if (h : WT c t A fun A1 b => (b = true → WS c t1 A1 B) ∧ (b = false → WS c t2 A1 B)) : WS c (tIfS t t1 t2) A B := fun F G m σ H S E Dc k =>
  h F G m σ H S E _ fun F1 m1 A1 b H1 e1 p1 S1 q => by
    cases b with
    | true => exact q.1 rfl F1 G m1 σ H1 S1 (E.mono e1 p1) Dc (k.mono e1 p1)
    | false => exact q.2 rfl F1 G m1 σ H1 S1 (E.mono e1 p1) Dc (k.mono e1 p1)
theorem Sim.setV {K : PySem.W.Frag} {F G : Hp} {m : List Addr} {A : AS} {σ : St} {H : Hp} (S : Sim K F G m A σ H) {i : Nat} {v : V} {d : D} (r : Rep K F m v d) : Sim K F G m (A.setS i (.val d)) (σ.set i (some v)) H := ⟨S.h, S.s.setV r⟩
theorem ws_asg {i : Nat} (h : WE c te A fun A1 r => Frz A1 r fun A2 d => B.nx (A2.setS i (.val d))) : WS c (tAsg te (gName i)) A B := fun F G m σ H S E Dc k => (WE.frz h) F G m σ H S E _ fun F1 m1 A1 v H1 r e1 p1 S1 R1 ⟨d, ex, q⟩ => by
  subst ex; exact k.nx F1 m1 _ _ H1 e1 p1 (S1.setV R1) q
/-- a new list that the name alone has -/
theorem ws_asgO {i : Nat} (h : WN c te A fun A1 ds => B.nx (A1.setS i (.own (.lst ds)))) : WS c (tAsg te (gName i)) A B := fun F G m σ H S E Dc k => h F G m σ H S E _ fun F1 m1 A1 p vs H1 ds e1 p1 S1 f g mm no hv R q =>
  k.nx F1 m1 (A1.setS i (.own (.lst ds))) (σ.set i (some (.ref p))) H1 e1 p1 ⟨S1.h, S1.s.setO ⟨p, rfl, trivial, f, g, mm, vs, hv, R⟩ fun j c' z1 z2 => no ⟨j, c', z1, z2⟩⟩ q
theorem wg_name {i : Nat} {d : D} {Q : AS → Prop} (q : Q (A.setS i (.val d))) : WG c (gName i) d A Q := fun F G m σ H v S R E Qc k => k F m _ _ H (Evl.Ex.refl F) (Pre.refl m) (S.setV R) q
def WGs (c : Ct) (g : TGs) (ds : List D) (A : AS) (Q : AS → Prop) : Prop := ∀ F G m σ H vs, Sim c.K F G m A σ H → Reps c.K F m vs ds → EOk c F G m → ∀ Qc : St → Hp → Prop,
  (∀ F' m' A' σ' H', Ex F F' → Pre m m' → Sim c.K F' G m' A' σ' H' → Q A' → Qc σ' H') → g vs σ H Qc
theorem wgs_nil {Q : AS → Prop} (q : Q A) : WGs c gNil [] A Q := fun F G m σ H vs S R E Qc k => by
  cases R; exact ⟨rfl, k F m A σ H (Evl.Ex.refl F) (Pre.refl m) S q⟩
theorem wgs_cons {g : TG} {gs : TGs} {d : D} {ds : List D} {Q : AS → Prop} (h : WG c g d A fun A1 => WGs c gs ds A1 Q) : WGs c (gCons g gs) (d :: ds) A Q := fun F G m σ H vs S R E Qc k => by
  cases R with
  | cons a r => exact ⟨_, _, rfl, h F G m σ H _ S a E _ fun F1 m1 A1 σ1 H1 e1 p1 S1 q => q F1 G m1 σ1 H1 _ S1 (r.mono e1 p1) (E.mono e1 p1) Qc fun F2 m2 A2 σ2 H2 e2 p2 S2 q2 => k F2 m2 A2 σ2 H2 (e1.trans e2) (p1.trans p2) S2 q2⟩
theorem wg_tup {n : Nat} {gs : TGs} {ds : List D} {Q : AS → Prop} (hn : ds.length = n) (h : WGs c gs ds A Q) : WG c (gTup c.K n gs) (.tup ds) A Q := fun F G m σ H v S R E Qc k => by
  cases R with
  | tup hs r => exact ⟨_, _, rfl, Evl.ex_t S.h.exF hs.seq, by rw [r.len]; exact hn, h F G m σ H _ S r E Qc k⟩
theorem wg_sct {n : Nat} {gs : TGs} {ds : List D} {Q : AS → Prop} (hn : ds.length = n) (h : WGs c gs ds A Q) : WG c (gTup c.K n gs) (.sct ds) A Q := fun F G m σ H v S R E Qc k => by
  cases R with
  | sct hs r => exact ⟨_, _, rfl, Evl.ex_t S.h.exF hs, by rw [r.len]; exact hn, h F G m σ H _ S r E Qc k⟩
theorem ws_asgG {g : TG} (h : WE c te A fun A1 r => Frz A1 r fun A2 d => WG c g d A2 B.nx) : WS c (tAsg te g) A B := fun F G m σ H S E Dc k => (WE.frz h) F G m σ H S E _ fun F1 m1 A1 v H1 r e1 p1 S1 R1 ⟨d, ex, q⟩ => by
  subst ex; exact q F1 G m1 σ H1 v S1 R1 (E.mono e1 p1) _ fun F2 m2 A2 σ2 H2 e2 p2 S2 q2 => k.nx F2 m2 A2 σ2 H2 (e1.trans e2) (p1.trans p2) S2 q2
/-! ### loops -/
theorem ws_for {wi : TI} {g : TG} {tb : TS} (I : List D → Nat → AS → Prop) (h : WI c wi A fun A1 ds => I ds 0 A1 ∧ (∀ i d A2, ds[i]? = some d → I ds i A2 → WG c g d A2 fun A3 => WS c tb A3 { nx := I ds (i + 1), ct := I ds (i + 1), bk := B.nx, rt := B.rt }) ∧ ∀ A2, I ds ds.length A2 → B.nx A2) :
    WS c (tFor wi g tb) A B := fun F G m σ H S E Dc k => h F G m σ H S E _ fun F1 m1 A1 J H1 ds e1 p1 S1 RJ ⟨h0, hs, hd⟩ => by
  refine ⟨fun i n σ2 H2 => n = ds.length - i ∧ i ≤ ds.length ∧ ∃ F2 m2 A2, Ex F1 F2 ∧ Pre m1 m2 ∧ Sim c.K F2 G m2 A2 σ2 H2 ∧ I ds i A2, ⟨_, rfl, Nat.zero_le _, F1, m1, A1, Evl.Ex.refl _, Pre.refl _, S1, h0⟩, fun i n σ2 H2 hw => ?_⟩
  obtain ⟨rfl, hi, F2, m2, A2, e2, p2, S2, q2⟩ := hw
  obtain ⟨r1, r2⟩ := RJ F2 G m2 A2 σ2 H2 e2 p2 S2 i
  by_cases hl : i < ds.length
  · obtain ⟨g1, g2⟩ := r1 _ (List.getElem?_eq_getElem hl)
    refine .inr ⟨g1, fun σ3 H3 => ∃ F3 m3 A3, Ex F1 F3 ∧ Pre m1 m3 ∧ Sim c.K F3 G m3 A3 σ3 H3 ∧ I ds (i + 1) A3, fun σ3 H3 hN => ?_, fun x H3 hy => ?_⟩
    · exact ⟨ds.length - (i + 1), by omega, rfl, hl, hN⟩
    · obtain ⟨F3, e3, S3, R3⟩ := g2 x H3 hy
      refine hs i _ A2 (List.getElem?_eq_getElem hl) q2 F3 G m2 σ2 H3 x S3 R3 (E.mono ((e1.trans e2).trans e3) (p1.trans p2)) _ fun F4 m4 A4 σ4 H4 e4 p4 S4 q4 => ?_
      have f1 := e2.trans (e3.trans e4)
      have f2 := p2.trans p4
      refine q4 F4 G m4 σ4 H4 S4 (E.mono (e1.trans f1) (p1.trans f2)) _ ⟨fun F5 m5 A5 σ5 H5 e5 p5 S5 q5 => ⟨F5, m5, A5, f1.trans e5, f2.trans p5, S5, q5⟩, (k.mono (e1.trans f1) (p1.trans f2)).rt, fun F5 m5 A5 σ5 H5 e5 p5 S5 q5 => k.nx F5 m5 A5 σ5 H5 ((e1.trans f1).trans e5) ((p1.trans f2).trans p5) S5 q5, fun F5 m5 A5 σ5 H5 e5 p5 S5 q5 => ⟨F5, m5, A5, f1.trans e5, f2.trans p5, S5, q5⟩⟩
  · have : i = ds.length := by omega
    subst this
    exact .inl ⟨r2 (Nat.le_refl _), k.nx F2 m2 A2 σ2 H2 (e1.trans e2) (p1.trans p2) S2 (hd A2 q2)⟩
theorem ws_while {tc : TT} {tb : TS} (I : Nat → AS → Prop) (n0 : Nat) (h0 : I n0 A) (hs : ∀ n A1, I n A1 → WT c tc A1 fun A2 b => (b = true → WS c tb A2 { nx := fun A3 => ∃ n', n' < n ∧ I n' A3, ct := fun A3 => ∃ n', n' < n ∧ I n' A3, bk := B.nx, rt := B.rt }) ∧ (b = false → B.nx A2)) :
    WS c (tWhile tc tb) A B := fun F G m σ H S E Dc k => by
  refine ⟨fun n σ2 H2 => ∃ F2 m2 A2, Ex F F2 ∧ Pre m m2 ∧ Sim c.K F2 G m2 A2 σ2 H2 ∧ I n A2, ⟨n0, F, m, A, Evl.Ex.refl _, Pre.refl _, S, h0⟩, fun n σ2 H2 hw => ?_⟩
  obtain ⟨F2, m2, A2, e2, p2, S2, q2⟩ := hw
  refine hs n A2 q2 F2 G m2 σ2 H2 S2 (E.mono e2 p2) _ fun F3 m3 A3 b H3 e3 p3 S3 q3 => ?_
  cases b with
  | true =>
    have f1 := e2.trans e3
    have f2 := p2.trans p3
    refine ⟨fun σ4 H4 => ∃ F4 m4 A4, Ex F F4 ∧ Pre m m4 ∧ Sim c.K F4 G m4 A4 σ4 H4 ∧ ∃ n', n' < n ∧ I n' A4, fun σ4 H4 ⟨F4, m4, A4, x1, x2, x3, n', x4, x5⟩ => ⟨n', x4, F4, m4, A4, x1, x2, x3, x5⟩, ?_⟩
    exact q3.1 rfl F3 G m3 σ2 H3 S3 (E.mono f1 f2) _ ⟨fun F5 m5 A5 σ5 H5 e5 p5 S5 q5 => ⟨F5, m5, A5, f1.trans e5, f2.trans p5, S5, q5⟩, (k.mono f1 f2).rt, fun F5 m5 A5 σ5 H5 e5 p5 S5 q5 => k.nx F5 m5 A5 σ5 H5 (f1.trans e5) (f2.trans p5) S5 q5, fun F5 m5 A5 σ5 H5 e5 p5 S5 q5 => ⟨F5, m5, A5, f1.trans e5, f2.trans p5, S5, q5⟩⟩
  | false => exact k.nx F3 m3 A3 σ2 H3 (e2.trans e3) (p2.trans p3) S3 (q3.2 rfl)
end
end AL

namespace AL
open PySem L2
/-! ### contents -/
def lsOf (A : AS) : RV → Option (List D)
  | .val (.lst ds) => some ds
  | .val (.scr ds) => some ds
  | .val (.ptr n) => match A.o[n]? with
    | some (.lst ds) => some ds
    | _ => none
  | .slot i => match A.s[i]? with
    | some (some (.own (.lst ds))) => some ds
    | _ => none
  | _ => none
def tpOf : RV → Option (List D)
  | .val (.tup ds) => some ds
  | .val (.sct ds) => some ds
  | _ => none
section
variable {K : PySem.W.Frag} {F G : Hp} {m : List Addr} {A : AS} {σ : St} {H : Hp} {v : V} {r : RV} {ds : List D}
theorem rep_ls (S : Sim K F G m A σ H) (R : RepR K F m A σ v r) (h : lsOf A r = some ds) : ∃ a vs, v = .ref a ∧ SqL K H a vs ∧ Reps K F m vs ds := by
  cases r with
  | val d =>
    cases d with
    | lst es => cases h; cases R with | lst e q => exact ⟨_, _, rfl, .inl (.inl (S.h.exF _ _ e)), q⟩
    | scr es => cases h; cases R with | scr e q => exact ⟨_, _, rfl, Evl.ex_l S.h.exF e, q⟩
    | ptr n =>
      cases R with
      | ptr e =>
        simp only [lsOf] at h
        split at h
        · rename_i es eo
          cases h
          obtain ⟨_, _, vs, hv, rv⟩ := S.h.cell n _ _ e eo trivial
          exact ⟨_, vs, rfl, .inl (.inl hv), rv⟩
        · cases h
    | _ => simp [lsOf] at h
  | slot i =>
    obtain ⟨e1, x, e2⟩ := R
    simp only [lsOf, e2] at h
    cases x with
    | lst es =>
      cases h
      obtain ⟨a, q, _, _, _, _, vs, hv, rv⟩ := S.s.ownAt e2
      rw [e1] at q; cases q
      exact ⟨a, vs, rfl, .inl (.inl hv), rv⟩
    | _ => simp at h
theorem rep_tp (S : Sim K F G m A σ H) (R : RepR K F m A σ v r) (h : tpOf r = some ds) : ∃ a vs, v = .ref a ∧ SqT K H a vs ∧ Reps K F m vs ds := by
  cases r with
  | val d =>
    cases d with
    | tup es => cases h; cases R with | tup e q => exact ⟨_, _, rfl, Evl.ex_t S.h.exF e.seq, q⟩
    | sct es => cases h; cases R with | sct e q => exact ⟨_, _, rfl, Evl.ex_t S.h.exF e, q⟩
    | _ => simp [tpOf] at h
  | slot i => simp [tpOf] at h
/-- a list that is no script: it stands exactly -/
def lxOf (A : AS) : RV → Option (List D)
  | .val (.scr _) => none
  | r => lsOf A r
theorem rep_lx (S : Sim K F G m A σ H) (R : RepR K F m A σ v r) (h : lxOf A r = some ds) : ∃ a vs, v = .ref a ∧ H a = some (.lst vs) ∧ Reps K F m vs ds := by
  cases r with
  | val d =>
    cases d with
    | lst es => cases h; cases R with | lst e q => exact ⟨_, _, rfl, S.h.exF _ _ e, q⟩
    | ptr n =>
      cases R with
      | ptr e =>
        simp only [lxOf, lsOf] at h
        split at h
        · rename_i es eo
          cases h
          obtain ⟨_, _, vs, hv, rv⟩ := S.h.cell n _ _ e eo trivial
          exact ⟨_, vs, rfl, hv, rv⟩
        · cases h
    | _ => simp [lxOf, lsOf] at h
  | slot i =>
    obtain ⟨e1, x, e2⟩ := R
    simp only [lxOf, lsOf, e2] at h
    cases x with
    | lst es =>
      cases h
      obtain ⟨a, q, _, _, _, _, vs, hv, rv⟩ := S.s.ownAt e2
      rw [e1] at q; cases q
      exact ⟨a, vs, rfl, hv, rv⟩
    | _ => simp at h
end
section
variable {c : Ct} {A : AS} {te ta tb : TE} {t u tt : TT} {x y : RV} {Q : QE}
/-! ### operators of ints -/
theorem od_I {C : Int → Int → Prop} {g : Int → Int → V} {i j n : Int} (hC : C i j) (hg : g i j = .int n) (q : Q A (.val (.int n))) : OpD c (rI C g) (.val (.int i)) (.val (.int j)) A Q := fun F G m σ H v w S E R1 R2 Qc k => by
  cases R1; cases R2
  exact ⟨i, j, rfl, rfl, hC, by rw [hg]; exact k F m A _ H (.val (.int n)) (Evl.Ex.refl F) (Pre.refl m) S (Rep.int n) q⟩
theorem od_I0 {g : Int → Int → V} {i j n : Int} (hg : g i j = .int n) (q : Q A (.val (.int n))) : OpD c (rI0 g) (.val (.int i)) (.val (.int j)) A Q := fun F G m σ H v w S E R1 R2 Qc k => by
  cases R1; cases R2
  exact ⟨i, j, rfl, rfl, by rw [hg]; exact k F m A _ H (.val (.int n)) (Evl.Ex.refl F) (Pre.refl m) S (Rep.int n) q⟩
theorem od_B0 {g : Int → Int → V} {i j : Int} {b : Bool} (hg : g i j = .bl b) (q : Q A (.val (.bl b))) : OpD c (rI0 g) (.val (.int i)) (.val (.int j)) A Q := fun F G m σ H v w S E R1 R2 Qc k => by
  cases R1; cases R2
  exact ⟨i, j, rfl, rfl, by rw [hg]; exact k F m A _ H (.val (.bl b)) (Evl.Ex.refl F) (Pre.refl m) S (Rep.bl b) q⟩
theorem od_l {r s : R2} (h : OpD c r x y A Q) : OpD c (orR r s) x y A Q := fun F G m σ H v w S E R1 R2 Qc k => .inl (h F G m σ H v w S E R1 R2 Qc k)
theorem od_r {r s : R2} (h : OpD c s x y A Q) : OpD c (orR r s) x y A Q := fun F G m σ H v w S E R1 R2 Qc k => .inr (h F G m σ H v w S E R1 R2 Qc k)
def rAddS : R2 := fun x y H Q => ∃ i j, x = .str i ∧ y = .str j ∧ i.length + j.length ≤ sizeLine ∧ Q (.str (i ++ j)) H
def rAddA (K : PySem.W.Frag) : R2 := orR (rI0 fun i j => .int (i + j)) (orR rCat (orR (rCatP K) rAddS))
def rSubA : R2 := rI0 fun i j => .int (i - j)
def rMulA : R2 := orR (rI CMul fun i j => .int (i * j)) (orR (rI CMulW fun i j => .int (i * j)) rRep)
def rDivA : R2 := orR (rI CDivN fun i j => .int (i.fdiv j)) (rI CDivW fun i j => .int (i / j))
def rModA : R2 := rI (fun _ j => j ≠ 0) fun i j => .int (i.fmod j)
def rPowA : R2 := rI CPow fun i j => .int (i ^ j.toNat)
def rLtA : R2 := rI0 fun i j => .bl (decide (i < j))
def rLeA : R2 := rI0 fun i j => .bl (decide (i ≤ j))
def rGtA : R2 := rI0 fun i j => .bl (decide (j < i))
def rGeA : R2 := rI0 fun i j => .bl (decide (j ≤ i))
def rEqA (K : PySem.W.Frag) : R2 := orR rEq (rEqD K)
def rNeA (K : PySem.W.Frag) : R2 := orR rNe (rNeD K)
def rIsA : R2 := fun x y H Q => y = .non ∧ Q (.bl (decide (x = .non))) H
def rNotA : R2 := fun x y H Q => y = .non ∧ Q (.bl (!decide (x = .non))) H
def rInA (K : PySem.W.Frag) : R2 := rIn K false
def rNinA (K : PySem.W.Frag) : R2 := rIn K true
section
variable {X : Cx}
theorem op_addA : OpR X (binaryOp .Add) (rAddA X.K) := op_or op_add (op_or op_cat (op_or op_catP op_add_str))
theorem op_subA : OpR X (binaryOp .Sub) rSubA := op_sub
theorem op_mulA : OpR X (binaryOp .Mult) rMulA := op_or op_mul (op_or op_mulW op_rep)
theorem op_divA : OpR X (binaryOp .FloorDiv) rDivA := op_or op_fdivN op_fdivW
theorem op_modA : OpR X (binaryOp .Mod) rModA := op_modN
theorem op_powA : OpR X (binaryOp .Pow) rPowA := op_pow
theorem op_ltA : OpR X (compareOp .Lt) rLtA := op_lt
theorem op_leA : OpR X (compareOp .LtE) rLeA := op_le
theorem op_gtA : OpR X (compareOp .Gt) rGtA := op_gt
theorem op_geA : OpR X (compareOp .GtE) rGeA := op_ge
theorem op_eqA (hu : X.A.units + 64 < cLine) : OpR X (compareOp .Eq) (rEqA X.K) := op_or op_eq (op_eqD hu)
theorem op_neA (hu : X.A.units + 64 < cLine) : OpR X (compareOp .NotEq) (rNeA X.K) := op_or op_ne (op_neD hu)
theorem op_isA : OpR X (compareOp .Is) rIsA := op_isN
theorem op_notA : OpR X (compareOp .IsNot) rNotA := op_notN
theorem op_inA : OpR X (compareOp .In) (rInA X.K) := op_in_seq
theorem op_ninA : OpR X (compareOp .NotIn) (rNinA X.K) := op_notIn_seq
end
theorem od_add {i j : Int} (q : Q A (.val (.int (i + j)))) : OpD c (rAddA c.K) (.val (.int i)) (.val (.int j)) A Q := od_l (od_I0 rfl q)
theorem od_sub {i j : Int} (q : Q A (.val (.int (i - j)))) : OpD c rSubA (.val (.int i)) (.val (.int j)) A Q := od_I0 rfl q
/-- one of the factors is below 2 ^ 64 -/
theorem od_mul {i j : Int} (h : CMul i j ∨ CMulW i j) (q : Q A (.val (.int (i * j)))) : OpD c rMulA (.val (.int i)) (.val (.int j)) A Q := h.elim (fun h => od_l (od_I h rfl q)) fun h => od_r (od_l (od_I h rfl q))
theorem od_div {i j : Int} (h : 0 < j ∧ (j < 1073741824 ∨ j.natAbs.log2 < 9000)) (q : Q A (.val (.int (i / j)))) : OpD c rDivA (.val (.int i)) (.val (.int j)) A Q := by
  rcases h with ⟨h0, h1 | h1⟩
  · exact od_l (od_I (C := CDivN) ⟨by omega, by omega⟩ (show V.int (i.fdiv j) = _ by rw [Int.fdiv_eq_ediv_of_nonneg _ (by omega)]) q)
  · exact od_r (od_I (C := CDivW) ⟨h0, h1⟩ rfl q)
theorem od_mod {i j : Int} (h : 0 < j) (q : Q A (.val (.int (i % j)))) : OpD c rModA (.val (.int i)) (.val (.int j)) A Q := od_I (by omega) (show V.int (i.fmod j) = _ by rw [Int.fmod_eq_emod_of_nonneg _ (by omega)]) q
theorem od_pow {i j : Int} (h : CPow i j) (q : Q A (.val (.int (i ^ j.toNat)))) : OpD c rPowA (.val (.int i)) (.val (.int j)) A Q := od_I h rfl q
theorem od_lt {i j : Int} (q : Q A (.val (.bl (decide (i < j))))) : OpD c rLtA (.val (.int i)) (.val (.int j)) A Q := od_B0 rfl q
theorem od_le {i j : Int} (q : Q A (.val (.bl (decide (i ≤ j))))) : OpD c rLeA (.val (.int i)) (.val (.int j)) A Q := od_B0 rfl q
theorem od_gt {i j : Int} (q : Q A (.val (.bl (decide (j < i))))) : OpD c rGtA (.val (.int i)) (.val (.int j)) A Q := od_B0 rfl q
theorem od_ge {i j : Int} (q : Q A (.val (.bl (decide (j ≤ i))))) : OpD c rGeA (.val (.int i)) (.val (.int j)) A Q := od_B0 rfl q
/-! ### == -/
/-- scalars, beside one another -/
def scD : D → D → Option Bool
  | .non, .non => some true
  | .int i, .int j => some (decide (i = j))
  | .bl a, .bl b => some (decide (a = b))
  | .str a, .str b => some (decide (a = b))
  | .non, .int _ => some false
  | .int _, .non => some false
  | .non, .bl _ => some false
  | .bl _, .non => some false
  | .non, .str _ => some false
  | .str _, .non => some false
  | .int _, .str _ => some false
  | .str _, .int _ => some false
  | .bl _, .str _ => some false
  | .str _, .bl _ => some false
  | _, _ => none
theorem scD_ok {K : PySem.W.Frag} {F : Hp} {m : List Addr} {v w : V} {d e : D} {b : Bool} (R1 : Rep K F m v d) (R2 : Rep K F m w e) (h : scD d e = some b) : scal v w = true ∧ decide (v = w) = b := by
  cases R1 <;> cases R2 <;> simp only [scD, Option.some.injEq, reduceCtorEq] at h <;> subst h <;> first
    | exact ⟨rfl, by simp⟩
    | exact ⟨rfl, rfl⟩
theorem od_eqS {d e : D} {b : Bool} (h : scD d e = some b) (q : Q A (.val (.bl b))) : OpD c (rEqA c.K) (.val d) (.val e) A Q := fun F G m σ H v w S E R1 R2 Qc k => by
  obtain ⟨h1, h2⟩ := scD_ok R1 R2 h
  exact .inl ⟨h1, by rw [h2]; exact k F m A _ H (.val (.bl b)) (Evl.Ex.refl F) (Pre.refl m) S (Rep.bl b) q⟩
theorem od_neS {d e : D} {b : Bool} (h : scD d e = some b) (q : Q A (.val (.bl (!b)))) : OpD c (rNeA c.K) (.val d) (.val e) A Q := fun F G m σ H v w S E R1 R2 Qc k => by
  obtain ⟨h1, h2⟩ := scD_ok R1 R2 h
  exact .inl ⟨h1, by rw [h2]; exact k F m A _ H (.val (.bl (!b))) (Evl.Ex.refl F) (Pre.refl m) S (Rep.bl (!b)) q⟩
mutual
inductive Py : D → PyData → Prop where
  | non : Py .non .none
  | bl (b : Bool) : Py (.bl b) (.bool b)
  | int (i : Int) : Py (.int i) (.int i)
  | str (x : Str) : Py (.str x) (.str x)
  | lst {ds : List D} {ps : List PyData} : Pys ds ps → Py (.lst ds) (.list ps)
  | scr {ds : List D} {ps : List PyData} : Pys ds ps → Py (.scr ds) (.list ps)
  | tup {ds : List D} {ps : List PyData} : Pys ds ps → Py (.tup ds) (.tuple ps)
  | sct {ds : List D} {ps : List PyData} : Pys ds ps → Py (.sct ds) (.tuple ps)
inductive Pys : List D → List PyData → Prop where
  | nil : Pys [] []
  | cons {d : D} {p : PyData} {ds : List D} {ps : List PyData} : Py d p → Pys ds ps → Pys (d :: ds) (p :: ps)
end
section
variable {K : PySem.W.Frag} {F H : Hp} {m : List Addr}
mutual
theorem Py.dp (e : Ex F H) : ∀ {d : D} {p : PyData} {v : V}, Py d p → Rep K F m v d → Dp K H v p
  | _, _, _, .non, .non => .non
  | _, _, _, .bl b, .bl _ => .bl b
  | _, _, _, .int i, .int _ => .int i
  | _, _, _, .str x, .str _ => .str x
  | _, _, _, .lst h, .lst a r => .lst (.inl (.inl (e _ _ a))) (Pys.dp e h r)
  | _, _, _, .scr h, .scr a r => .lst (Evl.ex_l e a) (Pys.dp e h r)
  | _, _, _, .tup h, .tup a r => .tup (Evl.ex_t e a.seq) (Pys.dp e h r)
  | _, _, _, .sct h, .sct a r => .tup (Evl.ex_t e a) (Pys.dp e h r)
theorem Pys.dp (e : Ex F H) : ∀ {d : List D} {p : List PyData} {v : List V}, Pys d p → Reps K F m v d → DpAll K H v p
  | _, _, _, .nil, .nil => .nil
  | _, _, _, .cons h t, .cons a r => .cons (Py.dp e h a) (Pys.dp e t r)
end
end
theorem pys_ints : ∀ ns : List Int, Pys (ns.map .int) (ns.map .int)
  | [] => .nil
  | n :: ns => .cons (.int n) (pys_ints ns)
theorem pys_map {α : Type} {f : α → D} {g : α → PyData} (h : ∀ a, Py (f a) (g a)) : ∀ xs : List α, Pys (xs.map f) (xs.map g)
  | [] => .nil
  | x :: xs => .cons (h x) (pys_map h xs)
/-- a value, or an own list, that is pure data -/
def PyR (A : AS) (r : RV) (p : PyData) : Prop := match r with
  | .val (.ptr n) => ∃ ds ps, A.o[n]? = some (.lst ds) ∧ Pys ds ps ∧ p = .list ps
  | .val d => Py d p
  | .slot i => ∃ ds ps, A.s[i]? = some (some (.own (.lst ds))) ∧ Pys ds ps ∧ p = .list ps
theorem PyR.dp {K : PySem.W.Frag} {F G H : Hp} {m : List Addr} {σ : St} {v : V} {r : RV} {p : PyData} (S : Sim K F G m A σ H) (R : RepR K F m A σ v r) (h : PyR A r p) : Dp K H v p := by
  cases r with
  | slot i =>
    obtain ⟨ds, ps, e, hp, rfl⟩ := h
    obtain ⟨e1, x, e2⟩ := R
    obtain ⟨a, q, _, _, _, _, vs, hv, rv⟩ := S.s.ownAt e
    rw [e1] at q; cases q
    exact .lst (.inl (.inl hv)) (hp.dp S.h.exF rv)
  | val d =>
    cases d with
    | ptr n =>
      obtain ⟨ds, ps, e, hp, rfl⟩ := h
      cases R with
      | ptr e1 =>
        obtain ⟨_, _, vs, hv, rv⟩ := S.h.cell n _ _ e1 e trivial
        exact .lst (.inl (.inl hv)) (hp.dp S.h.exF rv)
    | _ => exact Py.dp S.h.exF h R
theorem od_eqD {p q : PyData} {b : Bool} (hx : PyR A x p) (hy : PyR A y q) (s1 : SeqAt.shaped p = true) (s2 : SeqAt.shaped q = true) (hb : PyData.eqv p q = b) (k : Q A (.val (.bl b))) : OpD c (rEqA c.K) x y A Q := fun F G m σ H v w S E R1 R2 Qc kc =>
  .inr ⟨p, q, hx.dp S R1, hy.dp S R2, s1, s2, by rw [hb]; exact kc F m A _ H (.val (.bl b)) (Evl.Ex.refl F) (Pre.refl m) S (Rep.bl b) k⟩
theorem od_neD {p q : PyData} {b : Bool} (hx : PyR A x p) (hy : PyR A y q) (s1 : SeqAt.shaped p = true) (s2 : SeqAt.shaped q = true) (hb : PyData.eqv p q = b) (k : Q A (.val (.bl (!b)))) : OpD c (rNeA c.K) x y A Q := fun F G m σ H v w S E R1 R2 Qc kc =>
  .inr ⟨p, q, hx.dp S R1, hy.dp S R2, s1, s2, by rw [hb]; exact kc F m A _ H (.val (.bl (!b))) (Evl.Ex.refl F) (Pre.refl m) S (Rep.bl (!b)) k⟩
/-! ### is None -/
def isNon : RV → Bool
  | .val .non => true
  | _ => false
theorem isNon_ok {K : PySem.W.Frag} {F : Hp} {m : List Addr} {σ : St} {v : V} {H G : Hp} (S : Sim K F G m A σ H) (R : RepR K F m A σ v x) : decide (v = .non) = isNon x := by
  cases x with
  | val d => cases R <;> rfl
  | slot i =>
    obtain ⟨e1, z, e2⟩ := R
    obtain ⟨a, q, _⟩ := S.s.ownAt e2
    rw [e1] at q; cases q; rfl
theorem od_is {b : Bool} (hb : isNon x = b) (q : Q A (.val (.bl b))) : OpD c rIsA x (.val .non) A Q := fun F G m σ H v w S E R1 R2 Qc k => by
  cases R2; exact ⟨rfl, by rw [isNon_ok S R1, hb]; exact k F m A _ H (.val (.bl b)) (Evl.Ex.refl F) (Pre.refl m) S (Rep.bl b) q⟩
theorem od_not {b : Bool} (hb : isNon x = b) (q : Q A (.val (.bl (!b)))) : OpD c rNotA x (.val .non) A Q := fun F G m σ H v w S E R1 R2 Qc k => by
  cases R2; exact ⟨rfl, by rw [isNon_ok S R1, hb]; exact k F m A _ H (.val (.bl (!b))) (Evl.Ex.refl F) (Pre.refl m) S (Rep.bl (!b)) q⟩
theorem ud_neg {i : Int} (q : Q A (.val (.int (-i)))) : UnD c (rU fun i => .int (-i)) (.val (.int i)) A Q := fun F G m σ H v S E R1 Qc k => by
  cases R1; exact ⟨i, rfl, k F m A _ H (.val (.int (-i))) (Evl.Ex.refl F) (Pre.refl m) S (Rep.int _) q⟩
/-! ### places -/
theorem atI_reps {K : PySem.W.Frag} {F : Hp} {m : List Addr} {vs : List V} {ds : List D} {i : Int} {d : D} (r : Reps K F m vs ds) (h : atI ds i = some d) : ∃ v, atI vs i = some v ∧ Rep K F m v d := by
  unfold atI at h ⊢
  rw [r.len]
  cases e : ixN ds.length i with
  | none => rw [e] at h; cases h
  | some j => rw [e] at h; exact r.get h
theorem od_ixL {ds : List D} {i : Int} {d : D} (hx : lsOf A x = some ds) (hd : atI ds i = some d) (q : Q A (.val d)) : OpD c (rIx c.K) x (.val (.int i)) A Q := fun F G m σ H v w S E R1 R2 Qc k => by
  obtain ⟨a, vs, rfl, hs, r⟩ := rep_ls S R1 hx
  cases R2
  obtain ⟨v, e, rv⟩ := atI_reps r hd
  exact .inl ⟨a, vs, i, v, rfl, rfl, hs, e, k F m A _ H (.val d) (Evl.Ex.refl F) (Pre.refl m) S rv q⟩
theorem od_ixT {ds : List D} {i : Int} {d : D} (hx : tpOf x = some ds) (hd : atI ds i = some d) (q : Q A (.val d)) : OpD c (rIx c.K) x (.val (.int i)) A Q := fun F G m σ H v w S E R1 R2 Qc k => by
  obtain ⟨a, vs, rfl, hs, r⟩ := rep_tp S R1 hx
  cases R2
  obtain ⟨v, e, rv⟩ := atI_reps r hd
  exact .inr (.inl ⟨a, vs, i, v, rfl, rfl, hs, e, k F m A _ H (.val d) (Evl.Ex.refl F) (Pre.refl m) S rv q⟩)
/-! ### builtins -/
inductive RepRs (K : PySem.W.Frag) (F : Hp) (m : List Addr) (A : AS) (σ : St) : List V → List RV → Prop where
  | nil : RepRs K F m A σ [] []
  | cons {v : V} {r : RV} {vs : List V} {rs : List RV} : RepR K F m A σ v r → RepRs K F m A σ vs rs → RepRs K F m A σ (v :: vs) (r :: rs)
def WAr (c : Ct) (t : TA) (A : AS) (Q : AS → List RV → Prop) : Prop := ∀ F G m σ H, Sim c.K F G m A σ H → EOk c F G m → ∀ Qc : List V → Hp → Prop,
  (∀ F' m' A' vs H' rs, Ex F F' → Pre m m' → Sim c.K F' G m' A' σ H' → RepRs c.K F' m' A' σ vs rs → Q A' rs → Qc vs H') → t σ H Qc
theorem war_nil {Q : AS → List RV → Prop} (q : Q A []) : WAr c tNil A Q := fun F G m σ H S E Qc k => k F m A [] H [] (Evl.Ex.refl F) (Pre.refl m) S .nil q
theorem war_cons {tr : TA} {Q : AS → List RV → Prop} (h : WE c ta A fun A1 r => WAr c tr A1 fun A2 rs => Stays A1 A2 r ∧ Q A2 (r :: rs)) : WAr c (tCons ta tr) A Q := fun F G m σ H S E Qc k =>
  h F G m σ H S E _ fun F1 m1 A1 v H1 x e1 p1 S1 R1 q => q F1 G m1 σ H1 S1 (E.mono e1 p1) _ fun F2 m2 A2 vs H2 rs e2 p2 S2 R2 q2 => k F2 m2 A2 _ H2 _ (e1.trans e2) (p1.trans p2) S2 (.cons (R1.stay e2 p2 q2.1) R2) q2.2
def CbD (c : Ct) (r : List V → Hp → VK → Prop) (rs : List RV) (A : AS) (Q : QE) : Prop := ∀ F G m σ H vs, Sim c.K F G m A σ H → EOk c F G m → RepRs c.K F m A σ vs rs → ∀ Qc : VK,
  (∀ F' m' A' v H' r, Ex F F' → Pre m m' → Sim c.K F' G m' A' σ H' → RepR c.K F' m' A' σ v r → Q A' r → Qc v H') → r vs H Qc
theorem we_cb {r : List V → Hp → VK → Prop} {ta : TA} (h : WAr c ta A fun A1 rs => CbD c r rs A1 Q) : WE c (tCB r ta) A Q := fun F G m σ H S E Qc k =>
  h F G m σ H S E _ fun F1 m1 A1 vs H1 rs e1 p1 S1 R1 q => q F1 G m1 σ H1 vs S1 (E.mono e1 p1) R1 Qc fun F2 m2 A2 v H2 r e2 p2 S2 R2 q2 => k F2 m2 A2 v H2 r (e1.trans e2) (p1.trans p2) S2 R2 q2
/-- a builtin that gives a new list -/
def CbN (c : Ct) (r : List V → Hp → VK → Prop) (rs : List RV) (A : AS) (Q : AS → List D → Prop) : Prop := ∀ F G m σ H vs, Sim c.K F G m A σ H → EOk c F G m → RepRs c.K F m A σ vs rs → ∀ Qc : VK,
  (∀ F' m' A' p vs H' ds, Ex F F' → Pre m m' → Sim c.K F' G m' A' σ H' → F' p = none → G p = none → (∀ n : Nat, m'[n]? ≠ some p) → ¬ IsOwn A'.s σ p → H' p = some (.lst vs) → Reps c.K F' m' vs ds → Q A' ds → Qc (.ref p) H') → r vs H Qc
theorem wn_cb {r : List V → Hp → VK → Prop} {ta : TA} {Q : AS → List D → Prop} (h : WAr c ta A fun A1 rs => CbN c r rs A1 Q) : WN c (tCB r ta) A Q := fun F G m σ H S E Qc k =>
  h F G m σ H S E _ fun F1 m1 A1 vs H1 rs e1 p1 S1 R1 q => q F1 G m1 σ H1 vs S1 (E.mono e1 p1) R1 Qc fun F2 m2 A2 p vs2 H2 ds e2 p2 => k F2 m2 A2 p vs2 H2 ds (e1.trans e2) (p1.trans p2)
def rIntA : List V → Hp → VK → Prop := fun xs H Q => (∃ i, xs = [.int i] ∧ Q (.int i) H) ∨ ∃ k, xs = [.bl k] ∧ Q (.int (if k then 1 else 0)) H
def rAbsA : List V → Hp → VK → Prop := fun xs H Q => ∃ i, xs = [.int i] ∧ Q (.int (if i < 0 then -i else i)) H
def rLenA (K : PySem.W.Frag) : List V → Hp → VK → Prop := fun xs H Q => ∃ x n, xs = [x] ∧ LenV K x H n ∧ Q (.int n) H
def rListA (K : PySem.W.Frag) : List V → Hp → VK → Prop := fun xs H Q => ∃ p ys, xs = [.ref p] ∧ (SqL K H p ys ∨ SqT K H p ys) ∧ ∀ l, H l = none → Q (.ref l) (upd H l (.lst ys))
def rMax2A : List V → Hp → VK → Prop := fun xs H Q => ∃ i j, xs = [.int i, .int j] ∧ Q (.int (if j > i then j else i)) H
def rMin2A : List V → Hp → VK → Prop := fun xs H Q => ∃ i j, xs = [.int i, .int j] ∧ Q (.int (if j < i then j else i)) H
def rSumA (K : PySem.W.Frag) := orC (rSum K) (rSumT K)
def rMaxA (K : PySem.W.Frag) := orC (rMax K) (rMaxT K)
section
variable {X : Cx}
theorem call_intA : CallR X (.type "int") rIntA := call_int1
theorem call_absA : CallR X (.builtin "abs") rAbsA := call_abs
theorem call_lenA : CallR X (.builtin "len") (rLenA X.K) := call_len
theorem call_listA : CallR X (.type "list") (rListA X.K) := call_list_of
theorem call_max2A (hc : X.calm = true) : CallR X (.builtin "max") rMax2A := call_max2 hc
theorem call_min2A (hc : X.calm = true) : CallR X (.builtin "min") rMin2A := call_min2 hc
theorem call_sumA (hc : X.calm = true) : CallR X (.builtin "sum") (rSumA X.K) := call_or (cr_sum hc) (call_sumT hc)
theorem call_maxA (hc : X.calm = true) : CallR X (.builtin "max") (rMaxA X.K) := call_or (cr_max hc) (call_maxT hc)
end
theorem rs1 {K : PySem.W.Frag} {F : Hp} {m : List Addr} {σ : St} {vs : List V} {r : RV} (R : RepRs K F m A σ vs [r]) : ∃ v, vs = [v] ∧ RepR K F m A σ v r := by
  cases R with | cons a t => cases t; exact ⟨_, rfl, a⟩
theorem rs2 {K : PySem.W.Frag} {F : Hp} {m : List Addr} {σ : St} {vs : List V} {r s : RV} (R : RepRs K F m A σ vs [r, s]) : ∃ v w, vs = [v, w] ∧ RepR K F m A σ v r ∧ RepR K F m A σ w s := by
  cases R with | cons a t => cases t with | cons b t => cases t; exact ⟨_, _, rfl, a, b⟩
theorem cb_int {i : Int} (q : Q A (.val (.int i))) : CbD c rIntA [.val (.int i)] A Q := fun F G m σ H vs S E R Qc k => by
  obtain ⟨v, rfl, r⟩ := rs1 R; cases r
  exact .inl ⟨i, rfl, k F m A _ H (.val (.int i)) (Evl.Ex.refl F) (Pre.refl m) S (Rep.int i) q⟩
theorem cb_intB {b : Bool} (q : Q A (.val (.int (if b then 1 else 0)))) : CbD c rIntA [.val (.bl b)] A Q := fun F G m σ H vs S E R Qc k => by
  obtain ⟨v, rfl, r⟩ := rs1 R; cases r
  exact .inr ⟨b, rfl, k F m A _ H (.val (.int _)) (Evl.Ex.refl F) (Pre.refl m) S (Rep.int _) q⟩
theorem cb_abs {i : Int} (q : Q A (.val (.int (if i < 0 then -i else i)))) : CbD c rAbsA [.val (.int i)] A Q := fun F G m σ H vs S E R Qc k => by
  obtain ⟨v, rfl, r⟩ := rs1 R; cases r
  exact ⟨i, rfl, k F m A _ H (.val (.int _)) (Evl.Ex.refl F) (Pre.refl m) S (Rep.int _) q⟩
theorem cb_max2 {i j : Int} (q : Q A (.val (.int (if j > i then j else i)))) : CbD c rMax2A [.val (.int i), .val (.int j)] A Q := fun F G m σ H vs S E R Qc k => by
  obtain ⟨v, w, rfl, r, r2⟩ := rs2 R; cases r; cases r2
  exact ⟨i, j, rfl, k F m A _ H (.val (.int _)) (Evl.Ex.refl F) (Pre.refl m) S (Rep.int _) q⟩
theorem cb_min2 {i j : Int} (q : Q A (.val (.int (if j < i then j else i)))) : CbD c rMin2A [.val (.int i), .val (.int j)] A Q := fun F G m σ H vs S E R Qc k => by
  obtain ⟨v, w, rfl, r, r2⟩ := rs2 R; cases r; cases r2
  exact ⟨i, j, rfl, k F m A _ H (.val (.int _)) (Evl.Ex.refl F) (Pre.refl m) S (Rep.int _) q⟩
theorem cb_lenL {ds : List D} (h : lsOf A x = some ds) (q : Q A (.val (.int (ds.length : Int)))) : CbD c (rLenA c.K) [x] A Q := fun F G m σ H vs S E R Qc k => by
  obtain ⟨v, rfl, r⟩ := rs1 R
  obtain ⟨a, vs, rfl, hs, rv⟩ := rep_ls S r h
  exact ⟨_, ds.length, rfl, .inl ⟨vs, hs, rv.len.symm⟩, k F m A _ H (.val (.int _)) (Evl.Ex.refl F) (Pre.refl m) S (Rep.int _) q⟩
theorem cb_lenT {ds : List D} (h : tpOf x = some ds) (q : Q A (.val (.int (ds.length : Int)))) : CbD c (rLenA c.K) [x] A Q := fun F G m σ H vs S E R Qc k => by
  obtain ⟨v, rfl, r⟩ := rs1 R
  obtain ⟨a, vs, rfl, hs, rv⟩ := rep_tp S r h
  exact ⟨_, ds.length, rfl, .inr ⟨vs, hs, rv.len.symm⟩, k F m A _ H (.val (.int _)) (Evl.Ex.refl F) (Pre.refl m) S (Rep.int _) q⟩
theorem cb_sumL {ns : List Int} (h : lsOf A x = some (ns.map .int)) (q : Q A (.val (.int ns.sum))) : CbD c (rSumA c.K) [x] A Q := fun F G m σ H vs S E R Qc k => by
  obtain ⟨v, rfl, r⟩ := rs1 R
  obtain ⟨a, vs, rfl, hs, rv⟩ := rep_ls S r h
  rw [rv.ints] at hs
  exact .inl ⟨a, ns, rfl, hs, k F m A _ H (.val (.int _)) (Evl.Ex.refl F) (Pre.refl m) S (Rep.int _) q⟩
theorem cb_sumT {ns : List Int} (h : tpOf x = some (ns.map .int)) (q : Q A (.val (.int ns.sum))) : CbD c (rSumA c.K) [x] A Q := fun F G m σ H vs S E R Qc k => by
  obtain ⟨v, rfl, r⟩ := rs1 R
  obtain ⟨a, vs, rfl, hs, rv⟩ := rep_tp S r h
  rw [rv.ints] at hs
  exact .inr ⟨a, ns, rfl, hs, k F m A _ H (.val (.int _)) (Evl.Ex.refl F) (Pre.refl m) S (Rep.int _) q⟩
theorem cb_maxL {ns : List Int} (h : lsOf A x = some (ns.map .int)) (h0 : 0 < ns.length) (q : ∀ M, M ∈ ns → (∀ y, y ∈ ns → y ≤ M) → Q A (.val (.int M))) : CbD c (rMaxA c.K) [x] A Q := fun F G m σ H vs S E R Qc k => by
  obtain ⟨v, rfl, r⟩ := rs1 R
  obtain ⟨a, vs, rfl, hs, rv⟩ := rep_ls S r h
  rw [rv.ints] at hs
  exact .inl ⟨a, ns, rfl, hs, h0, fun M h1 h2 => k F m A _ H (.val (.int _)) (Evl.Ex.refl F) (Pre.refl m) S (Rep.int _) (q M h1 h2)⟩
theorem cb_maxT {ns : List Int} (h : tpOf x = some (ns.map .int)) (h0 : 0 < ns.length) (q : ∀ M, M ∈ ns → (∀ y, y ∈ ns → y ≤ M) → Q A (.val (.int M))) : CbD c (rMaxA c.K) [x] A Q := fun F G m σ H vs S E R Qc k => by
  obtain ⟨v, rfl, r⟩ := rs1 R
  obtain ⟨a, vs, rfl, hs, rv⟩ := rep_tp S r h
  rw [rv.ints] at hs
  exact .inr ⟨a, ns, rfl, hs, h0, fun M h1 h2 => k F m A _ H (.val (.int _)) (Evl.Ex.refl F) (Pre.refl m) S (Rep.int _) (q M h1 h2)⟩
theorem cn_listL {ds : List D} {Q : AS → List D → Prop} (h : lsOf A x = some ds) (q : Q A ds) : CbN c (rListA c.K) [x] A Q := fun F G m σ H vs S E R Qc k => by
  obtain ⟨v, rfl, r⟩ := rs1 R
  obtain ⟨a, vs, rfl, hs, rv⟩ := rep_ls S r h
  exact ⟨a, vs, rfl, .inl hs, fun p hp => k F m A p vs _ ds (Evl.Ex.refl F) (Pre.refl m) (S.new hp) (S.h.fresh hp).1 (S.h.fresh hp).2.1 (S.h.fresh hp).2.2 (S.notOwn hp) upd_same rv q⟩
theorem cn_listT {ds : List D} {Q : AS → List D → Prop} (h : tpOf x = some ds) (q : Q A ds) : CbN c (rListA c.K) [x] A Q := fun F G m σ H vs S E R Qc k => by
  obtain ⟨v, rfl, r⟩ := rs1 R
  obtain ⟨a, vs, rfl, hs, rv⟩ := rep_tp S r h
  exact ⟨a, vs, rfl, .inr hs, fun p hp => k F m A p vs _ ds (Evl.Ex.refl F) (Pre.refl m) (S.new hp) (S.h.fresh hp).1 (S.h.fresh hp).2.1 (S.h.fresh hp).2.2 (S.notOwn hp) upd_same rv q⟩
theorem cb_tupL {ds : List D} (h : lsOf A x = some ds) (q : Q A (.val (.tup ds))) : CbD c (rTupP c.K) [x] A Q := fun F G m σ H vs S E R Qc k => by
  obtain ⟨v, rfl, r⟩ := rs1 R
  obtain ⟨a, vs, rfl, hs, rv⟩ := rep_ls S r h
  refine ⟨a, vs, rfl, .inl ⟨hs, fun p its hp => ?_⟩⟩
  have ex : Ex F (upd F p (tupHO its vs)) := ex_upd (S.h.fresh hp).1
  exact k _ m A _ _ (.val (.tup ds)) ex (Pre.refl m) (S.frz hp) (show Rep c.K _ _ _ _ from .tup (.inl ⟨its, upd_same⟩) (rv.mono ex (Pre.refl _))) q
theorem cb_tupT {d : D} {ds : List D} (h : tpOf (.val d) = some ds) (q : Q A (.val d)) : CbD c (rTupP c.K) [.val d] A Q := fun F G m σ H vs S E R Qc k => by
  obtain ⟨v, rfl, r⟩ := rs1 R
  obtain ⟨a, vs, rfl, hs, rv⟩ := rep_tp S r h
  exact ⟨a, vs, rfl, .inr ⟨hs, k F m A _ H (.val d) (Evl.Ex.refl F) (Pre.refl m) S r q⟩⟩
/-! ### isinstance of a built-in class -/
def tyOfR (A : AS) : RV → Option String
  | .val .non => some "NoneType"
  | .val (.bl _) => some "bool"
  | .val (.int _) => some "int"
  | .val (.str _) => some "str"
  | .val (.lst _) => some "list"
  | .val (.scr _) => none
  | .val (.tup _) => some "tuple"
  | .val (.ptr n) => match A.o[n]? with
    | some (.lst _) => some "list"
    | some (.dK _) => some "dict"
    | some (.dT _) => some "dict"
    | _ => none
  | .slot i => match A.s[i]? with
    | some (some (.own (.lst _))) => some "list"
    | some (some (.own (.dK _))) => some "dict"
    | some (some (.own (.dT _))) => some "dict"
    | _ => none
  | _ => none
theorem tyOf_ok {K : PySem.W.Frag} {F G H : Hp} {m : List Addr} {σ : St} {v : V} {n : String} (S : Sim K F G m A σ H) (R : RepR K F m A σ v x) (h : tyOfR A x = some n) : TyX K H v (.type n) := by
  cases x with
  | slot i =>
    obtain ⟨e1, z, e2⟩ := R
    obtain ⟨a, q, _, _, _, _, cc⟩ := S.s.ownAt e2
    rw [e1] at q; cases q
    simp only [tyOfR, e2] at h
    cases z with
    | lst ds => cases h; obtain ⟨vs, hv, _⟩ := cc; exact .base (.lst hv)
    | dK ds => cases h; obtain ⟨vs, hv, _⟩ := cc; exact .base (.dK hv)
    | dT ds => cases h; obtain ⟨vs, hv, _⟩ := cc; exact .base (.dT hv)
    | _ => simp at h
  | val d =>
    cases d with
    | non => cases h; cases R; exact .base .non
    | bl b => cases h; cases R; exact .base (.bl b)
    | int i => cases h; cases R; exact .base (.int i)
    | str i => cases h; cases R; exact .base (.str i)
    | lst ds => cases h; cases R with | lst e _ => exact .base (.lst (S.h.exF _ _ e))
    | tup ds => cases h; cases R with | tup e _ =>
      rcases e with ⟨its, q⟩ | ⟨its, n, sl, l, _⟩
      · exact .fTuple (S.h.exF _ _ q)
      · exact .kTuple l rfl
    | ptr n =>
      cases R with
      | ptr e =>
        simp only [tyOfR] at h
        cases z : A.o[n]? with
        | none => rw [z] at h; cases h
        | some c =>
          rw [z] at h
          cases c with
          | lst ds => cases h; obtain ⟨_, _, vs, hv, _⟩ := S.h.cell n _ _ e z trivial; exact .base (.lst hv)
          | dK ds => cases h; obtain ⟨_, _, vs, hv, _⟩ := S.h.cell n _ _ e z trivial; exact .base (.dK hv)
          | dT ds => cases h; obtain ⟨_, _, vs, hv, _⟩ := S.h.cell n _ _ e z trivial; exact .base (.dT hv)
          | _ => simp at h
    | _ => simp [tyOfR] at h
theorem we_ty {n : String} (q : Q A (.val (.ty n))) : WE c (tC (.ty n)) A Q := we_C (fun _ _ => .ty n) q
inductive Isi : String → String → Bool → Prop where
  | NoneType_str : Isi "NoneType" "str" false
  | NoneType_bool : Isi "NoneType" "bool" false
  | NoneType_int : Isi "NoneType" "int" false
  | NoneType_tuple : Isi "NoneType" "tuple" false
  | NoneType_list : Isi "NoneType" "list" false
  | bool_str : Isi "bool" "str" false
  | bool_bool : Isi "bool" "bool" true
  | bool_int : Isi "bool" "int" true
  | bool_tuple : Isi "bool" "tuple" false
  | bool_list : Isi "bool" "list" false
  | int_str : Isi "int" "str" false
  | int_bool : Isi "int" "bool" false
  | int_int : Isi "int" "int" true
  | int_tuple : Isi "int" "tuple" false
  | int_list : Isi "int" "list" false
  | str_str : Isi "str" "str" true
  | str_bool : Isi "str" "bool" false
  | str_int : Isi "str" "int" false
  | str_tuple : Isi "str" "tuple" false
  | str_list : Isi "str" "list" false
  | list_str : Isi "list" "str" false
  | list_bool : Isi "list" "bool" false
  | list_int : Isi "list" "int" false
  | list_tuple : Isi "list" "tuple" false
  | list_list : Isi "list" "list" true
  | tuple_str : Isi "tuple" "str" false
  | tuple_bool : Isi "tuple" "bool" false
  | tuple_int : Isi "tuple" "int" false
  | tuple_tuple : Isi "tuple" "tuple" true
  | tuple_list : Isi "tuple" "list" false
  | dict_str : Isi "dict" "str" false
  | dict_bool : Isi "dict" "bool" false
  | dict_int : Isi "dict" "int" false
  | dict_tuple : Isi "dict" "tuple" false
  | dict_list : Isi "dict" "list" false
theorem Isi.ok {t n : String} {b : Bool} (h : Isi t n b) : kitB t n = some b := by cases h <;> decide +kernel
theorem cb_isi {n t : String} {b : Bool} (hx : tyOfR A x = some t) (hb : Isi t n b) (q : Q A (.val (.bl b))) : CbD c (rIsi c.K) [x, .val (.ty n)] A Q := fun F G m σ H vs S E R Qc k => by
  obtain ⟨v, w, rfl, r, r2⟩ := rs2 R; cases r2
  exact ⟨v, .ty n, _, _, b, rfl, .ty n, tyOf_ok S r hx, kit_ty hb.ok, k F m A _ H (.val (.bl b)) (Evl.Ex.refl F) (Pre.refl m) S (Rep.bl b) q⟩
end
end AL

namespace AL
open PySem L2
/-! ### walks over a list or a tuple -/
def iSeq (K : PySem.W.Frag) (tl : TE) : TI := fun σ H R => tl σ H fun x H1 => ∃ a xs, x = .ref a ∧ ((SqL K H1 a xs ∧ R (Itl K a) H1) ∨ (SqT K H1 a xs ∧ R (Itt K a) H1))
section
open PySem.Spec PyProof.Rows
variable {X : Cx}
theorem pi_seq {tg l : Expr} {tl : TE} (hl : PE X l tl) : PI X tg l (iSeq X.K tl) := by
  constructor
  intro pins s σ H R I h
  refine wpAny_mono (hl.run pins s σ H _ I h) (fun v s1 g => ?_) (fun _ _ x => x)
  obtain ⟨x, H1, I1, r1, a, xs, e, g⟩ := g
  subst e
  cases r1
  have fp : ∀ b ∈ [s1.heap.objs.size], FpOk X pins H1 b := fun b hb => by
    rw [List.mem_singleton] at hb
    subst hb
    exact I1.fpOk (Nat.le_refl _) (I1.hok.fresh (Nat.le_refl _))
  rcases g with ⟨hq, q⟩ | ⟨hq, q⟩
  · obtain ⟨its, rv, p, hz⟩ := I1.list hq
    exact wpAny_pyIter_list p.isList ⟨_, _, _, _, H1, rfl, I1.kept (t' := s1.toks) (fun b o e => Heap.get?_push_of_some _ e), turn_list a _, ⟨_, Heap.get?_push_size _ rfl, rfl, rfl⟩, fp, q⟩
  · obtain ⟨its, rv, p, hz⟩ := I1.tuple hq
    exact wpAny_pyIter_tuple (show s1.heap.IsTuple a its.toArray from p) ⟨_, _, _, _, H1, rfl, I1.kept (t' := s1.toks) (fun b o e => Heap.get?_push_of_some _ e), turn_tuple a _, ⟨_, Heap.get?_push_size _ rfl, rfl, rfl⟩, fp, q⟩
end
/-- what a value, taken as data, holds -/
def sqD : D → Option (List D)
  | .lst ds => some ds
  | .scr ds => some ds
  | .tup ds => some ds
  | .sct ds => some ds
  | _ => none
section
variable {c : Ct} {A : AS} {te ta tb tl : TE} {t u tt : TT} {x y : RV} {Q : QE}
theorem real_l {K : PySem.W.Frag} {F : Hp} {m : List Addr} {a : Addr} {vs : List V} {ds : List D} (h : SqL K F a vs) (r : Reps K F m vs ds) : Real K F m (Itl K a) ds := fun F2 G m2 A2 σ H e p S i =>
  have hs : SqL K H a vs := Evl.ex_l S.h.exF (Evl.ex_l e h)
  ⟨fun d hd => by
    obtain ⟨v, hv, rv⟩ := r.get hd
    refine ⟨⟨vs, v, hs, hv⟩, fun x H' y => ?_⟩
    obtain ⟨rfl, y⟩ := y
    have e2 := y vs hs
    rw [hv] at e2; cases e2
    exact ⟨F2, Evl.Ex.refl _, S, rv.mono e p⟩, fun hl => ⟨vs, hs, by rw [r.len]; exact hl⟩⟩
theorem real_t {K : PySem.W.Frag} {F : Hp} {m : List Addr} {a : Addr} {vs : List V} {ds : List D} (h : SqT K F a vs) (r : Reps K F m vs ds) : Real K F m (Itt K a) ds := fun F2 G m2 A2 σ H e p S i =>
  have hs : SqT K H a vs := Evl.ex_t S.h.exF (Evl.ex_t e h)
  ⟨fun d hd => by
    obtain ⟨v, hv, rv⟩ := r.get hd
    refine ⟨⟨vs, v, hs, hv⟩, fun x H' y => ?_⟩
    obtain ⟨rfl, y⟩ := y
    have e2 := y vs hs
    rw [hv] at e2; cases e2
    exact ⟨F2, Evl.Ex.refl _, S, rv.mono e p⟩, fun hl => ⟨vs, hs, by rw [r.len]; exact hl⟩⟩
theorem wi_seq {Q : AS → List D → Prop} (h : WE c tl A fun A1 r => Frz A1 r fun A2 d => ∃ ds, sqD d = some ds ∧ Q A2 ds) : WI c (iSeq c.K tl) A Q := fun F G m σ H S E Rc k =>
  (WE.frz h) F G m σ H S E _ fun F1 m1 A1 v H1 x e1 p1 S1 R1 ⟨d, ex, ds, hd, q⟩ => by
    subst ex
    cases d with
    | lst es => cases hd; cases R1 with | lst e r => exact ⟨_, _, rfl, .inl ⟨.inl (.inl (S1.h.exF _ _ e)), k F1 m1 A1 _ H1 ds e1 p1 S1 (real_l (.inl (.inl e)) r) q⟩⟩
    | scr es => cases hd; cases R1 with | scr e r => exact ⟨_, _, rfl, .inl ⟨Evl.ex_l S1.h.exF e, k F1 m1 A1 _ H1 ds e1 p1 S1 (real_l e r) q⟩⟩
    | tup es => cases hd; cases R1 with | tup e r => exact ⟨_, _, rfl, .inr ⟨Evl.ex_t S1.h.exF e.seq, k F1 m1 A1 _ H1 ds e1 p1 S1 (real_t e.seq r) q⟩⟩
    | sct es => cases hd; cases R1 with | sct e r => exact ⟨_, _, rfl, .inr ⟨Evl.ex_t S1.h.exF e, k F1 m1 A1 _ H1 ds e1 p1 S1 (real_t e r) q⟩⟩
    | _ => simp [sqD] at hd
/-- the ints lo, lo + 1, .., n of them -/
def intsD (lo : Int) (n : Nat) : List D := (List.range n).map fun i => .int (lo + (i : Nat))
theorem intsD_len (lo : Int) (n : Nat) : (intsD lo n).length = n := by unfold intsD; rw [List.length_map, List.length_range]
theorem intsD_at {lo : Int} {n i : Nat} {d : D} (h : (intsD lo n)[i]? = some d) : i < n ∧ d = .int (lo + (i : Nat)) := by
  have hl := (List.getElem?_eq_some_iff.mp h).1
  rw [intsD_len] at hl
  unfold intsD at h
  rw [List.getElem?_map, List.getElem?_range hl] at h
  cases h; exact ⟨hl, rfl⟩
theorem real_r {K : PySem.W.Frag} {F : Hp} {m : List Addr} {lo : Int} {n : Nat} : Real K F m (Itr lo n) (intsD lo n) := fun F2 G m2 A2 σ H e p S i =>
  ⟨fun d hd => by
    obtain ⟨h1, rfl⟩ := intsD_at hd
    refine ⟨h1, fun x H' y => ?_⟩
    obtain ⟨rfl, rfl⟩ := y
    exact ⟨F2, Evl.Ex.refl _, S, .int _⟩, fun hl => by rw [intsD_len] at hl; exact hl⟩
theorem wi_r1 {ta : TA} {Q : AS → List D → Prop} (h : WA c ta A fun A1 ds => ∃ n : Int, ds = [.int n] ∧ n < 1000000 ∧ -1000000 < n ∧ Q A1 (intsD 0 n.toNat)) : WI c (iRng1 ta) A Q := fun F G m σ H S E Rc k =>
  h F G m σ H S E _ fun F1 m1 A1 vs H1 ds e1 p1 S1 R1 ⟨n, ex, h1, h2, q⟩ => by
    subst ex
    cases R1 with
    | cons a r => cases r; cases a; exact ⟨n, rfl, by omega, by omega, k F1 m1 A1 _ H1 _ e1 p1 S1 real_r q⟩
theorem wi_r2 {ta : TA} {Q : AS → List D → Prop} (h : WA c ta A fun A1 ds => ∃ a n : Int, ds = [.int a, .int n] ∧ (a < 1000000 ∧ -1000000 < a) ∧ (n < 1000000 ∧ -1000000 < n) ∧ Q A1 (intsD a (n - a).toNat)) : WI c (iRng2 ta) A Q := fun F G m σ H S E Rc k =>
  h F G m σ H S E _ fun F1 m1 A1 vs H1 ds e1 p1 S1 R1 ⟨a0, n, ex, h1, h2, q⟩ => by
    subst ex
    cases R1 with
    | cons a r => cases r with | cons b r => cases r; cases a; cases b; exact ⟨a0, n, rfl, ⟨by omega, by omega, by omega, by omega⟩, k F1 m1 A1 _ H1 _ e1 p1 S1 real_r q⟩
/-! ### comprehensions -/
def wipeA (s : List (Option SV)) : List Nat → List (Option SV)
  | [] => s
  | v :: vs => (wipeA s vs).set v none
theorem SS.wipe {K : PySem.W.Frag} {F G : Hp} {m : List Addr} {s : List (Option SV)} {σ : St} {H : Hp} (h : SS K F G m s σ H) : ∀ vs, SS K F G m (wipeA s vs) (wipe σ vs) H
  | [] => h
  | v :: vs => (SS.wipe h vs).forget
/-- the state is as before, but for slots that are forgotten, and nothing own has changed -/
theorem wipe_own {s : List (Option SV)} : ∀ {vs : List Nat} {i : Nat} {x : SV}, (wipeA s vs)[i]? = some (some x) → s[i]? = some (some x) ∧ i ∉ vs
  | [], i, x, h => ⟨h, by simp⟩
  | v :: vs, i, x, h => by
    unfold wipeA at h
    by_cases e : v = i
    · subst e
      have hl := (List.getElem?_eq_some_iff.mp h).1
      rw [List.length_set] at hl
      rw [List.getElem?_set_self hl] at h; cases h
    · rw [List.getElem?_set_ne e] at h
      obtain ⟨h1, h2⟩ := wipe_own h
      exact ⟨h1, by simp only [List.mem_cons, not_or]; exact ⟨fun z => e z.symm, h2⟩⟩
theorem wipe_keeps {s : List (Option SV)} : ∀ {vs : List Nat} {i : Nat}, i ∉ vs → (wipeA s vs)[i]? = s[i]?
  | [], i, h => rfl
  | v :: vs, i, h => by
    simp only [List.mem_cons, not_or] at h
    unfold wipeA
    rw [List.getElem?_set_ne (fun z => h.1 z.symm)]
    exact wipe_keeps h.2
/-- no slot that the comprehension's own names take is an own object -/
def NoOwn (s : List (Option SV)) (vs : List Nat) : Prop := ∀ i ∈ vs, ∀ x : Cell, s[i]? ≠ some (some (.own x))
def GOk (g : TG) (vs : List Nat) : Prop := ∀ v σ H (Qc : St → Hp → Prop), (g v σ H fun σ2 H2 => wipe σ2 vs = wipe σ vs → Qc σ2 H2) → g v σ H fun σ2 H2 => wipe σ2 vs = wipe σ vs ∧ Qc σ2 H2
def GsOk (g : TGs) (vs : List Nat) : Prop := ∀ v σ H (Qc : St → Hp → Prop), (g v σ H fun σ2 H2 => wipe σ2 vs = wipe σ vs → Qc σ2 H2) → g v σ H fun σ2 H2 => wipe σ2 vs = wipe σ vs ∧ Qc σ2 H2
theorem wipe_set {i : Nat} {x : Option V} : ∀ {vs : List Nat} {σ : St}, i ∈ vs → wipe (σ.set i x) vs = wipe σ vs
  | v :: vs, σ, h => by
    unfold wipe
    by_cases e : i ∈ vs
    · rw [wipe_set e]
    · have ei : i = v := by simpa [e] using h
      subst ei
      have w : ∀ (us : List Nat) (τ : St) (y : Option V), (wipe (τ.set i y) us).set i none = (wipe τ us).set i none := fun us => by
        induction us with
        | nil => intro τ y; show (τ.set i y).set i none = τ.set i none; rw [List.set_set]
        | cons u us ih =>
          intro τ y
          show ((wipe (τ.set i y) us).set u none).set i none = ((wipe τ us).set u none).set i none
          by_cases z : u = i
          · subst z; rw [List.set_set, List.set_set]; exact ih τ y
          · rw [List.set_comm _ _ z, List.set_comm _ _ z, ih τ y]
      exact w vs σ x
theorem gok_name {i : Nat} {vs : List Nat} (h : i ∈ vs) : GOk (gName i) vs := fun v σ H Qc q => ⟨wipe_set h, q (wipe_set h)⟩
theorem gsok_nil {vs : List Nat} : GsOk gNil vs := fun v σ H Qc q => ⟨q.1, rfl, q.2 rfl⟩
theorem gsok_cons {g : TG} {gs : TGs} {vs : List Nat} (mg : ∀ v σ H (P Q : St → Hp → Prop), (∀ a b, P a b → Q a b) → g v σ H P → g v σ H Q) (mgs : ∀ v σ H (P Q : St → Hp → Prop), (∀ a b, P a b → Q a b) → gs v σ H P → gs v σ H Q) (h : GOk g vs) (hs : GsOk gs vs) : GsOk (gCons g gs) vs := fun v σ H Qc q => by
  obtain ⟨x, r, e, q⟩ := q
  have q1 := h x σ H (fun σ' H' => gs r σ' H' fun a b => wipe a vs = wipe σ' vs → Qc a b) (mg _ _ _ _ _ (fun a b z w => mgs _ _ _ _ _ (fun a2 b2 z2 w2 => z2 (w2.trans w)) z) q)
  refine ⟨x, r, e, mg _ _ _ _ _ (fun a b z => ?_) q1⟩
  exact mgs _ _ _ _ _ (fun a2 b2 z2 => ⟨z2.1.trans z.1, z2.2⟩) (hs _ _ _ _ z.2)
theorem gok_tup {K : PySem.W.Frag} {n : Nat} {gs : TGs} {vs : List Nat} (h : GsOk gs vs) : GOk (gTup K n gs) vs := fun v σ H Qc q => by
  obtain ⟨a, xs, e, hx, hn, q⟩ := q
  exact ⟨a, xs, e, hx, hn, h _ _ _ _ q⟩
theorem mono_name {i : Nat} : ∀ v σ H (P Q : St → Hp → Prop), (∀ a b, P a b → Q a b) → gName i v σ H P → gName i v σ H Q := fun v σ H P Q h q => h _ _ q
theorem mono_nil : ∀ v σ H (P Q : St → Hp → Prop), (∀ a b, P a b → Q a b) → gNil v σ H P → gNil v σ H Q := fun v σ H P Q h q => ⟨q.1, h _ _ q.2⟩
theorem mono_cons {g : TG} {gs : TGs} (mg : ∀ v σ H (P Q : St → Hp → Prop), (∀ a b, P a b → Q a b) → g v σ H P → g v σ H Q) (mgs : ∀ v σ H (P Q : St → Hp → Prop), (∀ a b, P a b → Q a b) → gs v σ H P → gs v σ H Q) : ∀ v σ H (P Q : St → Hp → Prop), (∀ a b, P a b → Q a b) → gCons g gs v σ H P → gCons g gs v σ H Q := fun v σ H P Q h q => by
  obtain ⟨x, r, e, q⟩ := q
  exact ⟨x, r, e, mg _ _ _ _ _ (fun a b z => mgs _ _ _ _ _ h z) q⟩
theorem gok_two {K : PySem.W.Frag} {i j n : Nat} {vs : List Nat} (hi : i ∈ vs) (hj : j ∈ vs) : GOk (gTup K n (gCons (gName i) (gCons (gName j) gNil))) vs :=
  gok_tup (gsok_cons mono_name (mono_cons mono_name mono_nil) (gok_name hi) (gsok_cons mono_name mono_nil (gok_name hj) gsok_nil))
/-! ### the callers' part less -/
theorem Sim.weakG {K : PySem.W.Frag} {F G G' : Hp} {m : List Addr} {A : AS} {σ : St} {H : Hp} (S : Sim K F G' m A σ H) (sub : ∀ a o, G a = some o → G' a = some o) : Sim K F G m A σ H := by
  have non : ∀ a, G' a = none → G a = none := fun a c => by
    cases g : G a with
    | none => rfl
    | some o => rw [sub a o g] at c; cases c
  refine ⟨⟨S.h.exF, fun a o g => S.h.exG _ _ (sub a o g), fun a o f => non a (S.h.dj a o f), S.h.len, fun n a c e1 e2 l => ?_, S.h.inj, S.h.here, fun n a e => non a (S.h.mG n a e), S.h.gn⟩, S.s.len, fun i x y e1 e2 => ?_, S.s.own⟩
  · obtain ⟨x1, x2, x3⟩ := S.h.cell n a c e1 e2 l
    exact ⟨x1, non a x2, x3⟩
  · have q := S.s.at_ i x y e1 e2
    match x, y, q with
    | _, none, _ => cases x <;> trivial
    | some v, some (.val d), q => exact q
    | some v, some (.own c), ⟨a, ea, l, f, g, mm, cc⟩ => exact ⟨a, ea, l, f, non a g, mm, cc⟩
/-- an object that is nobody's becomes the callers' -/
theorem Sim.addG {K : PySem.W.Frag} {F G : Hp} {m : List Addr} {A : AS} {σ : St} {H : Hp} (S : Sim K F G m A σ H) {p : Addr} {o : HO} (hp : H p = none) : Sim K F (upd G p o) m A σ (upd H p o) := by
  have S1 := S.new (o := o) hp
  obtain ⟨f, g, mm⟩ := S.h.fresh hp
  have no := S.notOwn hp
  have ng : ∀ a, a ≠ p → G a = none → upd G p o a = none := fun a h g => by rw [upd_ne h]; exact g
  refine ⟨⟨S1.h.exF, ex_both S.h.exG, fun a u e => ng a (ne_of_none e f) (S.h.dj a u e), S1.h.len, fun n a c e1 e2 l => ?_, S1.h.inj, S1.h.here, fun n a e => ng a (fun z => mm n (z ▸ e)) (S.h.mG n a e), S1.h.gn⟩, S1.s.len, fun i x y e1 e2 => ?_, S1.s.own⟩
  · obtain ⟨x1, x2, x3⟩ := S1.h.cell n a c e1 e2 l
    exact ⟨x1, ng a (fun z => mm n (z ▸ e1)) x2, x3⟩
  · have q := S1.s.at_ i x y e1 e2
    match x, y, q with
    | _, none, _ => cases x <;> trivial
    | some v, some (.val d), q => exact q
    | some v, some (.own c), ⟨a, ea, l, f, g, mm, cc⟩ => exact ⟨a, ea, l, f, ng a (fun z => no ⟨i, c, e2, by rw [← z, ← ea]; exact e1⟩) g, mm, cc⟩
/-- the callers' object changes -/
theorem Sim.setG {K : PySem.W.Frag} {F G : Hp} {m : List Addr} {A : AS} {σ : St} {H : Hp} {p : Addr} {o o' : HO} (S : Sim K F (upd G p o) m A σ H) : Sim K F (upd G p o') m A σ (upd H p o') := by
  have gp : upd G p o p = some o := upd_same
  have hF : F p = none := by
    cases y : F p with
    | none => rfl
    | some u => have z := S.h.dj p u y; rw [gp] at z; cases z
  have hm : ∀ n : Nat, m[n]? ≠ some p := fun n e => by have z := S.h.mG n p e; rw [gp] at z; cases z
  have non : ∀ a, upd G p o a = none → a ≠ p ∧ upd G p o' a = none := fun a z => by
    have np : a ≠ p := fun y => by subst y; rw [gp] at z; cases z
    exact ⟨np, by rw [upd_ne np] at z ⊢; exact z⟩
  refine ⟨⟨ex_right S.h.exF hF, fun a u g => ?_, fun a u e => (non a (S.h.dj a u e)).2, S.h.len, fun n a c e1 e2 l => ?_, S.h.inj, fun n a e => ?_, fun n a e => (non a (S.h.mG n a e)).2, S.h.gn⟩, S.s.len, fun i x y e1 e2 => ?_, S.s.own⟩
  · by_cases z : a = p
    · subst z; rw [upd_same] at g ⊢; exact g
    · rw [upd_ne z] at g ⊢; exact S.h.exG a u (by rw [upd_ne z]; exact g)
  · obtain ⟨x1, x2, x3⟩ := S.h.cell n a c e1 e2 l
    obtain ⟨np, g⟩ := non a x2
    exact ⟨x1, g, x3.mono (fun _ _ h => h) (Pre.refl _) (upd_ne np)⟩
  · obtain ⟨u, hu⟩ := S.h.here n a e
    exact ⟨u, by rw [upd_ne (fun z => hm n (by rw [← z]; exact e))]; exact hu⟩
  · have q := S.s.at_ i x y e1 e2
    match x, y, q with
    | _, none, _ => cases x <;> trivial
    | some v, some (.val d), q => exact q
    | some v, some (.own c), ⟨a, ea, l, f, g, mm, cc⟩ =>
      obtain ⟨np, g'⟩ := non a g
      exact ⟨a, ea, l, f, g', mm, cc.mono (fun _ _ h => h) (Pre.refl _) (upd_ne np)⟩
theorem EOk.weakG {c : Ct} {F G G' : Hp} {m : List Addr} (E : EOk c F G m) (sub : ∀ a o, G a = some o → G' a = some o) : EOk c F G' m := ⟨fun F' m' A' σ' H' C dx fvs fs e p S => E.x F' m' A' σ' H' C dx fvs fs e p (S.weakG sub), E.h⟩
theorem wipe_not {j : Nat} : ∀ {us : List Nat} {τ : St}, j ∉ us → (wipe τ us)[j]? = τ[j]?
  | [], τ, h => rfl
  | u :: us, τ, h => by
    simp only [List.mem_cons, not_or] at h
    unfold wipe
    rw [List.getElem?_set_ne (fun z => h.1 z.symm)]
    exact wipe_not h.2
/-- behind an element: the slots are as they were -/
theorem Sim.unwipe {K : PySem.W.Frag} {F F3 G G0 : Hp} {m m3 : List Addr} {A A3 : AS} {σ σ3 : St} {H H3 : Hp} {vs : List Nat} (S : Sim K F G0 m A σ H) (S3 : Sim K F3 G m3 A3 σ3 H3) (e : Ex F F3) (p : Pre m m3) (eo : A3.o = A.o) (es : ∀ j, j ∉ vs → A3.s[j]? = A.s[j]?)
    (ew : wipe σ3 vs = wipe σ vs) (no : NoOwn A.s vs) : Sim K F3 G m3 A σ H3 := by
  refine ⟨by rw [← eo]; exact S3.h, S.s.len, fun i x y e1 e2 => ?_, S.s.own⟩
  by_cases hi : i ∈ vs
  · have q := S.s.at_ i x y e1 e2
    match x, y, q, e2 with
    | _, none, _, _ => cases x <;> trivial
    | some v, some (.val d), q, _ => exact Rep.mono e p q
    | some v, some (.own c), _, e2 => exact absurd e2 (no i hi c)
  · have z1 : σ3[i]? = some x := by rw [← wipe_not hi, ew, wipe_not hi]; exact e1
    have z2 : A3.s[i]? = some y := by rw [es i hi]; exact e2
    exact S3.s.at_ i x y z1 z2
/-- what the elements are: es[i] of the i-th item, none where it is passed over; every own object stays -/
theorem wn_lc {wi : TI} {g : TG} {vs : List Nat} {Q : AS → List D → Prop} (hg : GOk g vs)
    (h : WI c wi A fun A1 ds => NoOwn A1.s vs ∧ ds.length < 100000 ∧ ∃ es : List (Option D), es.length = ds.length ∧
      (∀ (i : Nat) d, ds[i]? = some d → WG c g d ⟨wipeA A1.s vs, A1.o⟩ fun A2 => WT c tt A2 fun A3 b => (b = true → WE c te A3 fun A4 r => Frz A4 r fun A5 e => es[i]? = some (some e) ∧ A5.o = A1.o ∧ ∀ j, j ∉ vs → A5.s[j]? = A1.s[j]?) ∧
        (b = false → es[i]? = some none ∧ A3.o = A1.o ∧ ∀ j, j ∉ vs → A3.s[j]? = A1.s[j]?)) ∧ Q A1 (es.filterMap id)) :
    WN c (tLc wi g tt te vs) A Q := fun F G m σ H S E Qc k => h F G m σ H S E _ fun F1 m1 A1 J H1 ds e1 p1 S1 RJ ⟨no, hlen, es, hes, hs, q⟩ => by
  intro Dl hD
  have gD : G Dl = none := (S1.h.fresh hD).2.1
  have sub : ∀ (o : HO) a u, G a = some u → upd G Dl o a = some u := fun o a u e => by rw [upd_ne (ne_of_none e gD)]; exact e
  have nD := S1.notOwn hD
  refine ⟨fun i n H2 => n = ds.length - i ∧ i ≤ ds.length ∧ ∃ F2 m2 acc, Ex F1 F2 ∧ Pre m1 m2 ∧ Sim c.K F2 (upd G Dl (.lst acc)) m2 A1 σ H2 ∧ Reps c.K F2 m2 acc ((es.take i).filterMap id),
    ⟨_, rfl, Nat.zero_le _, F1, m1, [], Evl.Ex.refl _, Pre.refl _, S1.addG hD, .nil⟩, fun i n H2 hw => ?_⟩
  obtain ⟨rfl, hi, F2, m2, acc, e2, p2, S2, R2⟩ := hw
  obtain ⟨r1, r2⟩ := RJ F2 _ m2 A1 σ H2 e2 p2 S2 i
  have hacc : acc.length ≤ i := by
    rw [R2.len]
    refine Nat.le_trans (List.length_filterMap_le _ _) ?_
    rw [List.length_take]; exact Nat.min_le_left _ _
  by_cases hl : i < ds.length
  · obtain ⟨g1, g2⟩ := r1 _ (List.getElem?_eq_getElem hl)
    refine .inr ⟨g1, fun H3 => i + 1 ≤ ds.length ∧ ∃ F2 m2 acc, Ex F1 F2 ∧ Pre m1 m2 ∧ Sim c.K F2 (upd G Dl (.lst acc)) m2 A1 σ H3 ∧ Reps c.K F2 m2 acc ((es.take (i + 1)).filterMap id), fun H3 hN => ⟨_, by omega, rfl, hN⟩, fun x H3 hy => ?_⟩
    obtain ⟨F3, e3, S3, R3⟩ := g2 x H3 hy
    have E3 : EOk c F3 (upd G Dl (.lst acc)) m2 := (E.weakG (sub _)).mono ((e1.trans e2).trans e3) (p1.trans p2)
    have S3w : Sim c.K F3 (upd G Dl (.lst acc)) m2 ⟨wipeA A1.s vs, A1.o⟩ (wipe σ vs) H3 := ⟨S3.h, S3.s.wipe vs⟩
    have ww : wipe (wipe σ vs) vs = wipe σ vs := by
      apply List.ext_getElem?
      intro j
      by_cases hj : j ∈ vs
      · have z : ∀ (us : List Nat) (τ : St), j ∈ us → (wipe τ us)[j]? = if j < τ.length then some none else none := fun us => by
          induction us with
          | nil => intro τ h; cases h
          | cons u us ih =>
            intro τ h
            unfold wipe
            by_cases y : u = j
            · subst y
              by_cases hl : u < τ.length
              · rw [List.getElem?_set_self (by rw [wipe_length]; exact hl), if_pos hl]
              · rw [if_neg hl, List.getElem?_eq_none (by rw [List.length_set, wipe_length]; omega)]
            · rw [List.getElem?_set_ne y]
              exact ih τ (by simpa [show ¬ j = u from fun z => y z.symm] using h)
        rw [z vs _ hj, z vs _ hj, wipe_length]
      · rw [wipe_not hj]
    have hgx := hg x (wipe σ vs) H3 (fun σ2 H4 => tt σ2 H4 fun b H5 => if b = true then te σ2 H5 fun y H6 => ∃ acc', H6 Dl = some (.lst acc') ∧ acc'.length < sizeLine ∧ (i + 1 ≤ ds.length ∧ ∃ F2 m2 acc, Ex F1 F2 ∧ Pre m1 m2 ∧ Sim c.K F2 (upd G Dl (.lst acc)) m2 A1 σ (upd H6 Dl (.lst (acc' ++ [y]))) ∧ Reps c.K F2 m2 acc ((es.take (i + 1)).filterMap id)) else
      (i + 1 ≤ ds.length ∧ ∃ F2 m2 acc, Ex F1 F2 ∧ Pre m1 m2 ∧ Sim c.K F2 (upd G Dl (.lst acc)) m2 A1 σ H5 ∧ Reps c.K F2 m2 acc ((es.take (i + 1)).filterMap id)))
    rw [ww] at hgx
    refine hgx (hs i _ (List.getElem?_eq_getElem hl) F3 _ m2 (wipe σ vs) H3 x S3w R3 E3 _ fun F4 m4 A4 σ4 H4 e4 p4 S4 q4 ew => ?_)
    have x4 := e2.trans (e3.trans e4)
    have y4 := p2.trans p4
    refine q4 F4 _ m4 σ4 H4 S4 (E3.mono e4 p4) _ fun F5 m5 A5 b H5 e5 p5 S5 q5 => ?_
    have tk : ∀ o, es[i]? = some o → es.take (i + 1) = es.take i ++ [o] := fun o ho => by rw [List.take_add_one, ho]; rfl
    cases b with
    | false =>
      obtain ⟨h1, h2, h3⟩ := q5.2 rfl
      show i + 1 ≤ ds.length ∧ _
      refine ⟨hl, F5, m5, acc, x4.trans e5, y4.trans p5, S2.unwipe S5 (e3.trans (e4.trans e5)) (p4.trans p5) h2 h3 ew no, ?_⟩
      rw [tk _ h1, List.filterMap_append]
      show Reps c.K F5 m5 acc (_ ++ [])
      rw [List.append_nil]
      exact R2.mono (e3.trans (e4.trans e5)) (p4.trans p5)
    | true =>
      show te σ4 H5 _
      refine (WE.frz (q5.1 rfl)) F5 _ m5 σ4 H5 S5 (E3.mono (e4.trans e5) (p4.trans p5)) _ fun F6 m6 A6 y H6 r e6 p6 S6 R6 q6 => ?_
      obtain ⟨d, er, h1, h2, h3⟩ := q6
      subst er
      have z6 := e3.trans (e4.trans (e5.trans e6))
      have w6 := p4.trans (p5.trans p6)
      refine ⟨acc, S6.h.exG Dl _ upd_same, Nat.lt_of_le_of_lt hacc (Nat.lt_of_lt_of_le (Nat.lt_trans hl hlen) (by decide)), hl, F6, m6, acc ++ [y], e2.trans z6, p2.trans w6, (S2.unwipe S6 z6 w6 h2 h3 ew no).setG, ?_⟩
      rw [tk _ h1, List.filterMap_append]
      exact (R2.mono z6 w6).app (.cons R6 .nil)
  · have ei : i = ds.length := by omega
    subst ei
    rw [← hes, List.take_length] at R2
    have gs := S2.h.exG Dl _ upd_same
    have fD : F2 Dl = none := by
      cases y : F2 Dl with
      | none => rfl
      | some u => have z := S2.h.dj Dl u y; rw [upd_same] at z; cases z
    exact .inl ⟨r2 (Nat.le_refl _), k F2 m2 A1 Dl acc H2 _ (e1.trans e2) (p1.trans p2) (S2.weakG (sub _)) fD gD (fun n e => by have z := S2.h.mG n Dl e; rw [upd_same] at z; cases z) nD gs R2 q⟩
end
end AL

namespace AL
open PySem L2
/-! ### what a def promises, in the abstract -/
abbrev XO := List Cell → Addr → List (Str × D) → Prop
/-- arguments, cells, what follows, what is raised -/
abbrev Contract := List D → List Cell → (List Cell → D → Prop) → XO → Prop
def SpA (K : PySem.W.Frag) (Φ : Contract) : Sp := fun vs H Q E => ∃ F G m O ds R X, HS K F G m O H ∧ Reps K F m vs ds ∧ Φ ds O R X ∧
  (∀ F' m' O' v d H', Ex F F' → Pre m m' → HS K F' G m' O' H' → Rep K F' m' v d → R O' d → Q v H') ∧
  (∀ F' m' O' C dx fvs fs H', Ex F F' → Pre m m' → HS K F' G m' O' H' → F' dx = some (.xd fvs) → RepF K F' m' fvs fs → X O' C fs → E (.ref C) (some dx) H')
theorem SpA.len {K : PySem.W.Frag} {Φ : Contract} {n : Nat} (h : ∀ ds O R X, Φ ds O R X → ds.length = n) {vs : List V} {H : Hp} {Q : VK} {E : XK} (s : SpA K Φ vs H Q E) : vs.length = n := by
  obtain ⟨F, G, m, O, ds, R, X, hs, rs, p, _⟩ := s
  rw [rs.len]; exact h _ _ _ _ p
theorem SpA.imp {K : PySem.W.Frag} {Φ Ψ : Contract} (h : ∀ ds O R X, Ψ ds O R X → Φ ds O R X) (vs : List V) (H : Hp) (Q : VK) (E : XK) (s : SpA K Ψ vs H Q E) : SpA K Φ vs H Q E := by
  obtain ⟨F, G, m, O, ds, R, X, hs, rs, p, q⟩ := s
  exact ⟨F, G, m, O, ds, R, X, hs, rs, h _ _ _ _ p, q⟩
section
variable {c : Ct} {A : AS} {te ta tb tl to : TE} {t u tt : TT} {x y : RV} {Q : QE}
theorem we_callX {Φ : Contract} {E : XK} {dvs : List V} {dds : List D} {t : TA} (hE : ∀ σ, c.E σ = E) (hd : ∀ F m, Reps c.K F m dvs dds) (h : WA c t A fun A1 ds => Φ (ds ++ dds) A1.o (fun O' d => Q ⟨A1.s, O'⟩ (.val d)) (fun O' C fs => c.X ⟨A1.s, O'⟩ C fs)) : WE c (tCall (SpA c.K Φ) dvs E t) A Q := fun F G m σ H S Eo Qc k =>
  h F G m σ H S Eo _ fun F1 m1 A1 vs H1 ds e1 p1 S1 R1 q =>
    ⟨F1, callG A1.s σ G H1, m1, A1.o, ds ++ dds, _, _, S1.call, R1.app (hd _ _), q, fun F' m' O' v d H' e p hs r rr => k F' m' ⟨A1.s, O'⟩ v H' (.val d) (e1.trans e) (p1.trans p) (S1.back e p hs) r rr,
      fun F' m' O' C dx fvs fs H' e p hs fx rf xx => by
        have z := Eo.x F' m' ⟨A1.s, O'⟩ σ H' C dx fvs fs (e1.trans e) (p1.trans p) (S1.back e p hs) fx rf xx
        rw [hE] at z; exact z⟩
/-- a call of a def that lets nothing out -/
theorem we_call {Φ : Contract} {E : XK} {dvs : List V} {dds : List D} {t : TA} (hd : ∀ F m, Reps c.K F m dvs dds) (h : WA c t A fun A1 ds => Φ (ds ++ dds) A1.o (fun O' d => Q ⟨A1.s, O'⟩ (.val d)) (fun _ _ _ => False)) : WE c (tCall (SpA c.K Φ) dvs E t) A Q := fun F G m σ H S Eo Qc k =>
  h F G m σ H S Eo _ fun F1 m1 A1 vs H1 ds e1 p1 S1 R1 q =>
    ⟨F1, callG A1.s σ G H1, m1, A1.o, ds ++ dds, _, _, S1.call, R1.app (hd _ _), q, fun F' m' O' v d H' e p hs r rr => k F' m' ⟨A1.s, O'⟩ v H' (.val d) (e1.trans e) (p1.trans p) (S1.back e p hs) r rr, fun F' m' O' C dx fvs fs H' e p hs fx rf xx => xx.elim⟩
theorem we_call0 {Φ : Contract} {E : XK} {t : TA} (h : WA c t A fun A1 ds => Φ ds A1.o (fun O' d => Q ⟨A1.s, O'⟩ (.val d)) (fun _ _ _ => False)) : WE c (tCall (SpA c.K Φ) [] E t) A Q :=
  we_call (dds := []) (fun _ _ => .nil) (by simpa using h)
/-- the slots at a def's entry -/
def entry (n : Nat) (ds : List D) : List (Option SV) := ds.map (fun d => some (.val d)) ++ List.replicate (n - ds.length) none
theorem entry_ok {K : PySem.W.Frag} {F G : Hp} {m : List Addr} {H : Hp} {N : List Str} {vs : List V} {ds : List D} (r : Reps K F m vs ds) : SS K F G m (entry N.length ds) (L2.start N vs) H where
  len := by unfold entry L2.start; simp [r.len]
  at_ := fun i x y e1 e2 => by
    unfold L2.start at e1
    unfold entry at e2
    by_cases h : i < ds.length
    · rw [List.getElem?_append_left (by rw [List.length_map]; exact h), List.getElem?_map, List.getElem?_eq_getElem h] at e2
      rw [List.getElem?_append_left (by rw [List.length_map, r.len]; exact h), List.getElem?_map] at e1
      obtain ⟨v, ev, rv⟩ := r.get (List.getElem?_eq_getElem h)
      rw [ev] at e1
      cases e1; cases e2; exact rv
    · rw [List.getElem?_append_right (by rw [List.length_map]; omega)] at e2
      rw [List.getElem?_replicate] at e2
      split at e2
      · cases e2; cases x <;> trivial
      · cases e2
  own := fun i j c1 c2 v n e1 e2 e3 e4 => by
    unfold entry at e1
    by_cases h : i < ds.length
    · rw [List.getElem?_append_left (by rw [List.length_map]; exact h), List.getElem?_map, List.getElem?_eq_getElem h] at e1
      cases e1
    · rw [List.getElem?_append_right (by rw [List.length_map]; omega), List.getElem?_replicate] at e1
      split at e1 <;> cases e1
/-- a def's body keeps its promise -/
theorem run_body {K : PySem.W.Frag} {Φ : Contract} {ts : TS} {N : List Str} {vs : List V} {H : Hp} {Q : VK} {E : XK} (h : SpA K Φ vs H Q E)
    (hb : ∀ ds O R X, Φ ds O R X → WS ⟨K, fun _ => E, fun A C fs => X A.o C fs, none⟩ ts ⟨entry N.length ds, O⟩ { nx := fun A => R A.o .non, rt := R }) : ts { nx := fun _ H' => Q .non H', rt := Q } (L2.start N vs) H := by
  obtain ⟨F, G, m, O, ds, R, X, hs, rs, p, q, xq⟩ := h
  refine hb ds O R X p F G m (L2.start N vs) H ⟨hs, entry_ok rs⟩ ⟨fun F' m' A' σ' H' C dx fvs fs e pr S fx rf xx => xq F' m' A'.o C dx fvs fs H' e pr S.h fx rf xx, fun _ _ z => nomatch z⟩ _ ⟨fun F' m' A' σ' H' e pr S z => ?_, fun F' m' O' v d H' e pr hs' r z => ?_, fun F' m' A' σ' H' e pr S z => z.elim, fun F' m' A' σ' H' e pr S z => z.elim⟩
  · exact q F' m' A'.o .non .non H' e pr S.h .non z
  · exact q F' m' O' v d H' e pr hs' r z
/-! ### own lists change -/
theorem Sim.ownSet {K : PySem.W.Frag} {F G : Hp} {m : List Addr} {σ : St} {H : Hp} {i : Nat} {a : Addr} {c1 c2 : Cell} {o : HO} (S : Sim K F G m A σ H) (hs : A.s[i]? = some (some (.own c1))) (hσ : σ[i]? = some (some (.ref a))) (l : c2.live) (hc : CellAt K F m (upd H a o) a c2) :
    Sim K F G m (A.setS i (.own c2)) σ (upd H a o) := by
  obtain ⟨b, q, l1, f, g, mm, cc⟩ := S.s.ownAt hs
  rw [hσ] at q; cases q
  refine ⟨S.h.mut f g mm, by rw [S.s.len]; exact (List.length_set ..).symm, fun j x y e1 e2 => ?_, fun j k d1 d2 v n e1 e2 e3 e4 => ?_⟩
  · by_cases z : j = i
    · subst z
      have hl : j < A.s.length := (List.getElem?_eq_some_iff.mp hs).1
      have e2' : (A.s.set j (some (.own c2)))[j]? = some y := e2
      rw [List.getElem?_set_self hl] at e2'
      cases e2'
      rw [hσ] at e1; cases e1
      exact ⟨a, rfl, l, f, g, mm, hc⟩
    · have e2' : (A.s.set i (some (.own c2)))[j]? = some y := e2
      rw [List.getElem?_set_ne (Ne.symm z)] at e2'
      have q := S.s.at_ j x y e1 e2'
      match x, y, q, e1, e2' with
      | _, none, _, _, _ => cases x <;> trivial
      | some v, some (.val d), q, _, _ => exact q
      | some v, some (.own c), ⟨b, eb, lb, fb, gb, mb, cb⟩, e1, e2' =>
        subst eb
        have nab : b ≠ a := fun y => by subst y; exact S.s.own j i _ _ _ z e2' hs e1 hσ
        exact ⟨b, rfl, lb, fb, gb, mb, cb.mono (fun _ _ h => h) (Pre.refl _) (upd_ne nab)⟩
  · have old : ∀ (j : Nat) d, (A.setS i (.own c2)).s[j]? = some (some (.own d)) → ∃ d', A.s[j]? = some (some (.own d')) := fun j d e => by
      have e' : (A.s.set i (some (.own c2)))[j]? = some (some (.own d)) := e
      by_cases z : j = i
      · subst z; exact ⟨_, hs⟩
      · rw [List.getElem?_set_ne (Ne.symm z)] at e'; exact ⟨_, e'⟩
    obtain ⟨d1', z1⟩ := old j d1 e1
    obtain ⟨d2', z2⟩ := old k d2 e2
    exact S.s.own j k _ _ v n z1 z2 e3 e4
variable {B : EA}
/-- xs.append(e), xs a list that the name alone has -/
theorem ws_append {i : Nat} {ds0 : List D} (h0 : A.s[i]? = some (some (.own (.lst ds0)))) (h : WE c te A fun A1 r => Frz A1 r fun A2 d => ∃ ds, A2.s[i]? = some (some (.own (.lst ds))) ∧ ds.length < 100000 ∧ B.nx (A2.setS i (.own (.lst (ds ++ [d]))))) :
    WS c (tDrop (tBM c.K "list" rAppend (tVar i) (tCons te tNil))) A B := fun F G m σ H S E Dc k => by
  obtain ⟨a, e, _, _, _, _, vs0, hv0, _⟩ := S.s.ownAt h0
  refine ⟨.ref a, e, .inl ⟨rfl, vs0, .inl (.inl hv0)⟩, (WE.frz h) F G m σ H S E _ fun F1 m1 A1 v H1 r e1 p1 S1 R1 ⟨d, er, ds, hs, hl, q⟩ => ?_⟩
  subst er
  obtain ⟨b, eb, _, _, _, _, vs, hv, rv⟩ := S1.s.ownAt hs
  rw [e] at eb; cases eb
  exact ⟨a, vs, v, rfl, rfl, hv, Nat.lt_of_lt_of_le (by rw [rv.len]; exact hl) (by decide), k.nx F1 m1 _ σ _ e1 p1 (S1.ownSet (c2 := .lst (ds ++ [d])) hs e trivial ⟨_, upd_same, rv.app (.cons R1 .nil)⟩) q⟩
/-- xs[j] = e, xs a list that the name alone has -/
theorem ws_setitem {i : Nat} (h : WE c te A fun A1 r => Frz A1 r fun A2 d => ∃ ds0, A2.s[i]? = some (some (.own (.lst ds0))) ∧ WE c tb A2 fun A3 y => ∃ n : Int, y = .val (.int n) ∧ ∃ (ds : List D) (j : Nat), A3.s[i]? = some (some (.own (.lst ds))) ∧ ixN ds.length n = some j ∧ B.nx (A3.setS i (.own (.lst (ds.set j d))))) :
    WS c (tAsg te (gSub (tVar i) tb rSetL)) A B := fun F G m σ H S E Dc k => (WE.frz h) F G m σ H S E _ fun F1 m1 A1 v H1 r e1 p1 S1 R1 ⟨d, er, ds0, h0, q⟩ => by
  subst er
  obtain ⟨a, ea, _⟩ := S1.s.ownAt h0
  refine ⟨.ref a, ea, q F1 G m1 σ H1 S1 (E.mono e1 p1) _ fun F2 m2 A2 w H2 y e2 p2 S2 R2 ⟨n, ey, ds, j, h1, hj, q2⟩ => ?_⟩
  subst ey
  cases R2
  obtain ⟨b, eb, _, _, _, _, vs, hv, rv⟩ := S2.s.ownAt h1
  rw [ea] at eb; cases eb
  exact ⟨a, vs, n, j, rfl, rfl, hv, by rw [rv.len]; exact hj, k.nx F2 m2 _ σ _ (e1.trans e2) (p1.trans p2) (S2.ownSet (c2 := .lst (ds.set j d)) h1 ea trivial ⟨_, upd_same, Reps.set (Rep.mono e2 p2 R1) j rv⟩) q2⟩
/-! ### slices -/
def rSlAA (K : PySem.W.Frag) := orS (rSlL K) (rSlP K)
theorem sl_AA {X : Cx} : SlR X (rSlAA X.K) := sl_or sl_list sl_tupP
theorem cutV_reps {K : PySem.W.Frag} {F : Hp} {m : List Addr} {vs : List V} {ds : List D} {lo hi : Option Int} (r : Reps K F m vs ds) : Reps K F m (cutV vs lo hi) ((ds.drop (HT.sIx ds.length 0 lo)).take (HT.sIx ds.length ds.length hi - HT.sIx ds.length 0 lo)) := by
  unfold cutV; rw [r.len]; exact (r.drop _).take _
def cutD (ds : List D) (lo hi : Option Int) : List D := (ds.drop (HT.sIx ds.length 0 lo)).take (HT.sIx ds.length ds.length hi - HT.sIx ds.length 0 lo)
/-- a slice of a list: a new list -/
theorem wn_slL {ta : TE} {tlo thi : TO} {Q : AS → List D → Prop} (h : WE c ta A fun A1 x => WO c tlo A1 fun A2 lo => WO c thi A2 fun A3 hi => ∃ ds, lsOf A1 x = some ds ∧ lsOf A3 x = some ds ∧ Stays A1 A3 x ∧ Q A3 (cutD ds lo hi)) : WN c (tSl (rSlAA c.K) ta tlo thi) A Q := fun F G m σ H S E Qc k =>
  h F G m σ H S E _ fun F1 m1 A1 v H1 x e1 p1 S1 R1 q => q F1 G m1 σ H1 S1 (E.mono e1 p1) _ fun F2 m2 A2 lo H2 e2 p2 S2 q2 => q2 F2 G m2 σ H2 S2 (E.mono (e1.trans e2) (p1.trans p2)) _ fun F3 m3 A3 hi H3 e3 p3 S3 q3 => by
    obtain ⟨ds, l1, l2, st, q4⟩ := q3
    have R3 := R1.stay (e2.trans e3) (p2.trans p3) st
    obtain ⟨a, vs, rfl, hs, rv⟩ := rep_ls S3 R3 l2
    exact .inl ⟨a, vs, rfl, hs, fun p hp => k F3 m3 A3 p _ _ _ ((e1.trans e2).trans e3) ((p1.trans p2).trans p3) (S3.new hp) (S3.h.fresh hp).1 (S3.h.fresh hp).2.1 (S3.h.fresh hp).2.2 (S3.notOwn hp) upd_same (cutV_reps rv) q4⟩
/-- a slice of a tuple -/
theorem we_slT {ta : TE} {tlo thi : TO} (h : WE c ta A fun A1 x => WO c tlo A1 fun A2 lo => WO c thi A2 fun A3 hi => ∃ ds, x = .val (.tup ds) ∧ Q A3 (.val (.tup (cutD ds lo hi)))) : WE c (tSl (rSlAA c.K) ta tlo thi) A Q := fun F G m σ H S E Qc k =>
  h F G m σ H S E _ fun F1 m1 A1 v H1 x e1 p1 S1 R1 q => q F1 G m1 σ H1 S1 (E.mono e1 p1) _ fun F2 m2 A2 lo H2 e2 p2 S2 q2 => q2 F2 G m2 σ H2 S2 (E.mono (e1.trans e2) (p1.trans p2)) _ fun F3 m3 A3 hi H3 e3 p3 S3 q3 => by
    obtain ⟨ds, ex, q4⟩ := q3
    subst ex
    have R3 : Rep c.K F3 m3 v (.tup ds) := Rep.mono (e2.trans e3) (p2.trans p3) R1
    cases R3 with
    | tup pt rv =>
      rename_i a vs
      refine .inr ⟨a, vs, rfl, Evl.ex_t S3.h.exF pt.seq, fun hw => ?_, fun hw p its hp => ?_⟩
      · refine k F3 m3 A3 _ H3 (.val (.tup (cutD ds lo hi))) ((e1.trans e2).trans e3) ((p1.trans p2).trans p3) S3 ?_ q4
        show Rep c.K F3 m3 (.ref a) (.tup (cutD ds lo hi))
        refine .tup pt ?_
        have z := cutV_reps (lo := lo) (hi := hi) rv
        have z2 : cutV vs lo hi = vs := by
          unfold cutV
          rw [hw.1, hw.2, List.drop_zero, Nat.sub_zero, List.take_length]
        rw [z2] at z; exact z
      · have ex : Ex F3 (upd F3 p (tupHO its (cutV vs lo hi))) := ex_upd (S3.h.fresh hp).1
        exact k _ m3 A3 _ _ (.val (.tup (cutD ds lo hi))) (((e1.trans e2).trans e3).trans ex) ((p1.trans p2).trans p3) (S3.frz hp) (show Rep c.K _ _ _ _ from .tup (.inl ⟨its, upd_same⟩) ((cutV_reps rv).mono ex (Pre.refl _))) q4
/-! ### lists and tuples glued -/
theorem od_catT {ds es : List D} (hl : ds.length + es.length ≤ 10000) (q : Q A (.val (.tup (ds ++ es)))) : OpD c (rAddA c.K) (.val (.tup ds)) (.val (.tup es)) A Q := fun F G m σ H v w S E R1 R2 Qc k => by
  cases R1 with
  | tup pt rv =>
    rename_i a vs
    cases R2 with
    | tup pt2 rv2 =>
      rename_i b ws
      refine .inr (.inr (.inl ⟨a, b, vs, ws, rfl, rfl, Evl.ex_t S.h.exF pt.seq, Evl.ex_t S.h.exF pt2.seq, Nat.le_trans (by rw [rv.len, rv2.len]; exact hl) (by decide), fun z => ?_, fun _ z => ?_, fun _ _ p its hp => ?_⟩))
      · subst z
        have e : ds = [] := by cases rv; rfl
        subst e
        exact k F m A _ H (.val (.tup ([] ++ es))) (Evl.Ex.refl F) (Pre.refl m) S (Rep.tup pt2 rv2) q
      · subst z
        have e : es = [] := by cases rv2; rfl
        subst e
        exact k F m A _ H (.val (.tup (ds ++ []))) (Evl.Ex.refl F) (Pre.refl m) S (show Rep c.K F m _ _ by rw [List.append_nil]; exact Rep.tup pt rv) q
      · have ex : Ex F (upd F p (tupHO its (vs ++ ws))) := ex_upd (S.h.fresh hp).1
        exact k _ m A _ _ (.val (.tup (ds ++ es))) ex (Pre.refl m) (S.frz hp) (show Rep c.K _ _ _ _ from .tup (.inl ⟨its, upd_same⟩) ((rv.app rv2).mono ex (Pre.refl _))) q
/-- xs + ys, a new list -/
theorem wn_cat {ta tb : TE} {Q : AS → List D → Prop} (h : WE c ta A fun A1 x => WE c tb A1 fun A2 y => ∃ ds es, Stays A1 A2 x ∧ lxOf A2 x = some ds ∧ lxOf A2 y = some es ∧ ds.length + es.length ≤ 10000 ∧ Q A2 (ds ++ es)) : WN c (tOp (rAddA c.K) ta tb) A Q := fun F G m σ H S E Qc k =>
  h F G m σ H S E _ fun F1 m1 A1 v H1 x e1 p1 S1 R1 q => q F1 G m1 σ H1 S1 (E.mono e1 p1) _ fun F2 m2 A2 w H2 y e2 p2 S2 R2 q2 => by
    obtain ⟨ds, es, st, l1, l2, hl, q3⟩ := q2
    obtain ⟨a, vs, rfl, hv, rv⟩ := rep_lx S2 (R1.stay e2 p2 st) l1
    obtain ⟨b, ws, rfl, hw, rw_⟩ := rep_lx S2 R2 l2
    exact .inr (.inl ⟨a, b, vs, ws, rfl, rfl, hv, hw, Nat.le_trans (by rw [rv.len, rw_.len]; exact hl) (by decide), fun p hp => k F2 m2 A2 p _ _ _ (e1.trans e2) (p1.trans p2) (S2.new hp) (S2.h.fresh hp).1 (S2.h.fresh hp).2.1 (S2.h.fresh hp).2.2 (S2.notOwn hp) upd_same (rv.app rw_) q3⟩)
/-- xs * n, a new list -/
theorem wn_rep {ta tb : TE} {Q : AS → List D → Prop} (h : WE c ta A fun A1 x => WE c tb A1 fun A2 y => ∃ (ds : List D) (n : Int), y = .val (.int n) ∧ Stays A1 A2 x ∧ lxOf A2 x = some ds ∧ (-1000 < n ∧ n < 1000) ∧ ds.length * n.toNat ≤ 10000 ∧ Q A2 (List.replicate n.toNat ds).flatten) : WN c (tOp rMulA ta tb) A Q := fun F G m σ H S E Qc k =>
  h F G m σ H S E _ fun F1 m1 A1 v H1 x e1 p1 S1 R1 q => q F1 G m1 σ H1 S1 (E.mono e1 p1) _ fun F2 m2 A2 w H2 y e2 p2 S2 R2 q2 => by
    obtain ⟨ds, n, ey, st, l1, hn, hl, q3⟩ := q2
    subst ey
    cases R2
    obtain ⟨a, vs, rfl, hv, rv⟩ := rep_lx S2 (R1.stay e2 p2 st) l1
    exact .inr (.inr ⟨a, n, vs, rfl, rfl, hv, by omega, by omega, Nat.le_trans (by rw [rv.len]; exact hl) (by decide), fun p hp => k F2 m2 A2 p _ _ _ (e1.trans e2) (p1.trans p2) (S2.new hp) (S2.h.fresh hp).1 (S2.h.fresh hp).2.1 (S2.h.fresh hp).2.2 (S2.notOwn hp) upd_same (rv.flat _) q3⟩)
/-! ### xs.index(y): a list or a tuple of ints -/
def tIndexA (K : PySem.W.Frag) (to : TE) (t : TA) : TE := orE (tBM K "list" (rIndex K) to t) (tIndexT K to t)
theorem flat_intsV (ns : List Int) : (ns.map V.int).all flatV = true := by
  rw [List.all_map]; exact List.all_eq_true.mpr fun _ _ => rfl
theorem int_at {ns : List Int} {j : Nat} {z : V} (h : (ns.map V.int)[j]? = some z) : ∃ i, ns[j]? = some i ∧ z = .int i := by
  rw [List.getElem?_map] at h
  cases e : ns[j]? with
  | none => rw [e] at h; cases h
  | some i => rw [e] at h; cases h; exact ⟨i, rfl, rfl⟩
theorem eqV_int (i j : Int) : eqV (.int i) (.int j) = decide (i = j) := by
  by_cases h : i = j
  · subst h; simp [eqV]
  · simp [eqV, h]
theorem we_indexL {t : TA} (h : WE c to A fun A1 x => ∃ ds0, lsOf A1 x = some ds0 ∧ WAr c t A1 fun A2 rs => ∃ (ns : List Int) (y : Int) (j : Nat), rs = [.val (.int y)] ∧ Stays A1 A2 x ∧ lsOf A2 x = some (ns.map .int) ∧ ns[j]? = some y ∧ (∀ m : Nat, m < j → ns[m]? ≠ some y) ∧ Q A2 (.val (.int (j : Nat)))) : WE c (tIndexA c.K to t) A Q := fun F G m σ H S E Qc k =>
  .inl (h F G m σ H S E _ fun F1 m1 A1 v H1 x e1 p1 S1 R1 ⟨ds0, l0, q⟩ => by
    obtain ⟨a, vs, rfl, hs, rv⟩ := rep_ls S1 R1 l0
    refine ⟨.inl ⟨rfl, vs, hs⟩, q F1 G m1 σ H1 S1 (E.mono e1 p1) _ fun F2 m2 A2 ws H2 rs e2 p2 S2 R2 q2 => ?_⟩
    obtain ⟨ns, y, j, er, st, l2, hj, hn, q3⟩ := q2
    subst er
    obtain ⟨w, rfl, rw_⟩ := rs1 R2
    cases rw_
    obtain ⟨b, us, eb, hu, ru⟩ := rep_ls S2 (R1.stay e2 p2 st) l2
    cases eb
    rw [ru.ints] at hu
    refine ⟨a, _, .int y, j, .int y, rfl, rfl, hu, rfl, flat_intsV ns, by rw [List.getElem?_map, hj]; rfl, by rw [eqV_int]; simp, fun i z hi hz => ?_, k F2 m2 A2 _ H2 (.val (.int (j : Nat))) (e1.trans e2) (p1.trans p2) S2 (Rep.int _) q3⟩
    obtain ⟨n, h1, rfl⟩ := int_at hz
    rw [eqV_int]
    exact decide_eq_false fun z => hn i hi (z ▸ h1))
theorem we_indexT {t : TA} (h : WE c to A fun A1 x => ∃ (ns : List Int), x = .val (.tup (ns.map .int)) ∧ WAr c t A1 fun A2 rs => ∃ (y : Int) (j : Nat), rs = [.val (.int y)] ∧ ns[j]? = some y ∧ (∀ m : Nat, m < j → ns[m]? ≠ some y) ∧ Q A2 (.val (.int (j : Nat)))) : WE c (tIndexA c.K to t) A Q := fun F G m σ H S E Qc k =>
  .inr (h F G m σ H S E _ fun F1 m1 A1 v H1 x e1 p1 S1 R1 ⟨ns, ex, q⟩ => by
    subst ex
    cases R1 with
    | tup pt rv =>
      rename_i a vs
      have ev := rv.ints
      subst ev
      refine ⟨a, _, rfl, pt.mono S1.h.exF, q F1 G m1 σ H1 S1 (E.mono e1 p1) _ fun F2 m2 A2 ws H2 rs e2 p2 S2 R2 q2 => ?_⟩
      obtain ⟨y, j, er, hj, hn, q3⟩ := q2
      subst er
      obtain ⟨w, rfl, rw_⟩ := rs1 R2
      cases rw_
      refine ⟨.int y, j, .int y, (pt.mono e2).mono S2.h.exF, rfl, rfl, flat_intsV ns, by rw [List.getElem?_map, hj]; rfl, by rw [eqV_int]; simp, fun i z hi hz => ?_, k F2 m2 A2 _ H2 (.val (.int (j : Nat))) (e1.trans e2) (p1.trans p2) S2 (Rep.int _) q3⟩
      obtain ⟨n, h1, rfl⟩ := int_at hz
      rw [eqV_int]
      exact decide_eq_false fun z => hn i hi (z ▸ h1))
end
end AL

namespace AL
open PySem L2
section
variable {c : Ct} {A : AS} {te ta tb tl to : TE} {t u tt : TT} {x y : RV} {Q : QE} {B : EA}
/-! ### enumerate, zip -/
theorem Sim.tupNew {K : PySem.W.Frag} {F G : Hp} {m : List Addr} {A : AS} {σ : St} {H : Hp} (S : Sim K F G m A σ H) {p : Addr} {vs : List V} {ds : List D} (hp : H p = none) (r : Reps K F m vs ds) :
    ∃ F', Ex F F' ∧ Sim K F' G m A σ (upd H p (.tup vs)) ∧ Rep K F' m (.ref p) (.sct ds) :=
  have ex : Ex F (upd F p (.tup vs)) := ex_upd (S.h.fresh hp).1
  ⟨upd F p (.tup vs), ex, S.frz hp, .sct (.inl (.inl upd_same)) (r.mono ex (Pre.refl _))⟩
/-- place and item -/
def enumD (ds : List D) : List D := (List.range ds.length).map fun i => .sct [.int (i : Nat), ds.getD i .non]
theorem enumD_len (ds : List D) : (enumD ds).length = ds.length := by simp [enumD]
theorem getDx {α : Type} {xs : List α} {i : Nat} {d x : α} (h : xs[i]? = some x) : xs.getD i d = x := by simp [List.getD, h]
theorem enumD_at {ds : List D} {i : Nat} {d : D} (h : (enumD ds)[i]? = some d) : ∃ e, ds[i]? = some e ∧ d = .sct [.int (i : Nat), e] := by
  have hl := (List.getElem?_eq_some_iff.mp h).1
  rw [enumD_len] at hl
  unfold enumD at h
  rw [List.getElem?_map, List.getElem?_range hl] at h
  cases h
  exact ⟨_, List.getElem?_eq_getElem hl, by show D.sct [D.int (i : Nat), ds.getD i .non] = _; rw [getDx (List.getElem?_eq_getElem hl)]⟩
theorem real_eT {K : PySem.W.Frag} {F : Hp} {m : List Addr} {a : Addr} {vs : List V} {ds : List D} (h : SqT K F a vs) (r : Reps K F m vs ds) : Real K F m (IteT K a) (enumD ds) := fun F2 G m2 A2 σ H e p S i =>
  have hs : SqT K H a vs := Evl.ex_t S.h.exF (Evl.ex_t e h)
  ⟨fun d hd => by
    obtain ⟨e1, he, rfl⟩ := enumD_at hd
    obtain ⟨v, hv, rv⟩ := r.get he
    refine ⟨⟨vs, v, hs, hv⟩, fun x H' y => ?_⟩
    obtain ⟨T, v2, rfl, hT, rfl, y⟩ := y
    have e2 := y vs hs
    rw [hv] at e2; cases e2
    obtain ⟨F3, e3, S3, R3⟩ := S.tupNew hT (.cons (.int (i : Nat)) (.cons (rv.mono e p) .nil))
    exact ⟨F3, e3, S3, R3⟩, fun hl => ⟨vs, hs, by rw [r.len, ← enumD_len]; exact hl⟩⟩
theorem real_eL {K : PySem.W.Frag} {F : Hp} {m : List Addr} {a : Addr} {vs : List V} {ds : List D} (h : SqL K F a vs) (r : Reps K F m vs ds) : Real K F m (Ite K a) (enumD ds) := fun F2 G m2 A2 σ H e p S i =>
  have hs : SqL K H a vs := Evl.ex_l S.h.exF (Evl.ex_l e h)
  ⟨fun d hd => by
    obtain ⟨e1, he, rfl⟩ := enumD_at hd
    obtain ⟨v, hv, rv⟩ := r.get he
    refine ⟨⟨vs, v, hs, hv⟩, fun x H' y => ?_⟩
    obtain ⟨T, v2, rfl, hT, rfl, y⟩ := y
    have e2 := y vs hs
    rw [hv] at e2; cases e2
    obtain ⟨F3, e3, S3, R3⟩ := S.tupNew hT (.cons (.int (i : Nat)) (.cons (rv.mono e p) .nil))
    exact ⟨F3, e3, S3, R3⟩, fun hl => ⟨vs, hs, by rw [r.len, ← enumD_len]; exact hl⟩⟩
theorem wi_enumT {ta : TA} {Q : AS → List D → Prop} (h : WA c ta A fun A1 es => ∃ ds, (es = [.tup ds] ∨ es = [.sct ds]) ∧ Q A1 (enumD ds)) : WI c (iEnumA c.K ta) A Q := fun F G m σ H S E Rc k =>
  .inr (h F G m σ H S E _ fun F1 m1 A1 vs H1 es e1 p1 S1 R1 ⟨ds, ee, q⟩ => by
    rcases ee with rfl | rfl
    · cases R1 with
      | cons a r =>
        cases r
        cases a with
        | tup pt rv => exact ⟨_, _, rfl, Evl.ex_t S1.h.exF pt.seq, k F1 m1 A1 _ H1 _ e1 p1 S1 (real_eT pt.seq rv) q⟩
    · cases R1 with
      | cons a r =>
        cases r
        cases a with
        | sct pt rv => exact ⟨_, _, rfl, Evl.ex_t S1.h.exF pt, k F1 m1 A1 _ H1 _ e1 p1 S1 (real_eT pt rv) q⟩)
theorem wi_enumL {ta : TA} {Q : AS → List D → Prop} (h : WA c ta A fun A1 es => ∃ ds, es = [.lst ds] ∧ Q A1 (enumD ds)) : WI c (iEnumA c.K ta) A Q := fun F G m σ H S E Rc k =>
  .inl (h F G m σ H S E _ fun F1 m1 A1 vs H1 es e1 p1 S1 R1 ⟨ds, ee, q⟩ => by
    subst ee
    cases R1 with
    | cons a r =>
      cases r
      cases a with
      | lst pt rv => exact ⟨_, _, rfl, .inl (.inl (S1.h.exF _ _ pt)), k F1 m1 A1 _ H1 _ e1 p1 S1 (real_eL (.inl (.inl pt)) rv) q⟩)
/-- items beside one another -/
def zipD (ds es : List D) : List D := (List.range (min ds.length es.length)).map fun i => .sct [ds.getD i .non, es.getD i .non]
theorem zipD_len (ds es : List D) : (zipD ds es).length = min ds.length es.length := by simp [zipD]
theorem zipD_at {ds es : List D} {i : Nat} {d : D} (h : (zipD ds es)[i]? = some d) : ∃ a b, ds[i]? = some a ∧ es[i]? = some b ∧ d = .sct [a, b] := by
  have hl := (List.getElem?_eq_some_iff.mp h).1
  rw [zipD_len] at hl
  unfold zipD at h
  rw [List.getElem?_map, List.getElem?_range hl] at h
  cases h
  have h1 : i < ds.length := by omega
  have h2 : i < es.length := by omega
  exact ⟨_, _, List.getElem?_eq_getElem h1, List.getElem?_eq_getElem h2, by show D.sct [ds.getD i .non, es.getD i .non] = _; rw [getDx (List.getElem?_eq_getElem h1), getDx (List.getElem?_eq_getElem h2)]⟩
theorem real_zT {K : PySem.W.Frag} {F : Hp} {m : List Addr} {a b : Addr} {vs ws : List V} {ds es : List D} (h : SqT K F a vs) (r : Reps K F m vs ds) (h2 : SqT K F b ws) (r2 : Reps K F m ws es) : Real K F m (RZ.ItzT K a b) (zipD ds es) := fun F2 G m2 A2 σ H e p S i =>
  have hs : SqT K H a vs := Evl.ex_t S.h.exF (Evl.ex_t e h)
  have hs2 : SqT K H b ws := Evl.ex_t S.h.exF (Evl.ex_t e h2)
  ⟨fun d hd => by
    obtain ⟨d1, d2, z1, z2, rfl⟩ := zipD_at hd
    obtain ⟨v, hv, rv⟩ := r.get z1
    obtain ⟨w, hw, rw_⟩ := r2.get z2
    refine ⟨⟨vs, ws, v, w, hs, hs2, hv, hw⟩, fun x H' y => ?_⟩
    obtain ⟨T, v2, w2, rfl, hT, rfl, y1, y2⟩ := y
    have q1 := y1 vs hs
    rw [hv] at q1; cases q1
    have q2 := y2 ws hs2
    rw [hw] at q2; cases q2
    obtain ⟨F3, e3, S3, R3⟩ := S.tupNew hT (.cons (rv.mono e p) (.cons (rw_.mono e p) .nil))
    exact ⟨F3, e3, S3, R3⟩, fun hl => ⟨vs, ws, hs, hs2, by rw [zipD_len] at hl; rw [r.len, r2.len]; omega⟩⟩
theorem real_zM {K : PySem.W.Frag} {F : Hp} {m : List Addr} {a b : Addr} {vs ws : List V} {ds es : List D} (h : SqT K F a vs) (r : Reps K F m vs ds) (h2 : SqL K F b ws) (r2 : Reps K F m ws es) : Real K F m (ItM K a b) (zipD ds es) := fun F2 G m2 A2 σ H e p S i =>
  have hs : SqT K H a vs := Evl.ex_t S.h.exF (Evl.ex_t e h)
  have hs2 : SqL K H b ws := Evl.ex_l S.h.exF (Evl.ex_l e h2)
  ⟨fun d hd => by
    obtain ⟨d1, d2, z1, z2, rfl⟩ := zipD_at hd
    obtain ⟨v, hv, rv⟩ := r.get z1
    obtain ⟨w, hw, rw_⟩ := r2.get z2
    refine ⟨⟨vs, ws, v, w, hs, hs2, hv, hw⟩, fun x H' y => ?_⟩
    obtain ⟨T, v2, w2, rfl, hT, rfl, y1, y2⟩ := y
    have q1 := y1 vs hs
    rw [hv] at q1; cases q1
    have q2 := y2 ws hs2
    rw [hw] at q2; cases q2
    obtain ⟨F3, e3, S3, R3⟩ := S.tupNew hT (.cons (rv.mono e p) (.cons (rw_.mono e p) .nil))
    exact ⟨F3, e3, S3, R3⟩, fun hl => ⟨vs, ws, hs, hs2, by rw [zipD_len] at hl; rw [r.len, r2.len]; omega⟩⟩
theorem wi_zipT {ta : TA} {Q : AS → List D → Prop} (h : WA c ta A fun A1 xs => ∃ ds es, xs = [.tup ds, .tup es] ∧ Q A1 (zipD ds es)) : WI c (iZipAA c.K ta) A Q := fun F G m σ H S E Rc k =>
  .inl (h F G m σ H S E _ fun F1 m1 A1 vs H1 xs e1 p1 S1 R1 ⟨ds, es, ee, q⟩ => by
    subst ee
    cases R1 with
    | cons a r =>
      cases r with
      | cons b r =>
        cases r
        cases a with
        | tup pt rv => cases b with
          | tup pt2 rv2 => exact ⟨_, _, _, _, rfl, .inr ⟨Evl.ex_t S1.h.exF pt.seq, Evl.ex_t S1.h.exF pt2.seq, k F1 m1 A1 _ H1 _ e1 p1 S1 (real_zT pt.seq rv pt2.seq rv2) q⟩⟩)
theorem wi_zipM {ta : TA} {Q : AS → List D → Prop} (h : WA c ta A fun A1 xs => ∃ ds es, xs = [.tup ds, .lst es] ∧ Q A1 (zipD ds es)) : WI c (iZipAA c.K ta) A Q := fun F G m σ H S E Rc k =>
  .inr (h F G m σ H S E _ fun F1 m1 A1 vs H1 xs e1 p1 S1 R1 ⟨ds, es, ee, q⟩ => by
    subst ee
    cases R1 with
    | cons a r =>
      cases r with
      | cons b r =>
        cases r
        cases a with
        | tup pt rv => cases b with
          | lst pt2 rv2 => exact ⟨_, _, _, _, rfl, Evl.ex_t S1.h.exF pt.seq, .inl (.inl (S1.h.exF _ _ pt2)), k F1 m1 A1 _ H1 _ e1 p1 S1 (real_zM pt.seq rv (.inl (.inl pt2)) rv2) q⟩)
/-! ### instances -/
/-- the class and the attributes of an instance, frozen or a cell -/
def insOf (A : AS) : RV → Option (Addr × List (Str × D))
  | .val (.obj C fs) => some (C, fs)
  | .val (.ptr n) => match A.o[n]? with
    | some (.ins C fs) => some (C, fs)
    | _ => none
  | _ => none
theorem rep_ins {K : PySem.W.Frag} {F G : Hp} {m : List Addr} {σ : St} {H : Hp} {v : V} {C : Addr} {fs : List (Str × D)} (S : Sim K F G m A σ H) (R : RepR K F m A σ v x) (h : insOf A x = some (C, fs)) : ∃ a dx fv, v = .ref a ∧ H a = some (.ins C dx fv) ∧ RepF K F m fv fs := by
  cases x with
  | slot i => simp [insOf] at h
  | val d =>
    cases d with
    | obj C' gs => cases h; cases R with | obj e r => exact ⟨_, _, _, rfl, S.h.exF _ _ e, r⟩
    | ptr n =>
      cases R with
      | ptr e =>
        simp only [insOf] at h
        split at h
        · rename_i C' gs eo
          cases h
          obtain ⟨_, _, dx, fv, hv, rv⟩ := S.h.cell n _ _ e eo trivial
          exact ⟨_, dx, fv, rfl, hv, rv⟩
        · cases h
    | _ => simp [insOf] at h
theorem we_fld {f : Str} (h : WE c ta A fun A1 x => ∃ C fs d, insOf A1 x = some (C, fs) ∧ Cls c.K C ∧ NoAttr c.K C f ∧ fs.lookup f = some d ∧ Q A1 (.val d)) : WE c (tFld c.K ta f) A Q := fun F G m σ H S E Qc k =>
  h F G m σ H S E _ fun F1 m1 A1 v H1 x e1 p1 S1 R1 ⟨C, fs, d, hi, hC, hn, hl, q⟩ => by
    obtain ⟨a, dx, fv, rfl, hv, rf⟩ := rep_ins S1 R1 hi
    obtain ⟨w, hw, rw_⟩ := rf.look hl
    exact ⟨a, C, dx, fv, w, rfl, hv, hC, hn, hw, k F1 m1 A1 w H1 (.val d) e1 p1 S1 rw_ q⟩
/-- self.f = e, self a cell -/
theorem ws_fld {f : Str} {nx bk ct : AS → Prop} {rt : List Cell → D → Prop} (h : WE c te A fun A1 r => Frz A1 r fun A2 d => WE c ta A2 fun A3 x => ∃ n C fs, x = .val (.ptr n) ∧ A3.o[n]? = some (.ins C fs) ∧ Cls c.K C ∧ NoAttr c.K C f ∧ fs.length < 900 ∧ nx ⟨A3.s, A3.o.set n (.ins C (putD f d fs))⟩) :
    WS c (sFld c.K ta te f) A ⟨nx, rt, bk, ct⟩ := fun F G m σ H S E Dc k => (WE.frz h) F G m σ H S E _ fun F1 m1 A1 v H1 r e1 p1 S1 R1 ⟨d, er, q⟩ => by
  subst er
  refine q F1 G m1 σ H1 S1 (E.mono e1 p1) _ fun F2 m2 A2 w H2 x e2 p2 S2 R2 q2 => ?_
  obtain ⟨n, C, fs, ex, eo, hC, hn, hl, q3⟩ := q2
  subst ex
  cases R2 with
  | ptr em =>
    obtain ⟨f0, g0, dx, fv, hv, rv⟩ := S2.h.cell n _ _ em eo trivial
    have R1' : Rep c.K F2 m2 v d := Rep.mono e2 p2 R1
    refine ⟨_, C, dx, fv, rfl, hv, hC, hn, by rw [rv.len]; omega, k.nx F2 m2 ⟨A2.s, A2.o.set n (.ins C (putD f d fs))⟩ σ _ (e1.trans e2) (p1.trans p2) ⟨S2.h.cset (c' := .ins C (putD f d fs)) em eo trivial trivial ⟨dx, _, upd_same, rv.put R1'⟩, S2.s.go (Evl.Ex.refl _) (Pre.refl _) fun i z a y1 y2 => ?_⟩ q3⟩
    obtain ⟨b, qb, l, f', g', mm, cc⟩ := S2.s.ownAt y1
    rw [y2] at qb; cases qb
    exact ⟨f', mm, upd_ne fun z => mm n (by rw [z]; exact em)⟩
/-- a method of an instance -/
theorem we_meth {C : Addr} {mm : Str} {Φ : Contract} {E : XK} {t : TA} (h : WE c ta A fun A1 x => ∃ d fs, x = .val d ∧ insOf A1 (.val d) = some (C, fs) ∧ fs.lookup mm = none ∧ WA c t A1 fun A2 ds => Φ (d :: ds) A2.o (fun O' e => Q ⟨A2.s, O'⟩ (.val e)) (fun _ _ _ => False)) :
    WE c (tMeth C mm (SpA c.K Φ) [] E ta t) A Q := fun F G m σ H S Eo Qc k => h F G m σ H S Eo _ fun F1 m1 A1 v H1 x e1 p1 S1 R1 ⟨d, fs, ex, hi, hl, q⟩ => by
  subst ex
  obtain ⟨a, dx, fv, rfl, hv, rf⟩ := rep_ins S1 R1 hi
  refine ⟨a, dx, fv, rfl, hv, rf.look0 hl, q F1 G m1 σ H1 S1 (Eo.mono e1 p1) _ fun F2 m2 A2 vs H2 ds e2 p2 S2 R2 q2 => ?_⟩
  refine ⟨F2, callG A2.s σ G H2, m2, A2.o, d :: ds, _, _, S2.call, .cons (Rep.mono e2 p2 R1) (by simpa using R2), q2, fun F' m' O' w e H' e3 p3 hs r rr => k F' m' ⟨A2.s, O'⟩ w H' (.val e) ((e1.trans e2).trans e3) ((p1.trans p2).trans p3) (S2.back e3 p3 hs) r rr, fun F' m' O' C dx fvs fs H' e p hs fx rf xx => xx.elim⟩
/-- a method that may raise -/
theorem we_methX {C : Addr} {mm : Str} {Φ : Contract} {E : XK} {t : TA} (hE : ∀ σ, c.E σ = E) (h : WE c ta A fun A1 x => ∃ d fs, x = .val d ∧ insOf A1 (.val d) = some (C, fs) ∧ fs.lookup mm = none ∧ WA c t A1 fun A2 ds => Φ (d :: ds) A2.o (fun O' e => Q ⟨A2.s, O'⟩ (.val e)) (fun O' C fs => c.X ⟨A2.s, O'⟩ C fs)) :
    WE c (tMeth C mm (SpA c.K Φ) [] E ta t) A Q := fun F G m σ H S Eo Qc k => h F G m σ H S Eo _ fun F1 m1 A1 v H1 x e1 p1 S1 R1 ⟨d, fs, ex, hi, hl, q⟩ => by
  subst ex
  obtain ⟨a, dx, fv, rfl, hv, rf⟩ := rep_ins S1 R1 hi
  refine ⟨a, dx, fv, rfl, hv, rf.look0 hl, q F1 G m1 σ H1 S1 (Eo.mono e1 p1) _ fun F2 m2 A2 vs H2 ds e2 p2 S2 R2 q2 => ?_⟩
  refine ⟨F2, callG A2.s σ G H2, m2, A2.o, d :: ds, _, _, S2.call, .cons (Rep.mono e2 p2 R1) (by simpa using R2), q2, fun F' m' O' w e H' e3 p3 hs r rr => k F' m' ⟨A2.s, O'⟩ w H' (.val e) ((e1.trans e2).trans e3) ((p1.trans p2).trans p3) (S2.back e3 p3 hs) r rr, fun F' m' O' C dx fvs fs H' e p hs fx rf xx => ?_⟩
  have z := Eo.x F' m' ⟨A2.s, O'⟩ σ H' C dx fvs fs ((e1.trans e2).trans e) ((p1.trans p2).trans p) (S2.back e p hs) fx rf xx
  rw [hE] at z; exact z
/-- a property -/
theorem we_prop {C : Addr} {Φ : Contract} {E : XK} (h : WE c ta A fun A1 x => ∃ d fs, x = .val d ∧ insOf A1 (.val d) = some (C, fs) ∧ Φ [d] A1.o (fun O' e => Q ⟨A1.s, O'⟩ (.val e)) (fun _ _ _ => False)) :
    WE c (tProp C (SpA c.K Φ) [] E ta) A Q := fun F G m σ H S Eo Qc k => h F G m σ H S Eo _ fun F1 m1 A1 v H1 x e1 p1 S1 R1 ⟨d, fs, ex, hi, q⟩ => by
  subst ex
  obtain ⟨a, dx, fv, rfl, hv, rf⟩ := rep_ins S1 R1 hi
  exact ⟨a, dx, fv, rfl, hv, F1, callG A1.s σ G H1, m1, A1.o, [d], _, _, S1.call, .cons R1 .nil, q, fun F' m' O' w e H' e3 p3 hs r rr => k F' m' ⟨A1.s, O'⟩ w H' (.val e) (e1.trans e3) (p1.trans p3) (S1.back e3 p3 hs) r rr, fun F' m' O' C dx fvs fs H' e p hs fx rf xx => xx.elim⟩
/-- the heap with a new instance as a cell -/
theorem Sim.insNew {K : PySem.W.Frag} {F G : Hp} {m : List Addr} {σ : St} {H : Hp} {p dx C : Addr} (S : Sim K F G m A σ H) (hp : H p = none) (hd : H dx = none) (n : dx ≠ p) : Sim K (upd F dx (.own p)) G (m ++ [p]) ⟨A.s, A.o ++ [.ins C []]⟩ σ (upd (upd H dx (.own p)) p (.ins C dx [])) := by
  have S1 := S.frz (o := .own p) hd
  have hp1 : upd H dx (.own p) p = none := by rw [upd_ne (Ne.symm n)]; exact hp
  refine ⟨S1.h.cnew (c := .ins C []) hp1 trivial ⟨dx, [], upd_same, .nil⟩, S1.s.go (Evl.Ex.refl _) Pre.app fun i z a y1 y2 => ?_⟩
  obtain ⟨b, qb, l, f', g', mm, cc⟩ := S1.s.ownAt y1
  rw [y2] at qb; cases qb
  have np := cc.ne l hp1
  refine ⟨f', fun k e => ?_, upd_ne np⟩
  by_cases y : k < m.length
  · rw [List.getElem?_append_left y] at e; exact mm k e
  · have hl := (List.getElem?_eq_some_iff.mp e).1
    rw [List.length_append] at hl
    have ek : k = m.length := by simp only [List.length_cons, List.length_nil] at hl; omega
    subst ek
    rw [List.getElem?_append_right (Nat.le_refl _), Nat.sub_self] at e
    cases e; exact np rfl
theorem Ex.own {F : Hp} {dx p : Addr} (h : F dx = none) : Ex F (upd F dx (.own p)) := ex_upd h
/-- C(..): the instance is a cell -/
theorem we_make {C : Addr} {Φ : Contract} {E : XK} {t : TA} (h : WA c t A fun A1 ds => Φ (.ptr A1.o.length :: ds) (A1.o ++ [.ins C []]) (fun O' d => d = .non ∧ Q ⟨A1.s, O'⟩ (.val (.ptr A1.o.length))) (fun _ _ _ => False)) : WE c (tMake C (SpA c.K Φ) [] E t) A Q := fun F G m σ H S Eo Qc k =>
  h F G m σ H S Eo _ fun F1 m1 A1 vs H1 ds e1 p1 S1 R1 q => by
    intro p dx hp hd n
    have S2 := S1.insNew (C := C) hp hd n
    have ex : Ex F1 (upd F1 dx (.own p)) := ex_upd (S1.h.fresh hd).1
    have pr : Pre m1 (m1 ++ [p]) := Pre.app
    have gp : (m1 ++ [p])[A1.o.length]? = some p := by rw [← S1.h.len, List.getElem?_append_right (Nat.le_refl _), Nat.sub_self]; rfl
    refine ⟨upd F1 dx (.own p), _, m1 ++ [p], A1.o ++ [.ins C []], .ptr A1.o.length :: ds, _, _, S2.call, .cons (.ptr gp) (by simpa using R1.mono ex pr), q, fun F' m' O' w d H' e3 p3 hs r rr => ?_, fun F' m' O' C dx fvs fs H' e p hs fx rf xx => xx.elim⟩
    obtain ⟨ed, rr⟩ := rr
    subst ed
    cases r
    exact ⟨rfl, k F' m' ⟨A1.s, O'⟩ _ H' (.val (.ptr A1.o.length)) ((e1.trans ex).trans e3) ((p1.trans pr).trans p3) (S2.back e3 p3 hs) (show Rep c.K F' m' _ _ from .ptr (p3 _ _ gp)) rr⟩
/-- an instance that is a cell becomes data -/
theorem Sim.insFrz {K : PySem.W.Frag} {F G : Hp} {m : List Addr} {σ : St} {H : Hp} {n : Nat} {C p : Addr} {fs : List (Str × D)} (S : Sim K F G m A σ H) (hm : m[n]? = some p) (ho : A.o[n]? = some (.ins C fs)) : ∃ F', Ex F F' ∧ Sim K F' G m ⟨A.s, A.o.set n .gone⟩ σ H ∧ Rep K F' m (.ref p) (.obj C fs) := by
  obtain ⟨f0, g0, dx, fv, hv, rv⟩ := S.h.cell n _ _ hm ho trivial
  have ex : Ex F (upd F p (.ins C dx fv)) := ex_upd f0
  refine ⟨upd F p (.ins C dx fv), ex, ⟨⟨fun a u e => ?_, S.h.exG, fun a u e => ?_, by rw [List.length_set]; exact S.h.len, fun i a d e1 e2 l => ?_, S.h.inj, S.h.here, S.h.mG, fun i a e1 e2 => ?_⟩, S.s.go ex (Pre.refl _) fun i z a y1 y2 => ?_⟩, .obj upd_same (rv.mono ex (Pre.refl _))⟩
  · by_cases z : a = p
    · subst z; rw [upd_same] at e; cases e; exact hv
    · rw [upd_ne z] at e; exact S.h.exF _ _ e
  · by_cases z : a = p
    · subst z; exact g0
    · rw [upd_ne z] at e; exact S.h.dj _ _ e
  · by_cases z : i = n
    · subst z
      rw [List.getElem?_set_self (List.getElem?_eq_some_iff.mp ho).1] at e2
      cases e2; exact l.elim
    · rw [List.getElem?_set_ne (Ne.symm z)] at e2
      obtain ⟨x1, x2, x3⟩ := S.h.cell i a d e1 e2 l
      have np : a ≠ p := fun y => z (S.h.inj i n p (y ▸ e1) hm)
      exact ⟨by rw [upd_ne np]; exact x1, x2, x3.mono ex (Pre.refl _) rfl⟩
  · by_cases z : i = n
    · subst z
      rw [hm] at e1; cases e1
      exact ⟨C, dx, fv, upd_same⟩
    · rw [List.getElem?_set_ne (Ne.symm z)] at e2
      obtain ⟨C', dx', fv', q⟩ := S.h.gn i a e1 e2
      exact ⟨C', dx', fv', ex _ _ q⟩
  · obtain ⟨b, qb, l, f', g', mm, cc⟩ := S.s.ownAt y1
    rw [y2] at qb; cases qb
    exact ⟨by rw [upd_ne (fun y => mm n (by rw [y]; exact hm))]; exact f', mm, rfl⟩
/-- C(..): the instance never changes from now on -/
theorem we_makeF {C : Addr} {Φ : Contract} {E : XK} {t : TA} (h : WA c t A fun A1 ds => Φ (.ptr A1.o.length :: ds) (A1.o ++ [.ins C []]) (fun O' d => d = .non ∧ ∃ fs, O'[A1.o.length]? = some (.ins C fs) ∧ Q ⟨A1.s, O'.set A1.o.length .gone⟩ (.val (.obj C fs))) (fun _ _ _ => False)) : WE c (tMake C (SpA c.K Φ) [] E t) A Q := fun F G m σ H S Eo Qc k =>
  h F G m σ H S Eo _ fun F1 m1 A1 vs H1 ds e1 p1 S1 R1 q => by
    intro p dx hp hd n
    have S2 := S1.insNew (C := C) hp hd n
    have ex : Ex F1 (upd F1 dx (.own p)) := ex_upd (S1.h.fresh hd).1
    have pr : Pre m1 (m1 ++ [p]) := Pre.app
    have gp : (m1 ++ [p])[A1.o.length]? = some p := by rw [← S1.h.len, List.getElem?_append_right (Nat.le_refl _), Nat.sub_self]; rfl
    refine ⟨upd F1 dx (.own p), _, m1 ++ [p], A1.o ++ [.ins C []], .ptr A1.o.length :: ds, _, _, S2.call, .cons (.ptr gp) (by simpa using R1.mono ex pr), q, fun F' m' O' w d H' e3 p3 hs r rr => ?_, fun F' m' O' C dx fvs fs H' e p hs fx rf xx => xx.elim⟩
    obtain ⟨ed, fs, eo, rr⟩ := rr
    subst ed
    cases r
    obtain ⟨F4, e4, S4, R4⟩ := (S2.back e3 p3 hs).insFrz (p3 _ _ gp) eo
    exact ⟨rfl, k F4 m' _ _ H' (.val (.obj C fs)) (((e1.trans ex).trans e3).trans e4) ((p1.trans pr).trans p3) S4 R4 rr⟩
/-! ### in, not in: flat things -/
def flatD : D → Bool
  | .non | .bl _ | .int _ | .str _ => true
  | _ => false
theorem flatD_ok {K : PySem.W.Frag} {F : Hp} {m : List Addr} {v : V} {d : D} (R : Rep K F m v d) (h : flatD d = true) : flatV v = true := by cases R <;> first | rfl | simp [flatD] at h
theorem reps_flat {K : PySem.W.Frag} {F : Hp} {m : List Addr} : ∀ {vs : List V} {ds : List D}, Reps K F m vs ds → ds.all flatD = true → vs.all flatV = true
  | _, _, .nil, _ => rfl
  | _, _, .cons a r, h => by
    rw [List.all_cons, Bool.and_eq_true] at h ⊢
    exact ⟨flatD_ok a h.1, reps_flat r h.2⟩
theorem all_flat_ints (ns : List Int) : (ns.map D.int).all flatD = true := by rw [List.all_map]; exact List.all_eq_true.mpr fun _ _ => rfl
theorem inV_ints (i : Int) (ns : List Int) : inV (.int i) (ns.map .int) = decide (i ∈ ns) := by
  unfold inV
  rw [List.any_map]
  induction ns with
  | nil => simp
  | cons n ns ih =>
    rw [List.any_cons, ih]
    show (eqV (.int n) (.int i) || _) = _
    rw [eqV_int]
    by_cases h : n = i
    · subst h; simp
    · have h' : ¬ i = n := fun z => h z.symm
      simp [h, h']
/-- i in a row of ints -/
theorem od_inI {i : Int} {ns : List Int} {d : D} (hd : d = .lst (ns.map .int) ∨ d = .tup (ns.map .int) ∨ d = .sct (ns.map .int)) (q : Q A (.val (.bl (decide (i ∈ ns))))) : OpD c (rInA c.K) (.val (.int i)) (.val d) A Q := fun F G m σ H v w S E R1 R2 Qc k => by
  cases R1
  have go : ∀ (p : Addr), SqL c.K H p (ns.map V.int) ∨ SqT c.K H p (ns.map V.int) → rInA c.K (.int i) (.ref p) H Qc := fun p hp => by
    refine ⟨p, _, rfl, hp, rfl, flat_intsV ns, ?_⟩
    show Qc (.bl (inV (.int i) (ns.map V.int))) H
    rw [inV_ints]
    exact k F m A _ H (.val (.bl _)) (Evl.Ex.refl F) (Pre.refl m) S (Rep.bl _) q
  rcases hd with rfl | rfl | rfl
  · cases R2 with | lst e r => rw [r.ints] at e; exact go _ (.inl (.inl (.inl (S.h.exF _ _ e))))
  · cases R2 with | tup e r => rw [r.ints] at e; exact go _ (.inr (Evl.ex_t S.h.exF e.seq))
  · cases R2 with | sct e r => rw [r.ints] at e; exact go _ (.inr (Evl.ex_t S.h.exF e))
theorem od_ninI {i : Int} {ns : List Int} {d : D} (hd : d = .lst (ns.map .int) ∨ d = .tup (ns.map .int) ∨ d = .sct (ns.map .int)) (q : Q A (.val (.bl (!decide (i ∈ ns))))) : OpD c (rNinA c.K) (.val (.int i)) (.val d) A Q := fun F G m σ H v w S E R1 R2 Qc k => by
  cases R1
  have go : ∀ (p : Addr), SqL c.K H p (ns.map V.int) ∨ SqT c.K H p (ns.map V.int) → rNinA c.K (.int i) (.ref p) H Qc := fun p hp => by
    refine ⟨p, _, rfl, hp, rfl, flat_intsV ns, ?_⟩
    show Qc (.bl (!inV (.int i) (ns.map V.int))) H
    rw [inV_ints]
    exact k F m A _ H (.val (.bl _)) (Evl.Ex.refl F) (Pre.refl m) S (Rep.bl _) q
  rcases hd with rfl | rfl | rfl
  · cases R2 with | lst e r => rw [r.ints] at e; exact go _ (.inl (.inl (.inl (S.h.exF _ _ e))))
  · cases R2 with | tup e r => rw [r.ints] at e; exact go _ (.inr (Evl.ex_t S.h.exF e.seq))
  · cases R2 with | sct e r => rw [r.ints] at e; exact go _ (.inr (Evl.ex_t S.h.exF e))
/-- a row of ints that the top has written -/
theorem we_top {v : V} {ns : List Int} (h : ∃ a, v = .ref a ∧ SqT c.K (fun _ => none) a (ns.map V.int)) (q : Q A (.val (.sct (ns.map .int)))) : WE c (tC v) A Q := by
  obtain ⟨a, rfl, hs⟩ := h
  have ht : ∀ F : Hp, SqT c.K F a (ns.map V.int) := fun F => by
    rcases hs with h | h
    · rcases h with h | ⟨o, h⟩ <;> cases h
    · exact .inr h
  exact we_C (fun F m => .sct (ht F) (reps_ints ns)) q
/-! ### the chain a <= b <= c of ints -/
theorem we_chain {r r' : R2} {tc : TE} (h : WE c ta A fun A1 x => WE c tb A1 fun A2 y => Stays A1 A2 x ∧ OpD c r x y A2 fun A3 z => ∃ b, z = .val (.bl b) ∧ Stays A2 A3 y ∧ (b = true → WE c tc A3 fun A4 w => Stays A3 A4 y ∧ OpD c r' y w A4 Q) ∧ (b = false → Q A3 (.val (.bl false)))) : WE c (tChain r r' ta tb tc) A Q := fun F G m σ H S E Qc k =>
  h F G m σ H S E _ fun F1 m1 A1 v H1 x e1 p1 S1 R1 q1 => q1 F1 G m1 σ H1 S1 (E.mono e1 p1) _ fun F2 m2 A2 w H2 y e2 p2 S2 R2 q2 =>
    q2.2 F2 G m2 σ H2 v w S2 (E.mono (e1.trans e2) (p1.trans p2)) (R1.stay e2 p2 q2.1) R2 _ fun F3 m3 A3 z H3 rz e3 p3 S3 R3 ⟨b, ez, st, qt, qf⟩ => by
      subst ez
      cases R3
      refine ⟨b, rfl, ?_⟩
      cases b with
      | false => exact k F3 m3 A3 _ H3 (.val (.bl false)) ((e1.trans e2).trans e3) ((p1.trans p2).trans p3) S3 (Rep.bl false) (qf rfl)
      | true =>
        show tc σ H3 _
        have R2' := R2.stay e3 p3 st
        exact qt rfl F3 G m3 σ H3 S3 (E.mono ((e1.trans e2).trans e3) ((p1.trans p2).trans p3)) _ fun F4 m4 A4 u H4 ru e4 p4 S4 R4 q4 =>
          q4.2 F4 G m4 σ H4 w u S4 (E.mono (((e1.trans e2).trans e3).trans e4) (((p1.trans p2).trans p3).trans p4)) (R2'.stay e4 p4 q4.1) R4 Qc fun F5 m5 A5 v5 H5 r5 e5 p5 S5 R5 q5 =>
            k F5 m5 A5 v5 H5 r5 ((((e1.trans e2).trans e3).trans e4).trans e5) ((((p1.trans p2).trans p3).trans p4).trans p5) S5 R5 q5
end
end AL

namespace AL
open PySem L2
/-! ### a call that reads own lists and hands back no list -/
mutual
inductive NoLst : D → Prop where
  | non : NoLst .non
  | bl (b : Bool) : NoLst (.bl b)
  | int (i : Int) : NoLst (.int i)
  | str (x : Str) : NoLst (.str x)
  | tup {ds : List D} : NoLsts ds → NoLst (.tup ds)
  | sct {ds : List D} : NoLsts ds → NoLst (.sct ds)
  | ptr (n : Nat) : NoLst (.ptr n)
  | obj {C : Addr} {fs : List (Str × D)} : NoLstF fs → NoLst (.obj C fs)
  | cls (a : Addr) : NoLst (.cls a)
  | ty (n : String) : NoLst (.ty n)
inductive NoLsts : List D → Prop where
  | nil : NoLsts []
  | cons {d : D} {ds : List D} : NoLst d → NoLsts ds → NoLsts (d :: ds)
inductive NoLstF : List (Str × D) → Prop where
  | nil : NoLstF []
  | cons {f : Str} {d : D} {ds : List (Str × D)} : NoLst d → NoLstF ds → NoLstF ((f, d) :: ds)
end
theorem noLsts_map {α : Type} {f : α → D} (h : ∀ a, NoLst (f a)) : ∀ xs : List α, NoLsts (xs.map f)
  | [] => .nil
  | x :: xs => .cons (h x) (noLsts_map h xs)
theorem noLsts_ints (ns : List Int) : NoLsts (ns.map .int) := noLsts_map (fun n => .int n) ns
inductive NoLstC : Cell → Prop where
  | gone : NoLstC .gone
  | lst {ds : List D} : NoLsts ds → NoLstC (.lst ds)
  | ins {C : Addr} {fs : List (Str × D)} : NoLstF fs → NoLstC (.ins C fs)
def NoLstO (O : List Cell) : Prop := ∀ c ∈ O, NoLstC c
theorem NoLstO.nil : NoLstO [] := fun c h => nomatch h
theorem NoLstO.app {O : List Cell} {c : Cell} (h : NoLstO O) (hc : NoLstC c) : NoLstO (O ++ [c]) := fun x hx => by
  rcases List.mem_append.mp hx with z | z
  · exact h x z
  · rw [List.mem_singleton] at z; subst z; exact hc
def OwnL (s : List (Option SV)) (σ : St) (a : Addr) : Prop := ∃ (i : Nat) (ds : List D), s[i]? = some (some (.own (.lst ds))) ∧ σ[i]? = some (some (.ref a))
section
variable {K : PySem.W.Frag} {F G : Hp} {m : List Addr} {A : AS} {σ : St} {H : Hp}
open Classical in
noncomputable def lendF (s : List (Option SV)) (σ : St) (F H : Hp) : Hp := fun a => if OwnL s σ a then H a else F a
open Classical in
noncomputable def lendG (s : List (Option SV)) (σ : St) (G H : Hp) : Hp := fun a => if IsOwn s σ a ∧ ¬ OwnL s σ a then H a else G a
open Classical in
noncomputable def takeF (s : List (Option SV)) (σ : St) (F : Hp) : Hp := fun a => if OwnL s σ a then none else F a
theorem lendF_y {s : List (Option SV)} {a : Addr} (h : OwnL s σ a) : lendF s σ F H a = H a := by unfold lendF; rw [if_pos h]
theorem lendF_n {s : List (Option SV)} {a : Addr} (h : ¬ OwnL s σ a) : lendF s σ F H a = F a := by unfold lendF; rw [if_neg h]
theorem takeF_y {s : List (Option SV)} {a : Addr} (h : OwnL s σ a) : takeF s σ F a = none := by unfold takeF; rw [if_pos h]
theorem takeF_n {s : List (Option SV)} {a : Addr} (h : ¬ OwnL s σ a) : takeF s σ F a = F a := by unfold takeF; rw [if_neg h]
theorem lendG_n {s : List (Option SV)} {a : Addr} (h : ¬ IsOwn s σ a) : lendG s σ G H a = G a := by unfold lendG; rw [if_neg fun z => h z.1]
theorem lendG_l {s : List (Option SV)} {a : Addr} (h : OwnL s σ a) : lendG s σ G H a = G a := by unfold lendG; rw [if_neg fun z => z.2 h]
theorem lendG_o {s : List (Option SV)} {a : Addr} (h : IsOwn s σ a) (h2 : ¬ OwnL s σ a) : lendG s σ G H a = H a := by unfold lendG; rw [if_pos ⟨h, h2⟩]
theorem OwnL.own {s : List (Option SV)} {a : Addr} (h : OwnL s σ a) : IsOwn s σ a := let ⟨i, ds, h1, h2⟩ := h; ⟨i, .lst ds, h1, h2⟩
theorem lend_ex (S : Sim K F G m A σ H) : Ex F (lendF A.s σ F H) := fun a o e => by
  have no : ¬ OwnL A.s σ a := fun z => by rw [(S.s.isOwn z.own).1] at e; cases e
  rw [lendF_n no]; exact e
theorem Sim.lend (S : Sim K F G m A σ H) : HS K (lendF A.s σ F H) (lendG A.s σ G H) m A.o H where
  exF := fun a o e => by
    by_cases z : OwnL A.s σ a
    · rw [lendF_y z] at e; exact e
    · rw [lendF_n z] at e; exact S.h.exF _ _ e
  exG := fun a o e => by
    by_cases y : IsOwn A.s σ a
    · by_cases z : OwnL A.s σ a
      · rw [lendG_l z, (S.s.isOwn y).2.1] at e; cases e
      · rw [lendG_o y z] at e; exact e
    · rw [lendG_n y] at e; exact S.h.exG _ _ e
  dj := fun a o e => by
    by_cases z : OwnL A.s σ a
    · rw [lendG_l z]; exact (S.s.isOwn z.own).2.1
    · rw [lendF_n z] at e
      have no : ¬ IsOwn A.s σ a := fun y => by rw [(S.s.isOwn y).1] at e; cases e
      rw [lendG_n no]; exact S.h.dj _ _ e
  len := S.h.len
  cell := fun n a c e1 e2 l => by
    obtain ⟨x1, x2, x3⟩ := S.h.cell n a c e1 e2 l
    have no : ¬ IsOwn A.s σ a := fun y => absurd e1 ((S.s.isOwn y).2.2.1 n)
    exact ⟨by rw [lendF_n (fun z => no z.own)]; exact x1, by rw [lendG_n no]; exact x2, x3.mono (lend_ex S) (Pre.refl _) rfl⟩
  inj := S.h.inj
  here := S.h.here
  mG := fun n a e => by
    have no : ¬ IsOwn A.s σ a := fun y => absurd e ((S.s.isOwn y).2.2.1 n)
    rw [lendG_n no]; exact S.h.mG n a e
  gn := fun n a e1 e2 => by
    obtain ⟨C, dx, fv, y⟩ := S.h.gn n a e1 e2
    exact ⟨C, dx, fv, lend_ex S a _ y⟩
/-- the own lists' addresses hold lists still -/
theorem own_lst (S : Sim K F G m A σ H) {F' : Hp} (e : Ex (lendF A.s σ F H) F') {a : Addr} (z : OwnL A.s σ a) : ∃ vs, F' a = some (.lst vs) ∧ H a = some (.lst vs) := by
  obtain ⟨i, ds, h1, h2⟩ := id z
  obtain ⟨b, q, _, _, _, _, vs, hv, _⟩ := S.s.ownAt h1
  rw [h2] at q; cases q
  exact ⟨vs, e a _ (by rw [lendF_y z]; exact hv), hv⟩
mutual
theorem Rep.less (no : ∀ a, OwnL A.s σ a → ∃ vs, F a = some (.lst vs)) : ∀ {v : V} {d : D}, Rep K F m v d → NoLst d → Rep K (takeF A.s σ F) m v d
  | _, _, .non, _ => .non
  | _, _, .bl b, _ => .bl b
  | _, _, .int i, _ => .int i
  | _, _, .str x, _ => .str x
  | _, _, .lst _ _, h => by cases h
  | _, _, .scr _ _, h => by cases h
  | _, _, .tup pt r, h => .tup (by
      rcases pt with ⟨its, e⟩ | pt
      · refine .inl ⟨its, ?_⟩
        rw [takeF_n fun z => by obtain ⟨vs, q⟩ := no _ z; rw [q] at e; cases e]; exact e
      · exact .inr pt) (Reps.less no r (by cases h; assumption))
  | _, _, .sct pt r, h => .sct (by
      rcases pt with (e | ⟨o, e⟩) | e
      · exact .inl (.inl (by rw [takeF_n fun z => by obtain ⟨vs, q⟩ := no _ z; rw [q] at e; cases e]; exact e))
      · exact .inl (.inr ⟨o, by rw [takeF_n fun z => by obtain ⟨vs, q⟩ := no _ z; rw [q] at e; cases e]; exact e⟩)
      · exact .inr e) (Reps.less no r (by cases h; assumption))
  | _, _, .ptr e, _ => .ptr e
  | _, _, .obj e r, h => .obj (by rw [takeF_n fun z => by obtain ⟨vs, q⟩ := no _ z; rw [q] at e; cases e]; exact e) (RepF.less no r (by cases h; assumption))
  | _, _, .cls a, _ => .cls a
  | _, _, .ty n, _ => .ty n
theorem Reps.less (no : ∀ a, OwnL A.s σ a → ∃ vs, F a = some (.lst vs)) : ∀ {v : List V} {d : List D}, Reps K F m v d → NoLsts d → Reps K (takeF A.s σ F) m v d
  | _, _, .nil, _ => .nil
  | _, _, .cons a r, h => .cons (Rep.less no a (by cases h; assumption)) (Reps.less no r (by cases h; assumption))
theorem RepF.less (no : ∀ a, OwnL A.s σ a → ∃ vs, F a = some (.lst vs)) : ∀ {v : List (Str × V)} {d : List (Str × D)}, RepF K F m v d → NoLstF d → RepF K (takeF A.s σ F) m v d
  | _, _, .nil, _ => .nil
  | _, _, .cons a r, h => .cons (Rep.less no a (by cases h; assumption)) (RepF.less no r (by cases h; assumption))
end
theorem Sim.took (S : Sim K F G m A σ H) {F' H' : Hp} {m' : List Addr} {O' : List Cell} (e : Ex (lendF A.s σ F H) F') (p : Pre m m') (q : HS K F' (lendG A.s σ G H) m' O' H') (hO : NoLstO O') : Ex F (takeF A.s σ F') ∧ Sim K (takeF A.s σ F') G m' ⟨A.s, O'⟩ σ H' := by
  have no : ∀ a, OwnL A.s σ a → ∃ vs, F' a = some (.lst vs) := fun a z => let ⟨vs, h, _⟩ := own_lst S e z; ⟨vs, h⟩
  have sub : ∀ a o, G a = some o → lendG A.s σ G H a = some o := fun a o g => by
    have y : ¬ IsOwn A.s σ a := fun y => by rw [(S.s.isOwn y).2.1] at g; cases g
    rw [lendG_n y]; exact g
  have non : ∀ a, lendG A.s σ G H a = none → G a = none := fun a c => by
    cases g : G a with
    | none => rfl
    | some o => rw [sub a o g] at c; cases c
  have ex : Ex F (takeF A.s σ F') := fun a o h => by
    have y : ¬ OwnL A.s σ a := fun y => by rw [(S.s.isOwn y.own).1] at h; cases h
    rw [takeF_n y]; exact e a o (lend_ex S a o h)
  have tk : ∀ a o, takeF A.s σ F' a = some o → F' a = some o := fun a o h => by
    by_cases y : OwnL A.s σ a
    · rw [takeF_y y] at h; cases h
    · rw [takeF_n y] at h; exact h
  have tn : ∀ a, F' a = none → takeF A.s σ F' a = none := fun a h => by
    by_cases y : OwnL A.s σ a
    · exact takeF_y y
    · rw [takeF_n y]; exact h
  refine ⟨ex, ⟨fun a o h => q.exF _ _ (tk a o h), fun a o g => q.exG _ _ (sub a o g), fun a o h => non a (q.dj a o (tk a o h)), q.len, fun n a c e1 e2 l => ?_, q.inj, q.here, fun n a h => non a (q.mG n a h), fun n a e1 e2 => ?_⟩, S.s.len, fun i x y e1 e2 => ?_, S.s.own⟩
  · obtain ⟨x1, x2, x3⟩ := q.cell n a c e1 e2 l
    refine ⟨tn a x1, non a x2, ?_⟩
    have hc := hO c (List.mem_of_getElem? e2)
    cases hc with
    | gone => exact l.elim
    | lst h => obtain ⟨vs, hv, rv⟩ := x3; exact ⟨vs, hv, Reps.less no rv h⟩
    | ins h => obtain ⟨dx, fv, hv, rv⟩ := x3; exact ⟨dx, fv, hv, RepF.less no rv h⟩
  · obtain ⟨C, dx, fv, y⟩ := q.gn n a e1 e2
    refine ⟨C, dx, fv, ?_⟩
    rw [takeF_n fun z => by obtain ⟨vs, h⟩ := no a z; rw [h] at y; cases y]; exact y
  · have z := S.s.at_ i x y e1 e2
    match x, y, z, e1, e2 with
    | _, none, _, _, _ => cases x <;> trivial
    | some v, some (.val d), z, _, _ => exact Rep.mono ex p z
    | some v, some (.own c), ⟨a, ea, l, f, g, mm, cc⟩, e1, e2 =>
      subst ea
      have ow : IsOwn A.s σ a := ⟨i, c, e2, e1⟩
      have key : takeF A.s σ F' a = none ∧ (∀ n : Nat, m'[n]? ≠ some a) ∧ H' a = H a := by
        by_cases y : OwnL A.s σ a
        · obtain ⟨vs, h1, h2⟩ := own_lst S e y
          refine ⟨takeF_y y, fun n h => ?_, by rw [q.exF _ _ h1, h2]⟩
          have ln : n < O'.length := by rw [← q.len]; exact (List.getElem?_eq_some_iff.mp h).1
          have en : O'[n]? = some O'[n] := List.getElem?_eq_getElem ln
          cases z : O'[n] with
          | gone =>
            rw [z] at en
            obtain ⟨C, dx, fv, y⟩ := q.gn n a h en
            rw [h1] at y; cases y
          | _ =>
            rw [z] at en
            have y := (q.cell n a _ h en trivial).1
            rw [h1] at y; cases y
        · obtain ⟨u, hu⟩ := (S.s.isOwn ow).2.2.2
          have gl : lendG A.s σ G H a = some u := by rw [lendG_o ow y]; exact hu
          refine ⟨?_, fun n h => ?_, by rw [q.exG _ _ gl, hu]⟩
          · refine tn a ?_
            cases z : F' a with
            | none => rfl
            | some o => rw [q.dj a o z] at gl; cases gl
          · have := q.mG n a h
            rw [gl] at this; cases this
      exact ⟨a, rfl, l, key.1, g, key.2.1, cc.mono ex p key.2.2⟩
variable {c : Ct} {te ta to : TE} {Q : QE}
/-- the arguments, own lists lent -/
def lent (A : AS) : List RV → Option (List D)
  | [] => some []
  | .val d :: r => (lent A r).map (d :: ·)
  | .slot i :: r => match A.s[i]? with
    | some (some (.own (.lst ds))) => (lent A r).map (.lst ds :: ·)
    | _ => none
theorem lent_ok {K : PySem.W.Frag} {F G : Hp} {m : List Addr} {A : AS} {σ : St} {H : Hp} (S : Sim K F G m A σ H) : ∀ {vs : List V} {rs : List RV} {ds : List D}, RepRs K F m A σ vs rs → lent A rs = some ds → Reps K (lendF A.s σ F H) m vs ds
  | _, _, _, .nil, h => by cases h; exact .nil
  | _, .val d :: r, ds, .cons a t, h => by
    simp only [lent, Option.map_eq_some_iff] at h
    obtain ⟨es, h1, rfl⟩ := h
    exact .cons (Rep.mono (lend_ex S) (Pre.refl _) a) (lent_ok S t h1)
  | _, .slot i :: r, ds, .cons a t, h => by
    obtain ⟨e1, x, e2⟩ := a
    simp only [lent, e2] at h
    cases x with
    | lst xs =>
      simp only [Option.map_eq_some_iff] at h
      obtain ⟨es, h1, rfl⟩ := h
      obtain ⟨b, q, _, _, _, _, ws, hv, rv⟩ := S.s.ownAt e2
      rw [e1] at q; cases q
      exact .cons (.lst (by rw [lendF_y ⟨i, xs, e2, e1⟩]; exact hv) (rv.mono (lend_ex S) (Pre.refl _))) (lent_ok S t h1)
    | _ => simp at h
/-- a call that is lent own lists, and hands back no list -/
theorem we_callB {Φ : Contract} {E : XK} {t : TA} (h : WAr c t A fun A1 rs => ∃ ds, lent A1 rs = some ds ∧ Φ ds A1.o (fun O' d => NoLst d ∧ NoLstO O' ∧ Q ⟨A1.s, O'⟩ (.val d)) (fun _ _ _ => False)) : WE c (tCall (SpA c.K Φ) [] E t) A Q := fun F G m σ H S Eo Qc k =>
  h F G m σ H S Eo _ fun F1 m1 A1 vs H1 rs e1 p1 S1 R1 ⟨ds, hl, q⟩ =>
    ⟨lendF A1.s σ F1 H1, lendG A1.s σ G H1, m1, A1.o, ds, _, _, S1.lend, by simpa using lent_ok S1 R1 hl, q, fun F' m' O' v d H' e p hs r ⟨n1, n2, rr⟩ => by
      obtain ⟨ex, S2⟩ := S1.took e p hs n2
      exact k _ m' ⟨A1.s, O'⟩ v H' (.val d) (e1.trans ex) (p1.trans p) S2 (Rep.less (fun a z => let ⟨vs, h, _⟩ := own_lst S1 e z; ⟨vs, h⟩) r n1) rr, fun F' m' O' C dx fvs fs H' e p hs fx rf xx => xx.elim⟩
/-- the same of a method -/
theorem we_methB {C : Addr} {mm : Str} {Φ : Contract} {E : XK} {t : TA} (h : WE c ta A fun A1 x => ∃ d fs, x = .val d ∧ insOf A1 (.val d) = some (C, fs) ∧ fs.lookup mm = none ∧ WAr c t A1 fun A2 rs => ∃ ds, lent A2 rs = some ds ∧ Φ (d :: ds) A2.o (fun O' e => NoLst e ∧ NoLstO O' ∧ Q ⟨A2.s, O'⟩ (.val e)) (fun _ _ _ => False)) :
    WE c (tMeth C mm (SpA c.K Φ) [] E ta t) A Q := fun F G m σ H S Eo Qc k => h F G m σ H S Eo _ fun F1 m1 A1 v H1 x e1 p1 S1 R1 ⟨d, fs, ex, hi, hl, q⟩ => by
  subst ex
  obtain ⟨a, dx, fv, rfl, hv, rf⟩ := rep_ins S1 R1 hi
  refine ⟨a, dx, fv, rfl, hv, rf.look0 hl, q F1 G m1 σ H1 S1 (Eo.mono e1 p1) _ fun F2 m2 A2 vs H2 rs e2 p2 S2 R2 ⟨ds, hl2, q2⟩ => ?_⟩
  refine ⟨lendF A2.s σ F2 H2, lendG A2.s σ G H2, m2, A2.o, d :: ds, _, _, S2.lend, .cons (Rep.mono (e2.trans (lend_ex S2)) p2 R1) (by simpa using lent_ok S2 R2 hl2), q2, fun F' m' O' w e H' e3 p3 hs r ⟨n1, n2, rr⟩ => ?_, fun F' m' O' C dx fvs fs H' e p hs fx rf xx => xx.elim⟩
  obtain ⟨ex, S3⟩ := S2.took e3 p3 hs n2
  exact k _ m' ⟨A2.s, O'⟩ w H' (.val e) ((e1.trans e2).trans ex) ((p1.trans p2).trans p3) S3 (Rep.less (fun a z => let ⟨vs, h, _⟩ := own_lst S2 e3 z; ⟨vs, h⟩) r n1) rr
end
end AL

namespace AL
open PySem L2
/-! ### lists of ints, by place -/
theorem getD_lt {α : Type} {xs : List α} {i : Nat} {d : α} (h : i < xs.length) : xs.getD i d = xs[i] := by simp [List.getD, List.getElem?_eq_getElem h]
theorem getD_ge {α : Type} {xs : List α} {i : Nat} {d : α} (h : xs.length ≤ i) : xs.getD i d = d := by simp [List.getD, List.getElem?_eq_none h]
theorem ixN_of {n : Nat} {i : Int} (h0 : 0 ≤ i) (h1 : i < (n : Int)) : ixN n i = some i.toNat := by
  have := Evl.ixN_nat (n := n) (j := i.toNat) (by omega)
  rwa [show ((i.toNat : Nat) : Int) = i by omega] at this
theorem atI_of {α : Type} {xs : List α} {i : Int} {x : α} (h0 : 0 ≤ i) (h : xs[i.toNat]? = some x) : atI xs i = some x := by
  unfold atI
  have hl := (List.getElem?_eq_some_iff.mp h).1
  rw [ixN_of h0 (by omega)]; exact h
theorem atI_nat' {α : Type} {xs : List α} {j : Nat} {x : α} (h : xs[j]? = some x) : atI xs (j : Int) = some x := atI_of (by omega) (by simpa using h)
/-- an item of a list of ints, as a number -/
theorem atI_ints {ns : List Int} {i : Int} (h0 : 0 ≤ i) (h1 : i < (ns.length : Int)) : atI (ns.map D.int) i = some (.int (ns.getD i.toNat 0)) :=
  atI_of h0 (by
    have hl : i.toNat < ns.length := by omega
    rw [List.getElem?_map, List.getElem?_eq_getElem hl, getD_lt hl]; rfl)
theorem atI_map {α : Type} {f : α → D} {xs : List α} {i : Int} {x : α} (h0 : 0 ≤ i) (h : xs[i.toNat]? = some x) : atI (xs.map f) i = some (f x) := atI_of h0 (by rw [List.getElem?_map, h]; rfl)
theorem atI_last {α : Type} {xs : List α} {x : α} : atI (xs ++ [x]) (-1) = some x := by
  unfold atI ixN
  simp only [List.length_append, List.length_cons, List.length_nil]
  rw [if_neg (by omega)]
  first
    | (rw [if_pos (by omega)]; simp; rw [show (-1 + ((xs.length : Int) + 1)).toNat = xs.length by omega]; simp)
    | (simp; rw [show (-1 + ((xs.length : Int) + 1)).toNat = xs.length by omega]; simp)
section
variable {c : Ct} {A : AS} {Q : QE} {ns : List Int}
/-- the same of a list of ints at any place it may stand in -/
theorem od_ixI {x : RV} {i : Int} (hx : lsOf A x = some (ns.map .int)) (h0 : 0 ≤ i) (h1 : i < (ns.length : Int)) (q : Q A (.val (.int (ns.getD i.toNat 0)))) : OpD c (rIx c.K) x (.val (.int i)) A Q := od_ixL hx (atI_ints h0 h1) q
theorem od_ixLast {x : RV} (hx : lsOf A x = some (ns.map .int)) (h : 0 < ns.length) (q : ∀ v ∈ ns, Q A (.val (.int v))) : OpD c (rIx c.K) x (.val (.int (-1))) A Q := by
  have hl : ns.length - 1 < ns.length := by omega
  refine od_ixL hx (d := .int ns[ns.length - 1]) ?_ (q _ (List.getElem_mem hl))
  unfold atI ixN
  rw [List.length_map, if_neg (by omega), if_pos (by omega)]
  show (ns.map D.int)[_]? = _
  rw [show (-1 + (ns.length : Int)).toNat = ns.length - 1 by omega, List.getElem?_map, List.getElem?_eq_getElem hl]; rfl
/-- an item at some place, by what all of them are -/
theorem od_ixAll {x : RV} {ds : List D} {i : Int} {P : D → Prop} (hx : lsOf A x = some ds) (h0 : 0 ≤ i) (h1 : i < (ds.length : Int)) (hP : ∀ d ∈ ds, P d) (q : ∀ d, P d → Q A (.val d)) : OpD c (rIx c.K) x (.val (.int i)) A Q := by
  have hl : i.toNat < ds.length := by omega
  exact od_ixL hx (d := ds[i.toNat]) (atI_of h0 (List.getElem?_eq_getElem hl)) (q _ (hP _ (List.getElem_mem hl)))
end
/-! ### the statements' rules, their ends apart -/
section
variable {c : Ct} {A : AS} {te ta tb tl to : TE} {t u tt : TT} {nx bk ct : AS → Prop} {rt : List Cell → D → Prop} {t1 t2 : TS} {wi : TI} {g : TG}
theorem vs_seq (h : WS c t1 A ⟨fun A1 => WS c t2 A1 ⟨nx, rt, bk, ct⟩, rt, bk, ct⟩) : WS c (tSeq t1 t2) A ⟨nx, rt, bk, ct⟩ := ws_seq h
/-- a statement, then the rest, with a word between them -/
theorem vs_cut (Mid : AS → Prop) (h : WS c t1 A ⟨Mid, rt, bk, ct⟩) (h2 : ∀ A1, Mid A1 → WS c t2 A1 ⟨nx, rt, bk, ct⟩) : WS c (tSeq t1 t2) A ⟨nx, rt, bk, ct⟩ := vs_seq (h.imp h2 (fun _ _ z => z) (fun _ z => z) (fun _ z => z))
theorem vs_seqA {g : TG} (h : WS c (tAsg te g) A ⟨fun A1 => WS c t2 A1 ⟨nx, rt, bk, ct⟩, rt, bk, ct⟩) : WS c (tSeq (tAsg te g) t2) A ⟨nx, rt, bk, ct⟩ := ws_seq h
theorem vs_seqD (h : WS c (tDrop te) A ⟨fun A1 => WS c t2 A1 ⟨nx, rt, bk, ct⟩, rt, bk, ct⟩) : WS c (tSeq (tDrop te) t2) A ⟨nx, rt, bk, ct⟩ := ws_seq h
theorem vs_next (q : nx A) : WS c tNext A ⟨nx, rt, bk, ct⟩ := ws_next q
theorem vs_break (q : bk A) : WS c tBreak A ⟨nx, rt, bk, ct⟩ := ws_break q
theorem vs_cont (q : ct A) : WS c tCont A ⟨nx, rt, bk, ct⟩ := ws_cont q
theorem vs_drop (h : WE c te A fun A1 _ => nx A1) : WS c (tDrop te) A ⟨nx, rt, bk, ct⟩ := ws_drop h
theorem vs_ret (h : WE c te A fun A1 r => Frz A1 r fun A2 d => rt A2.o d) : WS c (tRet te) A ⟨nx, rt, bk, ct⟩ := ws_ret h
theorem vs_retN (q : rt A.o .non) : WS c tRetN A ⟨nx, rt, bk, ct⟩ := ws_retN q
theorem vs_if (h : WT c t A fun A1 b => (b = true → WS c t1 A1 ⟨nx, rt, bk, ct⟩) ∧ (b = false → WS c t2 A1 ⟨nx, rt, bk, ct⟩)) : WS c (tIfS t t1 t2) A ⟨nx, rt, bk, ct⟩ := ws_if h
theorem vs_asg {i : Nat} (h : WE c te A fun A1 r => Frz A1 r fun A2 d => nx (A2.setS i (.val d))) : WS c (tAsg te (gName i)) A ⟨nx, rt, bk, ct⟩ := ws_asg h
theorem vs_asgG (h : WE c te A fun A1 r => Frz A1 r fun A2 d => WG c g d A2 nx) : WS c (tAsg te g) A ⟨nx, rt, bk, ct⟩ := ws_asgG h
theorem vs_for (I : Nat → AS → Prop) (h : WI c wi A fun A1 ds => I 0 A1 ∧ (∀ (i : Nat) d A2, ds[i]? = some d → I i A2 → WG c g d A2 fun A3 => WS c t1 A3 ⟨I (i + 1), rt, nx, I (i + 1)⟩) ∧ ∀ A2, I ds.length A2 → nx A2) :
    WS c (tFor wi g t1) A ⟨nx, rt, bk, ct⟩ := ws_for (fun _ => I) h
theorem vs_while (I : Nat → AS → Prop) (n0 : Nat) (h0 : I n0 A) (hs : ∀ n A1, I n A1 → WT c tt A1 fun A2 b => (b = true → WS c t1 A2 ⟨fun A3 => ∃ n', n' < n ∧ I n' A3, rt, nx, fun A3 => ∃ n', n' < n ∧ I n' A3⟩) ∧ (b = false → nx A2)) :
    WS c (tWhile tt t1) A ⟨nx, rt, bk, ct⟩ := ws_while I n0 h0 hs
theorem vs_append {i : Nat} {ds0 : List D} (h0 : A.s[i]? = some (some (.own (.lst ds0)))) (h : WE c te A fun A1 r => Frz A1 r fun A2 d => ∃ ds, A2.s[i]? = some (some (.own (.lst ds))) ∧ ds.length < 100000 ∧ nx (A2.setS i (.own (.lst (ds ++ [d]))))) :
    WS c (tDrop (tBM c.K "list" rAppend (tVar i) (tCons te tNil))) A ⟨nx, rt, bk, ct⟩ := ws_append h0 h
theorem vs_setitem {i : Nat} (h : WE c te A fun A1 r => Frz A1 r fun A2 d => ∃ ds0, A2.s[i]? = some (some (.own (.lst ds0))) ∧ WE c tb A2 fun A3 y => ∃ n : Int, y = .val (.int n) ∧ ∃ (ds : List D) (j : Nat), A3.s[i]? = some (some (.own (.lst ds))) ∧ ixN ds.length n = some j ∧ nx (A3.setS i (.own (.lst (ds.set j d))))) :
    WS c (tAsg te (gSub (tVar i) tb rSetL)) A ⟨nx, rt, bk, ct⟩ := ws_setitem h
end
/-! ### the rules, the written part by name -/
section
open PySem.Spec PyProof.Rows
variable {X : Cx} {K : PySem.W.Frag}
theorem op_addK (h : X.K = K) : OpR X (binaryOp .Add) (rAddA K) := h ▸ op_addA
theorem op_eqK (h : X.K = K) (hu : X.A.units + 64 < cLine) : OpR X (compareOp .Eq) (rEqA K) := h ▸ op_eqA hu
theorem op_neK (h : X.K = K) (hu : X.A.units + 64 < cLine) : OpR X (compareOp .NotEq) (rNeA K) := h ▸ op_neA hu
theorem op_inK (h : X.K = K) : OpR X (compareOp .In) (rInA K) := h ▸ op_inA
theorem op_ninK (h : X.K = K) : OpR X (compareOp .NotIn) (rNinA K) := h ▸ op_ninA
theorem ix_seqK (h : X.K = K) : IxR X (rIx K) := h ▸ ix_seq
theorem sl_K (h : X.K = K) : SlR X (rSlAA K) := h ▸ sl_AA
theorem call_lenK (h : X.K = K) : CallR X (.builtin "len") (rLenA K) := h ▸ call_lenA
theorem call_listK (h : X.K = K) : CallR X (.type "list") (rListA K) := h ▸ call_listA
theorem call_tupK (h : X.K = K) : CallR X (.type "tuple") (rTupP K) := h ▸ call_tupP
theorem call_sumK (h : X.K = K) (hc : X.calm = true) : CallR X (.builtin "sum") (rSumA K) := h ▸ call_sumA hc
theorem call_maxK (h : X.K = K) (hc : X.calm = true) : CallR X (.builtin "max") (rMaxA K) := h ▸ call_maxA hc
theorem call_isiK (h : X.K = K) : CallR X (.builtin "isinstance") (rIsi K) := h ▸ call_isi
theorem pi_K {tg it : Expr} (f : PySem.W.Frag → TI) (h : X.K = K) (p : PI X tg it (f X.K)) : PI X tg it (f K) := h ▸ p
theorem pe_K {e : Expr} (f : PySem.W.Frag → TE) (h : X.K = K) (p : PE X e (f X.K)) : PE X e (f K) := h ▸ p
theorem ps_K {st : Stmt} (f : PySem.W.Frag → TS) (h : X.K = K) (p : PS X st (f X.K)) : PS X st (f K) := h ▸ p
theorem pg_K {tg : Expr} (f : PySem.W.Frag → TG) (h : X.K = K) (p : PG X tg (f X.K)) : PG X tg (f K) := h ▸ p
end
section
variable {c : Ct} {A : AS} {Q : QE}
theorem od_catL {x y : RV} {ds es : List D} (hx : lxOf A x = some ds) (hy : lxOf A y = some es) (hl : ds.length + es.length ≤ 10000) (q : Q A (.val (.lst (ds ++ es)))) : OpD c (rAddA c.K) x y A Q := fun F G m σ H v w S E R1 R2 Qc k => by
  obtain ⟨a, vs, rfl, hv, rv⟩ := rep_lx S R1 hx
  obtain ⟨b, ws, rfl, hw, rw_⟩ := rep_lx S R2 hy
  refine .inr (.inl ⟨a, b, vs, ws, rfl, rfl, hv, hw, Nat.le_trans (by rw [rv.len, rw_.len]; exact hl) (by decide), fun p hp => ?_⟩)
  have S1 := S.new (o := .lst (vs ++ ws)) hp
  obtain ⟨f, g, mm⟩ := S.h.fresh hp
  have no := S.notOwn hp
  have ex : Ex F (upd F p (.lst (vs ++ ws))) := ex_upd f
  refine k (upd F p (.lst (vs ++ ws))) m A _ _ (.val (.lst (ds ++ es))) ex (Pre.refl _) ⟨S1.h.freeze upd_same f g mm, S1.s.go ex (Pre.refl _) fun i c a z1 z2 => ?_⟩ (show Rep c.K _ _ _ _ from .lst upd_same ((rv.app rw_).mono ex (Pre.refl _))) q
  obtain ⟨b, q, l, f', g', mm', cc⟩ := S1.s.ownAt z1
  rw [z2] at q; cases q
  have np : a ≠ p := fun z => no ⟨i, c, z1, z ▸ z2⟩
  exact ⟨by rw [upd_ne np]; exact f', mm', rfl⟩
end
theorem as_eta (A : AS) : (⟨A.s, A.o⟩ : AS) = A := rfl
/-! ### marks for the walk -/
/-- run_body, the written part read off the context -/
theorem run_def {K : PySem.W.Frag} {Φ : Contract} {ts : TS} {N : List Str} {vs : List V} {H : Hp} {Q : VK} {E : XK} (h : SpA K Φ vs H Q E)
    (hb : ∀ ds O R X (c : Ct), K = c.K → (∀ σ, c.E σ = E) → (∀ A C fs, X A.o C fs → c.X A C fs) → Φ ds O R X → WS c ts ⟨entry N.length ds, O⟩ ⟨fun A => R A.o .non, R, fun _ => False, fun _ => False⟩) : ts { nx := fun _ H' => Q .non H', rt := Q } (L2.start N vs) H :=
  run_body h fun ds O R X p => hb ds O R X ⟨K, fun _ => E, fun A C fs => X A.o C fs, none⟩ rfl (fun _ => rfl) (fun _ _ _ z => z) p
def tOwn (te : TE) (i : Nat) : TS := tAsg te (gName i)
def tCallB (sp : Sp) (E : XK) (t : TA) : TE := tCall sp [] E t
def tMethB (C : Addr) (m : Str) (sp : Sp) (E : XK) (ta : TE) (t : TA) : TE := tMeth C m sp [] E ta t
theorem pe_lend {X : Cx} {e : Expr} {sp : Sp} {E : XK} {t : TA} (h : PE X e (tCall sp [] E t)) : PE X e (tCallB sp E t) := h
theorem pe_lendM {X : Cx} {e : Expr} {C : Addr} {m : Str} {sp : Sp} {E : XK} {ta : TE} {t : TA} (h : PE X e (tMeth C m sp [] E ta t)) : PE X e (tMethB C m sp E ta t) := h
theorem ps_own {X : Cx} {st : Stmt} {te : TE} {i : Nat} (h : PS X st (tAsg te (gName i))) : PS X st (tOwn te i) := h
section
variable {c : Ct} {A : AS} {te ta tb tl to : TE} {t u tt : TT} {x y : RV} {Q : QE} {B : EA}
theorem vs_own {i : Nat} {nx bk ct : AS → Prop} {rt : List Cell → D → Prop} (h : WN c te A fun A1 ds => nx (A1.setS i (.own (.lst ds)))) : WS c (tOwn te i) A ⟨nx, rt, bk, ct⟩ := ws_asgO h
theorem we_ofLst {ta : TA} (h : WN c (tLst ta) A fun A1 ds => Q A1 (.val (.lst ds))) : WE c (tLst ta) A Q := we_ofN h
theorem we_ofLc {wi : TI} {g : TG} {vs : List Nat} (h : WN c (tLc wi g tt te vs) A fun A1 ds => Q A1 (.val (.lst ds))) : WE c (tLc wi g tt te vs) A Q := we_ofN h
theorem we_ofList {ta : TA} (h : WN c (tCB (rListA c.K) ta) A fun A1 ds => Q A1 (.val (.lst ds))) : WE c (tCB (rListA c.K) ta) A Q := we_ofN h
theorem we_slL {ta : TE} {tlo thi : TO} (h : WE c ta A fun A1 x => WO c tlo A1 fun A2 lo => WO c thi A2 fun A3 hi => ∃ ds, lsOf A1 x = some ds ∧ lsOf A3 x = some ds ∧ Stays A1 A3 x ∧ Q A3 (.val (.lst (cutD ds lo hi)))) : WE c (tSl (rSlAA c.K) ta tlo thi) A Q := we_ofN (wn_slL h)
theorem vs_seqO {i : Nat} {t2 : TS} {nx bk ct : AS → Prop} {rt : List Cell → D → Prop} (h : WS c (tOwn te i) A ⟨fun A1 => WS c t2 A1 ⟨nx, rt, bk, ct⟩, rt, bk, ct⟩) : WS c (tSeq (tOwn te i) t2) A ⟨nx, rt, bk, ct⟩ := ws_seq h
theorem vb_call {Φ : Contract} {E : XK} {t : TA} (h : WAr c t A fun A1 rs => ∃ ds, lent A1 rs = some ds ∧ Φ ds A1.o (fun O' d => NoLst d ∧ NoLstO O' ∧ Q ⟨A1.s, O'⟩ (.val d)) (fun _ _ _ => False)) : WE c (tCallB (SpA c.K Φ) E t) A Q := we_callB h
theorem vb_meth {C : Addr} {mm : Str} {Φ : Contract} {E : XK} {t : TA} (h : WE c ta A fun A1 x => ∃ d fs, x = .val d ∧ insOf A1 (.val d) = some (C, fs) ∧ fs.lookup mm = none ∧ WAr c t A1 fun A2 rs => ∃ ds, lent A2 rs = some ds ∧ Φ (d :: ds) A2.o (fun O' e => NoLst e ∧ NoLstO O' ∧ Q ⟨A2.s, O'⟩ (.val e)) (fun _ _ _ => False)) : WE c (tMethB C mm (SpA c.K Φ) E ta t) A Q := we_methB h
theorem lent_go {rs : List RV} {ds : List D} {P : List D → Prop} (h : lent A rs = some ds) (p : P ds) : ∃ ds, lent A rs = some ds ∧ P ds := ⟨ds, h, p⟩
theorem fld_go {f : Str} {x : RV} {P : D → Prop} {C : Addr} {fs : List (Str × D)} {d : D} (hi : insOf A x = some (C, fs)) (hC : Cls c.K C) (hn : NoAttr c.K C f) (hl : fs.lookup f = some d) (q : P d) : ∃ C fs d, insOf A x = some (C, fs) ∧ Cls c.K C ∧ NoAttr c.K C f ∧ fs.lookup f = some d ∧ P d := ⟨C, fs, d, hi, hC, hn, hl, q⟩
theorem mth_go {C : Addr} {mm : Str} {d : D} {fs : List (Str × D)} {P : D → Prop} (hi : insOf A (.val d) = some (C, fs)) (hl : fs.lookup mm = none) (p : P d) : ∃ d' fs, RV.val d = .val d' ∧ insOf A (.val d') = some (C, fs) ∧ fs.lookup mm = none ∧ P d' := ⟨d, fs, rfl, hi, hl, p⟩
theorem we_catL {ta tb : TE} (h : WE c ta A fun A1 x => WE c tb A1 fun A2 y => ∃ ds es, Stays A1 A2 x ∧ lxOf A2 x = some ds ∧ lxOf A2 y = some es ∧ ds.length + es.length ≤ 10000 ∧ Q A2 (.val (.lst (ds ++ es)))) : WE c (tOp (rAddA c.K) ta tb) A Q := we_ofN (wn_cat h)
theorem frz_val {d : D} {k : AS → D → Prop} (h : k A d) : Frz A (.val d) k := h
theorem frz_own {i : Nat} {ds : List D} {k : AS → D → Prop} (e : A.s[i]? = some (some (.own (.lst ds)))) (h : k (A.setS i (.val (.lst ds))) (.lst ds)) : Frz A (.slot i) k := by
  unfold Frz; simp only [e]; exact h
/-- the slots of a state, written out -/
theorem spa_start {K : PySem.W.Frag} {H : Hp} {a : Addr} {ns : List Int} {Φ : Contract} (hS : SqL K H a (ns.map V.int)) (h : ∀ X, Φ [.scr (ns.map .int)] [] (fun _ d => d = .bl true) X) : SpA K Φ [.ref a] H (fun v _ => v = .bl true) fun _ _ _ => False := by
  refine ⟨H, fun _ => none, [], [], [.scr (ns.map .int)], _, fun _ _ _ => False, ⟨Evl.Ex.refl H, fun a o h => (nomatch h), fun a o _ => rfl, rfl, fun n a c h => (by simp at h), fun n n' a h => (by simp at h), fun n a h => (by simp at h), fun n a h => (by simp at h), fun n a h => (by simp at h)⟩, .cons (.scr hS (reps_ints ns)) .nil, h _, fun F' m' O' v d H' _ _ _ r e => ?_, fun F' m' O' C dx fvs fs H' _ _ _ _ _ x => x⟩
  subst e; cases r; rfl
theorem ex_bl {b : Bool} {P : Bool → Prop} (h : P b) : ∃ b', RV.val (.bl b) = .val (.bl b') ∧ P b' := ⟨b, rfl, h⟩
theorem ex_int {i : Int} {P : Int → Prop} (h : P i) : ∃ j, RV.val (.int i) = .val (.int j) ∧ P j := ⟨i, rfl, h⟩
theorem len_ok {ds : List D} {P : Prop} (h : ds.length ≤ 1000) (p : P) : ds.length ≤ 1000 ∧ P := ⟨h, p⟩
/-- behind a test, by its Prop -/
theorem br {p : Prop} [Decidable p] {P N : Prop} (h1 : p → P) (h2 : ¬ p → N) : (decide p = true → P) ∧ (decide p = false → N) := ⟨fun h => h1 (of_decide_eq_true h), fun h => h2 (of_decide_eq_false h)⟩
theorem brT {P N : Prop} (h1 : P) : (true = true → P) ∧ (true = false → N) := ⟨fun _ => h1, (fun h => nomatch h)⟩
theorem brF {P N : Prop} (h2 : N) : (false = true → P) ∧ (false = false → N) := ⟨(fun h => nomatch h), fun _ => h2⟩
theorem brTn {P N : Prop} (h2 : N) : ((!true) = true → P) ∧ ((!true) = false → N) := ⟨(fun h => nomatch h), fun _ => h2⟩
theorem brFn {P N : Prop} (h1 : P) : ((!false) = true → P) ∧ ((!false) = false → N) := ⟨fun _ => h1, (fun h => nomatch h)⟩
theorem brN {b : Bool} {P N : Prop} (h : (b = true → N) ∧ (b = false → P)) : ((!b) = true → P) ∧ ((!b) = false → N) := by cases b <;> exact ⟨fun e => h.2 (by simpa using e), fun e => h.1 (by simpa using e)⟩
theorem stays_val {A A' : AS} {d : D} {P : Prop} (h : P) : Stays A A' (.val d) ∧ P := ⟨trivial, h⟩
theorem stays_slot {A A' : AS} {i : Nat} {P : Prop} (e : A'.s[i]? = A.s[i]?) (h : P) : Stays A A' (.slot i) ∧ P := ⟨e, h⟩
end
end AL
/-! The walk, a step: the goal's head tells the rule; what is not one of these stays. -/
local macro_rules | `(tactic| walk_at "al side") => `(tactic| first | omega | assumption | decide | (simp; done))
local macro_rules | `(tactic| walk_at "al1") => `(tactic| (with_reducible first
  | refine AL.vs_seq ?_
  | refine AL.vs_ret ?_
  | refine AL.vs_asg ?_
  | refine AL.vs_own ?_
  | refine AL.vs_if ?_
  | refine AL.vs_next ?_
  | refine AL.vs_break ?_
  | refine AL.vs_cont ?_
  | refine AL.vs_retN ?_
  | refine AL.frz_val ?_
  | refine AL.we_int ?_
  | refine AL.we_bl ?_
  | refine AL.we_non ?_
  | refine AL.we_str ?_
  | refine AL.we_ty ?_
  | refine AL.we_op ?_
  | refine AL.we_un ?_
  | refine AL.we_and ?_
  | refine AL.we_or ?_
  | refine AL.we_not ?_
  | refine AL.we_if ?_
  | refine AL.we_ofList ?_
  | refine AL.we_cb ?_
  | refine AL.we_tup ?_
  | refine AL.we_call0 ?_
  | refine AL.vb_call ?_
  | refine AL.vb_meth ?_
  | refine AL.we_meth ?_
  | refine AL.we_prop ?_
  | refine AL.we_fld ?_
  | refine AL.we_makeF ?_
  | refine AL.wt_test ?_
  | refine AL.wt_B ?_
  | refine AL.wt_and ?_
  | refine AL.wt_or ?_
  | refine AL.wt_not ?_
  | refine AL.wa_nil ?_
  | refine AL.wa_cons ?_
  | refine AL.war_nil ?_
  | refine AL.war_cons ?_
  | refine AL.wo_none ?_
  | refine AL.wo_some ?_
  | refine AL.wg_name ?_
  | refine AL.wgs_nil ?_
  | refine AL.wgs_cons ?_
  | refine AL.stays_val ?_
  | refine AL.brT ?_
  | refine AL.brF ?_
  | refine AL.brTn ?_
  | refine AL.brFn ?_
  | refine AL.ex_bl ?_
  | refine AL.ex_int ?_
  | refine AL.od_add ?_
  | refine AL.od_sub ?_
  | refine AL.od_lt ?_
  | refine AL.od_le ?_
  | refine AL.od_gt ?_
  | refine AL.od_ge ?_
  | refine AL.ud_neg ?_
  | refine AL.cb_int ?_
  | refine AL.cb_intB ?_
  | refine AL.cb_abs ?_
  | refine AL.cb_max2 ?_
  | refine AL.cb_min2 ?_
  | refine AL.we_ofLst ?_
  | refine AL.we_ofLc ?_
  | refine AL.wn_lst ?_
  | refine AL.wn_cb ?_
  | refine AL.wi_seq ?_
  | refine AL.wi_r1 ?_
  | refine AL.wi_r2 ?_))
local macro_rules | `(tactic| walk_at "als1") => `(tactic| (with_reducible first
  | refine' AL.vs_seqA ?_
  | refine' AL.vs_seqD ?_
  | refine' AL.vs_seqO ?_
  | refine AL.vs_ret ?_
  | refine AL.vs_asg ?_
  | refine AL.vs_own ?_
  | refine AL.vs_next ?_
  | refine AL.vs_break ?_
  | refine AL.vs_cont ?_
  | refine AL.vs_retN ?_
  | refine AL.frz_val ?_
  | refine AL.we_int ?_
  | refine AL.we_bl ?_
  | refine AL.we_non ?_
  | refine AL.we_str ?_
  | refine AL.we_ty ?_
  | refine AL.we_op ?_
  | refine AL.we_un ?_
  | refine AL.we_and ?_
  | refine AL.we_or ?_
  | refine AL.we_not ?_
  | refine AL.we_if ?_
  | refine AL.we_ofList ?_
  | refine AL.we_cb ?_
  | refine AL.we_tup ?_
  | refine AL.we_call0 ?_
  | refine AL.vb_call ?_
  | refine AL.vb_meth ?_
  | refine AL.we_meth ?_
  | refine AL.we_prop ?_
  | refine AL.we_fld ?_
  | refine AL.we_makeF ?_
  | refine AL.wt_test ?_
  | refine AL.wt_B ?_
  | refine AL.wt_and ?_
  | refine AL.wt_or ?_
  | refine AL.wt_not ?_
  | refine AL.wa_nil ?_
  | refine AL.wa_cons ?_
  | refine AL.war_nil ?_
  | refine AL.war_cons ?_
  | refine AL.wo_none ?_
  | refine AL.wo_some ?_
  | refine AL.wg_name ?_
  | refine AL.wgs_nil ?_
  | refine AL.wgs_cons ?_
  | refine AL.stays_val ?_
  | refine AL.brT ?_
  | refine AL.brF ?_
  | refine AL.brTn ?_
  | refine AL.brFn ?_
  | refine AL.ex_bl ?_
  | refine AL.ex_int ?_
  | refine AL.od_add ?_
  | refine AL.od_sub ?_
  | refine AL.od_lt ?_
  | refine AL.od_le ?_
  | refine AL.od_gt ?_
  | refine AL.od_ge ?_
  | refine AL.ud_neg ?_
  | refine AL.cb_int ?_
  | refine AL.cb_intB ?_
  | refine AL.cb_abs ?_
  | refine AL.cb_max2 ?_
  | refine AL.cb_min2 ?_
  | refine AL.we_ofLst ?_
  | refine AL.we_ofLc ?_
  | refine AL.wn_lst ?_
  | refine AL.wn_cb ?_
  | refine AL.wi_seq ?_
  | refine AL.wi_r1 ?_
  | refine AL.wi_r2 ?_))
local macro_rules | `(tactic| walk_at "al2") => `(tactic| first
  | ((with_reducible refine' AL.we_var ?h ?_); (case h => rfl))
  | ((with_reducible refine' AL.we_own ?h ?_); (case h => rfl))
  | ((with_reducible refine' AL.frz_own ?h ?_); (case h => rfl))
  | ((with_reducible refine' AL.stays_slot ?h ?_); (case h => rfl))
  | ((with_reducible refine' AL.od_mod ?h ?_); (case h => walk_at "al side"))
  | ((with_reducible refine' AL.od_div ?h ?_); (case h => refine ⟨?_, .inl ?_⟩ <;> walk_at "al side"))
  | ((with_reducible refine' AL.od_mul ?h ?_); (case h => first | exact .inl (.inr ⟨by decide, by decide⟩) | exact .inl (.inl ⟨by decide, by decide⟩) | exact .inl (.inr ⟨by omega, by omega⟩) | exact .inl (.inl ⟨by omega, by omega⟩)))
  | ((with_reducible refine' AL.od_pow ?h ?_); (case h => exact ⟨by decide, by decide, by decide⟩))
  | ((with_reducible refine' AL.od_eqS ?h ?_); (case h => rfl))
  | ((with_reducible refine' AL.od_neS ?h ?_); (case h => rfl))
  | ((with_reducible refine' AL.od_is (b := true) ?h ?_); (case h => rfl))
  | ((with_reducible refine' AL.od_is (b := false) ?h ?_); (case h => rfl))
  | ((with_reducible refine' AL.od_not (b := true) ?h ?_); (case h => rfl))
  | ((with_reducible refine' AL.od_not (b := false) ?h ?_); (case h => rfl))
  | ((with_reducible refine' AL.cb_isi ?h1 ?h2 ?_); (case h1 => rfl); (case h2 => constructor))
  | ((with_reducible refine' AL.cb_lenL ?h ?_); (case h => rfl))
  | ((with_reducible refine' AL.cb_lenT ?h ?_); (case h => rfl))
  | ((with_reducible refine' AL.cb_tupL ?h ?_); (case h => rfl))
  | ((with_reducible refine' AL.cb_tupT ?h ?_); (case h => rfl))
  | ((with_reducible refine' AL.cn_listL ?h ?_); (case h => rfl))
  | ((with_reducible refine' AL.cn_listT ?h ?_); (case h => rfl))
  | ((with_reducible refine' AL.wg_sct ?h ?_); (case h => rfl))
  | ((with_reducible refine' AL.wg_tup ?h ?_); (case h => rfl))
  | ((with_reducible refine' AL.lent_go ?h ?_); (case h => rfl))
  | ((with_reducible refine' AL.fld_go ?hi ?hC ?hn ?hl ?_); (case hi => rfl); (case hC => assumption); (case hn => assumption); (case hl => rfl))
  | ((with_reducible refine' AL.mth_go ?hi ?hl ?_); (case hi => rfl); (case hl => rfl))
  | ((with_reducible refine' AL.len_ok ?h ?_); (case h => exact Nat.le_of_ble_eq_true rfl))
  | ((with_reducible refine' AL.od_ixI ?h ?h0 ?h1 ?_); (case h => rfl); (case h0 => omega); (case h1 => omega))
  | ((with_reducible refine' AL.od_catL ?h ?h2 ?h3 ?_); (case h => rfl); (case h2 => rfl); (case h3 => first | omega | (simp only [List.length_map, List.length_append, List.length_cons, List.length_nil]; omega)))
  | ((with_reducible refine' AL.wn_slL ?_))
  | ((with_reducible refine' AL.vs_append ?h ?_); (case h => rfl))
  | (with_reducible refine' AL.vs_drop ?_))
local macro_rules | `(tactic| walk_at "al") => `(tactic| ((repeat (first | walk_at "al1" | walk_at "al2")); all_goals (try dsimp only [AL.as_eta])))
local macro_rules | `(tactic| walk_at "als") => `(tactic| ((repeat (first | walk_at "als1" | walk_at "al2")); all_goals (try dsimp only [AL.as_eta])))
local macro_rules | `(tactic| walk_at "flat") => `(tactic| simp only [AL.as_eta, AL.AS.setS, AL.entry, List.set, List.map, List.length_cons, List.length_nil, List.replicate, List.cons_append, List.nil_append])

namespace AL
open PySem L2
/-! ### lists of ints -/
theorem firstAt {ns : List Int} {M : Int} (h : M ∈ ns) : ∃ j : Nat, ns[j]? = some M ∧ ∀ m : Nat, m < j → ns[m]? ≠ some M := by
  induction ns with
  | nil => cases h
  | cons x r ih =>
    by_cases e : x = M
    · subst e; exact ⟨0, rfl, fun m hm => absurd hm (Nat.not_lt_zero _)⟩
    · have h' : M ∈ r := by rcases List.mem_cons.mp h with z | z; exact absurd z.symm e; exact z
      obtain ⟨j, h1, h2⟩ := ih h'
      refine ⟨j + 1, by simpa using h1, fun m hm => ?_⟩
      cases m with
      | zero => simpa using e
      | succ m => simpa using h2 m (by omega)
theorem sumTk (ns : List Int) (l : Nat) : (ns.take (l + 1)).sum = (ns.take l).sum + ns.getD l 0 := by
  rw [List.take_add_one, List.sum_append]
  cases e : ns[l]? with
  | none => simp [List.getD, e]
  | some v => simp [List.getD, e]
theorem sumNN {ns : List Int} (h : ∀ x ∈ ns, 0 ≤ x) : 0 ≤ ns.sum := by
  induction ns with
  | nil => simp
  | cons x r ih =>
    rw [List.sum_cons]
    have := h x (by simp)
    have := ih fun y hy => h y (by simp [hy])
    omega
theorem sumTkLe {ns : List Int} (h : ∀ x ∈ ns, 0 ≤ x) (a b : Nat) (hab : a ≤ b) : (ns.take a).sum ≤ (ns.take b).sum := by
  induction b with
  | zero => rw [Nat.le_zero.mp hab]; exact Int.le_refl _
  | succ b ih =>
    by_cases e : a = b + 1
    · subst e; exact Int.le_refl _
    · have h1 := ih (by omega)
      rw [sumTk]
      have : 0 ≤ ns.getD b 0 := by
        by_cases hb : b < ns.length
        · rw [getD_lt hb]; exact h _ (List.getElem_mem hb)
        · rw [getD_ge (by omega)]; exact Int.le_refl _
      omega
theorem getD_ints {ns : List Int} {P : Int → Prop} (h : ∀ x ∈ ns, P x) (h0 : P 0) (j : Nat) : P (ns.getD j 0) := by
  by_cases hb : j < ns.length
  · rw [getD_lt hb]; exact h _ (List.getElem_mem hb)
  · rw [getD_ge (by omega)]; exact h0
/-! ### a row of ints, a list or a tuple -/
def Seq (d : D) (ns : List Int) : Prop := d = .lst (ns.map .int) ∨ d = .tup (ns.map .int)
section
variable {c : Ct} {A : AS} {Q : QE} {d : D} {ns : List Int} {t : TA}
theorem cb_sumS (h : Seq d ns) (q : Q A (.val (.int ns.sum))) : CbD c (rSumA c.K) [.val d] A Q := by
  rcases h with rfl | rfl
  · exact cb_sumL rfl q
  · exact cb_sumT rfl q
theorem cb_maxS (h : Seq d ns) (h0 : 0 < ns.length) (q : ∀ M, M ∈ ns → (∀ y, y ∈ ns → y ≤ M) → Q A (.val (.int M))) : CbD c (rMaxA c.K) [.val d] A Q := by
  rcases h with rfl | rfl
  · exact cb_maxL rfl h0 q
  · exact cb_maxT rfl h0 q
theorem cb_lenS (h : Seq d ns) (q : Q A (.val (.int (ns.length : Nat)))) : CbD c (rLenA c.K) [.val d] A Q := by
  rcases h with rfl | rfl
  · exact cb_lenL rfl (by rw [List.length_map]; exact q)
  · exact cb_lenT rfl (by rw [List.length_map]; exact q)
theorem cn_listS {Q : AS → List D → Prop} (h : Seq d ns) (q : Q A (ns.map .int)) : CbN c (rListA c.K) [.val d] A Q := by
  rcases h with rfl | rfl
  · exact cn_listL rfl q
  · exact cn_listT rfl q
theorem od_ixS {i : Int} (h : Seq d ns) (h0 : 0 ≤ i) (h1 : i < (ns.length : Int)) (q : Q A (.val (.int (ns.getD i.toNat 0)))) : OpD c (rIx c.K) (.val d) (.val (.int i)) A Q := by
  rcases h with rfl | rfl
  · exact od_ixL rfl (atI_ints h0 h1) q
  · exact od_ixT rfl (atI_ints h0 h1) q
theorem we_indexS {i : Nat} (hi : A.s[i]? = some (some (.val d))) (h : Seq d ns) (q : WAr c t A fun A2 rs => ∃ (y : Int) (j : Nat), rs = [.val (.int y)] ∧ ns[j]? = some y ∧ (∀ m : Nat, m < j → ns[m]? ≠ some y) ∧ Q A2 (.val (.int (j : Nat)))) : WE c (tIndexA c.K (tVar i) t) A Q := by
  rcases h with rfl | rfl
  · refine we_indexL (we_var hi ⟨_, rfl, fun F G m σ H S E Qc k => q F G m σ H S E Qc fun F' m' A' vs H' rs e p S' R z => k F' m' A' vs H' rs e p S' R ?_⟩)
    obtain ⟨y, j, e1, e2, e3, e4⟩ := z
    exact ⟨ns, y, j, e1, trivial, rfl, e2, e3, e4⟩
  · exact we_indexT (we_var hi ⟨ns, rfl, q⟩)
end
theorem sumPos {ns : List Int} {x : Int} (h : ∀ y ∈ ns, 0 ≤ y) (hx : x ∈ ns) (h0 : 0 < x) : 0 < ns.sum := by
  induction ns with
  | nil => cases hx
  | cons y r ih =>
    rw [List.sum_cons]
    have h1 := h y (by simp)
    have h2 := sumNN (ns := r) fun z hz => h z (by simp [hz])
    rcases List.mem_cons.mp hx with e | e
    · subst e; omega
    · have := ih (fun z hz => h z (by simp [hz])) e; omega
/-! ### the drawn numbers -/
def AllN (ns : List Int) : Prop := ∀ n ∈ ns, 0 ≤ n ∧ n < 1000
theorem AllN.at (h : AllN ns) (j : Nat) : 0 ≤ ns.getD j 0 ∧ ns.getD j 0 < 1000 := getD_ints (P := fun x => 0 ≤ x ∧ x < 1000) h (by omega) j
theorem AllN.app {ns : List Int} {x : Int} (h : AllN ns) (hx : 0 ≤ x ∧ x < 1000) : AllN (ns ++ [x]) := fun n hn => by
  rcases List.mem_append.mp hn with h1 | h1
  · exact h n h1
  · rw [List.mem_singleton] at h1; subst h1; exact hx
/-- arguments, and a row of drawn numbers -/
def C__law_numbers : Contract := fun ds O R _ => ∃ cell at_ many : Int, ds = [.int cell, .int at_, .int many] ∧ 0 ≤ many ∧ many ≤ 1000 ∧ ∀ ns : List Int, (ns.length : Int) = many → AllN ns → R O (.lst (ns.map .int))
theorem len__law_numbers : ∀ ds O R X, C__law_numbers ds O R X → ds.length = 3 := fun _ _ _ _ h => by obtain ⟨_, _, _, rfl, _⟩ := h; rfl
/-! ### sameness -/
/-- data that _law_same may be asked of, to a depth -/
def okD : Nat → D → Prop
  | k + 1, .tup ds => ds.length < 1000 ∧ ∀ d ∈ ds, okD k d
  | _ + 1, .lst _ => True
  | _ + 1, .non => True
  | _ + 1, .bl _ => True
  | _ + 1, .int _ => True
  | _ + 1, .str _ => True
  | _, _ => False
def okE : Nat → D → Prop
  | k + 1, .tup ds => ds.length < 1000 ∧ ∀ d ∈ ds, okE k d
  | _ + 1, .non => True
  | _ + 1, .bl _ => True
  | _ + 1, .int _ => True
  | _ + 1, .str _ => True
  | _, _ => False
def sameK : Nat → D → D → Bool
  | k + 1, .tup ds, .tup es => decide (ds.length = es.length) && (List.range es.length).all fun i => sameK k (ds.getD i .non) (es.getD i .non)
  | _ + 1, .non, .non => true
  | _ + 1, .bl a, .bl b => decide (a = b)
  | _ + 1, .int a, .int b => decide (a = b)
  | _ + 1, .str a, .str b => decide (a = b)
  | _, _, _ => false
def C__law_same (k : Nat) : Contract := fun ds O R _ => ∃ a e, ds = [a, e] ∧ okD k a ∧ okE k e ∧ R O (.bl (sameK k a e))
theorem len__law_same {k : Nat} : ∀ ds O R X, C__law_same k ds O R X → ds.length = 2 := fun _ _ _ _ h => by obtain ⟨_, _, rfl, _⟩ := h; rfl
theorem none__law_same {K : PySem.W.Frag} {vs : List V} {H : Hp} {Q : VK} {E : XK} (h : SpA K (C__law_same 0) vs H Q E) : False := by
  obtain ⟨_, _, _, _, _, _, _, _, _, ⟨_, _, _, h, _⟩, _⟩ := h
  exact h
theorem same_int {k : Nat} {i j : Int} : sameK (k + 1) (.int i) (.int j) = decide (i = j) := rfl
end AL
namespace AL
open PySem L2
/-! ### data, compared -/
theorem canLay_ints : ∀ ns : List Int, PyData.canLayAll0 (ns.map PyData.int) = true
  | [] => rfl
  | n :: ns => by
    show (true && PyData.canLayAll0 (ns.map PyData.int)) = true
    rw [canLay_ints ns]; rfl
theorem depth_ints : ∀ ns : List Int, PyData.depthAll (ns.map PyData.int) ≤ 1
  | [] => by decide
  | n :: ns => by
    have := depth_ints ns
    show max _ _ ≤ 1
    exact Nat.max_le.mpr ⟨Nat.zero_le _, this⟩
theorem shaped_ints (ns : List Int) : SeqAt.shaped (.list (ns.map PyData.int)) = true := by
  unfold SeqAt.shaped
  rw [Bool.and_eq_true]
  refine ⟨canLay_ints ns, decide_eq_true ?_⟩
  have := depth_ints ns
  show _ + 1 ≤ 64
  omega
theorem eqv_ints (ns : List Int) : PyData.eqv (.list (ns.map PyData.int)) (.list (ns.map PyData.int)) = true := SeqAt.eqv_refl _ (canLay_ints ns)
theorem cutD_to {ds : List D} {n : Int} (h : 0 ≤ n) : cutD ds none (some n) = ds.take n.toNat := by
  unfold cutD
  rw [HT.sIx_none]
  have e := HT.sIx_nat ds.length ds.length n.toNat
  rw [show ((n.toNat : Nat) : Int) = n by omega] at e
  rw [e, List.drop_zero, Nat.sub_zero]
  by_cases hl : n.toNat ≤ ds.length
  · rw [Nat.min_eq_left hl]
  · rw [Nat.min_eq_right (by omega), List.take_length, List.take_of_length_le (by omega)]
end AL
namespace AL
open PySem L2
/-! ### comprehensions over rows that are told by a function -/
def noOwnB (s : List (Option SV)) (vs : List Nat) : Bool := vs.all fun i => match s[i]? with
  | some (some (.own _)) => false
  | _ => true
theorem noOwn_of {s : List (Option SV)} {vs : List Nat} (h : noOwnB s vs = true) : NoOwn s vs := fun i hi x e => by
  have := List.all_eq_true.mp h i hi
  rw [e] at this; cases this
/-- what an element may leave -/
def Keeps (vs : List Nat) (A A' : AS) : Prop := A'.o = A.o ∧ ∀ j, j ∉ vs → A'.s[j]? = A.s[j]?
theorem keeps_wipe {vs : List Nat} {A : AS} : Keeps vs A ⟨wipeA A.s vs, A.o⟩ := ⟨rfl, fun j h => wipe_keeps h⟩
theorem keeps_eta {vs : List Nat} {A A' : AS} (h : Keeps vs A A') : Keeps vs A ⟨A'.s, A'.o⟩ := h
theorem keeps_set {vs : List Nat} {A A' : AS} {i : Nat} {v : SV} (h : Keeps vs A A') (hi : i ∈ vs) : Keeps vs A (A'.setS i v) := ⟨h.1, fun j hj => by
  show (A'.s.set i (some v))[j]? = _
  rw [List.getElem?_set_ne (fun z => hj (by rw [← z]; exact hi))]; exact h.2 j hj⟩
section
variable {c : Ct} {A : AS} {te : TE} {Q : QE}
theorem fm_some {α β : Type} (h : α → β) : ∀ xs : List α, (xs.map (fun x => some (h x))).filterMap id = xs.map h
  | [] => rfl
  | x :: xs => by rw [List.map_cons, List.map_cons, List.filterMap_cons]; simp only [id]; rw [fm_some h xs]
theorem wt_yes {Q : AS → Bool → Prop} (q : Q A true) : WT c tYes A Q := fun F G m σ H S E Qc k => k F m A true H (Evl.Ex.refl F) (Pre.refl m) S q
theorem wn_lcM {α : Type} {wi : TI} {g : TG} {vs : List Nat} {Q : AS → List D → Prop} (f h : α → D) (hg : GOk g vs)
    (hw : WI c wi A fun A1 ds => ∃ xs : List α, ds = xs.map f ∧ noOwnB A1.s vs = true ∧ xs.length < 100000 ∧ (∀ x ∈ xs, WG c g (f x) ⟨wipeA A1.s vs, A1.o⟩ fun A2 => WE c te A2 fun A4 r => Frz A4 r fun A5 e => e = h x ∧ Keeps vs A1 A5) ∧ Q A1 (xs.map h)) :
    WN c (tLc wi g tYes te vs) A Q := wn_lc hg fun F G m σ H S E Rc k => hw F G m σ H S E Rc fun F' m' A1 J H' ds e p S' RJ ⟨xs, ed, no, hl, hs, q⟩ => by
  subst ed
  refine k F' m' A1 J H' _ e p S' RJ ⟨noOwn_of no, by rw [List.length_map]; exact hl, xs.map (fun x => some (h x)), by simp, fun i d hd => ?_, ?_⟩
  · rw [List.getElem?_map] at hd
    cases z : xs[i]? with
    | none => rw [z] at hd; cases hd
    | some x =>
      rw [z] at hd; cases hd
      intro F G m σ H v S R E Qc k
      refine hs x (List.mem_of_getElem? z) F G m σ H v S R E Qc fun F2 m2 A2 σ2 H2 e2 p2 S2 q2 => k F2 m2 A2 σ2 H2 e2 p2 S2 (wt_yes ⟨fun _ => ?_, fun b => nomatch b⟩)
      refine q2.imp fun A4 r q4 => ?_
      have : ∀ (A : AS) (r : RV) (P R : AS → D → Prop), (∀ A d, P A d → R A d) → Frz A r P → Frz A r R := fun A r P R hpr hf => by
        cases r with
        | val d => exact hpr _ _ hf
        | slot j =>
          simp only [Frz] at hf ⊢
          split at hf
          · exact hpr _ _ hf
          · exact hf.elim
      refine this A4 r _ _ (fun A5 e5 ⟨h1, h2⟩ => ⟨?_, h2.1, h2.2⟩) q4
      rw [List.getElem?_map, z, h1]; rfl
  · rw [fm_some]; exact q
theorem zipD_ints (a b : List Int) : zipD (a.map D.int) (b.map D.int) = (a.zip b).map fun p => .sct [.int p.1, .int p.2] := by
  apply List.ext_getElem?
  intro i
  by_cases h : i < min a.length b.length
  · have h1 : i < a.length := by omega
    have h2 : i < b.length := by omega
    unfold zipD
    rw [List.getElem?_map, List.getElem?_range (by simpa using h), List.getElem?_map, show (a.zip b)[i]? = some (a[i], b[i]) from List.getElem?_zip_eq_some.mpr ⟨List.getElem?_eq_getElem h1, List.getElem?_eq_getElem h2⟩]
    simp [List.getD, h1, h2]
  · rw [List.getElem?_eq_none (by rw [zipD_len]; simpa using h), List.getElem?_eq_none (by simpa using h)]
end
theorem frz_imp {A : AS} {r : RV} {k k' : AS → D → Prop} (h : Frz A r k) (f : ∀ A d, k A d → k' A d) : Frz A r k' := by
  unfold Frz at h ⊢
  split at h
  · exact f _ _ h
  · split at h
    · exact f _ _ h
    · exact h.elim
theorem vs_fldI {c : Ct} {A : AS} {te ta : TE} {f : Str} {nx bk ct : AS → Prop} {rt : List Cell → D → Prop} (h : WE c te A fun A1 r => Frz A1 r fun A2 d => WE c ta A2 fun A3 x => ∃ (i : Nat) (O : List Cell) (C : Addr) (fs : List (Str × D)), x = .val (.ptr i) ∧ A3.o = O.set i (.ins C fs) ∧ i < O.length ∧ Cls c.K C ∧ NoAttr c.K C f ∧ fs.length < 900 ∧ nx ⟨A3.s, O.set i (.ins C (putD f d fs))⟩) :
    WS c (sFld c.K ta te f) A ⟨nx, rt, bk, ct⟩ := ws_fld (h.imp fun A1 r z => (frz_imp z fun A2 d z2 => z2.imp fun A3 x ⟨i, O, C, fs, ex, eo, hi, hC, hn, hl, q⟩ => ⟨i, C, fs, ex, by rw [eo, List.getElem?_set_self hi], hC, hn, hl, by rw [eo, List.set_set]; exact q⟩))
theorem set_id {α : Type} {O : List α} {i : Nat} {x : α} (h : O[i]? = some x) : O = O.set i x ∧ i < O.length := by
  have hl := (List.getElem?_eq_some_iff.mp h).1
  refine ⟨?_, hl⟩
  have e := (List.getElem?_eq_some_iff.mp h).2
  rw [← e, List.set_getElem_self]
end AL
local macro_rules | `(tactic| walk_at "keeps") => `(tactic| (repeat (first | exact AL.keeps_wipe | refine AL.keeps_set ?_ (by decide) | (with_reducible refine AL.keeps_eta ?_))))

namespace AL
open PySem L2
/-! ### a net, in plain words -/
def dV (v : List Int) : D := .tup (v.map .int)
def dM (m : List (List Int)) : D := .tup (m.map dV)
def Bd (v : List Int) : Prop := ∀ x ∈ v, 0 ≤ x ∧ x < 100
def dotI (a b : List Int) (p : Int) : Int := ((a.zip b).map fun q => q.1 * q.2).sum % p
def timesI (m : List (List Int)) (v : List Int) (p : Int) : List Int := m.map fun r => dotI r v p
def plusI (a b : List Int) (p : Int) : List Int := (a.zip b).map fun q => (q.1 + q.2) % p
def scaledI (n : Int) (v : List Int) (p : Int) : List Int := v.map fun x => n * x % p
def squaresI (v : List Int) (p : Int) : List Int := v.map fun x => x * x % p
abbrev Pr := List Int × List Int
def dPr (k : Pr) : D := .tup [dV k.1, dV k.2]
def heardI (x q : List Int) : List Pr → Int → List Int
  | [], _ => x
  | k :: r, p => heardI (plusI x (scaledI (dotI q k.1 p) k.2 p) p) q r p
structure Lay where
  q : List (List Int)
  k : List (List Int)
  v : List (List Int)
  f : List (List Int)
  s : List (List Int)
def dLay (l : Lay) : D := .tup [dM l.q, dM l.k, dM l.v, dM l.f, dM l.s]
def layI (l : Lay) (x : List Int) (before : List Pr) (p : Int) : List Int × Pr :=
  let pr := (timesI l.k x p, timesI l.v x p)
  let x1 := heardI x (timesI l.q x p) (before ++ [pr]) p
  (plusI x1 (timesI l.s (squaresI (timesI l.f x1 p) p) p) p, pr)
structure Row where
  pairs : List Pr
  weights : List Int
def dRow (r : Row) : D := .tup [.tup (r.pairs.map dPr), dV r.weights]
structure NetM where
  p : Int
  emb : List (List Int)
  shift : List Int
  layers : List Lay
  out : List (List Int)
def dNet (C : Addr) (n : NetM) (e : D) : D := .obj C [("prime", .int n.p), ("end", e), ("_embed", dM n.emb), ("_shift", dV n.shift), ("_layers", .tup (n.layers.map dLay)), ("_out", dM n.out)]
def before (rows : List Row) (i : Nat) : List Pr := rows.map fun w => w.pairs.getD i ([], [])
def laysI (p : Int) (rows : List Row) : List Lay → Nat → List Int → List Pr → List Int × List Pr
  | [], _, x, ps => (x, ps)
  | l :: r, i, x, ps => laysI p rows r (i + 1) (layI l x (before rows i) p).1 (ps ++ [(layI l x (before rows i) p).2])
def rowI (n : NetM) (rows : List Row) (letter : Nat) : Row :=
  let z := laysI n.p rows n.layers 0 (plusI (n.emb.getD letter []) (scaledI rows.length n.shift n.p) n.p) []
  ⟨z.2, (timesI n.out z.1 n.p).map (· + 1)⟩
def rowsI (n : NetM) (letters : List Nat) : List Row := letters.foldl (fun rows l => rows ++ [rowI n rows l]) []
/-! what is well made -/
def BdM (m : List (List Int)) : Prop := m.length ≤ 100 ∧ ∀ r ∈ m, Bd r ∧ r.length ≤ 100
structure BdL (l : Lay) : Prop where
  q : BdM l.q
  k : BdM l.k
  v : BdM l.v
  f : BdM l.f
  s : BdM l.s
structure WfN (n : NetM) : Prop where
  p0 : 0 < n.p
  p1 : n.p < 100
  emb : BdM n.emb
  shift : Bd n.shift ∧ n.shift.length ≤ 100
  lay : n.layers.length ≤ 10 ∧ ∀ l ∈ n.layers, BdL l
  out : BdM n.out
def WfR (n : NetM) (r : Row) : Prop := r.pairs.length = n.layers.length ∧ ∀ k ∈ r.pairs, Bd k.2 ∧ k.2.length ≤ 100
theorem bd_mod {α : Type} {f : α → Int} {p : Int} (h0 : 0 < p) (h1 : p < 100) (xs : List α) : Bd (xs.map fun x => f x % p) := fun x hx => by
  obtain ⟨y, _, rfl⟩ := List.mem_map.mp hx
  have := Int.emod_nonneg (f y) (show p ≠ 0 by omega)
  have := Int.emod_lt_of_pos (f y) h0
  omega
theorem bd_times {m : List (List Int)} {v : List Int} {p : Int} (h0 : 0 < p) (h1 : p < 100) : Bd (timesI m v p) := bd_mod h0 h1 m
theorem bd_plus {a b : List Int} {p : Int} (h0 : 0 < p) (h1 : p < 100) : Bd (plusI a b p) := bd_mod h0 h1 _
theorem bd_scaled {n : Int} {v : List Int} {p : Int} (h0 : 0 < p) (h1 : p < 100) : Bd (scaledI n v p) := bd_mod h0 h1 _
theorem bd_squares {v : List Int} {p : Int} (h0 : 0 < p) (h1 : p < 100) : Bd (squaresI v p) := bd_mod h0 h1 _
theorem bd_heard {q : List Int} {p : Int} (h0 : 0 < p) (h1 : p < 100) : ∀ (ps : List Pr) (x : List Int), Bd x → Bd (heardI x q ps p)
  | [], x, h => h
  | k :: r, x, h => bd_heard h0 h1 r _ (bd_plus h0 h1)
theorem dotI_bd {a b : List Int} {p : Int} (h0 : 0 < p) (h1 : p < 100) : 0 ≤ dotI a b p ∧ dotI a b p < 100 := by
  have := Int.emod_nonneg ((a.zip b).map fun q => q.1 * q.2).sum (show p ≠ 0 by omega)
  have := Int.emod_lt_of_pos ((a.zip b).map fun q => q.1 * q.2).sum h0
  unfold dotI; omega
theorem plus_len {a b : List Int} {p : Int} : (plusI a b p).length ≤ a.length := by unfold plusI; rw [List.length_map, List.length_zip]; omega
theorem heard_len {q : List Int} {p : Int} : ∀ (ps : List Pr) (x : List Int), (heardI x q ps p).length ≤ x.length
  | [], x => Nat.le_refl _
  | k :: r, x => Nat.le_trans (heard_len r _) plus_len
theorem lay_len {l : Lay} {x : List Int} {ps : List Pr} {p : Int} : (layI l x ps p).1.length ≤ x.length := Nat.le_trans plus_len (heard_len _ _)
theorem lay_bd {l : Lay} {x : List Int} {ps : List Pr} {p : Int} (h0 : 0 < p) (h1 : p < 100) : Bd (layI l x ps p).1 := bd_plus h0 h1
theorem lay_pr {l : Lay} {x : List Int} {ps : List Pr} {p : Int} (h0 : 0 < p) (h1 : p < 100) (hl : BdL l) : Bd (layI l x ps p).2.2 ∧ (layI l x ps p).2.2.length ≤ 100 := ⟨bd_times h0 h1, by show (timesI _ _ _).length ≤ 100; unfold timesI; rw [List.length_map]; exact hl.v.1⟩
theorem noLst_dV (v : List Int) : NoLst (dV v) := .tup (noLsts_ints v)
theorem noLst_dM (m : List (List Int)) : NoLst (dM m) := .tup (noLsts_map noLst_dV m)
theorem noLst_dPr (k : Pr) : NoLst (dPr k) := .tup (.cons (noLst_dV _) (.cons (noLst_dV _) .nil))
theorem noLst_dRow (r : Row) : NoLst (dRow r) := .tup (.cons (.tup (noLsts_map noLst_dPr _)) (.cons (noLst_dV _) .nil))
/-! ### what the defs promise -/
section
def C_dot : Contract := fun ds O R _ => ∃ a d b p, ds = [dV a, d, .int p] ∧ Seq d b ∧ Bd a ∧ a.length ≤ 1000 ∧ 0 < p ∧ R O (.int (dotI a b p))
def C_times : Contract := fun ds O R _ => ∃ m d v p, ds = [dM m, d, .int p] ∧ Seq d v ∧ BdM m ∧ 0 < p ∧ R O (dV (timesI m v p))
def C_plus : Contract := fun ds O R _ => ∃ a b p, ds = [dV a, dV b, .int p] ∧ a.length ≤ 1000 ∧ 0 < p ∧ R O (dV (plusI a b p))
def C_scaled : Contract := fun ds O R _ => ∃ n v p, ds = [.int n, dV v, .int p] ∧ Bd v ∧ v.length ≤ 1000 ∧ 0 < p ∧ R O (dV (scaledI n v p))
def C_with_heard : Contract := fun ds O R _ => ∃ x q ps p, ds = [dV x, dV q, .lst (ps.map dPr), .int p] ∧ Bd q ∧ q.length ≤ 1000 ∧ x.length ≤ 1000 ∧ (∀ k ∈ ps, Bd k.2 ∧ k.2.length ≤ 1000) ∧ 0 < p ∧ p < 100 ∧ R O (dV (heardI x q ps p))
def behI (l : Lay) (x : List Int) (ps : List Pr) (p : Int) : List Int := plusI (heardI x (timesI l.q x p) ps p) (timesI l.s (squaresI (timesI l.f (heardI x (timesI l.q x p) ps p) p) p) p) p
def prI (l : Lay) (x : List Int) (p : Int) : Pr := (timesI l.k x p, timesI l.v x p)
theorem layI_eq {l : Lay} {x : List Int} {ps : List Pr} {p : Int} : layI l x ps p = (behI l x (ps ++ [prI l x p]) p, prI l x p) := rfl
def C_pair_of : Contract := fun ds O R _ => ∃ l x p, ds = [dLay l, dV x, .int p] ∧ BdL l ∧ 0 < p ∧ R O (dPr (prI l x p))
def C_squared : Contract := fun ds O R _ => ∃ v p, ds = [dV v, .int p] ∧ Bd v ∧ v.length ≤ 1000 ∧ 0 < p ∧ R O (dV (squaresI v p))
def C_behind_layer : Contract := fun ds O R _ => ∃ l x ps p, ds = [dLay l, dV x, .lst (ps.map dPr), .int p] ∧ BdL l ∧ Bd x ∧ x.length ≤ 100 ∧ ps.length ≤ 1000 ∧ (∀ k ∈ ps, Bd k.2 ∧ k.2.length ≤ 100) ∧ 0 < p ∧ p < 100 ∧ R O (dV (behI l x ps p))
theorem len_dot : ∀ ds O R X, C_dot ds O R X → ds.length = 3 := fun _ _ _ _ h => by obtain ⟨_, _, _, _, rfl, _⟩ := h; rfl
theorem len_times : ∀ ds O R X, C_times ds O R X → ds.length = 3 := fun _ _ _ _ h => by obtain ⟨_, _, _, _, rfl, _⟩ := h; rfl
theorem len_plus : ∀ ds O R X, C_plus ds O R X → ds.length = 3 := fun _ _ _ _ h => by obtain ⟨_, _, _, rfl, _⟩ := h; rfl
theorem len_scaled : ∀ ds O R X, C_scaled ds O R X → ds.length = 3 := fun _ _ _ _ h => by obtain ⟨_, _, _, rfl, _⟩ := h; rfl
theorem len_with_heard : ∀ ds O R X, C_with_heard ds O R X → ds.length = 4 := fun _ _ _ _ h => by obtain ⟨_, _, _, _, rfl, _⟩ := h; rfl
theorem len_pair_of : ∀ ds O R X, C_pair_of ds O R X → ds.length = 3 := fun _ _ _ _ h => by obtain ⟨_, _, _, rfl, _⟩ := h; rfl
theorem len_squared : ∀ ds O R X, C_squared ds O R X → ds.length = 2 := fun _ _ _ _ h => by obtain ⟨_, _, rfl, _⟩ := h; rfl
theorem len_behind_layer : ∀ ds O R X, C_behind_layer ds O R X → ds.length = 4 := fun _ _ _ _ h => by obtain ⟨_, _, _, _, rfl, _⟩ := h; rfl
end
theorem Seq.sq {d : D} {ns : List Int} (h : Seq d ns) : sqD d = some (ns.map .int) := by rcases h with rfl | rfl <;> rfl
theorem lays_wf {p : Int} {rows : List Row} (h0 : 0 < p) (h1 : p < 100) : ∀ (ls : List Lay) (i : Nat) (x : List Int) (ps : List Pr), (∀ l ∈ ls, BdL l) → (∀ k ∈ ps, Bd k.2 ∧ k.2.length ≤ 100) → (laysI p rows ls i x ps).2.length = ps.length + ls.length ∧ ∀ k ∈ (laysI p rows ls i x ps).2, Bd k.2 ∧ k.2.length ≤ 100
  | [], i, x, ps, hl, hp => ⟨rfl, hp⟩
  | l :: r, i, x, ps, hl, hp => by
    have h := lays_wf (rows := rows) h0 h1 r (i + 1) (layI l x (before rows i) p).1 (ps ++ [(layI l x (before rows i) p).2]) (fun l h => hl l (List.mem_cons_of_mem _ h)) (fun k hk => by
      rcases List.mem_append.mp hk with h | h
      · exact hp k h
      · rw [List.mem_singleton] at h; subst h; exact lay_pr h0 h1 (hl l (List.mem_cons_self ..)))
    refine ⟨?_, h.2⟩
    show (laysI p rows r (i + 1) _ _).2.length = _
    rw [h.1, List.length_append, List.length_cons]; simp; omega
theorem row_wf {n : NetM} (hw : WfN n) (rows : List Row) (l : Nat) : WfR n (rowI n rows l) := by
  have h := lays_wf (rows := rows) hw.p0 hw.p1 n.layers 0 (plusI (n.emb.getD l []) (scaledI rows.length n.shift n.p) n.p) [] hw.lay.2 (fun k h => (nomatch h))
  exact ⟨by have e := h.1; simp only [List.length_nil, Nat.zero_add] at e; exact e, h.2⟩
theorem rows_snoc {n : NetM} {ls : List Nat} {l : Nat} : rowsI n (ls ++ [l]) = rowsI n ls ++ [rowI n (rowsI n ls) l] := by
  unfold rowsI; rw [List.foldl_append]; rfl
theorem take_succ {α : Type} {xs : List α} {i : Nat} {x : α} (h : xs[i]? = some x) : xs.take (i + 1) = xs.take i ++ [x] := by
  rw [List.take_succ, h]; rfl
theorem rows_at {n : NetM} {ls : List Nat} {i l : Nat} (h : ls[i]? = some l) : rowsI n (ls.take (i + 1)) = rowsI n (ls.take i) ++ [rowI n (rowsI n (ls.take i)) l] := by
  rw [take_succ h, rows_snoc]
theorem rows_len {n : NetM} {ls : List Nat} : (rowsI n ls).length = ls.length := by
  have h : ∀ (m : Nat), m ≤ ls.length → (rowsI n (ls.take m)).length = m := fun m => by
    induction m with
    | zero => intro _; rfl
    | succ m ih =>
      intro hm
      have hl : m < ls.length := by omega
      rw [rows_at (List.getElem?_eq_getElem hl), List.length_append, ih (by omega)]; rfl
  have := h ls.length (Nat.le_refl _)
  rwa [List.take_length] at this
theorem rows_wf {n : NetM} (hw : WfN n) {ls : List Nat} : ∀ r ∈ rowsI n ls, WfR n r := by
  have h : ∀ (m : Nat), m ≤ ls.length → ∀ r ∈ rowsI n (ls.take m), WfR n r := fun m => by
    induction m with
    | zero => intro _ r hr; exact (nomatch hr)
    | succ m ih =>
      intro hm r hr
      have hl : m < ls.length := by omega
      rw [rows_at (List.getElem?_eq_getElem hl)] at hr
      rcases List.mem_append.mp hr with h | h
      · exact ih (by omega) r h
      · rw [List.mem_singleton] at h; subst h; exact row_wf hw _ _
  have := h ls.length (Nat.le_refl _)
  rwa [List.take_length] at this
def Wit (ns : List Int) : Prop := ns.length ≤ 100
def RowsD (d : D) (rows : List Row) : Prop := d = .lst (rows.map dRow) ∨ d = .tup (rows.map dRow)
theorem RowsD.sq {d : D} {rows : List Row} (h : RowsD d rows) : sqD d = some (rows.map dRow) := by rcases h with rfl | rfl <;> rfl
theorem cb_lenR {c : Ct} {A : AS} {Q : QE} {d : D} {rows : List Row} (h : RowsD d rows) (q : Q A (.val (.int rows.length))) : CbD c (rLenA c.K) [.val d] A Q := by
  rcases h with rfl | rfl
  · exact cb_lenL rfl (by rw [List.length_map]; exact q)
  · exact cb_lenT rfl (by rw [List.length_map]; exact q)
theorem drop_at {α : Type} {xs : List α} {i : Nat} {x : α} (h : xs[i]? = some x) : xs.drop i = x :: xs.drop (i + 1) := by
  have hi := (List.getElem?_eq_some_iff.mp h).1
  rw [List.drop_eq_getElem_cons hi]; congr 1; exact (List.getElem?_eq_some_iff.mp h).2
def PrimesL : List Int := [2, 3, 5, 7, 11, 13, 17, 19, 23, 29, 31, 37, 41, 43, 47, 53, 59, 61, 67, 71, 73, 79, 83, 89, 97]
def netF (n : NetM) (e : D) : List (Str × D) := [("prime", .int n.p), ("end", e), ("_embed", dM n.emb), ("_shift", dV n.shift), ("_layers", .tup (n.layers.map dLay)), ("_out", dM n.out)]
section
variable (C : Addr)
def C_vectors : Contract := fun ds O R _ => ∃ m, ds = [dM m] ∧ m.length ≤ 1000 ∧ R O (dM m)
def C_is_integer : Contract := fun ds O R _ => ∃ n : Int, ds = [.int n] ∧ R O (.bl true)
def C_is_from : Contract := fun ds O R _ => ∃ n a b : Int, ds = [.int n, .int a, .int b] ∧ a ≤ n ∧ n ≤ b ∧ R O (.bl true)
def C_Net___init__ : Contract := fun ds O R _ => ∃ (i : Nat) (n : NetM) (e : D), ds = [.ptr i, .int n.p, dM n.emb, dV n.shift, .tup (n.layers.map dLay), dM n.out, e] ∧ O[i]? = some (.ins C []) ∧ n.p ∈ PrimesL ∧ WfN n ∧ R (O.set i (.ins C (netF n e))) .non
def C_Net_letters : Contract := fun ds O R _ => ∃ n e, ds = [dNet C n e] ∧ n.emb.length ≤ 1000 ∧ R O (.int n.emb.length)
def C_Net_vector_of : Contract := fun ds O R _ => ∃ n e l m, ds = [dNet C n e, .int (l : Nat), .int (m : Nat)] ∧ WfN n ∧ l < n.emb.length ∧ R O (dV (plusI (n.emb.getD l []) (scaledI m n.shift n.p) n.p))
def C_Net_weights_of : Contract := fun ds O R _ => ∃ n e x, ds = [dNet C n e, dV x] ∧ WfN n ∧ R O (dV ((timesI n.out x n.p).map (· + 1)))
def C_Net_row : Contract := fun ds O R _ => ∃ n e d rows l, ds = [dNet C n e, d, .int (l : Nat)] ∧ RowsD d rows ∧ WfN n ∧ l < n.emb.length ∧ rows.length ≤ 500 ∧ (∀ r ∈ rows, WfR n r) ∧ R O (dRow (rowI n rows l))
def C_rows_of : Contract := fun ds O R _ => ∃ n e d ls, ds = [dNet C n e, d] ∧ Seq d (ls.map Int.ofNat) ∧ WfN n ∧ (∀ l ∈ ls, l < n.emb.length) ∧ ls.length ≤ 500 ∧ NoLstO O ∧ R O (.tup ((rowsI n ls).map dRow))
variable {C}
theorem len_vectors : ∀ ds O R X, C_vectors ds O R X → ds.length = 1 := fun _ _ _ _ h => by obtain ⟨_, rfl, _⟩ := h; rfl
theorem len_is_integer : ∀ ds O R X, C_is_integer ds O R X → ds.length = 1 := fun _ _ _ _ h => by obtain ⟨_, rfl, _⟩ := h; rfl
theorem len_is_from : ∀ ds O R X, C_is_from ds O R X → ds.length = 3 := fun _ _ _ _ h => by obtain ⟨_, _, _, rfl, _⟩ := h; rfl
theorem len_Net___init__ : ∀ ds O R X, C_Net___init__ C ds O R X → ds.length = 7 := fun _ _ _ _ h => by obtain ⟨_, _, _, rfl, _⟩ := h; rfl
theorem len_Net_letters : ∀ ds O R X, C_Net_letters C ds O R X → ds.length = 1 := fun _ _ _ _ h => by obtain ⟨_, _, rfl, _⟩ := h; rfl
theorem len_Net_vector_of : ∀ ds O R X, C_Net_vector_of C ds O R X → ds.length = 3 := fun _ _ _ _ h => by obtain ⟨_, _, _, _, rfl, _⟩ := h; rfl
theorem len_Net_weights_of : ∀ ds O R X, C_Net_weights_of C ds O R X → ds.length = 2 := fun _ _ _ _ h => by obtain ⟨_, _, _, rfl, _⟩ := h; rfl
theorem len_Net_row : ∀ ds O R X, C_Net_row C ds O R X → ds.length = 3 := fun _ _ _ _ h => by obtain ⟨_, _, _, _, _, rfl, _⟩ := h; rfl
theorem len_rows_of : ∀ ds O R X, C_rows_of C ds O R X → ds.length = 2 := fun _ _ _ _ h => by obtain ⟨_, _, _, _, rfl, _⟩ := h; rfl
end
/-! ### the law's own net -/
def dNetT (n : NetM) : D := .tup [.int n.p, dM n.emb, dV n.shift, .tup (n.layers.map dLay), dM n.out]
/-- all widths are w -/
def MW (w : Nat) (m : List (List Int)) : Prop := ∀ r ∈ m, r.length = w
structure LW5 (w : Nat) (l : Lay) : Prop where
  q : MW w l.q ∧ l.q.length = w
  k : MW w l.k ∧ l.k.length = w
  v : MW w l.v ∧ l.v.length = w
  f : MW w l.f ∧ l.f.length = w
  s : MW w l.s ∧ l.s.length = w
structure WidN (w : Nat) (n : NetM) : Prop where
  emb : MW w n.emb
  shift : n.shift.length = w
  lay : ∀ l ∈ n.layers, LW5 w l
  out : MW w n.out
def C__law_vector : Contract := fun ds O R _ => ∃ (ns : List Int) (a w : Nat) (p : Int), ds = [.lst (ns.map .int), .int (a : Nat), .int (w : Nat), .int p] ∧ 0 < ns.length ∧ ns.length ≤ 1000 ∧ a ≤ 100000 ∧ w ≤ 10 ∧ 0 < p ∧ p < 100 ∧ AllN ns ∧ ∀ v : List Int, v.length = w → Bd v → R O (dV v)
def C__law_net : Contract := fun ds O R _ => ∃ (ns : List Int) (l w m : Nat) (p : Int), ds = [.lst (ns.map .int), .int (l : Nat), .int (w : Nat), .int (m : Nat), .int p] ∧ 0 < ns.length ∧ ns.length ≤ 1000 ∧ AllN ns ∧ 0 < l ∧ l ≤ 13 ∧ 0 < w ∧ w ≤ 4 ∧ m ≤ 4 ∧ 0 < p ∧ p < 100 ∧ ∀ n : NetM, n.p = p → WfN n → WidN w n → n.emb.length = l → n.out.length = l → R O (dNetT n)
def C__law_dot : Contract := fun ds O R _ => ∃ d e a b p, ds = [d, e, .int p] ∧ Seq d a ∧ Seq e b ∧ Bd a ∧ a.length ≤ 100 ∧ a.length ≤ b.length ∧ 0 < p ∧ R O (.int (dotI a b p))
def C__law_times : Contract := fun ds O R _ => ∃ m d v p, ds = [dM m, d, .int p] ∧ Seq d v ∧ BdM m ∧ MW v.length m ∧ 0 < p ∧ R O (.lst ((timesI m v p).map .int))
def C__law_row : Contract := fun ds O R _ => ∃ n w rows l, ds = [dNetT n, .lst (rows.map dRow), .int (l : Nat)] ∧ WfN n ∧ WidN w n ∧ l < n.emb.length ∧ rows.length ≤ 500 ∧ (∀ r ∈ rows, WfR n r ∧ ∀ k ∈ r.pairs, Bd k.1 ∧ k.1.length = w ∧ k.2.length = w) ∧ R O (dRow (rowI n rows l))
def C__law_rows : Contract := fun ds O R _ => ∃ n w ls d, ds = [dNetT n, d] ∧ Seq d (ls.map Int.ofNat) ∧ WfN n ∧ WidN w n ∧ (∀ l ∈ ls, l < n.emb.length) ∧ ls.length ≤ 500 ∧ NoLstO O ∧ R O (.lst ((rowsI n ls).map dRow))
theorem len__law_vector : ∀ ds O R X, C__law_vector ds O R X → ds.length = 4 := fun _ _ _ _ h => by obtain ⟨_, _, _, _, rfl, _⟩ := h; rfl
theorem len__law_net : ∀ ds O R X, C__law_net ds O R X → ds.length = 5 := fun _ _ _ _ h => by obtain ⟨_, _, _, _, _, rfl, _⟩ := h; rfl
theorem len__law_dot : ∀ ds O R X, C__law_dot ds O R X → ds.length = 3 := fun _ _ _ _ h => by obtain ⟨_, _, _, _, _, rfl, _⟩ := h; rfl
theorem len__law_times : ∀ ds O R X, C__law_times ds O R X → ds.length = 3 := fun _ _ _ _ h => by obtain ⟨_, _, _, _, rfl, _⟩ := h; rfl
theorem len__law_row : ∀ ds O R X, C__law_row ds O R X → ds.length = 3 := fun _ _ _ _ h => by obtain ⟨_, _, _, _, rfl, _⟩ := h; rfl
theorem len__law_rows : ∀ ds O R X, C__law_rows ds O R X → ds.length = 2 := fun _ _ _ _ h => by obtain ⟨_, _, _, _, rfl, _⟩ := h; rfl
/-! ### the same sums, told by places -/
theorem plusG {a b : List Int} {n p : Int} (h : a.length = b.length) : ((List.range a.length).map fun k => (a.getD k 0 + n * b.getD k 0) % p) = plusI a (scaledI n b p) p := by
  apply List.ext_getElem
  · unfold plusI scaledI; simp [List.length_zip]; omega
  · intro i h1 h2
    have hi : i < a.length := by simpa using h1
    simp only [plusI, scaledI, List.getElem_map, List.getElem_range, List.getElem_zip]
    rw [getD_lt hi, getD_lt (by omega)]
    simp [Int.add_emod]
theorem plusM {a b : List Int} {p : Int} (h : a.length = b.length) : ((List.range a.length).map fun k => (a.getD k 0 + b.getD k 0) % p) = plusI a b p := by
  apply List.ext_getElem
  · unfold plusI; simp [List.length_zip]; omega
  · intro i h1 h2
    have hi : i < a.length := by simpa using h1
    simp only [plusI, List.getElem_map, List.getElem_range, List.getElem_zip]
    rw [getD_lt hi, getD_lt (by omega)]
theorem dot_mod {p : Int} : ∀ (a b : List Int), dotI a (b.map (· % p)) p = dotI a b p
  | [], _ => by simp [dotI]
  | _ :: _, [] => by simp [dotI]
  | x :: a, y :: b => by
    have h := dot_mod (p := p) a b
    simp only [dotI, List.map_cons, List.zip_cons_cons, List.sum_cons] at h ⊢
    rw [Int.add_emod, h, Int.add_emod (x * y)]
    congr 2
    rw [Int.mul_emod, Int.emod_emod, ← Int.mul_emod]
theorem times_sq {m : List (List Int)} {v : List Int} {p : Int} : timesI m (v.map fun y => y * y) p = timesI m (squaresI v p) p := by
  unfold timesI
  apply List.map_congr_left
  intro r _
  rw [← dot_mod r (v.map fun y => y * y)]
  simp [squaresI, List.map_map, Function.comp_def]
theorem rangeG {a b : List Int} {n p : Int} {w : Nat} (h : a.length = b.length) (hl : a.length = w) : ((List.range w).map fun k => D.int ((a.getD k 0 + n * b.getD k 0) % p)) = (plusI a (scaledI n b p) p).map D.int := by
  rw [← plusG h, List.map_map, hl]; rfl
theorem rangeM {a b : List Int} {p : Int} {w : Nat} (h : a.length = b.length) (hl : a.length = w) : ((List.range w).map fun k => D.int ((a.getD k 0 + b.getD k 0) % p)) = (plusI a b p).map D.int := by
  rw [← plusM h, List.map_map, hl]; rfl
theorem intsD_range (n : Nat) : intsD 0 n = (List.range n).map fun k => D.int (0 + (k : Nat)) := rfl
theorem plusI_len2 {a b : List Int} {p : Int} (h : a.length = b.length) : (plusI a b p).length = a.length := by unfold plusI; rw [List.length_map, List.length_zip]; omega
theorem z0 (k : Nat) : (0 + (k : Int)).toNat = k := by omega
theorem lays_wid {p : Int} {rows : List Row} {w : Nat} (h0 : 0 < p) (h1 : p < 100) : ∀ (ls : List Lay) (i : Nat) (x : List Int) (ps : List Pr), (∀ l ∈ ls, LW5 w l) → (∀ k ∈ ps, Bd k.1 ∧ k.1.length = w ∧ k.2.length = w) → ∀ k ∈ (laysI p rows ls i x ps).2, Bd k.1 ∧ k.1.length = w ∧ k.2.length = w
  | [], i, x, ps, hl, hp => hp
  | l :: r, i, x, ps, hl, hp => lays_wid h0 h1 r (i + 1) (layI l x (before rows i) p).1 (ps ++ [(layI l x (before rows i) p).2]) (fun l h => hl l (List.mem_cons_of_mem _ h)) (fun k hk => by
      rcases List.mem_append.mp hk with h | h
      · exact hp k h
      · rw [List.mem_singleton] at h; subst h
        have hw := hl l (List.mem_cons_self ..)
        exact ⟨bd_times h0 h1, by show (timesI _ _ _).length = _; unfold timesI; rw [List.length_map]; exact hw.k.2, by show (timesI _ _ _).length = _; unfold timesI; rw [List.length_map]; exact hw.v.2⟩)
theorem rows_wid {n : NetM} {w : Nat} (hw : WfN n) (hd : WidN w n) {ls : List Nat} : ∀ r ∈ rowsI n ls, ∀ k ∈ r.pairs, Bd k.1 ∧ k.1.length = w ∧ k.2.length = w := by
  have h : ∀ (m : Nat), m ≤ ls.length → ∀ r ∈ rowsI n (ls.take m), ∀ k ∈ r.pairs, Bd k.1 ∧ k.1.length = w ∧ k.2.length = w := fun m => by
    induction m with
    | zero => intro _ r hr; exact (nomatch hr)
    | succ m ih =>
      intro hm r hr
      have hl : m < ls.length := by omega
      rw [rows_at (List.getElem?_eq_getElem hl)] at hr
      rcases List.mem_append.mp hr with h | h
      · exact ih (by omega) r h
      · rw [List.mem_singleton] at h; subst h
        exact lays_wid hw.p0 hw.p1 n.layers 0 _ [] hd.lay (fun k h => (nomatch h))
  have := h ls.length (Nat.le_refl _)
  rwa [List.take_length] at this
theorem cutD_mid {α : Type} {f : α → D} {xs : List α} {a b : Nat} (h : a ≤ b) (hb : b ≤ xs.length) : cutD (xs.map f) (some (a : Int)) (some (b : Int)) = ((xs.drop a).take (b - a)).map f := by
  unfold cutD
  rw [HT.sIx_nat, HT.sIx_nat, List.length_map, Nat.min_eq_left hb, Nat.min_eq_left (by omega), ← List.map_drop, ← List.map_take]
theorem cutD_tn {α : Type} {f : α → D} {xs : List α} {a : Nat} : cutD (xs.map f) none (some (a : Int)) = (xs.take a).map f := by
  rw [cutD_to (by omega), List.map_take]; congr 1
def MM (w : Nat) (m : List (List Int)) : Prop := ∀ r ∈ m, Bd r ∧ r.length = w
theorem MM.bd {w : Nat} {m : List (List Int)} (h : MM w m) (hw : w ≤ 100) (hl : m.length ≤ 100) : BdM m := ⟨hl, fun r hr => ⟨(h r hr).1, by rw [(h r hr).2]; exact hw⟩⟩
theorem MM.mw {w : Nat} {m : List (List Int)} (h : MM w m) : MW w m := fun r hr => (h r hr).2
theorem MM.sub {w : Nat} {m m' : List (List Int)} (h : MM w m) (hs : ∀ r ∈ m', r ∈ m) : MM w m' := fun r hr => h r (hs r hr)
theorem sub_cut {α : Type} {xs : List α} {a b : Nat} : ∀ r ∈ (xs.drop a).take b, r ∈ xs := fun r hr => List.mem_of_mem_drop (List.mem_of_mem_take hr)
section
variable {c : Ct} {A : AS} {te : TE} {Q : QE}
theorem wi_zipS {a b : List Int} {d : D} {ta : TA} {Q : AS → List D → Prop} (hd : Seq d b) (h : WA c ta A fun A1 xs => xs = [dV a, d] ∧ Q A1 ((a.zip b).map fun p => .sct [.int p.1, .int p.2])) : WI c (iZipAA c.K ta) A Q := by
  rcases hd with rfl | rfl
  · exact wi_zipM fun F G m σ H S E Qc k => h F G m σ H S E Qc fun F' m' A' vs H' ds e p S' R ⟨h1, h2⟩ => k F' m' A' vs H' ds e p S' R ⟨_, _, h1, by rw [zipD_ints]; exact h2⟩
  · exact wi_zipT fun F G m σ H S E Qc k => h F G m σ H S E Qc fun F' m' A' vs H' ds e p S' R ⟨h1, h2⟩ => k F' m' A' vs H' ds e p S' R ⟨_, _, h1, by rw [zipD_ints]; exact h2⟩
end
end AL

namespace AL
open PySem L2
/-! ### rows compared, cut and told again -/
theorem layAll {ps : List PyData} (h : ∀ p ∈ ps, p.canLay0 = true) : PyData.canLayAll0 ps = true := by
  induction ps with
  | nil => rfl
  | cons p ps ih =>
    show (p.canLay0 && PyData.canLayAll0 ps) = true
    rw [h p (by simp), ih (fun q hq => h q (by simp [hq]))]; rfl
theorem depAll {ps : List PyData} {n : Nat} (h : ∀ p ∈ ps, p.depth ≤ n) : PyData.depthAll ps ≤ n := by
  induction ps with
  | nil => exact Nat.zero_le _
  | cons p ps ih =>
    show max _ _ ≤ n
    exact Nat.max_le.mpr ⟨h p (by simp), ih (fun q hq => h q (by simp [hq]))⟩
theorem layTup {α : Type} {f : α → PyData} {xs : List α} (h : ∀ x, (f x).canLay0 = true) : (PyData.tuple (xs.map f)).canLay0 = true := layAll (ps := xs.map f) fun p hp => by obtain ⟨x, _, rfl⟩ := List.mem_map.mp hp; exact h x
theorem depTup {α : Type} {f : α → PyData} {xs : List α} {n : Nat} (h : ∀ x, (f x).depth ≤ n) : (PyData.tuple (xs.map f)).depth ≤ n + 1 := Nat.succ_le_succ (depAll (ps := xs.map f) fun p hp => by obtain ⟨x, _, rfl⟩ := List.mem_map.mp hp; exact h x)
def pV (v : List Int) : PyData := .tuple (v.map .int)
def pPr (k : Pr) : PyData := .tuple ([k.1, k.2].map pV)
def pRow (r : Row) : PyData := .tuple ([.tuple (r.pairs.map pPr), pV r.weights])
def pRows (rs : List Row) : PyData := .tuple (rs.map pRow)
theorem pysMap {α : Type} {f : α → D} {g : α → PyData} (h : ∀ x, Py (f x) (g x)) : ∀ xs : List α, Pys (xs.map f) (xs.map g)
  | [] => .nil
  | x :: xs => .cons (h x) (pysMap h xs)
theorem py_V (v : List Int) : Py (dV v) (pV v) := .tup (pysMap (fun i => .int i) v)
theorem py_Pr (k : Pr) : Py (dPr k) (pPr k) := .tup (.cons (py_V _) (.cons (py_V _) .nil))
theorem py_Row (r : Row) : Py (dRow r) (pRow r) := .tup (.cons (.tup (pysMap py_Pr _)) (.cons (py_V _) .nil))
theorem py_Rows (rs : List Row) : Py (.tup (rs.map dRow)) (pRows rs) := .tup (pysMap py_Row _)
theorem can_V (v : List Int) : (pV v).canLay0 = true := layTup fun _ => rfl
theorem can_Pr (k : Pr) : (pPr k).canLay0 = true := layTup can_V
theorem can_Row (r : Row) : (pRow r).canLay0 = true := layAll (ps := [.tuple (r.pairs.map pPr), pV r.weights]) fun p hp => by
  simp only [List.mem_cons, List.not_mem_nil, or_false] at hp
  rcases hp with rfl | rfl
  · exact layTup can_Pr
  · exact can_V _
theorem can_Rows (rs : List Row) : (pRows rs).canLay0 = true := layTup can_Row
theorem dep_V (v : List Int) : (pV v).depth ≤ 1 := depTup (n := 0) fun _ => Nat.le_refl _
theorem dep_Pr (k : Pr) : (pPr k).depth ≤ 2 := depTup dep_V
theorem dep_Row (r : Row) : (pRow r).depth ≤ 4 := Nat.succ_le_succ (depAll (ps := [.tuple (r.pairs.map pPr), pV r.weights]) fun p hp => by
  simp only [List.mem_cons, List.not_mem_nil, or_false] at hp
  rcases hp with rfl | rfl
  · exact depTup dep_Pr
  · exact Nat.le_trans (dep_V _) (by decide))
theorem dep_Rows (rs : List Row) : (pRows rs).depth ≤ 5 := depTup dep_Row
theorem shaped_Rows (rs : List Row) : SeqAt.shaped (pRows rs) = true := by
  unfold SeqAt.shaped
  rw [Bool.and_eq_true]
  exact ⟨can_Rows rs, decide_eq_true (Nat.le_trans (dep_Rows rs) (by decide))⟩
theorem eqv_Rows (rs : List Row) : PyData.eqv (pRows rs) (pRows rs) = true := SeqAt.eqv_refl _ (can_Rows rs)
/-! sameness of rows -/
theorem same_refl : ∀ (k : Nat) (d : D), okE k d → sameK k d d = true
  | 0, d, h => by cases d <;> exact h.elim
  | k + 1, d, h => by
    cases d <;> first
      | exact (h : False).elim
      | rfl
      | (simp only [sameK, decide_true]; done)
      | skip
    rename_i ds
    have h : ds.length < 1000 ∧ ∀ d ∈ ds, okE k d := h
    simp only [sameK, decide_true, Bool.true_and]
    refine List.all_eq_true.mpr fun i hi => ?_
    have hi := List.mem_range.mp hi
    rw [getD_lt hi]
    exact same_refl k _ (h.2 _ (List.getElem_mem hi))
theorem okD_of : ∀ (k : Nat) (d : D), okE k d → okD k d
  | 0, d, h => by cases d <;> exact h.elim
  | k + 1, d, h => by
    cases d <;> first
      | exact (h : False).elim
      | exact trivial
      | skip
    rename_i ds
    have h : ds.length < 1000 ∧ ∀ d ∈ ds, okE k d := h
    exact ⟨h.1, fun d hd => okD_of k d (h.2 d hd)⟩
theorem okE_V {k : Nat} {v : List Int} (h : v.length < 1000) : okE (k + 2) (dV v) := ⟨by rw [List.length_map]; exact h, fun d hd => by obtain ⟨i, _, rfl⟩ := List.mem_map.mp hd; exact trivial⟩
theorem okE_Row {k : Nat} {r : Row} (hp : r.pairs.length < 1000) (hv : ∀ q ∈ r.pairs, q.1.length < 1000 ∧ q.2.length < 1000) (hw : r.weights.length < 1000) : okE (k + 5) (dRow r) := by
  refine ⟨by show 2 < 1000; decide, fun d hd => ?_⟩
  simp only [List.mem_cons, List.not_mem_nil, or_false] at hd
  rcases hd with rfl | rfl
  · refine ⟨by rw [List.length_map]; exact hp, fun d hd => ?_⟩
    obtain ⟨q, hq, rfl⟩ := List.mem_map.mp hd
    refine ⟨by show 2 < 1000; decide, fun d hd => ?_⟩
    simp only [List.mem_cons, List.not_mem_nil, or_false] at hd
    rcases hd with rfl | rfl
    · exact okE_V (hv q hq).1
    · exact okE_V (hv q hq).2
  · exact okE_V (k := k + 2) hw
theorem wts_len {n : NetM} (rows : List Row) (l : Nat) : (rowI n rows l).weights.length = n.out.length := by
  show (List.map _ (timesI _ _ _)).length = _
  unfold timesI; rw [List.length_map, List.length_map]
theorem rows_wts {n : NetM} {ls : List Nat} : ∀ r ∈ rowsI n ls, r.weights.length = n.out.length := by
  have h : ∀ (m : Nat), m ≤ ls.length → ∀ r ∈ rowsI n (ls.take m), r.weights.length = n.out.length := fun m => by
    induction m with
    | zero => intro _ r hr; exact (nomatch hr)
    | succ m ih =>
      intro hm r hr
      have hl : m < ls.length := by omega
      rw [rows_at (List.getElem?_eq_getElem hl)] at hr
      rcases List.mem_append.mp hr with h | h
      · exact ih (by omega) r h
      · rw [List.mem_singleton] at h; subst h; exact wts_len _ _
  have := h ls.length (Nat.le_refl _)
  rwa [List.take_length] at this
theorem okE_row {n : NetM} {w : Nat} (hw : WfN n) (hd : WidN w n) (hw1 : w < 1000) {ls : List Nat} {k : Nat} : ∀ r ∈ rowsI n ls, okE (k + 5) (dRow r) := fun r hr =>
  okE_Row (by rw [(rows_wf hw r hr).1]; have := hw.lay.1; omega) (fun q hq => by have := rows_wid hw hd r hr q hq; omega) (by rw [rows_wts r hr]; have := hw.out.1; omega)
theorem okE_rows {n : NetM} {w : Nat} (hw : WfN n) (hd : WidN w n) (hw1 : w < 1000) {ls : List Nat} (hl : ls.length < 1000) {k : Nat} : okE (k + 6) (.tup ((rowsI n ls).map dRow)) := ⟨by rw [List.length_map, rows_len]; exact hl, fun d hd' => by
  obtain ⟨r, hr, rfl⟩ := List.mem_map.mp hd'
  exact okE_row hw hd hw1 r hr⟩
/-! beginnings -/
theorem rows_take {n : NetM} : ∀ (ls : List Nat) (k : Nat), k ≤ ls.length → (rowsI n ls).take k = rowsI n (ls.take k) := by
  intro ls k hk
  have h : ∀ m, k + m ≤ ls.length → (rowsI n (ls.take (k + m))).take k = rowsI n (ls.take k) := fun m => by
    induction m with
    | zero => intro _; exact List.take_of_length_le (by rw [rows_len, List.length_take]; omega)
    | succ m ih =>
      intro hm
      have hl : k + m < ls.length := by omega
      rw [show k + (m + 1) = k + m + 1 by omega, rows_at (List.getElem?_eq_getElem hl), List.take_append_of_le_length (by rw [rows_len, List.length_take]; omega)]
      exact ih (by omega)
  have := h (ls.length - k) (by omega)
  rwa [show k + (ls.length - k) = ls.length by omega, List.take_length] at this
theorem rows_get {n : NetM} {ls : List Nat} {k l : Nat} (h : ls[k]? = some l) : (rowsI n ls)[k]? = some (rowI n (rowsI n (ls.take k)) l) := by
  have hk := (List.getElem?_eq_some_iff.mp h).1
  have e := rows_take (n := n) ls (k + 1) (by omega)
  rw [rows_at h] at e
  have e2 : ((rowsI n ls).take (k + 1))[k]? = (rowsI n ls)[k]? := List.getElem?_take_of_lt (by omega)
  rw [← e2, e, List.getElem?_append_right (by rw [rows_len, List.length_take]; omega), rows_len, List.length_take, show k - min k ls.length = 0 by omega]; rfl
/-! cuts -/
theorem cutD_from {α : Type} {f : α → D} {xs : List α} {a : Nat} (h : a ≤ xs.length) : cutD (xs.map f) (some (a : Int)) none = (xs.drop a).map f := by
  unfold cutD
  rw [HT.sIx_nat, HT.sIx_none, List.length_map, Nat.min_eq_left h, ← List.map_drop, List.take_of_length_le (by rw [List.length_map, List.length_drop]; omega)]
theorem sIx_m1 (n d : Nat) : HT.sIx n d (some (-1)) = n - 1 := by
  show (if (-1 : Int) < 0 then ((-1 : Int) + (n : Int)).toNat else min (-1 : Int).toNat n) = _
  rw [if_pos (by decide)]; omega
theorem cutD_but {α : Type} {f : α → D} {xs : List α} : cutD (xs.map f) none (some (-1)) = (xs.take (xs.length - 1)).map f := by
  unfold cutD
  rw [HT.sIx_none, sIx_m1, List.drop_zero, List.length_map, Nat.sub_zero, List.map_take]
theorem cutD_last {α : Type} {f : α → D} {xs : List α} : cutD (xs.map f) (some (-1)) none = (xs.drop (xs.length - 1)).map f := by
  unfold cutD
  rw [HT.sIx_none, sIx_m1, List.length_map, ← List.map_drop, List.take_of_length_le (by rw [List.length_map, List.length_drop]; omega)]
/-! letters -/
def dL (ls : List Nat) : List D := (ls.map Int.ofNat).map D.int
theorem dL_app {a b : List Nat} : dL (a ++ b) = dL a ++ dL b := by unfold dL; rw [List.map_append, List.map_append]
theorem dL_eq {ls : List Nat} : dL ls = ls.map fun l => D.int (l : Nat) := by unfold dL; rw [List.map_map]; rfl
theorem pick (ms : List Int) (l b c : Nat) (hl : 0 < l) {K : Nat} (hc : c ≤ K) : ∃ bs : List Nat, ((List.range c).map fun k => D.int (((ms.getD (b + k) 0 % (l : Int)).toNat : Nat))) = dL bs ∧ (∀ x ∈ bs, x < l) ∧ bs.length ≤ K ∧ bs.length = c := by
  refine ⟨(List.range c).map fun k => (ms.getD (b + k) 0 % (l : Int)).toNat, by rw [dL_eq, List.map_map]; rfl, fun x hx => ?_, by rw [List.length_map, List.length_range]; exact hc, by rw [List.length_map, List.length_range]⟩
  obtain ⟨k, _, rfl⟩ := List.mem_map.mp hx
  have h1 := Int.emod_nonneg (ms.getD (b + k) 0) (show (l : Int) ≠ 0 by omega)
  have h2 := Int.emod_lt_of_pos (ms.getD (b + k) 0) (show 0 < (l : Int) by omega)
  omega
theorem pickE {x : Int} {l : Nat} (hl : 0 < l) : (((x % (l : Int)).toNat : Nat) : Int) = x % (l : Int) := by
  have h1 := Int.emod_nonneg x (show (l : Int) ≠ 0 by omega)
  omega
theorem dL_len {ls : List Nat} : (dL ls).length = ls.length := by unfold dL; rw [List.length_map, List.length_map]
theorem dL_but {ls : List Nat} : cutD (dL ls) none (some (-1)) = dL (ls.take (ls.length - 1)) := by
  unfold dL; rw [cutD_but, List.length_map, ← List.map_take]
theorem dL_last {ls : List Nat} : cutD (dL ls) (some (-1)) none = dL (ls.drop (ls.length - 1)) := by
  unfold dL; rw [cutD_last, List.length_map, ← List.map_drop]
def C_weights_behind (C : Addr) : Contract := fun ds O R _ => ∃ n e d ls, ds = [dNet C n e, d] ∧ Seq d (ls.map Int.ofNat) ∧ WfN n ∧ (∀ l ∈ ls, l < n.emb.length) ∧ 0 < ls.length ∧ ls.length ≤ 500 ∧ NoLstO O ∧ ∀ r, (rowsI n ls)[ls.length - 1]? = some r → R O (dV r.weights)
theorem len_weights_behind {C : Addr} : ∀ ds O R X, C_weights_behind C ds O R X → ds.length = 2 := fun _ _ _ _ h => by obtain ⟨_, _, _, _, rfl, _⟩ := h; rfl
theorem atI_lastM {α : Type} {f : α → D} {xs : List α} {x : α} (h : xs[xs.length - 1]? = some x) : atI (xs.map f) (-1) = some (f x) := by
  have hl := (List.getElem?_eq_some_iff.mp h).1
  unfold atI ixN
  rw [List.length_map, if_neg (by omega), if_pos (by omega)]
  show (xs.map f)[(-1 + (xs.length : Int)).toNat]? = _
  rw [show (-1 + (xs.length : Int)).toNat = xs.length - 1 by omega, List.getElem?_map, h]; rfl
theorem py_L (ls : List Nat) : Py (.lst (dL ls)) (.list ((ls.map Int.ofNat).map .int)) := .lst (pys_ints _)
theorem wts_bd {n : NetM} (hw : WfN n) (rows : List Row) (l : Nat) : ∀ x ∈ (rowI n rows l).weights, 1 ≤ x ∧ x ≤ n.p := fun x hx => by
  obtain ⟨y, hy, rfl⟩ := List.mem_map.mp (show x ∈ List.map (· + 1) (timesI n.out _ n.p) from hx)
  obtain ⟨r, _, rfl⟩ := List.mem_map.mp hy
  have h0 := hw.p0
  have := Int.emod_nonneg ((r.zip (laysI n.p rows n.layers 0 (plusI (n.emb.getD l []) (scaledI rows.length n.shift n.p) n.p) []).1).map fun q => q.1 * q.2).sum (show n.p ≠ 0 by omega)
  have := Int.emod_lt_of_pos ((r.zip (laysI n.p rows n.layers 0 (plusI (n.emb.getD l []) (scaledI rows.length n.shift n.p) n.p) []).1).map fun q => q.1 * q.2).sum h0
  show 1 ≤ dotI _ _ _ + 1 ∧ dotI _ _ _ + 1 ≤ n.p
  unfold dotI
  omega
theorem we_slS {c : Ct} {A : AS} {Q : QE} {ls : List Nat} {d : D} {i : Nat} {te : TE} (hi : A.s[i]? = some (some (.val d))) (hd : Seq d (ls.map Int.ofNat)) (h : WE c te A fun A1 r => ∃ m : Nat, r = .val (.int (m : Nat)) ∧ ∀ d', Seq d' ((ls.take m).map Int.ofNat) → Q A1 (.val d')) : WE c (tSl (rSlAA c.K) (tVar i) tNoPart (tPart te)) A Q := by
  have e : ∀ m : Nat, cutD ((ls.map Int.ofNat).map D.int) none (some (m : Int)) = ((ls.take m).map Int.ofNat).map D.int := fun m => by rw [cutD_tn, ← List.map_take]
  rcases hd with rfl | rfl
  · refine we_slL (we_var hi (wo_none (wo_some (h.imp fun A1 r z => ?_))))
    obtain ⟨m, rfl, q⟩ := z
    exact ⟨m, rfl, _, rfl, rfl, trivial, by rw [e]; exact q _ (.inl rfl)⟩
  · refine we_slT (we_var hi (wo_none (wo_some (h.imp fun A1 r z => ?_))))
    obtain ⟨m, rfl, q⟩ := z
    exact ⟨m, rfl, _, rfl, by rw [e]; exact q _ (.inr rfl)⟩
end AL

namespace AL
open PySem L2
section
variable {c : Ct} {A : AS} {te ta tb : TE} {t u tt : TT}
/-- behind an element: the slots are as they were, the cells may have grown -/
theorem Sim.unwipeO {K : PySem.W.Frag} {F F3 G G0 : Hp} {m m3 : List Addr} {A A3 : AS} {σ σ3 : St} {H H3 : Hp} {vs : List Nat} (S : Sim K F G0 m A σ H) (S3 : Sim K F3 G m3 A3 σ3 H3) (e : Ex F F3) (p : Pre m m3) (es : ∀ j, j ∉ vs → A3.s[j]? = A.s[j]?)
    (ew : wipe σ3 vs = wipe σ vs) (no : NoOwn A.s vs) : Sim K F3 G m3 ⟨A.s, A3.o⟩ σ H3 := by
  refine ⟨S3.h, S.s.len, fun i x y e1 e2 => ?_, S.s.own⟩
  by_cases hi : i ∈ vs
  · have q := S.s.at_ i x y e1 e2
    match x, y, q, e2 with
    | _, none, _, _ => cases x <;> trivial
    | some v, some (.val d), q, _ => exact Rep.mono e p q
    | some v, some (.own c), _, e2 => exact absurd e2 (no i hi c)
  · have z1 : σ3[i]? = some x := by rw [← wipe_not hi, ew, wipe_not hi]; exact e1
    have z2 : A3.s[i]? = some y := by rw [es i hi]; exact e2
    exact S3.s.at_ i x y z1 z2
theorem wn_lcO {wi : TI} {g : TG} {vs : List Nat} {Q : AS → List D → Prop} (hg : GOk g vs)
    (h : WI c wi A fun A1 ds => NoOwn A1.s vs ∧ ds.length < 100000 ∧ ∃ oI : Nat → List Cell, oI 0 = A1.o ∧ ∃ es : List (Option D), es.length = ds.length ∧
      (∀ (i : Nat) d, ds[i]? = some d → WG c g d ⟨wipeA A1.s vs, oI i⟩ fun A2 => WT c tt A2 fun A3 b => (b = true → WE c te A3 fun A4 r => Frz A4 r fun A5 e => es[i]? = some (some e) ∧ A5.o = oI (i + 1) ∧ ∀ j, j ∉ vs → A5.s[j]? = A1.s[j]?) ∧
        (b = false → es[i]? = some none ∧ A3.o = oI (i + 1) ∧ ∀ j, j ∉ vs → A3.s[j]? = A1.s[j]?)) ∧ Q ⟨A1.s, oI ds.length⟩ (es.filterMap id)) :
    WN c (tLc wi g tt te vs) A Q := fun F G m σ H S E Qc k => h F G m σ H S E _ fun F1 m1 A1 J H1 ds e1 p1 S1 RJ ⟨no, hlen, oI, hoI, es, hes, hs, q⟩ => by
  intro Dl hD
  have gD : G Dl = none := (S1.h.fresh hD).2.1
  have sub : ∀ (o : HO) a u, G a = some u → upd G Dl o a = some u := fun o a u e => by rw [upd_ne (ne_of_none e gD)]; exact e
  have nD := S1.notOwn hD
  refine ⟨fun i n H2 => n = ds.length - i ∧ i ≤ ds.length ∧ ∃ F2 m2 acc, Ex F1 F2 ∧ Pre m1 m2 ∧ Sim c.K F2 (upd G Dl (.lst acc)) m2 ⟨A1.s, oI i⟩ σ H2 ∧ Reps c.K F2 m2 acc ((es.take i).filterMap id),
    ⟨_, rfl, Nat.zero_le _, F1, m1, [], Evl.Ex.refl _, Pre.refl _, (by rw [hoI]; exact S1.addG hD), .nil⟩, fun i n H2 hw => ?_⟩
  obtain ⟨rfl, hi, F2, m2, acc, e2, p2, S2, R2⟩ := hw
  obtain ⟨r1, r2⟩ := RJ F2 _ m2 ⟨A1.s, oI i⟩ σ H2 e2 p2 S2 i
  have hacc : acc.length ≤ i := by
    rw [R2.len]
    refine Nat.le_trans (List.length_filterMap_le _ _) ?_
    rw [List.length_take]; exact Nat.min_le_left _ _
  by_cases hl : i < ds.length
  · obtain ⟨g1, g2⟩ := r1 _ (List.getElem?_eq_getElem hl)
    refine .inr ⟨g1, fun H3 => i + 1 ≤ ds.length ∧ ∃ F2 m2 acc, Ex F1 F2 ∧ Pre m1 m2 ∧ Sim c.K F2 (upd G Dl (.lst acc)) m2 ⟨A1.s, oI (i + 1)⟩ σ H3 ∧ Reps c.K F2 m2 acc ((es.take (i + 1)).filterMap id), fun H3 hN => ⟨_, by omega, rfl, hN⟩, fun x H3 hy => ?_⟩
    obtain ⟨F3, e3, S3, R3⟩ := g2 x H3 hy
    have E3 : EOk c F3 (upd G Dl (.lst acc)) m2 := (E.weakG (sub _)).mono ((e1.trans e2).trans e3) (p1.trans p2)
    have S3w : Sim c.K F3 (upd G Dl (.lst acc)) m2 ⟨wipeA A1.s vs, oI i⟩ (wipe σ vs) H3 := ⟨S3.h, S3.s.wipe vs⟩
    have ww : wipe (wipe σ vs) vs = wipe σ vs := by
      apply List.ext_getElem?
      intro j
      by_cases hj : j ∈ vs
      · have z : ∀ (us : List Nat) (τ : St), j ∈ us → (wipe τ us)[j]? = if j < τ.length then some none else none := fun us => by
          induction us with
          | nil => intro τ h; cases h
          | cons u us ih =>
            intro τ h
            unfold wipe
            by_cases y : u = j
            · subst y
              by_cases hl : u < τ.length
              · rw [List.getElem?_set_self (by rw [wipe_length]; exact hl), if_pos hl]
              · rw [if_neg hl, List.getElem?_eq_none (by rw [List.length_set, wipe_length]; omega)]
            · rw [List.getElem?_set_ne y]
              exact ih τ (by simpa [show ¬ j = u from fun z => y z.symm] using h)
        rw [z vs _ hj, z vs _ hj, wipe_length]
      · rw [wipe_not hj]
    have hgx := hg x (wipe σ vs) H3 (fun σ2 H4 => tt σ2 H4 fun b H5 => if b = true then te σ2 H5 fun y H6 => ∃ acc', H6 Dl = some (.lst acc') ∧ acc'.length < sizeLine ∧ (i + 1 ≤ ds.length ∧ ∃ F2 m2 acc, Ex F1 F2 ∧ Pre m1 m2 ∧ Sim c.K F2 (upd G Dl (.lst acc)) m2 ⟨A1.s, oI (i + 1)⟩ σ (upd H6 Dl (.lst (acc' ++ [y]))) ∧ Reps c.K F2 m2 acc ((es.take (i + 1)).filterMap id)) else
      (i + 1 ≤ ds.length ∧ ∃ F2 m2 acc, Ex F1 F2 ∧ Pre m1 m2 ∧ Sim c.K F2 (upd G Dl (.lst acc)) m2 ⟨A1.s, oI (i + 1)⟩ σ H5 ∧ Reps c.K F2 m2 acc ((es.take (i + 1)).filterMap id)))
    rw [ww] at hgx
    refine hgx (hs i _ (List.getElem?_eq_getElem hl) F3 _ m2 (wipe σ vs) H3 x S3w R3 E3 _ fun F4 m4 A4 σ4 H4 e4 p4 S4 q4 ew => ?_)
    have x4 := e2.trans (e3.trans e4)
    have y4 := p2.trans p4
    refine q4 F4 _ m4 σ4 H4 S4 (E3.mono e4 p4) _ fun F5 m5 A5 b H5 e5 p5 S5 q5 => ?_
    have tk : ∀ o, es[i]? = some o → es.take (i + 1) = es.take i ++ [o] := fun o ho => by rw [List.take_add_one, ho]; rfl
    cases b with
    | false =>
      obtain ⟨h1, h2, h3⟩ := q5.2 rfl
      show i + 1 ≤ ds.length ∧ _
      refine ⟨hl, F5, m5, acc, x4.trans e5, y4.trans p5, h2 ▸ S2.unwipeO S5 (e3.trans (e4.trans e5)) (p4.trans p5) h3 ew no, ?_⟩
      rw [tk _ h1, List.filterMap_append]
      show Reps c.K F5 m5 acc (_ ++ [])
      rw [List.append_nil]
      exact R2.mono (e3.trans (e4.trans e5)) (p4.trans p5)
    | true =>
      show te σ4 H5 _
      refine (WE.frz (q5.1 rfl)) F5 _ m5 σ4 H5 S5 (E3.mono (e4.trans e5) (p4.trans p5)) _ fun F6 m6 A6 y H6 r e6 p6 S6 R6 q6 => ?_
      obtain ⟨d, er, h1, h2, h3⟩ := q6
      subst er
      have z6 := e3.trans (e4.trans (e5.trans e6))
      have w6 := p4.trans (p5.trans p6)
      refine ⟨acc, S6.h.exG Dl _ upd_same, Nat.lt_of_le_of_lt hacc (Nat.lt_of_lt_of_le (Nat.lt_trans hl hlen) (by decide)), hl, F6, m6, acc ++ [y], e2.trans z6, p2.trans w6, (h2 ▸ S2.unwipeO S6 z6 w6 h3 ew no : Sim c.K F6 _ m6 ⟨A1.s, oI (i + 1)⟩ σ _).setG, ?_⟩
      rw [tk _ h1, List.filterMap_append]
      exact (R2.mono z6 w6).app (.cons R6 .nil)
  · have ei : i = ds.length := by omega
    subst ei
    rw [← hes, List.take_length] at R2
    have gs := S2.h.exG Dl _ upd_same
    have fD : F2 Dl = none := by
      cases y : F2 Dl with
      | none => rfl
      | some u => have z := S2.h.dj Dl u y; rw [upd_same] at z; cases z
    exact .inl ⟨r2 (Nat.le_refl _), k F2 m2 ⟨A1.s, oI ds.length⟩ Dl acc H2 _ (e1.trans e2) (p1.trans p2) (S2.weakG (sub _)) fD gD (fun n e => by have z := S2.h.mG n Dl e; rw [upd_same] at z; cases z) nD gs R2 q⟩
/-- rows mapped, the cells growing with each -/
theorem wn_lcMO {α : Type} {wi : TI} {g : TG} {vs : List Nat} {Q : AS → List D → Prop} (f h : α → D) (hg : GOk g vs)
    (hw : WI c wi A fun A1 ds => ∃ (xs : List α) (oI : Nat → List Cell), ds = xs.map f ∧ noOwnB A1.s vs = true ∧ xs.length < 100000 ∧ oI 0 = A1.o ∧ (∀ i x, xs[i]? = some x → WG c g (f x) ⟨wipeA A1.s vs, oI i⟩ fun A2 => WE c te A2 fun A4 r => Frz A4 r fun A5 e => e = h x ∧ A5.o = oI (i + 1) ∧ ∀ j, j ∉ vs → A5.s[j]? = A1.s[j]?) ∧ Q ⟨A1.s, oI xs.length⟩ (xs.map h)) :
    WN c (tLc wi g tYes te vs) A Q := wn_lcO hg fun F G m σ H S E Rc k => hw F G m σ H S E Rc fun F' m' A1 J H' ds e p S' RJ ⟨xs, oI, ed, no, hl, h0, hs, q⟩ => by
  subst ed
  refine k F' m' A1 J H' _ e p S' RJ ⟨noOwn_of no, by rw [List.length_map]; exact hl, oI, h0, xs.map (fun x => some (h x)), by simp, fun i d hd => ?_, ?_⟩
  · rw [List.getElem?_map] at hd
    cases z : xs[i]? with
    | none => rw [z] at hd; cases hd
    | some x =>
      rw [z] at hd; cases hd
      intro F G m σ H v S R E Qc k
      refine hs i x z F G m σ H v S R E Qc fun F2 m2 A2 σ2 H2 e2 p2 S2 q2 => k F2 m2 A2 σ2 H2 e2 p2 S2 (wt_yes ⟨fun _ => ?_, fun b => nomatch b⟩)
      refine q2.imp fun A4 r q4 => ?_
      refine frz_imp q4 (fun A5 e5 ⟨h1, h2⟩ => ⟨?_, h2.1, h2.2⟩)
      rw [List.getElem?_map, z, h1]; rfl
  · rw [fm_some, List.length_map]; exact q
end
end AL

namespace AL
open PySem L2
/-! ### slots forgotten -/
theorem SS.forget1 {K : PySem.W.Frag} {F G : Hp} {m : List Addr} {s : List (Option SV)} {σ : St} {H : Hp} (h : SS K F G m s σ H) (i : Nat) : SS K F G m (s.set i none) σ H := by
  have q := h.forget (i := i) (x := (σ[i]?).getD none)
  have e : σ.set i ((σ[i]?).getD none) = σ := by
    apply List.ext_getElem?
    intro j
    by_cases z : i = j
    · subst z
      by_cases l : i < σ.length
      · rw [List.getElem?_set_self l, List.getElem?_eq_getElem l]; rfl
      · rw [List.getElem?_eq_none (by rw [List.length_set]; omega), List.getElem?_eq_none (by omega)]
    · rw [List.getElem?_set_ne z]
  rw [e] at q; exact q
theorem SS.wipe1 {K : PySem.W.Frag} {F G : Hp} {m : List Addr} {s : List (Option SV)} {σ : St} {H : Hp} (h : SS K F G m s σ H) : ∀ vs, SS K F G m (wipeA s vs) σ H
  | [] => h
  | v :: vs => (SS.wipe1 h vs).forget1 v
def AS.wipe (A : AS) (vs : List Nat) : AS := ⟨wipeA A.s vs, A.o⟩
theorem Sim.wipe1 {K : PySem.W.Frag} {F G : Hp} {m : List Addr} {A : AS} {σ : St} {H : Hp} (S : Sim K F G m A σ H) (vs : List Nat) : Sim K F G m (A.wipe vs) σ H := ⟨S.h, S.s.wipe1 vs⟩
def updS (s : List (Option SV)) : List (Nat × Option SV) → List (Option SV)
  | [] => s
  | (i, v) :: r => updS (s.set i v) r
section
variable {c : Ct} {A : AS} {t t1 t2 tb : TS} {nx bk ct : AS → Prop} {rt : List Cell → D → Prop}
theorem vs_wipe (vs : List Nat) {B : EA} (h : WS c t (A.wipe vs) B) : WS c t A B := fun F G m σ H S E Dc k => h F G m σ H (S.wipe1 vs) E Dc k
theorem WG.wipe {g : TG} {d : D} {Q : AS → Prop} (vs : List Nat) (h : WG c g d (A.wipe vs) Q) : WG c g d A Q := fun F G m σ H v S R E Qc k => h F G m σ H v (S.wipe1 vs) R E Qc k
theorem WT.wipe {tc : TT} {Q : AS → Bool → Prop} (vs : List Nat) (h : WT c tc (A.wipe vs) Q) : WT c tc A Q := fun F G m σ H S E Qc k => h F G m σ H (S.wipe1 vs) E Qc k
theorem vs_wipeE (vs : List Nat) (h : WS c t A ⟨fun A1 => nx (A1.wipe vs), rt, bk, ct⟩) : WS c t A ⟨nx, rt, bk, ct⟩ := fun F G m σ H S E Dc k =>
  h F G m σ H S E Dc ⟨fun F' m' A' σ' H' e p S' q => k.nx F' m' _ σ' H' e p (S'.wipe1 vs) q, k.rt, k.bk, k.ct⟩
/-- a loop: vs are the slots that nobody reads from one turn to the next; st the ones that are carried on; the others stay -/
theorem vs_forN {wi : TI} {g : TG} {α : Type} (vs : List Nat) (st : Nat → α → List (Nat × Option SV)) (oc : Nat → α → List Cell) (P : List D → Nat → α → Prop)
    (h : WI c wi A fun (A1 : AS) ds => (∃ a, A1.wipe vs = ⟨updS (wipeA A1.s vs) (st 0 a), oc 0 a⟩ ∧ P ds 0 a) ∧
      (∀ i d a, ds[i]? = some d → P ds i a → WG c g d ⟨updS (wipeA A1.s vs) (st i a), oc i a⟩ fun A3 => WS c tb A3 ⟨fun (A4 : AS) => ∃ a', A4.wipe vs = ⟨updS (wipeA A1.s vs) (st (i + 1) a'), oc (i + 1) a'⟩ ∧ P ds (i + 1) a', rt, fun A4 => nx (A4.wipe vs), fun (A4 : AS) => ∃ a', A4.wipe vs = ⟨updS (wipeA A1.s vs) (st (i + 1) a'), oc (i + 1) a'⟩ ∧ P ds (i + 1) a'⟩) ∧
      ∀ a, P ds ds.length a → nx ⟨updS (wipeA A1.s vs) (st ds.length a), oc ds.length a⟩) :
    WS c (tFor wi g tb) A ⟨nx, rt, bk, ct⟩ := vs_wipeE vs (fun F G m σ H S E Dc k => by
  have : WI c wi A fun A1 ds => ∃ I : List D → Nat → AS → Prop, I ds 0 A1 ∧ (∀ i d A2, ds[i]? = some d → I ds i A2 → WG c g d A2 fun A3 => WS c tb A3 ⟨I ds (i + 1), rt, fun A4 => nx (A4.wipe vs), I ds (i + 1)⟩) ∧ ∀ A2, I ds ds.length A2 → nx (A2.wipe vs) := fun F G m σ H S E Rc k =>
    h F G m σ H S E Rc fun F' m' A1 J H' ds e p S' R ⟨h0, hs, hd⟩ => k F' m' A1 J H' ds e p S' R ⟨fun ds i A2 => ∃ a, A2.wipe vs = ⟨updS (wipeA A1.s vs) (st i a), oc i a⟩ ∧ P ds i a, h0, fun i d A2 hi ⟨a, ea, pa⟩ => WG.wipe vs (by rw [ea]; exact hs i d a hi pa), fun A2 ⟨a, ea, pa⟩ => by rw [ea]; exact hd a pa⟩
  refine this F G m σ H S E _ fun F1 m1 A1 J H1 ds e1 p1 S1 RJ ⟨I, h0, hs, hd⟩ => ?_
  refine ⟨fun i n σ2 H2 => n = ds.length - i ∧ i ≤ ds.length ∧ ∃ F2 m2 A2, Ex F1 F2 ∧ Pre m1 m2 ∧ Sim c.K F2 G m2 A2 σ2 H2 ∧ I ds i A2, ⟨_, rfl, Nat.zero_le _, F1, m1, A1, Evl.Ex.refl _, Pre.refl _, S1, h0⟩, fun i n σ2 H2 hw => ?_⟩
  obtain ⟨rfl, hi, F2, m2, A2, e2, p2, S2, q2⟩ := hw
  obtain ⟨r1, r2⟩ := RJ F2 G m2 A2 σ2 H2 e2 p2 S2 i
  by_cases hl : i < ds.length
  · obtain ⟨g1, g2⟩ := r1 _ (List.getElem?_eq_getElem hl)
    refine .inr ⟨g1, fun σ3 H3 => ∃ F3 m3 A3, Ex F1 F3 ∧ Pre m1 m3 ∧ Sim c.K F3 G m3 A3 σ3 H3 ∧ I ds (i + 1) A3, fun σ3 H3 hN => ?_, fun x H3 hy => ?_⟩
    · exact ⟨ds.length - (i + 1), by omega, rfl, hl, hN⟩
    · obtain ⟨F3, e3, S3, R3⟩ := g2 x H3 hy
      refine hs i _ A2 (List.getElem?_eq_getElem hl) q2 F3 G m2 σ2 H3 x S3 R3 (E.mono ((e1.trans e2).trans e3) (p1.trans p2)) _ fun F4 m4 A4 σ4 H4 e4 p4 S4 q4 => ?_
      have f1 := e2.trans (e3.trans e4)
      have f2 := p2.trans p4
      refine q4 F4 G m4 σ4 H4 S4 (E.mono (e1.trans f1) (p1.trans f2)) _ ⟨fun F5 m5 A5 σ5 H5 e5 p5 S5 q5 => ⟨F5, m5, A5, f1.trans e5, f2.trans p5, S5, q5⟩, (k.mono (e1.trans f1) (p1.trans f2)).rt, fun F5 m5 A5 σ5 H5 e5 p5 S5 q5 => k.nx F5 m5 A5 σ5 H5 ((e1.trans f1).trans e5) ((p1.trans f2).trans p5) S5 q5, fun F5 m5 A5 σ5 H5 e5 p5 S5 q5 => ⟨F5, m5, A5, f1.trans e5, f2.trans p5, S5, q5⟩⟩
  · have : i = ds.length := by omega
    subst this
    exact .inl ⟨r2 (Nat.le_refl _), k.nx F2 m2 A2 σ2 H2 (e1.trans e2) (p1.trans p2) S2 (hd A2 q2)⟩)
/-- a loop: vs are the slots that nobody reads from one turn to the next; st the ones that are carried on; the others stay -/
theorem vs_forI {wi : TI} {g : TG} {α : Type} (vs : List Nat) (st : α → List (Nat × Option SV)) (oc : α → List Cell) (P : List D → Nat → α → Prop)
    (h : WI c wi A fun (A1 : AS) ds => (∃ a, A1.wipe vs = ⟨updS (wipeA A1.s vs) (st a), oc a⟩ ∧ P ds 0 a) ∧
      (∀ i d a, ds[i]? = some d → P ds i a → WG c g d ⟨updS (wipeA A1.s vs) (st a), oc a⟩ fun A3 => WS c tb A3 ⟨fun (A4 : AS) => ∃ a', A4.wipe vs = ⟨updS (wipeA A1.s vs) (st a'), oc a'⟩ ∧ P ds (i + 1) a', rt, fun A4 => nx (A4.wipe vs), fun (A4 : AS) => ∃ a', A4.wipe vs = ⟨updS (wipeA A1.s vs) (st a'), oc a'⟩ ∧ P ds (i + 1) a'⟩) ∧
      ∀ a, P ds ds.length a → nx ⟨updS (wipeA A1.s vs) (st a), oc a⟩) :
    WS c (tFor wi g tb) A ⟨nx, rt, bk, ct⟩ := vs_forN vs (fun _ => st) (fun _ => oc) P h
/-- a loop by a test: n goes down -/
theorem vs_whileI {tc : TT} {α : Type} (vs : List Nat) (st : α → List (Nat × Option SV)) (oc : α → List Cell) (P : Nat → α → Prop) (n0 : Nat) (a0 : α)
    (e0 : A.wipe vs = ⟨updS (wipeA A.s vs) (st a0), oc a0⟩) (h0 : P n0 a0)
    (hs : ∀ n a, P n a → WT c tc ⟨updS (wipeA A.s vs) (st a), oc a⟩ fun A2 b => (b = true → WS c tb A2 ⟨fun (A3 : AS) => ∃ n' a', n' < n ∧ A3.wipe vs = ⟨updS (wipeA A.s vs) (st a'), oc a'⟩ ∧ P n' a', rt, fun A3 => nx (A3.wipe vs), fun (A3 : AS) => ∃ n' a', n' < n ∧ A3.wipe vs = ⟨updS (wipeA A.s vs) (st a'), oc a'⟩ ∧ P n' a'⟩) ∧ (b = false → nx (A2.wipe vs))) :
    WS c (tWhile tc tb) A ⟨nx, rt, bk, ct⟩ := vs_wipeE vs (vs_while (fun n (A2 : AS) => ∃ a, A2.wipe vs = ⟨updS (wipeA A.s vs) (st a), oc a⟩ ∧ P n a) n0 ⟨a0, e0, h0⟩ fun n A1 ⟨a, ea, pa⟩ => WT.wipe vs (by
      rw [ea]
      refine fun F G m σ H S E Qc k => hs n a pa F G m σ H S E Qc fun F' m' A' b H' e p S' ⟨q1, q2⟩ => k F' m' A' b H' e p S' ⟨fun hb => (q1 hb).imp (fun A3 ⟨n', a', h1, h2, h3⟩ => ⟨n', h1, a', h2, h3⟩) (fun _ _ h => h) (fun _ h => h) (fun A3 ⟨n', a', h1, h2, h3⟩ => ⟨n', h1, a', h2, h3⟩), q2⟩))
/-- the state behind the first statement is told anew -/
theorem vs_cutI {α : Type} (vs : List Nat) (st : α → List (Nat × Option SV)) (oc : α → List Cell) (P : α → Prop)
    (h1 : WS c t1 A ⟨fun (A1 : AS) => ∃ a, A1.wipe vs = ⟨updS (wipeA A.s vs) (st a), oc a⟩ ∧ P a, rt, bk, ct⟩) (h2 : ∀ a, P a → WS c t2 ⟨updS (wipeA A.s vs) (st a), oc a⟩ ⟨nx, rt, bk, ct⟩) : WS c (tSeq t1 t2) A ⟨nx, rt, bk, ct⟩ :=
  ws_seq (h1.imp (fun A1 ⟨a, ea, pa⟩ => vs_wipe vs (by rw [ea]; exact h2 a pa)) (fun _ _ h => h) (fun _ h => h) (fun _ h => h))
variable {Q : QE}
/-- a drawn number: any below 1000 -/
theorem od_ixN {ns : List Int} {x : RV} {i : Int} (hx : lsOf A x = some (ns.map .int)) (hN : AllN ns) (h0 : 0 ≤ i) (h1 : i < (ns.length : Int)) (q : ∀ v : Int, 0 ≤ v → v < 1000 → Q A (.val (.int v))) : OpD c (rIx c.K) x (.val (.int i)) A Q :=
  od_ixL hx (atI_ints h0 h1) (q _ (hN.at _).1 (hN.at _).2)
end
end AL
namespace AL
theorem od_ixNv {c : Ct} {A : AS} {Q : QE} {ns : List Int} {i : Int} (hN : AllN ns) (h0 : 0 ≤ i) (h1 : i < (ns.length : Int)) (q : ∀ v : Int, 0 ≤ v → v < 1000 → Q A (.val (.int v))) : OpD c (L2.rIx c.K) (.val (.lst (ns.map D.int))) (.val (.int i)) A Q :=
  od_ixN rfl hN h0 h1 q
end AL
local macro_rules | `(tactic| walk_at "aln1") => `(tactic| ((with_reducible refine' AL.od_ixNv ?hN ?h0 ?h1 (fun _ _ _ => ?_)); (case hN => assumption); (case h0 => omega); (case h1 => omega)))
local macro_rules | `(tactic| walk_at "aln") => `(tactic| ((repeat (first | walk_at "als1" | walk_at "aln1" | walk_at "al2")); all_goals (try dsimp only [AL.as_eta])))
namespace AL
theorem modN {x : Int} {m : Nat} (h : 0 < m) : ∃ s : Nat, x % (m : Int) = (s : Nat) ∧ s < m := by
  have h1 := Int.emod_nonneg x (show (m : Int) ≠ 0 by omega)
  have h2 := Int.emod_lt_of_pos x (show 0 < (m : Int) by omega)
  exact ⟨(x % (m : Int)).toNat, by omega, by omega⟩
end AL
local macro_rules | `(tactic| walk_at "fl") => `(tactic| simp only [AL.as_eta, AL.AS.setS, AL.AS.wipe, AL.updS, AL.wipeA, AL.entry, List.set, List.map_cons, List.map_nil, List.length_cons, List.length_nil, List.replicate, List.cons_append, List.nil_append, Nat.reduceAdd, Nat.reduceSub, Nat.reduceLeDiff, Nat.sub_self])

namespace AL
open PySem L2
/-! ### the greatest, and by number -/
def IsArg (ns : List Int) (j : Nat) : Prop := ∃ M, ns[j]? = some M ∧ (∀ y ∈ ns, y ≤ M) ∧ ∀ m : Nat, m < j → ns[m]? ≠ some M
def IsBy (ns : List Int) (r : Int) (l : Nat) : Prop := l < ns.length ∧ (ns.take l).sum ≤ r ∧ r < (ns.take (l + 1)).sum
theorem isArg_uniq {ns : List Int} {a b : Nat} (ha : IsArg ns a) (hb : IsArg ns b) : a = b := by
  obtain ⟨M, h1, h2, h3⟩ := ha
  obtain ⟨N, g1, g2, g3⟩ := hb
  have e : M = N := by
    have := h2 N (List.mem_of_getElem? g1)
    have := g2 M (List.mem_of_getElem? h1)
    omega
  subst e
  by_cases c1 : a < b
  · exact absurd h1 (g3 a c1)
  · by_cases c2 : b < a
    · exact absurd g1 (h3 b c2)
    · omega
theorem isBy_uniq {ns : List Int} {r : Int} {a b : Nat} (hx : ∀ x ∈ ns, 0 ≤ x) (ha : IsBy ns r a) (hb : IsBy ns r b) : a = b := by
  obtain ⟨h1, h2, h3⟩ := ha
  obtain ⟨g1, g2, g3⟩ := hb
  by_cases c1 : a < b
  · have := sumTkLe hx (a + 1) b c1; omega
  · by_cases c2 : b < a
    · have := sumTkLe hx (b + 1) a c2; omega
    · omega
/-- the law's own letter, behind i turns -/
def Let (ws : List Int) (r : Int) (i L : Nat) : Prop := L ≤ i ∧ (ws.take L).sum ≤ r ∧ ∀ j : Nat, L < j → j ≤ i → r < (ws.take j).sum
theorem let_by {ws : List Int} {r : Int} {L l : Nat} (hx : ∀ x ∈ ws, 0 ≤ x) (h : Let ws r ws.length L) (b : IsBy ws r l) : l = L := by
  obtain ⟨h1, h2, h3⟩ := h
  obtain ⟨b1, b2, b3⟩ := b
  by_cases c1 : L < l
  · have := h3 l c1 (by omega); omega
  · by_cases c2 : l < L
    · have := sumTkLe hx (l + 1) L c2; omega
    · omega
open Classical in
noncomputable def argI (ns : List Int) : Nat := if h : ∃ j, IsArg ns j then h.choose else 0
theorem argI_of {ns : List Int} {j : Nat} (h : IsArg ns j) : argI ns = j := by
  unfold argI
  rw [dif_pos ⟨j, h⟩]
  exact isArg_uniq (Exists.choose_spec ⟨j, h⟩) h
open Classical in
noncomputable def byI (ns : List Int) (r : Int) : Nat := if h : ∃ j, IsBy ns r j then h.choose else 0
theorem byI_of {ns : List Int} {r : Int} {j : Nat} (hx : ∀ x ∈ ns, 0 ≤ x) (h : IsBy ns r j) : byI ns r = j := by
  unfold byI
  rw [dif_pos ⟨j, h⟩]
  exact isBy_uniq hx (Exists.choose_spec ⟨j, h⟩) h
theorem sum0_of {ns : List Int} (hx : ∀ x ∈ ns, 0 ≤ x) {M : Int} (hM : M ∈ ns) (hm : ∀ y ∈ ns, y ≤ M) : ns.sum = 0 ↔ M = 0 := by
  constructor
  · intro h
    by_cases c : 0 < M
    · have := sumPos hx hM c; omega
    · have := hx M hM; omega
  · intro h
    subst h
    have : ∀ (xs : List Int), (∀ x ∈ xs, x = 0) → xs.sum = 0 := fun xs => by
      induction xs with
      | nil => intro _; rfl
      | cons x r ih => intro h; rw [List.sum_cons, h x (List.mem_cons_self ..), ih fun y hy => h y (List.mem_cons_of_mem _ hy)]; rfl
    exact this ns fun x hx' => by have := hx x hx'; have := hm x hx'; omega
def C_greatest : Contract := fun ds O R _ => ∃ d ns, ds = [d] ∧ Seq d ns ∧ 0 < ns.length ∧ ∀ j, IsArg ns j → R O (.int (j : Nat))
def C_by_number : Contract := fun ds O R _ => ∃ d ns n, ds = [d, .int n] ∧ Seq d ns ∧ ns.length ≤ 100 ∧ (∀ x ∈ ns, 0 ≤ x) ∧ 0 < ns.sum ∧ ∀ l, IsBy ns (n % ns.sum) l → R O (.int (l : Nat))
theorem len_greatest : ∀ ds O R X, C_greatest ds O R X → ds.length = 1 := fun _ _ _ _ h => by obtain ⟨_, _, rfl, _⟩ := h; rfl
theorem len_by_number : ∀ ds O R X, C_by_number ds O R X → ds.length = 2 := fun _ _ _ _ h => by obtain ⟨_, _, _, rfl, _⟩ := h; rfl
/-! ### rules -/
structure RuleM where
  start : Nat
  steps : List (List (Option Nat))
def dOp : Option Nat → D
  | none => .non
  | some s => .int (s : Nat)
def dStep (row : List (Option Nat)) : D := .tup (row.map dOp)
def ruleF (r : RuleM) : List (Str × D) := [("start", .int (r.start : Nat)), ("steps", .tup (r.steps.map dStep))]
def dRule (C : Addr) (r : RuleM) : D := .obj C (ruleF r)
structure WfRu (L : Nat) (r : RuleM) : Prop where
  s0 : r.start < r.steps.length
  n : r.steps.length ≤ 100
  L1 : L ≤ 100
  row : ∀ row ∈ r.steps, row.length = L ∧ ∀ s, some s ∈ row → s < r.steps.length
def rstI (r : RuleM) (s l : Nat) : Option Nat := (r.steps.getD s []).getD l none
def afterI (r : RuleM) (text : List Nat) : Option Nat := text.foldl (fun s l => s.bind fun s => rstI r s l) (some r.start)
def letsI (r : RuleM) (text : List Nat) (l : Nat) : Bool := ((afterI r text).bind fun s => rstI r s l).isSome
theorem step_wf {L : Nat} {r : RuleM} (h : WfRu L r) {s l s' : Nat} (hs : s < r.steps.length) (hl : l < L) (e : rstI r s l = some s') : s' < r.steps.length := by
  unfold rstI at e
  rw [getD_lt hs] at e
  have hr := h.row _ (List.getElem_mem hs)
  rw [getD_lt (by rw [hr.1]; exact hl)] at e
  exact hr.2 s' (by rw [← e]; exact List.getElem_mem _)
theorem after_wf {L : Nat} {r : RuleM} (h : WfRu L r) : ∀ (text : List Nat) (o : Option Nat), (∀ l ∈ text, l < L) → (∀ s, o = some s → s < r.steps.length) → ∀ s', text.foldl (fun s l => s.bind fun s => rstI r s l) o = some s' → s' < r.steps.length
  | [], o, _, ho, s', e => ho s' e
  | l :: t, o, hl, ho, s', e => after_wf h t (o.bind fun s => rstI r s l) (fun x hx => hl x (List.mem_cons_of_mem _ hx)) (fun s2 e2 => by
      cases o with
      | none => cases e2
      | some s => exact step_wf h (ho s rfl) (hl l (List.mem_cons_self ..)) e2) s' e
theorem afterI_wf {L : Nat} {r : RuleM} (h : WfRu L r) {text : List Nat} (hl : ∀ l ∈ text, l < L) {s : Nat} (e : afterI r text = some s) : s < r.steps.length := after_wf h text _ hl (fun s e => by cases e; exact h.s0) s e
def countedI (r : Option RuleM) (ws : List Int) (text : List Nat) : List Int := match r with
  | none => ws
  | some r => (List.range ws.length).map fun l => if letsI r text l then ws.getD l 0 else 0
theorem counted_len {r : Option RuleM} {ws : List Int} {text : List Nat} : (countedI r ws text).length = ws.length := by
  cases r with
  | none => rfl
  | some r => show ((List.range ws.length).map _).length = _; rw [List.length_map, List.length_range]
theorem counted_nn {r : Option RuleM} {ws : List Int} {text : List Nat} (h : ∀ x ∈ ws, 0 ≤ x) : ∀ x ∈ countedI r ws text, 0 ≤ x := by
  cases r with
  | none => exact h
  | some r =>
    intro x hx
    obtain ⟨l, hl, rfl⟩ := List.mem_map.mp (show x ∈ (List.range ws.length).map _ from hx)
    have hl := List.mem_range.mp hl
    split
    · rw [getD_lt hl]; exact h _ (List.getElem_mem hl)
    · exact Int.le_refl _
noncomputable def choiceI (r : Option RuleM) (tape : List Int) (ws : List Int) (text : List Nat) : Option Nat :=
  if (countedI r ws text).sum = 0 then none
  else if tape = [] then some (argI (countedI r ws text))
  else some (byI (countedI r ws text) (tape.getD (text.length % tape.length) 0 % (countedI r ws text).sum))
/-! ### asks -/
structure AskM where
  prompt : List Nat
  most : Nat
  stops : List (List Nat)
  tape : List Int
  rule : Option RuleM
def dTx (t : List Nat) : D := .tup (dL t)
def dRu (CR : Addr) : Option RuleM → D
  | none => .non
  | some r => dRule CR r
def askF (CR : Addr) (a : AskM) : List (Str × D) := [("prompt", dTx a.prompt), ("most", .int (a.most : Nat)), ("stops", .tup (a.stops.map dTx)), ("tape", .tup (a.tape.map .int)), ("rule", dRu CR a.rule)]
def dAsk (C CR : Addr) (a : AskM) : D := .obj C (askF CR a)
structure WfA (L : Nat) (a : AskM) : Prop where
  p0 : 0 < a.prompt.length
  p1 : a.prompt.length ≤ 100
  pl : ∀ l ∈ a.prompt, l < L
  m0 : 1 ≤ a.most
  m1 : a.most ≤ 30
  st : a.stops.length ≤ 100 ∧ ∀ s ∈ a.stops, s.length ≤ 100 ∧ ∀ l ∈ s, l < L
  tl : a.tape.length ≤ 100
  ru : ∀ r, a.rule = some r → WfRu L r
/-- the longest stop at the text's end -/
def endsI (text stop : List Nat) : Bool := decide (stop.length ≤ text.length) && decide (text.drop (text.length - stop.length) = stop)
def stopI (stops : List (List Nat)) (text : List Nat) : Nat := stops.foldl (fun n s => if endsI text s then max n s.length else n) 0
/-- behind a choice: the text, and the word -/
def withI (e : Option Nat) (a : AskM) (text : List Nat) : Option Nat → List Nat × Option Str
  | none => (text, some "stuck")
  | some c => if some c = e then (text, some "end")
    else if 0 < stopI a.stops (text ++ [c]) then ((text ++ [c]).take ((text ++ [c]).length - stopI a.stops (text ++ [c])), some "stop")
    else if a.most ≤ (text ++ [c]).length then (text ++ [c], some "most")
    else (text ++ [c], none)
def dWd : Option Str → D
  | none => .non
  | some w => .str w
/-- the weights behind these letters -/
def wtsI (n : NetM) (ls : List Nat) : List Int := (rowI n (rowsI n (ls.take (ls.length - 1))) (ls.getD (ls.length - 1) 0)).weights
/-- the text behind k turns -/
noncomputable def goI (n : NetM) (e : Option Nat) (a : AskM) (begun : List Nat) : Nat → List Nat × Option Str
  | 0 => (begun, none)
  | k + 1 => match goI n e a begun k with
    | (t, none) => withI e a t (choiceI a.rule a.tape (wtsI n (a.prompt ++ t)) t)
    | z => z

theorem shaped_intsT (ns : List Int) : SeqAt.shaped (.tuple (ns.map PyData.int)) = true := by
  unfold SeqAt.shaped
  rw [Bool.and_eq_true]
  refine ⟨canLay_ints ns, decide_eq_true ?_⟩
  have := depth_ints ns
  show _ + 1 ≤ 64
  omega
theorem eqvAll_ints : ∀ a b : List Int, PyData.eqvAll (a.map PyData.int) (b.map PyData.int) = decide (a = b)
  | [], [] => by simp [PyData.eqvAll]
  | [], _ :: _ => by simp [PyData.eqvAll]
  | _ :: _, [] => by simp [PyData.eqvAll]
  | x :: a, y :: b => by
    simp only [List.map_cons, PyData.eqvAll, eqvAll_ints a b]
    by_cases h : x = y
    · subst h; simp [PyData.eqv]
    · simp [PyData.eqv, h]
theorem eqv_intsT (a b : List Int) : PyData.eqv (.tuple (a.map PyData.int)) (.tuple (b.map PyData.int)) = decide (a = b) := by rw [PyData.eqv]; exact eqvAll_ints a b
theorem eqv_intsL (a b : List Int) : PyData.eqv (.list (a.map PyData.int)) (.list (b.map PyData.int)) = decide (a = b) := by rw [PyData.eqv]; exact eqvAll_ints a b
theorem py_tx (t : List Nat) : Py (dTx t) (.tuple ((t.map Int.ofNat).map .int)) := .tup (pys_ints _)
theorem ofNat_inj {a b : List Nat} : a.map Int.ofNat = b.map Int.ofNat ↔ a = b := ⟨fun h => List.map_inj_right (fun _ _ h => Int.ofNat.inj h) |>.mp h, fun h => by rw [h]⟩
theorem od_eqTx {c : Ct} {A : AS} {Q : QE} {a b : List Nat} (q : Q A (.val (.bl (decide (a = b))))) : OpD c (rEqA c.K) (.val (dTx a)) (.val (dTx b)) A Q :=
  od_eqD (py_tx a) (py_tx b) (shaped_intsT _) (shaped_intsT _) (b := decide (a = b)) (by rw [eqv_intsT]; exact decide_eq_decide.mpr ofNat_inj) q
theorem seqTx (t : List Nat) : Seq (dTx t) (t.map Int.ofNat) := .inr rfl
theorem seqL (t : List Nat) : Seq (.lst (dL t)) (t.map Int.ofNat) := .inl rfl
theorem dOp_some {s : Nat} : dOp (some s) = .int (s : Nat) := rfl
/-! ### what the defs promise -/
section
variable (C CA CR : Addr)
def C_check_letters : Contract := fun ds O R _ => ∃ n e d, ∃ ls : List Nat, ds = [dNet C n e, d] ∧ Seq d (ls.map Int.ofNat) ∧ (∀ l ∈ ls, l < n.emb.length) ∧ n.emb.length ≤ 1000 ∧ R O .non
def C_check_ask : Contract := fun ds O R _ => ∃ n e a, ds = [dNet C n e, dAsk CA CR a] ∧ WfA n.emb.length a ∧ n.emb.length ≤ 1000 ∧ R O .non
def C_stop_at_end : Contract := fun ds O R _ => ∃ (stops : List (List Nat)) (text : List Nat), ds = [.tup (stops.map dTx), dTx text] ∧ R O (.int (stopI stops text : Nat))
def C_with_choice : Contract := fun ds O R _ => ∃ n e a, ∃ text : List Nat, ∃ ch : Option Nat, ds = [dNet C n (dOp e), dAsk CA CR a, dTx text, dOp ch] ∧ text.length ≤ 1000 ∧ R O (.tup [dTx (withI e a text ch).1, dWd (withI e a text ch).2])
def C_Rule___init__ : Contract := fun ds O R _ => ∃ (i : Nat) (r : RuleM), ds = [.ptr i, .int (r.start : Nat), .tup (r.steps.map dStep)] ∧ O[i]? = some (.ins CR []) ∧ r.steps.length ≤ 1000 ∧ R (O.set i (.ins CR (ruleF r))) .non
def C_Rule_after : Contract := fun ds O R _ => ∃ r L d, ∃ text : List Nat, ds = [dRule CR r, d] ∧ Seq d (text.map Int.ofNat) ∧ WfRu L r ∧ (∀ l ∈ text, l < L) ∧ R O (dOp (afterI r text))
def C_Rule_lets : Contract := fun ds O R _ => ∃ r L d, ∃ text : List Nat, ∃ l : Nat, ds = [dRule CR r, d, .int (l : Nat)] ∧ Seq d (text.map Int.ofNat) ∧ WfRu L r ∧ (∀ l ∈ text, l < L) ∧ l < L ∧ R O (.bl (letsI r text l))
def C_Ask___init__ : Contract := fun ds O R _ => ∃ (i : Nat) (a : AskM), ds = [.ptr i, dTx a.prompt, .int (a.most : Nat), .tup (a.stops.map dTx), .tup (a.tape.map .int), dRu CR a.rule] ∧ O[i]? = some (.ins CA []) ∧ 1 ≤ a.most ∧ a.most ≤ 30 ∧ a.stops.length ≤ 1000 ∧ R (O.set i (.ins CA (askF CR a))) .non
def C_Ask_counted : Contract := fun ds O R _ => ∃ a L d ws t, ∃ text : List Nat, ds = [dAsk CA CR a, d, t] ∧ Seq d ws ∧ Seq t (text.map Int.ofNat) ∧ (∀ r, a.rule = some r → WfRu L r) ∧ ws.length ≤ L ∧ L ≤ 100 ∧ (∀ l ∈ text, l < L) ∧ ∀ d', Seq d' (countedI a.rule ws text) → R O d'
def C_Ask_choice : Contract := fun ds O R _ => ∃ a L d ws t, ∃ text : List Nat, ds = [dAsk CA CR a, d, t] ∧ Seq d ws ∧ Seq t (text.map Int.ofNat) ∧ (∀ r, a.rule = some r → WfRu L r) ∧ 0 < ws.length ∧ ws.length ≤ L ∧ L ≤ 100 ∧ (∀ x ∈ ws, 0 ≤ x) ∧ (∀ l ∈ text, l < L) ∧ text.length ≤ 1000 ∧ a.tape.length ≤ 100 ∧ ((∀ c, choiceI a.rule a.tape ws text = some c → c < ws.length) → R O (dOp (choiceI a.rule a.tape ws text)))
def C_written : Contract := fun ds O R _ => ∃ n e a d, ∃ begun : List Nat, ds = [dNet C n (dOp e), dAsk CA CR a, d] ∧ Seq d (begun.map Int.ofNat) ∧ WfN n ∧ n.out.length = n.emb.length ∧ WfA n.emb.length a ∧ (∀ l ∈ begun, l < n.emb.length) ∧ begun.length < a.most ∧ NoLstO O ∧ ∀ k t w, goI n e a begun k = (t, some w) → R O (.tup [dTx t, .str w])
variable {C CA CR}
theorem len_check_letters : ∀ ds O R X, C_check_letters C ds O R X → ds.length = 2 := fun _ _ _ _ h => by obtain ⟨_, _, _, _, rfl, _⟩ := h; rfl
theorem len_check_ask : ∀ ds O R X, C_check_ask C CA CR ds O R X → ds.length = 2 := fun _ _ _ _ h => by obtain ⟨_, _, _, rfl, _⟩ := h; rfl
theorem len_stop_at_end : ∀ ds O R X, C_stop_at_end ds O R X → ds.length = 2 := fun _ _ _ _ h => by obtain ⟨_, _, rfl, _⟩ := h; rfl
theorem len_with_choice : ∀ ds O R X, C_with_choice C CA CR ds O R X → ds.length = 4 := fun _ _ _ _ h => by obtain ⟨_, _, _, _, _, rfl, _⟩ := h; rfl
theorem len_Rule___init__ : ∀ ds O R X, C_Rule___init__ CR ds O R X → ds.length = 3 := fun _ _ _ _ h => by obtain ⟨_, _, rfl, _⟩ := h; rfl
theorem len_Rule_after : ∀ ds O R X, C_Rule_after CR ds O R X → ds.length = 2 := fun _ _ _ _ h => by obtain ⟨_, _, _, _, rfl, _⟩ := h; rfl
theorem len_Rule_lets : ∀ ds O R X, C_Rule_lets CR ds O R X → ds.length = 3 := fun _ _ _ _ h => by obtain ⟨_, _, _, _, _, rfl, _⟩ := h; rfl
theorem len_Ask___init__ : ∀ ds O R X, C_Ask___init__ CA CR ds O R X → ds.length = 6 := fun _ _ _ _ h => by obtain ⟨_, _, rfl, _⟩ := h; rfl
theorem len_Ask_counted : ∀ ds O R X, C_Ask_counted CA CR ds O R X → ds.length = 3 := fun _ _ _ _ h => by obtain ⟨_, _, _, _, _, _, rfl, _⟩ := h; rfl
theorem len_Ask_choice : ∀ ds O R X, C_Ask_choice CA CR ds O R X → ds.length = 3 := fun _ _ _ _ h => by obtain ⟨_, _, _, _, _, _, rfl, _⟩ := h; rfl
theorem len_written : ∀ ds O R X, C_written C CA CR ds O R X → ds.length = 3 := fun _ _ _ _ h => by obtain ⟨_, _, _, _, _, rfl, _⟩ := h; rfl
end
theorem frame_enum {c : Ct} {A : AS} {ta : TA} {d : D} {ns : List Int} {Q : AS → List D → Prop} (hd : Seq d ns) (h : WA c ta A fun A1 es => es = [d] ∧ Q A1 ((List.range ns.length).map fun i => .sct [.int (i : Nat), .int (ns.getD i 0)])) : WI c (iEnumA c.K ta) A Q := by
  have e : enumD (ns.map D.int) = (List.range ns.length).map fun i => .sct [.int (i : Nat), .int (ns.getD i 0)] := by
    unfold enumD
    rw [List.length_map]
    apply List.map_congr_left
    intro i hi
    have hi := List.mem_range.mp hi
    rw [getD_lt (by rw [List.length_map]; exact hi), List.getElem_map, getD_lt hi]
  rcases hd with rfl | rfl
  · exact wi_enumL fun F G m σ H S E Qc k => h F G m σ H S E Qc fun F' m' A' vs H' ds e1 p S' R ⟨h1, h2⟩ => k F' m' A' vs H' ds e1 p S' R ⟨_, h1, by rw [e]; exact h2⟩
  · exact wi_enumT fun F G m σ H S E Qc k => h F G m σ H S E Qc fun F' m' A' vs H' ds e1 p S' R ⟨h1, h2⟩ => k F' m' A' vs H' ds e1 p S' R ⟨_, .inl h1, by rw [e]; exact h2⟩
/-! ### C(.., k = v, ..) -/
theorem we_makeKF {c : Ct} {A : AS} {Q : QE} {C : Addr} {Φ : Contract} {E : XK} {t tk : TA} {n m : Nat} {gV : List V → List V → List V} (gD : List D → List D → List D) (hg : ∀ F mm vs zs ds es, Reps c.K F mm vs ds → Reps c.K F mm zs es → Reps c.K F mm (gV vs zs) (gD ds es))
    (h : WA c t A fun A1 ds => WA c tk A1 fun A2 es => ds.length = n ∧ es.length = m ∧ Φ (gD (.ptr A2.o.length :: ds) es) (A2.o ++ [.ins C []]) (fun O' d => d = .non ∧ ∃ fs, O'[A2.o.length]? = some (.ins C fs) ∧ Q ⟨A2.s, O'.set A2.o.length .gone⟩ (.val (.obj C fs))) (fun _ _ _ => False)) : WE c (tMakeK C n m (SpA c.K Φ) gV E t tk) A Q := fun F G mm σ H S Eo Qc k =>
  h F G mm σ H S Eo _ fun F0 m0 A0 vs H0 ds e0 p0 S0 R0 q0 => q0 F0 G m0 σ H0 S0 (Eo.mono e0 p0) _ fun F1 m1 A1 zs H1 es e1 p1 S1 R1 ⟨l1, l2, q⟩ => by
    refine ⟨by rw [R0.len, l1], by rw [R1.len, l2], fun p dx hp hd n => ?_⟩
    have S2 := S1.insNew (C := C) hp hd n
    have ex : Ex F1 (upd F1 dx (.own p)) := ex_upd (S1.h.fresh hd).1
    have pr : Pre m1 (m1 ++ [p]) := Pre.app
    have gp : (m1 ++ [p])[A1.o.length]? = some p := by rw [← S1.h.len, List.getElem?_append_right (Nat.le_refl _), Nat.sub_self]; rfl
    refine ⟨upd F1 dx (.own p), _, m1 ++ [p], A1.o ++ [.ins C []], _, _, _, S2.call, hg _ _ _ _ _ _ (.cons (.ptr gp) (R0.mono (e1.trans ex) (p1.trans pr))) (R1.mono ex pr), q, fun F' m' O' w d H' e3 p3 hs r rr => ?_, fun F' m' O' C dx fvs fs H' e p hs fx rf xx => xx.elim⟩
    obtain ⟨ed, fs, eo, rr⟩ := rr
    subst ed
    cases r
    obtain ⟨F4, e4, S4, R4⟩ := (S2.back e3 p3 hs).insFrz (p3 _ _ gp) eo
    exact ⟨rfl, k F4 m' _ _ H' (.val (.obj C fs)) ((((e0.trans e1).trans ex).trans e3).trans e4) (((p0.trans p1).trans pr).trans p3) S4 R4 rr⟩
end AL
namespace AL
theorem stop_le (stops : List (List Nat)) (text : List Nat) : stopI stops text ≤ text.length := by
  have : ∀ (ss : List (List Nat)) (n : Nat), n ≤ text.length → ss.foldl (fun n s => if endsI text s then max n s.length else n) n ≤ text.length := fun ss => by
    induction ss with
    | nil => intro n h; exact h
    | cons s r ih =>
      intro n h
      refine ih _ ?_
      show (if endsI text s = true then max n s.length else n) ≤ _
      split
      · rename_i c
        unfold endsI at c
        rw [Bool.and_eq_true] at c
        have := of_decide_eq_true c.1
        omega
      · exact h
  exact this stops 0 (Nat.zero_le _)
end AL
namespace AL
open PySem L2
theorem goI_succ {n : NetM} {e : Option Nat} {a : AskM} {b t : List Nat} {k : Nat} (h : goI n e a b k = (t, none)) : goI n e a b (k + 1) = withI e a t (choiceI a.rule a.tape (wtsI n (a.prompt ++ t)) t) := by
  simp only [goI, h]
theorem goI_stay {n : NetM} {e : Option Nat} {a : AskM} {b t : List Nat} {w : Str} {k : Nat} (h : goI n e a b k = (t, some w)) : ∀ j : Nat, goI n e a b (k + j) = (t, some w)
  | 0 => h
  | j + 1 => by
    show goI n e a b (k + j + 1) = _
    simp only [goI, goI_stay h j]
theorem goI_uniq {n : NetM} {e : Option Nat} {a : AskM} {b t t' : List Nat} {w w' : Str} {k k' : Nat} (h : goI n e a b k = (t, some w)) (h' : goI n e a b k' = (t', some w')) : t = t' ∧ w = w' := by
  have e1 := goI_stay h k'
  have e2 := goI_stay h' k
  rw [Nat.add_comm] at e2
  rw [e1] at e2
  cases e2; exact ⟨rfl, rfl⟩
theorem withI_none {e : Option Nat} {a : AskM} {t : List Nat} {ch : Option Nat} (h : (withI e a t ch).2 = none) : ∃ c, ch = some c ∧ (withI e a t ch).1 = t ++ [c] ∧ t.length + 1 < a.most := by
  cases ch with
  | none => simp [withI] at h
  | some c =>
    refine ⟨c, rfl, ?_⟩
    simp only [withI] at h ⊢
    split at h
    · cases h
    · split at h
      · cases h
      · split at h
        · cases h
        · rename_i h1 h2 h3
          rw [if_neg h1, if_neg h2, if_neg h3]
          refine ⟨rfl, ?_⟩
          rw [List.length_append, List.length_singleton] at h3; omega
theorem wts_get {n : NetM} {ls : List Nat} (h : 0 < ls.length) : (rowsI n ls)[ls.length - 1]? = some (rowI n (rowsI n (ls.take (ls.length - 1))) (ls.getD (ls.length - 1) 0)) := by
  rw [rows_get (List.getElem?_eq_getElem (show ls.length - 1 < ls.length by omega)), getD_lt (by omega)]
theorem wtsI_len {n : NetM} {ls : List Nat} (h : 0 < ls.length) : (wtsI n ls).length = n.out.length := rows_wts (ls := ls) _ (List.mem_of_getElem? (wts_get h))
theorem wtsI_bd {n : NetM} (hw : WfN n) {ls : List Nat} : ∀ x ∈ wtsI n ls, 1 ≤ x ∧ x ≤ n.p := wts_bd hw _ _
end AL
namespace AL
open PySem L2
theorem cb_tupS {c : Ct} {A : AS} {Q : QE} {d : D} {ns : List Int} (h : Seq d ns) (q : Q A (.val (.tup (ns.map .int)))) : CbD c (rTupP c.K) [.val d] A Q := by
  rcases h with rfl | rfl
  · exact cb_tupL rfl q
  · exact cb_tupT rfl q
end AL
namespace AL
open PySem L2
/-! ### the laws' own rules, stops, tapes -/
def dRuT : Option RuleM → D
  | none => .non
  | some r => .tup [.int (r.start : Nat), .tup (r.steps.map dStep)]
def C__law_after : Contract := fun ds O R _ => ∃ r L d, ∃ text : List Nat, ds = [dRuT (some r), d] ∧ Seq d (text.map Int.ofNat) ∧ WfRu L r ∧ (∀ l ∈ text, l < L) ∧ R O (dOp (afterI r text))
def C__law_counted : Contract := fun ds O R _ => ∃ ru L d ws t, ∃ text : List Nat, ds = [d, dRuT ru, t] ∧ Seq d ws ∧ Seq t (text.map Int.ofNat) ∧ (∀ r, ru = some r → WfRu L r) ∧ ws.length ≤ L ∧ L ≤ 100 ∧ (∀ l ∈ text, l < L) ∧ R O (.lst ((countedI ru ws text).map .int))
def C__law_choice : Contract := fun ds O R _ => ∃ ru tape L d ws t, ∃ text : List Nat, ds = [d, dRuT ru, .tup (tape.map .int), t] ∧ Seq d ws ∧ Seq t (text.map Int.ofNat) ∧ (∀ r, ru = some r → WfRu L r) ∧ 0 < ws.length ∧ ws.length ≤ L ∧ L ≤ 100 ∧ (∀ x ∈ ws, 0 ≤ x) ∧ (∀ l ∈ text, l < L) ∧ text.length ≤ 1000 ∧ tape.length ≤ 100 ∧ ((∀ c, choiceI ru tape ws text = some c → c < ws.length) → R O (dOp (choiceI ru tape ws text)))
def C__law_rule : Contract := fun ds O R _ => ∃ ns : List Int, ∃ k L : Nat, ds = [.lst (ns.map .int), .int (k : Nat), .int (L : Nat)] ∧ AllN ns ∧ 0 < L ∧ L ≤ 12 ∧ k + 3 + 6 * L ≤ ns.length ∧ ns.length ≤ 1000 ∧ ∀ ru, (∀ r, ru = some r → WfRu L r) → R O (dRuT ru)
def C__law_stops : Contract := fun ds O R _ => ∃ ns : List Int, ∃ k L : Nat, ds = [.lst (ns.map .int), .int (k : Nat), .int (L : Nat)] ∧ AllN ns ∧ 0 < L ∧ k + 30 ≤ ns.length ∧ ns.length ≤ 1000 ∧ ∀ stops : List (List Nat), stops.length ≤ 4 → (∀ s ∈ stops, s.length ≤ 4 ∧ ∀ l ∈ s, l < L) → R O (.tup (stops.map dTx))
def C__law_tape : Contract := fun ds O R _ => ∃ ns : List Int, ∃ k : Nat, ds = [.lst (ns.map .int), .int (k : Nat)] ∧ AllN ns ∧ k + 30 ≤ ns.length ∧ ns.length ≤ 1000 ∧ ∀ tape : List Int, tape.length ≤ 12 → R O (.tup (tape.map .int))
def C__law_ends : Contract := fun ds O R _ => ∃ d, ∃ text stop : List Nat, ds = [d, dTx stop] ∧ Seq d (text.map Int.ofNat) ∧ R O (.bl (endsI text stop))
def C__law_stopped : Contract := fun ds O R _ => ∃ d, ∃ text : List Nat, ∃ stops : List (List Nat), ds = [d, .tup (stops.map dTx)] ∧ Seq d (text.map Int.ofNat) ∧ R O (.int (stopI stops text : Nat))
def dEnd : List Nat × Option Str → D
  | (t, some w) => .tup [dTx t, .str w]
  | (_, none) => .non
def C__law_ended : Contract := fun ds O R _ => ∃ e a, ∃ text : List Nat, ∃ ch : Option Nat, ds = [dOp ch, dOp e, .lst (dL text), .int (a.most : Nat), .tup (a.stops.map dTx)] ∧ text.length < a.most ∧ a.most ≤ 1000 ∧ R O (dEnd (withI e a text ch))
def dAskT (a : AskM) : D := .tup [dTx a.prompt, .int (a.most : Nat), .tup (a.stops.map dTx), .tup (a.tape.map .int), dRuT a.rule]
theorem len__law_after : ∀ ds O R X, C__law_after ds O R X → ds.length = 2 := fun _ _ _ _ h => by obtain ⟨_, _, _, _, rfl, _⟩ := h; rfl
theorem len__law_counted : ∀ ds O R X, C__law_counted ds O R X → ds.length = 3 := fun _ _ _ _ h => by obtain ⟨_, _, _, _, _, _, rfl, _⟩ := h; rfl
theorem len__law_choice : ∀ ds O R X, C__law_choice ds O R X → ds.length = 4 := fun _ _ _ _ h => by obtain ⟨_, _, _, _, _, _, _, rfl, _⟩ := h; rfl
theorem len__law_rule : ∀ ds O R X, C__law_rule ds O R X → ds.length = 3 := fun _ _ _ _ h => by obtain ⟨_, _, _, rfl, _⟩ := h; rfl
theorem len__law_stops : ∀ ds O R X, C__law_stops ds O R X → ds.length = 3 := fun _ _ _ _ h => by obtain ⟨_, _, _, rfl, _⟩ := h; rfl
theorem len__law_tape : ∀ ds O R X, C__law_tape ds O R X → ds.length = 2 := fun _ _ _ _ h => by obtain ⟨_, _, rfl, _⟩ := h; rfl
theorem len__law_ends : ∀ ds O R X, C__law_ends ds O R X → ds.length = 2 := fun _ _ _ _ h => by obtain ⟨_, _, _, rfl, _⟩ := h; rfl
theorem len__law_stopped : ∀ ds O R X, C__law_stopped ds O R X → ds.length = 2 := fun _ _ _ _ h => by obtain ⟨_, _, _, rfl, _⟩ := h; rfl
theorem len__law_ended : ∀ ds O R X, C__law_ended ds O R X → ds.length = 5 := fun _ _ _ _ h => by obtain ⟨_, _, _, _, rfl, _⟩ := h; rfl
/-- a place of a mixed row goes over from the one row to the other -/
theorem mix_next {cs ws : List Int} {i : Nat} {c : Int} (hl : cs.length = ws.length) (hi : cs[i]? = some c) : (cs.take i ++ ws.drop i).set i c = cs.take (i + 1) ++ ws.drop (i + 1) := by
  have h := (List.getElem?_eq_some_iff.mp hi).1
  have hw : i < ws.length := by omega
  have ht : (cs.take i).length = i := by rw [List.length_take]; omega
  rw [List.set_append_right _ _ (by omega), ht, Nat.sub_self, List.drop_eq_getElem_cons hw, List.set_cons_zero, take_succ hi, List.append_assoc]; rfl
theorem mix_same {cs ws : List Int} {i : Nat} {c : Int} (hi : cs[i]? = some c) (hw : ws[i]? = some c) : cs.take i ++ ws.drop i = cs.take (i + 1) ++ ws.drop (i + 1) := by
  rw [take_succ hi, drop_at hw, List.append_assoc]; rfl
theorem counted_at {r : RuleM} {ws : List Int} {text : List Nat} {i : Nat} (hi : i < ws.length) : (countedI (some r) ws text)[i]? = some (if letsI r text i then ws.getD i 0 else 0) := by
  show ((List.range ws.length).map _)[i]? = _
  rw [List.getElem?_map, List.getElem?_range hi]; rfl
end AL
namespace AL
open PySem L2
/-- a slice from a place on -/
theorem we_slF {c : Ct} {A : AS} {Q : QE} {ls : List Nat} {d : D} {i : Nat} {te : TE} (hi : A.s[i]? = some (some (.val d))) (hd : Seq d (ls.map Int.ofNat)) (h : WE c te A fun A1 r => ∃ m : Nat, r = .val (.int (m : Nat)) ∧ m ≤ ls.length ∧ ∀ d', Seq d' ((ls.drop m).map Int.ofNat) → Q A1 (.val d')) : WE c (tSl (rSlAA c.K) (tVar i) (tPart te) tNoPart) A Q := by
  have e : ∀ m : Nat, m ≤ ls.length → cutD ((ls.map Int.ofNat).map D.int) (some (m : Int)) none = ((ls.drop m).map Int.ofNat).map D.int := fun m hm => by rw [cutD_from (by rw [List.length_map]; exact hm), ← List.map_drop]
  rcases hd with rfl | rfl
  · refine we_slL (we_var hi (wo_some (h.imp fun A1 r z => ?_)))
    obtain ⟨m, rfl, hm, q⟩ := z
    exact ⟨m, rfl, wo_none ⟨_, rfl, rfl, trivial, by rw [e m hm]; exact q _ (.inl rfl)⟩⟩
  · refine we_slT (we_var hi (wo_some (h.imp fun A1 r z => ?_)))
    obtain ⟨m, rfl, hm, q⟩ := z
    exact ⟨m, rfl, wo_none ⟨_, rfl, by rw [e m hm]; exact q _ (.inr rfl)⟩⟩
end AL
namespace AL
open PySem L2
theorem withI_len {e : Option Nat} {a : AskM} {t : List Nat} {ch : Option Nat} (h : t.length < a.most) : (withI e a t ch).1.length ≤ a.most := by
  cases ch with
  | none => show t.length ≤ _; omega
  | some c =>
    have hl : (t ++ [c]).length = t.length + 1 := by rw [List.length_append]; rfl
    simp only [withI]
    split
    · show t.length ≤ _; omega
    · split
      · show (List.take _ _).length ≤ _; rw [List.length_take]; omega
      · split
        · show (t ++ [c]).length ≤ _; omega
        · show (t ++ [c]).length ≤ _; omega
theorem goI_len {n : NetM} {e : Option Nat} {a : AskM} {b : List Nat} (hb : b.length < a.most) : ∀ k : Nat, (goI n e a b k).1.length ≤ a.most ∧ ((goI n e a b k).2 = none → (goI n e a b k).1.length < a.most)
  | 0 => ⟨Nat.le_of_lt hb, fun _ => hb⟩
  | k + 1 => by
    have ih := goI_len (n := n) (e := e) hb k
    cases h : goI n e a b k with
    | mk t w =>
    rw [h] at ih
    cases w with
    | some w => rw [show goI n e a b (k + 1) = (t, some w) from goI_stay h 1]; exact ⟨ih.1, fun z => nomatch z⟩
    | none =>
      rw [goI_succ h]
      refine ⟨withI_len (ih.2 rfl), fun z => ?_⟩
      obtain ⟨c, _, e1, e2⟩ := withI_none z
      rw [e1, List.length_append]; exact e2
theorem noLstO_gone {O : List Cell} (h : NoLstO O) (j : Nat) : NoLstO (O ++ List.replicate j .gone) := fun x hx => by
  rcases List.mem_append.mp hx with z | z
  · exact h x z
  · rw [List.eq_of_mem_replicate z]; exact .gone
theorem sq_empty {K : PySem.W.Frag} {a : Addr} (h : PTup K (fun _ => none) a []) (F : Hp) (m : List Addr) : Rep K F m (.ref a) (.tup []) := by
  refine .tup ?_ .nil
  rcases h with ⟨_, h⟩ | h
  · cases h
  · exact .inr h
end AL

namespace AL
open PySem L2
/-! ### cells that change: dicts, lists, fields -/
section
variable {κ : Type} [DecidableEq κ]
def valD (kvs : List (κ × D)) (k : κ) : Option D := (kvs.find? fun kv => decide (kv.1 = k)).map (·.2)
def putKD (kvs : List (κ × D)) (k : κ) (v : D) : List (κ × D) :=
  if (kvs.any fun kv => decide (kv.1 = k)) = true then kvs.map fun kv => if kv.1 = k then (kv.1, v) else kv else kvs ++ [(k, v)]
variable {K : PySem.W.Frag} {F : Hp} {m : List Addr}
theorem RepK.val : ∀ {kv : List (κ × V)} {kd : List (κ × D)} (k : κ), RepK K F m kv kd → (∀ d, valD kd k = some d → ∃ v, valV kv k = some v ∧ Rep K F m v d) ∧ (valD kd k = none → valV kv k = none)
  | _, _, k, .nil => ⟨fun d h => by simp [valD] at h, fun _ => rfl⟩
  | _, _, k, .cons (k := k') (v := v) (d := d) a r => by
    by_cases e : k' = k
    · have e1 : ∀ r : List (κ × D), valD ((k', d) :: r) k = some d := fun r => by simp [valD, List.find?_cons, e]
      exact ⟨fun d' h => by rw [e1] at h; cases h; exact ⟨v, valV_pos e, a⟩, fun h => by rw [e1] at h; cases h⟩
    · have e1 : ∀ r : List (κ × D), valD ((k', d) :: r) k = valD r k := fun r => by simp [valD, List.find?_cons, e]
      have ih := RepK.val k r
      exact ⟨fun d' h => by rw [e1] at h; rw [valV_neg e]; exact ih.1 d' h, fun h => by rw [e1] at h; rw [valV_neg e]; exact ih.2 h⟩
theorem RepK.any : ∀ {kv : List (κ × V)} {kd : List (κ × D)} (k : κ), RepK K F m kv kd → (kv.any fun kv => decide (kv.1 = k)) = (kd.any fun kv => decide (kv.1 = k))
  | _, _, _, .nil => rfl
  | _, _, k, .cons _ r => by rw [List.any_cons, List.any_cons, RepK.any k r]
theorem RepK.repl {y : V} {d : D} (x : Rep K F m y d) : ∀ {kv : List (κ × V)} {kd : List (κ × D)} (k : κ), RepK K F m kv kd → RepK K F m (kv.map fun kv => if kv.1 = k then (kv.1, y) else kv) (kd.map fun kv => if kv.1 = k then (kv.1, d) else kv)
  | _, _, _, .nil => .nil
  | _, _, k, .cons (k := k') a r => by
    rw [List.map_cons, List.map_cons]
    by_cases e : k' = k
    · simp only [e, if_true]; exact .cons x (RepK.repl x k r)
    · simp only [e, if_false]; exact .cons a (RepK.repl x k r)
theorem RepK.snoc {y : V} {d : D} (x : Rep K F m y d) : ∀ {kv : List (κ × V)} {kd : List (κ × D)} (k : κ), RepK K F m kv kd → RepK K F m (kv ++ [(k, y)]) (kd ++ [(k, d)])
  | _, _, _, .nil => .cons x .nil
  | _, _, k, .cons a r => .cons a (RepK.snoc x k r)
theorem RepK.put {y : V} {d : D} (x : Rep K F m y d) {kv : List (κ × V)} {kd : List (κ × D)} (k : κ) (r : RepK K F m kv kd) : RepK K F m (putK kv k y) (putKD kd k d) := by
  unfold putK putKD
  rw [r.any k]
  split
  · exact r.repl x k
  · exact r.snoc x k
theorem RepK.len : ∀ {kv : List (κ × V)} {kd : List (κ × D)}, RepK K F m kv kd → kv.length = kd.length
  | _, _, .nil => rfl
  | _, _, .cons _ r => by rw [List.length_cons, List.length_cons, RepK.len r]
end
def keyD : D → Option Key
  | .int i => some (.inl i)
  | .str x => some (.inr x)
  | _ => none
theorem keyD_ok {K : PySem.W.Frag} {F : Hp} {m : List Addr} {v : V} {d : D} {k : Key} (R : Rep K F m v d) (h : keyD d = some k) : v = kV k := by
  cases R <;> simp only [keyD, Option.some.injEq, reduceCtorEq] at h <;> subst h <;> rfl
/-- an object that is nobody's becomes a cell -/
theorem Sim.addCell {K : PySem.W.Frag} {F G : Hp} {m : List Addr} {A : AS} {σ : St} {H : Hp} {p : Addr} {c : Cell} (S1 : Sim K F G m A σ H) (f : F p = none) (g : G p = none) (mm : ∀ n : Nat, m[n]? ≠ some p) (no : ¬ IsOwn A.s σ p) (he : ∃ o, H p = some o)
    (lc : c.live) (hx : CellAt K F (m ++ [p]) H p c) : Sim K F G (m ++ [p]) ⟨A.s, A.o ++ [c]⟩ σ H := by
  have pr : Pre m (m ++ [p]) := Pre.app
  refine ⟨⟨S1.h.exF, S1.h.exG, S1.h.dj, by rw [List.length_append, List.length_append, S1.h.len]; rfl, fun i a d z1 z2 l => ?_, fun i j a z1 z2 => ?_, fun i a z => ?_, fun i a z => ?_, fun i a z1 z2 => ?_⟩, S1.s.go (Evl.Ex.refl _) pr fun i x a z1 z2 => ?_⟩
  · by_cases z : i < m.length
    · rw [List.getElem?_append_left z] at z1
      rw [List.getElem?_append_left (by rw [← S1.h.len]; exact z)] at z2
      obtain ⟨x1, x2, x3⟩ := S1.h.cell i a d z1 z2 l
      exact ⟨x1, x2, x3.mono (fun _ _ h => h) pr rfl⟩
    · have hl := (List.getElem?_eq_some_iff.mp z1).1
      rw [List.length_append] at hl
      have ei : i = m.length := by simp only [List.length_cons, List.length_nil] at hl; omega
      subst ei
      rw [List.getElem?_append_right (Nat.le_refl _), Nat.sub_self] at z1
      rw [List.getElem?_append_right (by rw [S1.h.len]; exact Nat.le_refl _), S1.h.len, Nat.sub_self] at z2
      cases z1; cases z2
      exact ⟨f, g, hx⟩
  · by_cases z : i < m.length
    · rw [List.getElem?_append_left z] at z1
      by_cases y : j < m.length
      · rw [List.getElem?_append_left y] at z2; exact S1.h.inj i j a z1 z2
      · have hl := (List.getElem?_eq_some_iff.mp z2).1
        rw [List.length_append] at hl
        have ej : j = m.length := by simp only [List.length_cons, List.length_nil] at hl; omega
        subst ej
        rw [List.getElem?_append_right (Nat.le_refl _), Nat.sub_self] at z2
        cases z2
        exact absurd z1 (mm i)
    · have hl := (List.getElem?_eq_some_iff.mp z1).1
      rw [List.length_append] at hl
      have ei : i = m.length := by simp only [List.length_cons, List.length_nil] at hl; omega
      subst ei
      rw [List.getElem?_append_right (Nat.le_refl _), Nat.sub_self] at z1
      cases z1
      by_cases y : j < m.length
      · rw [List.getElem?_append_left y] at z2; exact absurd z2 (mm j)
      · have hl := (List.getElem?_eq_some_iff.mp z2).1
        rw [List.length_append] at hl
        simp only [List.length_cons, List.length_nil] at hl; omega
  · by_cases y : i < m.length
    · rw [List.getElem?_append_left y] at z; exact S1.h.here i a z
    · have hl := (List.getElem?_eq_some_iff.mp z).1
      rw [List.length_append] at hl
      have ei : i = m.length := by simp only [List.length_cons, List.length_nil] at hl; omega
      subst ei
      rw [List.getElem?_append_right (Nat.le_refl _), Nat.sub_self] at z
      cases z; exact he
  · by_cases y : i < m.length
    · rw [List.getElem?_append_left y] at z; exact S1.h.mG i a z
    · have hl := (List.getElem?_eq_some_iff.mp z).1
      rw [List.length_append] at hl
      have ei : i = m.length := by simp only [List.length_cons, List.length_nil] at hl; omega
      subst ei
      rw [List.getElem?_append_right (Nat.le_refl _), Nat.sub_self] at z
      cases z; exact g
  · by_cases y : i < m.length
    · rw [List.getElem?_append_left y] at z1
      rw [List.getElem?_append_left (by rw [← S1.h.len]; exact y)] at z2
      exact S1.h.gn i a z1 z2
    · have hl := (List.getElem?_eq_some_iff.mp z1).1
      rw [List.length_append] at hl
      have ei : i = m.length := by simp only [List.length_cons, List.length_nil] at hl; omega
      subst ei
      rw [List.getElem?_append_right (by rw [S1.h.len]; exact Nat.le_refl _), S1.h.len, Nat.sub_self] at z2
      cases z2; exact lc.elim
  · obtain ⟨b, q, l, f', g', mm', cc⟩ := S1.s.ownAt z1
    rw [z2] at q; cases q
    have np : a ≠ p := fun z => no ⟨i, x, z1, z ▸ z2⟩
    refine ⟨f', fun n e => ?_, rfl⟩
    by_cases y : n < m.length
    · rw [List.getElem?_append_left y] at e; exact mm' n e
    · have hl := (List.getElem?_eq_some_iff.mp e).1
      rw [List.length_append] at hl
      have ei : n = m.length := by simp only [List.length_cons, List.length_nil] at hl; omega
      subst ei
      rw [List.getElem?_append_right (Nat.le_refl _), Nat.sub_self] at e
      cases e; exact np rfl
/-- the state with a cell changed -/
theorem Sim.cset {K : PySem.W.Frag} {F G : Hp} {m : List Addr} {A : AS} {σ : St} {H : Hp} {n : Nat} {p : Addr} {o : HO} {c c' : Cell} (S : Sim K F G m A σ H) (hm : m[n]? = some p) (hc : A.o[n]? = some c) (l : c.live) (l' : c'.live) (hx : CellAt K F m (upd H p o) p c') :
    Sim K F G m ⟨A.s, A.o.set n c'⟩ σ (upd H p o) := ⟨S.h.cset hm hc l l' hx, S.s.go (Evl.Ex.refl _) (Pre.refl _) fun i z a y1 y2 => by
    obtain ⟨b, qb, l, f', g', mm, cc⟩ := S.s.ownAt y1
    rw [y2] at qb; cases qb
    exact ⟨f', mm, upd_ne fun z => mm n (by rw [z]; exact hm)⟩⟩
section
variable {c : Ct} {A : AS} {te ta tb tl td ty tv : TE} {t u tt : TT} {x y : RV} {Q : QE} {nx bk ct : AS → Prop} {rt : List Cell → D → Prop}
theorem ptr_at {K : PySem.W.Frag} {F G : Hp} {m : List Addr} {A : AS} {σ : St} {H : Hp} {v : V} {n : Nat} {ce : Cell} (S : Sim K F G m A σ H) (R : Rep K F m v (.ptr n)) (hc : A.o[n]? = some ce) (l : ce.live) : ∃ a, v = .ref a ∧ m[n]? = some a ∧ CellAt K F m H a ce := by
  cases R with
  | ptr em => exact ⟨_, rfl, em, (S.h.cell n _ _ em hc l).2.2⟩
/-- d[k] -/
theorem we_dget (h : WE c td A fun A1 x => WE c ty A1 fun A2 y => ∃ n kvs dk k d, x = .val (.ptr n) ∧ A2.o[n]? = some (.dK kvs) ∧ y = .val dk ∧ keyD dk = some k ∧ valD kvs k = some d ∧ Q A2 (.val d)) : WE c (tDGet td ty) A Q := fun F G m σ H S E Qc kc =>
  h F G m σ H S E _ fun F1 m1 A1 v H1 x e1 p1 S1 R1 q1 => q1 F1 G m1 σ H1 S1 (E.mono e1 p1) _ fun F2 m2 A2 w H2 y e2 p2 S2 R2 ⟨n, kvs, dk, k, d, ex, hc, ey, hk, hv, q⟩ => by
    subst ex ey
    have R1' : Rep c.K F2 m2 v (.ptr n) := Rep.mono e2 p2 R1
    obtain ⟨a, rfl, hm, kv, ha, rk⟩ := ptr_at S2 R1' hc trivial
    have ek := keyD_ok (show Rep c.K F2 m2 w dk from R2) hk
    subst ek
    obtain ⟨v, hvv, rv⟩ := (rk.val k).1 d hv
    exact ⟨a, v, rfl, .inl ⟨kv, k, .inl ha, rfl, hvv.symm⟩, kc F2 m2 A2 v H2 (.val d) (e1.trans e2) (p1.trans p2) S2 rv q⟩
/-- k in d -/
theorem we_din (h : WE c ty A fun A1 y => WE c td A1 fun A2 x => ∃ n kvs dk k, x = .val (.ptr n) ∧ A2.o[n]? = some (.dK kvs) ∧ y = .val dk ∧ keyD dk = some k ∧ Q A2 (.val (.bl (valD kvs k).isSome))) : WE c (tDIn ty td) A Q := fun F G m σ H S E Qc kc =>
  h F G m σ H S E _ fun F1 m1 A1 w H1 y e1 p1 S1 R1 q1 => q1 F1 G m1 σ H1 S1 (E.mono e1 p1) _ fun F2 m2 A2 v H2 x e2 p2 S2 R2 ⟨n, kvs, dk, k, ex, hc, ey, hk, q⟩ => by
    subst ex ey
    obtain ⟨a, rfl, hm, kv, ha, rk⟩ := ptr_at S2 R2 hc trivial
    have ek := keyD_ok (show Rep c.K F1 m1 w dk from R1) hk
    subst ek
    refine ⟨a, valV kv k, rfl, .inl ⟨kv, k, .inl ha, rfl, rfl⟩, kc F2 m2 A2 _ H2 (.val (.bl (valD kvs k).isSome)) (e1.trans e2) (p1.trans p2) S2 ?_ q⟩
    have : (valV kv k).isSome = (valD kvs k).isSome := by
      cases z : valD kvs k with
      | none => rw [(rk.val k).2 z]; rfl
      | some d => obtain ⟨v, hv, _⟩ := (rk.val k).1 d z; rw [hv]; rfl
    rw [this]; exact .bl _
theorem we_dnin (h : WE c ty A fun A1 y => WE c td A1 fun A2 x => ∃ n kvs dk k, x = .val (.ptr n) ∧ A2.o[n]? = some (.dK kvs) ∧ y = .val dk ∧ keyD dk = some k ∧ Q A2 (.val (.bl (!(valD kvs k).isSome)))) : WE c (tDNotIn ty td) A Q := fun F G m σ H S E Qc kc =>
  h F G m σ H S E _ fun F1 m1 A1 w H1 y e1 p1 S1 R1 q1 => q1 F1 G m1 σ H1 S1 (E.mono e1 p1) _ fun F2 m2 A2 v H2 x e2 p2 S2 R2 ⟨n, kvs, dk, k, ex, hc, ey, hk, q⟩ => by
    subst ex ey
    obtain ⟨a, rfl, hm, kv, ha, rk⟩ := ptr_at S2 R2 hc trivial
    have ek := keyD_ok (show Rep c.K F1 m1 w dk from R1) hk
    subst ek
    refine ⟨a, valV kv k, rfl, .inl ⟨kv, k, .inl ha, rfl, rfl⟩, kc F2 m2 A2 _ H2 (.val (.bl (!(valD kvs k).isSome))) (e1.trans e2) (p1.trans p2) S2 ?_ q⟩
    have : (valV kv k).isSome = (valD kvs k).isSome := by
      cases z : valD kvs k with
      | none => rw [(rk.val k).2 z]; rfl
      | some d => obtain ⟨v, hv, _⟩ := (rk.val k).1 d z; rw [hv]; rfl
    rw [this]; exact .bl _
/-- d[k] = e -/
theorem vs_dput (h : WE c tv A fun A0 r => Frz A0 r fun A1 d => WE c td A1 fun A2 x => WE c ty A2 fun A3 y => ∃ n kvs dk k, x = .val (.ptr n) ∧ A3.o[n]? = some (.dK kvs) ∧ y = .val dk ∧ keyD dk = some k ∧ kvs.length < 100000 ∧ nx ⟨A3.s, A3.o.set n (.dK (putKD kvs k d))⟩) :
    WS c (sDPut td ty tv) A ⟨nx, rt, bk, ct⟩ := fun F G m σ H S E Dc kc => (WE.frz h) F G m σ H S E _ fun F0 m0 A0 v0 H0 r e0 p0 S0 R0 ⟨d, er, q0⟩ => by
  subst er
  refine q0 F0 G m0 σ H0 S0 (E.mono e0 p0) _ fun F1 m1 A1 v H1 x e1 p1 S1 R1 q1 => q1 F1 G m1 σ H1 S1 (E.mono (e0.trans e1) (p0.trans p1)) _ fun F2 m2 A2 w H2 y e2 p2 S2 R2 ⟨n, kvs, dk, k, ex, hc, ey, hk, hl, q⟩ => ?_
  subst ex ey
  have R1' : Rep c.K F2 m2 v (.ptr n) := Rep.mono e2 p2 R1
  have R0' : Rep c.K F2 m2 v0 d := Rep.mono (e1.trans e2) (p1.trans p2) R0
  obtain ⟨a, rfl, hm, kv, ha, rk⟩ := ptr_at S2 R1' hc trivial
  have ek := keyD_ok (show Rep c.K F2 m2 w dk from R2) hk
  subst ek
  refine ⟨a, _, rfl, .inl ⟨kv, k, ha, rfl, Nat.lt_of_lt_of_le (by rw [rk.len]; exact hl) (by decide), rfl⟩, kc.nx F2 m2 ⟨A2.s, A2.o.set n (.dK (putKD kvs k d))⟩ σ _ ((e0.trans e1).trans e2) ((p0.trans p1).trans p2) (S2.cset (c' := .dK (putKD kvs k d)) hm hc trivial trivial ⟨_, upd_same, rk.put R0' k⟩) q⟩
/-- {} -/
theorem we_dnewK (q : Q ⟨A.s, A.o ++ [.dK []]⟩ (.val (.ptr A.o.length))) : WE c tDNewK A Q := fun F G m σ H S E Qc kc p hp => by
  obtain ⟨f, g, mm⟩ := S.h.fresh hp
  exact kc F (m ++ [p]) ⟨A.s, A.o ++ [.dK []]⟩ (.ref p) _ (.val (.ptr A.o.length)) (Evl.Ex.refl _) Pre.app ((S.new (o := .dK []) hp).addCell (c := .dK []) f g mm (S.notOwn hp) ⟨_, upd_same⟩ trivial ⟨[], upd_same, .nil⟩) (show Rep c.K _ _ _ _ from .ptr (by rw [← S.h.len, List.getElem?_append_right (Nat.le_refl _), Nat.sub_self]; rfl)) q
/-- the pairs of a display, by their texts' keys -/
def WPs (c : Ct) : List (TE × TE) → AS → (AS → List (Key × D) → Prop) → Prop
  | [], A, Q => Q A []
  | (tk, tv) :: r, A, Q => WE c tk A fun A1 x => ∃ dk k, x = .val dk ∧ keyD dk = some k ∧ WE c tv A1 fun A2 y => Frz A2 y fun A3 d => WPs c r A3 fun A4 kvs => Q A4 ((k, d) :: kvs)
theorem wps_ok : ∀ (trs : List (TE × TE)) {A : AS} {Q : AS → List (Key × D) → Prop}, WPs c trs A Q → ∀ F G m σ H, Sim c.K F G m A σ H → EOk c F G m → ∀ Qc : List (V × V) → Hp → Prop,
    (∀ F' m' A' kv kvs H', Ex F F' → Pre m m' → Sim c.K F' G m' A' σ H' → RepK c.K F' m' kv kvs → Q A' kvs → Qc (kv.map fun kv => (kV kv.1, kv.2)) H') → tPairs trs σ H Qc
  | [], A, Q, h, F, G, m, σ, H, S, E, Qc, kc => kc F m A [] [] H (Evl.Ex.refl _) (Pre.refl _) S .nil h
  | (tk, tv) :: r, A, Q, h, F, G, m, σ, H, S, E, Qc, kc => h F G m σ H S E _ fun F1 m1 A1 v H1 x e1 p1 S1 R1 ⟨dk, k, ex, hk, q1⟩ => by
    subst ex
    have ek := keyD_ok (show Rep c.K F1 m1 v dk from R1) hk
    subst ek
    refine (WE.frz q1) F1 G m1 σ H1 S1 (E.mono e1 p1) _ fun F2 m2 A2 w H2 y e2 p2 S2 R2 ⟨d, ey, q2⟩ => ?_
    subst ey
    refine wps_ok r q2 F2 G m2 σ H2 S2 (E.mono (e1.trans e2) (p1.trans p2)) _ fun F3 m3 A3 kv kvs H3 e3 p3 S3 R3 q3 => ?_
    exact kc F3 m3 A3 ((k, w) :: kv) ((k, d) :: kvs) H3 ((e1.trans e2).trans e3) ((p1.trans p2).trans p3) S3 (.cons (Rep.mono e3 p3 R2) R3) q3
def mergeKD (kvs more : List (Key × D)) : List (Key × D) := more.foldl (fun acc kv => putKD acc kv.1 kv.2) kvs
theorem RepK.merge {K : PySem.W.Frag} {F : Hp} {m : List Addr} : ∀ {more : List (Key × V)} {mored : List (Key × D)} {kv : List (Key × V)} {kd : List (Key × D)}, RepK K F m more mored → RepK K F m kv kd → RepK K F m (mergeK kv more) (mergeKD kd mored)
  | _, _, _, _, .nil, h => h
  | _, _, _, _, .cons (k := k) (v := v) (d := d) (vs := vs) (ds := ds) a r, h => show RepK K F m (mergeK (putK _ k v) vs) (mergeKD (putKD _ k d) ds) from RepK.merge r (h.put a _)
/-- {k: v, ..} -/
theorem we_disp {trs : List (TE × TE)} (h : WPs c trs A fun A1 kvs => kvs.length ≤ 15 ∧ Q ⟨A1.s, A1.o ++ [.dK (mergeKD [] kvs)]⟩ (.val (.ptr A1.o.length))) : WE c (tDisp trs) A Q := fun F G m σ H S E Qc kc p hp => by
  have gp : G p = none := (S.h.fresh hp).2.1
  have sub : ∀ (o : HO) a u, G a = some u → upd G p o a = some u := fun o a u e => by rw [upd_ne (ne_of_none e gp)]; exact e
  refine wps_ok trs h F (upd G p (.dK [])) m σ _ (S.addG hp) (E.weakG (sub _)) _ fun F1 m1 A1 kv kvs H1 e1 p1 S1 R1 ⟨hl, q⟩ => ?_
  have hH : H1 p = some (.dK []) := S1.h.exG p _ upd_same
  have fp : F1 p = none := by
    cases y : F1 p with
    | none => rfl
    | some u => have z := S1.h.dj p u y; rw [upd_same] at z; cases z
  have mp : ∀ n : Nat, m1[n]? ≠ some p := fun n e => by have z := S1.h.mG n p e; rw [upd_same] at z; cases z
  have np : ¬ IsOwn A1.s σ p := fun o => by have z := (S1.s.isOwn o).2.1; rw [upd_same] at z; cases z
  refine ⟨hH, kv, rfl, by rw [R1.len]; exact hl, ?_⟩
  have S2 : Sim c.K F1 G m1 A1 σ (upd H1 p (.dK (mergeK [] kv))) := (S1.setG (o' := .dK (mergeK [] kv))).weakG (sub _)
  exact kc F1 (m1 ++ [p]) ⟨A1.s, A1.o ++ [.dK (mergeKD [] kvs)]⟩ (.ref p) _ (.val (.ptr A1.o.length)) e1 (p1.trans Pre.app) (S2.addCell (c := .dK (mergeKD [] kvs)) fp gp mp np ⟨_, upd_same⟩ trivial ⟨_, upd_same, (RepK.merge (R1.mono (Evl.Ex.refl _) Pre.app) .nil)⟩)
    (show Rep c.K _ _ _ _ from .ptr (by rw [← S1.h.len, List.getElem?_append_right (Nat.le_refl _), Nat.sub_self]; rfl)) q
/-! ### lists that are cells -/
/-- xs[i] = e -/
theorem vs_setP (h : WE c te A fun A0 r => Frz A0 r fun A1 d => WE c tl A1 fun A2 x => WE c tb A2 fun A3 y => ∃ n ds, ∃ i : Int, ∃ j : Nat, x = .val (.ptr n) ∧ A3.o[n]? = some (.lst ds) ∧ y = .val (.int i) ∧ ixN ds.length i = some j ∧ nx ⟨A3.s, A3.o.set n (.lst (ds.set j d))⟩) :
    WS c (tAsg te (gSub tl tb rSetL)) A ⟨nx, rt, bk, ct⟩ := fun F G m σ H S E Dc kc => (WE.frz h) F G m σ H S E _ fun F0 m0 A0 v0 H0 r e0 p0 S0 R0 ⟨d, er, q0⟩ => by
  subst er
  refine q0 F0 G m0 σ H0 S0 (E.mono e0 p0) _ fun F1 m1 A1 v H1 x e1 p1 S1 R1 q1 => q1 F1 G m1 σ H1 S1 (E.mono (e0.trans e1) (p0.trans p1)) _ fun F2 m2 A2 w H2 y e2 p2 S2 R2 ⟨n, ds, i, j, ex, hc, ey, hj, q⟩ => ?_
  subst ex ey
  have R1' : Rep c.K F2 m2 v (.ptr n) := Rep.mono e2 p2 R1
  have R0' : Rep c.K F2 m2 v0 d := Rep.mono (e1.trans e2) (p1.trans p2) R0
  obtain ⟨a, rfl, hm, vs, ha, rv⟩ := ptr_at S2 R1' hc trivial
  cases R2
  exact ⟨a, vs, i, j, rfl, rfl, ha, by rw [rv.len]; exact hj, kc.nx F2 m2 ⟨A2.s, A2.o.set n (.lst (ds.set j d))⟩ σ _ ((e0.trans e1).trans e2) ((p0.trans p1).trans p2) (S2.cset (c' := .lst (ds.set j d)) hm hc trivial trivial ⟨_, upd_same, Reps.set R0' j rv⟩) q⟩
/-- xs.append(e) -/
theorem vs_appendP (h : WE c tl A fun A1 x => ∃ n ds0, x = .val (.ptr n) ∧ A1.o[n]? = some (.lst ds0) ∧ WE c te A1 fun A2 r => Frz A2 r fun A3 d => ∃ ds, A3.o[n]? = some (.lst ds) ∧ ds.length < 100000 ∧ nx ⟨A3.s, A3.o.set n (.lst (ds ++ [d]))⟩) :
    WS c (tDrop (tBM c.K "list" rAppend tl (tCons te tNil))) A ⟨nx, rt, bk, ct⟩ := fun F G m σ H S E Dc kc => h F G m σ H S E _ fun F1 m1 A1 v H1 x e1 p1 S1 R1 ⟨n, ds0, ex, hc0, q1⟩ => by
  subst ex
  obtain ⟨a, rfl, hm, vs0, ha0, _⟩ := ptr_at S1 R1 hc0 trivial
  refine ⟨.inl ⟨rfl, vs0, .inl (.inl ha0)⟩, (WE.frz q1) F1 G m1 σ H1 S1 (E.mono e1 p1) _ fun F2 m2 A2 w H2 r e2 p2 S2 R2 ⟨d, er, ds, hc, hl, q⟩ => ?_⟩
  subst er
  have R1' : Rep c.K F2 m2 (.ref a) (.ptr n) := Rep.mono e2 p2 R1
  obtain ⟨b, eb, hm2, vs, ha, rv⟩ := ptr_at S2 R1' hc trivial
  cases eb
  exact ⟨a, vs, w, rfl, rfl, ha, Nat.lt_of_lt_of_le (by rw [rv.len]; exact hl) (by decide), kc.nx F2 m2 ⟨A2.s, A2.o.set n (.lst (ds ++ [d]))⟩ σ _ (e1.trans e2) (p1.trans p2) (S2.cset (c' := .lst (ds ++ [d])) hm2 hc trivial trivial ⟨_, upd_same, rv.app (.cons R2 .nil)⟩) q⟩
end
end AL

namespace AL
open PySem L2 PySem.Spec PyProof.Rows
section
variable {X : Cx}
/-- xs[i], xs a list, by values -/
theorem get_list : PGet X (rIxL X.K) := by
  intro pins s σ H x y v u Q I rx ry h
  obtain ⟨p, xs, i, z, rfl, rfl, hq, he, q⟩ := h
  cases rx
  obtain ⟨t, rfl⟩ := ry
  obtain ⟨its, r, pl, hz⟩ := I.list hq
  obtain ⟨j, h1, h2, h3, h4, h5⟩ := atI_get he
  obtain ⟨w, ew, rw'⟩ := r.get h2
  have hl := r.length
  have hn := line63
  have fin : EP X pins σ Q w s := ⟨z, H, I, rw', q⟩
  by_cases h0 : 0 ≤ i
  · have hj : i.toNat = j := by
      rw [seqIndex_of h0 h5] at h1
      exact Option.some.inj h1
    exact wpAny_getItem_list pl.isList h0 (by omega) (by rw [hj]; simpa using ew) fin
  · have hj : (i + (its.toArray.size : Int)).toNat = j := by
      rw [seqIndex_neg (by omega) h4] at h1
      rw [List.size_toArray, ← hl]
      exact Option.some.inj h1
    exact wpAny_getItem_list_neg pl.isList (by omega) (by rw [List.size_toArray] <;> omega) (by omega) (by rw [hj]; simpa using ew) fin
end
theorem augK {X : Cx} {K : PySem.W.Frag} {st : Stmt} {to ti te : TE} {tip : TIp} (h : X.K = K) (p : PS X st (tAugS to ti te (rIxL X.K) tip rSetL)) : PS X st (tAugS to ti te (rIxL K) tip rSetL) := h ▸ p
section
variable {c : Ct} {A : AS} {te ta tb tl td ty tv : TE} {t u tt : TT} {x y : RV} {Q : QE} {nx bk ct : AS → Prop} {rt : List Cell → D → Prop}
/-- xs[i] += e and its kin, of ints -/
theorem vs_augP {f : Int → Int → Int} (h : WE c tl A fun A1 x => WE c tb A1 fun A2 y => ∃ n ds, ∃ i : Int, ∃ j : Nat, ∃ a : Int, x = .val (.ptr n) ∧ A2.o[n]? = some (.lst ds) ∧ y = .val (.int i) ∧ ixN ds.length i = some j ∧ ds[j]? = some (.int a) ∧
      WE c te A2 fun A3 r => ∃ b : Int, r = .val (.int b) ∧ ∃ ds', A3.o[n]? = some (.lst ds') ∧ ixN ds'.length i = some j ∧ nx ⟨A3.s, A3.o.set n (.lst (ds'.set j (.int (f a b))))⟩) :
    WS c (tAugS tl tb te (rIxL c.K) (ipI f) rSetL) A ⟨nx, rt, bk, ct⟩ := fun F G m σ H S E Dc kc => h F G m σ H S E _ fun F1 m1 A1 v H1 x e1 p1 S1 R1 q1 => q1 F1 G m1 σ H1 S1 (E.mono e1 p1) _ fun F2 m2 A2 w H2 y e2 p2 S2 R2 ⟨n, ds, i, j, a, ex, hc, ey, hj, hd, q2⟩ => by
  subst ex ey
  have R1' : Rep c.K F2 m2 v (.ptr n) := Rep.mono e2 p2 R1
  obtain ⟨ad, rfl, hm, vs, ha, rv⟩ := ptr_at S2 R1' hc trivial
  cases R2
  obtain ⟨va, hva, rva⟩ := rv.get hd
  cases rva
  refine ⟨ad, vs, i, _, rfl, rfl, .inl (.inl ha), by unfold atI; rw [rv.len, hj]; exact hva, q2 F2 G m2 σ H2 S2 (E.mono (e1.trans e2) (p1.trans p2)) _ fun F3 m3 A3 z H3 r e3 p3 S3 R3 ⟨b, er, ds', hc3, hj3, q3⟩ => ?_⟩
  subst er
  cases R3
  have R1'' : Rep c.K F3 m3 (.ref ad) (.ptr n) := Rep.mono e3 p3 R1'
  obtain ⟨ad', ed, hm3, vs3, ha3, rv3⟩ := ptr_at S3 R1'' hc3 trivial
  cases ed
  exact ⟨a, b, rfl, rfl, ad, vs3, i, j, rfl, rfl, ha3, by rw [rv3.len]; exact hj3, kc.nx F3 m3 ⟨A3.s, A3.o.set n (.lst (ds'.set j (.int (f a b))))⟩ σ _ ((e1.trans e2).trans e3) ((p1.trans p2).trans p3) (S3.cset (c' := .lst (ds'.set j (.int (f a b)))) hm3 hc3 trivial trivial ⟨_, upd_same, Reps.set (.int _) j rv3⟩) q3⟩
/-- name += e, of ints -/
theorem vs_augN {i : Nat} {f : Int → Int → Int} {a : Int} (h0 : A.s[i]? = some (some (.val (.int a)))) (h : WE c te A fun A1 r => ∃ b : Int, r = .val (.int b) ∧ nx (A1.setS i (.val (.int (f a b))))) : WS c (tAug i te (ipI f)) A ⟨nx, rt, bk, ct⟩ := fun F G m σ H S E Dc kc => by
  obtain ⟨v, e, r⟩ := S.s.valAt h0
  cases r
  refine ⟨_, e, h F G m σ H S E _ fun F1 m1 A1 w H1 r e1 p1 S1 R1 ⟨b, er, q⟩ => ?_⟩
  subst er
  cases R1
  exact ⟨a, b, rfl, rfl, kc.nx F1 m1 _ _ H1 e1 p1 (S1.setV (Rep.int _)) q⟩
/-- o.f += e, of ints; o a cell -/
theorem vs_fldaug {fn : Str} {rd : V → V → Hp → VK → Prop} {f : Int → Int → Int} (hr : ∀ (i j : Int) H Q, Q (V.int (f i j)) H → rd (.int i) (.int j) H Q) (h : WE c ta A fun A1 x => ∃ n C fs, ∃ a : Int, x = .val (.ptr n) ∧ A1.o[n]? = some (.ins C fs) ∧ Cls c.K C ∧ NoAttr c.K C fn ∧ fs.lookup fn = some (.int a) ∧
      WE c te A1 fun A2 r => ∃ b : Int, r = .val (.int b) ∧ ∃ fs', A2.o[n]? = some (.ins C fs') ∧ fs'.length < 900 ∧ nx ⟨A2.s, A2.o.set n (.ins C (putD fn (.int (f a b)) fs'))⟩) :
    WS c (sFldAug c.K ta te rd fn) A ⟨nx, rt, bk, ct⟩ := fun F G m σ H S E Dc kc => h F G m σ H S E _ fun F1 m1 A1 v H1 x e1 p1 S1 R1 ⟨n, C, fs, a, ex, hc, hC, hn, hl, q1⟩ => by
  subst ex
  obtain ⟨ad, rfl, hm, dx, fv, ha, rf⟩ := ptr_at S1 R1 hc trivial
  obtain ⟨w, hw, rw_⟩ := rf.look hl
  cases rw_
  refine ⟨ad, C, dx, fv, _, rfl, ha, hC, hn, hw, q1 F1 G m1 σ H1 S1 (E.mono e1 p1) _ fun F2 m2 A2 z H2 r e2 p2 S2 R2 ⟨b, er, fs', hc2, hlen, q2⟩ => ?_⟩
  subst er
  cases R2
  have R1' : Rep c.K F2 m2 (.ref ad) (.ptr n) := Rep.mono e2 p2 R1
  obtain ⟨ad', ed, hm2, dx2, fv2, ha2, rf2⟩ := ptr_at S2 R1' hc2 trivial
  cases ed
  refine hr a b _ _ ⟨dx2, fv2, ha2, by rw [rf2.len]; omega, kc.nx F2 m2 ⟨A2.s, A2.o.set n (.ins C (putD fn (.int (f a b)) fs'))⟩ σ _ (e1.trans e2) (p1.trans p2) (S2.cset (c' := .ins C (putD fn (.int (f a b)) fs')) hm2 hc2 trivial trivial ⟨dx2, _, upd_same, rf2.put (Rep.int _)⟩) q2⟩
theorem rAdd_ok (i j : Int) (H : Hp) (Q : VK) (q : Q (V.int (i + j)) H) : rAdd (.int i) (.int j) H Q := ⟨i, j, rfl, rfl, q⟩
theorem rSub_ok (i j : Int) (H : Hp) (Q : VK) (q : Q (V.int (i - j)) H) : rSub (.int i) (.int j) H Q := ⟨i, j, rfl, rfl, q⟩
/-- list(range(n)) -/
theorem wn_listRg {Q : AS → List D → Prop} (h : WE c te A fun A1 r => ∃ n : Int, r = .val (.int n) ∧ 0 ≤ n ∧ n ≤ 1000000 ∧ Q A1 (intsD 0 n.toNat)) : WN c (tLstRg (tRg1 te)) A Q := fun F G m σ H S E Qc kc => h F G m σ H S E _ fun F1 m1 A1 v H1 r e1 p1 S1 R1 ⟨n, er, h0, h1, q⟩ => by
  subst er
  cases R1
  refine ⟨n, rfl, RgOk.of_le (by omega) (by omega) (by omega) (by omega), fun p hp => kc F1 m1 A1 p _ _ _ e1 p1 (S1.new hp) (S1.h.fresh hp).1 (S1.h.fresh hp).2.1 (S1.h.fresh hp).2.2 (S1.notOwn hp) upd_same ?_ q⟩
  unfold rgV intsD
  rw [Int.sub_zero]
  have : ∀ xs : List Nat, Reps c.K F1 m1 (xs.map fun i => V.int (0 + (i : Nat))) (xs.map fun i => D.int (0 + (i : Nat))) := fun xs => by
    induction xs with
    | nil => exact .nil
    | cons x r ih => exact .cons (.int _) ih
  exact this _
end
theorem huOf {n : Nat} (h : n + 64 < cLine) : n + 1 < cLine := by omega
end AL
namespace AL
open PySem L2
section
variable {c : Ct} {A : AS} {te : TE} {tt : TT}
/-- a comprehension by an invariant of the cells and of what is made so far -/
theorem wn_lcI {wi : TI} {g : TG} {vs : List Nat} {Q : AS → List D → Prop} (hg : GOk g vs)
    (h : WI c wi A fun A1 ds => noOwnB A1.s vs = true ∧ ds.length < 100000 ∧ ∃ I : Nat → List Cell → List D → Prop, I 0 A1.o [] ∧
      (∀ i d O acc, ds[i]? = some d → I i O acc → WG c g d ⟨wipeA A1.s vs, O⟩ fun A2 => WT c tt A2 fun A3 b => (b = true → WE c te A3 fun A4 r => Frz A4 r fun A5 e => I (i + 1) A5.o (acc ++ [e]) ∧ ∀ j, j ∉ vs → A5.s[j]? = A1.s[j]?) ∧
        (b = false → I (i + 1) A3.o acc ∧ ∀ j, j ∉ vs → A3.s[j]? = A1.s[j]?)) ∧ ∀ O acc, I ds.length O acc → Q ⟨A1.s, O⟩ acc) :
    WN c (tLc wi g tt te vs) A Q := fun F G m σ H S E Qc k => h F G m σ H S E _ fun F1 m1 A1 J H1 ds e1 p1 S1 RJ ⟨no', hlen, I, hI0, hs, hd⟩ => by
  have no := noOwn_of no'
  intro Dl hD
  have gD : G Dl = none := (S1.h.fresh hD).2.1
  have sub : ∀ (o : HO) a u, G a = some u → upd G Dl o a = some u := fun o a u e => by rw [upd_ne (ne_of_none e gD)]; exact e
  have nD := S1.notOwn hD
  refine ⟨fun i n H2 => n = ds.length - i ∧ i ≤ ds.length ∧ ∃ F2 m2 acc accD O, Ex F1 F2 ∧ Pre m1 m2 ∧ Sim c.K F2 (upd G Dl (.lst acc)) m2 ⟨A1.s, O⟩ σ H2 ∧ Reps c.K F2 m2 acc accD ∧ I i O accD ∧ accD.length ≤ i,
    ⟨_, rfl, Nat.zero_le _, F1, m1, [], [], A1.o, Evl.Ex.refl _, Pre.refl _, S1.addG hD, .nil, hI0, Nat.le_refl _⟩, fun i n H2 hw => ?_⟩
  obtain ⟨rfl, hi, F2, m2, acc, accD, O, e2, p2, S2, R2, q2, la⟩ := hw
  obtain ⟨r1, r2⟩ := RJ F2 _ m2 ⟨A1.s, O⟩ σ H2 e2 p2 S2 i
  have hacc : acc.length ≤ i := by rw [R2.len]; exact la
  by_cases hl : i < ds.length
  · obtain ⟨g1, g2⟩ := r1 _ (List.getElem?_eq_getElem hl)
    refine .inr ⟨g1, fun H3 => i + 1 ≤ ds.length ∧ ∃ F2 m2 acc accD O, Ex F1 F2 ∧ Pre m1 m2 ∧ Sim c.K F2 (upd G Dl (.lst acc)) m2 ⟨A1.s, O⟩ σ H3 ∧ Reps c.K F2 m2 acc accD ∧ I (i + 1) O accD ∧ accD.length ≤ i + 1, fun H3 hN => ⟨_, by omega, rfl, hN⟩, fun x H3 hy => ?_⟩
    obtain ⟨F3, e3, S3, R3⟩ := g2 x H3 hy
    have E3 : EOk c F3 (upd G Dl (.lst acc)) m2 := (E.weakG (sub _)).mono ((e1.trans e2).trans e3) (p1.trans p2)
    have S3w : Sim c.K F3 (upd G Dl (.lst acc)) m2 ⟨wipeA A1.s vs, O⟩ (wipe σ vs) H3 := ⟨S3.h, S3.s.wipe vs⟩
    have ww : wipe (wipe σ vs) vs = wipe σ vs := by
      apply List.ext_getElem?
      intro j
      by_cases hj : j ∈ vs
      · have z : ∀ (us : List Nat) (τ : St), j ∈ us → (wipe τ us)[j]? = if j < τ.length then some none else none := fun us => by
          induction us with
          | nil => intro τ h; cases h
          | cons u us ih =>
            intro τ h
            unfold wipe
            by_cases y : u = j
            · subst y
              by_cases hl : u < τ.length
              · rw [List.getElem?_set_self (by rw [wipe_length]; exact hl), if_pos hl]
              · rw [if_neg hl, List.getElem?_eq_none (by rw [List.length_set, wipe_length]; omega)]
            · rw [List.getElem?_set_ne y]
              exact ih τ (by simpa [show ¬ j = u from fun z => y z.symm] using h)
        rw [z vs _ hj, z vs _ hj, wipe_length]
      · rw [wipe_not hj]
    have hgx := hg x (wipe σ vs) H3 (fun σ2 H4 => tt σ2 H4 fun b H5 => if b = true then te σ2 H5 fun y H6 => ∃ acc', H6 Dl = some (.lst acc') ∧ acc'.length < sizeLine ∧ (i + 1 ≤ ds.length ∧ ∃ F2 m2 acc accD O, Ex F1 F2 ∧ Pre m1 m2 ∧ Sim c.K F2 (upd G Dl (.lst acc)) m2 ⟨A1.s, O⟩ σ (upd H6 Dl (.lst (acc' ++ [y]))) ∧ Reps c.K F2 m2 acc accD ∧ I (i + 1) O accD ∧ accD.length ≤ i + 1) else
      (i + 1 ≤ ds.length ∧ ∃ F2 m2 acc accD O, Ex F1 F2 ∧ Pre m1 m2 ∧ Sim c.K F2 (upd G Dl (.lst acc)) m2 ⟨A1.s, O⟩ σ H5 ∧ Reps c.K F2 m2 acc accD ∧ I (i + 1) O accD ∧ accD.length ≤ i + 1))
    rw [ww] at hgx
    refine hgx (hs i _ O accD (List.getElem?_eq_getElem hl) q2 F3 _ m2 (wipe σ vs) H3 x S3w R3 E3 _ fun F4 m4 A4 σ4 H4 e4 p4 S4 q4 ew => ?_)
    have x4 := e2.trans (e3.trans e4)
    have y4 := p2.trans p4
    refine q4 F4 _ m4 σ4 H4 S4 (E3.mono e4 p4) _ fun F5 m5 A5 b H5 e5 p5 S5 q5 => ?_
    cases b with
    | false =>
      obtain ⟨h1, h3⟩ := q5.2 rfl
      show i + 1 ≤ ds.length ∧ _
      exact ⟨hl, F5, m5, acc, accD, A5.o, x4.trans e5, y4.trans p5, S2.unwipeO S5 (e3.trans (e4.trans e5)) (p4.trans p5) h3 ew no, R2.mono (e3.trans (e4.trans e5)) (p4.trans p5), h1, by omega⟩
    | true =>
      show te σ4 H5 _
      refine (WE.frz (q5.1 rfl)) F5 _ m5 σ4 H5 S5 (E3.mono (e4.trans e5) (p4.trans p5)) _ fun F6 m6 A6 y H6 r e6 p6 S6 R6 q6 => ?_
      obtain ⟨d, er, h1, h3⟩ := q6
      subst er
      have z6 := e3.trans (e4.trans (e5.trans e6))
      have w6 := p4.trans (p5.trans p6)
      refine ⟨acc, S6.h.exG Dl _ upd_same, Nat.lt_of_le_of_lt hacc (Nat.lt_of_lt_of_le (Nat.lt_trans hl hlen) (by decide)), hl, F6, m6, acc ++ [y], accD ++ [d], A6.o, e2.trans z6, p2.trans w6, (S2.unwipeO S6 z6 w6 h3 ew no : Sim c.K F6 _ m6 ⟨A1.s, A6.o⟩ σ _).setG, (R2.mono z6 w6).app (.cons R6 .nil), h1, by rw [List.length_append, List.length_singleton]; omega⟩
  · have ei : i = ds.length := by omega
    subst ei
    have gs := S2.h.exG Dl _ upd_same
    have fD : F2 Dl = none := by
      cases y : F2 Dl with
      | none => rfl
      | some u => have z := S2.h.dj Dl u y; rw [upd_same] at z; cases z
    exact .inl ⟨r2 (Nat.le_refl _), k F2 m2 ⟨A1.s, O⟩ Dl acc H2 _ (e1.trans e2) (p1.trans p2) (S2.weakG (sub _)) fD gD (fun n e => by have z := S2.h.mG n Dl e; rw [upd_same] at z; cases z) nD gs R2 (hd O accD q2)⟩
end
end AL
namespace AL
open PySem L2
section
variable {c : Ct} {A : AS} {te td ty tv tk : TE} {Q : QE}
theorem vs_seqDP {td ty tv : TE} {t2 : TS} {nx bk ct : AS → Prop} {rt : List Cell → D → Prop} (h : WS c (sDPut td ty tv) A ⟨fun A1 => WS c t2 A1 ⟨nx, rt, bk, ct⟩, rt, bk, ct⟩) : WS c (tSeq (sDPut td ty tv) t2) A ⟨nx, rt, bk, ct⟩ := ws_seq h
theorem vs_seqAS {to ti te : TE} {tget : V → V → Hp → VK → Prop} {tip : TIp} {tset : TSet} {t2 : TS} {nx bk ct : AS → Prop} {rt : List Cell → D → Prop} (h : WS c (tAugS to ti te tget tip tset) A ⟨fun A1 => WS c t2 A1 ⟨nx, rt, bk, ct⟩, rt, bk, ct⟩) : WS c (tSeq (tAugS to ti te tget tip tset) t2) A ⟨nx, rt, bk, ct⟩ := ws_seq h
theorem vs_seqFA {K : PySem.W.Frag} {ta tv : TE} {rd : V → V → Hp → VK → Prop} {f : Str} {t2 : TS} {nx bk ct : AS → Prop} {rt : List Cell → D → Prop} (h : WS c (sFldAug K ta tv rd f) A ⟨fun A1 => WS c t2 A1 ⟨nx, rt, bk, ct⟩, rt, bk, ct⟩) : WS c (tSeq (sFldAug K ta tv rd f) t2) A ⟨nx, rt, bk, ct⟩ := ws_seq h
theorem vs_seqAN {i : Nat} {te : TE} {ti : TIp} {t2 : TS} {nx bk ct : AS → Prop} {rt : List Cell → D → Prop} (h : WS c (tAug i te ti) A ⟨fun A1 => WS c t2 A1 ⟨nx, rt, bk, ct⟩, rt, bk, ct⟩) : WS c (tSeq (tAug i te ti) t2) A ⟨nx, rt, bk, ct⟩ := ws_seq h
theorem wps_nil {Q : AS → List (Key × D) → Prop} (q : Q A []) : WPs c [] A Q := q
theorem wps_cons {r : List (TE × TE)} {Q : AS → List (Key × D) → Prop} (h : WE c tk A fun A1 x => ∃ dk k, x = .val dk ∧ keyD dk = some k ∧ WE c tv A1 fun A2 y => Frz A2 y fun A3 d => WPs c r A3 fun A4 kvs => Q A4 ((k, d) :: kvs)) : WPs c ((tk, tv) :: r) A Q := h
theorem key_go {dk : D} {k : Key} {P : Key → Prop} (hk : keyD dk = some k) (q : P k) : ∃ dk' k', RV.val dk = .val dk' ∧ keyD dk' = some k' ∧ P k' := ⟨dk, k, rfl, hk, q⟩
theorem dget_go {O : List Cell} {n : Nat} {kvs : List (Key × D)} {dk : D} {k : Key} {d : D} {P : D → Prop} (hc : O[n]? = some (.dK kvs)) (hk : keyD dk = some k) (hv : valD kvs k = some d) (q : P d) :
    ∃ n' kvs' dk' k' d', RV.val (.ptr n) = .val (.ptr n') ∧ O[n']? = some (.dK kvs') ∧ RV.val dk = .val dk' ∧ keyD dk' = some k' ∧ valD kvs' k' = some d' ∧ P d' := ⟨n, kvs, dk, k, d, rfl, hc, rfl, hk, hv, q⟩
theorem din_go {O : List Cell} {n : Nat} {kvs : List (Key × D)} {dk : D} {k : Key} {P : List (Key × D) → Key → Prop} (hc : O[n]? = some (.dK kvs)) (hk : keyD dk = some k) (q : P kvs k) :
    ∃ n' kvs' dk' k', RV.val (.ptr n) = .val (.ptr n') ∧ O[n']? = some (.dK kvs') ∧ RV.val dk = .val dk' ∧ keyD dk' = some k' ∧ P kvs' k' := ⟨n, kvs, dk, k, rfl, hc, rfl, hk, q⟩
theorem vs_dputN {nx bk ct : AS → Prop} {rt : List Cell → D → Prop} (h : WE c tv A fun A0 r => Frz A0 r fun A1 d => WE c td A1 fun A2 x => WE c ty A2 fun A3 y => ∃ n kvs dk k kv2, x = .val (.ptr n) ∧ A3.o[n]? = some (.dK kvs) ∧ y = .val dk ∧ keyD dk = some k ∧ kvs.length < 100000 ∧ putKD kvs k d = kv2 ∧ nx ⟨A3.s, A3.o.set n (.dK kv2)⟩) :
    WS c (sDPut td ty tv) A ⟨nx, rt, bk, ct⟩ := vs_dput (h.imp fun A0 r z => frz_imp z fun A1 d z => z.imp fun A2 x z => z.imp fun A3 y ⟨n, kvs, dk, k, kv2, h1, h2, h3, h4, h5, h6, h7⟩ => ⟨n, kvs, dk, k, h1, h2, h3, h4, h5, by rw [h6]; exact h7⟩)
theorem dput_go {O : List Cell} {n : Nat} {kvs kv2 : List (Key × D)} {dk d : D} {k : Key} {P : Nat → List (Key × D) → Prop} (hc : O[n]? = some (.dK kvs)) (hk : keyD dk = some k) (hl : kvs.length < 100000) (hp : putKD kvs k d = kv2) (q : P n kv2) :
    ∃ n' kvs' dk' k' kv2', RV.val (.ptr n) = .val (.ptr n') ∧ O[n']? = some (.dK kvs') ∧ RV.val dk = .val dk' ∧ keyD dk' = some k' ∧ kvs'.length < 100000 ∧ putKD kvs' k' d = kv2' ∧ P n' kv2' := ⟨n, kvs, dk, k, kv2, rfl, hc, rfl, hk, hl, hp, q⟩
theorem getset {O : List Cell} {n : Nat} {x : Cell} (h : n < O.length) : (O.set n x)[n]? = some x := by rw [List.getElem?_set_self h]
theorem getset_ne {O : List Cell} {n m : Nat} {x : Cell} (h : n ≠ m) : (O.set n x)[m]? = O[m]? := List.getElem?_set_ne h
theorem getset_go {O : List Cell} {n m : Nat} {x y : Cell} (h : n ≠ m) (q : O[m]? = some y) : (O.set n x)[m]? = some y := by rw [List.getElem?_set_ne h]; exact q
end
end AL
local macro_rules | `(tactic| walk_at "put") => `(tactic| rfl)
local macro_rules | `(tactic| walk_at "cell") => `(tactic| first | assumption | (refine AL.getset ?_; first | omega | (simp only [AL.AS.setS, List.length_set]; omega)) | (refine AL.getset_go ?_ ?_; (first | omega | assumption | (apply Ne.symm; assumption)); walk_at "cell") | rfl)
local macro_rules | `(tactic| walk_at "am1") => `(tactic| (with_reducible first
  | refine' AL.vs_seqDP ?_
  | refine' AL.vs_seqAS ?_
  | refine' AL.vs_seqFA ?_
  | refine' AL.vs_seqAN ?_
  | refine AL.we_dget ?_
  | refine AL.we_din ?_
  | refine AL.we_dnin ?_
  | refine AL.vs_dputN ?_
  | refine AL.we_disp ?_
  | refine AL.wps_cons ?_
  | refine AL.wps_nil ?_))
local macro_rules | `(tactic| walk_at "am2") => `(tactic| first
  | ((with_reducible refine' AL.dget_go ?hc ?hk ?hv ?_); (case hc => walk_at "cell"); (case hk => rfl); (case hv => rfl))
  | ((with_reducible refine' AL.din_go ?hc ?hk ?_); (case hc => walk_at "cell"); (case hk => rfl))
  | ((with_reducible refine' AL.dput_go ?hc ?hk ?hl ?hp ?_); (case hc => walk_at "cell"); (case hk => rfl); (case hl => exact Nat.le_of_ble_eq_true rfl); (case hp => walk_at "put"))
  | ((with_reducible refine' AL.key_go ?hk ?_); (case hk => rfl)))
local macro_rules | `(tactic| walk_at "alm") => `(tactic| ((repeat (first | walk_at "als1" | walk_at "am1" | walk_at "am2" | walk_at "al2")); all_goals (try dsimp only [AL.as_eta])))
local macro_rules | `(tactic| walk_at "almn") => `(tactic| ((repeat (first | walk_at "als1" | walk_at "am1" | walk_at "am2" | walk_at "aln1" | walk_at "al2")); all_goals (try dsimp only [AL.as_eta])))
namespace AL
open PySem L2
section
variable {c : Ct} {A : AS} {te td ty tv tk ta tb tl : TE} {Q : QE}
theorem lsC {A : AS} {n : Nat} {ds : List D} (hc : A.o[n]? = some (.lst ds)) : lsOf A (.val (.ptr n)) = some ds := by simp only [lsOf, hc]
theorem od_ixC {n : Nat} {ns : List Int} {i : Int} (hc : A.o[n]? = some (.lst (ns.map .int))) (h0 : 0 ≤ i) (h1 : i < (ns.length : Int)) (q : Q A (.val (.int (ns.getD i.toNat 0)))) : OpD c (L2.rIx c.K) (.val (.ptr n)) (.val (.int i)) A Q := od_ixI (lsC hc) h0 h1 q
theorem od_ixCn {n : Nat} {ns : List Int} {j : Nat} (hc : A.o[n]? = some (.lst (ns.map .int))) (h1 : j < ns.length) (q : Q A (.val (.int (ns.getD j 0)))) : OpD c (L2.rIx c.K) (.val (.ptr n)) (.val (.int (j : Nat))) A Q := od_ixC hc (by omega) (by omega) (by rw [Int.toNat_natCast]; exact q)
theorem od_ixVn {ns : List Int} {j : Nat} (h1 : j < ns.length) (q : Q A (.val (.int (ns.getD j 0)))) : OpD c (L2.rIx c.K) (.val (.tup (ns.map .int))) (.val (.int (j : Nat))) A Q := od_ixT rfl (atI_ints (by omega) (by omega)) (by rw [Int.toNat_natCast]; exact q)
theorem od_ixLn {ns : List Int} {j : Nat} (h1 : j < ns.length) (q : Q A (.val (.int (ns.getD j 0)))) : OpD c (L2.rIx c.K) (.val (.lst (ns.map .int))) (.val (.int (j : Nat))) A Q := od_ixI rfl (by omega) (by omega) (by rw [Int.toNat_natCast]; exact q)
theorem cb_tupC {n : Nat} {ds : List D} (hc : A.o[n]? = some (.lst ds)) (q : Q A (.val (.tup ds))) : CbD c (rTupP c.K) [.val (.ptr n)] A Q := cb_tupL (lsC hc) q
theorem cn_listC {n : Nat} {ds : List D} {Q : AS → List D → Prop} (hc : A.o[n]? = some (.lst ds)) (q : Q A ds) : CbN c (rListA c.K) [.val (.ptr n)] A Q := cn_listL (lsC hc) q
theorem cb_lenC {n : Nat} {ds : List D} (hc : A.o[n]? = some (.lst ds)) (q : Q A (.val (.int (ds.length : Int)))) : CbD c (rLenA c.K) [.val (.ptr n)] A Q := cb_lenL (lsC hc) q
theorem setP_go {O : List Cell} {n : Nat} {ds : List D} {i : Int} {j : Nat} {P : Nat → List D → Nat → Prop} (hc : O[n]? = some (.lst ds)) (hj : ixN ds.length i = some j) (q : P n ds j) :
    ∃ n' ds', ∃ i' : Int, ∃ j' : Nat, RV.val (.ptr n) = .val (.ptr n') ∧ O[n']? = some (.lst ds') ∧ RV.val (.int i) = .val (.int i') ∧ ixN ds'.length i' = some j' ∧ P n' ds' j' := ⟨n, ds, i, j, rfl, hc, rfl, hj, q⟩
theorem insC {A : AS} {n : Nat} {C : Addr} {fs : List (Str × D)} (hc : A.o[n]? = some (.ins C fs)) : insOf A (.val (.ptr n)) = some (C, fs) := by simp only [insOf, hc]
theorem fld_goC {n : Nat} {f : Str} {P : D → Prop} {C : Addr} {fs : List (Str × D)} {d : D} (hc : A.o[n]? = some (.ins C fs)) (hC : Cls c.K C) (hn : NoAttr c.K C f) (hl : fs.lookup f = some d) (q : P d) : ∃ C fs d, insOf A (.val (.ptr n)) = some (C, fs) ∧ Cls c.K C ∧ NoAttr c.K C f ∧ fs.lookup f = some d ∧ P d := ⟨C, fs, d, insC hc, hC, hn, hl, q⟩
theorem mth_goC {n : Nat} {C : Addr} {mm : Str} {fs : List (Str × D)} {P : D → Prop} (hc : A.o[n]? = some (.ins C fs)) (hl : fs.lookup mm = none) (p : P (.ptr n)) : ∃ d' fs, RV.val (.ptr n) = .val d' ∧ insOf A (.val d') = some (C, fs) ∧ fs.lookup mm = none ∧ P d' := ⟨_, fs, rfl, insC hc, hl, p⟩
theorem prp_goC {n : Nat} {C : Addr} {fs : List (Str × D)} {P : D → Prop} (hc : A.o[n]? = some (.ins C fs)) (p : P (.ptr n)) : ∃ d' fs, RV.val (.ptr n) = .val d' ∧ insOf A (.val d') = some (C, fs) ∧ P d' := ⟨_, fs, rfl, insC hc, p⟩
end
end AL
local macro_rules | `(tactic| walk_at "am1") => `(tactic| (with_reducible first
  | refine AL.vs_setP ?_
  | refine AL.vs_augP ?_
  | refine AL.wn_listRg ?_))
local macro_rules | `(tactic| walk_at "am2") => `(tactic| first
  | ((with_reducible refine' AL.od_ixCn ?hc ?h1 ?_); (case hc => walk_at "cell"); (case h1 => omega))
  | ((with_reducible refine' AL.od_ixVn ?h1 ?_); (case h1 => omega))
  | ((with_reducible refine' AL.od_ixLn ?h1 ?_); (case h1 => omega))
  | ((with_reducible refine' AL.od_ixC ?hc ?h0 ?h1 ?_); (case hc => walk_at "cell"); (case h0 => omega); (case h1 => omega))
  | ((with_reducible refine' AL.fld_goC ?hc ?hC ?hn ?hl ?_); (case hc => walk_at "cell"); (case hC => assumption); (case hn => assumption); (case hl => rfl))
  | ((with_reducible refine' AL.mth_goC ?hc ?hl ?_); (case hc => walk_at "cell"); (case hl => rfl))
  | ((with_reducible refine' AL.prp_goC ?hc ?_); (case hc => walk_at "cell"))
  | ((with_reducible refine' AL.cb_tupC ?hc ?_); (case hc => walk_at "cell"))
  | ((with_reducible refine' AL.cn_listC ?hc ?_); (case hc => walk_at "cell"))
  | ((with_reducible refine' AL.cb_lenC ?hc ?_); (case hc => walk_at "cell")))
local macro_rules | `(tactic| walk_at "alsc1") => `(tactic| (with_reducible first
  | refine' AL.vs_seqA ?_
  | refine' AL.vs_seqD ?_
  | refine' AL.vs_seqO ?_
  | refine AL.vs_ret ?_
  | refine AL.vs_asg ?_
  | refine AL.vs_own ?_
  | refine AL.vs_next ?_
  | refine AL.frz_val ?_
  | refine AL.we_int ?_
  | refine AL.we_bl ?_
  | refine AL.we_non ?_
  | refine AL.we_str ?_
  | refine AL.we_op ?_
  | refine AL.we_cb ?_
  | refine AL.we_tup ?_
  | refine AL.we_call0 ?_
  | refine AL.we_meth ?_
  | refine AL.we_prop ?_
  | refine AL.we_fld ?_
  | refine AL.wa_nil ?_
  | refine AL.wa_cons ?_
  | refine AL.war_nil ?_
  | refine AL.war_cons ?_
  | refine AL.stays_val ?_
  | refine AL.od_add ?_
  | refine AL.od_sub ?_
  | refine AL.ex_int ?_))
local macro_rules | `(tactic| walk_at "almc") => `(tactic| ((repeat (first | walk_at "alsc1" | walk_at "am1" | walk_at "am2" | walk_at "al2")); all_goals (try dsimp only [AL.as_eta])))
local macro_rules | `(tactic| walk_at "fl") => `(tactic| try simp only [AL.as_eta, AL.AS.setS, AL.AS.wipe, AL.updS, AL.wipeA, AL.entry, List.set, List.map_cons, List.map_nil, List.length_cons, List.length_nil, List.replicate, List.cons_append, List.nil_append, Nat.reduceAdd, Nat.reduceSub, Nat.reduceLeDiff, Nat.sub_self, List.set_set])

namespace AT
open PySem L2 AL
/-! ### a tape, a dict of names -/
structure TapeM where
  cells : List Int
  at_ : Int
  great : Int
  left : Int
  seed : Int
  turn : Int
def tapeF (t : TapeM) : List (Key × D) := [(.inr "cells", .lst (t.cells.map .int)), (.inr "at", .int t.at_), (.inr "great", .int t.great), (.inr "left", .int t.left), (.inr "seed", .int t.seed), (.inr "turn", .int t.turn)]
def cTape (t : TapeM) : Cell := .dK (tapeF t)
theorem put_at (t : TapeM) (x : Int) : putKD (tapeF t) (.inr "at") (.int x) = tapeF { t with at_ := x } := rfl
theorem put_great (t : TapeM) (x : Int) : putKD (tapeF t) (.inr "great") (.int x) = tapeF { t with great := x } := rfl
theorem put_left (t : TapeM) (x : Int) : putKD (tapeF t) (.inr "left") (.int x) = tapeF { t with left := x } := rfl
theorem put_seed (t : TapeM) (x : Int) : putKD (tapeF t) (.inr "seed") (.int x) = tapeF { t with seed := x } := rfl
theorem put_turn (t : TapeM) (x : Int) : putKD (tapeF t) (.inr "turn") (.int x) = tapeF { t with turn := x } := rfl
def C__law_mixed : Contract := fun ds O R _ => ∃ a b : Int, ds = [.int a, .int b] ∧ ∀ v : Int, 0 ≤ v → R O (.int v)
def C__law_tape : Contract := fun ds O R _ => ∃ ns : List Int, ds = [.scr (ns.map .int)] ∧ ns.length ≤ 1000 ∧ R (O ++ [cTape ⟨ns, 0, 0, 0, 7, 0⟩]) (.ptr O.length)
def C__law_draw : Contract := fun ds O R _ => ∃ n t, ∃ many : Int, ds = [.ptr n, .int many] ∧ O[n]? = some (cTape t) ∧ 0 ≤ t.at_ ∧ 0 < many ∧ ∀ t' v, 0 ≤ TapeM.at_ t' → 0 ≤ v → v < many → R (O.set n (cTape t')) (.int v)
def C__law_pick : Contract := fun ds O R _ => ∃ n t xs, ds = [.ptr n, .lst xs] ∧ O[n]? = some (cTape t) ∧ 0 ≤ t.at_ ∧ 0 < xs.length ∧ xs.length ≤ 1000 ∧ ∀ t' v, 0 ≤ TapeM.at_ t' → v ∈ xs → R (O.set n (cTape t')) v
theorem len__law_mixed : ∀ ds O R X, C__law_mixed ds O R X → ds.length = 2 := fun _ _ _ _ h => by obtain ⟨_, _, rfl, _⟩ := h; rfl
theorem len__law_tape : ∀ ds O R X, C__law_tape ds O R X → ds.length = 1 := fun _ _ _ _ h => by obtain ⟨_, rfl, _⟩ := h; rfl
theorem len__law_draw : ∀ ds O R X, C__law_draw ds O R X → ds.length = 2 := fun _ _ _ _ h => by obtain ⟨_, _, _, rfl, _⟩ := h; rfl
theorem len__law_pick : ∀ ds O R X, C__law_pick ds O R X → ds.length = 2 := fun _ _ _ _ h => by obtain ⟨_, _, _, rfl, _⟩ := h; rfl
end AT
local macro_rules | `(tactic| walk_at "tp") => `(tactic| try simp only [List.set_set, AL.AS.setS])
local macro_rules | `(tactic| walk_at "put") => `(tactic| first | exact AT.put_at _ _ | exact AT.put_great _ _ | exact AT.put_left _ _ | exact AT.put_seed _ _ | exact AT.put_turn _ _)

set_option maxHeartbeats 4000000
namespace AL
open PySem L2
/-- C(e), an own error with the field f -/
def tMk1 (C : Addr) (f : Str) (ta : TA) : St → Hp → XK → Prop := fun σ H Q => ta σ H fun vs H1 => ∃ v, vs = [v] ∧ ∀ d, H1 d = none → Q (.ref C) (some d) (upd H1 d (.xd [(f, v)]))
/-- raise C(e) -/
def tRaise1 (C : Addr) (f : Str) (W : WX) (ta : TA) : TS := fun _ σ H => tMk1 C f ta σ H fun cls d H' => W cls d σ H'
end AL
namespace PySem
namespace EXnumber
open PySem.W PySem.Calls PyProof.Rows PySem.HandSPX
def arA (p1 p2 : Pos) : Arguments := { posonlyargs := [], args := [{ arg := "self", annotation := none, pos := p1 }, { arg := "number", annotation := none, pos := p2 }], vararg := none, kwonlyargs := [], kw_defaults := [], kwarg := none, defaults := [] }
def boB (q1 q2 q3 q4 : Pos) : List Stmt := [.Assign [.Attribute (.Name "self" q1) "number" q2] (.Name "number" q3) q4]
def scS : Scope := { kind := .function, names := [(PySem.Str.ofString "self", .local), (PySem.Str.ofString "number", .local)], isGenerator := false, isCoroutine := false, more := [] }
/-- the written part of such a class, cn at C, its __init__ at fI -/
structure Txt (K : Frag) (mg : Str → Option Value) (cn qual : Str) (C fI : Addr) : Prop where
  gC : mg cn = some (.ref C)
  cls : ∃ nm q N bs bm sn sub ab col dd k0 k1 k2 k3 k5, K.lookup C = some (excClassObj nm q C N bs bm true sn sub ab col dd k0 k1 k2 k3 k5 "ValueError.__new__") ∧ refsVE bm = true
  sa : findIn K (.ref C) "__setattr__" = some (some (.builtin "object.__setattr__"))
  noN : findIn K (.ref C) "number" = some none
  iC : findIn K (.ref C) "__init__" = some (some (.ref fI))
  tC : typeIn K (.ref fI) = some (.type "function")
  kC : keepIn K (.ref C) = true
  exC : subIn K (.ref C) (.type "BaseException") = some true
  tyC : typeIn K (.ref C) = some (.type "type")
  fn : ∃ (oc : Value) (od : Option Addr) (doc pm : Value) (an : Option Addr) (cdv ct : Value) (osl : Array (Option Value)) (p1 p2 q1 q2 q3 q4 : Pos),
    K.lookup fI = some ⟨oc, od, .func (fnOf "__init__" qual (arA p1 p2) (boB q1 q2 q3 q4) scS .none .none doc pm an cdv ct), osl⟩ ∧ codeIn K cdv qual = true
theorem sz1 (v : Value) : [v].length ≤ sizeLine := by rw [sizeLine_eq]; exact (by decide : 1 ≤ 16777216)
theorem ldL {M : Model} {s : Shared} {name : Str} {scope : Scope} {L a : Addr} {cd : Value} {m : Str → Option Value} {x : Str} {pos : Pos} {v : Value} {Q : Value → Shared → Prop} {A : Around} {E : Value → Shared → Prop} (hn : s.heap.Ns L m) (hv : m x = some v) (h : Q v s)
    (hk : scope.kind = .function := by rfl) (hl : (envOfC name scope L a cd).kindOf x = some .local := by rfl) (hd : (x == ("__debug__" : Str)) = false := by decide) :
    wpAny M A (eval (.Name x pos) (envOfC name scope L a cd)) Q E s := wpAny_Name (wpAny_loadName_local hk hl hn hv h) hd
/-- a new error behind its __init__ -/
structure Init1 (h h' : Heap) (x C dx t1 : Addr) (v : Value) : Prop where
  keep : ∀ b o, b ≠ x → h.get? b = some o → h'.get? b = some o
  obj : h'.get? x = some { cls := .ref C, dict := some dx, data := .fields #[.ref t1, .none, .none, .none, .bool false, .none] }
  dbig : h.objs.size ≤ dx
  dne : dx ≠ x
  ns : h'.Ns1 dx (fun y => if y = "number" then some v else none)
/-- an error that is made -/
structure Made1 (h h' : Heap) (e C d : Addr) (v : Value) : Prop where
  keep : ∀ b o, h.get? b = some o → h'.get? b = some o
  new : h.objs.size ≤ e
  obj : ∃ t1 : Addr, h'.get? e = some { cls := .ref C, dict := some d, data := .fields #[.ref t1, .none, .none, .none, .bool false, .none] }
  dbig : h.objs.size ≤ d
  dne : d ≠ e
  ns : h'.Ns1 d (fun y => if y = "number" then some v else none)
section
variable {prog : Program} {w : World} {A : Around} {E : Value → Shared → Prop} {R : Result → Shared → Prop} {s : Shared} {K : Frag} {mg : Str → Option Value} {cn qual : Str} {C fI : Addr}
theorem init1 (T : Txt K mg cn qual C fI) {x t0 : Addr} {v : Value} (X : K.In s.heap) (hlim : s.heap.NoLimit) (hx : s.heap.get? x = some (excO C t0)) (hroom : A.depth < recursionLimit)
    (hq : ∀ h' tk dx, Init1 s.heap h' x C dx t0 v → R (.ok (.ret .none)) { s with heap := h', toks := tk }) :
    codeAny (model prog w) A (.call (.ref fI) ⟨[.ref x, v], []⟩) R s := by
  obtain ⟨oc, od, doc, pm, an, cdv, ct, osl, p1, p2, q1, q2, q3, q4, ho, hcd⟩ := T.fn
  obtain ⟨nm, q, N, bs, bm, sn, sub, ab, col, dd, k0, k1, k2, k3, k5, hC, hbm⟩ := T.cls
  have hcl : clsIn K C = some { name := nm, bases := bs, mro := .ref C :: bm, ns := N, qualname := q, hasDict := true, slotNames := sn, subclasses := sub, abstract := ab, collection := col, hasDel := false } := by unfold clsIn; rw [hC] <;> rfl
  refine Att.call_fn (binds := [("self", .ref x), ("number", v)]) X hlim ho hcd hroom (BindsTo.of_eq (by first | rfl | with_unfolding_all rfl)) (by first | rfl | decide | with_unfolding_all rfl) (fun s₁ IC => ?_) rfl rfl rfl
  obtain ⟨h₁, tk₁, rfl⟩ := IC.toInCall.same
  have k : ∀ b o, s.heap.get? b = some o → h₁.get? b = some o := IC.toInCall.keep
  have hn := IC.toInCall.ns
  have X₁ : K.In h₁ := X.keeps k
  have hx₁ := k _ _ hx
  show wpAny _ _ (execs _ _) _ _ _
  refine wpAny_execs_cons (plainObj_wpAny_Assign_Attribute ?_)
  refine ldL (v := v) hn (by first | rfl | with_unfolding_all rfl | kernel_rfl) (ldL (v := .ref x) hn (by first | rfl | with_unfolding_all rfl | kernel_rfl) ?_)
  refine set_plain X₁ (ox := excO C t0) (od := none) ⟨hx₁, rfl, rfl, trivial⟩ T.sa ?_
  refine exc_osa X₁ hx₁ hcl (show refsVE (.ref C :: bm) = true from hbm) rfl T.noN (fun h₃ tk₃ dx k₃ dn dne hx₃ hn₃ => ?_)
  show wpAny _ _ (execs _ _) _ _ _
  have z : s.heap.objs.size < h₁.objs.size := hn.lt
  exact wpAny_execs_nil (hq h₃ tk₃ dx ⟨fun b o hb e => k₃ b o hb (k b o e), hx₃, Nat.le_of_lt (Nat.lt_of_lt_of_le z dn), dne, hn₃⟩)
theorem made1 (T : Txt K mg cn qual C fI) {v : Value} (X : K.In s.heap) (hlim : s.heap.NoLimit) (hroom : A.depth + 1 < recursionLimit)
    (hq : ∀ h' tk e d, Made1 s.heap h' e C d v → R (.ok (.ret (.ref e))) { s with heap := h', toks := tk }) :
    codeAny (model prog w) A (.call (.ref C) ⟨[v], []⟩) R s := by
  obtain ⟨nm, q, N, bs, bm, sn, sub, ab, col, dd, k0, k1, k2, k3, k5, hC, hbm⟩ := T.cls
  obtain ⟨hp, g, dr, tk, os⟩ := s
  have k : ∀ b o, hp.get? b = some o → ((hp.push (kdv_tup [v])).push (excO C hp.objs.size)).get? b = some o := fun b o e => Heap.get?_push_of_some _ (Heap.get?_push_of_some _ e)
  have hget : ((hp.push (kdv_tup [v])).push (excO C hp.objs.size)).get? (hp.objs.size + 1) = some (excO C hp.objs.size) := by heap_get
  refine call_own F.excBase_ValueError (fun X => refsVE_contains X bm hbm) (X _ _ hC) (looks_findIn X T.iC) (fun self => bind_fn X self T.tC) (sz1 v) ?_
  refine init1 (s := ⟨(hp.push (kdv_tup [v])).push (excO C hp.objs.size), g, dr, tk, os⟩) T (X.keeps k) (hlim.keeps k) hget ?_ fun h' tk' dx ⟨k', hx, dn, dne, hns⟩ => ?_
  · show A.depth + 1 < recursionLimit
    exact hroom
  · have old : ∀ b o, hp.get? b = some o → h'.get? b = some o := fun b o e => k' b o (Nat.ne_of_lt (Nat.lt_succ_of_lt (Heap.lt_size e))) (k b o e)
    have z : hp.objs.size + 1 + 1 ≤ dx := by
      first
        | (simpa only [Heap.size_push] using dn)
        | exact dn
        | (have q := dn; rw [Heap.size_push, Heap.size_push] at q; exact q)
    exact ⟨rfl, hq h' tk' (hp.objs.size + 1) dx ⟨old, Nat.le_succ _, ⟨_, hx⟩, Nat.le_trans (Nat.le_trans (Nat.le_succ _) (Nat.le_succ _)) z, dne, hns⟩⟩
end
end EXnumber
end PySem
namespace L2N
open PySem PySem.Spec PyProof.Rows L2
theorem relOnumber {v : V} {v' : Value} (r : RelV v v') (f : Str) : RelO (List.lookup f [(("number" : Str), v)]) (if f = "number" then some v' else none) := by
  by_cases hw : f = "number"
  · subst hw
    rw [if_pos rfl]
    have q : List.lookup ("number" : Str) [(("number" : Str), v)] = some v := by simp [List.lookup]
    rw [q]; exact r
  · rw [if_neg hw]
    have qw : (f == ("number" : Str)) = false := by simpa using hw
    have q2 : List.lookup f [(("number" : Str), v)] = none := by simp [List.lookup, qw]
    rw [q2]; trivial
section
variable {X : Cx} {C fI : Addr} {cn qual : Str}
theorem pmknumber {a : Expr} {ta : TA} {p pos : Pos} {k : Nat} (T : PySem.EXnumber.Txt X.K X.mg cn qual C fI) (hr : Room k X.A) (ha : PA X [a] ta) (hg : Gl X cn) (hdb : (cn == ("__debug__" : Str)) = false := by decide)
    (he : starEach (a :: []) X.env = (false, eval a X.env) :: starEach [] X.env := by rfl) (hpl : (backTo pos (starEach [] X.env)).any (·.1) = false := by rfl) :
    PMk X (.Call (.Name cn p) [a] [] pos) (AL.tMk1 C "number" ta) := by
  intro pins s σ H Q I h
  refine wpAny_Call_Name_kw (ld_glob I hg T.gC ?_ hdb)
  refine PySem.W.callWith_K (h₀ := X.base) I.ok.mod.kin T.kC (thn (ha.run pos pins s σ H _ I h) fun us s1 hh => ?_) he hpl
  obtain ⟨vs, H1, I1, r1, v, ev, q1⟩ := hh
  subst ev
  refine ⟨I1.kIn, ?_⟩
  cases r1 with
  | cons rv rn =>
    rename_i v' us'
    cases rn
    show wpAny _ _ (call (.ref C) [v']) _ _ _
    have hlim := I1.nolimit
    obtain ⟨hp, g, dr, tk, os⟩ := s1
    refine wpAny_call (PySem.EXnumber.made1 T I1.kIn hlim (by have := hr.dp; omega) fun h' tk' e d M => ?_)
    show MkP X pins σ Q (.ref e) ⟨h', g, dr, tk', os⟩
    obtain ⟨t1, hoe⟩ := M.obj
    have hns := M.ns
    obtain ⟨G', g1, g2⟩ := restrict h' fun b => decide (b ≠ e)
    have gk : ∀ b, b ≠ e → G'.get? b = h'.get? b := fun b hb => g1 b (decide_eq_true hb)
    have ge : G'.get? e = none := g2 e (by simp)
    have old : ∀ b o, hp.get? b = some o → G'.get? b = some o := fun b o q => (gk b (Nat.ne_of_lt (Nat.lt_of_lt_of_le (Heap.lt_size q) M.new))).trans (M.keep b o q)
    have ob : ObjOk X.prog X.w (upd H1 d (.xd [(("number" : Str), v)])) G' d (.xd [(("number" : Str), v)]) :=
      ⟨_, hns.at (fun o q => (gk d M.dne).trans q), fun f => relOnumber rv f⟩
    have J : Inv X pins σ (upd H1 d (.xd [(("number" : Str), v)])) ⟨G', g, dr, tk', os⟩ := I1.laid (t' := tk') old M.dbig ob
    refine ⟨e, _, _, ⟨G', g, dr, tk', os⟩, _, .ref C, some d, rfl, J, fun b o q => ?_, ge, hoe, ⟨rfl, rfl, fun vs z => by cases z; rfl⟩, rfl, rfl, ?_, rfl, I1.bare, raises_own T.exC T.tyC, q1 d (I1.hok.fresh M.dbig)⟩
    · by_cases hb : b = e
      · have q' : G'.get? b = some o := q
        rw [hb, ge] at q'; cases q'
      · exact (gk b hb).symm.trans q
    · rw [upd_ne (Ne.symm M.dne)]
      exact I1.hok.fresh M.new
end
end L2N
namespace PySem
namespace EXletter
open PySem.W PySem.Calls PyProof.Rows PySem.HandSPX
def arA (p1 p2 : Pos) : Arguments := { posonlyargs := [], args := [{ arg := "self", annotation := none, pos := p1 }, { arg := "letter", annotation := none, pos := p2 }], vararg := none, kwonlyargs := [], kw_defaults := [], kwarg := none, defaults := [] }
def boB (q1 q2 q3 q4 : Pos) : List Stmt := [.Assign [.Attribute (.Name "self" q1) "letter" q2] (.Name "letter" q3) q4]
def scS : Scope := { kind := .function, names := [(PySem.Str.ofString "self", .local), (PySem.Str.ofString "letter", .local)], isGenerator := false, isCoroutine := false, more := [] }
/-- the written part of such a class, cn at C, its __init__ at fI -/
structure Txt (K : Frag) (mg : Str → Option Value) (cn qual : Str) (C fI : Addr) : Prop where
  gC : mg cn = some (.ref C)
  cls : ∃ nm q N bs bm sn sub ab col dd k0 k1 k2 k3 k5, K.lookup C = some (excClassObj nm q C N bs bm true sn sub ab col dd k0 k1 k2 k3 k5 "ValueError.__new__") ∧ refsVE bm = true
  sa : findIn K (.ref C) "__setattr__" = some (some (.builtin "object.__setattr__"))
  noN : findIn K (.ref C) "letter" = some none
  iC : findIn K (.ref C) "__init__" = some (some (.ref fI))
  tC : typeIn K (.ref fI) = some (.type "function")
  kC : keepIn K (.ref C) = true
  exC : subIn K (.ref C) (.type "BaseException") = some true
  tyC : typeIn K (.ref C) = some (.type "type")
  fn : ∃ (oc : Value) (od : Option Addr) (doc pm : Value) (an : Option Addr) (cdv ct : Value) (osl : Array (Option Value)) (p1 p2 q1 q2 q3 q4 : Pos),
    K.lookup fI = some ⟨oc, od, .func (fnOf "__init__" qual (arA p1 p2) (boB q1 q2 q3 q4) scS .none .none doc pm an cdv ct), osl⟩ ∧ codeIn K cdv qual = true
theorem sz1 (v : Value) : [v].length ≤ sizeLine := by rw [sizeLine_eq]; exact (by decide : 1 ≤ 16777216)
theorem ldL {M : Model} {s : Shared} {name : Str} {scope : Scope} {L a : Addr} {cd : Value} {m : Str → Option Value} {x : Str} {pos : Pos} {v : Value} {Q : Value → Shared → Prop} {A : Around} {E : Value → Shared → Prop} (hn : s.heap.Ns L m) (hv : m x = some v) (h : Q v s)
    (hk : scope.kind = .function := by rfl) (hl : (envOfC name scope L a cd).kindOf x = some .local := by rfl) (hd : (x == ("__debug__" : Str)) = false := by decide) :
    wpAny M A (eval (.Name x pos) (envOfC name scope L a cd)) Q E s := wpAny_Name (wpAny_loadName_local hk hl hn hv h) hd
/-- a new error behind its __init__ -/
structure Init1 (h h' : Heap) (x C dx t1 : Addr) (v : Value) : Prop where
  keep : ∀ b o, b ≠ x → h.get? b = some o → h'.get? b = some o
  obj : h'.get? x = some { cls := .ref C, dict := some dx, data := .fields #[.ref t1, .none, .none, .none, .bool false, .none] }
  dbig : h.objs.size ≤ dx
  dne : dx ≠ x
  ns : h'.Ns1 dx (fun y => if y = "letter" then some v else none)
/-- an error that is made -/
structure Made1 (h h' : Heap) (e C d : Addr) (v : Value) : Prop where
  keep : ∀ b o, h.get? b = some o → h'.get? b = some o
  new : h.objs.size ≤ e
  obj : ∃ t1 : Addr, h'.get? e = some { cls := .ref C, dict := some d, data := .fields #[.ref t1, .none, .none, .none, .bool false, .none] }
  dbig : h.objs.size ≤ d
  dne : d ≠ e
  ns : h'.Ns1 d (fun y => if y = "letter" then some v else none)
section
variable {prog : Program} {w : World} {A : Around} {E : Value → Shared → Prop} {R : Result → Shared → Prop} {s : Shared} {K : Frag} {mg : Str → Option Value} {cn qual : Str} {C fI : Addr}
theorem init1 (T : Txt K mg cn qual C fI) {x t0 : Addr} {v : Value} (X : K.In s.heap) (hlim : s.heap.NoLimit) (hx : s.heap.get? x = some (excO C t0)) (hroom : A.depth < recursionLimit)
    (hq : ∀ h' tk dx, Init1 s.heap h' x C dx t0 v → R (.ok (.ret .none)) { s with heap := h', toks := tk }) :
    codeAny (model prog w) A (.call (.ref fI) ⟨[.ref x, v], []⟩) R s := by
  obtain ⟨oc, od, doc, pm, an, cdv, ct, osl, p1, p2, q1, q2, q3, q4, ho, hcd⟩ := T.fn
  obtain ⟨nm, q, N, bs, bm, sn, sub, ab, col, dd, k0, k1, k2, k3, k5, hC, hbm⟩ := T.cls
  have hcl : clsIn K C = some { name := nm, bases := bs, mro := .ref C :: bm, ns := N, qualname := q, hasDict := true, slotNames := sn, subclasses := sub, abstract := ab, collection := col, hasDel := false } := by unfold clsIn; rw [hC] <;> rfl
  refine Att.call_fn (binds := [("self", .ref x), ("letter", v)]) X hlim ho hcd hroom (BindsTo.of_eq (by first | rfl | with_unfolding_all rfl)) (by first | rfl | decide | with_unfolding_all rfl) (fun s₁ IC => ?_) rfl rfl rfl
  obtain ⟨h₁, tk₁, rfl⟩ := IC.toInCall.same
  have k : ∀ b o, s.heap.get? b = some o → h₁.get? b = some o := IC.toInCall.keep
  have hn := IC.toInCall.ns
  have X₁ : K.In h₁ := X.keeps k
  have hx₁ := k _ _ hx
  show wpAny _ _ (execs _ _) _ _ _
  refine wpAny_execs_cons (plainObj_wpAny_Assign_Attribute ?_)
  refine ldL (v := v) hn (by first | rfl | with_unfolding_all rfl | kernel_rfl) (ldL (v := .ref x) hn (by first | rfl | with_unfolding_all rfl | kernel_rfl) ?_)
  refine set_plain X₁ (ox := excO C t0) (od := none) ⟨hx₁, rfl, rfl, trivial⟩ T.sa ?_
  refine exc_osa X₁ hx₁ hcl (show refsVE (.ref C :: bm) = true from hbm) rfl T.noN (fun h₃ tk₃ dx k₃ dn dne hx₃ hn₃ => ?_)
  show wpAny _ _ (execs _ _) _ _ _
  have z : s.heap.objs.size < h₁.objs.size := hn.lt
  exact wpAny_execs_nil (hq h₃ tk₃ dx ⟨fun b o hb e => k₃ b o hb (k b o e), hx₃, Nat.le_of_lt (Nat.lt_of_lt_of_le z dn), dne, hn₃⟩)
theorem made1 (T : Txt K mg cn qual C fI) {v : Value} (X : K.In s.heap) (hlim : s.heap.NoLimit) (hroom : A.depth + 1 < recursionLimit)
    (hq : ∀ h' tk e d, Made1 s.heap h' e C d v → R (.ok (.ret (.ref e))) { s with heap := h', toks := tk }) :
    codeAny (model prog w) A (.call (.ref C) ⟨[v], []⟩) R s := by
  obtain ⟨nm, q, N, bs, bm, sn, sub, ab, col, dd, k0, k1, k2, k3, k5, hC, hbm⟩ := T.cls
  obtain ⟨hp, g, dr, tk, os⟩ := s
  have k : ∀ b o, hp.get? b = some o → ((hp.push (kdv_tup [v])).push (excO C hp.objs.size)).get? b = some o := fun b o e => Heap.get?_push_of_some _ (Heap.get?_push_of_some _ e)
  have hget : ((hp.push (kdv_tup [v])).push (excO C hp.objs.size)).get? (hp.objs.size + 1) = some (excO C hp.objs.size) := by heap_get
  refine call_own F.excBase_ValueError (fun X => refsVE_contains X bm hbm) (X _ _ hC) (looks_findIn X T.iC) (fun self => bind_fn X self T.tC) (sz1 v) ?_
  refine init1 (s := ⟨(hp.push (kdv_tup [v])).push (excO C hp.objs.size), g, dr, tk, os⟩) T (X.keeps k) (hlim.keeps k) hget ?_ fun h' tk' dx ⟨k', hx, dn, dne, hns⟩ => ?_
  · show A.depth + 1 < recursionLimit
    exact hroom
  · have old : ∀ b o, hp.get? b = some o → h'.get? b = some o := fun b o e => k' b o (Nat.ne_of_lt (Nat.lt_succ_of_lt (Heap.lt_size e))) (k b o e)
    have z : hp.objs.size + 1 + 1 ≤ dx := by
      first
        | (simpa only [Heap.size_push] using dn)
        | exact dn
        | (have q := dn; rw [Heap.size_push, Heap.size_push] at q; exact q)
    exact ⟨rfl, hq h' tk' (hp.objs.size + 1) dx ⟨old, Nat.le_succ _, ⟨_, hx⟩, Nat.le_trans (Nat.le_trans (Nat.le_succ _) (Nat.le_succ _)) z, dne, hns⟩⟩
end
end EXletter
end PySem
namespace L2N
open PySem PySem.Spec PyProof.Rows L2
theorem relOletter {v : V} {v' : Value} (r : RelV v v') (f : Str) : RelO (List.lookup f [(("letter" : Str), v)]) (if f = "letter" then some v' else none) := by
  by_cases hw : f = "letter"
  · subst hw
    rw [if_pos rfl]
    have q : List.lookup ("letter" : Str) [(("letter" : Str), v)] = some v := by simp [List.lookup]
    rw [q]; exact r
  · rw [if_neg hw]
    have qw : (f == ("letter" : Str)) = false := by simpa using hw
    have q2 : List.lookup f [(("letter" : Str), v)] = none := by simp [List.lookup, qw]
    rw [q2]; trivial
section
variable {X : Cx} {C fI : Addr} {cn qual : Str}
theorem pmkletter {a : Expr} {ta : TA} {p pos : Pos} {k : Nat} (T : PySem.EXletter.Txt X.K X.mg cn qual C fI) (hr : Room k X.A) (ha : PA X [a] ta) (hg : Gl X cn) (hdb : (cn == ("__debug__" : Str)) = false := by decide)
    (he : starEach (a :: []) X.env = (false, eval a X.env) :: starEach [] X.env := by rfl) (hpl : (backTo pos (starEach [] X.env)).any (·.1) = false := by rfl) :
    PMk X (.Call (.Name cn p) [a] [] pos) (AL.tMk1 C "letter" ta) := by
  intro pins s σ H Q I h
  refine wpAny_Call_Name_kw (ld_glob I hg T.gC ?_ hdb)
  refine PySem.W.callWith_K (h₀ := X.base) I.ok.mod.kin T.kC (thn (ha.run pos pins s σ H _ I h) fun us s1 hh => ?_) he hpl
  obtain ⟨vs, H1, I1, r1, v, ev, q1⟩ := hh
  subst ev
  refine ⟨I1.kIn, ?_⟩
  cases r1 with
  | cons rv rn =>
    rename_i v' us'
    cases rn
    show wpAny _ _ (call (.ref C) [v']) _ _ _
    have hlim := I1.nolimit
    obtain ⟨hp, g, dr, tk, os⟩ := s1
    refine wpAny_call (PySem.EXletter.made1 T I1.kIn hlim (by have := hr.dp; omega) fun h' tk' e d M => ?_)
    show MkP X pins σ Q (.ref e) ⟨h', g, dr, tk', os⟩
    obtain ⟨t1, hoe⟩ := M.obj
    have hns := M.ns
    obtain ⟨G', g1, g2⟩ := restrict h' fun b => decide (b ≠ e)
    have gk : ∀ b, b ≠ e → G'.get? b = h'.get? b := fun b hb => g1 b (decide_eq_true hb)
    have ge : G'.get? e = none := g2 e (by simp)
    have old : ∀ b o, hp.get? b = some o → G'.get? b = some o := fun b o q => (gk b (Nat.ne_of_lt (Nat.lt_of_lt_of_le (Heap.lt_size q) M.new))).trans (M.keep b o q)
    have ob : ObjOk X.prog X.w (upd H1 d (.xd [(("letter" : Str), v)])) G' d (.xd [(("letter" : Str), v)]) :=
      ⟨_, hns.at (fun o q => (gk d M.dne).trans q), fun f => relOletter rv f⟩
    have J : Inv X pins σ (upd H1 d (.xd [(("letter" : Str), v)])) ⟨G', g, dr, tk', os⟩ := I1.laid (t' := tk') old M.dbig ob
    refine ⟨e, _, _, ⟨G', g, dr, tk', os⟩, _, .ref C, some d, rfl, J, fun b o q => ?_, ge, hoe, ⟨rfl, rfl, fun vs z => by cases z; rfl⟩, rfl, rfl, ?_, rfl, I1.bare, raises_own T.exC T.tyC, q1 d (I1.hok.fresh M.dbig)⟩
    · by_cases hb : b = e
      · have q' : G'.get? b = some o := q
        rw [hb, ge] at q'; cases q'
      · exact (gk b hb).symm.trans q
    · rw [upd_ne (Ne.symm M.dne)]
      exact I1.hok.fresh M.new
end
end L2N
namespace PySem
namespace EXmany
open PySem.W PySem.Calls PyProof.Rows PySem.HandSPX
def arA (p1 p2 : Pos) : Arguments := { posonlyargs := [], args := [{ arg := "self", annotation := none, pos := p1 }, { arg := "many", annotation := none, pos := p2 }], vararg := none, kwonlyargs := [], kw_defaults := [], kwarg := none, defaults := [] }
def boB (q1 q2 q3 q4 : Pos) : List Stmt := [.Assign [.Attribute (.Name "self" q1) "many" q2] (.Name "many" q3) q4]
def scS : Scope := { kind := .function, names := [(PySem.Str.ofString "self", .local), (PySem.Str.ofString "many", .local)], isGenerator := false, isCoroutine := false, more := [] }
/-- the written part of such a class, cn at C, its __init__ at fI -/
structure Txt (K : Frag) (mg : Str → Option Value) (cn qual : Str) (C fI : Addr) : Prop where
  gC : mg cn = some (.ref C)
  cls : ∃ nm q N bs bm sn sub ab col dd k0 k1 k2 k3 k5, K.lookup C = some (excClassObj nm q C N bs bm true sn sub ab col dd k0 k1 k2 k3 k5 "ValueError.__new__") ∧ refsVE bm = true
  sa : findIn K (.ref C) "__setattr__" = some (some (.builtin "object.__setattr__"))
  noN : findIn K (.ref C) "many" = some none
  iC : findIn K (.ref C) "__init__" = some (some (.ref fI))
  tC : typeIn K (.ref fI) = some (.type "function")
  kC : keepIn K (.ref C) = true
  exC : subIn K (.ref C) (.type "BaseException") = some true
  tyC : typeIn K (.ref C) = some (.type "type")
  fn : ∃ (oc : Value) (od : Option Addr) (doc pm : Value) (an : Option Addr) (cdv ct : Value) (osl : Array (Option Value)) (p1 p2 q1 q2 q3 q4 : Pos),
    K.lookup fI = some ⟨oc, od, .func (fnOf "__init__" qual (arA p1 p2) (boB q1 q2 q3 q4) scS .none .none doc pm an cdv ct), osl⟩ ∧ codeIn K cdv qual = true
theorem sz1 (v : Value) : [v].length ≤ sizeLine := by rw [sizeLine_eq]; exact (by decide : 1 ≤ 16777216)
theorem ldL {M : Model} {s : Shared} {name : Str} {scope : Scope} {L a : Addr} {cd : Value} {m : Str → Option Value} {x : Str} {pos : Pos} {v : Value} {Q : Value → Shared → Prop} {A : Around} {E : Value → Shared → Prop} (hn : s.heap.Ns L m) (hv : m x = some v) (h : Q v s)
    (hk : scope.kind = .function := by rfl) (hl : (envOfC name scope L a cd).kindOf x = some .local := by rfl) (hd : (x == ("__debug__" : Str)) = false := by decide) :
    wpAny M A (eval (.Name x pos) (envOfC name scope L a cd)) Q E s := wpAny_Name (wpAny_loadName_local hk hl hn hv h) hd
/-- a new error behind its __init__ -/
structure Init1 (h h' : Heap) (x C dx t1 : Addr) (v : Value) : Prop where
  keep : ∀ b o, b ≠ x → h.get? b = some o → h'.get? b = some o
  obj : h'.get? x = some { cls := .ref C, dict := some dx, data := .fields #[.ref t1, .none, .none, .none, .bool false, .none] }
  dbig : h.objs.size ≤ dx
  dne : dx ≠ x
  ns : h'.Ns1 dx (fun y => if y = "many" then some v else none)
/-- an error that is made -/
structure Made1 (h h' : Heap) (e C d : Addr) (v : Value) : Prop where
  keep : ∀ b o, h.get? b = some o → h'.get? b = some o
  new : h.objs.size ≤ e
  obj : ∃ t1 : Addr, h'.get? e = some { cls := .ref C, dict := some d, data := .fields #[.ref t1, .none, .none, .none, .bool false, .none] }
  dbig : h.objs.size ≤ d
  dne : d ≠ e
  ns : h'.Ns1 d (fun y => if y = "many" then some v else none)
section
variable {prog : Program} {w : World} {A : Around} {E : Value → Shared → Prop} {R : Result → Shared → Prop} {s : Shared} {K : Frag} {mg : Str → Option Value} {cn qual : Str} {C fI : Addr}
theorem init1 (T : Txt K mg cn qual C fI) {x t0 : Addr} {v : Value} (X : K.In s.heap) (hlim : s.heap.NoLimit) (hx : s.heap.get? x = some (excO C t0)) (hroom : A.depth < recursionLimit)
    (hq : ∀ h' tk dx, Init1 s.heap h' x C dx t0 v → R (.ok (.ret .none)) { s with heap := h', toks := tk }) :
    codeAny (model prog w) A (.call (.ref fI) ⟨[.ref x, v], []⟩) R s := by
  obtain ⟨oc, od, doc, pm, an, cdv, ct, osl, p1, p2, q1, q2, q3, q4, ho, hcd⟩ := T.fn
  obtain ⟨nm, q, N, bs, bm, sn, sub, ab, col, dd, k0, k1, k2, k3, k5, hC, hbm⟩ := T.cls
  have hcl : clsIn K C = some { name := nm, bases := bs, mro := .ref C :: bm, ns := N, qualname := q, hasDict := true, slotNames := sn, subclasses := sub, abstract := ab, collection := col, hasDel := false } := by unfold clsIn; rw [hC] <;> rfl
  refine Att.call_fn (binds := [("self", .ref x), ("many", v)]) X hlim ho hcd hroom (BindsTo.of_eq (by first | rfl | with_unfolding_all rfl)) (by first | rfl | decide | with_unfolding_all rfl) (fun s₁ IC => ?_) rfl rfl rfl
  obtain ⟨h₁, tk₁, rfl⟩ := IC.toInCall.same
  have k : ∀ b o, s.heap.get? b = some o → h₁.get? b = some o := IC.toInCall.keep
  have hn := IC.toInCall.ns
  have X₁ : K.In h₁ := X.keeps k
  have hx₁ := k _ _ hx
  show wpAny _ _ (execs _ _) _ _ _
  refine wpAny_execs_cons (plainObj_wpAny_Assign_Attribute ?_)
  refine ldL (v := v) hn (by first | rfl | with_unfolding_all rfl | kernel_rfl) (ldL (v := .ref x) hn (by first | rfl | with_unfolding_all rfl | kernel_rfl) ?_)
  refine set_plain X₁ (ox := excO C t0) (od := none) ⟨hx₁, rfl, rfl, trivial⟩ T.sa ?_
  refine exc_osa X₁ hx₁ hcl (show refsVE (.ref C :: bm) = true from hbm) rfl T.noN (fun h₃ tk₃ dx k₃ dn dne hx₃ hn₃ => ?_)
  show wpAny _ _ (execs _ _) _ _ _
  have z : s.heap.objs.size < h₁.objs.size := hn.lt
  exact wpAny_execs_nil (hq h₃ tk₃ dx ⟨fun b o hb e => k₃ b o hb (k b o e), hx₃, Nat.le_of_lt (Nat.lt_of_lt_of_le z dn), dne, hn₃⟩)
theorem made1 (T : Txt K mg cn qual C fI) {v : Value} (X : K.In s.heap) (hlim : s.heap.NoLimit) (hroom : A.depth + 1 < recursionLimit)
    (hq : ∀ h' tk e d, Made1 s.heap h' e C d v → R (.ok (.ret (.ref e))) { s with heap := h', toks := tk }) :
    codeAny (model prog w) A (.call (.ref C) ⟨[v], []⟩) R s := by
  obtain ⟨nm, q, N, bs, bm, sn, sub, ab, col, dd, k0, k1, k2, k3, k5, hC, hbm⟩ := T.cls
  obtain ⟨hp, g, dr, tk, os⟩ := s
  have k : ∀ b o, hp.get? b = some o → ((hp.push (kdv_tup [v])).push (excO C hp.objs.size)).get? b = some o := fun b o e => Heap.get?_push_of_some _ (Heap.get?_push_of_some _ e)
  have hget : ((hp.push (kdv_tup [v])).push (excO C hp.objs.size)).get? (hp.objs.size + 1) = some (excO C hp.objs.size) := by heap_get
  refine call_own F.excBase_ValueError (fun X => refsVE_contains X bm hbm) (X _ _ hC) (looks_findIn X T.iC) (fun self => bind_fn X self T.tC) (sz1 v) ?_
  refine init1 (s := ⟨(hp.push (kdv_tup [v])).push (excO C hp.objs.size), g, dr, tk, os⟩) T (X.keeps k) (hlim.keeps k) hget ?_ fun h' tk' dx ⟨k', hx, dn, dne, hns⟩ => ?_
  · show A.depth + 1 < recursionLimit
    exact hroom
  · have old : ∀ b o, hp.get? b = some o → h'.get? b = some o := fun b o e => k' b o (Nat.ne_of_lt (Nat.lt_succ_of_lt (Heap.lt_size e))) (k b o e)
    have z : hp.objs.size + 1 + 1 ≤ dx := by
      first
        | (simpa only [Heap.size_push] using dn)
        | exact dn
        | (have q := dn; rw [Heap.size_push, Heap.size_push] at q; exact q)
    exact ⟨rfl, hq h' tk' (hp.objs.size + 1) dx ⟨old, Nat.le_succ _, ⟨_, hx⟩, Nat.le_trans (Nat.le_trans (Nat.le_succ _) (Nat.le_succ _)) z, dne, hns⟩⟩
end
end EXmany
end PySem
namespace L2N
open PySem PySem.Spec PyProof.Rows L2
theorem relOmany {v : V} {v' : Value} (r : RelV v v') (f : Str) : RelO (List.lookup f [(("many" : Str), v)]) (if f = "many" then some v' else none) := by
  by_cases hw : f = "many"
  · subst hw
    rw [if_pos rfl]
    have q : List.lookup ("many" : Str) [(("many" : Str), v)] = some v := by simp [List.lookup]
    rw [q]; exact r
  · rw [if_neg hw]
    have qw : (f == ("many" : Str)) = false := by simpa using hw
    have q2 : List.lookup f [(("many" : Str), v)] = none := by simp [List.lookup, qw]
    rw [q2]; trivial
section
variable {X : Cx} {C fI : Addr} {cn qual : Str}
theorem pmkmany {a : Expr} {ta : TA} {p pos : Pos} {k : Nat} (T : PySem.EXmany.Txt X.K X.mg cn qual C fI) (hr : Room k X.A) (ha : PA X [a] ta) (hg : Gl X cn) (hdb : (cn == ("__debug__" : Str)) = false := by decide)
    (he : starEach (a :: []) X.env = (false, eval a X.env) :: starEach [] X.env := by rfl) (hpl : (backTo pos (starEach [] X.env)).any (·.1) = false := by rfl) :
    PMk X (.Call (.Name cn p) [a] [] pos) (AL.tMk1 C "many" ta) := by
  intro pins s σ H Q I h
  refine wpAny_Call_Name_kw (ld_glob I hg T.gC ?_ hdb)
  refine PySem.W.callWith_K (h₀ := X.base) I.ok.mod.kin T.kC (thn (ha.run pos pins s σ H _ I h) fun us s1 hh => ?_) he hpl
  obtain ⟨vs, H1, I1, r1, v, ev, q1⟩ := hh
  subst ev
  refine ⟨I1.kIn, ?_⟩
  cases r1 with
  | cons rv rn =>
    rename_i v' us'
    cases rn
    show wpAny _ _ (call (.ref C) [v']) _ _ _
    have hlim := I1.nolimit
    obtain ⟨hp, g, dr, tk, os⟩ := s1
    refine wpAny_call (PySem.EXmany.made1 T I1.kIn hlim (by have := hr.dp; omega) fun h' tk' e d M => ?_)
    show MkP X pins σ Q (.ref e) ⟨h', g, dr, tk', os⟩
    obtain ⟨t1, hoe⟩ := M.obj
    have hns := M.ns
    obtain ⟨G', g1, g2⟩ := restrict h' fun b => decide (b ≠ e)
    have gk : ∀ b, b ≠ e → G'.get? b = h'.get? b := fun b hb => g1 b (decide_eq_true hb)
    have ge : G'.get? e = none := g2 e (by simp)
    have old : ∀ b o, hp.get? b = some o → G'.get? b = some o := fun b o q => (gk b (Nat.ne_of_lt (Nat.lt_of_lt_of_le (Heap.lt_size q) M.new))).trans (M.keep b o q)
    have ob : ObjOk X.prog X.w (upd H1 d (.xd [(("many" : Str), v)])) G' d (.xd [(("many" : Str), v)]) :=
      ⟨_, hns.at (fun o q => (gk d M.dne).trans q), fun f => relOmany rv f⟩
    have J : Inv X pins σ (upd H1 d (.xd [(("many" : Str), v)])) ⟨G', g, dr, tk', os⟩ := I1.laid (t' := tk') old M.dbig ob
    refine ⟨e, _, _, ⟨G', g, dr, tk', os⟩, _, .ref C, some d, rfl, J, fun b o q => ?_, ge, hoe, ⟨rfl, rfl, fun vs z => by cases z; rfl⟩, rfl, rfl, ?_, rfl, I1.bare, raises_own T.exC T.tyC, q1 d (I1.hok.fresh M.dbig)⟩
    · by_cases hb : b = e
      · have q' : G'.get? b = some o := q
        rw [hb, ge] at q'; cases q'
      · exact (gk b hb).symm.trans q
    · rw [upd_ne (Ne.symm M.dne)]
      exact I1.hok.fresh M.new
end
end L2N
namespace PySem
namespace EXblock
open PySem.W PySem.Calls PyProof.Rows PySem.HandSPX
def arA (p1 p2 : Pos) : Arguments := { posonlyargs := [], args := [{ arg := "self", annotation := none, pos := p1 }, { arg := "block", annotation := none, pos := p2 }], vararg := none, kwonlyargs := [], kw_defaults := [], kwarg := none, defaults := [] }
def boB (q1 q2 q3 q4 : Pos) : List Stmt := [.Assign [.Attribute (.Name "self" q1) "block" q2] (.Name "block" q3) q4]
def scS : Scope := { kind := .function, names := [(PySem.Str.ofString "self", .local), (PySem.Str.ofString "block", .local)], isGenerator := false, isCoroutine := false, more := [] }
/-- the written part of such a class, cn at C, its __init__ at fI -/
structure Txt (K : Frag) (mg : Str → Option Value) (cn qual : Str) (C fI : Addr) : Prop where
  gC : mg cn = some (.ref C)
  cls : ∃ nm q N bs bm sn sub ab col dd k0 k1 k2 k3 k5, K.lookup C = some (excClassObj nm q C N bs bm true sn sub ab col dd k0 k1 k2 k3 k5 "ValueError.__new__") ∧ refsVE bm = true
  sa : findIn K (.ref C) "__setattr__" = some (some (.builtin "object.__setattr__"))
  noN : findIn K (.ref C) "block" = some none
  iC : findIn K (.ref C) "__init__" = some (some (.ref fI))
  tC : typeIn K (.ref fI) = some (.type "function")
  kC : keepIn K (.ref C) = true
  exC : subIn K (.ref C) (.type "BaseException") = some true
  tyC : typeIn K (.ref C) = some (.type "type")
  fn : ∃ (oc : Value) (od : Option Addr) (doc pm : Value) (an : Option Addr) (cdv ct : Value) (osl : Array (Option Value)) (p1 p2 q1 q2 q3 q4 : Pos),
    K.lookup fI = some ⟨oc, od, .func (fnOf "__init__" qual (arA p1 p2) (boB q1 q2 q3 q4) scS .none .none doc pm an cdv ct), osl⟩ ∧ codeIn K cdv qual = true
theorem sz1 (v : Value) : [v].length ≤ sizeLine := by rw [sizeLine_eq]; exact (by decide : 1 ≤ 16777216)
theorem ldL {M : Model} {s : Shared} {name : Str} {scope : Scope} {L a : Addr} {cd : Value} {m : Str → Option Value} {x : Str} {pos : Pos} {v : Value} {Q : Value → Shared → Prop} {A : Around} {E : Value → Shared → Prop} (hn : s.heap.Ns L m) (hv : m x = some v) (h : Q v s)
    (hk : scope.kind = .function := by rfl) (hl : (envOfC name scope L a cd).kindOf x = some .local := by rfl) (hd : (x == ("__debug__" : Str)) = false := by decide) :
    wpAny M A (eval (.Name x pos) (envOfC name scope L a cd)) Q E s := wpAny_Name (wpAny_loadName_local hk hl hn hv h) hd
/-- a new error behind its __init__ -/
structure Init1 (h h' : Heap) (x C dx t1 : Addr) (v : Value) : Prop where
  keep : ∀ b o, b ≠ x → h.get? b = some o → h'.get? b = some o
  obj : h'.get? x = some { cls := .ref C, dict := some dx, data := .fields #[.ref t1, .none, .none, .none, .bool false, .none] }
  dbig : h.objs.size ≤ dx
  dne : dx ≠ x
  ns : h'.Ns1 dx (fun y => if y = "block" then some v else none)
/-- an error that is made -/
structure Made1 (h h' : Heap) (e C d : Addr) (v : Value) : Prop where
  keep : ∀ b o, h.get? b = some o → h'.get? b = some o
  new : h.objs.size ≤ e
  obj : ∃ t1 : Addr, h'.get? e = some { cls := .ref C, dict := some d, data := .fields #[.ref t1, .none, .none, .none, .bool false, .none] }
  dbig : h.objs.size ≤ d
  dne : d ≠ e
  ns : h'.Ns1 d (fun y => if y = "block" then some v else none)
section
variable {prog : Program} {w : World} {A : Around} {E : Value → Shared → Prop} {R : Result → Shared → Prop} {s : Shared} {K : Frag} {mg : Str → Option Value} {cn qual : Str} {C fI : Addr}
theorem init1 (T : Txt K mg cn qual C fI) {x t0 : Addr} {v : Value} (X : K.In s.heap) (hlim : s.heap.NoLimit) (hx : s.heap.get? x = some (excO C t0)) (hroom : A.depth < recursionLimit)
    (hq : ∀ h' tk dx, Init1 s.heap h' x C dx t0 v → R (.ok (.ret .none)) { s with heap := h', toks := tk }) :
    codeAny (model prog w) A (.call (.ref fI) ⟨[.ref x, v], []⟩) R s := by
  obtain ⟨oc, od, doc, pm, an, cdv, ct, osl, p1, p2, q1, q2, q3, q4, ho, hcd⟩ := T.fn
  obtain ⟨nm, q, N, bs, bm, sn, sub, ab, col, dd, k0, k1, k2, k3, k5, hC, hbm⟩ := T.cls
  have hcl : clsIn K C = some { name := nm, bases := bs, mro := .ref C :: bm, ns := N, qualname := q, hasDict := true, slotNames := sn, subclasses := sub, abstract := ab, collection := col, hasDel := false } := by unfold clsIn; rw [hC] <;> rfl
  refine Att.call_fn (binds := [("self", .ref x), ("block", v)]) X hlim ho hcd hroom (BindsTo.of_eq (by first | rfl | with_unfolding_all rfl)) (by first | rfl | decide | with_unfolding_all rfl) (fun s₁ IC => ?_) rfl rfl rfl
  obtain ⟨h₁, tk₁, rfl⟩ := IC.toInCall.same
  have k : ∀ b o, s.heap.get? b = some o → h₁.get? b = some o := IC.toInCall.keep
  have hn := IC.toInCall.ns
  have X₁ : K.In h₁ := X.keeps k
  have hx₁ := k _ _ hx
  show wpAny _ _ (execs _ _) _ _ _
  refine wpAny_execs_cons (plainObj_wpAny_Assign_Attribute ?_)
  refine ldL (v := v) hn (by first | rfl | with_unfolding_all rfl | kernel_rfl) (ldL (v := .ref x) hn (by first | rfl | with_unfolding_all rfl | kernel_rfl) ?_)
  refine set_plain X₁ (ox := excO C t0) (od := none) ⟨hx₁, rfl, rfl, trivial⟩ T.sa ?_
  refine exc_osa X₁ hx₁ hcl (show refsVE (.ref C :: bm) = true from hbm) rfl T.noN (fun h₃ tk₃ dx k₃ dn dne hx₃ hn₃ => ?_)
  show wpAny _ _ (execs _ _) _ _ _
  have z : s.heap.objs.size < h₁.objs.size := hn.lt
  exact wpAny_execs_nil (hq h₃ tk₃ dx ⟨fun b o hb e => k₃ b o hb (k b o e), hx₃, Nat.le_of_lt (Nat.lt_of_lt_of_le z dn), dne, hn₃⟩)
theorem made1 (T : Txt K mg cn qual C fI) {v : Value} (X : K.In s.heap) (hlim : s.heap.NoLimit) (hroom : A.depth + 1 < recursionLimit)
    (hq : ∀ h' tk e d, Made1 s.heap h' e C d v → R (.ok (.ret (.ref e))) { s with heap := h', toks := tk }) :
    codeAny (model prog w) A (.call (.ref C) ⟨[v], []⟩) R s := by
  obtain ⟨nm, q, N, bs, bm, sn, sub, ab, col, dd, k0, k1, k2, k3, k5, hC, hbm⟩ := T.cls
  obtain ⟨hp, g, dr, tk, os⟩ := s
  have k : ∀ b o, hp.get? b = some o → ((hp.push (kdv_tup [v])).push (excO C hp.objs.size)).get? b = some o := fun b o e => Heap.get?_push_of_some _ (Heap.get?_push_of_some _ e)
  have hget : ((hp.push (kdv_tup [v])).push (excO C hp.objs.size)).get? (hp.objs.size + 1) = some (excO C hp.objs.size) := by heap_get
  refine call_own F.excBase_ValueError (fun X => refsVE_contains X bm hbm) (X _ _ hC) (looks_findIn X T.iC) (fun self => bind_fn X self T.tC) (sz1 v) ?_
  refine init1 (s := ⟨(hp.push (kdv_tup [v])).push (excO C hp.objs.size), g, dr, tk, os⟩) T (X.keeps k) (hlim.keeps k) hget ?_ fun h' tk' dx ⟨k', hx, dn, dne, hns⟩ => ?_
  · show A.depth + 1 < recursionLimit
    exact hroom
  · have old : ∀ b o, hp.get? b = some o → h'.get? b = some o := fun b o e => k' b o (Nat.ne_of_lt (Nat.lt_succ_of_lt (Heap.lt_size e))) (k b o e)
    have z : hp.objs.size + 1 + 1 ≤ dx := by
      first
        | (simpa only [Heap.size_push] using dn)
        | exact dn
        | (have q := dn; rw [Heap.size_push, Heap.size_push] at q; exact q)
    exact ⟨rfl, hq h' tk' (hp.objs.size + 1) dx ⟨old, Nat.le_succ _, ⟨_, hx⟩, Nat.le_trans (Nat.le_trans (Nat.le_succ _) (Nat.le_succ _)) z, dne, hns⟩⟩
end
end EXblock
end PySem
namespace L2N
open PySem PySem.Spec PyProof.Rows L2
theorem relOblock {v : V} {v' : Value} (r : RelV v v') (f : Str) : RelO (List.lookup f [(("block" : Str), v)]) (if f = "block" then some v' else none) := by
  by_cases hw : f = "block"
  · subst hw
    rw [if_pos rfl]
    have q : List.lookup ("block" : Str) [(("block" : Str), v)] = some v := by simp [List.lookup]
    rw [q]; exact r
  · rw [if_neg hw]
    have qw : (f == ("block" : Str)) = false := by simpa using hw
    have q2 : List.lookup f [(("block" : Str), v)] = none := by simp [List.lookup, qw]
    rw [q2]; trivial
section
variable {X : Cx} {C fI : Addr} {cn qual : Str}
theorem pmkblock {a : Expr} {ta : TA} {p pos : Pos} {k : Nat} (T : PySem.EXblock.Txt X.K X.mg cn qual C fI) (hr : Room k X.A) (ha : PA X [a] ta) (hg : Gl X cn) (hdb : (cn == ("__debug__" : Str)) = false := by decide)
    (he : starEach (a :: []) X.env = (false, eval a X.env) :: starEach [] X.env := by rfl) (hpl : (backTo pos (starEach [] X.env)).any (·.1) = false := by rfl) :
    PMk X (.Call (.Name cn p) [a] [] pos) (AL.tMk1 C "block" ta) := by
  intro pins s σ H Q I h
  refine wpAny_Call_Name_kw (ld_glob I hg T.gC ?_ hdb)
  refine PySem.W.callWith_K (h₀ := X.base) I.ok.mod.kin T.kC (thn (ha.run pos pins s σ H _ I h) fun us s1 hh => ?_) he hpl
  obtain ⟨vs, H1, I1, r1, v, ev, q1⟩ := hh
  subst ev
  refine ⟨I1.kIn, ?_⟩
  cases r1 with
  | cons rv rn =>
    rename_i v' us'
    cases rn
    show wpAny _ _ (call (.ref C) [v']) _ _ _
    have hlim := I1.nolimit
    obtain ⟨hp, g, dr, tk, os⟩ := s1
    refine wpAny_call (PySem.EXblock.made1 T I1.kIn hlim (by have := hr.dp; omega) fun h' tk' e d M => ?_)
    show MkP X pins σ Q (.ref e) ⟨h', g, dr, tk', os⟩
    obtain ⟨t1, hoe⟩ := M.obj
    have hns := M.ns
    obtain ⟨G', g1, g2⟩ := restrict h' fun b => decide (b ≠ e)
    have gk : ∀ b, b ≠ e → G'.get? b = h'.get? b := fun b hb => g1 b (decide_eq_true hb)
    have ge : G'.get? e = none := g2 e (by simp)
    have old : ∀ b o, hp.get? b = some o → G'.get? b = some o := fun b o q => (gk b (Nat.ne_of_lt (Nat.lt_of_lt_of_le (Heap.lt_size q) M.new))).trans (M.keep b o q)
    have ob : ObjOk X.prog X.w (upd H1 d (.xd [(("block" : Str), v)])) G' d (.xd [(("block" : Str), v)]) :=
      ⟨_, hns.at (fun o q => (gk d M.dne).trans q), fun f => relOblock rv f⟩
    have J : Inv X pins σ (upd H1 d (.xd [(("block" : Str), v)])) ⟨G', g, dr, tk', os⟩ := I1.laid (t' := tk') old M.dbig ob
    refine ⟨e, _, _, ⟨G', g, dr, tk', os⟩, _, .ref C, some d, rfl, J, fun b o q => ?_, ge, hoe, ⟨rfl, rfl, fun vs z => by cases z; rfl⟩, rfl, rfl, ?_, rfl, I1.bare, raises_own T.exC T.tyC, q1 d (I1.hok.fresh M.dbig)⟩
    · by_cases hb : b = e
      · have q' : G'.get? b = some o := q
        rw [hb, ge] at q'; cases q'
      · exact (gk b hb).symm.trans q
    · rw [upd_ne (Ne.symm M.dne)]
      exact I1.hok.fresh M.new
end
end L2N
namespace PySem
namespace EXticket
open PySem.W PySem.Calls PyProof.Rows PySem.HandSPX
def arA (p1 p2 : Pos) : Arguments := { posonlyargs := [], args := [{ arg := "self", annotation := none, pos := p1 }, { arg := "ticket", annotation := none, pos := p2 }], vararg := none, kwonlyargs := [], kw_defaults := [], kwarg := none, defaults := [] }
def boB (q1 q2 q3 q4 : Pos) : List Stmt := [.Assign [.Attribute (.Name "self" q1) "ticket" q2] (.Name "ticket" q3) q4]
def scS : Scope := { kind := .function, names := [(PySem.Str.ofString "self", .local), (PySem.Str.ofString "ticket", .local)], isGenerator := false, isCoroutine := false, more := [] }
/-- the written part of such a class, cn at C, its __init__ at fI -/
structure Txt (K : Frag) (mg : Str → Option Value) (cn qual : Str) (C fI : Addr) : Prop where
  gC : mg cn = some (.ref C)
  cls : ∃ nm q N bs bm sn sub ab col dd k0 k1 k2 k3 k5, K.lookup C = some (excClassObj nm q C N bs bm true sn sub ab col dd k0 k1 k2 k3 k5 "ValueError.__new__") ∧ refsVE bm = true
  sa : findIn K (.ref C) "__setattr__" = some (some (.builtin "object.__setattr__"))
  noN : findIn K (.ref C) "ticket" = some none
  iC : findIn K (.ref C) "__init__" = some (some (.ref fI))
  tC : typeIn K (.ref fI) = some (.type "function")
  kC : keepIn K (.ref C) = true
  exC : subIn K (.ref C) (.type "BaseException") = some true
  tyC : typeIn K (.ref C) = some (.type "type")
  fn : ∃ (oc : Value) (od : Option Addr) (doc pm : Value) (an : Option Addr) (cdv ct : Value) (osl : Array (Option Value)) (p1 p2 q1 q2 q3 q4 : Pos),
    K.lookup fI = some ⟨oc, od, .func (fnOf "__init__" qual (arA p1 p2) (boB q1 q2 q3 q4) scS .none .none doc pm an cdv ct), osl⟩ ∧ codeIn K cdv qual = true
theorem sz1 (v : Value) : [v].length ≤ sizeLine := by rw [sizeLine_eq]; exact (by decide : 1 ≤ 16777216)
theorem ldL {M : Model} {s : Shared} {name : Str} {scope : Scope} {L a : Addr} {cd : Value} {m : Str → Option Value} {x : Str} {pos : Pos} {v : Value} {Q : Value → Shared → Prop} {A : Around} {E : Value → Shared → Prop} (hn : s.heap.Ns L m) (hv : m x = some v) (h : Q v s)
    (hk : scope.kind = .function := by rfl) (hl : (envOfC name scope L a cd).kindOf x = some .local := by rfl) (hd : (x == ("__debug__" : Str)) = false := by decide) :
    wpAny M A (eval (.Name x pos) (envOfC name scope L a cd)) Q E s := wpAny_Name (wpAny_loadName_local hk hl hn hv h) hd
/-- a new error behind its __init__ -/
structure Init1 (h h' : Heap) (x C dx t1 : Addr) (v : Value) : Prop where
  keep : ∀ b o, b ≠ x → h.get? b = some o → h'.get? b = some o
  obj : h'.get? x = some { cls := .ref C, dict := some dx, data := .fields #[.ref t1, .none, .none, .none, .bool false, .none] }
  dbig : h.objs.size ≤ dx
  dne : dx ≠ x
  ns : h'.Ns1 dx (fun y => if y = "ticket" then some v else none)
/-- an error that is made -/
structure Made1 (h h' : Heap) (e C d : Addr) (v : Value) : Prop where
  keep : ∀ b o, h.get? b = some o → h'.get? b = some o
  new : h.objs.size ≤ e
  obj : ∃ t1 : Addr, h'.get? e = some { cls := .ref C, dict := some d, data := .fields #[.ref t1, .none, .none, .none, .bool false, .none] }
  dbig : h.objs.size ≤ d
  dne : d ≠ e
  ns : h'.Ns1 d (fun y => if y = "ticket" then some v else none)
section
variable {prog : Program} {w : World} {A : Around} {E : Value → Shared → Prop} {R : Result → Shared → Prop} {s : Shared} {K : Frag} {mg : Str → Option Value} {cn qual : Str} {C fI : Addr}
theorem init1 (T : Txt K mg cn qual C fI) {x t0 : Addr} {v : Value} (X : K.In s.heap) (hlim : s.heap.NoLimit) (hx : s.heap.get? x = some (excO C t0)) (hroom : A.depth < recursionLimit)
    (hq : ∀ h' tk dx, Init1 s.heap h' x C dx t0 v → R (.ok (.ret .none)) { s with heap := h', toks := tk }) :
    codeAny (model prog w) A (.call (.ref fI) ⟨[.ref x, v], []⟩) R s := by
  obtain ⟨oc, od, doc, pm, an, cdv, ct, osl, p1, p2, q1, q2, q3, q4, ho, hcd⟩ := T.fn
  obtain ⟨nm, q, N, bs, bm, sn, sub, ab, col, dd, k0, k1, k2, k3, k5, hC, hbm⟩ := T.cls
  have hcl : clsIn K C = some { name := nm, bases := bs, mro := .ref C :: bm, ns := N, qualname := q, hasDict := true, slotNames := sn, subclasses := sub, abstract := ab, collection := col, hasDel := false } := by unfold clsIn; rw [hC] <;> rfl
  refine Att.call_fn (binds := [("self", .ref x), ("ticket", v)]) X hlim ho hcd hroom (BindsTo.of_eq (by first | rfl | with_unfolding_all rfl)) (by first | rfl | decide | with_unfolding_all rfl) (fun s₁ IC => ?_) rfl rfl rfl
  obtain ⟨h₁, tk₁, rfl⟩ := IC.toInCall.same
  have k : ∀ b o, s.heap.get? b = some o → h₁.get? b = some o := IC.toInCall.keep
  have hn := IC.toInCall.ns
  have X₁ : K.In h₁ := X.keeps k
  have hx₁ := k _ _ hx
  show wpAny _ _ (execs _ _) _ _ _
  refine wpAny_execs_cons (plainObj_wpAny_Assign_Attribute ?_)
  refine ldL (v := v) hn (by first | rfl | with_unfolding_all rfl | kernel_rfl) (ldL (v := .ref x) hn (by first | rfl | with_unfolding_all rfl | kernel_rfl) ?_)
  refine set_plain X₁ (ox := excO C t0) (od := none) ⟨hx₁, rfl, rfl, trivial⟩ T.sa ?_
  refine exc_osa X₁ hx₁ hcl (show refsVE (.ref C :: bm) = true from hbm) rfl T.noN (fun h₃ tk₃ dx k₃ dn dne hx₃ hn₃ => ?_)
  show wpAny _ _ (execs _ _) _ _ _
  have z : s.heap.objs.size < h₁.objs.size := hn.lt
  exact wpAny_execs_nil (hq h₃ tk₃ dx ⟨fun b o hb e => k₃ b o hb (k b o e), hx₃, Nat.le_of_lt (Nat.lt_of_lt_of_le z dn), dne, hn₃⟩)
theorem made1 (T : Txt K mg cn qual C fI) {v : Value} (X : K.In s.heap) (hlim : s.heap.NoLimit) (hroom : A.depth + 1 < recursionLimit)
    (hq : ∀ h' tk e d, Made1 s.heap h' e C d v → R (.ok (.ret (.ref e))) { s with heap := h', toks := tk }) :
    codeAny (model prog w) A (.call (.ref C) ⟨[v], []⟩) R s := by
  obtain ⟨nm, q, N, bs, bm, sn, sub, ab, col, dd, k0, k1, k2, k3, k5, hC, hbm⟩ := T.cls
  obtain ⟨hp, g, dr, tk, os⟩ := s
  have k : ∀ b o, hp.get? b = some o → ((hp.push (kdv_tup [v])).push (excO C hp.objs.size)).get? b = some o := fun b o e => Heap.get?_push_of_some _ (Heap.get?_push_of_some _ e)
  have hget : ((hp.push (kdv_tup [v])).push (excO C hp.objs.size)).get? (hp.objs.size + 1) = some (excO C hp.objs.size) := by heap_get
  refine call_own F.excBase_ValueError (fun X => refsVE_contains X bm hbm) (X _ _ hC) (looks_findIn X T.iC) (fun self => bind_fn X self T.tC) (sz1 v) ?_
  refine init1 (s := ⟨(hp.push (kdv_tup [v])).push (excO C hp.objs.size), g, dr, tk, os⟩) T (X.keeps k) (hlim.keeps k) hget ?_ fun h' tk' dx ⟨k', hx, dn, dne, hns⟩ => ?_
  · show A.depth + 1 < recursionLimit
    exact hroom
  · have old : ∀ b o, hp.get? b = some o → h'.get? b = some o := fun b o e => k' b o (Nat.ne_of_lt (Nat.lt_succ_of_lt (Heap.lt_size e))) (k b o e)
    have z : hp.objs.size + 1 + 1 ≤ dx := by
      first
        | (simpa only [Heap.size_push] using dn)
        | exact dn
        | (have q := dn; rw [Heap.size_push, Heap.size_push] at q; exact q)
    exact ⟨rfl, hq h' tk' (hp.objs.size + 1) dx ⟨old, Nat.le_succ _, ⟨_, hx⟩, Nat.le_trans (Nat.le_trans (Nat.le_succ _) (Nat.le_succ _)) z, dne, hns⟩⟩
end
end EXticket
end PySem
namespace L2N
open PySem PySem.Spec PyProof.Rows L2
theorem relOticket {v : V} {v' : Value} (r : RelV v v') (f : Str) : RelO (List.lookup f [(("ticket" : Str), v)]) (if f = "ticket" then some v' else none) := by
  by_cases hw : f = "ticket"
  · subst hw
    rw [if_pos rfl]
    have q : List.lookup ("ticket" : Str) [(("ticket" : Str), v)] = some v := by simp [List.lookup]
    rw [q]; exact r
  · rw [if_neg hw]
    have qw : (f == ("ticket" : Str)) = false := by simpa using hw
    have q2 : List.lookup f [(("ticket" : Str), v)] = none := by simp [List.lookup, qw]
    rw [q2]; trivial
section
variable {X : Cx} {C fI : Addr} {cn qual : Str}
theorem pmkticket {a : Expr} {ta : TA} {p pos : Pos} {k : Nat} (T : PySem.EXticket.Txt X.K X.mg cn qual C fI) (hr : Room k X.A) (ha : PA X [a] ta) (hg : Gl X cn) (hdb : (cn == ("__debug__" : Str)) = false := by decide)
    (he : starEach (a :: []) X.env = (false, eval a X.env) :: starEach [] X.env := by rfl) (hpl : (backTo pos (starEach [] X.env)).any (·.1) = false := by rfl) :
    PMk X (.Call (.Name cn p) [a] [] pos) (AL.tMk1 C "ticket" ta) := by
  intro pins s σ H Q I h
  refine wpAny_Call_Name_kw (ld_glob I hg T.gC ?_ hdb)
  refine PySem.W.callWith_K (h₀ := X.base) I.ok.mod.kin T.kC (thn (ha.run pos pins s σ H _ I h) fun us s1 hh => ?_) he hpl
  obtain ⟨vs, H1, I1, r1, v, ev, q1⟩ := hh
  subst ev
  refine ⟨I1.kIn, ?_⟩
  cases r1 with
  | cons rv rn =>
    rename_i v' us'
    cases rn
    show wpAny _ _ (call (.ref C) [v']) _ _ _
    have hlim := I1.nolimit
    obtain ⟨hp, g, dr, tk, os⟩ := s1
    refine wpAny_call (PySem.EXticket.made1 T I1.kIn hlim (by have := hr.dp; omega) fun h' tk' e d M => ?_)
    show MkP X pins σ Q (.ref e) ⟨h', g, dr, tk', os⟩
    obtain ⟨t1, hoe⟩ := M.obj
    have hns := M.ns
    obtain ⟨G', g1, g2⟩ := restrict h' fun b => decide (b ≠ e)
    have gk : ∀ b, b ≠ e → G'.get? b = h'.get? b := fun b hb => g1 b (decide_eq_true hb)
    have ge : G'.get? e = none := g2 e (by simp)
    have old : ∀ b o, hp.get? b = some o → G'.get? b = some o := fun b o q => (gk b (Nat.ne_of_lt (Nat.lt_of_lt_of_le (Heap.lt_size q) M.new))).trans (M.keep b o q)
    have ob : ObjOk X.prog X.w (upd H1 d (.xd [(("ticket" : Str), v)])) G' d (.xd [(("ticket" : Str), v)]) :=
      ⟨_, hns.at (fun o q => (gk d M.dne).trans q), fun f => relOticket rv f⟩
    have J : Inv X pins σ (upd H1 d (.xd [(("ticket" : Str), v)])) ⟨G', g, dr, tk', os⟩ := I1.laid (t' := tk') old M.dbig ob
    refine ⟨e, _, _, ⟨G', g, dr, tk', os⟩, _, .ref C, some d, rfl, J, fun b o q => ?_, ge, hoe, ⟨rfl, rfl, fun vs z => by cases z; rfl⟩, rfl, rfl, ?_, rfl, I1.bare, raises_own T.exC T.tyC, q1 d (I1.hok.fresh M.dbig)⟩
    · by_cases hb : b = e
      · have q' : G'.get? b = some o := q
        rw [hb, ge] at q'; cases q'
      · exact (gk b hb).symm.trans q
    · rw [upd_ne (Ne.symm M.dne)]
      exact I1.hok.fresh M.new
end
end L2N
namespace PySem
namespace EXhouse
open PySem.W PySem.Calls PyProof.Rows PySem.HandSPX
def arA (p1 p2 : Pos) : Arguments := { posonlyargs := [], args := [{ arg := "self", annotation := none, pos := p1 }, { arg := "house", annotation := none, pos := p2 }], vararg := none, kwonlyargs := [], kw_defaults := [], kwarg := none, defaults := [] }
def boB (q1 q2 q3 q4 : Pos) : List Stmt := [.Assign [.Attribute (.Name "self" q1) "house" q2] (.Name "house" q3) q4]
def scS : Scope := { kind := .function, names := [(PySem.Str.ofString "self", .local), (PySem.Str.ofString "house", .local)], isGenerator := false, isCoroutine := false, more := [] }
/-- the written part of such a class, cn at C, its __init__ at fI -/
structure Txt (K : Frag) (mg : Str → Option Value) (cn qual : Str) (C fI : Addr) : Prop where
  gC : mg cn = some (.ref C)
  cls : ∃ nm q N bs bm sn sub ab col dd k0 k1 k2 k3 k5, K.lookup C = some (excClassObj nm q C N bs bm true sn sub ab col dd k0 k1 k2 k3 k5 "ValueError.__new__") ∧ refsVE bm = true
  sa : findIn K (.ref C) "__setattr__" = some (some (.builtin "object.__setattr__"))
  noN : findIn K (.ref C) "house" = some none
  iC : findIn K (.ref C) "__init__" = some (some (.ref fI))
  tC : typeIn K (.ref fI) = some (.type "function")
  kC : keepIn K (.ref C) = true
  exC : subIn K (.ref C) (.type "BaseException") = some true
  tyC : typeIn K (.ref C) = some (.type "type")
  fn : ∃ (oc : Value) (od : Option Addr) (doc pm : Value) (an : Option Addr) (cdv ct : Value) (osl : Array (Option Value)) (p1 p2 q1 q2 q3 q4 : Pos),
    K.lookup fI = some ⟨oc, od, .func (fnOf "__init__" qual (arA p1 p2) (boB q1 q2 q3 q4) scS .none .none doc pm an cdv ct), osl⟩ ∧ codeIn K cdv qual = true
theorem sz1 (v : Value) : [v].length ≤ sizeLine := by rw [sizeLine_eq]; exact (by decide : 1 ≤ 16777216)
theorem ldL {M : Model} {s : Shared} {name : Str} {scope : Scope} {L a : Addr} {cd : Value} {m : Str → Option Value} {x : Str} {pos : Pos} {v : Value} {Q : Value → Shared → Prop} {A : Around} {E : Value → Shared → Prop} (hn : s.heap.Ns L m) (hv : m x = some v) (h : Q v s)
    (hk : scope.kind = .function := by rfl) (hl : (envOfC name scope L a cd).kindOf x = some .local := by rfl) (hd : (x == ("__debug__" : Str)) = false := by decide) :
    wpAny M A (eval (.Name x pos) (envOfC name scope L a cd)) Q E s := wpAny_Name (wpAny_loadName_local hk hl hn hv h) hd
/-- a new error behind its __init__ -/
structure Init1 (h h' : Heap) (x C dx t1 : Addr) (v : Value) : Prop where
  keep : ∀ b o, b ≠ x → h.get? b = some o → h'.get? b = some o
  obj : h'.get? x = some { cls := .ref C, dict := some dx, data := .fields #[.ref t1, .none, .none, .none, .bool false, .none] }
  dbig : h.objs.size ≤ dx
  dne : dx ≠ x
  ns : h'.Ns1 dx (fun y => if y = "house" then some v else none)
/-- an error that is made -/
structure Made1 (h h' : Heap) (e C d : Addr) (v : Value) : Prop where
  keep : ∀ b o, h.get? b = some o → h'.get? b = some o
  new : h.objs.size ≤ e
  obj : ∃ t1 : Addr, h'.get? e = some { cls := .ref C, dict := some d, data := .fields #[.ref t1, .none, .none, .none, .bool false, .none] }
  dbig : h.objs.size ≤ d
  dne : d ≠ e
  ns : h'.Ns1 d (fun y => if y = "house" then some v else none)
section
variable {prog : Program} {w : World} {A : Around} {E : Value → Shared → Prop} {R : Result → Shared → Prop} {s : Shared} {K : Frag} {mg : Str → Option Value} {cn qual : Str} {C fI : Addr}
theorem init1 (T : Txt K mg cn qual C fI) {x t0 : Addr} {v : Value} (X : K.In s.heap) (hlim : s.heap.NoLimit) (hx : s.heap.get? x = some (excO C t0)) (hroom : A.depth < recursionLimit)
    (hq : ∀ h' tk dx, Init1 s.heap h' x C dx t0 v → R (.ok (.ret .none)) { s with heap := h', toks := tk }) :
    codeAny (model prog w) A (.call (.ref fI) ⟨[.ref x, v], []⟩) R s := by
  obtain ⟨oc, od, doc, pm, an, cdv, ct, osl, p1, p2, q1, q2, q3, q4, ho, hcd⟩ := T.fn
  obtain ⟨nm, q, N, bs, bm, sn, sub, ab, col, dd, k0, k1, k2, k3, k5, hC, hbm⟩ := T.cls
  have hcl : clsIn K C = some { name := nm, bases := bs, mro := .ref C :: bm, ns := N, qualname := q, hasDict := true, slotNames := sn, subclasses := sub, abstract := ab, collection := col, hasDel := false } := by unfold clsIn; rw [hC] <;> rfl
  refine Att.call_fn (binds := [("self", .ref x), ("house", v)]) X hlim ho hcd hroom (BindsTo.of_eq (by first | rfl | with_unfolding_all rfl)) (by first | rfl | decide | with_unfolding_all rfl) (fun s₁ IC => ?_) rfl rfl rfl
  obtain ⟨h₁, tk₁, rfl⟩ := IC.toInCall.same
  have k : ∀ b o, s.heap.get? b = some o → h₁.get? b = some o := IC.toInCall.keep
  have hn := IC.toInCall.ns
  have X₁ : K.In h₁ := X.keeps k
  have hx₁ := k _ _ hx
  show wpAny _ _ (execs _ _) _ _ _
  refine wpAny_execs_cons (plainObj_wpAny_Assign_Attribute ?_)
  refine ldL (v := v) hn (by first | rfl | with_unfolding_all rfl | kernel_rfl) (ldL (v := .ref x) hn (by first | rfl | with_unfolding_all rfl | kernel_rfl) ?_)
  refine set_plain X₁ (ox := excO C t0) (od := none) ⟨hx₁, rfl, rfl, trivial⟩ T.sa ?_
  refine exc_osa X₁ hx₁ hcl (show refsVE (.ref C :: bm) = true from hbm) rfl T.noN (fun h₃ tk₃ dx k₃ dn dne hx₃ hn₃ => ?_)
  show wpAny _ _ (execs _ _) _ _ _
  have z : s.heap.objs.size < h₁.objs.size := hn.lt
  exact wpAny_execs_nil (hq h₃ tk₃ dx ⟨fun b o hb e => k₃ b o hb (k b o e), hx₃, Nat.le_of_lt (Nat.lt_of_lt_of_le z dn), dne, hn₃⟩)
theorem made1 (T : Txt K mg cn qual C fI) {v : Value} (X : K.In s.heap) (hlim : s.heap.NoLimit) (hroom : A.depth + 1 < recursionLimit)
    (hq : ∀ h' tk e d, Made1 s.heap h' e C d v → R (.ok (.ret (.ref e))) { s with heap := h', toks := tk }) :
    codeAny (model prog w) A (.call (.ref C) ⟨[v], []⟩) R s := by
  obtain ⟨nm, q, N, bs, bm, sn, sub, ab, col, dd, k0, k1, k2, k3, k5, hC, hbm⟩ := T.cls
  obtain ⟨hp, g, dr, tk, os⟩ := s
  have k : ∀ b o, hp.get? b = some o → ((hp.push (kdv_tup [v])).push (excO C hp.objs.size)).get? b = some o := fun b o e => Heap.get?_push_of_some _ (Heap.get?_push_of_some _ e)
  have hget : ((hp.push (kdv_tup [v])).push (excO C hp.objs.size)).get? (hp.objs.size + 1) = some (excO C hp.objs.size) := by heap_get
  refine call_own F.excBase_ValueError (fun X => refsVE_contains X bm hbm) (X _ _ hC) (looks_findIn X T.iC) (fun self => bind_fn X self T.tC) (sz1 v) ?_
  refine init1 (s := ⟨(hp.push (kdv_tup [v])).push (excO C hp.objs.size), g, dr, tk, os⟩) T (X.keeps k) (hlim.keeps k) hget ?_ fun h' tk' dx ⟨k', hx, dn, dne, hns⟩ => ?_
  · show A.depth + 1 < recursionLimit
    exact hroom
  · have old : ∀ b o, hp.get? b = some o → h'.get? b = some o := fun b o e => k' b o (Nat.ne_of_lt (Nat.lt_succ_of_lt (Heap.lt_size e))) (k b o e)
    have z : hp.objs.size + 1 + 1 ≤ dx := by
      first
        | (simpa only [Heap.size_push] using dn)
        | exact dn
        | (have q := dn; rw [Heap.size_push, Heap.size_push] at q; exact q)
    exact ⟨rfl, hq h' tk' (hp.objs.size + 1) dx ⟨old, Nat.le_succ _, ⟨_, hx⟩, Nat.le_trans (Nat.le_trans (Nat.le_succ _) (Nat.le_succ _)) z, dne, hns⟩⟩
end
end EXhouse
end PySem
namespace L2N
open PySem PySem.Spec PyProof.Rows L2
theorem relOhouse {v : V} {v' : Value} (r : RelV v v') (f : Str) : RelO (List.lookup f [(("house" : Str), v)]) (if f = "house" then some v' else none) := by
  by_cases hw : f = "house"
  · subst hw
    rw [if_pos rfl]
    have q : List.lookup ("house" : Str) [(("house" : Str), v)] = some v := by simp [List.lookup]
    rw [q]; exact r
  · rw [if_neg hw]
    have qw : (f == ("house" : Str)) = false := by simpa using hw
    have q2 : List.lookup f [(("house" : Str), v)] = none := by simp [List.lookup, qw]
    rw [q2]; trivial
section
variable {X : Cx} {C fI : Addr} {cn qual : Str}
theorem pmkhouse {a : Expr} {ta : TA} {p pos : Pos} {k : Nat} (T : PySem.EXhouse.Txt X.K X.mg cn qual C fI) (hr : Room k X.A) (ha : PA X [a] ta) (hg : Gl X cn) (hdb : (cn == ("__debug__" : Str)) = false := by decide)
    (he : starEach (a :: []) X.env = (false, eval a X.env) :: starEach [] X.env := by rfl) (hpl : (backTo pos (starEach [] X.env)).any (·.1) = false := by rfl) :
    PMk X (.Call (.Name cn p) [a] [] pos) (AL.tMk1 C "house" ta) := by
  intro pins s σ H Q I h
  refine wpAny_Call_Name_kw (ld_glob I hg T.gC ?_ hdb)
  refine PySem.W.callWith_K (h₀ := X.base) I.ok.mod.kin T.kC (thn (ha.run pos pins s σ H _ I h) fun us s1 hh => ?_) he hpl
  obtain ⟨vs, H1, I1, r1, v, ev, q1⟩ := hh
  subst ev
  refine ⟨I1.kIn, ?_⟩
  cases r1 with
  | cons rv rn =>
    rename_i v' us'
    cases rn
    show wpAny _ _ (call (.ref C) [v']) _ _ _
    have hlim := I1.nolimit
    obtain ⟨hp, g, dr, tk, os⟩ := s1
    refine wpAny_call (PySem.EXhouse.made1 T I1.kIn hlim (by have := hr.dp; omega) fun h' tk' e d M => ?_)
    show MkP X pins σ Q (.ref e) ⟨h', g, dr, tk', os⟩
    obtain ⟨t1, hoe⟩ := M.obj
    have hns := M.ns
    obtain ⟨G', g1, g2⟩ := restrict h' fun b => decide (b ≠ e)
    have gk : ∀ b, b ≠ e → G'.get? b = h'.get? b := fun b hb => g1 b (decide_eq_true hb)
    have ge : G'.get? e = none := g2 e (by simp)
    have old : ∀ b o, hp.get? b = some o → G'.get? b = some o := fun b o q => (gk b (Nat.ne_of_lt (Nat.lt_of_lt_of_le (Heap.lt_size q) M.new))).trans (M.keep b o q)
    have ob : ObjOk X.prog X.w (upd H1 d (.xd [(("house" : Str), v)])) G' d (.xd [(("house" : Str), v)]) :=
      ⟨_, hns.at (fun o q => (gk d M.dne).trans q), fun f => relOhouse rv f⟩
    have J : Inv X pins σ (upd H1 d (.xd [(("house" : Str), v)])) ⟨G', g, dr, tk', os⟩ := I1.laid (t' := tk') old M.dbig ob
    refine ⟨e, _, _, ⟨G', g, dr, tk', os⟩, _, .ref C, some d, rfl, J, fun b o q => ?_, ge, hoe, ⟨rfl, rfl, fun vs z => by cases z; rfl⟩, rfl, rfl, ?_, rfl, I1.bare, raises_own T.exC T.tyC, q1 d (I1.hok.fresh M.dbig)⟩
    · by_cases hb : b = e
      · have q' : G'.get? b = some o := q
        rw [hb, ge] at q'; cases q'
      · exact (gk b hb).symm.trans q
    · rw [upd_ne (Ne.symm M.dne)]
      exact I1.hok.fresh M.new
end
end L2N

set_option maxHeartbeats 4000000
namespace AL
open PySem PySem.Spec PyProof.Rows L2
/-! ### what leaves a def -/
theorem passN0 {X : Cx} : Passes (L2N.CX X.prog X.w) X E0 := fun _ _ _ _ _ _ _ ⟨_, _, _, _, _, _, _, _, _, _, _, _, z⟩ => z.elim
theorem takesN0 {X : Cx} : L2N.Takes X (fun _ _ _ _ => False) := fun _ _ ⟨_, _, _, _, _, _, _, _, _, _, _, _, _, _, _, _, z⟩ => z.elim
/-- the context is a def's own body, its wish about exceptions is E -/
structure IsDef (X : Cx) (E : XK) : Prop where
  st : X.stack = X.env :: X.outer
  fr : X.env.frame = some X.env.locals
  ex : X.ex = []
  xe : ∃ E₁, X.xe = fun e s' => wpAny (model X.prog X.w) X.A (leaving X.env e) (fun _ s'' => L2N.CX X.prog X.w X.outer X.H_0 X.s_0 E e s'') E₁ s'
theorem isDef {P : Program} {w : World} {K : PySem.W.Frag} {mg : Str → Option Value} {base : Heap} {N : List Str} {qual : Str} {sc : Scope} {f : Addr} {cd : Value} {A : Around} {outer : List Env} {s : Shared} {H : Hp} {E : XK} :
    IsDef (cxOf (L2N.CX P w) P w K mg base N qual sc f cd A outer s H E) E := ⟨rfl, rfl, rfl, _, rfl⟩
theorem IsDef.tk {X : Cx} {E : XK} (d : IsDef X E) : L2N.Takes X (fun cls d _ H => E cls d H) := by
  obtain ⟨a, b, c, E₁, e⟩ := d
  exact L2N.takes_of a b c e
theorem IsDef.own {X : Cx} {E : XK} (d : IsDef X E) : PassesOwn (model X.prog X.w) X.A X.env X.xe := by
  obtain ⟨a, b, c, E₁, e⟩ := d
  exact passes_of e
theorem IsDef.pass {X : Cx} {E : XK} (d : IsDef X E) : Passes (L2N.CX X.prog X.w) X E := L2N.passes_call d.tk fun _ _ _ _ h => h
section
variable {P : Program} {w : World} {K : PySem.W.Frag} {mg : Str → Option Value} {base : Heap}
/-- a def that may raise, by its body -/
theorem okN {x qual : Str} {st : Stmt} {f : Addr} {fd : FuncData} {N ps : List Str} {k : Nat} {sp : Sp} (F : Fun K x qual st f fd) (S : FnScope N ps (defScope st)) (len : ∀ vs H Q E, sp vs H Q E → vs.length = ps.length)
    (hb : ∀ (cdv : Value) (A : Around) (outer : List Env) (s : Shared) (H : Hp) (vs : List V) (Q : VK) (E : XK), Room k (A.deeper (envOfC qual (defScope st) s.heap.objs.size f cdv)) → sp vs H Q E → ∃ t, PSs (cxOf (L2N.CX P w) P w K mg base N qual (defScope st) f cdv A outer s H E) (defBody st) t ∧ t { nx := fun _ H' => Q .non H', rt := Q } (start N vs) H) :
    FnOk P w K mg base (L2N.CX P w) (k + 1) f fd ps sp := by
  obtain ⟨_, _, _, _, _, _, _, _, _, e, l, c⟩ := F.ex
  subst e
  exact fn_of l c S len (hb _)
end
/-- raise C(e), an own error with one field -/
theorem ps_raise1 {X : Cx} {W : WX} {e : Expr} {C : Addr} {f : Str} {ta : TA} {pos : Pos} (hc : X.calm = true) (tk : L2N.Takes X W) (he : L2N.PMk X e (tMk1 C f ta)) : PS X (.Raise (some e) none pos) (tRaise1 C f W ta) := L2N.ps_raise hc tk he
theorem ws_raise1 {c : Ct} {A : AS} {B : EA} {C : Addr} {f : Str} {E : XK} {ta : TA} (hE : ∀ σ, c.E σ = E) (h : WA c ta A fun A1 ds => ∃ d, ds = [d] ∧ c.X A1 C [(f, d)]) : WS c (tRaise1 C f (fun cls d _ H => E cls d H) ta) A B := fun F G m σ H S Eo Dc k =>
  h F G m σ H S Eo _ fun F1 m1 A1 vs H1 ds e1 p1 S1 R1 ⟨d, ed, q⟩ => by
    subst ed
    cases R1 with
    | cons rv rn =>
    rename_i v vs'
    cases rn
    refine ⟨v, rfl, fun dx hdx => ?_⟩
    have ex : Ex F1 (upd F1 dx (.xd [(f, v)])) := ex_upd (S1.h.fresh hdx).1
    have z := Eo.x _ m1 A1 σ _ C dx [(f, v)] [(f, d)] (e1.trans ex) p1 (S1.frz hdx) upd_same (.cons (Rep.mono ex (Pre.refl _) rv) .nil) q
    rw [hE] at z; exact z
/-! ### try: body, except C as e: suite -/
def tTry (K : PySem.W.Frag) (cE : Value) (i : Nat) (ts : Addr → Value → Option Addr → TS) (tb : WX → TS) : TS := fun D σ H => tb (L2.wAs K cE i ts (fun _ _ _ _ => False) D) D σ H
theorem ps_try1 {X : Cx} {x n : Str} {cE : Value} {i : Nat} {body suite : List Stmt} {b₀ : Stmt} {np pos pos' : Pos} {tb : WX → TS} {ts : Addr → Value → Option Addr → TS} (hs : X.stack = X.env :: X.outer) (hf : X.env.frame = some X.env.locals) (hN : X.N.Nodup) (hi : X.N[i]? = some n) (hln : X.env.kindOf n = some .local) (hc : Names X x cE)
    (hb : ∀ (W : WX) (pn : List (Addr × Obj)) (xe : Value → Shared → Prop), L2N.Takes (X.tr pn xe) W → PSs (X.tr pn xe) body (tb W))
    (hsu : ∀ (a : Addr) (oe : Obj) (cls : Value) (d : Option Addr) (pn : List (Addr × Obj)), Zc cls d oe → (∃ vs, oe.data = .fields vs) → PSs (X.suite a ((a, oe) :: pn)) (b₀ :: suite) (ts a cls d)) :
    PS X (.Try body [.ExceptHandler (some (.Name x np)) (some n) (b₀ :: suite) pos'] [] [] pos) (tTry X.K cE i ts tb) := L2N.ps_try_as hs hf hN hi hln hc takesN0 (fun W pn xe tk _ => hb W pn xe tk) fun a oe cls d pn hz hf => hsu a oe cls d pn hz.zc hf
/-- what the body's exception must be good for -/
def Caught (c : Ct) (cE : Value) (i : Nat) (ts : Addr → Value → Option Addr → TS) (B : EA) (A : AS) (C : Addr) (fs : List (Str × D)) : Prop :=
  PySem.W.exmOne c.K (.ref C) cE = some true ∧ ∀ a dx, WS ⟨c.K, fun _ _ _ _ => True, fun _ _ _ => False, some (dx, fs)⟩ (ts a (.ref C) (some dx)) ⟨A.s.set i (some (.val (.cls a))), A.o⟩
    ⟨fun A => B.nx ⟨A.s.set i none, A.o⟩, B.rt, fun A => B.bk ⟨A.s.set i none, A.o⟩, fun A => B.ct ⟨A.s.set i none, A.o⟩⟩
theorem ws_try {c : Ct} {A : AS} {B : EA} {cE : Value} {i : Nat} {ts : Addr → Value → Option Addr → TS} {tb : WX → TS} (h : ∀ W : WX, WS ⟨c.K, L2.WE W, Caught c cE i ts B, none⟩ (tb W) A B) : WS c (tTry c.K cE i ts tb) A B := fun F G m σ H S Eo Dc k => by
  refine h _ F G m σ H S ⟨fun F' m' A' σ' H' C dx fvs fs e p S' fx rf ⟨hm, hsu⟩ => ⟨true, hm, fun _ a na => ?_, fun z => nomatch z⟩, fun _ _ z => nomatch z⟩ Dc ⟨k.nx, k.rt, k.bk, k.ct⟩
  have gone : ∀ {F2 : Hp} {m2 : List Addr} {A2 : AS} {σ2 : L2.St} {H2 : Hp}, Sim c.K F2 G m2 A2 σ2 H2 → Sim c.K F2 G m2 ⟨A2.s.set i none, A2.o⟩ (σ2.set i none) H2 := fun S2 => ⟨S2.h, S2.s.forget⟩
  refine hsu a dx F' G m' (σ'.set i (some (.ref a))) H' ⟨S'.h, ?_⟩ ⟨fun _ _ _ _ _ _ _ _ _ _ _ _ _ _ z => z.elim, fun d2 f2 z => by cases z; exact ⟨fvs, fx, rf⟩⟩ _ ⟨fun F2 m2 A2 σ2 H2 e2 p2 S2 z => ?_, fun F2 m2 O2 v d H2 e2 p2 S2 R z => ?_, fun F2 m2 A2 σ2 H2 e2 p2 S2 z => ?_, fun F2 m2 A2 σ2 H2 e2 p2 S2 z => ?_⟩
  · have s1 := (S'.s.forget (i := i) (x := some (.ref a))).setV (i := i) (v := .ref a) (d := .cls a) (Rep.cls a)
    rw [List.set_set, List.set_set] at s1
    exact s1
  · exact k.nx F2 m2 _ _ H2 (e.trans e2) (p.trans p2) (gone S2) z
  · exact k.rt F2 m2 O2 v d H2 (e.trans e2) (p.trans p2) S2 R z
  · exact k.bk F2 m2 _ _ H2 (e.trans e2) (p.trans p2) (gone S2) z
  · exact k.ct F2 m2 _ _ H2 (e.trans e2) (p.trans p2) (gone S2) z
/-! ### calls whose exception is wished for at the caller's slots -/
section
variable {c : Ct} {A : AS} {Q : QE} {Φ : Contract} {E : L2.St → XK} {t tk : TA} {n m : Nat} {gV : List V → List V → List V}
theorem we_callS {dvs : List V} {dds : List D} (hE : ∀ σ, c.E σ = E σ) (hd : ∀ F m, Reps c.K F m dvs dds) (h : WA c t A fun A1 ds => Φ (ds ++ dds) A1.o (fun O' d => Q ⟨A1.s, O'⟩ (.val d)) (fun O' C fs => c.X ⟨A1.s, O'⟩ C fs)) : WE c (tCallSD (SpA c.K Φ) dvs E t) A Q := fun F G m σ H S Eo Qc k =>
  h F G m σ H S Eo _ fun F1 m1 A1 vs H1 ds e1 p1 S1 R1 q =>
    ⟨F1, callG A1.s σ G H1, m1, A1.o, ds ++ dds, _, _, S1.call, R1.app (hd _ _), q, fun F' m' O' v d H' e p hs r rr => k F' m' ⟨A1.s, O'⟩ v H' (.val d) (e1.trans e) (p1.trans p) (S1.back e p hs) r rr,
      fun F' m' O' C dx fvs fs H' e p hs fx rf xx => by
        have z := Eo.x F' m' ⟨A1.s, O'⟩ σ H' C dx fvs fs (e1.trans e) (p1.trans p) (S1.back e p hs) fx rf xx
        rw [hE] at z; exact z⟩
/-- f(e, .., k = v, ..) -/
def tCallNS (n m : Nat) (sp : Sp) (gV : List V → List V → List V) (E : L2.St → XK) (t tk : TA) : TE := fun σ H Q => t σ H fun vs H1 => tk σ H1 fun zs H2 => vs.length = n ∧ zs.length = m ∧ sp (gV vs zs) H2 Q (E σ)
theorem we_callNS (gD : List D → List D → List D) (hg : ∀ F mm vs zs ds es, Reps c.K F mm vs ds → Reps c.K F mm zs es → Reps c.K F mm (gV vs zs) (gD ds es)) (hE : ∀ σ, c.E σ = E σ)
    (h : WA c t A fun A1 ds => WA c tk A1 fun A2 es => ds.length = n ∧ es.length = m ∧ Φ (gD ds es) A2.o (fun O' d => Q ⟨A2.s, O'⟩ (.val d)) (fun O' C fs => c.X ⟨A2.s, O'⟩ C fs)) : WE c (tCallNS n m (SpA c.K Φ) gV E t tk) A Q := fun F G mm σ H S Eo Qc k =>
  h F G mm σ H S Eo _ fun F1 m1 A1 vs H1 ds e1 p1 S1 R1 q1 => q1 F1 G m1 σ H1 S1 (Eo.mono e1 p1) _ fun F2 m2 A2 zs H2 es e2 p2 S2 R2 ⟨l1, l2, q⟩ =>
    ⟨R1.len.trans l1, R2.len.trans l2, F2, callG A2.s σ G H2, m2, A2.o, gD ds es, _, _, S2.call, hg _ _ _ _ _ _ (R1.mono e2 p2) R2, q, fun F' m' O' v d H' e p hs r rr => k F' m' ⟨A2.s, O'⟩ v H' (.val d) ((e1.trans e2).trans e) ((p1.trans p2).trans p) (S2.back e p hs) r rr,
      fun F' m' O' C dx fvs fs H' e p hs fx rf xx => by
        have z := Eo.x F' m' ⟨A2.s, O'⟩ σ H' C dx fvs fs ((e1.trans e2).trans e) ((p1.trans p2).trans p) (S2.back e p hs) fx rf xx
        rw [hE] at z; exact z⟩
theorem we_callN {E0 : XK} (gD : List D → List D → List D) (hg : ∀ F mm vs zs ds es, Reps c.K F mm vs ds → Reps c.K F mm zs es → Reps c.K F mm (gV vs zs) (gD ds es))
    (h : WA c t A fun A1 ds => WA c tk A1 fun A2 es => ds.length = n ∧ es.length = m ∧ Φ (gD ds es) A2.o (fun O' d => Q ⟨A2.s, O'⟩ (.val d)) (fun _ _ _ => False)) : WE c (tCallN n m (SpA c.K Φ) gV E0 t tk) A Q := fun F G mm σ H S Eo Qc k =>
  h F G mm σ H S Eo _ fun F1 m1 A1 vs H1 ds e1 p1 S1 R1 q1 => q1 F1 G m1 σ H1 S1 (Eo.mono e1 p1) _ fun F2 m2 A2 zs H2 es e2 p2 S2 R2 ⟨l1, l2, q⟩ =>
    ⟨R1.len.trans l1, R2.len.trans l2, F2, callG A2.s σ G H2, m2, A2.o, gD ds es, _, _, S2.call, hg _ _ _ _ _ _ (R1.mono e2 p2) R2, q, fun F' m' O' v d H' e p hs r rr => k F' m' ⟨A2.s, O'⟩ v H' (.val d) ((e1.trans e2).trans e) ((p1.trans p2).trans p) (S2.back e p hs) r rr, fun _ _ _ _ _ _ _ _ _ _ _ _ _ xx => xx.elim⟩
end
section
variable {X : Cx} {CX : CXT} {k n : Nat} {f : Addr} {fd : FuncData} {ps ks : List Str} {sp : Sp} {E : L2.St → XK} {x : Str} {p pos : Pos} {e : Expr} {es : List Expr} {kws : List Keyword} {t tk : TA} {g : List Value → List Value → List Value} {gV : List V → List V → List V}
theorem pe_callNS (G : FnOk X.prog X.w X.K X.mg X.base CX k f fd ps sp) (hr : Room k X.A) (hg : Gl X x) (hm : X.mg x = some (.ref f)) (hk : PySem.W.keepIn X.K (.ref f) = true) (hb : KBn X.K fd ps n ks g gV) (hx : ∀ σ, PassesAt CX X σ (E σ)) (ha : PA X (e :: es) t) (hkw : PK X kws tk)
    (h1 : (backToKw pos (keywordEach kws X.env)).all (·.1.isSome) = true := by rfl) (h2 : (backToKw pos (keywordEach kws X.env)).filterMap (·.1) = ks := by rfl) (h3 : (x == ("__debug__" : Str)) = false := by decide) (h4 : starEach (e :: es) X.env = (false, eval e X.env) :: starEach es X.env := by rfl)
    (h5 : ((backTo pos (starEach (e :: es) X.env)).any (·.1) || (backToKw pos (keywordEach kws X.env)).any (·.1.isNone)) = false := by rfl) : PE X (.Call (.Name x p) (e :: es) kws pos) (tCallNS n ks.length sp gV E t tk) :=
  ⟨fun pins s σ H Q I h => wpAny_Call_Name_kw (ld_glob I hg hm (PySem.W.callWith_KW (h₀ := X.base) I.ok.mod.kin hk h1 (thn (ha.run pos pins s σ H _ I h) fun us s1 ⟨vs, H1, I1, r, q⟩ => thn (hkw.run pos pins s1 σ H1 _ I1 q) fun ws s2 ⟨zs, H2, I2, rz, l1, l2, q2⟩ => ⟨I2.kIn, by
    rw [h2]
    refine wpAny_call (codeAny_mono (G.run X.A X.stack s2 H2 ⟨us, ks.zip ws⟩ _ _ Q (E σ) hr I2.env0 (hb.to s2 us ws I2.kIn (r.length.symm.trans l1) (rz.length.symm.trans l2)) (hb.rel r rz) q2) fun y s' hq => ?_)
    match y, hq with
    | .error z, hq => exact hx σ pins H2 s2 z s' I2 hq
    | .ok (.ret u), hq => exact I2.after hq⟩) h5 h4) h3)⟩
end
/-! ### defs called where nothing shows itself (no repr is under way) -/
structure FnG (P : Program) (w : World) (K : PySem.W.Frag) (mg : Str → Option Value) (base : Heap) (CX : CXT) (k : Nat) (f : Addr) (fd : FuncData) (ps : List Str) (sp : Sp) : Prop where
  len : ∀ vs H Q E, sp vs H Q E → vs.length = ps.length
  go : ∀ (A : Around) (outer : List Env) (s : Shared) (H : Hp) (args : Args) (us : List Value) (vs : List V) (Q : VK) (E : XK), Room k A → A.guards = some [] → Env0 P w K mg base A outer s H → BindsTo s fd args (ps.zip us) → Vals vs us → sp vs H Q E → codeAny (model P w) A (.call (.ref f) args) (CR CX outer P w H s Q E) s
theorem FnG.mono {P : Program} {w : World} {K : PySem.W.Frag} {mg : Str → Option Value} {base : Heap} {CX : CXT} {j k : Nat} {f : Addr} {fd : FuncData} {ps : List Str} {sp : Sp} (F : FnG P w K mg base CX j f fd ps sp) (h : j ≤ k) : FnG P w K mg base CX k f fd ps sp := ⟨F.len, fun A outer s H args us vs Q E hr => F.go A outer s H args us vs Q E (hr.mono h)⟩
section
variable {P : Program} {w : World} {K : PySem.W.Frag} {mg : Str → Option Value} {base : Heap}
theorem okG {x qual : Str} {st : Stmt} {f : Addr} {fd : FuncData} {N ps : List Str} {k : Nat} {sp : Sp} (F : Fun K x qual st f fd) (S : FnScope N ps (defScope st)) (len : ∀ vs H Q E, sp vs H Q E → vs.length = ps.length)
    (hb : ∀ (cdv : Value) (A : Around) (outer : List Env) (s : Shared) (H : Hp) (vs : List V) (Q : VK) (E : XK), Room k (A.deeper (envOfC qual (defScope st) s.heap.objs.size f cdv)) → A.guards = some [] → sp vs H Q E → ∃ t, PSs (cxOf CX0 P w K mg base N qual (defScope st) f cdv A outer s H E).nox (defBody st) t ∧ t { nx := fun _ H' => Q .non H', rt := Q } (start N vs) H) :
    FnG P w K mg base CX0 (k + 1) f fd ps sp := by
  obtain ⟨_, _, _, _, _, _, cdv, _, _, e, lk, hcd⟩ := F.ex
  subst e
  refine ⟨len, fun A outer s H args us vs Q E hr hg e0 ba r hsp => ?_⟩
  have kX : K.In s.heap := e0.mod.kin.keeps fun b o z => (e0.bs b o z).1
  obtain ⟨t, ht, hq⟩ := hb cdv A outer s H vs Q E (hr.deeper _) hg hsp
  refine codeAny_call_function hr.depth (kX _ _ lk) rfl S.co S.gen rfl (PySem.W.codeRec_of kX hcd) (ba _ _ _ _ (wpAny_newFunctionEnv_cells S.kind (fun yv hy => (S.par yv.1 (List.of_mem_zip (show (yv.1, yv.2) ∈ _ from hy)).1).imp id fun q => ⟨q, PySem.W.cellsFrom_some _ _ _ (.inl q)⟩) fun env he s1 z => ?_))
  subst he
  refine ⟨(e0.mod.nolimit.keeps fun b o z => (e0.bs b o z).1).keeps z.toInCall.keep, codeAny_func (wpAny_mono (ht.nox.run [] s1 (start N vs) H _ (inv_start S hr.hd e0 (len _ _ _ _ hsp) r z) hq) (fun fl s' y => ?_) fun _ _ y => y)⟩
  match fl, y with
  | .ret u, ⟨v, _, H', J, rv, q⟩ => exact ⟨v, H', J.os, J.bare, J.base, J.hok, rv, q⟩
  | .next, ⟨_, H', J, q⟩ => exact ⟨.non, H', J.os, J.bare, J.base, J.hok, rfl, q⟩
  | .brk, ⟨_, _, _, q⟩ => exact q.elim
  | .cont, ⟨_, _, _, q⟩ => exact q.elim
end
theorem pe_callG {X : Cx} {CX : CXT} {k : Nat} {f : Addr} {fd : FuncData} {ps : List Str} {sp : Sp} {E : XK} {x : Str} {p pos : Pos} {e : Expr} {es : List Expr} {t : TA} (G : FnG X.prog X.w X.K X.mg X.base CX k f fd ps sp) (hr : Room k X.A) (hd : X.A.guards = some []) (hg : Gl X x) (hm : X.mg x = some (.ref f)) (hk : PySem.W.keepIn X.K (.ref f) = true) (hb : Binds X.K fd ps []) (hx : Passes CX X E) (ha : PA X (e :: es) t)
    (h3 : (x == ("__debug__" : Str)) = false := by decide) (h4 : starEach (e :: es) X.env = (false, eval e X.env) :: starEach es X.env := by rfl) (h5 : (backTo pos (starEach es X.env)).any (·.1) = false := by rfl) : PE X (.Call (.Name x p) (e :: es) [] pos) (tCall sp [] E t) :=
  ⟨fun pins s σ H Q I h => wpAny_Call_Name_kw (ld_glob I hg hm (PySem.W.callWith_K (h₀ := X.base) I.ok.mod.kin hk (thn (ha.run pos pins s σ H _ I h) fun us s1 ⟨vs, H1, I1, r, q⟩ => ⟨I1.kIn, by
    have q : sp vs H1 Q E := by simpa using q
    have bl := hb s1 us I1.kIn (by rw [List.append_nil, ← r.length]; exact G.len _ _ _ _ q)
    rw [List.append_nil] at bl
    refine wpAny_call (codeAny_mono (G.go X.A X.stack s1 H1 ⟨us, []⟩ us vs Q E hr hd I1.env0 bl r q) fun y s' hq => ?_)
    match y, hq with
    | .error z, hq => exact hx pins σ H1 s1 z s' I1 hq
    | .ok (.ret u), hq => exact I1.after hq⟩) h4 h5) h3)⟩
/-! ### in an except suite -/
/-- what an own error's class must say -/
structure ExC (K : PySem.W.Frag) (D : Addr) : Prop where
  cl : (PySem.W.clsIn K D).isSome = true
  ga : PySem.W.findIn K (.ref D) "__getattribute__" = some (some (.builtin "BaseException.__getattribute__"))
  gg : PySem.W.findIn K (.ref D) "__getattr__" = some none
  su : PySem.W.subIn K (.ref D) (.type "BaseException") = some true
  ca : PySem.W.findIn K (.ref D) "__class__" = some (some (.builtin "object.__class__"))
  cg : PySem.W.specialIn K (.builtin "object.__class__") "__get__" = some (some (.builtin "getset_descriptor.__get__"))
  tk : PySem.W.takesIn K (.builtin "object.__class__") = some true
  mo : PySem.W.mroIn K D (.type "object") = some true
  hd : PySem.W.hasDictIn K D = true
/-- isinstance(e, c), e the exception that the suite holds -/
def rIsX (K : PySem.W.Frag) (a : Addr) (cls : Value) (d : Option Addr) : List V → Hp → VK → Prop := fun xs H Q => ∃ (D dd : Addr) (fs : List (Str × V)) (z : V) (b : Bool), cls = .ref D ∧ d = some dd ∧ ExC K D ∧ H dd = some (.xd fs) ∧ xs = [.ref a, z] ∧
  ((∃ cv : Value, (∀ u, RelV z u → u = cv) ∧ PySem.W.kitOne K (.ref D) cv = some b) ∨ (∃ (tp : Addr) (vs : List V), z = .ref tp ∧ PTup K H tp vs ∧ ∀ us, Vals vs us → PySem.W.kitAny K (.ref D) us = some b)) ∧ Q (.bl b) H
theorem call_isX {X : Cx} {a : Addr} {oe : Obj} {cls : Value} {d : Option Addr} {pn : List (Addr × Obj)} (hz : Zc cls d oe) (hf : ∃ vs, oe.data = .fields vs) : CallR (X.suite a ((a, oe) :: pn)) (.builtin "isinstance") (rIsX X.K a cls d) := by
  intro pins s σ H xs us Q I r h
  obtain ⟨D, dd, fs, z, b, rfl, rfl, C, hx, rfl, e, q⟩ := h
  match us, r with
  | [_, u], .cons rx (.cons rt .nil) =>
    cases rx
    have hget := (I.pin (a, oe) (List.mem_append.mpr (.inl List.mem_cons_self))).1
    obtain ⟨vs, hv⟩ := hf
    obtain ⟨mA, hns, _⟩ : ObjOk X.prog X.w H s.heap dd (.xd fs) := I.hok dd _ hx
    obtain ⟨od, ho, _⟩ := lookIn_ns hns
    have J : PySem.W.InstAt s.heap a oe D (some od) := ⟨hget, hz.1, by unfold PySem.W.notCls; rw [hv] <;> rfl, by rw [hz.2]; exact ho⟩
    have kx := PySem.W.kitx_exc (x := a) (ox := oe) (od := some od) C.cl C.ga C.gg C.su C.ca C.cg C.tk C.mo
    rcases e with ⟨cv, hcv, e⟩ | ⟨tp, vs, rfl, ht, e⟩
    · have eu := hcv _ rt
      subst eu
      exact PySem.W.kia_one kx I.kIn J e (fun y => nomatch y) fun tk => ⟨.bl b, H, I.kept (t' := tk) fun _ _ y => y, rfl, q⟩
    · cases rt
      rcases ht with ⟨its, ht⟩ | ⟨its, n, sl, lk, _, rv⟩
      case inr =>
        obtain ⟨its⟩ := its
        exact PySem.W.kia_tup kx I.kIn J (I.kIn _ _ lk) (e its rv) (fun y => nomatch y) fun tk => ⟨.bl b, H, I.kept (t' := tk) fun _ _ y => y, rfl, q⟩
      obtain ⟨go, _, us, rv, ob, eo, _, n, ed⟩ := I.hok tp _ ht
      have eb : tupObj its = ob := Option.some.inj (go.symm.trans eo)
      subst eb
      have ed' : Data.seq its.toArray = Data.seq us.toArray n := ed
      cases ed'
      exact PySem.W.kia_tup kx I.kIn J (n := 0) (sl := #[]) go (e its rv) (fun y => nomatch y) fun tk => ⟨.bl b, H, I.kept (t' := tk) fun _ _ y => y, rfl, q⟩
theorem reps_cls {K : PySem.W.Frag} {F : Hp} {m : List Addr} : ∀ {Cs : List Addr} {vs : List V}, Reps K F m vs (Cs.map .cls) → vs = Cs.map .ref
  | [], _, .nil => rfl
  | _ :: _, _, .cons (.cls _) r => by rw [reps_cls r]; rfl
theorem vals_refs : ∀ {Cs : List Addr} {us : List Value}, Vals (Cs.map V.ref) us → us = Cs.map .ref
  | [], _, .nil => rfl
  | C :: Cs, _, .cons r rr => by
    have e : _ = Value.ref C := r
    rw [e, vals_refs rr]; rfl
section
variable {c : Ct} {A : AS} {Q : QE} {a C dd : Addr} {fs : List (Str × D)} {b : Bool}
theorem cb_isC {C2 : Addr} (hv : c.hv = some (dd, fs)) (x : ExC c.K C) (h : PySem.W.kitOne c.K (.ref C) (.ref C2) = some b) (q : Q A (.val (.bl b))) : CbD c (rIsX c.K a (.ref C) (some dd)) [.val (.cls a), .val (.cls C2)] A Q := fun F G m σ H vs S E R Qc k => by
  obtain ⟨v, w, rfl, R1, R2⟩ := rs2 R
  cases R1; cases R2
  obtain ⟨fvs, z1, z2⟩ := E.h dd fs hv
  exact ⟨C, dd, fvs, _, b, rfl, rfl, x, S.h.exF _ _ z1, rfl, .inl ⟨.ref C2, fun u y => y, h⟩, k F m A _ H (.val (.bl b)) (Evl.Ex.refl F) (Pre.refl m) S (Rep.bl b) q⟩
theorem cb_isT {n : String} (hv : c.hv = some (dd, fs)) (x : ExC c.K C) (h : PySem.W.kitOne c.K (.ref C) (.type n) = some b) (q : Q A (.val (.bl b))) : CbD c (rIsX c.K a (.ref C) (some dd)) [.val (.cls a), .val (.ty n)] A Q := fun F G m σ H vs S E R Qc k => by
  obtain ⟨v, w, rfl, R1, R2⟩ := rs2 R
  cases R1; cases R2
  obtain ⟨fvs, z1, z2⟩ := E.h dd fs hv
  exact ⟨C, dd, fvs, _, b, rfl, rfl, x, S.h.exF _ _ z1, rfl, .inl ⟨.type n, fun u y => y, h⟩, k F m A _ H (.val (.bl b)) (Evl.Ex.refl F) (Pre.refl m) S (Rep.bl b) q⟩
theorem cb_isS (Cs : List Addr) (hv : c.hv = some (dd, fs)) (x : ExC c.K C) (h : PySem.W.kitAny c.K (.ref C) (Cs.map .ref) = some b) (q : Q A (.val (.bl b))) : CbD c (rIsX c.K a (.ref C) (some dd)) [.val (.cls a), .val (.tup (Cs.map .cls))] A Q := fun F G m σ H vs S E R Qc k => by
  obtain ⟨v, w, rfl, R1, R2⟩ := rs2 R
  cases R1
  cases R2 with
  | tup pt rv =>
    have ev := reps_cls rv
    subst ev
    obtain ⟨fvs, z1, z2⟩ := E.h dd fs hv
    exact ⟨C, dd, fvs, _, b, rfl, rfl, x, S.h.exF _ _ z1, rfl, .inr ⟨_, _, rfl, pt.mono S.h.exF, fun us y => by rw [vals_refs y]; exact h⟩, k F m A _ H (.val (.bl b)) (Evl.Ex.refl F) (Pre.refl m) S (Rep.bl b) q⟩
/-- e.f -/
theorem we_xf {f : Str} {d : D} {i : Nat} (hi : A.s[i]? = some (some (.val (.cls a)))) (hv : c.hv = some (dd, fs)) (hl : fs.lookup f = some d) (q : Q A (.val d)) : WE c (tXf a (.ref C) (some dd) C f (tVar i)) A Q := fun F G m σ H S E Qc k => by
  obtain ⟨v, e, r⟩ := S.s.valAt hi
  cases r
  obtain ⟨fvs, z1, z2⟩ := E.h dd fs hv
  obtain ⟨v, l, r⟩ := z2.look hl
  exact ⟨_, e, rfl, rfl, dd, fvs, v, rfl, S.h.exF _ _ z1, l, k F m A v H (.val d) (Evl.Ex.refl F) (Pre.refl m) S r q⟩
end
/-! ### repr -/
/-- what is shown as it stands, without end -/
def Shows (p : PyData) : Prop := p.showable = true ∧ p.hasDict = false ∧ p.depth ≤ 50 ∧ p.shown.length ≤ sizeLine ∧ match p with
  | .int a => a.natAbs.log2 < 1920
  | _ => True
def rRepr (K : PySem.W.Frag) : List V → Hp → VK → Prop := fun xs H Q => ∃ (v : V) (p : PyData), xs = [v] ∧ Dp K H v p ∧ Shows p ∧ Q (.str p.shown) H
theorem call_repr {X : Cx} (hg : X.A.guards = some []) (hu : X.A.units + 64 < cLine) : CallR X (.builtin "repr") (rRepr X.K) := by
  intro pins s σ H xs us Q I r h
  obtain ⟨v, p, rfl, dp, ⟨h1, h2, h3, h4, h5⟩, q⟩ := h
  match us, r with
  | [u], .cons rx .nil =>
    cases dp with
    | non => cases rx; exact PySem.P.repr_of_none ⟨.str _, H, I.tok _, ⟨_, rfl⟩, q⟩
    | bl b => cases rx; exact PySem.P.repr_of_bool ⟨.str _, H, I.tok _, ⟨_, rfl⟩, by cases b <;> exact q⟩
    | int i =>
      obtain ⟨t, rfl⟩ := rx
      exact PySem.P.repr_of_int h5 ⟨.str _, H, I.tok _, ⟨_, rfl⟩, q⟩
    | str x =>
      obtain ⟨t, rfl⟩ := rx
      exact PySem.P.repr_of_str ⟨.str _, H, I.tok _, ⟨_, rfl⟩, q⟩ h4
    | lst a b =>
      obtain ⟨as, rd⟩ := Dp.reads I _ _ _ (.lst a b) rx
      cases rx
      exact PySem.repr_of_reads' rd h1 (fun y => by rw [h2] at y; cases y) hg (by omega) (fun _ _ y => y) (fun h' tk tk2 k => ⟨.str _, H, I.kept (h' := h') (t' := tk2) k, ⟨_, rfl⟩, q⟩) h4
    | tup a b =>
      obtain ⟨as, rd⟩ := Dp.reads I _ _ _ (.tup a b) rx
      cases rx
      exact PySem.repr_of_reads' rd h1 (fun y => by rw [h2] at y; cases y) hg (by omega) (fun _ _ y => y) (fun h' tk tk2 k => ⟨.str _, H, I.kept (h' := h') (t' := tk2) k, ⟨_, rfl⟩, q⟩) h4
theorem cb_repr {c : Ct} {A : AS} {Q : QE} {d : D} {p : PyData} (hp : Py d p) (hs : Shows p) (q : Q A (.val (.str p.shown))) : CbD c (rRepr c.K) [.val d] A Q := fun F G m σ H vs S E R Qc k => by
  obtain ⟨v, rfl, R1⟩ := rs1 R
  exact ⟨v, p, rfl, Py.dp S.h.exF hp R1, hs, k F m A _ H (.val (.str p.shown)) (Evl.Ex.refl F) (Pre.refl m) S (Rep.str _) q⟩
/-! ### the law's own call -/
section
variable {P : Program} {w : World} {K : PySem.W.Frag} {mg mb : Str → Option Value} {k : Nat} {fa a : Addr} {fd : FuncData} {x : Str} {sp : Sp} {z : Shared} {us : List Value} {ns : List Int}
/-- the wished end of the law's call -/
def EndG (z : Shared) (r : Result) (z' : Shared) : Prop := r = .ok (.ret (.bool true)) ∧ OldK z.heap z'.heap ∧ z'.os = z.os ∧ AllBare z'.gens
theorem coreG (KX : K.In z.heap) (hns : z.heap.Ns mainGlobals mg) (hb : z.heap.Ns builtinsNs mb) (hbb : ∀ y : Str, y ≠ "__name__" → mb y = bootBuiltins y) (hlim : z.heap.NoLimit) (hg : z.gens = #[]) (ha : z.heap.get? a = some { cls := .type "list", data := .seq us.toArray }) (hr : Room k callerA)
    (F : ∀ base : Heap, K.In base → base.Ns mainGlobals mg → FnG P w K mg base CX0 k fa fd [x] sp) (hbind : ∀ (s : Shared) (u : Value), BindsTo s fd ⟨[u], []⟩ [(x, u)]) {H : Hp} (hO : Only H) (hsp : sp [.ref a] H (fun v _ => v = .bl true) fun _ _ _ => False) (ok : HOk P w H z.heap)
    (hA : ∀ b, H b ≠ none → b = a) (hK : H a ≠ none → K.lookup a = none) : codeAny (model P w) callerA (.call (.ref fa) ⟨[.ref a], []⟩) (EndG z) z := by
  have ofN : ∀ {b : Addr}, (b = a → H b = none) → H b = none := fun {b} f => by
    by_cases y : H b = none
    · exact y
    · exact f (hA b y)
  have nsB : ∀ {b : Addr} {m : Str → Option Value}, z.heap.Ns b m → (hidT z.heap H).Ns b m := fun {b m} ⟨o, es, ep, e1, e2, e3⟩ => ⟨o, es, ep, hidT_get e1 (ofN fun y => by
    subst y
    rw [ha] at e1
    cases e1
    cases (show Data.seq us.toArray _ = Data.dict es ep from e2)), e2, e3⟩
  have kB : K.In (hidT z.heap H) := fun b o e => hidT_get (KX b o e) (ofN fun y => by
    subst y
    by_cases y : H b = none
    · exact y
    · rw [hK y] at e; cases e)
  obtain ⟨mc, l1, l2⟩ := hlim
  have env : Env0 P w K mg (hidT z.heap H) callerA [] z H := ⟨rfl, ⟨kB, nsB hns, ⟨mb, nsB hb, hbb⟩, ⟨mc, nsB l1, l2⟩⟩, fun b o e => of_hidT e, Nat.le_of_eq (hidT_size _ _), trivial, fun b y => absurd (show b ∈ ([] : List Addr) from y) (List.not_mem_nil), ok, AllBare.of_eq hg⟩
  refine codeAny_mono ((F _ kB (nsB hns)).go callerA [] z H ⟨[.ref a], []⟩ [.ref a] [.ref a] _ _ hr rfl env (hbind z (.ref a)) (.cons rfl .nil) hsp) fun r z' y => ?_
  match r, y with
  | .ok (.ret u), ⟨v, H', os, bare, un, ok', rv, q⟩ =>
    obtain rfl : v = .bl true := q
    obtain rfl : u = Value.bool true := rv
    refine ⟨rfl, OldK.of_keep fun b o e => ?_, os, bare⟩
    rcases hO b with y | ⟨ob, xs, y⟩
    · exact un.keep b o e y (fun y => absurd (show b ∈ ([] : List Addr) from y) (List.not_mem_nil)) (by simp)
    · have e1 := (ok b _ y).1
      have e2 := (ok' b _ (un.frzs b ob _ y)).1
      rw [e] at e1
      cases e1
      exact e2
theorem law_callG (KX : K.In z.heap) (hns : z.heap.Ns mainGlobals mg) (hb : z.heap.Ns builtinsNs mb) (hbb : ∀ y : Str, y ≠ "__name__" → mb y = bootBuiltins y) (hlim : z.heap.NoLimit) (hg : z.gens = #[]) (ha : z.heap.get? a = some { cls := .type "list", data := .seq us.toArray }) (hi : IntsAre us ns) (hl : ns.length ≤ sizeLine) (hr : Room k callerA)
    (F : ∀ base : Heap, K.In base → base.Ns mainGlobals mg → FnG P w K mg base CX0 k fa fd [x] sp) (hbind : ∀ (s : Shared) (u : Value), BindsTo s fd ⟨[u], []⟩ [(x, u)]) (hsp : ∀ H : Hp, Only H → SqL K H a (ns.map V.int) → sp [.ref a] H (fun v _ => v = .bl true) fun _ _ _ => False) :
    codeAny (model P w) callerA (.call (.ref fa) ⟨[.ref a], []⟩) (EndG z) z := by
  have rv := vals_ints hi
  cases e : K.lookup a with
  | some o =>
    have e2 := KX a o e
    rw [ha] at e2
    cases e2
    have hO : Only (fun _ => none) := fun _ => .inl rfl
    exact coreG KX hns hb hbb hlim hg ha hr F hbind hO (hsp _ hO (.inr ⟨_, us.toArray, _, e, rfl, rfl, rfl, by rw [List.size_toArray, hi.length]; exact hl, by simpa using rv⟩)) (fun b u y => by cases (show (none : Option HO) = some u from y)) (fun b y => absurd rfl y) fun y => absurd rfl y
  | none =>
    let L : HO := .frz { cls := .type "list", data := .seq us.toArray } (.lst (ns.map V.int))
    have at_ : ∀ b u, upd (fun _ => none) a L b = some u → b = a ∧ u = L := fun b u y => by
      by_cases q : b = a
      · subst q; rw [upd_same] at y; cases y; exact ⟨rfl, rfl⟩
      · rw [upd_ne q] at y; cases (show (none : Option HO) = some u from y)
    have hO : Only (upd (fun _ => none) a L) := fun b => by
      cases q : upd (fun _ => none) a L b with
      | none => exact .inl rfl
      | some u => exact .inr ⟨_, _, by rw [(at_ b u q).2]⟩
    refine coreG KX hns hb hbb hlim hg ha hr F hbind hO (hsp _ hO (.inl (.inr ⟨_, upd_same⟩))) (fun b u y => ?_) (fun b y => ?_) fun _ => e
    · obtain ⟨y1, y2⟩ := at_ b u y
      subst y1; subst y2
      exact ⟨ha, by rw [List.length_map]; exact hl, us, _, rv, ha⟩
    · cases q : upd (fun _ => none) a L b with
      | none => exact absurd q y
      | some u => exact (at_ b u q).1
end
theorem walk_ofG {l : PySem.W.OpenLaw} {n k : Nat} {q : Program} {loose : List Str} {XP : (Str → Option Value) → Heap → Prop} {YP : World → Heap → Prop} {d : DefRec} {K : Params → PySem.W.Frag} {sp : World → Sp} {x : Str} (hn : l.most = some n) (hn2 : n ≤ sizeLine) (hdf : d.params.defaults = []) (hr : Room k callerA)
    (hY : ∀ (w : World) (h : Heap), YP w h → (K w.params).In h)
    (F : ∀ (w : World) (mg : Str → Option Value) (fa : Addr) (h : Heap), (K w.params).In h → h.Ns mainGlobals mg → mg d.name = some (.ref fa) → ∃ fd : FuncData, (∀ (s : Shared) (u : Value), BindsTo s fd ⟨[u], []⟩ [(x, u)]) ∧ ∀ base : Heap, (K w.params).In base → base.Ns mainGlobals mg → FnG l.prog w (K w.params) mg base CX0 k fa fd [x] (sp w))
    (hsp : ∀ (w : World) (H : Hp) (a : Addr) (ns : List Int), ns.length ≤ n → Only H → SqL (K w.params) H a (ns.map V.int) → sp w [.ref a] H (fun v _ => v = .bl true) fun _ _ _ => False) : PySem.W.WalkO q loose XP YP l.row.toRowW d [] (fun f vs => PySem.call f vs) := by
  refine Att.attach_call hn hdf fun w s₀ s₁ mg mb fa o pm cd doc a vs ns G Y ho hd hcd hmg hobj hints hlen hg => ?_
  obtain ⟨fd, hb, hF⟩ := F w mg fa _ (hY w _ Y) G.T.g hmg
  exact law_callG (hY w _ Y) G.T.g G.T.b G.T.builtins G.T.nolimit hg hobj hints (Nat.le_trans hlen hn2) hr hF hb fun H hO hS => hsp w H a ns hlen hO hS
theorem call_reprK {X : Cx} {K : PySem.W.Frag} (hK : X.K = K) (hg : X.A.guards = some []) (hu : X.A.units + 64 < cLine) : CallR X (.builtin "repr") (rRepr K) := hK ▸ call_repr hg hu
theorem call_isXK {X : Cx} {K : PySem.W.Frag} {a : Addr} {oe : Obj} {cls : Value} {d : Option Addr} {pn : List (Addr × Obj)} (hK : X.K = K) (hz : Zc cls d oe) (hf : ∃ vs, oe.data = .fields vs) : CallR (X.suite a ((a, oe) :: pn)) (.builtin "isinstance") (rIsX K a cls d) := hK ▸ call_isX hz hf
theorem ps_try1K {X : Cx} {K : PySem.W.Frag} {x n : Str} {cE : Value} {i : Nat} {body suite : List Stmt} {b₀ : Stmt} {np pos pos' : Pos} {tb : WX → TS} {ts : Addr → Value → Option Addr → TS} (hK : X.K = K) (hs : X.stack = X.env :: X.outer) (hf : X.env.frame = some X.env.locals) (hN : X.N.Nodup) (hi : X.N[i]? = some n) (hln : X.env.kindOf n = some .local) (hc : Names X x cE)
    (hb : ∀ (W : WX) (pn : List (Addr × Obj)) (xe : Value → Shared → Prop), L2N.Takes (X.tr pn xe) W → PSs (X.tr pn xe) body (tb W))
    (hsu : ∀ (a : Addr) (oe : Obj) (cls : Value) (d : Option Addr) (pn : List (Addr × Obj)), Zc cls d oe → (∃ vs, oe.data = .fields vs) → PSs (X.suite a ((a, oe) :: pn)) (b₀ :: suite) (ts a cls d)) :
    PS X (.Try body [.ExceptHandler (some (.Name x np)) (some n) (b₀ :: suite) pos'] [] [] pos) (tTry K cE i ts tb) := hK ▸ ps_try1 hs hf hN hi hln hc hb hsu
theorem we_callX0 {c : Ct} {A : AS} {Q : QE} {Φ : Contract} {E : XK} {t : TA} (hE : ∀ σ, c.E σ = E) (h : WA c t A fun A1 ds => Φ ds A1.o (fun O' d => Q ⟨A1.s, O'⟩ (.val d)) (fun O' C fs => c.X ⟨A1.s, O'⟩ C fs)) : WE c (tCall (SpA c.K Φ) [] E t) A Q :=
  we_callX (dds := []) hE (fun _ _ => .nil) (by simpa using h)
theorem we_callS0 {c : Ct} {A : AS} {Q : QE} {Φ : Contract} {E : L2.St → XK} {t : TA} (hE : ∀ σ, c.E σ = E σ) (h : WA c t A fun A1 ds => Φ ds A1.o (fun O' d => Q ⟨A1.s, O'⟩ (.val d)) (fun O' C fs => c.X ⟨A1.s, O'⟩ C fs)) : WE c (tCallSD (SpA c.K Φ) [] E t) A Q :=
  we_callS (dds := []) hE (fun _ _ => .nil) (by simpa using h)
end AL

set_option maxHeartbeats 4000000
namespace AL
open PySem PySem.Spec PyProof.Rows L2
/-! ### an own list that is given back, and taken -/
mutual
inductive Plain : D → Prop where
  | non : Plain .non
  | bl (b : Bool) : Plain (.bl b)
  | int (i : Int) : Plain (.int i)
  | str (x : Str) : Plain (.str x)
  | tup {ds : List D} : Plains ds → Plain (.tup ds)
inductive Plains : List D → Prop where
  | nil : Plains []
  | cons {d : D} {ds : List D} : Plain d → Plains ds → Plains (d :: ds)
end
theorem plains_map {α : Type} {f : α → D} (h : ∀ a, Plain (f a)) : ∀ xs : List α, Plains (xs.map f)
  | [] => .nil
  | x :: xs => .cons (h x) (plains_map h xs)
section
variable {K : PySem.W.Frag} {F : Hp} {m m' : List Addr}
mutual
theorem Plain.any : ∀ {d : D} {v : V}, Plain d → Rep K F m v d → Rep K F m' v d
  | _, _, .non, .non => .non
  | _, _, .bl b, .bl _ => .bl b
  | _, _, .int i, .int _ => .int i
  | _, _, .str x, .str _ => .str x
  | _, _, .tup h, .tup a r => .tup a (Plains.any h r)
theorem Plains.any : ∀ {d : List D} {v : List V}, Plains d → Reps K F m v d → Reps K F m' v d
  | _, _, .nil, .nil => .nil
  | _, _, .cons h t, .cons a r => .cons (Plain.any h a) (Plains.any t r)
end
end
def AllGone (O : List Cell) : Prop := ∀ c ∈ O, c = Cell.gone
theorem allGone_rep (j : Nat) : AllGone (List.replicate j .gone) := fun _ h => List.eq_of_mem_replicate h
theorem AllGone.noLst {O : List Cell} (h : AllGone O) : NoLstO O := fun c hc => by rw [h c hc]; exact .gone
section
variable {c : Ct} {A : AS}
theorem wn_takeOwn {i : Nat} {ds : List D} {Q : AS → List D → Prop} (h : A.s[i]? = some (some (.own (.lst ds)))) (q : Q ⟨A.s.set i none, A.o⟩ ds) : WN c (tVar i) A Q := fun F G m σ H S E Qc k => by
  obtain ⟨a, e, _, f, g, mm, vs, hv, rv⟩ := S.s.ownAt h
  refine ⟨.ref a, e, k F m ⟨A.s.set i none, A.o⟩ a vs H ds (Evl.Ex.refl F) (Pre.refl m) ⟨S.h, S.s.forget1 i⟩ f g mm (fun ⟨j, c', z1, z2⟩ => ?_) hv rv q⟩
  by_cases y : i = j
  · subst y
    have z1 : (A.s.set i none)[i]? = some (some (.own c')) := z1
    rw [List.getElem?_set_self (List.getElem?_eq_some_iff.mp h).1] at z1
    cases z1
  · have z1 : (A.s.set i none)[j]? = some (some (.own c')) := z1
    rw [List.getElem?_set_ne y] at z1
    exact S.s.own i j _ _ _ y h z1 e z2
theorem last_one {m m' : List Addr} {n : Nat} (p : Pre m m') (l : m.length = n) (l' : m'.length = n + 1) : ∃ a, m' = m ++ [a] := by
  have hn : n < m'.length := by omega
  refine ⟨m'[n], List.ext_getElem? fun i => ?_⟩
  by_cases z : i < m.length
  · rw [List.getElem?_append_left z, List.getElem?_eq_getElem z]
    exact p i _ (List.getElem?_eq_getElem z)
  · rw [List.getElem?_append_right (by omega)]
    by_cases y : i = n
    · subst y
      rw [l, Nat.sub_self, List.getElem?_eq_getElem hn]; rfl
    · rw [List.getElem?_eq_none (by omega), List.getElem?_eq_none (by simp; omega)]
theorem HS.cutG {K : PySem.W.Frag} {F G H : Hp} {m : List Addr} {O : List Cell} {x : Cell} {a : Addr} (h : HS K F G (m ++ [a]) (O ++ [x]) H) (g : AllGone O) : HS K F G m O H := by
  have l : m.length = O.length := by have := h.len; simp at this; exact this
  have up : ∀ (n : Nat) b, m[n]? = some b → (m ++ [a])[n]? = some b := fun n b e => by rw [List.getElem?_append_left (List.getElem?_eq_some_iff.mp e).1]; exact e
  refine ⟨h.exF, h.exG, h.dj, l, fun n b c e1 e2 lv => ?_, fun n n' b e1 e2 => h.inj n n' b (up _ _ e1) (up _ _ e2), fun n b e => h.here n b (up _ _ e), fun n b e => h.mG n b (up _ _ e), fun n b e1 e2 => h.gn n b (up _ _ e1) ?_⟩
  · have z := g c (List.mem_of_getElem? e2)
    subst z
    exact lv.elim
  · rw [List.getElem?_append_left (by have := (List.getElem?_eq_some_iff.mp e1).1; omega)]; exact e2
/-- what a call gives back, a new list at the end of the cells, becomes the name's own -/
theorem wn_call {Φ : Contract} {E : XK} {t : TA} {Q : AS → List D → Prop} (h : WA c t A fun A1 ds => AllGone A1.o ∧ Φ ds A1.o (fun O' d => ∃ es, O' = A1.o ++ [.lst es] ∧ d = .ptr A1.o.length ∧ Plains es ∧ Q A1 es) (fun _ _ _ => False)) : WN c (tCall (SpA c.K Φ) [] E t) A Q := fun F G m σ H S Eo Qc k =>
  h F G m σ H S Eo _ fun F1 m1 A1 vs H1 ds e1 p1 S1 R1 ⟨hg, q⟩ =>
    ⟨F1, callG A1.s σ G H1, m1, A1.o, ds, _, _, S1.call, by rw [List.append_nil]; exact R1, q, fun F' m' O' v d H' e p hs r ⟨es, eO, ed, pl, qq⟩ => by
      subst eO; subst ed
      obtain ⟨a, rfl⟩ := last_one p S1.h.len (by have := hs.len; rw [List.length_append] at this; exact this)
      have ea : (m1 ++ [a])[A1.o.length]? = some a := by rw [← S1.h.len, List.getElem?_append_right (Nat.le_refl _), Nat.sub_self]; rfl
      cases r with
      | ptr r =>
        rw [ea] at r
        cases r
        obtain ⟨f, cg, ws, hv, rw_⟩ := hs.cell _ a (.lst es) ea (by rw [List.getElem?_append_right (Nat.le_refl _), Nat.sub_self]; rfl) trivial
        have no : ¬ IsOwn A1.s σ a := fun z => by
          obtain ⟨_, _, _, u, hu⟩ := S1.s.isOwn z
          rw [callG_own z, hu] at cg; cases cg
        refine k F' m1 A1 a ws H' es (e1.trans e) p1 (S1.back e (Pre.refl _) (hs.cutG hg)) f (by rw [callG_not no] at cg; exact cg) (fun n z => ?_) no hv (pl.any rw_) qq
        have y := hs.inj n A1.o.length a (by rw [List.getElem?_append_left (List.getElem?_eq_some_iff.mp z).1]; exact z) ea
        have := (List.getElem?_eq_some_iff.mp z).1
        rw [S1.h.len] at this; omega, fun _ _ _ _ _ _ _ _ _ _ _ _ _ xx => xx.elim⟩
end
end AL

set_option maxHeartbeats 4000000
namespace AL
open PySem PySem.Spec PyProof.Rows L2
/-! ### a def that is handed the exception which the suite holds -/
theorem _root_.L2H.RoomH.units {k : Nat} {A : Around} (r : L2H.RoomH k A) : A.units + 64 < cLine := by have := r.un; omega
abbrev SpX := Addr → Value → Option Addr → Sp
structure FnE (P : Program) (w : World) (K : PySem.W.Frag) (mg : Str → Option Value) (base : Heap) (k : Nat) (f : Addr) (fd : FuncData) (y : Str) (sp : SpX) : Prop where
  go : ∀ (A : Around) (outer : List Env) (s : Shared) (H : Hp) (args : Args) (us : List Value) (Q : VK) (E : XK) (p : Addr × Obj) (cls : Value) (d : Option Addr), L2H.RoomH k A → A.guards = some [] → L2H.Hot1 A p → L2H.PinOk outer H s p → Zc cls d p.2 → (∃ vs, p.2.data = .fields vs) →
    Env0 P w K mg base A outer s H → BindsTo s fd args ([y].zip us) → Vals [.ref p.1] us → sp p.1 cls d [.ref p.1] H Q E → codeAny (model P w) A (.call (.ref f) args) (CR CX0 outer P w H s Q E) s
theorem FnE.mono {P : Program} {w : World} {K : PySem.W.Frag} {mg : Str → Option Value} {base : Heap} {j k : Nat} {f : Addr} {fd : FuncData} {y : Str} {sp : SpX} (F : FnE P w K mg base j f fd y sp) (h : j ≤ k) : FnE P w K mg base k f fd y sp := ⟨fun A outer s H args us Q E p cls d hr => F.go A outer s H args us Q E p cls d (hr.mono h)⟩
section
variable {P : Program} {w : World} {K : PySem.W.Frag} {mg : Str → Option Value} {base : Heap}
theorem okEx {x qual : Str} {st : Stmt} {f : Addr} {fd : FuncData} {N : List Str} {y : Str} {k : Nat} {sp : SpX} (F : Fun K x qual st f fd) (S : FnScope N [y] (defScope st))
    (hb : ∀ (cdv : Value) (A : Around) (outer : List Env) (s : Shared) (H : Hp) (Q : VK) (E : XK) (p : Addr × Obj) (cls : Value) (d : Option Addr), Zc cls d p.2 → (∃ vs, p.2.data = .fields vs) → A.guards = some [] → L2H.RoomH k (A.deeper (envOfC qual (defScope st) s.heap.objs.size f cdv)) → sp p.1 cls d [.ref p.1] H Q E →
      ∃ t, PSs (L2H.cxH CX0 P w K mg base N qual (defScope st) f cdv A outer s H E p) (defBody st) t ∧ t { nx := fun _ H' => Q .non H', rt := Q } (start N [.ref p.1]) H) :
    FnE P w K mg base (k + 1) f fd y sp := by
  obtain ⟨_, _, _, _, _, _, cdv, _, _, e, lk, hcd⟩ := F.ex
  subst e
  refine ⟨fun A outer s H args us Q E p cls d hr hg hot hpin hz hf e0 ba r hsp => ?_⟩
  have kX : K.In s.heap := e0.mod.kin.keeps fun b o z => (e0.bs b o z).1
  have lim : s.heap.NoLimit := e0.mod.nolimit.keeps fun b o e => (e0.bs b o e).1
  have hkind : ∀ z ∈ [y].zip us, (defScope st).names.lookup z.1 = some .local ∨ ((defScope st).names.lookup z.1 = some .cell ∧ ((cellsFrom (s.heap.objs.size + 1) (defScope st).names []).lookup z.1).isSome = true) := fun ⟨n, v⟩ hy => by
    rcases S.par n (List.of_mem_zip hy).1 with q | q
    · exact .inl q
    · exact .inr ⟨q, PySem.W.cellsFrom_some _ _ _ (.inl q)⟩
  refine codeAny_call_function hr.depth (kX _ _ lk) rfl S.co S.gen rfl (PySem.W.codeRec_of kX hcd) (ba _ _ _ _ ?_)
  refine wpAny_newFunctionEnv_cells S.kind hkind fun env he s1 x => ?_
  subst he
  refine ⟨lim.keeps x.toInCall.keep, codeAny_func ?_⟩
  obtain ⟨t, ht, hq⟩ := hb cdv A outer s H Q E p cls d hz hf hg (hr.deeper _) hsp
  have I : Inv (L2H.cxH CX0 P w K mg base N qual (defScope st) f cdv A outer s H E p) [] (L2.start N [.ref p.1]) H s1 := L2H.inv_startH S hpin e0 rfl r x
  refine wpAny_mono (ht.run [] s1 (L2.start N [.ref p.1]) H _ I hq) (fun fl s' hs => ?_) fun e s' hs => hs
  match fl, hs with
  | .ret u, ⟨v, _, H', J, rv, q⟩ => exact ⟨v, H', J.os, J.bare, J.base, J.hok, rv, q⟩
  | .next, ⟨_, H', J, q⟩ => exact ⟨.non, H', J.os, J.bare, J.base, J.hok, rfl, q⟩
  | .brk, ⟨_, _, _, q⟩ => exact q.elim
  | .cont, ⟨_, _, _, q⟩ => exact q.elim
end
/-- f(e), e the exception -/
def tCallE (sp : SpX) (a : Addr) (cls : Value) (d : Option Addr) (ta : TA) : TE := fun σ H Q => ta σ H fun vs H1 => vs = [.ref a] ∧ sp a cls d [.ref a] H1 Q (fun _ _ _ => False)
theorem pe_callE {X : Cx} {k : Nat} {f : Addr} {fd : FuncData} {y : Str} {sp : SpX} {x : Str} {p pos : Pos} {e : Expr} {t : TA} {a : Addr} {oe : Obj} {cls : Value} {d : Option Addr} {pn : List (Addr × Obj)}
    (G : FnE X.prog X.w X.K X.mg X.base k f fd y sp) (hr : L2H.RoomH k X.A) (hd : X.A.guards = some []) (hz : L2N.Zn cls d oe) (hf : ∃ vs, oe.data = .fields vs) (hg : Gl (X.suite a ((a, oe) :: pn)) x) (hm : X.mg x = some (.ref f)) (hk : PySem.W.keepIn X.K (.ref f) = true) (hb : Binds X.K fd [y] [])
    (ha : PA (X.suite a ((a, oe) :: pn)) [e] t)
    (h3 : (x == ("__debug__" : Str)) = false := by decide) (h4 : starEach [e] X.env = (false, eval e X.env) :: starEach [] X.env := by rfl) (h5 : (backTo pos (starEach [] X.env)).any (·.1) = false := by rfl) : PE (X.suite a ((a, oe) :: pn)) (.Call (.Name x p) [e] [] pos) (tCallE sp a cls d t) := by
  have hot : L2H.Hot1 (X.suite a ((a, oe) :: pn)).A (a, oe) := ⟨rfl, by obtain ⟨vs, hv⟩ := hf; exact ⟨vs, hv, hz.2.2 vs hv⟩⟩
  refine ⟨fun pins s σ H Q I h => wpAny_Call_Name_kw (ld_glob I hg hm (PySem.W.callWith_K (h₀ := X.base) I.ok.mod.kin hk (thn (ha.run pos pins s σ H _ I h) fun us s1 ⟨vs, H1, I1, r, ev, q⟩ => ⟨I1.kIn, ?_⟩) h4 h5) h3)⟩
  · subst ev
    have hl : us.length = 1 := r.length.symm
    have bl := hb s1 us I1.kIn (by rw [List.append_nil]; exact hl)
    rw [List.append_nil] at bl
    have P1 := I1.pin (a, oe) (List.mem_append_left _ List.mem_cons_self)
    have hpin : L2H.PinOk X.stack H1 s1 (a, oe) := ⟨P1.1, P1.2.1, fun hm => (List.mem_cons.mp (I1.stkSub a hm)).elim P1.2.2.1 P1.2.2.2.1, P1.2.2.2.2⟩
    refine wpAny_call (codeAny_mono (G.go _ X.stack s1 H1 ⟨us, []⟩ us Q (fun _ _ _ => False) (a, oe) cls d ⟨hr.dp, hr.un⟩ hd hot hpin hz.zc hf I1.env0 bl r q) fun y s' hq => ?_)
    match y, hq with
    | .error z, hq => exact (show False from hq).elim
    | .ok (.ret u), hq => exact I1.after hq
/-- its promise in the abstract: C the exception's class, fs its fields -/
def SpE (K : PySem.W.Frag) (Φ : Addr → List (Str × D) → List Cell → (List Cell → D → Prop) → Prop) : SpX := fun a cls d vs H Q E => ∃ (F G : Hp) (m : List Addr) (O : List Cell) (R : List Cell → D → Prop) (C dx : Addr) (fvs : List (Str × V)) (fs : List (Str × D)),
  vs = [.ref a] ∧ cls = .ref C ∧ d = some dx ∧ HS K F G m O H ∧ F dx = some (.xd fvs) ∧ RepF K F m fvs fs ∧ Φ C fs O R ∧ ∀ F' m' O' v e H', Ex F F' → Pre m m' → HS K F' G m' O' H' → Rep K F' m' v e → R O' e → Q v H'
theorem we_callE {c : Ct} {A : AS} {Q : QE} {a C dd : Addr} {fs : List (Str × D)} {i : Nat} {Φ : Addr → List (Str × D) → List Cell → (List Cell → D → Prop) → Prop} (hi : A.s[i]? = some (some (.val (.cls a)))) (hv : c.hv = some (dd, fs)) (h : Φ C fs A.o fun O' d => Q ⟨A.s, O'⟩ (.val d)) : WE c (tCallE (SpE c.K Φ) a (.ref C) (some dd) (tCons (tVar i) tNil)) A Q := fun F G m σ H S E Qc k => by
  obtain ⟨v, e, r⟩ := S.s.valAt hi
  cases r
  obtain ⟨fvs, z1, z2⟩ := E.h dd fs hv
  exact ⟨_, e, rfl, F, callG A.s σ G H, m, A.o, _, C, dd, fvs, fs, rfl, rfl, rfl, S.call, z1, z2, h, fun F' m' O' v d H' e p hs rr q => k F' m' ⟨A.s, O'⟩ v H' (.val d) e p (S.back e p hs) rr q⟩
theorem SpE.cls {K : PySem.W.Frag} {Φ : Addr → List (Str × D) → List Cell → (List Cell → D → Prop) → Prop} {a : Addr} {cls : Value} {d : Option Addr} {vs : List V} {H : Hp} {Q : VK} {E : XK} (h : SpE K Φ a cls d vs H Q E) : ∃ C dx : Addr, cls = .ref C ∧ d = some dx := by
  obtain ⟨F, G, m, O, R, C, dx, fvs, fs, -, h1, h2, -⟩ := h
  exact ⟨C, dx, h1, h2⟩
/-- its body -/
theorem run_bodyE {K : PySem.W.Frag} {Φ : Addr → List (Str × D) → List Cell → (List Cell → D → Prop) → Prop} {t : TS} {N : List Str} {a C dx : Addr} {H : Hp} {Q : VK} {E : XK} (h : SpE K Φ a (.ref C) (some dx) [.ref a] H Q E)
    (hb : ∀ fs O R (c : Ct), K = c.K → c.hv = some (dx, fs) → Φ C fs O R → WS c t ⟨entry N.length [.cls a], O⟩ ⟨fun A => R A.o .non, R, fun _ => False, fun _ => False⟩) : t { nx := fun _ H' => Q .non H', rt := Q } (L2.start N [.ref a]) H := by
  obtain ⟨F, G, m, O, R, C', dx', fvs, fs, -, e1, e2, hs, hx, rf, p, q⟩ := h
  cases e1; cases e2
  exact hb fs O R ⟨K, fun _ _ _ _ => True, fun _ _ _ => False, some (dx, fs)⟩ rfl rfl p F G m (L2.start N [.ref a]) H ⟨hs, entry_ok (.cons (.cls a) .nil)⟩ ⟨fun _ _ _ _ _ _ _ _ _ _ _ _ _ _ z => z.elim, fun d2 f2 z => by cases z; exact ⟨fvs, hx, rf⟩⟩ _ ⟨fun F' m' A' σ' H' e p S z => q F' m' A'.o .non .non H' e p S.h .non z, fun F' m' O' v d H' e p S R z => q F' m' O' v d H' e p S R z, fun _ _ _ _ _ _ _ _ z => z.elim, fun _ _ _ _ _ _ _ _ z => z.elim⟩
theorem call_isP {X : Cx} {a : Addr} {oe : Obj} {cls : Value} {d : Option Addr} (hp : (a, oe) ∈ X.pn) (hz : Zc cls d oe) (hf : ∃ vs, oe.data = .fields vs) : CallR X (.builtin "isinstance") (rIsX X.K a cls d) := by
  intro pins s σ H xs us Q I r h
  obtain ⟨D, dd, fs, z, b, rfl, rfl, C, hx, rfl, e, q⟩ := h
  match us, r with
  | [_, u], .cons rx (.cons rt .nil) =>
    cases rx
    have hget := (I.pin (a, oe) (List.mem_append_left _ hp)).1
    obtain ⟨vs, hv⟩ := hf
    obtain ⟨mA, hns, _⟩ : ObjOk X.prog X.w H s.heap dd (.xd fs) := I.hok dd _ hx
    obtain ⟨od, ho, _⟩ := lookIn_ns hns
    have J : PySem.W.InstAt s.heap a oe D (some od) := ⟨hget, hz.1, by unfold PySem.W.notCls; rw [hv] <;> rfl, by rw [hz.2]; exact ho⟩
    have kx := PySem.W.kitx_exc (x := a) (ox := oe) (od := some od) C.cl C.ga C.gg C.su C.ca C.cg C.tk C.mo
    rcases e with ⟨cv, hcv, e⟩ | ⟨tp, vs, rfl, ht, e⟩
    · have eu := hcv _ rt
      subst eu
      exact PySem.W.kia_one kx I.kIn J e (fun y => nomatch y) fun tk => ⟨.bl b, H, I.kept (t' := tk) fun _ _ y => y, rfl, q⟩
    · cases rt
      rcases ht with ⟨its, ht⟩ | ⟨its, n, sl, lk, _, rv⟩
      case inr =>
        obtain ⟨its⟩ := its
        exact PySem.W.kia_tup kx I.kIn J (I.kIn _ _ lk) (e its rv) (fun y => nomatch y) fun tk => ⟨.bl b, H, I.kept (t' := tk) fun _ _ y => y, rfl, q⟩
      obtain ⟨go, _, us, rv, ob, eo, _, n, ed⟩ := I.hok tp _ ht
      have eb : tupObj its = ob := Option.some.inj (go.symm.trans eo)
      subst eb
      have ed' : Data.seq its.toArray = Data.seq us.toArray n := ed
      cases ed'
      exact PySem.W.kia_tup kx I.kIn J (n := 0) (sl := #[]) go (e its rv) (fun y => nomatch y) fun tk => ⟨.bl b, H, I.kept (t' := tk) fun _ _ y => y, rfl, q⟩
theorem pe_xfP {X : Cx} {a C : Addr} {oe : Obj} {cls : Value} {d : Option Addr} {e : Expr} {te : TE} {pos : Pos} {n : Str} (hp : (a, oe) ∈ X.pn) (T : XfC X.K C) (hno : PySem.W.findIn X.K (.ref C) n = some none)
    (hz : Zc cls d oe) (hf : ∃ vs, oe.data = .fields vs) (he : PE X e te) (hb : attributeBase e n X.env (eval e X.env) = eval e X.env := by rfl) : PE X (.Attribute e n pos) (tXf a cls d C n te) := by
  refine ⟨fun pins s σ H Q I h => ?_⟩
  refine attr_of hb (thn (he.run pins s σ H _ I h) fun u s1 hh => ?_)
  obtain ⟨x, H1, I1, rx, ex, ec, dd, fs, v, ed, ea, l, q⟩ := hh
  subst ex
  obtain rfl : u = Value.ref a := rx
  subst ec
  subst ed
  obtain ⟨ha, _⟩ := I1.pin (a, oe) (List.mem_append_left _ hp)
  obtain ⟨vs, hd⟩ := hf
  have hx : ObjOk X.prog X.w H1 s1.heap dd (.xd fs) := I1.hok dd _ ea
  obtain ⟨mA, hns, hr⟩ := hx
  obtain ⟨od, ho, hl⟩ := lookIn_ns hns
  obtain ⟨u, hu, ru⟩ := RelO.some_of (v := v) (o := mA n) (by rw [← l]; exact hr n)
  have J : PySem.W.InstAt s1.heap a oe C (some od) := ⟨ha, hz.1, by unfold PySem.W.notCls; rw [hd] <;> rfl, by rw [hz.2]; exact ho⟩
  exact HandSPX.exc_get I1.kIn J T.ga T.gg T.exC (PySem.W.findObj_own T.hdC hno rfl (by rw [hl, hu])) (handed_of ru) ⟨v, H1, I1.tok _, ru, q⟩
theorem call_isPK {X : Cx} {K : PySem.W.Frag} {a : Addr} {oe : Obj} {cls : Value} {d : Option Addr} (hK : X.K = K) (hp : (a, oe) ∈ X.pn) (hz : Zc cls d oe) (hf : ∃ vs, oe.data = .fields vs) : CallR X (.builtin "isinstance") (rIsX K a cls d) := hK ▸ call_isP hp hz hf
/-- a try whose suite knows that the context is None -/
theorem ps_try1N {X : Cx} {K : PySem.W.Frag} {x n : Str} {cE : Value} {i : Nat} {body suite : List Stmt} {b₀ : Stmt} {np pos pos' : Pos} {tb : WX → TS} {ts : Addr → Value → Option Addr → TS} (hK : X.K = K) (hs : X.stack = X.env :: X.outer) (hf : X.env.frame = some X.env.locals) (hN : X.N.Nodup) (hi : X.N[i]? = some n) (hln : X.env.kindOf n = some .local) (hc : Names X x cE)
    (hb : ∀ (W : WX) (pn : List (Addr × Obj)) (xe : Value → Shared → Prop), L2N.Takes (X.tr pn xe) W → PSs (X.tr pn xe) body (tb W))
    (hsu : ∀ (a : Addr) (oe : Obj) (cls : Value) (d : Option Addr) (pn : List (Addr × Obj)), L2N.Zn cls d oe → (∃ vs, oe.data = .fields vs) → PSs (X.suite a ((a, oe) :: pn)) (b₀ :: suite) (ts a cls d)) :
    PS X (.Try body [.ExceptHandler (some (.Name x np)) (some n) (b₀ :: suite) pos'] [] [] pos) (tTry K cE i ts tb) := hK ▸ L2N.ps_try_as hs hf hN hi hln hc takesN0 (fun W pn xe tk _ => hb W pn xe tk) fun a oe cls d pn hz hf => hsu a oe cls d pn hz hf
end AL

set_option maxHeartbeats 4000000
namespace AL
open PySem PySem.Spec PyProof.Rows L2
/-! ### methods and makings within a try -/
section
variable {X : Cx} {CX : CXT} {k n : Nat} {f C : Addr} {fd : FuncData} {ps ks : List Str} {sp : Sp} {dvs : List V} {ds : List Value} {E : L2.St → XK} {x m : Str} {p pos apos : Pos} {e o : Expr} {es : List Expr} {ta : TE} {t : TA}
def tMethS (C : Addr) (m : Str) (sp : Sp) (E : L2.St → XK) (ta : TE) (t : TA) : TE := fun σ H Q => ta σ H fun x H1 => ∃ a dx fs, x = .ref a ∧ H1 a = some (.ins C dx fs) ∧ fs.lookup m = none ∧ t σ H1 fun vs H2 => sp (x :: vs) H2 Q (E σ)
theorem pe_methS {pl : Sem Bool} (he : PE X o ta) (c : Cls X.K C) (hm : Meth X.K C m f) (F : FnOk X.prog X.w X.K X.mg X.base CX k f fd ps sp) (hr : Room k X.A) (hb : Binds X.K fd ps []) (hx : ∀ σ, PassesAt CX X σ (E σ)) (ha : PA X (e :: es) t)
    (hst : starEach (e :: es) X.env = (false, eval e X.env) :: starEach es X.env := by rfl) (hpl : (backTo pos (starEach es X.env)).any (·.1) = false := by rfl)
    (ht : eval (.Call (.Attribute o m apos) (e :: es) [] pos) X.env = (do
      let ov ← eval o X.env
      standAt apos.atName
      let (f, first) ← holding [ov] (getMethod ov m pl)
      callWith pos f first (backTo pos (starEach (e :: es) X.env)) (backToKw pos (keywordEach [] X.env))) := by rfl) :
    PE X (.Call (.Attribute o m apos) (e :: es) [] pos) (tMethS C m sp E ta t) := by
  refine ⟨fun pins s σ H Q I h => ?_⟩
  refine PySem.W.methodCall_KW (pl := pl) (thn (he.run pins s σ H _ I h) fun u s1 ⟨x, H1, I1, rx, a, dx, fs, ex, ea, l, q⟩ => ?_) ht
  subst ex
  obtain rfl : u = Value.ref a := rx
  refine getmeth_ok I1 ea c hm l ?_
  refine PySem.W.callWith_K (first := [.ref a]) (h₀ := X.base) I.ok.mod.kin hm.kp (thn (ha.run pos pins s1 σ H1 _ I1 q) fun us s2 ⟨vs, H2, I2, r, q2⟩ => ⟨I2.kIn, ?_⟩) hst hpl
  exact run_fnS (us := .ref a :: us) (vs := .ref a :: vs) F hr hb (hx σ) I2 (.cons rfl r) q2
theorem pe_meth0S {pl : Sem Bool} (he : PE X o ta) (c : Cls X.K C) (hm : Meth X.K C m f) (F : FnOk X.prog X.w X.K X.mg X.base CX k f fd ps sp) (hr : Room k X.A) (hb : Binds X.K fd ps []) (hx : ∀ σ, PassesAt CX X σ (E σ))
    (ht : eval (.Call (.Attribute o m apos) [] [] pos) X.env = (do
      let ov ← eval o X.env
      standAt apos.atName
      let (f, first) ← holding [ov] (getMethod ov m pl)
      callWith pos f first (backTo pos (starEach [] X.env)) (backToKw pos (keywordEach [] X.env))) := by rfl) :
    PE X (.Call (.Attribute o m apos) [] [] pos) (tMethS C m sp E ta tNil) := by
  refine ⟨fun pins s σ H Q I h => ?_⟩
  refine PySem.W.methodCall_KW (pl := pl) (thn (he.run pins s σ H _ I h) fun u s1 ⟨x, H1, I1, rx, a, dx, fs, ex, ea, l, q⟩ => ?_) ht
  subst ex
  obtain rfl : u = Value.ref a := rx
  refine getmeth_ok I1 ea c hm l ?_
  exact PySem.W.callWith_K0 (first := [.ref a]) I1.kIn hm.kp (run_fnS (us := [.ref a]) (vs := [.ref a]) F hr hb (hx σ) I1 (.cons rfl .nil) q)
theorem run_makeS {pins : List (Addr × Obj)} {σ : L2.St} {H : Hp} {s : Shared} {Q : VK} {us : List Value} {vs : List V} (M : Mk X.K C f) (F : FnOk X.prog X.w X.K X.mg X.base CX k f fd ps sp) (hr : Room (k + 1) X.A) (hb : Binds X.K fd ps ds) (hd : Vals dvs ds)
    (hx : PassesAt CX X σ (E σ)) (I : Inv X pins σ H s) (r : Vals vs us)
    (h : ∀ x dx, H x = none → H dx = none → dx ≠ x → sp (.ref x :: (vs ++ dvs)) (upd (upd H dx (.own x)) x (.ins C dx [])) (fun v H2 => v = .non ∧ Q (.ref x) H2) (E σ)) :
    wpAny (model X.prog X.w) X.A (call (.ref C) us) (EP X pins σ Q) X.xe s := by
  have hq := h (s.heap.objs.size + 1) s.heap.objs.size (I.hok.fresh (Nat.le_succ _)) (I.hok.fresh (Nat.le_refl _)) (Nat.ne_of_lt (Nat.lt_succ_self _))
  have I2 := Inv.made (C := C) I
  have r2 : Vals (V.ref (s.heap.objs.size + 1) :: (vs ++ dvs)) (Value.ref (s.heap.objs.size + 1) :: (us ++ ds)) := .cons rfl (r.append hd)
  have hl : (Value.ref (s.heap.objs.size + 1) :: us ++ ds).length = ps.length := by
    have e := r2.length
    rw [F.len _ _ _ _ hq] at e
    exact e.symm
  refine wpAny_call (make_map (f := f) I.kIn M.makes M.init (beq_iff_eq.mp M.fn) (codeAny_mono (F.run _ X.stack _ _ ⟨Value.ref (s.heap.objs.size + 1) :: us, []⟩ (Value.ref (s.heap.objs.size + 1) :: (us ++ ds)) _ _ (E σ) (hr.make C us [])
    (I2.env0.make C us []) (hb _ (Value.ref (s.heap.objs.size + 1) :: us) I2.kIn hl) r2 hq) fun r s' hq' => ?_))
  cases r with
  | error e => exact hx pins _ _ e s' I2 hq'
  | ok fl =>
    cases fl with
    | ret u =>
      obtain ⟨v, H', I3, rv, ev, q3⟩ := I2.after hq'
      subst ev
      exact ⟨rv, ⟨V.ref (s.heap.objs.size + 1), H', I3, rfl, q3⟩⟩
    | next => exact False.elim hq'
    | brk => exact False.elim hq'
    | cont => exact False.elim hq'
def tMakeS (C : Addr) (sp : Sp) (dvs : List V) (E : L2.St → XK) (t : TA) : TE := fun σ H Q => t σ H fun vs H1 => ∀ x dx, H1 x = none → H1 dx = none → dx ≠ x →
  sp (.ref x :: (vs ++ dvs)) (upd (upd H1 dx (.own x)) x (.ins C dx [])) (fun v H2 => v = .non ∧ Q (.ref x) H2) (E σ)
theorem pe_makeS (M : Mk X.K C f) (F : FnOk X.prog X.w X.K X.mg X.base CX k f fd ps sp) (hr : Room (k + 1) X.A) (hg : Gl X x) (hm : X.mg x = some (.ref C)) (hb : Binds X.K fd ps ds) (hd : Vals dvs ds) (hx : ∀ σ, PassesAt CX X σ (E σ))
    (ha : PA X (e :: es) t) (hdb : (x == ("__debug__" : Str)) = false := by decide) (he : starEach (e :: es) X.env = (false, eval e X.env) :: starEach es X.env := by rfl) (hpl : (backTo pos (starEach es X.env)).any (·.1) = false := by rfl) :
    PE X (.Call (.Name x p) (e :: es) [] pos) (tMakeS C sp dvs E t) := by
  refine ⟨fun pins s σ H Q I h => ?_⟩
  refine wpAny_Call_Name_kw (ld_glob I hg hm ?_ hdb)
  refine PySem.W.callWith_K (h₀ := X.base) I.ok.mod.kin M.kp (thn (ha.run pos pins s σ H _ I h) fun us s1 ⟨vs, H1, I1, r, q⟩ => ⟨I1.kIn, ?_⟩) he hpl
  exact run_makeS M F hr hb hd (hx σ) I1 r q
def tMakeKS (C : Addr) (n m : Nat) (sp : Sp) (gV : List V → List V → List V) (E : L2.St → XK) (t tk : TA) : TE := fun σ H Q => t σ H fun vs H1 => tk σ H1 fun zs H2 => vs.length = n ∧ zs.length = m ∧ ∀ x dx, H2 x = none → H2 dx = none → dx ≠ x →
  sp (gV (.ref x :: vs) zs) (upd (upd H2 dx (.own x)) x (.ins C dx [])) (fun v H3 => v = .non ∧ Q (.ref x) H3) (E σ)
end
section
variable {X : Cx} {CX : CXT} {k n : Nat} {f C : Addr} {fd : FuncData} {ps ks : List Str} {sp : Sp} {E : L2.St → XK} {x : Str} {p pos : Pos} {e : Expr} {es : List Expr} {kws : List Keyword} {t tk : TA} {g : List Value → List Value → List Value} {gV : List V → List V → List V}
theorem run_makeKS {pins : List (Addr × Obj)} {σ : L2.St} {H : Hp} {s : Shared} {Q : VK} {us ws : List Value} {vs zs : List V} (M : Mk X.K C f) (F : FnOk X.prog X.w X.K X.mg X.base CX k f fd ps sp) (hr : Room (k + 1) X.A) (hb : KBn X.K fd ps (n + 1) ks g gV) (hx : PassesAt CX X σ (E σ))
    (I : Inv X pins σ H s) (r : Vals vs us) (rz : Vals zs ws) (l1 : vs.length = n) (l2 : zs.length = ks.length)
    (h : ∀ x dx, H x = none → H dx = none → dx ≠ x → sp (gV (.ref x :: vs) zs) (upd (upd H dx (.own x)) x (.ins C dx [])) (fun v H2 => v = .non ∧ Q (.ref x) H2) (E σ)) :
    wpAny (model X.prog X.w) X.A (call (.ref C) us (ks.zip ws)) (EP X pins σ Q) X.xe s := by
  have hq := h (s.heap.objs.size + 1) s.heap.objs.size (I.hok.fresh (Nat.le_succ _)) (I.hok.fresh (Nat.le_refl _)) (Nat.ne_of_lt (Nat.lt_succ_self _))
  have I2 := Inv.made (C := C) I
  have r1 : Vals (V.ref (s.heap.objs.size + 1) :: vs) (Value.ref (s.heap.objs.size + 1) :: us) := .cons rfl r
  have r2 := hb.rel r1 rz
  have n1 : (Value.ref (s.heap.objs.size + 1) :: us).length = n + 1 := by
    rw [List.length_cons, ← r.length, l1]
  refine wpAny_call (make_map (f := f) I.kIn M.makes M.init (beq_iff_eq.mp M.fn) (codeAny_mono (F.run _ X.stack _ _ ⟨Value.ref (s.heap.objs.size + 1) :: us, ks.zip ws⟩ (g (Value.ref (s.heap.objs.size + 1) :: us) ws) _ _ (E σ) (hr.make C us (ks.zip ws))
    (I2.env0.make C us (ks.zip ws)) (hb.to _ (Value.ref (s.heap.objs.size + 1) :: us) ws I2.kIn n1 (rz.length.symm.trans l2)) r2 hq) fun r s' hq' => ?_))
  cases r with
  | error e => exact hx pins _ _ e s' I2 hq'
  | ok fl =>
    cases fl with
    | ret u =>
      obtain ⟨v, H', I3, rv, ev, q3⟩ := I2.after hq'
      subst ev
      exact ⟨rv, ⟨V.ref (s.heap.objs.size + 1), H', I3, rfl, q3⟩⟩
    | next => exact False.elim hq'
    | brk => exact False.elim hq'
    | cont => exact False.elim hq'
theorem pe_makeKS (M : Mk X.K C f) (F : FnOk X.prog X.w X.K X.mg X.base CX k f fd ps sp) (hr : Room (k + 1) X.A) (hg : Gl X x) (hm : X.mg x = some (.ref C)) (hb : KBn X.K fd ps (n + 1) ks g gV) (hx : ∀ σ, PassesAt CX X σ (E σ)) (ha : PA X (e :: es) t) (hkw : PK X kws tk)
    (hall : (backToKw pos (keywordEach kws X.env)).all (·.1.isSome) = true := by rfl) (hks : (backToKw pos (keywordEach kws X.env)).filterMap (·.1) = ks := by rfl) (hdb : (x == ("__debug__" : Str)) = false := by decide)
    (he : starEach (e :: es) X.env = (false, eval e X.env) :: starEach es X.env := by rfl) (hpl : ((backTo pos (starEach (e :: es) X.env)).any (·.1) || (backToKw pos (keywordEach kws X.env)).any (·.1.isNone)) = false := by rfl) :
    PE X (.Call (.Name x p) (e :: es) kws pos) (tMakeKS C n ks.length sp gV E t tk) := by
  refine ⟨fun pins s σ H Q I h => ?_⟩
  refine wpAny_Call_Name_kw (ld_glob I hg hm ?_ hdb)
  refine PySem.W.callWith_KW (h₀ := X.base) I.ok.mod.kin M.kp hall (thn (ha.run pos pins s σ H _ I h) fun us s1 ⟨vs, H1, I1, r, q⟩ => ?_) hpl he
  refine thn (hkw.run pos pins s1 σ H1 _ I1 q) fun ws s2 ⟨zs, H2, I2, rz, l1, l2, q2⟩ => ⟨I2.kIn, ?_⟩
  rw [hks]
  exact run_makeKS M F hr hb (hx σ) I2 r rz l1 l2 q2
end
section
variable {c : Ct} {A : AS} {Q : QE} {C : Addr} {Φ : Contract} {E : L2.St → XK} {t tk : TA} {ta : TE} {mm : Str} {n m : Nat} {gV : List V → List V → List V}
theorem we_methS (hE : ∀ σ, c.E σ = E σ) (h : WE c ta A fun A1 x => ∃ d fs, x = .val d ∧ insOf A1 (.val d) = some (C, fs) ∧ fs.lookup mm = none ∧ WA c t A1 fun A2 ds => Φ (d :: ds) A2.o (fun O' e => Q ⟨A2.s, O'⟩ (.val e)) (fun O' C fs => c.X ⟨A2.s, O'⟩ C fs)) :
    WE c (tMethS C mm (SpA c.K Φ) E ta t) A Q := fun F G m σ H S Eo Qc k => h F G m σ H S Eo _ fun F1 m1 A1 v H1 x e1 p1 S1 R1 ⟨d, fs, ex, hi, hl, q⟩ => by
  subst ex
  obtain ⟨a, dx, fv, rfl, hv, rf⟩ := rep_ins S1 R1 hi
  refine ⟨a, dx, fv, rfl, hv, rf.look0 hl, q F1 G m1 σ H1 S1 (Eo.mono e1 p1) _ fun F2 m2 A2 vs H2 ds e2 p2 S2 R2 q2 => ?_⟩
  refine ⟨F2, callG A2.s σ G H2, m2, A2.o, d :: ds, _, _, S2.call, .cons (Rep.mono e2 p2 R1) R2, q2, fun F' m' O' w e H' e3 p3 hs r rr => k F' m' ⟨A2.s, O'⟩ w H' (.val e) ((e1.trans e2).trans e3) ((p1.trans p2).trans p3) (S2.back e3 p3 hs) r rr, fun F' m' O' C dx fvs fs H' e p hs fx rf xx => ?_⟩
  have z := Eo.x F' m' ⟨A2.s, O'⟩ σ H' C dx fvs fs ((e1.trans e2).trans e) ((p1.trans p2).trans p) (S2.back e p hs) fx rf xx
  rw [hE] at z; exact z
theorem we_makeX {E0 : XK} (hE : ∀ σ, c.E σ = E0) (h : WA c t A fun A1 ds => Φ (.ptr A1.o.length :: ds) (A1.o ++ [.ins C []]) (fun O' d => d = .non ∧ Q ⟨A1.s, O'⟩ (.val (.ptr A1.o.length))) (fun O' C fs => c.X ⟨A1.s, O'⟩ C fs)) : WE c (tMake C (SpA c.K Φ) [] E0 t) A Q := fun F G m σ H S Eo Qc k =>
  h F G m σ H S Eo _ fun F1 m1 A1 vs H1 ds e1 p1 S1 R1 q => by
    intro p dx hp hd n
    have S2 := S1.insNew (C := C) hp hd n
    have ex : Ex F1 (upd F1 dx (.own p)) := ex_upd (S1.h.fresh hd).1
    have pr : Pre m1 (m1 ++ [p]) := Pre.app
    have gp : (m1 ++ [p])[A1.o.length]? = some p := by rw [← S1.h.len, List.getElem?_append_right (Nat.le_refl _), Nat.sub_self]; rfl
    refine ⟨upd F1 dx (.own p), _, m1 ++ [p], A1.o ++ [.ins C []], .ptr A1.o.length :: ds, _, _, S2.call, .cons (.ptr gp) (by simpa using R1.mono ex pr), q, fun F' m' O' w d H' e3 p3 hs r rr => ?_, fun F' m' O' C dx fvs fs H' e p hs fx rf xx => ?_⟩
    · obtain ⟨ed, rr⟩ := rr
      subst ed
      cases r
      exact ⟨rfl, k F' m' ⟨A1.s, O'⟩ _ H' (.val (.ptr A1.o.length)) ((e1.trans ex).trans e3) ((p1.trans pr).trans p3) (S2.back e3 p3 hs) (show Rep c.K F' m' _ _ from .ptr (p3 _ _ gp)) rr⟩
    · have z := Eo.x F' m' ⟨A1.s, O'⟩ σ H' C dx fvs fs ((e1.trans ex).trans e) ((p1.trans pr).trans p) (S2.back e p hs) fx rf xx
      rw [hE] at z; exact z
theorem we_makeS (hE : ∀ σ, c.E σ = E σ) (h : WA c t A fun A1 ds => Φ (.ptr A1.o.length :: ds) (A1.o ++ [.ins C []]) (fun O' d => d = .non ∧ Q ⟨A1.s, O'⟩ (.val (.ptr A1.o.length))) (fun O' C fs => c.X ⟨A1.s, O'⟩ C fs)) : WE c (tMakeS C (SpA c.K Φ) [] E t) A Q := fun F G m σ H S Eo Qc k =>
  h F G m σ H S Eo _ fun F1 m1 A1 vs H1 ds e1 p1 S1 R1 q => by
    intro p dx hp hd n
    have S2 := S1.insNew (C := C) hp hd n
    have ex : Ex F1 (upd F1 dx (.own p)) := ex_upd (S1.h.fresh hd).1
    have pr : Pre m1 (m1 ++ [p]) := Pre.app
    have gp : (m1 ++ [p])[A1.o.length]? = some p := by rw [← S1.h.len, List.getElem?_append_right (Nat.le_refl _), Nat.sub_self]; rfl
    refine ⟨upd F1 dx (.own p), _, m1 ++ [p], A1.o ++ [.ins C []], .ptr A1.o.length :: ds, _, _, S2.call, .cons (.ptr gp) (by simpa using R1.mono ex pr), q, fun F' m' O' w d H' e3 p3 hs r rr => ?_, fun F' m' O' C dx fvs fs H' e p hs fx rf xx => ?_⟩
    · obtain ⟨ed, rr⟩ := rr
      subst ed
      cases r
      exact ⟨rfl, k F' m' ⟨A1.s, O'⟩ _ H' (.val (.ptr A1.o.length)) ((e1.trans ex).trans e3) ((p1.trans pr).trans p3) (S2.back e3 p3 hs) (show Rep c.K F' m' _ _ from .ptr (p3 _ _ gp)) rr⟩
    · have z := Eo.x F' m' ⟨A1.s, O'⟩ σ H' C dx fvs fs ((e1.trans ex).trans e) ((p1.trans pr).trans p) (S2.back e p hs) fx rf xx
      rw [hE] at z; exact z
theorem we_makeKS (gD : List D → List D → List D) (hg : ∀ F mm vs zs ds es, Reps c.K F mm vs ds → Reps c.K F mm zs es → Reps c.K F mm (gV vs zs) (gD ds es)) (hE : ∀ σ, c.E σ = E σ)
    (h : WA c t A fun A1 ds => WA c tk A1 fun A2 es => ds.length = n ∧ es.length = m ∧ Φ (gD (.ptr A2.o.length :: ds) es) (A2.o ++ [.ins C []]) (fun O' d => d = .non ∧ Q ⟨A2.s, O'⟩ (.val (.ptr A2.o.length))) (fun O' C fs => c.X ⟨A2.s, O'⟩ C fs)) : WE c (tMakeKS C n m (SpA c.K Φ) gV E t tk) A Q := fun F G mm σ H S Eo Qc k =>
  h F G mm σ H S Eo _ fun F0 m0 A0 vs H0 ds e0 p0 S0 R0 q0 => q0 F0 G m0 σ H0 S0 (Eo.mono e0 p0) _ fun F1 m1 A1 zs H1 es e1 p1 S1 R1 ⟨l1, l2, q⟩ => by
    refine ⟨by rw [R0.len, l1], by rw [R1.len, l2], fun p dx hp hd n => ?_⟩
    have S2 := S1.insNew (C := C) hp hd n
    have ex : Ex F1 (upd F1 dx (.own p)) := ex_upd (S1.h.fresh hd).1
    have pr : Pre m1 (m1 ++ [p]) := Pre.app
    have gp : (m1 ++ [p])[A1.o.length]? = some p := by rw [← S1.h.len, List.getElem?_append_right (Nat.le_refl _), Nat.sub_self]; rfl
    refine ⟨upd F1 dx (.own p), _, m1 ++ [p], A1.o ++ [.ins C []], _, _, _, S2.call, hg _ _ _ _ _ _ (.cons (.ptr gp) (R0.mono (e1.trans ex) (p1.trans pr))) (R1.mono ex pr), q, fun F' m' O' w d H' e3 p3 hs r rr => ?_, fun F' m' O' C dx fvs fs H' e p hs fx rf xx => ?_⟩
    · obtain ⟨ed, rr⟩ := rr
      subst ed
      cases r
      exact ⟨rfl, k F' m' ⟨A1.s, O'⟩ _ H' (.val (.ptr A1.o.length)) (((e0.trans e1).trans ex).trans e3) (((p0.trans p1).trans pr).trans p3) (S2.back e3 p3 hs) (show Rep c.K F' m' _ _ from .ptr (p3 _ _ gp)) rr⟩
    · have z := Eo.x F' m' ⟨A1.s, O'⟩ σ H' C dx fvs fs (((e0.trans e1).trans ex).trans e) (((p0.trans p1).trans pr).trans p) (S2.back e p hs) fx rf xx
      rw [hE] at z; exact z
end
end AL

namespace AL
open PySem L2
theorem ka_nil {K : PySem.W.Frag} {t : Value} : PySem.W.kitAny K t [] = some false := rfl
theorem ka_no {K : PySem.W.Frag} {t c : Value} {r : List Value} {b : Bool} (h : PySem.W.kitOne K t c = some false) (q : PySem.W.kitAny K t r = some b) : PySem.W.kitAny K t (c :: r) = some b := by
  unfold PySem.W.kitAny; rw [h]; exact q
theorem ka_yes {K : PySem.W.Frag} {t c : Value} {r : List Value} (h : PySem.W.kitOne K t c = some true) : PySem.W.kitAny K t (c :: r) = some true := by
  unfold PySem.W.kitAny; rw [h]
def clsAll : List D → Option (List Addr)
  | [] => some []
  | .cls a :: r => (clsAll r).map (a :: ·)
  | _ => none
theorem clsAll_eq : ∀ {ds : List D} {Cs : List Addr}, clsAll ds = some Cs → ds = Cs.map .cls
  | [], Cs, h => by cases h; rfl
  | .cls a :: r, Cs, h => by
    unfold clsAll at h
    cases e : clsAll r with
    | none => rw [e] at h; cases h
    | some x => rw [e] at h; cases h; rw [clsAll_eq e]; rfl
  | .non :: _, _, h => by simp [clsAll] at h
  | .bl _ :: _, _, h => by simp [clsAll] at h
  | .int _ :: _, _, h => by simp [clsAll] at h
  | .str _ :: _, _, h => by simp [clsAll] at h
  | .lst _ :: _, _, h => by simp [clsAll] at h
  | .tup _ :: _, _, h => by simp [clsAll] at h
  | .scr _ :: _, _, h => by simp [clsAll] at h
  | .sct _ :: _, _, h => by simp [clsAll] at h
  | .ptr _ :: _, _, h => by simp [clsAll] at h
  | .obj _ _ :: _, _, h => by simp [clsAll] at h
  | .ty _ :: _, _, h => by simp [clsAll] at h
section
variable {c : Ct} {A : AS} {Q : QE} {a C dd : Addr} {fs : List (Str × D)} {b : Bool}
theorem cb_isS2 {ds : List D} {Cs : List Addr} (hv : c.hv = some (dd, fs)) (x : ExC c.K C) (hc : clsAll ds = some Cs) (h : PySem.W.kitAny c.K (.ref C) (Cs.map .ref) = some b) (q : Q A (.val (.bl b))) : CbD c (rIsX c.K a (.ref C) (some dd)) [.val (.cls a), .val (.tup ds)] A Q := by
  rw [clsAll_eq hc]; exact cb_isS Cs hv x h q
theorem strOk_of (x : String) : PyData.strOk (Str.ofString x) = true := by
  unfold PyData.strOk
  rw [PySem.Str.ofString_eq_toList]
  show (Array.all _ _) = true
  rw [List.all_toArray, List.all_map]
  refine List.all_eq_true.mpr fun ch _ => ?_
  show decide (ch.toNat < 0x110000) = true
  refine decide_eq_true ?_
  have v := ch.valid
  have : ch.toNat = ch.val.toNat := rfl
  rcases v with v | v
  · omega
  · omega
theorem can_str1 {s : Str} (hs : PyData.strOk s = true) : (PyData.list [.str s]).canLay0 = true := layAll (ps := [.str s]) fun p hp => by rw [List.mem_singleton.mp hp]; unfold PyData.canLay0; exact hs
theorem shaped_str1 {s : Str} (hs : PyData.strOk s = true) : SeqAt.shaped (.list [.str s]) = true := by
  unfold SeqAt.shaped
  rw [can_str1 hs, Bool.true_and]
  exact decide_eq_true (Nat.le_trans (Nat.succ_le_succ (depAll (ps := [.str s]) (n := 0) fun p hp => by rw [List.mem_singleton.mp hp]; exact Nat.le_refl _)) (by decide))
/-- an own list of one text is [text] -/
theorem od_eqStr1 {i : Nat} {s : Str} (hs : PyData.strOk s = true) (h : A.s[i]? = some (some (.own (.lst [.str s])))) (q : Q A (.val (.bl true))) : OpD c (rEqA c.K) (.slot i) (.val (.lst [.str s])) A Q :=
  od_eqD (p := .list [.str s]) (q := .list [.str s]) (b := true) ⟨_, _, h, .cons (.str s) .nil, rfl⟩ (.lst (.cons (.str s) .nil)) (shaped_str1 hs) (shaped_str1 hs) (SeqAt.eqv_refl _ (can_str1 hs)) q
theorem cb_isSF {ds : List D} {Cs : List Addr} (hv : c.hv = some (dd, fs)) (x : ExC c.K C) (hc : clsAll ds = some Cs) (h : PySem.W.kitAny c.K (.ref C) (Cs.map .ref) = some false) (q : Q A (.val (.bl false))) : CbD c (rIsX c.K a (.ref C) (some dd)) [.val (.cls a), .val (.tup ds)] A Q := cb_isS2 hv x hc h q
theorem cb_isST {ds : List D} {Cs : List Addr} (hv : c.hv = some (dd, fs)) (x : ExC c.K C) (hc : clsAll ds = some Cs) (h : PySem.W.kitAny c.K (.ref C) (Cs.map .ref) = some true) (q : Q A (.val (.bl true))) : CbD c (rIsX c.K a (.ref C) (some dd)) [.val (.cls a), .val (.tup ds)] A Q := cb_isS2 hv x hc h q
theorem we_cls {C : Addr} (q : Q A (.val (.cls C))) : WE c (tC (.ref C)) A Q := we_C (fun _ _ => .cls _) q
theorem app_go {i : Nat} {ds : List D} {P : List D → Prop} (h : A.s[i]? = some (some (.own (.lst ds)))) (hl : ds.length < 100000) (q : P ds) : ∃ ds, A.s[i]? = some (some (.own (.lst ds))) ∧ ds.length < 100000 ∧ P ds := ⟨ds, h, hl, q⟩
def inB (lo hi : Int) : List D → Prop
  | [] => True
  | .int v :: r => (lo ≤ v ∧ v ≤ hi) ∧ inB lo hi r
  | _ => False
theorem inB_at {lo hi : Int} : ∀ {ds : List D}, inB lo hi ds → ∀ d ∈ ds, ∃ v : Int, d = .int v ∧ lo ≤ v ∧ v ≤ hi
  | [], _, d, h => by cases h
  | .int v :: r, h, d, hd => by
    rcases List.mem_cons.mp hd with rfl | hd
    · exact ⟨v, rfl, h.1⟩
    · exact inB_at h.2 d hd
  | .non :: _, h, _, _ => h.elim
  | .bl _ :: _, h, _, _ => h.elim
  | .str _ :: _, h, _, _ => h.elim
  | .lst _ :: _, h, _, _ => h.elim
  | .tup _ :: _, h, _, _ => h.elim
  | .scr _ :: _, h, _, _ => h.elim
  | .sct _ :: _, h, _, _ => h.elim
  | .ptr _ :: _, h, _, _ => h.elim
  | .obj _ _ :: _, h, _, _ => h.elim
  | .ty _ :: _, h, _, _ => h.elim
  | .cls _ :: _, h, _, _ => h.elim
/-- one of several numbers, by their bounds -/
theorem od_pickN (lo hi : Nat) {x : RV} {ds : List D} {i : Int} (hx : lsOf A x = some ds) (h0 : 0 ≤ i) (h1 : i < (ds.length : Int)) (hb : inB lo hi ds) (q : ∀ v : Nat, lo ≤ v → v ≤ hi → Q A (.val (.int (v : Nat)))) : OpD c (L2.rIx c.K) x (.val (.int i)) A Q :=
  od_ixAll hx h0 h1 (inB_at hb) fun d ⟨v, ed, a, b⟩ => by
    have z := q v.toNat (by omega) (by omega)
    rw [show ((v.toNat : Nat) : Int) = v by omega] at z
    rw [ed]; exact z
theorem dL_tk {ls : List Nat} {k : Nat} : cutD (dL ls) none (some (k : Int)) = dL (ls.take k) := by unfold dL; rw [cutD_tn, ← List.map_take]
theorem natOf {x : Int} (lo hi : Nat) (h1 : (lo : Int) ≤ x) (h2 : x ≤ (hi : Int)) : ∃ w : Nat, x = (w : Int) ∧ lo ≤ w ∧ w ≤ hi := ⟨x.toNat, by omega, by omega, by omega⟩
end
end AL
local macro_rules | `(tactic| walk_at "pk") => `(tactic| (simp only [List.length_cons, List.length_nil, List.length_append]; omega))
local macro_rules | `(tactic| walk_at "inb") => `(tactic| ((try simp only [List.cons_append, List.nil_append]); repeat (first | exact trivial | refine ⟨⟨by omega, by omega⟩, ?_⟩)))
local macro_rules | `(tactic| walk_at "go1") => `(tactic| first
  | ((with_reducible refine' AL.app_go ?h ?hl ?_); (case h => rfl); (case hl => first | exact Nat.le_of_ble_eq_true rfl | omega | (simp only [List.length_map, List.length_append, List.length_cons, List.length_nil]; omega)))
  | ((with_reducible refine' AL.od_ixT ?h1 ?h2 ?_); (case h1 => rfl); (case h2 => exact AL.atI_of (by decide) rfl))
  | ((with_reducible refine' AL.od_ixL ?h1 ?h2 ?_); (case h1 => rfl); (case h2 => exact AL.atI_of (by decide) rfl)))
local macro_rules | `(tactic| walk_at "go") => `(tactic| ((repeat (first | walk_at "als1" | walk_at "am1" | walk_at "go1" | walk_at "am2" | walk_at "aln1" | walk_at "al2")); all_goals (try dsimp only [AL.as_eta])))
local macro_rules | `(tactic| walk_at "kany") => `(tactic| first | exact AL.ka_nil | (refine AL.ka_yes ?_; assumption) | (refine AL.ka_no ?_ ?_; assumption; walk_at "kany"))
local macro_rules | `(tactic| walk_at "alx1") => `(tactic| first
  | (with_reducible refine' AL.we_cls ?_)
  | ((with_reducible refine' AL.cb_isC ?hv ?x ?h ?_); (case hv => first | rfl | assumption); (case x => assumption); (case h => assumption))
  | ((with_reducible refine' AL.cb_isT ?hv ?x ?h ?_); (case hv => first | rfl | assumption); (case x => assumption); (case h => assumption))
  | ((with_reducible refine' AL.cb_isSF ?hv ?x ?hc ?h ?_); (case hv => first | rfl | assumption); (case x => assumption); (case hc => rfl); (case h => walk_at "kany"))
  | ((with_reducible refine' AL.cb_isST ?hv ?x ?hc ?h ?_); (case hv => first | rfl | assumption); (case x => assumption); (case hc => rfl); (case h => walk_at "kany"))
  | ((with_reducible refine' AL.we_xf ?hi ?hv ?hl ?_); (case hi => rfl); (case hv => first | rfl | assumption); (case hl => rfl))
  | ((with_reducible refine' AL.we_callE ?hi ?hv ?_); (case hi => rfl); (case hv => first | rfl | assumption))
  | ((with_reducible refine' AL.cb_repr ?hp ?hs ?_); (case hp => assumption); (case hs => assumption)))
local macro_rules | `(tactic| walk_at "alx") => `(tactic| ((repeat (first | walk_at "al1" | walk_at "alx1" | walk_at "go1" | walk_at "am1" | walk_at "am2" | walk_at "al2")); all_goals (try dsimp only [AL.as_eta])))

namespace AL
open PySem L2
/-! ### walks over a list that is a cell -/
def RealN (K : PySem.W.Frag) (F0 : Hp) (m0 : List Addr) (J : It) (n : Nat) : Prop := ∀ F G m A σ H ds, Ex F0 F → Pre m0 m → Sim K F G m A σ H → A.o[n]? = some (Cell.lst ds) → ∀ i,
  (∀ d, ds[i]? = some d → J.go i H ∧ ∀ x H', J.yld i H x H' → H' = H ∧ Rep K F m x d) ∧ (ds.length ≤ i → J.stop i H)
theorem real_n {K : PySem.W.Frag} {F : Hp} {m : List Addr} {a : Addr} {n : Nat} (em : m[n]? = some a) : RealN K F m (Itl K a) n := fun F2 G m2 A2 σ H ds e p S hc i => by
  obtain ⟨_, _, vs, ha, rv⟩ := S.h.cell n a _ (p n a em) hc trivial
  have hs : SqL K H a vs := .inl (.inl ha)
  refine ⟨fun d hd => ?_, fun hl => ⟨vs, hs, by rw [rv.len]; exact hl⟩⟩
  obtain ⟨v, hv, r⟩ := rv.get hd
  refine ⟨⟨vs, v, hs, hv⟩, fun x H' y => ?_⟩
  obtain ⟨rfl, y⟩ := y
  have e2 := y vs hs
  rw [hv] at e2; cases e2
  exact ⟨rfl, r⟩
section
variable {c : Ct} {A : AS} {te ta tb tl : TE} {t u tt : TT} {x y : RV} {Q : QE}
theorem wi_cell (Rc : AS → Nat → List D → Prop) (h : WE c tl A fun A1 r => ∃ n ds, r = .val (.ptr n) ∧ A1.o[n]? = some (.lst ds) ∧ Rc A1 n ds) : ∀ F G m σ H, Sim c.K F G m A σ H → EOk c F G m → ∀ R : It → Hp → Prop,
    (∀ F' m' A' J H' n ds, Ex F F' → Pre m m' → Sim c.K F' G m' A' σ H' → RealN c.K F' m' J n → A'.o[n]? = some (.lst ds) → Rc A' n ds → R J H') → iSeq c.K tl σ H R := fun F G m σ H S E R k =>
  h F G m σ H S E _ fun F1 m1 A1 v H1 r e1 p1 S1 R1 ⟨n, ds, er, hc, q⟩ => by
    subst er
    cases R1 with
    | ptr em =>
      obtain ⟨_, _, vs, ha, rv⟩ := S1.h.cell n _ _ em hc trivial
      exact ⟨_, _, rfl, .inl ⟨.inl (.inl ha), k F1 m1 A1 _ H1 n ds e1 p1 S1 (real_n em) hc q⟩⟩
end
section
variable {c : Ct} {A : AS} {t t1 t2 tb : TS} {nx bk ct : AS → Prop} {rt : List Cell → D → Prop} {tl : TE}
/-- a loop over a cell that stays as it is -/
theorem vs_forC {g : TG} {α : Type} (vs : List Nat) (st : α → List (Nat × Option SV)) (oc : α → List Cell) (P : List D → Nat → α → Prop)
    (h : WE c tl A fun A1 r => ∃ n ds, r = .val (.ptr n) ∧ A1.o[n]? = some (.lst ds) ∧ (∀ i a, P ds i a → (oc a)[n]? = some (.lst ds)) ∧ (∃ a, A1.wipe vs = ⟨updS (wipeA A1.s vs) (st a), oc a⟩ ∧ P ds 0 a) ∧
      (∀ i d a, ds[i]? = some d → P ds i a → WG c g d ⟨updS (wipeA A1.s vs) (st a), oc a⟩ fun A3 => WS c tb A3 ⟨fun (A4 : AS) => ∃ a', A4.wipe vs = ⟨updS (wipeA A1.s vs) (st a'), oc a'⟩ ∧ P ds (i + 1) a', rt, fun A4 => nx (A4.wipe vs), fun (A4 : AS) => ∃ a', A4.wipe vs = ⟨updS (wipeA A1.s vs) (st a'), oc a'⟩ ∧ P ds (i + 1) a'⟩) ∧
      ∀ a, P ds ds.length a → nx ⟨updS (wipeA A1.s vs) (st a), oc a⟩) :
    WS c (tFor (iSeq c.K tl) g tb) A ⟨nx, rt, bk, ct⟩ := vs_wipeE vs (fun F G m σ H S E Dc k => by
  refine wi_cell (fun A1 n ds => (∀ i a, P ds i a → (oc a)[n]? = some (.lst ds)) ∧ ∃ I : Nat → AS → Prop, (∀ i A2, I i A2 → ∃ a, A2.wipe vs = ⟨updS (wipeA A1.s vs) (st a), oc a⟩ ∧ P ds i a) ∧ I 0 A1 ∧ (∀ i d A2, ds[i]? = some d → I i A2 → WG c g d A2 fun A3 => WS c tb A3 ⟨I (i + 1), rt, fun A4 => nx (A4.wipe vs), I (i + 1)⟩) ∧ ∀ A2, I ds.length A2 → nx (A2.wipe vs))
    (h.imp fun A1 r ⟨n, ds, er, hc, hP, h0, hs, hd⟩ => ⟨n, ds, er, hc, hP, fun i A2 => ∃ a, A2.wipe vs = ⟨updS (wipeA A1.s vs) (st a), oc a⟩ ∧ P ds i a, fun _ _ z => z, h0, fun i d A2 hi ⟨a, ea, pa⟩ => WG.wipe vs (by rw [ea]; exact hs i d a hi pa), fun A2 ⟨a, ea, pa⟩ => by rw [ea]; exact hd a pa⟩)
    F G m σ H S E _ fun F1 m1 A1 J H1 n0 ds e1 p1 S1 RJ hc ⟨hP, I, hI, h0, hs, hd⟩ => ?_
  refine ⟨fun i n σ2 H2 => n = ds.length - i ∧ i ≤ ds.length ∧ ∃ F2 m2 A2, Ex F1 F2 ∧ Pre m1 m2 ∧ Sim c.K F2 G m2 A2 σ2 H2 ∧ I i A2, ⟨_, rfl, Nat.zero_le _, F1, m1, A1, Evl.Ex.refl _, Pre.refl _, S1, h0⟩, fun i n σ2 H2 hw => ?_⟩
  obtain ⟨rfl, hi, F2, m2, A2, e2, p2, S2, q2⟩ := hw
  have hc2 : A2.o[n0]? = some (.lst ds) := by
    obtain ⟨a, ea, pa⟩ := hI i A2 q2
    have := hP i a pa
    rwa [← show A2.o = oc a from congrArg AS.o ea] at this
  obtain ⟨r1, r2⟩ := RJ F2 G m2 A2 σ2 H2 ds e2 p2 S2 hc2 i
  by_cases hl : i < ds.length
  · obtain ⟨g1, g2⟩ := r1 _ (List.getElem?_eq_getElem hl)
    refine .inr ⟨g1, fun σ3 H3 => ∃ F3 m3 A3, Ex F1 F3 ∧ Pre m1 m3 ∧ Sim c.K F3 G m3 A3 σ3 H3 ∧ I (i + 1) A3, fun σ3 H3 hN => ?_, fun x H3 hy => ?_⟩
    · exact ⟨ds.length - (i + 1), by omega, rfl, hl, hN⟩
    · obtain ⟨rfl, R3⟩ := g2 x H3 hy
      refine hs i _ A2 (List.getElem?_eq_getElem hl) q2 F2 G m2 σ2 _ x S2 R3 (E.mono (e1.trans e2) (p1.trans p2)) _ fun F4 m4 A4 σ4 H4 e4 p4 S4 q4 => ?_
      have f1 := e2.trans e4
      have f2 := p2.trans p4
      refine q4 F4 G m4 σ4 H4 S4 (E.mono (e1.trans f1) (p1.trans f2)) _ ⟨fun F5 m5 A5 σ5 H5 e5 p5 S5 q5 => ⟨F5, m5, A5, f1.trans e5, f2.trans p5, S5, q5⟩, (k.mono (e1.trans f1) (p1.trans f2)).rt, fun F5 m5 A5 σ5 H5 e5 p5 S5 q5 => k.nx F5 m5 A5 σ5 H5 ((e1.trans f1).trans e5) ((p1.trans f2).trans p5) S5 q5, fun F5 m5 A5 σ5 H5 e5 p5 S5 q5 => ⟨F5, m5, A5, f1.trans e5, f2.trans p5, S5, q5⟩⟩
  · have : i = ds.length := by omega
    subst this
    exact .inl ⟨r2 (Nat.le_refl _), k.nx F2 m2 A2 σ2 H2 (e1.trans e2) (p1.trans p2) S2 (hd A2 q2)⟩)
end
end AL
namespace AL
open PySem L2
section
variable {c : Ct} {A : AS} {te : TE} {tt : TT}
/-- a comprehension by an invariant of the cells and of what is made so far -/
theorem wn_lcC {tl : TE} {g : TG} {vs : List Nat} {Q : AS → List D → Prop} (hg : GOk g vs)
    (h : WE c tl A fun A1 r => ∃ n ds, r = .val (.ptr n) ∧ A1.o[n]? = some (.lst ds) ∧ noOwnB A1.s vs = true ∧ ds.length < 100000 ∧ ∃ I : Nat → List Cell → List D → Prop, I 0 A1.o [] ∧ (∀ i O acc, I i O acc → O[n]? = some (.lst ds)) ∧
      (∀ i d O acc, ds[i]? = some d → I i O acc → WG c g d ⟨wipeA A1.s vs, O⟩ fun A2 => WT c tt A2 fun A3 b => (b = true → WE c te A3 fun A4 r => Frz A4 r fun A5 e => I (i + 1) A5.o (acc ++ [e]) ∧ ∀ j, j ∉ vs → A5.s[j]? = A1.s[j]?) ∧
        (b = false → I (i + 1) A3.o acc ∧ ∀ j, j ∉ vs → A3.s[j]? = A1.s[j]?)) ∧ ∀ O acc, I ds.length O acc → Q ⟨A1.s, O⟩ acc) :
    WN c (tLc (iSeq c.K tl) g tt te vs) A Q := fun F G m σ H S E Qc k => wi_cell _ h F G m σ H S E _ fun F1 m1 A1 J H1 n0 ds e1 p1 S1 RJ hc0 ⟨no', hlen, I, hI0, hP, hs, hd⟩ => by
  have no := noOwn_of no'
  intro Dl hD
  have gD : G Dl = none := (S1.h.fresh hD).2.1
  have sub : ∀ (o : HO) a u, G a = some u → upd G Dl o a = some u := fun o a u e => by rw [upd_ne (ne_of_none e gD)]; exact e
  have nD := S1.notOwn hD
  refine ⟨fun i n H2 => n = ds.length - i ∧ i ≤ ds.length ∧ ∃ F2 m2 acc accD O, Ex F1 F2 ∧ Pre m1 m2 ∧ Sim c.K F2 (upd G Dl (.lst acc)) m2 ⟨A1.s, O⟩ σ H2 ∧ Reps c.K F2 m2 acc accD ∧ I i O accD ∧ accD.length ≤ i,
    ⟨_, rfl, Nat.zero_le _, F1, m1, [], [], A1.o, Evl.Ex.refl _, Pre.refl _, S1.addG hD, .nil, hI0, Nat.le_refl _⟩, fun i n H2 hw => ?_⟩
  obtain ⟨rfl, hi, F2, m2, acc, accD, O, e2, p2, S2, R2, q2, la⟩ := hw
  obtain ⟨r1, r2⟩ := RJ F2 _ m2 ⟨A1.s, O⟩ σ H2 ds e2 p2 S2 (hP i O accD q2) i
  have hacc : acc.length ≤ i := by rw [R2.len]; exact la
  by_cases hl : i < ds.length
  · obtain ⟨g1, g2⟩ := r1 _ (List.getElem?_eq_getElem hl)
    refine .inr ⟨g1, fun H3 => i + 1 ≤ ds.length ∧ ∃ F2 m2 acc accD O, Ex F1 F2 ∧ Pre m1 m2 ∧ Sim c.K F2 (upd G Dl (.lst acc)) m2 ⟨A1.s, O⟩ σ H3 ∧ Reps c.K F2 m2 acc accD ∧ I (i + 1) O accD ∧ accD.length ≤ i + 1, fun H3 hN => ⟨_, by omega, rfl, hN⟩, fun x H3 hy => ?_⟩
    obtain ⟨eH, R3⟩ := g2 x H3 hy
    subst eH
    have S3 := S2
    have e3 : Ex F2 F2 := Evl.Ex.refl F2
    let F3 := F2
    have E3 : EOk c F3 (upd G Dl (.lst acc)) m2 := (E.weakG (sub _)).mono ((e1.trans e2).trans e3) (p1.trans p2)
    have S3w : Sim c.K F3 (upd G Dl (.lst acc)) m2 ⟨wipeA A1.s vs, O⟩ (wipe σ vs) H3 := ⟨S3.h, S3.s.wipe vs⟩
    have ww : wipe (wipe σ vs) vs = wipe σ vs := by
      apply List.ext_getElem?
      intro j
      by_cases hj : j ∈ vs
      · have z : ∀ (us : List Nat) (τ : St), j ∈ us → (wipe τ us)[j]? = if j < τ.length then some none else none := fun us => by
          induction us with
          | nil => intro τ h; cases h
          | cons u us ih =>
            intro τ h
            unfold wipe
            by_cases y : u = j
            · subst y
              by_cases hl : u < τ.length
              · rw [List.getElem?_set_self (by rw [wipe_length]; exact hl), if_pos hl]
              · rw [if_neg hl, List.getElem?_eq_none (by rw [List.length_set, wipe_length]; omega)]
            · rw [List.getElem?_set_ne y]
              exact ih τ (by simpa [show ¬ j = u from fun z => y z.symm] using h)
        rw [z vs _ hj, z vs _ hj, wipe_length]
      · rw [wipe_not hj]
    have hgx := hg x (wipe σ vs) H3 (fun σ2 H4 => tt σ2 H4 fun b H5 => if b = true then te σ2 H5 fun y H6 => ∃ acc', H6 Dl = some (.lst acc') ∧ acc'.length < sizeLine ∧ (i + 1 ≤ ds.length ∧ ∃ F2 m2 acc accD O, Ex F1 F2 ∧ Pre m1 m2 ∧ Sim c.K F2 (upd G Dl (.lst acc)) m2 ⟨A1.s, O⟩ σ (upd H6 Dl (.lst (acc' ++ [y]))) ∧ Reps c.K F2 m2 acc accD ∧ I (i + 1) O accD ∧ accD.length ≤ i + 1) else
      (i + 1 ≤ ds.length ∧ ∃ F2 m2 acc accD O, Ex F1 F2 ∧ Pre m1 m2 ∧ Sim c.K F2 (upd G Dl (.lst acc)) m2 ⟨A1.s, O⟩ σ H5 ∧ Reps c.K F2 m2 acc accD ∧ I (i + 1) O accD ∧ accD.length ≤ i + 1))
    rw [ww] at hgx
    refine hgx (hs i _ O accD (List.getElem?_eq_getElem hl) q2 F3 _ m2 (wipe σ vs) H3 x S3w R3 E3 _ fun F4 m4 A4 σ4 H4 e4 p4 S4 q4 ew => ?_)
    have x4 := e2.trans (e3.trans e4)
    have y4 := p2.trans p4
    refine q4 F4 _ m4 σ4 H4 S4 (E3.mono e4 p4) _ fun F5 m5 A5 b H5 e5 p5 S5 q5 => ?_
    cases b with
    | false =>
      obtain ⟨h1, h3⟩ := q5.2 rfl
      show i + 1 ≤ ds.length ∧ _
      exact ⟨hl, F5, m5, acc, accD, A5.o, x4.trans e5, y4.trans p5, S2.unwipeO S5 (e3.trans (e4.trans e5)) (p4.trans p5) h3 ew no, R2.mono (e3.trans (e4.trans e5)) (p4.trans p5), h1, by omega⟩
    | true =>
      show te σ4 H5 _
      refine (WE.frz (q5.1 rfl)) F5 _ m5 σ4 H5 S5 (E3.mono (e4.trans e5) (p4.trans p5)) _ fun F6 m6 A6 y H6 r e6 p6 S6 R6 q6 => ?_
      obtain ⟨d, er, h1, h3⟩ := q6
      subst er
      have z6 := e3.trans (e4.trans (e5.trans e6))
      have w6 := p4.trans (p5.trans p6)
      refine ⟨acc, S6.h.exG Dl _ upd_same, Nat.lt_of_le_of_lt hacc (Nat.lt_of_lt_of_le (Nat.lt_trans hl hlen) (by decide)), hl, F6, m6, acc ++ [y], accD ++ [d], A6.o, e2.trans z6, p2.trans w6, (S2.unwipeO S6 z6 w6 h3 ew no : Sim c.K F6 _ m6 ⟨A1.s, A6.o⟩ σ _).setG, (R2.mono z6 w6).app (.cons R6 .nil), h1, by rw [List.length_append, List.length_singleton]; omega⟩
  · have ei : i = ds.length := by omega
    subst ei
    have gs := S2.h.exG Dl _ upd_same
    have fD : F2 Dl = none := by
      cases y : F2 Dl with
      | none => rfl
      | some u => have z := S2.h.dj Dl u y; rw [upd_same] at z; cases z
    exact .inl ⟨r2 (Nat.le_refl _), k F2 m2 ⟨A1.s, O⟩ Dl acc H2 _ (e1.trans e2) (p1.trans p2) (S2.weakG (sub _)) fD gD (fun n e => by have z := S2.h.mG n Dl e; rw [upd_same] at z; cases z) nD gs R2 (hd O accD q2)⟩
end
end AL

namespace AU
open PySem L2 AL
/-! ### values of any kind, numbers among them -/
inductive Odd : D → Prop where
  | int (i : Int) : Odd (.int i)
  | bl (b : Bool) : Odd (.bl b)
  | non : Odd .non
  | str (x : Str) : Odd (.str x)
  | tup (ds : List D) : Odd (.tup ds)
  | lst (ds : List D) : Odd (.lst ds)
def isIntD : D → Bool
  | .int _ => true
  | _ => false
def isFromD (d : D) (a b : Int) : Bool := match d with
  | .int n => decide (a ≤ n) && decide (n ≤ b)
  | _ => false
theorem isFromD_int {n a b : Int} : isFromD (.int n) a b = (decide (a ≤ n) && decide (n ≤ b)) := rfl
theorem isFromD_yes {d : D} {a b : Int} (h : isFromD d a b = true) : ∃ n : Int, d = .int n ∧ a ≤ n ∧ n ≤ b := by
  cases d <;> simp [isFromD] at h
  exact ⟨_, rfl, h⟩
theorem isFromD_of {n a b : Int} (h1 : a ≤ n) (h2 : n ≤ b) : isFromD (.int n) a b = true := by rw [isFromD_int, decide_eq_true h1, decide_eq_true h2]; rfl
def C_is_integer : Contract := fun ds O R _ => ∃ d, ds = [d] ∧ Odd d ∧ R O (.bl (isIntD d))
def C_is_from : Contract := fun ds O R _ => ∃ d, ∃ a b : Int, ds = [d, .int a, .int b] ∧ Odd d ∧ R O (.bl (isFromD d a b))
theorem len_is_integer : ∀ ds O R X, C_is_integer ds O R X → ds.length = 1 := fun _ _ _ _ h => by obtain ⟨_, rfl, _⟩ := h; rfl
theorem len_is_from : ∀ ds O R X, C_is_from ds O R X → ds.length = 3 := fun _ _ _ _ h => by obtain ⟨_, _, _, rfl, _⟩ := h; rfl
/-! ### what can be shown -/
theorem shows_int {i : Int} (h : i.natAbs < 2 ^ 100) : Shows (.int i) := by
  have hl : i.natAbs.log2 < 1920 := by
    by_cases h0 : i.natAbs = 0
    · rw [h0]; decide
    · have := (Nat.log2_lt h0).mpr (show i.natAbs < 2 ^ 100 from h)
      omega
  refine ⟨by show PyData.showable _ = true; unfold PyData.showable; exact decide_eq_true hl, rfl, by show PyData.depth _ ≤ 50; unfold PyData.depth; decide, ?_, hl⟩
  show (PyData.shown (.int i)).length ≤ sizeLine
  unfold PyData.shown
  exact int_text_fits hl
theorem shows_bool (b : Bool) : Shows (.bool b) := ⟨by unfold PyData.showable; rfl, by unfold PyData.hasDict; rfl, by unfold PyData.depth; decide, by unfold PyData.shown; cases b <;> decide, trivial⟩
theorem shows_none : Shows .none := ⟨by unfold PyData.showable; rfl, by unfold PyData.hasDict; rfl, by unfold PyData.depth; decide, by unfold PyData.shown; decide, trivial⟩
/-- odd values that can be shown -/
def OddS (d : D) : Prop := Odd d ∧ ∃ p, Py d p ∧ Shows p ∧ PyData.strOk p.shown = true
theorem oddS_int {i : Int} (h : i.natAbs < 2 ^ 100) : OddS (.int i) := ⟨.int i, .int i, .int i, shows_int h, by unfold PyData.shown; exact strOk_of _⟩
theorem oddS_lt {i : Int} (h1 : -5000 ≤ i) (h2 : i ≤ 5000) : OddS (.int i) := oddS_int (Nat.lt_of_le_of_lt (show i.natAbs ≤ 5000 by omega) (by decide))
theorem oddS_bl (b : Bool) : OddS (.bl b) := ⟨.bl b, _, .bl b, shows_bool b, by cases b <;> decide +kernel⟩
theorem oddS_str (x : Str) (h : Shows (.str x)) (h2 : PyData.strOk (PyData.shown (.str x)) = true) : OddS (.str x) := ⟨.str x, _, .str x, h, h2⟩
theorem oddS_s0 : OddS (.str "0") := oddS_str _ ⟨by unfold PyData.showable; rfl, by unfold PyData.hasDict; rfl, by unfold PyData.depth; decide, by unfold PyData.shown; decide +kernel, trivial⟩ (by decide +kernel)
theorem oddS_s : OddS (.str "") := oddS_str _ ⟨by unfold PyData.showable; rfl, by unfold PyData.hasDict; rfl, by unfold PyData.depth; decide, by unfold PyData.shown; decide +kernel, trivial⟩ (by decide +kernel)
theorem oddS_t0 : OddS (.tup [.int 0]) := ⟨.tup _, .tuple [.int 0], .tup (.cons (.int 0) .nil), ⟨by decide +kernel, by decide +kernel, by decide +kernel, by decide +kernel, trivial⟩, by decide +kernel⟩
theorem oddS_l0 : OddS (.lst [.int 0]) := ⟨.lst _, .list [.int 0], .lst (.cons (.int 0) .nil), ⟨by decide +kernel, by decide +kernel, by decide +kernel, by decide +kernel, trivial⟩, by decide +kernel⟩
theorem oddS_t1 : OddS (.tup [.int 1]) := ⟨.tup _, .tuple [.int 1], .tup (.cons (.int 1) .nil), ⟨by decide +kernel, by decide +kernel, by decide +kernel, by decide +kernel, trivial⟩, by decide +kernel⟩
theorem oddS_l1 : OddS (.lst [.int 1]) := ⟨.lst _, .list [.int 1], .lst (.cons (.int 1) .nil), ⟨by decide +kernel, by decide +kernel, by decide +kernel, by decide +kernel, trivial⟩, by decide +kernel⟩
theorem oddS_t : OddS (.tup []) := ⟨.tup _, .tuple [], .tup .nil, ⟨by decide +kernel, by decide +kernel, by decide +kernel, by decide +kernel, trivial⟩, by decide +kernel⟩
theorem isFromD_hi {n a b : Int} (h : b < n) : isFromD (.int n) a b = false := by rw [isFromD_int, decide_eq_false (show ¬ n ≤ b by omega), Bool.and_false]
theorem isFromD_lo {n a b : Int} (h : n < a) : isFromD (.int n) a b = false := by rw [isFromD_int, decide_eq_false (show ¬ a ≤ n by omega), Bool.false_and]
theorem oddS_non : OddS .non := ⟨.non, _, .non, shows_none, by decide +kernel⟩
/-! ### errors, told -/
def C__law_kinds (CN CR CA CH : Addr) : Addr → List (Str × D) → List Cell → (List Cell → D → Prop) → Prop := fun C fs O R => ∃ d p, Py d p ∧ Shows p ∧
  ((C = CN ∧ fs = [(("number" : Str), d)] ∧ R O (.tup [.str "InvalidNumber", .str p.shown])) ∨ (C = CR ∧ fs = [(("many" : Str), d)] ∧ R O (.tup [.str "NoRoom", .str p.shown])) ∨
   (C = CA ∧ fs = [(("block" : Str), d)] ∧ R O (.tup [.str "NotAlone", .str p.shown])) ∨ (C = CH ∧ fs = [(("block" : Str), d)] ∧ R O (.tup [.str "NotHeld", .str p.shown])))
/-! ### a store -/
structure StoreM where
  many : Nat
  size : Nat
  held : List Nat
  kept : List (List D)
def dN (xs : List Nat) : List D := xs.map fun x => D.int (x : Nat)
theorem dN_len {xs : List Nat} : (dN xs).length = xs.length := List.length_map ..
theorem dN_set {xs : List Nat} {i x : Nat} : (dN xs).set i (.int (x : Nat)) = dN (xs.set i x) := by unfold dN; rw [List.map_set]
theorem dN_get {xs : List Nat} {i : Nat} (h : i < xs.length) : atI (dN xs) (i : Int) = some (.int (xs.getD i 0 : Nat)) := atI_map (by omega) (by rw [Int.toNat_natCast, List.getElem?_eq_getElem h, getD_lt h])
def storeF (s : StoreM) (h k : Nat) : List (Str × D) := [("many", .int (s.many : Nat)), ("size", .int (s.size : Nat)), ("_held", .ptr h), ("_kept", .ptr k)]
structure WfS (s : StoreM) : Prop where
  m1 : 1 ≤ s.many
  m60 : s.many ≤ 60
  s1 : 1 ≤ s.size
  s8 : s.size ≤ 8
  hl : s.held.length = s.many
  kl : s.kept.length = s.many
  rw : ∀ r ∈ s.kept, r.length ≤ s.size
  fr : ∀ b : Nat, s.held.getD b 0 = 0 → s.kept.getD b [] = []
structure StoreAt (C : Addr) (O : List Cell) (n h k : Nat) (s : StoreM) : Prop where
  ins : O[n]? = some (.ins C (storeF s h k))
  held : O[h]? = some (.lst (dN s.held))
  kept : O[k]? = some (.lst (s.kept.map .tup))
  ne : h ≠ k
  wf : WfS s
theorem StoreAt.nh {C : Addr} {O : List Cell} {n h k : Nat} {s : StoreM} (a : StoreAt C O n h k s) : n ≠ h := fun e => by have x := a.ins; rw [e, a.held] at x; cases x
theorem StoreAt.nk {C : Addr} {O : List Cell} {n h k : Nat} {s : StoreM} (a : StoreAt C O n h k s) : n ≠ k := fun e => by have x := a.ins; rw [e, a.kept] at x; cases x
theorem getD_set {α : Type} {xs : List α} {i j : Nat} {x d : α} (h : i < xs.length) : (xs.set i x).getD j d = if i = j then x else xs.getD j d := by
  by_cases e : i = j
  · subst e; rw [if_pos rfl]; simp [List.getD, List.getElem?_set_self h]
  · rw [if_neg e]; simp [List.getD, List.getElem?_set_ne e]
/-- a store with other counts -/
theorem StoreAt.setH {C : Addr} {O : List Cell} {n h k : Nat} {s : StoreM} (a : StoreAt C O n h k s) {b x : Nat} (hb : b < s.many) (hx : x = 0 → s.kept.getD b [] = []) : StoreAt C (O.set h (.lst (dN (s.held.set b x)))) n h k { s with held := s.held.set b x } where
  ins := by rw [List.getElem?_set_ne (Ne.symm a.nh)]; exact a.ins
  held := by rw [List.getElem?_set_self (List.getElem?_eq_some_iff.mp a.held).1]
  kept := by rw [List.getElem?_set_ne a.ne]; exact a.kept
  ne := a.ne
  wf := ⟨a.wf.m1, a.wf.m60, a.wf.s1, a.wf.s8, by show (s.held.set b x).length = _; rw [List.length_set]; exact a.wf.hl, a.wf.kl, a.wf.rw, fun j hj => by
    have hj2 : (s.held.set b x).getD j 0 = 0 := hj
    clear hj
    rw [getD_set (by rw [a.wf.hl]; exact hb)] at hj2
    show s.kept.getD j [] = []
    split at hj2
    · rename_i e; subst e; exact hx hj2
    · exact a.wf.fr j hj2⟩
theorem StoreAt.setK {C : Addr} {O : List Cell} {n h k : Nat} {s : StoreM} (a : StoreAt C O n h k s) {b : Nat} {x : List D} (hb : b < s.many) (hx : x.length ≤ s.size) (h0 : s.held.getD b 0 = 0 → x = []) : StoreAt C (O.set k (.lst ((s.kept.set b x).map .tup))) n h k { s with kept := s.kept.set b x } where
  ins := by rw [List.getElem?_set_ne (Ne.symm a.nk)]; exact a.ins
  held := by rw [List.getElem?_set_ne (Ne.symm a.ne)]; exact a.held
  kept := by rw [List.getElem?_set_self (List.getElem?_eq_some_iff.mp a.kept).1]
  ne := a.ne
  wf := ⟨a.wf.m1, a.wf.m60, a.wf.s1, a.wf.s8, a.wf.hl, by show (s.kept.set b x).length = _; rw [List.length_set]; exact a.wf.kl, fun r hr => by
    rcases List.mem_or_eq_of_mem_set hr with h | h
    · exact a.wf.rw r h
    · exact h ▸ hx, fun j hj => by
    show (s.kept.set b x).getD j [] = []
    rw [getD_set (by rw [a.wf.kl]; exact hb)]
    split
    · rename_i e; subst e; exact h0 hj
    · exact a.wf.fr j hj⟩
/-- the block that a value names -/
def blockOf (s : StoreM) (d : D) : Option Nat := if isFromD d 0 ((s.many : Nat) - 1 : Int) then (match d with | .int i => some i.toNat | _ => none) else none
def heldOf (s : StoreM) (d : D) : Option Nat := (blockOf s d).filter fun b => decide (0 < s.held.getD b 0)
def aloneOf (s : StoreM) (d : D) : Option Nat := (heldOf s d).filter fun b => decide (s.held.getD b 0 ≤ 1)
theorem blockOf_some {s : StoreM} {d : D} {b : Nat} (h : blockOf s d = some b) : d = .int (b : Nat) ∧ b < s.many := by
  unfold blockOf at h
  split at h
  · rename_i z
    obtain ⟨n, rfl, h1, h2⟩ := isFromD_yes z
    simp only [Option.some.injEq] at h
    exact ⟨by rw [← h, Int.toNat_of_nonneg h1], by omega⟩
  · cases h
theorem blockOf_int {s : StoreM} {b : Nat} (h : b < s.many) : blockOf s (.int (b : Nat)) = some b := by
  unfold blockOf
  rw [if_pos (isFromD_of (by omega) (by omega))]; simp
theorem heldOf_some {s : StoreM} {d : D} {b : Nat} (h : heldOf s d = some b) : d = .int (b : Nat) ∧ b < s.many ∧ 0 < s.held.getD b 0 := by
  unfold heldOf at h
  obtain ⟨h1, h2⟩ := Option.filter_eq_some_iff.mp h
  exact ⟨(blockOf_some h1).1, (blockOf_some h1).2, of_decide_eq_true h2⟩
theorem heldOf_int {s : StoreM} {b : Nat} (h : b < s.many) (h0 : 0 < s.held.getD b 0) : heldOf s (.int (b : Nat)) = some b := by
  unfold heldOf; rw [blockOf_int h]; exact if_pos (decide_eq_true h0)
theorem heldOf_none {s : StoreM} {d : D} {b : Nat} (h : blockOf s d = some b) (h0 : s.held.getD b 0 = 0) : heldOf s d = none := by
  unfold heldOf; rw [h]; exact if_neg (by show ¬ decide (0 < s.held.getD b 0) = true; rw [h0]; decide)
theorem heldOf_some' {s : StoreM} {d : D} {b : Nat} (h : blockOf s d = some b) (h0 : s.held.getD b 0 ≠ 0) : heldOf s d = some b := by
  unfold heldOf; rw [h]; exact if_pos (decide_eq_true (by omega))
theorem heldOf_none' {s : StoreM} {d : D} (h : blockOf s d = none) : heldOf s d = none := by unfold heldOf; rw [h]; rfl
/-- the lowest free block -/
def lowest (s : StoreM) : Option Nat := if 0 ∈ s.held then some (s.held.idxOf 0) else none
def freeOf (s : StoreM) : Nat := s.held.count 0
section
variable (CS CN CR CA CH : Addr)
def C_Store___init__ : Contract := fun ds O R X => ∃ (i : Nat) (d e : D), ds = [.ptr i, d, e] ∧ O[i]? = some (.ins CS []) ∧ Odd d ∧ Odd e ∧
  (isFromD d 1 60 = false → X O CN [("number", d)]) ∧ (isFromD d 1 60 = true → isFromD e 1 8 = false → X O CN [("number", e)]) ∧
  ∀ m z : Nat, d = .int (m : Nat) → e = .int (z : Nat) → 1 ≤ m → m ≤ 60 → 1 ≤ z → z ≤ 8 →
    R ((O ++ [Cell.lst (dN (List.replicate m 0)), Cell.lst ((List.replicate m []).map D.tup)]).set i (.ins CS (storeF ⟨m, z, List.replicate m 0, List.replicate m []⟩ O.length (O.length + 1)))) .non
def C_Store_free : Contract := fun ds O R _ => ∃ n h k s, ds = [.ptr n] ∧ StoreAt CS O n h k s ∧ R O (.int (freeOf s : Nat))
def C_Store_take : Contract := fun ds O R X => ∃ n h k s, ds = [.ptr n] ∧ StoreAt CS O n h k s ∧ (∀ b, lowest s = some b → R (O.set h (.lst (dN (s.held.set b 1)))) (.int (b : Nat))) ∧ (lowest s = none → X O CR [("many", .int 1)])
def C_Store__check_block : Contract := fun ds O R X => ∃ n h k s d, ds = [.ptr n, d] ∧ StoreAt CS O n h k s ∧ Odd d ∧ (∀ b, blockOf s d = some b → R O .non) ∧ (blockOf s d = none → X O CH [("block", d)])
def C_Store__check_held : Contract := fun ds O R X => ∃ n h k s d, ds = [.ptr n, d] ∧ StoreAt CS O n h k s ∧ Odd d ∧ (∀ b, heldOf s d = some b → R O .non) ∧ (heldOf s d = none → X O CH [("block", d)])
def C_Store__check_alone : Contract := fun ds O R X => ∃ n h k s d, ds = [.ptr n, d] ∧ StoreAt CS O n h k s ∧ Odd d ∧ (∀ b, heldOf s d = some b → s.held.getD b 0 ≤ 1 → R O .non) ∧ (heldOf s d = none → X O CH [("block", d)]) ∧ (∀ b, heldOf s d = some b → 1 < s.held.getD b 0 → X O CA [("block", d)])
def C_Store_hold : Contract := fun ds O R X => ∃ n h k s d, ds = [.ptr n, d] ∧ StoreAt CS O n h k s ∧ Odd d ∧ (∀ b, heldOf s d = some b → R (O.set h (.lst (dN (s.held.set b (s.held.getD b 0 + 1))))) .non) ∧ (heldOf s d = none → X O CH [("block", d)])
def releaseO (O : List Cell) (h k : Nat) (s : StoreM) (b : Nat) : List Cell := if s.held.getD b 0 = 1 then (O.set h (.lst (dN (s.held.set b 0)))).set k (.lst ((s.kept.set b []).map .tup)) else O.set h (.lst (dN (s.held.set b (s.held.getD b 0 - 1))))
def releaseM (s : StoreM) (b : Nat) : StoreM := if s.held.getD b 0 = 1 then { s with held := s.held.set b 0, kept := s.kept.set b [] } else { s with held := s.held.set b (s.held.getD b 0 - 1) }
theorem StoreAt.release {C : Addr} {O : List Cell} {n h k : Nat} {s : StoreM} (a : StoreAt C O n h k s) {b : Nat} (hb : b < s.many) (hh : 0 < s.held.getD b 0) : StoreAt C (releaseO O h k s b) n h k (releaseM s b) := by
  unfold releaseO releaseM
  split
  · refine ⟨?_, ?_, ?_, a.ne, ⟨a.wf.m1, a.wf.m60, a.wf.s1, a.wf.s8, by show (s.held.set b 0).length = _; rw [List.length_set]; exact a.wf.hl, by show (s.kept.set b []).length = _; rw [List.length_set]; exact a.wf.kl, fun r hr => ?_, fun j hj => ?_⟩⟩
    · rw [List.getElem?_set_ne (Ne.symm a.nk), List.getElem?_set_ne (Ne.symm a.nh)]; exact a.ins
    · rw [List.getElem?_set_ne (Ne.symm a.ne), List.getElem?_set_self (List.getElem?_eq_some_iff.mp a.held).1]
    · rw [List.getElem?_set_self (by rw [List.length_set]; exact (List.getElem?_eq_some_iff.mp a.kept).1)]
    · rcases List.mem_or_eq_of_mem_set hr with h | h
      · exact a.wf.rw r h
      · rw [h]; exact Nat.zero_le _
    · have hj : (s.held.set b 0).getD j 0 = 0 := hj
      show (s.kept.set b []).getD j [] = []
      rw [getD_set (by rw [a.wf.kl]; exact hb)]
      rw [getD_set (by rw [a.wf.hl]; exact hb)] at hj
      split
      · rfl
      · rename_i e; rw [if_neg e] at hj; exact a.wf.fr j hj
  · exact a.setH hb (by omega)
theorem releaseM_held {s : StoreM} {b : Nat} : (releaseM s b).held = s.held.set b (s.held.getD b 0 - 1) := by
  unfold releaseM
  split
  · rename_i e; show s.held.set b 0 = _; rw [e]
  · rfl
theorem releaseM_many {s : StoreM} {b : Nat} : (releaseM s b).many = s.many ∧ (releaseM s b).size = s.size := by
  unfold releaseM; split <;> exact ⟨rfl, rfl⟩
theorem blockOf_isFrom {s : StoreM} {d : D} : isFromD d 0 ((s.many : Nat) - 1 : Int) = (blockOf s d).isSome := by
  unfold blockOf
  cases h : isFromD d 0 ((s.many : Nat) - 1 : Int) with
  | true => obtain ⟨n, rfl, _, _⟩ := isFromD_yes h; rfl
  | false => rfl
theorem dN_dL (xs : List Nat) : dN xs = (xs.map Int.ofNat).map .int := by unfold dN; rw [List.map_map]; rfl
theorem lowest_none {s : StoreM} : lowest s = none ↔ freeOf s = 0 := by
  unfold lowest freeOf
  rw [List.count_eq_zero]
  constructor
  · intro h; split at h
    · cases h
    · assumption
  · intro h; rw [if_neg h]
theorem lowest_some {s : StoreM} {b : Nat} (h : lowest s = some b) : b < s.held.length ∧ s.held.getD b 1 = 0 ∧ ∀ m : Nat, m < b → s.held.getD m 0 ≠ 0 := by
  unfold lowest at h
  split at h
  · rename_i e
    cases h
    have hl := List.idxOf_lt_length_of_mem e
    refine ⟨hl, ?_, fun m hm => ?_⟩
    · rw [getD_lt hl]; exact List.getElem_idxOf hl
    · unfold List.idxOf at hm hl
      have := List.not_of_lt_findIdx hm
      rw [getD_lt (by omega)]
      simpa using this
  · cases h
def C_Store_release : Contract := fun ds O R X => ∃ n h k s d, ds = [.ptr n, d] ∧ StoreAt CS O n h k s ∧ Odd d ∧ (∀ b, heldOf s d = some b → R (releaseO O h k s b) .non) ∧ (heldOf s d = none → X O CH [("block", d)])
def C_Store_rows : Contract := fun ds O R X => ∃ n h k s d, ds = [.ptr n, d] ∧ StoreAt CS O n h k s ∧ Odd d ∧ (∀ b, heldOf s d = some b → R O (.tup (s.kept.getD b []))) ∧ (heldOf s d = none → X O CH [("block", d)])
def C_Store_holders : Contract := fun ds O R X => ∃ n h k s d, ds = [.ptr n, d] ∧ StoreAt CS O n h k s ∧ Odd d ∧ (∀ b, blockOf s d = some b → R O (.int (s.held.getD b 0 : Nat))) ∧ (blockOf s d = none → X O CH [("block", d)])
end
theorem storeAt_new {C : Addr} {O : List Cell} {i m z : Nat} (hi : i < O.length) (h1 : 1 ≤ m) (h2 : m ≤ 60) (h3 : 1 ≤ z) (h4 : z ≤ 8) : StoreAt C ((O ++ [Cell.lst (dN (List.replicate m 0)), Cell.lst ((List.replicate m []).map D.tup)]).set i (.ins C (storeF ⟨m, z, List.replicate m 0, List.replicate m []⟩ O.length (O.length + 1)))) i O.length (O.length + 1) ⟨m, z, List.replicate m 0, List.replicate m []⟩ := by
  have e1 : ∀ x y : Cell, (O ++ [x, y])[O.length]? = some x := fun x y => by simp
  have e2 : ∀ x y : Cell, (O ++ [x, y])[O.length + 1]? = some y := fun x y => by rw [List.getElem?_append_right (by omega), show O.length + 1 - O.length = 1 by omega]; rfl
  refine ⟨?_, ?_, ?_, by omega, ⟨h1, h2, h3, h4, List.length_replicate, List.length_replicate, fun r hr => ?_, fun b _ => ?_⟩⟩
  · rw [List.getElem?_set_self (by rw [List.length_append]; omega)]
  · rw [List.getElem?_set_ne (by omega), e1]
  · rw [List.getElem?_set_ne (by omega), e2]
  · rw [List.eq_of_mem_replicate hr]; exact Nat.zero_le _
  · show (List.replicate m []).getD b [] = []
    by_cases h : b < m
    · rw [getD_lt (by rw [List.length_replicate]; exact h), List.getElem_replicate]
    · rw [getD_ge (by rw [List.length_replicate]; omega)]
theorem len_Store___init__ {CS CN : Addr} : ∀ ds O R X, C_Store___init__ CS CN ds O R X → ds.length = 3 := fun _ _ _ _ h => by obtain ⟨_, _, _, rfl, _⟩ := h; rfl
theorem len_Store_free {CS : Addr} : ∀ ds O R X, C_Store_free CS ds O R X → ds.length = 1 := fun _ _ _ _ h => by obtain ⟨_, _, _, _, rfl, _⟩ := h; rfl
theorem len_Store_take {CS CR : Addr} : ∀ ds O R X, C_Store_take CS CR ds O R X → ds.length = 1 := fun _ _ _ _ h => by obtain ⟨_, _, _, _, rfl, _⟩ := h; rfl
theorem len_Store__check_block {CS CH : Addr} : ∀ ds O R X, C_Store__check_block CS CH ds O R X → ds.length = 2 := fun _ _ _ _ h => by obtain ⟨_, _, _, _, _, rfl, _⟩ := h; rfl
theorem len_Store__check_held {CS CH : Addr} : ∀ ds O R X, C_Store__check_held CS CH ds O R X → ds.length = 2 := fun _ _ _ _ h => by obtain ⟨_, _, _, _, _, rfl, _⟩ := h; rfl
theorem len_Store__check_alone {CS CA CH : Addr} : ∀ ds O R X, C_Store__check_alone CS CA CH ds O R X → ds.length = 2 := fun _ _ _ _ h => by obtain ⟨_, _, _, _, _, rfl, _⟩ := h; rfl
theorem len_Store_hold {CS CH : Addr} : ∀ ds O R X, C_Store_hold CS CH ds O R X → ds.length = 2 := fun _ _ _ _ h => by obtain ⟨_, _, _, _, _, rfl, _⟩ := h; rfl
theorem len_Store_release {CS CH : Addr} : ∀ ds O R X, C_Store_release CS CH ds O R X → ds.length = 2 := fun _ _ _ _ h => by obtain ⟨_, _, _, _, _, rfl, _⟩ := h; rfl
theorem len_Store_rows {CS CH : Addr} : ∀ ds O R X, C_Store_rows CS CH ds O R X → ds.length = 2 := fun _ _ _ _ h => by obtain ⟨_, _, _, _, _, rfl, _⟩ := h; rfl
theorem len_Store_holders {CS CH : Addr} : ∀ ds O R X, C_Store_holders CS CH ds O R X → ds.length = 2 := fun _ _ _ _ h => by obtain ⟨_, _, _, _, _, rfl, _⟩ := h; rfl
section
variable {c : Ct} {A : AS} {Q : QE}
theorem od_ixDc {n j : Nat} {xs : List Nat} (hc : A.o[n]? = some (.lst (dN xs))) (h1 : j < xs.length) (q : Q A (.val (.int (xs.getD j 0 : Nat)))) : OpD c (L2.rIx c.K) (.val (.ptr n)) (.val (.int (j : Nat))) A Q := od_ixL (lsC hc) (dN_get h1) q
theorem od_ixDs {i j : Nat} {xs : List Nat} (hc : A.s[i]? = some (some (.own (.lst (dN xs))))) (h1 : j < xs.length) (q : Q A (.val (.int (xs.getD j 0 : Nat)))) : OpD c (L2.rIx c.K) (.slot i) (.val (.int (j : Nat))) A Q := od_ixL (show lsOf A (.slot i) = some (dN xs) by simp only [lsOf, hc]) (dN_get h1) q
theorem we_countL {to : TE} {t : TA} (h : WE c to A fun A1 x => ∃ ds0, lsOf A1 x = some ds0 ∧ WAr c t A1 fun A2 rs => ∃ (ns : List Int) (y : Int), rs = [.val (.int y)] ∧ Stays A1 A2 x ∧ lsOf A2 x = some (ns.map .int) ∧ Q A2 (.val (.int (ns.count y : Nat)))) : WE c (tBM c.K "list" (rCntI c.K) to t) A Q := fun F G m σ H S E Qc k =>
  h F G m σ H S E _ fun F1 m1 A1 v H1 x e1 p1 S1 R1 ⟨ds0, l0, q⟩ => by
    obtain ⟨a, vs, rfl, hs, rv⟩ := rep_ls S1 R1 l0
    refine ⟨.inl ⟨rfl, vs, hs⟩, q F1 G m1 σ H1 S1 (E.mono e1 p1) _ fun F2 m2 A2 ws H2 rs e2 p2 S2 R2 q2 => ?_⟩
    obtain ⟨ns, y, er, st, l2, q3⟩ := q2
    subst er
    obtain ⟨w, rfl, rw_⟩ := rs1 R2
    cases rw_
    obtain ⟨b, us, eb, hu, ru⟩ := rep_ls S2 (R1.stay e2 p2 st) l2
    cases eb
    rw [ru.ints] at hu
    exact ⟨a, ns, y, rfl, rfl, hu, k F2 m2 A2 _ H2 (.val (.int (ns.count y : Nat))) (e1.trans e2) (p1.trans p2) S2 (Rep.int _) q3⟩
theorem ixN_n {n j : Nat} (h : j < n) : ixN n (j : Int) = some j := Evl.ixN_nat h
end
end AU
namespace AU
open PySem L2 AL
theorem oks_nil {k : Nat} : ∀ d ∈ ([] : List D), okE k d := fun _ h => nomatch h
theorem oks_cons {k : Nat} {x : D} {xs : List D} (h : okE k x) (r : ∀ d ∈ xs, okE k d) : ∀ d ∈ x :: xs, okE k d := fun d hd => by
  rcases List.mem_cons.mp hd with rfl | hd
  · exact h
  · exact r d hd
theorem okE_tup {k : Nat} {ds : List D} (hl : ds.length < 1000) (h : ∀ d ∈ ds, okE k d) : okE (k + 1) (.tup ds) := ⟨hl, h⟩
theorem same_self {k : Nat} {d : D} {O : List Cell} {R : List Cell → D → Prop} {X : XO} (h : okE k d) (q : R O (.bl true)) : C__law_same k [d, d] O R X := ⟨d, d, rfl, okD_of k d h, h, by rw [same_refl k d h]; exact q⟩
theorem keepj {s : List (Option SV)} {vs : List Nat} {x : Option SV} {v : Nat} (hv : v ∈ vs) {j : Nat} (hj : j ∉ vs) : ((wipeA s vs).set v x)[j]? = s[j]? := by
  rw [List.getElem?_set_ne (by intro z; exact hj (z ▸ hv))]; exact wipe_keeps hj
theorem isFromD_sub {d : D} {a b a' : Int} (h : isFromD d a b = false) (h2 : a ≤ a') : isFromD d a' b = false := by
  cases d <;> try rfl
  rename_i n
  rw [isFromD_int] at h ⊢
  by_cases h3 : n ≤ b
  · rw [decide_eq_true h3, Bool.and_true] at h ⊢
    have := of_decide_eq_false h
    exact decide_eq_false (by omega)
  · rw [decide_eq_false h3, Bool.and_false]
theorem count_of (xs : List Nat) : (xs.map Int.ofNat).count 0 = xs.count 0 := by
  induction xs with
  | nil => rfl
  | cons x r ih =>
    rw [List.map_cons, List.count_cons, List.count_cons, ih]
    cases x <;> rfl
section
variable {c : Ct} {A : AS} {t : TT} {t1 t2 : TS} {nx bk ct : AS → Prop} {rt : List Cell → D → Prop} {Q : QE}
theorem lowest_in {s : StoreM} : decide ((0 : Int) ∈ s.held.map Int.ofNat) = (lowest s).isSome := by
  unfold lowest
  have e : (0 : Int) ∈ s.held.map Int.ofNat ↔ 0 ∈ s.held := by
    constructor
    · intro h
      obtain ⟨x, hx, he⟩ := List.mem_map.mp h
      have : x = 0 := by have : (x : Int) = 0 := he; omega
      exact this ▸ hx
    · intro h; exact List.mem_map.mpr ⟨0, h, rfl⟩
  by_cases h : 0 ∈ s.held
  · rw [if_pos h, decide_eq_true (e.mpr h)]; rfl
  · rw [if_neg h, decide_eq_false (fun z => h (e.mp z))]; rfl
theorem we_index0 {i : Nat} {s : StoreM} {b : Nat} (h : A.s[i]? = some (some (.own (.lst (dN s.held))))) (hb : lowest s = some b) (q : Q A (.val (.int (b : Nat)))) : AL.WE c (tIndexA c.K (tVar i) (tCons (tC (.int 0)) tNil)) A Q := by
  obtain ⟨hbl, hb0, hbn⟩ := lowest_some hb
  have hls : lsOf A (.slot i) = some (dN s.held) := by simp only [lsOf, h]
  refine we_indexL (we_own h ?_)
  refine ⟨_, hls, war_cons (we_int (war_nil ⟨trivial, ?_⟩))⟩
  refine ⟨s.held.map Int.ofNat, 0, b, rfl, rfl, by rw [← dN_dL]; exact hls, ?_, fun m hm => ?_, q⟩
  · rw [List.getElem?_map, List.getElem?_eq_getElem hbl]
    rw [getD_lt hbl] at hb0
    show some (Int.ofNat _) = _
    rw [hb0]; rfl
  · have := hbn m hm
    rw [getD_lt (by omega)] at this
    rw [List.getElem?_map, List.getElem?_eq_getElem (by omega)]
    intro z
    have z : ((s.held[m]'(by omega) : Nat) : Int) = 0 := Option.some.inj z
    omega
theorem pys_N (xs : List Nat) : Pys (dN xs) ((xs.map Int.ofNat).map PyData.int) := by rw [dN_dL]; exact pys_ints _
/-- a test, by what it tells -/
theorem vs_ifC (P N : Prop) (h : WT c t A fun A1 b => A1 = A ∧ (b = true → P) ∧ (b = false → N)) (h1 : P → WS c t1 A ⟨nx, rt, bk, ct⟩) (h2 : N → WS c t2 A ⟨nx, rt, bk, ct⟩) : WS c (tIfS t t1 t2) A ⟨nx, rt, bk, ct⟩ :=
  vs_if fun F G m σ H S E Qc k => h F G m σ H S E Qc fun F' m' A' b H' e p S' ⟨ea, z1, z2⟩ => k F' m' A' b H' e p S' (by subst ea; exact ⟨fun hb => h1 (z1 hb), fun hb => h2 (z2 hb)⟩)
/-- a statement that ends in just one state -/
theorem vs_cutE {B : AS} (h1 : WS c t1 A ⟨fun A1 => A1 = B, rt, bk, ct⟩) (h2 : WS c t2 B ⟨nx, rt, bk, ct⟩) : WS c (tSeq t1 t2) A ⟨nx, rt, bk, ct⟩ := vs_cut (fun A1 => A1 = B) h1 fun A1 e => by subst e; exact h2
theorem od_inOwn {i : Nat} {x : Int} {xs : List Nat} (h : A.s[i]? = some (some (.own (.lst (dN xs))))) (q : Q A (.val (.bl (decide (x ∈ xs.map Int.ofNat))))) : OpD c (rInA c.K) (.val (.int x)) (.slot i) A Q := fun F G m σ H v w S E R1 R2 Qc k => by
  cases R1
  obtain ⟨e1, _, e2⟩ := R2
  obtain ⟨a, ea, _, _, _, _, vs, hv, rv⟩ := S.s.ownAt h
  rw [e1] at ea; cases ea
  rw [dN_dL] at rv
  rw [rv.ints] at hv
  refine ⟨a, _, rfl, .inl (.inl (.inl hv)), rfl, flat_intsV _, ?_⟩
  show Qc (.bl (inV (.int x) ((xs.map Int.ofNat).map V.int))) H
  rw [inV_ints]
  exact k F m A _ H (.val (.bl _)) (Evl.Ex.refl F) (Pre.refl m) S (Rep.bl _) q
end
end AU
local macro_rules | `(tactic| walk_at "oke") => `(tactic| (repeat (first | exact trivial | refine AU.okE_tup (Nat.le_of_ble_eq_true rfl) ?_ | exact AU.oks_nil | refine AU.oks_cons ?_ ?_)))
local macro_rules | `(tactic| walk_at "go1") => `(tactic| first
  | ((with_reducible refine' AL.cb_repr ?hp ?hs ?_); (case hp => assumption); (case hs => assumption))
  | ((with_reducible refine' AU.od_ixDc ?hc ?h1 ?_); (case hc => walk_at "cell"); (case h1 => omega))
  | ((with_reducible refine' AU.od_ixDs ?hc ?h1 ?_); (case hc => rfl); (case h1 => omega))
  | ((with_reducible refine' AL.app_go ?h ?hl ?_); (case h => rfl); (case hl => first | exact Nat.le_of_ble_eq_true rfl | omega | (simp only [List.length_map, List.length_append, List.length_cons, List.length_nil]; omega)))
  | ((with_reducible refine' AL.od_ixT ?h1 ?h2 ?_); (case h1 => rfl); (case h2 => exact AL.atI_of (by decide) rfl))
  | ((with_reducible refine' AL.od_ixL ?h1 ?h2 ?_); (case h1 => rfl); (case h2 => exact AL.atI_of (by decide) rfl)))
local macro_rules | `(tactic| walk_at "gos1") => `(tactic| (with_reducible first
  | refine' AL.vs_seqA ?_
  | refine' AL.vs_seqD ?_
  | refine' AL.vs_seqO ?_
  | refine AL.vs_ret ?_
  | refine AL.vs_asg ?_
  | refine AL.vs_own ?_
  | refine AL.vs_next ?_
  | refine AL.vs_break ?_
  | refine AL.vs_cont ?_
  | refine AL.vs_retN ?_
  | refine AL.frz_val ?_
  | refine AL.we_int ?_
  | refine AL.we_bl ?_
  | refine AL.we_non ?_
  | refine AL.we_str ?_
  | refine AL.we_ty ?_
  | refine AL.we_op ?_
  | refine AL.we_un ?_
  | refine AL.we_and ?_
  | refine AL.we_or ?_
  | refine AL.we_not ?_
  | refine AL.we_if ?_
  | refine AL.we_ofList ?_
  | refine AL.we_cb ?_
  | refine AL.we_tup ?_
  | refine AL.we_call0 ?_
  | refine AL.vb_call ?_
  | refine AL.vb_meth ?_
  | refine AL.we_meth ?_
  | refine AL.we_prop ?_
  | refine AL.we_fld ?_
  | refine AL.wt_test ?_
  | refine AL.wt_B ?_
  | refine AL.wt_and ?_
  | refine AL.wt_or ?_
  | refine AL.wt_not ?_
  | refine AL.wa_nil ?_
  | refine AL.wa_cons ?_
  | refine AL.war_nil ?_
  | refine AL.war_cons ?_
  | refine AL.wo_none ?_
  | refine AL.wo_some ?_
  | refine AL.wg_name ?_
  | refine AL.wgs_nil ?_
  | refine AL.wgs_cons ?_
  | refine AL.stays_val ?_
  | refine AL.brT ?_
  | refine AL.brF ?_
  | refine AL.brTn ?_
  | refine AL.brFn ?_
  | refine AL.ex_bl ?_
  | refine AL.ex_int ?_
  | refine AL.od_add ?_
  | refine AL.od_sub ?_
  | refine AL.od_lt ?_
  | refine AL.od_le ?_
  | refine AL.od_gt ?_
  | refine AL.od_ge ?_
  | refine AL.ud_neg ?_
  | refine AL.cb_int ?_
  | refine AL.cb_intB ?_
  | refine AL.cb_abs ?_
  | refine AL.cb_max2 ?_
  | refine AL.cb_min2 ?_
  | refine AL.we_ofLst ?_
  | refine AL.we_ofLc ?_
  | refine AL.wn_lst ?_
  | refine AL.wn_cb ?_
  | refine AL.wi_seq ?_
  | refine AL.wi_r1 ?_
  | refine AL.wi_r2 ?_))
local macro_rules | `(tactic| walk_at "gom") => `(tactic| ((repeat (first | walk_at "gos1" | walk_at "am1" | walk_at "go1" | walk_at "am2" | walk_at "aln1" | walk_at "al2")); all_goals (try dsimp only [AL.as_eta])))

namespace AU
open PySem L2 AL
section
theorem brDF {p : Prop} [Decidable p] {P N : Prop} (h : ¬ p) (h2 : N) : (decide p = true → P) ∧ (decide p = false → N) := ⟨fun z => absurd (of_decide_eq_true z) h, fun _ => h2⟩
theorem brDT {p : Prop} [Decidable p] {P N : Prop} (h : p) (h1 : P) : (decide p = true → P) ∧ (decide p = false → N) := ⟨fun _ => h1, fun z => absurd h (of_decide_eq_false z)⟩
theorem brNDF {p : Prop} [Decidable p] {P N : Prop} (h : ¬ p) (h1 : P) : ((!decide p) = true → P) ∧ ((!decide p) = false → N) := ⟨fun _ => h1, fun z => by rw [decide_eq_false h] at z; cases z⟩
theorem brNDT {p : Prop} [Decidable p] {P N : Prop} (h : p) (h2 : N) : ((!decide p) = true → P) ∧ ((!decide p) = false → N) := ⟨fun z => (by rw [decide_eq_true h] at z; cases z), fun _ => h2⟩
end
/-! ### what is done to a store -/
inductive Wd where
  | take | hold | release | put | shorten | rows | holders
def Wd.str : Wd → Str
  | .take => "take" | .hold => "hold" | .release => "release" | .put => "put" | .shorten => "shorten" | .rows => "rows" | .holders => "holders"
inductive Er where
  | room | held | alone | num
/-- what comes of it -/
def opS (s : StoreM) (w : Wd) (d v : D) : (StoreM × D) ⊕ Er := match w with
  | .take => match lowest s with
    | some b => .inl ({ s with held := s.held.set b 1 }, .int (b : Nat))
    | none => .inr .room
  | .holders => match blockOf s d with
    | some b => .inl (s, .int (s.held.getD b 0 : Nat))
    | none => .inr .held
  | .rows => match heldOf s d with
    | some b => .inl (s, .tup (s.kept.getD b []))
    | none => .inr .held
  | .hold => match heldOf s d with
    | some b => .inl ({ s with held := s.held.set b (s.held.getD b 0 + 1) }, .non)
    | none => .inr .held
  | .release => match heldOf s d with
    | some b => .inl (releaseM s b, .non)
    | none => .inr .held
  | .put => match heldOf s d with
    | some b => if s.held.getD b 0 ≤ 1 then (if (s.kept.getD b []).length = s.size then .inr .room else .inl ({ s with kept := s.kept.set b (s.kept.getD b [] ++ [v]) }, .non)) else .inr .alone
    | none => .inr .held
  | .shorten => match heldOf s d with
    | some b => if s.held.getD b 0 ≤ 1 then (match v with
      | .int z => if 0 ≤ z ∧ z ≤ ((s.kept.getD b []).length : Int) then .inl ({ s with kept := s.kept.set b ((s.kept.getD b []).take z.toNat) }, .non) else .inr .num
      | _ => .inr .num) else .inr .alone
    | none => .inr .held
def Er.cls (CN CR CA CH : Addr) : Er → Addr
  | .room => CR | .held => CH | .alone => CA | .num => CN
def Er.fs (d v : D) : Er → List (Str × D)
  | .room => [("many", .int 1)] | .held => [("block", d)] | .alone => [("block", d)] | .num => [("number", v)]
/-- the cells but these stay -/
def Frm (O O' : List Cell) (js : List Nat) : Prop := O.length ≤ O'.length ∧ ∀ j, j < O.length → j ∉ js → O'[j]? = O[j]?
theorem Frm.refl {O : List Cell} {js : List Nat} : Frm O O js := ⟨Nat.le_refl _, fun _ _ _ => rfl⟩
theorem Frm.set {O : List Cell} {js : List Nat} {j : Nat} {x : Cell} (h : j ∈ js) : Frm O (O.set j x) js := ⟨by rw [List.length_set]; exact Nat.le_refl _, fun i _ hi => by rw [List.getElem?_set_ne]; intro z; exact hi (z ▸ h)⟩
theorem Frm.trans {O O' O'' : List Cell} {js : List Nat} (a : Frm O O' js) (b : Frm O' O'' js) : Frm O O'' js := ⟨Nat.le_trans a.1 b.1, fun j h1 h2 => (b.2 j (Nat.lt_of_lt_of_le h1 a.1) h2).trans (a.2 j h1 h2)⟩
theorem Frm.app {O : List Cell} {js : List Nat} {X : List Cell} : Frm O (O ++ X) js := ⟨by rw [List.length_append]; omega, fun j h _ => List.getElem?_append_left h⟩
theorem Frm.mono {O O' : List Cell} {js ks : List Nat} (a : Frm O O' js) (h : ∀ j ∈ js, j < O.length → j ∈ ks) : Frm O O' ks := ⟨a.1, fun j h1 h2 => a.2 j h1 fun z => h2 (h j z h1)⟩
theorem Frm.get {O O' : List Cell} {js : List Nat} {j : Nat} {x : Cell} (a : Frm O O' js) (h : O[j]? = some x) (hj : j ∉ js) : O'[j]? = some x := by rw [a.2 j (List.getElem?_eq_some_iff.mp h).1 hj]; exact h
def RowD (d : D) : Prop := ∃ r : Row, d = dRow r ∧ r.pairs.length ≤ 100 ∧ (∀ k ∈ r.pairs, k.1.length ≤ 100 ∧ k.2.length ≤ 100) ∧ r.weights.length ≤ 100
def C_fixed_row : Contract := fun ds O R _ => ∃ d, ds = [d] ∧ RowD d ∧ R O d
theorem len_fixed_row : ∀ ds O R X, C_fixed_row ds O R X → ds.length = 1 := fun _ _ _ _ h => by obtain ⟨_, rfl, _⟩ := h; rfl
section
variable (CS CN CR CA CH : Addr)
def C_Store_put_row : Contract := fun ds O R X => ∃ n h k s d v, ds = [.ptr n, d, v] ∧ StoreAt CS O n h k s ∧ Odd d ∧ RowD v ∧ (heldOf s d = none → X O CH [(("block" : Str), d)]) ∧
  ∀ b, heldOf s d = some b → (1 < s.held.getD b 0 → X O CA [(("block" : Str), d)]) ∧ (s.held.getD b 0 ≤ 1 → ((s.kept.getD b []).length = s.size → X O CR [(("many" : Str), .int 1)]) ∧ ((s.kept.getD b []).length ≠ s.size → R (O.set k (.lst ((s.kept.set b (s.kept.getD b [] ++ [v])).map .tup))) .non))
def C_Store_shorten : Contract := fun ds O R X => ∃ n h k s d v, ds = [.ptr n, d, v] ∧ StoreAt CS O n h k s ∧ Odd d ∧ Odd v ∧ (heldOf s d = none → X O CH [(("block" : Str), d)]) ∧
  ∀ b, heldOf s d = some b → (1 < s.held.getD b 0 → X O CA [(("block" : Str), d)]) ∧ (s.held.getD b 0 ≤ 1 → (isFromD v 0 ((s.kept.getD b []).length : Int) = false → X O CN [(("number" : Str), v)]) ∧ ∀ z : Nat, v = .int (z : Nat) → z ≤ (s.kept.getD b []).length → R (O.set k (.lst ((s.kept.set b ((s.kept.getD b []).take z)).map .tup))) .non)
/-- what may be handed for rows and numbers -/
def VOk (w : Wd) (v : D) : Prop := match w with
  | .put => RowD v
  | .shorten => OddS v
  | _ => True
def C__law_call : Contract := fun ds O R X => ∃ n h k s w d v, ds = [.ptr n, .str (Wd.str w), d, v] ∧ StoreAt CS O n h k s ∧ Odd d ∧ VOk w v ∧
  (∀ s' r, opS s w d v = .inl (s', r) → ∀ O', O'.length = O.length → StoreAt CS O' n h k s' → s'.many = s.many → s'.size = s.size → Frm O O' [h, k] → R O' r) ∧ (∀ e, opS s w d v = .inr e → X O (e.cls CN CR CA CH) (e.fs d v))
def toldE (d v : D) (e : Er) (x : D) : Prop := match e with
  | .room => x = .tup [.str "NoRoom", .str "1"]
  | .held => ∃ p, Py d p ∧ Shows p ∧ x = .tup [.str "NotHeld", .str p.shown]
  | .alone => ∃ p, Py d p ∧ Shows p ∧ x = .tup [.str "NotAlone", .str p.shown]
  | .num => ∃ p, Py v p ∧ Shows p ∧ x = .tup [.str "InvalidNumber", .str p.shown]
/-- what is told: the answer, or the error -/
def told (pd pv : PyData) (q : (StoreM × D) ⊕ Er) : D := match q with
  | .inl (_, r) => .tup [.str "", r]
  | .inr .room => .tup [.str "NoRoom", .str "1"]
  | .inr .held => .tup [.str "NotHeld", .str pd.shown]
  | .inr .alone => .tup [.str "NotAlone", .str pd.shown]
  | .inr .num => .tup [.str "InvalidNumber", .str pv.shown]
def newM (s : StoreM) (q : (StoreM × D) ⊕ Er) : StoreM := match q with
  | .inl (s', _) => s'
  | .inr _ => s
def ShV (w : Wd) (v : D) (pv : PyData) : Prop := w = .shorten → Py v pv ∧ Shows pv
def C__law_ask : Contract := fun ds O R _ => ∃ n h k s w d v pd pv, ds = [.ptr n, .str (Wd.str w), d, v] ∧ StoreAt CS O n h k s ∧ Odd d ∧ VOk w v ∧ Py d pd ∧ Shows pd ∧ ShV w v pv ∧
  ∀ O', O'.length = O.length → StoreAt CS O' n h k (newM s (opS s w d v)) → (newM s (opS s w d v)).many = s.many → (newM s (opS s w d v)).size = s.size → Frm O O' [h, k] → R O' (told pd pv (opS s w d v))
end
theorem len_Store_put_row {CS CR CA CH : Addr} : ∀ ds O R X, C_Store_put_row CS CR CA CH ds O R X → ds.length = 3 := fun _ _ _ _ h => by obtain ⟨_, _, _, _, _, _, rfl, _⟩ := h; rfl
theorem len_Store_shorten {CS CN CA CH : Addr} : ∀ ds O R X, C_Store_shorten CS CN CA CH ds O R X → ds.length = 3 := fun _ _ _ _ h => by obtain ⟨_, _, _, _, _, _, rfl, _⟩ := h; rfl
theorem len__law_call {CS CN CR CA CH : Addr} : ∀ ds O R X, C__law_call CS CN CR CA CH ds O R X → ds.length = 4 := fun _ _ _ _ h => by obtain ⟨_, _, _, _, _, _, _, rfl, _⟩ := h; rfl
theorem len__law_ask {CS : Addr} : ∀ ds O R X, C__law_ask CS ds O R X → ds.length = 4 := fun _ _ _ _ h => by obtain ⟨_, _, _, _, _, _, _, _, _, rfl, _⟩ := h; rfl
/-! ### the law's own count -/
structure StAt (O : List Cell) (st a b : Nat) (ps : List Nat) (hs : List Nat) (ks : List (List D)) : Prop where
  top : O[st]? = some (.lst [.ptr a, .ptr b])
  held : O[a]? = some (.lst (dN hs))
  rows : O[b]? = some (.lst (ps.map .ptr))
  row : ∀ i j : Nat, ps[i]? = some j → O[j]? = some (.lst (ks.getD i []))
  lk : ks.length = hs.length
  lp : ps.length = hs.length
  nd : (st :: a :: b :: ps).Nodup
theorem StAt.frm {O O' : List Cell} {st a b : Nat} {ps held : List Nat} {kept : List (List D)} {js : List Nat} (s : StAt O st a b ps held kept) (f : Frm O O' js) (h : ∀ j ∈ st :: a :: b :: ps, j ∉ js) : StAt O' st a b ps held kept :=
  ⟨f.get s.top (h _ (by simp)), f.get s.held (h _ (by simp)), f.get s.rows (h _ (by simp)), fun i j e => f.get (s.row i j e) (h _ (by simp [List.mem_of_getElem? e])), s.lk, s.lp, s.nd⟩
theorem StoreAt.frm {C : Addr} {O O' : List Cell} {n h k : Nat} {s : StoreM} {js : List Nat} (a : StoreAt C O n h k s) (f : Frm O O' js) (hj : n ∉ js ∧ h ∉ js ∧ k ∉ js) : StoreAt C O' n h k s := ⟨f.get a.ins hj.1, f.get a.held hj.2.1, f.get a.kept hj.2.2, a.ne, a.wf⟩
def C__law_lowest : Contract := fun ds O R _ => ∃ st a b ps s, ds = [.ptr st] ∧ StAt O st a b ps (StoreM.held s) (StoreM.kept s) ∧ s.held.length ≤ 100 ∧ R O (dOp (lowest s))
def C__law_take : Contract := fun ds O R _ => ∃ st a b ps s, ds = [.ptr st] ∧ StAt O st a b ps (StoreM.held s) (StoreM.kept s) ∧ s.held.length ≤ 100 ∧ (∀ l, lowest s = some l → R (O.set a (.lst (dN (s.held.set l 1)))) (.int (l : Nat))) ∧ (lowest s = none → R O .non)
def C__law_release : Contract := fun ds O R _ => ∃ st a b ps s, ∃ l : Nat, ds = [.ptr st, .int (l : Nat)] ∧ StAt O st a b ps (StoreM.held s) (StoreM.kept s) ∧ l < s.held.length ∧ 0 < s.held.getD l 0 ∧
  ∀ O' ps', StAt O' st a b ps' (releaseM s l).held (releaseM s l).kept → Frm O O' [a, b] → (∀ j ∈ ps', j ∈ ps ∨ O.length ≤ j) → R O' .non
def C__law_is_integer : Contract := fun ds O R _ => ∃ d, ∃ a b : Int, ds = [d, .int a, .int b] ∧ Odd d ∧ R O (.bl (isFromD d a b))
def C__law_due : Contract := fun ds O R _ => ∃ st a b ps s z w d v pd pv, ds = [.ptr st, z, .str (Wd.str w), d, v] ∧ (w = .put → z = .int (StoreM.size s : Nat)) ∧ StAt O st a b ps (StoreM.held s) (StoreM.kept s) ∧ WfS s ∧ Odd d ∧ VOk w v ∧ Py d pd ∧ Shows pd ∧ ShV w v pv ∧
  ∀ O' ps', StAt O' st a b ps' (newM s (opS s w d v)).held (newM s (opS s w d v)).kept → Frm O O' (a :: b :: ps) → (∀ j ∈ ps', j ∈ ps ∨ O.length ≤ j) → R O' (told pd pv (opS s w d v))
theorem len__law_lowest : ∀ ds O R X, C__law_lowest ds O R X → ds.length = 1 := fun _ _ _ _ h => by obtain ⟨_, _, _, _, _, rfl, _⟩ := h; rfl
theorem len__law_take : ∀ ds O R X, C__law_take ds O R X → ds.length = 1 := fun _ _ _ _ h => by obtain ⟨_, _, _, _, _, rfl, _⟩ := h; rfl
theorem len__law_release : ∀ ds O R X, C__law_release ds O R X → ds.length = 2 := fun _ _ _ _ h => by obtain ⟨_, _, _, _, _, _, rfl, _⟩ := h; rfl
theorem len__law_is_integer : ∀ ds O R X, C__law_is_integer ds O R X → ds.length = 3 := fun _ _ _ _ h => by obtain ⟨_, _, _, rfl, _⟩ := h; rfl
theorem len__law_due : ∀ ds O R X, C__law_due ds O R X → ds.length = 5 := fun _ _ _ _ h => by obtain ⟨_, _, _, _, _, _, _, _, _, _, _, rfl, _⟩ := h; rfl
theorem num_shorten {s : StoreM} {w : Wd} {d v : D} (h : opS s w d v = .inr .num) : w = .shorten := by
  cases w
  case shorten => rfl
  all_goals exfalso; simp only [opS] at h
  case take => split at h <;> cases h
  case hold => split at h <;> cases h
  case release => split at h <;> cases h
  case rows => split at h <;> cases h
  case holders => split at h <;> cases h
  case put =>
    split at h
    · split at h
      · split at h <;> cases h
      · cases h
    · cases h
theorem StAt.nde {O : List Cell} {st a b : Nat} {ps hs : List Nat} {ks : List (List D)} (s : StAt O st a b ps hs ks) : st ≠ a ∧ st ≠ b ∧ a ≠ b ∧ (∀ j ∈ ps, j ≠ st ∧ j ≠ a ∧ j ≠ b) ∧ ps.Nodup := by
  have h := s.nd
  simp only [List.nodup_cons, List.mem_cons, not_or] at h
  exact ⟨h.1.1, h.1.2.1, h.2.1.1, fun j hj => ⟨fun e => h.1.2.2 (e ▸ hj), fun e => h.2.1.2 (e ▸ hj), fun e => h.2.2.1 (e ▸ hj)⟩, h.2.2.2⟩
theorem StAt.setHeld {O : List Cell} {st a b : Nat} {ps hs hs' : List Nat} {ks : List (List D)} (s : StAt O st a b ps hs ks) (hl : hs'.length = hs.length) : StAt (O.set a (.lst (dN hs'))) st a b ps hs' ks := by
  obtain ⟨n1, n2, n3, n4, n5⟩ := s.nde
  refine ⟨?_, ?_, ?_, fun i j e => ?_, by rw [hl]; exact s.lk, by rw [hl]; exact s.lp, s.nd⟩
  · rw [List.getElem?_set_ne (Ne.symm n1)]; exact s.top
  · rw [List.getElem?_set_self (List.getElem?_eq_some_iff.mp s.held).1]
  · rw [List.getElem?_set_ne n3]; exact s.rows
  · rw [List.getElem?_set_ne (Ne.symm (n4 j (List.mem_of_getElem? e)).2.1)]; exact s.row i j e
theorem lt_of {α : Type} {O : List α} {j : Nat} {x : α} (h : O[j]? = some x) : j < O.length := (List.getElem?_eq_some_iff.mp h).1
theorem StAt.newRow {O : List Cell} {st a b : Nat} {ps hs : List Nat} {ks : List (List D)} (s : StAt O st a b ps hs ks) {l : Nat} (hl : l < hs.length) {x : List D} : StAt ((O ++ [Cell.lst x]).set b (.lst ((ps.set l O.length).map .ptr))) st a b (ps.set l O.length) hs (ks.set l x) := by
  obtain ⟨n1, n2, n3, n4, n5⟩ := s.nde
  have lt1 := lt_of s.top
  have lt2 := lt_of s.held
  have lt3 := lt_of s.rows
  have ap : ∀ {j : Nat} {y : Cell}, O[j]? = some y → (O ++ [Cell.lst x])[j]? = some y := fun {j y} h => by rw [List.getElem?_append_left (lt_of h)]; exact h
  have mem : ∀ j ∈ ps.set l O.length, j = O.length ∨ j ∈ ps := fun j hj => (List.mem_or_eq_of_mem_set hj).symm
  have plt : ∀ j ∈ ps, j < O.length := fun j hj => by
    obtain ⟨i, hi, rfl⟩ := List.getElem_of_mem hj
    exact lt_of (s.row i _ (List.getElem?_eq_getElem hi))
  refine ⟨?_, ?_, ?_, fun i j e => ?_, by rw [List.length_set]; exact s.lk, by rw [List.length_set]; exact s.lp, ?_⟩
  · rw [List.getElem?_set_ne (Ne.symm n2)]; exact ap s.top
  · rw [List.getElem?_set_ne (Ne.symm n3)]; exact ap s.held
  · rw [List.getElem?_set_self (by rw [List.length_append]; omega)]
  · by_cases hi : i = l
    · subst hi
      rw [List.getElem?_set_self (by rw [s.lp]; exact hl)] at e
      cases e
      rw [List.getElem?_set_ne (by omega), List.getElem?_append_right (Nat.le_refl _), Nat.sub_self, getD_set (by rw [s.lk]; exact hl), if_pos rfl]; rfl
    · rw [List.getElem?_set_ne (Ne.symm hi)] at e
      rw [List.getElem?_set_ne (Ne.symm (n4 j (List.mem_of_getElem? e)).2.2), getD_set (by rw [s.lk]; exact hl), if_neg (fun z => hi z.symm)]
      exact ap (s.row i j e)
  · have nl : O.length ∉ ps := fun z => Nat.lt_irrefl _ (plt _ z)
    have nds : (ps.set l O.length).Nodup := by
      refine List.pairwise_iff_getElem.mpr fun i j hi hj hij => ?_
      rw [List.length_set] at hi hj
      rw [List.getElem_set, List.getElem_set]
      split
      · rename_i e1
        rw [if_neg (by omega)]
        intro z
        exact nl (z ▸ List.getElem_mem hj)
      · split
        · intro z
          exact nl (z ▸ List.getElem_mem hi)
        · intro z
          have := (List.getElem_inj n5).mp z
          omega
    simp only [List.nodup_cons, List.mem_cons, not_or]
    refine ⟨⟨n1, n2, fun z => ?_⟩, ⟨n3, fun z => ?_⟩, fun z => ?_, nds⟩
    · rcases mem _ z with h | h
      · omega
      · exact (n4 _ h).1 rfl
    · rcases mem _ z with h | h
      · omega
      · exact (n4 _ h).2.1 rfl
    · rcases mem _ z with h | h
      · omega
      · exact (n4 _ h).2.2 rfl
theorem StAt.setRow {O : List Cell} {st a b : Nat} {ps hs : List Nat} {ks : List (List D)} (s : StAt O st a b ps hs ks) {l p : Nat} (hp : ps[l]? = some p) {x : List D} : StAt (O.set p (.lst x)) st a b ps hs (ks.set l x) := by
  obtain ⟨n1, n2, n3, n4, n5⟩ := s.nde
  obtain ⟨m1, m2, m3⟩ := n4 p (List.mem_of_getElem? hp)
  have hl : l < ks.length := by rw [s.lk, ← s.lp]; exact lt_of hp
  refine ⟨?_, ?_, ?_, fun i j e => ?_, by rw [List.length_set]; exact s.lk, s.lp, s.nd⟩
  · rw [List.getElem?_set_ne m1]; exact s.top
  · rw [List.getElem?_set_ne m2]; exact s.held
  · rw [List.getElem?_set_ne m3]; exact s.rows
  · by_cases hi : i = l
    · subst hi
      rw [hp] at e; cases e
      rw [List.getElem?_set_self (lt_of (s.row i p hp)), getD_set hl, if_pos rfl]
    · have np : p ≠ j := by
        intro z; subst z
        have h1 := List.getElem?_eq_some_iff.mp hp
        have h2 := List.getElem?_eq_some_iff.mp e
        exact hi ((List.getElem_inj n5).mp (h2.2.trans h1.2.symm))
      rw [List.getElem?_set_ne np, getD_set hl, if_neg (fun z => hi z.symm)]
      exact s.row i j e
theorem okE_mono : ∀ (k : Nat) (d : D), okE k d → okE (k + 1) d
  | 0, d, h => by cases d <;> exact h.elim
  | k + 1, d, h => by
    cases d <;> first
      | exact h
      | exact ⟨h.1, fun x hx => okE_mono k x (h.2 x hx)⟩
/-- what is told can be compared -/
theorem told_ok {s : StoreM} {w : Wd} {d v : D} {pd pv : PyData} (hw : WfS s) (hr : ∀ r ∈ s.kept, ∀ x ∈ r, okE 5 x) : okE 7 (told pd pv (opS s w d v)) := by
  have st : ∀ x y : Str, okE 7 (.tup [.str x, .str y]) := fun x y => okE_tup (k := 6) (Nat.le_of_ble_eq_true rfl) (oks_cons trivial (oks_cons trivial oks_nil))
  have an : ∀ r : D, okE 6 r → okE 7 (.tup [.str "", r]) := fun r h => okE_tup (k := 6) (Nat.le_of_ble_eq_true rfl) (oks_cons trivial (oks_cons h oks_nil))
  cases w <;> simp only [opS]
  case take => split <;> first | exact an _ trivial | exact st _ _
  case holders => split <;> first | exact an _ trivial | exact st _ _
  case rows =>
    split
    · rename_i b hb
      have hbm := (heldOf_some hb).2.1
      have hm : s.kept.getD b [] ∈ s.kept := by rw [getD_lt (by rw [hw.kl]; exact hbm)]; exact List.getElem_mem _
      have := hw.rw _ hm
      have := hw.s8
      exact an _ (okE_tup (k := 5) (by omega) (hr _ hm))
    · exact st _ _
  case hold => split <;> first | exact an _ trivial | exact st _ _
  case release => split <;> first | exact an _ trivial | exact st _ _
  case put =>
    split
    · split
      · split
        · exact st _ _
        · exact an _ trivial
      · exact st _ _
    · exact st _ _
  case shorten =>
    split
    · split
      · split
        · split
          · exact an _ trivial
          · exact st _ _
        · exact st _ _
      · exact st _ _
    · exact st _ _
theorem kept_set {ks : List (List D)} {b : Nat} {x : List D} {P : D → Prop} (h : ∀ r ∈ ks, ∀ d ∈ r, P d) (hx : ∀ d ∈ x, P d) : ∀ r ∈ ks.set b x, ∀ d ∈ r, P d := fun r hr => by
  rcases List.mem_or_eq_of_mem_set hr with h1 | h1
  · exact h r h1
  · exact h1 ▸ hx
theorem getD_all {ks : List (List D)} {b : Nat} {P : D → Prop} (h : ∀ r ∈ ks, ∀ d ∈ r, P d) : ∀ d ∈ ks.getD b [], P d := by
  by_cases hb : b < ks.length
  · rw [getD_lt hb]; exact h _ (List.getElem_mem hb)
  · rw [getD_ge (by omega)]; intro d hd; cases hd
theorem new_ok {s : StoreM} {w : Wd} {d v : D} {P : D → Prop} (hr : ∀ r ∈ s.kept, ∀ x ∈ r, P x) (hv : w = .put → P v) : ∀ r ∈ (newM s (opS s w d v)).kept, ∀ x ∈ r, P x := by
  cases w <;> simp only [opS]
  case take => split <;> exact hr
  case holders => split <;> exact hr
  case rows => split <;> exact hr
  case hold => split <;> exact hr
  case release =>
    split
    · rename_i b hb
      show ∀ r ∈ (releaseM s b).kept, _
      unfold releaseM
      split
      · exact kept_set hr (fun _ h => nomatch h)
      · exact hr
    · exact hr
  case put =>
    split
    · split
      · split
        · exact hr
        · refine kept_set hr fun x hx => ?_
          rcases List.mem_append.mp hx with h | h
          · exact getD_all hr x h
          · rw [List.mem_singleton] at h; subst h; exact hv rfl
      · exact hr
    · exact hr
  case shorten =>
    split
    · split
      · split
        · split
          · exact kept_set hr fun x hx => getD_all hr x (List.mem_of_mem_take hx)
          · exact hr
        · exact hr
      · exact hr
    · exact hr
theorem stAt_new {O : List Cell} {m : Nat} {a : Nat} {ps : List Nat} (ha : a = O.length) (hps : ps = (List.range m).map (fun i => O.length + 1 + i)) :
    StAt ((((O ++ [Cell.lst (dN (List.replicate m 0))]) ++ List.replicate m (Cell.lst [])) ++ [Cell.lst (ps.map .ptr)]) ++ [Cell.lst [.ptr a, .ptr (O.length + 1 + m)]]) (O.length + 2 + m) a (O.length + 1 + m) ps (List.replicate m 0) (List.replicate m []) := by
  subst ha
  have hpl : ps.length = m := by rw [hps, List.length_map, List.length_range]
  have mem : ∀ j ∈ ps, ∃ i, i < m ∧ j = O.length + 1 + i := fun j hj => by
    rw [hps] at hj
    obtain ⟨i, hi, rfl⟩ := List.mem_map.mp hj
    exact ⟨i, List.mem_range.mp hi, rfl⟩
  have l1 : (O ++ [Cell.lst (dN (List.replicate m 0))]).length = O.length + 1 := by rw [List.length_append]; rfl
  have l2 : ((O ++ [Cell.lst (dN (List.replicate m 0))]) ++ List.replicate m (Cell.lst [])).length = O.length + 1 + m := by rw [List.length_append, l1, List.length_replicate]
  have l3 : (((O ++ [Cell.lst (dN (List.replicate m 0))]) ++ List.replicate m (Cell.lst [])) ++ [Cell.lst (ps.map .ptr)]).length = O.length + 2 + m := by rw [List.length_append, l2]; show _ + 1 = _; omega
  refine ⟨?_, ?_, ?_, fun i j e => ?_, by rw [List.length_replicate, List.length_replicate], by rw [hpl, List.length_replicate], ?_⟩
  · rw [List.getElem?_append_right (by omega), l3, Nat.sub_self]; rfl
  · rw [List.getElem?_append_left (by omega), List.getElem?_append_left (by omega), List.getElem?_append_left (by omega), List.getElem?_append_right (by omega), Nat.sub_self]; rfl
  · rw [List.getElem?_append_left (by omega), List.getElem?_append_right (by omega), l2, Nat.sub_self]; rfl
  · obtain ⟨i', hi', rfl⟩ := mem j (List.mem_of_getElem? e)
    rw [List.getElem?_append_left (by omega), List.getElem?_append_left (by omega), List.getElem?_append_right (by omega), l1, List.getElem?_replicate, if_pos (by omega)]
    have hi : i < m := by have := lt_of e; omega
    rw [getD_lt (by rw [List.length_replicate]; exact hi), List.getElem_replicate]
  · have ndp : ps.Nodup := by
      rw [hps]
      refine List.pairwise_map.mpr ((List.pairwise_lt_range (n := m)).imp fun {x y} h => by omega)
    simp only [List.nodup_cons, List.mem_cons, not_or]
    refine ⟨⟨by omega, by omega, fun z => ?_⟩, ⟨by omega, fun z => ?_⟩, fun z => ?_, ndp⟩ <;> (obtain ⟨i, hi, e⟩ := mem _ z; omega)
theorem row_wid {n : NetM} {w : Nat} (hw : WfN n) (hd : WidN w n) (rows : List Row) (l : Nat) : ∀ k ∈ (rowI n rows l).pairs, Bd k.1 ∧ k.1.length = w ∧ k.2.length = w := lays_wid hw.p0 hw.p1 n.layers 0 _ [] hd.lay (fun k h => nomatch h)
theorem row_rowD {n : NetM} {w : Nat} (hw : WfN n) (hd : WidN w n) (hw4 : w ≤ 100) (rows : List Row) (l : Nat) : RowD (dRow (rowI n rows l)) ∧ okE 5 (dRow (rowI n rows l)) := by
  have h1 := row_wf hw rows l
  have h2 := row_wid hw hd rows l
  have h3 : (rowI n rows l).weights.length = n.out.length := wts_len rows l
  have hl := hw.lay.1
  have ho := hw.out.1
  have e1 := h1.1
  refine ⟨⟨_, rfl, by omega, fun k hk => ?_, by omega⟩, okE_Row (k := 0) (by omega) (fun q hq => ?_) (by omega)⟩
  · have := h2 k hk; exact ⟨by omega, by omega⟩
  · have := h2 q hq; exact ⟨by omega, by omega⟩
theorem lowest_is {s : StoreM} {i : Nat} (hi : i < s.held.length) (h0 : s.held.getD i 0 = 0) (hm : ∀ m : Nat, m < i → s.held.getD m 0 ≠ 0) : lowest s = some i := by
  unfold lowest
  have e : 0 ∈ s.held := by rw [getD_lt hi] at h0; exact h0 ▸ List.getElem_mem hi
  rw [if_pos e]
  congr 1
  have hl := List.idxOf_lt_length_of_mem e
  have h1 : s.held.getD (s.held.idxOf 0) 0 = 0 := by rw [getD_lt hl]; exact List.getElem_idxOf hl
  by_cases c : s.held.idxOf 0 < i
  · exact absurd h1 (hm _ c)
  · by_cases c2 : i < s.held.idxOf 0
    · exfalso
      have e2 : s.held.getD i 0 ≠ 0 := by
        have hl' := hl
        unfold List.idxOf at c2
        have := List.not_of_lt_findIdx c2
        rw [getD_lt hi]; simpa using this
      exact e2 h0
    · omega
theorem lowest_no {s : StoreM} (h : ∀ m : Nat, m < s.held.length → s.held.getD m 0 ≠ 0) : lowest s = none := by
  unfold lowest
  rw [if_neg]
  intro e
  obtain ⟨i, hi, he⟩ := List.getElem_of_mem e
  exact h i hi (by rw [getD_lt hi]; exact he)
/-- some rows, of any net -/
def C__law_some_rows : Contract := fun ds O R _ => ∃ ns : List Int, ds = [.lst (ns.map .int)] ∧ AllN ns ∧ 23 ≤ ns.length ∧ ns.length ≤ 1000 ∧ ∀ rs : List D, rs.length = 20 → (∀ d ∈ rs, RowD d ∧ okE 5 d) → R O (.lst rs)
theorem len__law_some_rows : ∀ ds O R X, C__law_some_rows ds O R X → ds.length = 1 := fun _ _ _ _ h => by obtain ⟨_, rfl, _⟩ := h; rfl
def C__law_free : Contract := fun ds O R _ => ∃ st a b ps s, ds = [.ptr st] ∧ StAt O st a b ps (StoreM.held s) (StoreM.kept s) ∧ s.held.length ≤ 100 ∧ R O (.int (freeOf s : Nat))
theorem len__law_free : ∀ ds O R X, C__law_free ds O R X → ds.length = 1 := fun _ _ _ _ h => by obtain ⟨_, _, _, _, _, rfl, _⟩ := h; rfl
def C__law_stands (CS : Addr) : Contract := fun ds O R _ => ∃ n h k s st a b ps, ds = [.ptr n, .ptr st] ∧ StoreAt CS O n h k s ∧ StAt O st a b ps (StoreM.held s) (StoreM.kept s) ∧ (∀ r ∈ s.kept, ∀ d ∈ r, okE 5 d) ∧ R O (.bl true)
theorem len__law_stands {CS : Addr} : ∀ ds O R X, C__law_stands CS ds O R X → ds.length = 2 := fun _ _ _ _ h => by obtain ⟨_, _, _, _, _, _, _, _, rfl, _⟩ := h; rfl
def C__law_odd : Contract := fun ds O R _ => ∃ ns : List Int, ∃ k most : Nat, ds = [.lst (ns.map .int), .int (k : Nat), .int (most : Nat)] ∧ AllN ns ∧ k + 1 < ns.length ∧ ns.length ≤ 1000 ∧ 1 ≤ most ∧ most ≤ 100 ∧ ∀ d, OddS d → isFromD d 0 ((most : Nat) - 1 : Int) = false → R O d
theorem len__law_odd : ∀ ds O R X, C__law_odd ds O R X → ds.length = 3 := fun _ _ _ _ h => by obtain ⟨_, _, _, rfl, _⟩ := h; rfl
end AU
local macro_rules | `(tactic| walk_at "brd") => `(tactic| first
  | ((with_reducible refine' AU.brDF ?h ?_); (case h => decide))
  | ((with_reducible refine' AU.brDT ?h ?_); (case h => decide))
  | ((with_reducible refine' AU.brNDF ?h ?_); (case h => decide))
  | ((with_reducible refine' AU.brNDT ?h ?_); (case h => decide)))
local macro_rules | `(tactic| walk_at "ixc") => `(tactic| ((with_reducible refine' AL.od_ixL ?h1 ?h2 ?_); (case h1 => exact AL.lsC (by walk_at "cell")); (case h2 => exact AL.atI_of (by decide) rfl)))
local macro_rules | `(tactic| walk_at "goz") => `(tactic| ((repeat (first | walk_at "gos1" | walk_at "am1" | walk_at "brd" | walk_at "ixc" | walk_at "go1" | walk_at "am2" | walk_at "aln1" | walk_at "al2")); all_goals (try dsimp only [AL.as_eta])))
local macro_rules | `(tactic| walk_at "gox") => `(tactic| ((repeat (first | walk_at "gox1" | walk_at "am1" | walk_at "brd" | walk_at "ixc" | walk_at "go1" | walk_at "am2" | walk_at "aln1" | walk_at "al2")); all_goals (try dsimp only [AL.as_eta])))
local macro_rules | `(tactic| walk_at "gox1") => `(tactic| (with_reducible first
  | refine' AL.vs_seqA ?_
  | refine' AL.vs_seqD ?_
  | refine' AL.vs_seqO ?_
  | refine AL.vs_ret ?_
  | refine AL.vs_asg ?_
  | refine AL.vs_own ?_
  | refine AL.vs_next ?_
  | refine AL.vs_break ?_
  | refine AL.vs_cont ?_
  | refine AL.vs_retN ?_
  | refine AL.frz_val ?_
  | refine AL.we_int ?_
  | refine AL.we_bl ?_
  | refine AL.we_non ?_
  | refine AL.we_str ?_
  | refine AL.we_ty ?_
  | refine AL.we_op ?_
  | refine AL.we_un ?_
  | refine AL.we_and ?_
  | refine AL.we_or ?_
  | refine AL.we_not ?_
  | refine AL.we_if ?_
  | refine AL.we_ofList ?_
  | refine AL.we_cb ?_
  | refine AL.we_tup ?_
  | refine AL.we_prop ?_
  | refine AL.we_fld ?_
  | refine AL.wt_test ?_
  | refine AL.wt_B ?_
  | refine AL.wt_and ?_
  | refine AL.wt_or ?_
  | refine AL.wt_not ?_
  | refine AL.wa_nil ?_
  | refine AL.wa_cons ?_
  | refine AL.war_nil ?_
  | refine AL.war_cons ?_
  | refine AL.wo_none ?_
  | refine AL.wo_some ?_
  | refine AL.wg_name ?_
  | refine AL.wgs_nil ?_
  | refine AL.wgs_cons ?_
  | refine AL.stays_val ?_
  | refine AL.brT ?_
  | refine AL.brF ?_
  | refine AL.brTn ?_
  | refine AL.brFn ?_
  | refine AL.ex_bl ?_
  | refine AL.ex_int ?_
  | refine AL.od_add ?_
  | refine AL.od_sub ?_
  | refine AL.od_lt ?_
  | refine AL.od_le ?_
  | refine AL.od_gt ?_
  | refine AL.od_ge ?_
  | refine AL.ud_neg ?_
  | refine AL.cb_int ?_
  | refine AL.cb_intB ?_
  | refine AL.cb_abs ?_
  | refine AL.cb_max2 ?_
  | refine AL.cb_min2 ?_
  | refine AL.we_ofLst ?_
  | refine AL.we_ofLc ?_
  | refine AL.wn_lst ?_
  | refine AL.wn_cb ?_
  | refine AL.wi_seq ?_
  | refine AL.wi_r1 ?_
  | refine AL.wi_r2 ?_))
local macro_rules | `(tactic| walk_at "gozi") => `(tactic| ((repeat (first | walk_at "gos1" | (with_reducible refine AL.vs_seq (AL.vs_if ?_)) | (with_reducible refine AL.vs_if ?_) | walk_at "am1" | walk_at "brd" | walk_at "ixc" | walk_at "go1" | walk_at "am2" | walk_at "aln1" | walk_at "al2")); all_goals (try dsimp only [AL.as_eta])))
local macro_rules | `(tactic| walk_at "goxi") => `(tactic| ((repeat (first | walk_at "gox1" | (with_reducible refine AL.vs_seq (AL.vs_if ?_)) | (with_reducible refine AL.vs_if ?_) | walk_at "am1" | walk_at "brd" | walk_at "ixc" | walk_at "go1" | walk_at "am2" | walk_at "aln1" | walk_at "al2")); all_goals (try dsimp only [AL.as_eta])))
namespace AU
open PySem L2 AL
def C__law_block : Contract := fun ds O R _ => ∃ ns : List Int, ∃ k m : Nat, ds = [.lst (ns.map .int), .int (k : Nat), .int (m : Nat)] ∧ AllN ns ∧ k + 2 < ns.length ∧ ns.length ≤ 1000 ∧ 1 ≤ m ∧ m ≤ 60 ∧ ∀ d, OddS d → R O d
theorem len__law_block : ∀ ds O R X, C__law_block ds O R X → ds.length = 3 := fun _ _ _ _ h => by obtain ⟨_, _, _, rfl, _⟩ := h; rfl
/-- the store and the law's count, apart -/
structure Both (CS : Addr) (O : List Cell) (n h k st a b : Nat) (ps : List Nat) (s : StoreM) : Prop where
  sa : StoreAt CS O n h k s
  ca : StAt O st a b ps (StoreM.held s) (StoreM.kept s)
  ap : ∀ j ∈ st :: a :: b :: ps, j ≠ n ∧ j ≠ h ∧ j ≠ k
  ok : ∀ r ∈ StoreM.kept s, ∀ d ∈ r, okE 5 d
/-- behind a call of the store and one of the count -/
theorem Both.step {CS : Addr} {O O1 O2 : List Cell} {n h k st a b : Nat} {ps ps2 : List Nat} {s s2 : StoreM} (B : Both CS O n h k st a b ps s) (hl : O1.length = O.length) (h1 : StoreAt CS O1 n h k s2) (f1 : Frm O O1 [h, k]) (h2 : StAt O2 st a b ps2 s2.held s2.kept) (f2 : Frm O1 O2 (a :: b :: ps)) (hp : ∀ j ∈ ps2, j ∈ ps ∨ O1.length ≤ j) (ok : ∀ r ∈ s2.kept, ∀ d ∈ r, okE 5 d) : Both CS O2 n h k st a b ps2 s2 := by
  have ln := lt_of h1.ins
  have lh := lt_of h1.held
  have lk := lt_of h1.kept
  have no : ∀ j, j = n ∨ j = h ∨ j = k → j ∉ a :: b :: ps := fun j hj hm => by
    have := B.ap j (List.mem_cons_of_mem _ hm)
    rcases hj with rfl | rfl | rfl
    · exact this.1 rfl
    · exact this.2.1 rfl
    · exact this.2.2 rfl
  refine ⟨h1.frm f2 ⟨no n (.inl rfl), no h (.inr (.inl rfl)), no k (.inr (.inr rfl))⟩, h2, fun j hj => ?_, ok⟩
  have old : j ∈ st :: a :: b :: ps ∨ O1.length ≤ j := by
    simp only [List.mem_cons] at hj ⊢
    rcases hj with rfl | rfl | rfl | hj
    · exact .inl (.inl rfl)
    · exact .inl (.inr (.inl rfl))
    · exact .inl (.inr (.inr (.inl rfl)))
    · exact (hp j hj).imp (fun z => .inr (.inr (.inr z))) id
  rcases old with z | z
  · exact B.ap j z
  · exact ⟨by omega, by omega, by omega⟩
theorem Both.mid {CS : Addr} {O O1 : List Cell} {n h k st a b : Nat} {ps : List Nat} {s : StoreM} (B : Both CS O n h k st a b ps s) (f1 : Frm O O1 [h, k]) : StAt O1 st a b ps s.held s.kept :=
  B.ca.frm f1 fun j hj hm => by
    have := B.ap j hj
    simp only [List.mem_cons, List.not_mem_nil, or_false] at hm
    rcases hm with rfl | rfl
    · exact this.2.1 rfl
    · exact this.2.2 rfl
theorem sho {w : Wd} {v : D} (h : VOk w v) : ∃ pv, ShV w v pv := by
  cases w
  case shorten =>
    obtain ⟨_, p, hp, hps, _⟩ := h
    exact ⟨p, fun _ => ⟨hp, hps⟩⟩
  all_goals exact ⟨.none, fun z => nomatch z⟩
def foot (n h k st a b : Nat) (ps : List Nat) : List Nat := n :: h :: k :: st :: a :: b :: ps
theorem Both.frm {CS : Addr} {O O' : List Cell} {n h k st a b : Nat} {ps : List Nat} {s : StoreM} {js : List Nat} (B : Both CS O n h k st a b ps s) (f : Frm O O' js) (hj : ∀ j ∈ foot n h k st a b ps, j ∉ js) : Both CS O' n h k st a b ps s :=
  ⟨B.sa.frm f ⟨hj _ (by simp [foot]), hj _ (by simp [foot]), hj _ (by simp [foot])⟩, B.ca.frm f fun j h => hj j (by simp only [List.mem_cons] at h; unfold foot; simp only [List.mem_cons]; rcases h with h | h | h | h <;> simp [h]), B.ap, B.ok⟩
theorem Both.lt {CS : Addr} {O : List Cell} {n h k st a b : Nat} {ps : List Nat} {s : StoreM} (B : Both CS O n h k st a b ps s) : ∀ j ∈ foot n h k st a b ps, j < O.length := fun j hj => by
  unfold foot at hj
  simp only [List.mem_cons] at hj
  rcases hj with rfl | rfl | rfl | rfl | rfl | rfl | hj
  · exact lt_of B.sa.ins
  · exact lt_of B.sa.held
  · exact lt_of B.sa.kept
  · exact lt_of B.ca.top
  · exact lt_of B.ca.held
  · exact lt_of B.ca.rows
  · obtain ⟨i, hi, rfl⟩ := List.getElem_of_mem hj
    exact lt_of (B.ca.row i _ (List.getElem?_eq_getElem hi))
/-- a step of the one leaves the other -/
theorem Both.other {CS : Addr} {O O1 O2 : List Cell} {n h k st a b n' h' k' st' a' b' : Nat} {ps ps2 ps' : List Nat} {s' : StoreM} (B' : Both CS O n' h' k' st' a' b' ps' s') (dj : ∀ j ∈ foot n h k st a b ps, j ∉ foot n' h' k' st' a' b' ps') (hl : O1.length = O.length) (f1 : Frm O O1 [h, k]) (f2 : Frm O1 O2 (a :: b :: ps)) (hp : ∀ j ∈ ps2, j ∈ ps ∨ O1.length ≤ j) :
    Both CS O2 n' h' k' st' a' b' ps' s' ∧ ∀ j ∈ foot n h k st a b ps2, j ∉ foot n' h' k' st' a' b' ps' := by
  have B1 := B'.frm f1 fun j hj hm => by
    simp only [List.mem_cons, List.not_mem_nil, or_false] at hm
    rcases hm with rfl | rfl
    · exact dj _ (by simp [foot]) hj
    · exact dj _ (by simp [foot]) hj
  refine ⟨B1.frm f2 fun j hj hm => ?_, fun j hj hm => ?_⟩
  · simp only [List.mem_cons] at hm
    rcases hm with rfl | rfl | hm
    · exact dj _ (by simp [foot]) hj
    · exact dj _ (by simp [foot]) hj
    · exact dj j (by simp [foot, hm]) hj
  · have old : j ∈ foot n h k st a b ps ∨ O1.length ≤ j := by
      unfold foot at hj ⊢
      simp only [List.mem_cons] at hj ⊢
      rcases hj with rfl | rfl | rfl | rfl | rfl | rfl | hj
      · simp
      · simp
      · simp
      · simp
      · simp
      · simp
      · rcases hp j hj with z | z
        · simp [z]
        · exact .inr z
    rcases old with z | z
    · exact dj j z hm
    · have := B'.lt j hm
      omega
theorem both_new {CS : Addr} {O1 : List Cell} {n h k m z : Nat} {ps : List Nat} (hs : StoreAt CS O1 n h k ⟨m, z, List.replicate m 0, List.replicate m []⟩) (hps : (List.range m).map (fun i => O1.length + 1 + i) = ps) :
    Both CS ((((O1 ++ [Cell.lst (dN (List.replicate m 0))]) ++ List.replicate m (Cell.lst [])) ++ [Cell.lst (ps.map .ptr)]) ++ [Cell.lst [.ptr O1.length, .ptr (O1.length + 1 + m)]]) n h k (O1.length + 2 + m) O1.length (O1.length + 1 + m) ps ⟨m, z, List.replicate m 0, List.replicate m []⟩ ∧
    Frm O1 ((((O1 ++ [Cell.lst (dN (List.replicate m 0))]) ++ List.replicate m (Cell.lst [])) ++ [Cell.lst (ps.map .ptr)]) ++ [Cell.lst [.ptr O1.length, .ptr (O1.length + 1 + m)]]) [] ∧
    ∀ j ∈ (O1.length + 2 + m) :: O1.length :: (O1.length + 1 + m) :: ps, O1.length ≤ j := by
  have hst := stAt_new (O := O1) (m := m) (a := O1.length) (ps := ps) rfl hps.symm
  have fr : Frm O1 ((((O1 ++ [Cell.lst (dN (List.replicate m 0))]) ++ List.replicate m (Cell.lst [])) ++ [Cell.lst (ps.map .ptr)]) ++ [Cell.lst [.ptr O1.length, .ptr (O1.length + 1 + m)]]) [] := Frm.app.trans (Frm.app.trans (Frm.app.trans Frm.app))
  have hpm : ∀ j ∈ ps, O1.length ≤ j := fun j hj => by
    rw [← hps] at hj
    obtain ⟨q, _, rfl⟩ := List.mem_map.mp hj
    omega
  have big : ∀ j ∈ (O1.length + 2 + m) :: O1.length :: (O1.length + 1 + m) :: ps, O1.length ≤ j := fun j hj => by
    simp only [List.mem_cons] at hj
    rcases hj with rfl | rfl | rfl | hj
    · omega
    · omega
    · omega
    · exact hpm j hj
  have ln := lt_of hs.ins
  have lh := lt_of hs.held
  have lk := lt_of hs.kept
  refine ⟨⟨hs.frm fr ⟨by simp, by simp, by simp⟩, hst, fun j hj => ?_, fun r hr => ?_⟩, fr, big⟩
  · have := big j hj
    exact ⟨by omega, by omega, by omega⟩
  · rw [List.eq_of_mem_replicate hr]
    intro d hd; cases hd
def dSh (p : Nat × Nat) : D := .tup [.int (p.1 : Nat), .int (p.2 : Nat)]
def frs (p : Nat × Nat) : StoreM := ⟨p.1, p.2, List.replicate p.1 0, List.replicate p.1 []⟩
/-- the two stores made so far -/
def StI (CS : Addr) (O : List Cell) (s1 s2 : Nat × Nat) : Nat → List Cell → List D → Prop := fun i O' acc =>
  (i = 0 ∧ O' = O ∧ acc = []) ∨ (i = 1 ∧ ∃ n1 h1 k1, acc = [.ptr n1] ∧ StoreAt CS O' n1 h1 k1 (frs s1)) ∨
  (i = 2 ∧ ∃ n1 h1 k1 n2 h2 k2, acc = [.ptr n1, .ptr n2] ∧ StoreAt CS O' n1 h1 k1 (frs s1) ∧ StoreAt CS O' n2 h2 k2 (frs s2) ∧ ∀ j ∈ [n1, h1, k1], j ∉ [n2, h2, k2])
theorem StI.step {CS : Addr} {O : List Cell} {s1 s2 : Nat × Nat} {i : Nat} {O' O'' : List Cell} {acc : List D} {n h k : Nat} {p : Nat × Nat} (I : StI CS O s1 s2 i O' acc) (hp : [s1, s2][i]? = some p) (hs : StoreAt CS O'' n h k (frs p)) (hf : Frm O' O'' []) (hb : ∀ j ∈ [n, h, k], O'.length ≤ j) : StI CS O s1 s2 (i + 1) O'' (acc ++ [.ptr n]) := by
  rcases I with ⟨rfl, rfl, rfl⟩ | ⟨rfl, n1, h1, k1, rfl, a1⟩ | ⟨rfl, _⟩
  · cases hp
    exact .inr (.inl ⟨rfl, n, h, k, rfl, hs⟩)
  · cases hp
    refine .inr (.inr ⟨rfl, n1, h1, k1, n, h, k, rfl, a1.frm hf ⟨by simp, by simp, by simp⟩, hs, fun j hj hm => ?_⟩)
    have := hb j hm
    have l1 := lt_of a1.ins
    have l2 := lt_of a1.held
    have l3 := lt_of a1.kept
    simp only [List.mem_cons, List.not_mem_nil, or_false] at hj
    rcases hj with rfl | rfl | rfl <;> omega
  · simp at hp
def CtI (CS : Addr) (O : List Cell) (s1 s2 : Nat × Nat) (n1 h1 k1 n2 h2 k2 : Nat) : Nat → List Cell → List D → Prop := fun i O' acc =>
  (i = 0 ∧ acc = [] ∧ StoreAt CS O' n1 h1 k1 (frs s1) ∧ StoreAt CS O' n2 h2 k2 (frs s2)) ∨
  (i = 1 ∧ ∃ st a b ps, acc = [.ptr st] ∧ Both CS O' n1 h1 k1 st a b ps (frs s1) ∧ StoreAt CS O' n2 h2 k2 (frs s2) ∧ ∀ j ∈ foot n1 h1 k1 st a b ps, j ∉ [n2, h2, k2]) ∨
  (i = 2 ∧ ∃ st a b ps st' a' b' ps', acc = [.ptr st, .ptr st'] ∧ Both CS O' n1 h1 k1 st a b ps (frs s1) ∧ Both CS O' n2 h2 k2 st' a' b' ps' (frs s2) ∧ ∀ j ∈ foot n1 h1 k1 st a b ps, j ∉ foot n2 h2 k2 st' a' b' ps')
/-- the store of a turn -/
theorem CtI.at {CS : Addr} {O : List Cell} {s1 s2 : Nat × Nat} {n1 h1 k1 n2 h2 k2 i : Nat} {O' : List Cell} {acc : List D} {p : Nat × Nat} (I : CtI CS O s1 s2 n1 h1 k1 n2 h2 k2 i O' acc) (hp : [s1, s2][i]? = some p) : ∃ n h k, StoreAt CS O' n h k (frs p) ∧ ((i = 0 ∧ n = n1 ∧ h = h1 ∧ k = k1) ∨ (i = 1 ∧ n = n2 ∧ h = h2 ∧ k = k2)) := by
  rcases I with ⟨rfl, _, a, b⟩ | ⟨rfl, _, _, _, _, _, _, b, _⟩ | ⟨rfl, _⟩
  · cases hp; exact ⟨n1, h1, k1, a, .inl ⟨rfl, rfl, rfl, rfl⟩⟩
  · cases hp; exact ⟨n2, h2, k2, b, .inr ⟨rfl, rfl, rfl, rfl⟩⟩
  · simp at hp
theorem CtI.step {CS : Addr} {O : List Cell} {s1 s2 : Nat × Nat} {n1 h1 k1 n2 h2 k2 i : Nat} {O' O'' : List Cell} {acc : List D} {p : Nat × Nat} {n h k st a b : Nat} {ps : List Nat} (hd : ∀ j ∈ [n1, h1, k1], j ∉ [n2, h2, k2]) (I : CtI CS O s1 s2 n1 h1 k1 n2 h2 k2 i O' acc) (hp : [s1, s2][i]? = some p)
    (hn : (i = 0 ∧ n = n1 ∧ h = h1 ∧ k = k1) ∨ (i = 1 ∧ n = n2 ∧ h = h2 ∧ k = k2)) (B : Both CS O'' n h k st a b ps (frs p)) (hf : Frm O' O'' []) (hb : ∀ j ∈ st :: a :: b :: ps, O'.length ≤ j) : CtI CS O s1 s2 n1 h1 k1 n2 h2 k2 (i + 1) O'' (acc ++ [.ptr st]) := by
  rcases I with ⟨rfl, rfl, a1, a2⟩ | ⟨rfl, st1, a1, b1, ps1, rfl, B1, a2, d2⟩ | ⟨rfl, _⟩
  · cases hp
    rcases hn with ⟨_, rfl, rfl, rfl⟩ | ⟨z, _⟩
    · refine .inr (.inl ⟨rfl, st, a, b, ps, rfl, B, a2.frm hf ⟨by simp, by simp, by simp⟩, fun j hj hm => ?_⟩)
      have l1 := lt_of a2.ins
      have l2 := lt_of a2.held
      have l3 := lt_of a2.kept
      have old : j ∈ [n, h, k] ∨ O'.length ≤ j := by
        unfold foot at hj
        simp only [List.mem_cons] at hj
        rcases hj with rfl | rfl | rfl | hj
        · simp
        · simp
        · simp
        · exact .inr (hb j (by simp only [List.mem_cons]; exact hj))
      rcases old with z | z
      · exact hd j z hm
      · simp only [List.mem_cons, List.not_mem_nil, or_false] at hm
        rcases hm with rfl | rfl | rfl <;> omega
    · cases z
  · cases hp
    rcases hn with ⟨z, _⟩ | ⟨_, rfl, rfl, rfl⟩
    · cases z
    · refine .inr (.inr ⟨rfl, st1, a1, b1, ps1, st, a, b, ps, rfl, B1.frm hf (fun j _ h => nomatch h), B, fun j hj hm => ?_⟩)
      have lj := B1.lt j hj
      unfold foot at hm
      simp only [List.mem_cons] at hm
      rcases hm with rfl | rfl | rfl | hm
      · exact d2 _ hj (by simp)
      · exact d2 _ hj (by simp)
      · exact d2 _ hj (by simp)
      · have := hb j (by simp only [List.mem_cons]; exact hm)
        omega
  · simp at hp
structure Six where
  n : Nat
  h : Nat
  k : Nat
  st : Nat
  a : Nat
  b : Nat
abbrev BF (CS : Addr) (O : List Cell) (F : Six) (ps : List Nat) (s : StoreM) : Prop := Both CS O F.n F.h F.k F.st F.a F.b ps s
abbrev ff (F : Six) (ps : List Nat) : List Nat := foot F.n F.h F.k F.st F.a F.b ps
structure Two (CS : Addr) (F1 F2 : Six) (z1 z2 : Nat × Nat) (q : List Cell × (StoreM × List Nat) × (StoreM × List Nat)) : Prop where
  b1 : BF CS q.1 F1 q.2.1.2 q.2.1.1
  m1 : q.2.1.1.many = z1.1 ∧ q.2.1.1.size = z1.2
  b2 : BF CS q.1 F2 q.2.2.2 q.2.2.1
  m2 : q.2.2.1.many = z2.1 ∧ q.2.2.1.size = z2.2
  dj : ∀ j ∈ ff F1 q.2.1.2, j ∉ ff F2 q.2.2.2
/-- the store that is called, and the other -/
theorem Two.pick {CS : Addr} {F1 F2 : Six} {z1 z2 : Nat × Nat} {q : List Cell × (StoreM × List Nat) × (StoreM × List Nat)} (t : Two CS F1 F2 z1 z2 q) {i : Nat} (hi : i < 2) :
    ∃ (F G : Six) (z : Nat × Nat) (s s' : StoreM) (ps ps' : List Nat), BF CS q.1 F ps s ∧ s.many = z.1 ∧ s.size = z.2 ∧ BF CS q.1 G ps' s' ∧ (∀ j ∈ ff F ps, j ∉ ff G ps') ∧ [F1.n, F2.n][i]? = some F.n ∧ [F1.st, F2.st][i]? = some F.st ∧ [z1, z2][i]? = some z ∧
      ∀ O' s2 ps2, BF CS O' F ps2 s2 → s2.many = z.1 → s2.size = z.2 → BF CS O' G ps' s' → (∀ j ∈ ff F ps2, j ∉ ff G ps') → ∃ q', q'.1 = O' ∧ Two CS F1 F2 z1 z2 q' := by
  match i, hi with
  | 0, _ => exact ⟨F1, F2, z1, _, _, _, _, t.b1, t.m1.1, t.m1.2, t.b2, t.dj, rfl, rfl, rfl, fun O' s2 ps2 B h1 h2 B' d => ⟨(O', (s2, ps2), (q.2.2.1, q.2.2.2)), rfl, ⟨B, ⟨h1, h2⟩, B', t.m2, d⟩⟩⟩
  | 1, _ => exact ⟨F2, F1, z2, _, _, _, _, t.b2, t.m2.1, t.m2.2, t.b1, fun j h1 h2 => t.dj j h2 h1, rfl, rfl, rfl, fun O' s2 ps2 B h1 h2 B' d => ⟨(O', (q.2.1.1, q.2.1.2), (s2, ps2)), rfl, ⟨B', t.m1, B, ⟨h1, h2⟩, fun j h1 h2 => d j h2 h1⟩⟩⟩
end AU

namespace LW
open PySem L2 AL
def topS (i : Nat) : Stmt := PySem.Challenge.pw_servedalone_k12_whole_stores.main.body.getD i (.Pass ⟨0, 0, 0, 0⟩)
abbrev s_is_integer : Stmt := topS 1
abbrev n_is_integer : List Str := ["value"]
/-! is_integer: 0 value -/
theorem sc_is_integer : FnScope n_is_integer ["value"] (defScope s_is_integer) := ⟨rfl, rfl, rfl, by decide +kernel, rfl, by decide +kernel, by decide +kernel⟩
abbrev s_is_from : Stmt := topS 2
abbrev n_is_from : List Str := ["value", "low", "high"]
/-! is_from: 0 value, 1 low, 2 high -/
theorem sc_is_from : FnScope n_is_from ["value", "low", "high"] (defScope s_is_from) := ⟨rfl, rfl, rfl, by decide +kernel, rfl, by decide +kernel, by decide +kernel⟩
abbrev s_vectors : Stmt := topS 14
abbrev n_vectors : List Str := ["rows", "row"]
/-! vectors: 0 rows, 1 row -/
theorem sc_vectors : FnScope n_vectors ["rows"] (defScope s_vectors) := ⟨rfl, rfl, rfl, by decide +kernel, rfl, by decide +kernel, by decide +kernel⟩
abbrev s_fixed_row : Stmt := topS 15
abbrev n_fixed_row : List Str := ["row", "pairs", "weights", "pair"]
/-! fixed_row: 0 row, 1 pairs, 2 weights, 3 pair -/
theorem sc_fixed_row : FnScope n_fixed_row ["row"] (defScope s_fixed_row) := ⟨rfl, rfl, rfl, by decide +kernel, rfl, by decide +kernel, by decide +kernel⟩
abbrev s__law_numbers : Stmt := topS 19
abbrev n__law_numbers : List Str := ["cell", "at", "many", "great", "rest", "numbers", "k", "mixed"]
/-! _law_numbers: 0 cell, 1 at, 2 many, 3 great, 4 rest, 5 numbers, 6 k, 7 mixed -/
theorem sc__law_numbers : FnScope n__law_numbers ["cell", "at", "many"] (defScope s__law_numbers) := ⟨rfl, rfl, rfl, by decide +kernel, rfl, by decide +kernel, by decide +kernel⟩
abbrev s__law_same : Stmt := topS 20
abbrev n__law_same : List Str := ["actual", "expected", "k"]
/-! _law_same: 0 actual, 1 expected, 2 k -/
theorem sc__law_same : FnScope n__law_same ["actual", "expected"] (defScope s__law_same) := ⟨rfl, rfl, rfl, by decide +kernel, rfl, by decide +kernel, by decide +kernel⟩
abbrev s_Store___init__ : Stmt := inClass (topS 17) 0
abbrev n_Store___init__ : List Str := ["self", "many", "size"]
/-! Store.__init__: 0 self, 1 many, 2 size -/
theorem sc_Store___init__ : FnScope n_Store___init__ ["self", "many", "size"] (defScope s_Store___init__) := ⟨rfl, rfl, rfl, by decide +kernel, rfl, by decide +kernel, by decide +kernel⟩
abbrev s_Store_free : Stmt := inClass (topS 17) 1
abbrev n_Store_free : List Str := ["self", "held"]
/-! Store.free: 0 self, 1 held -/
theorem sc_Store_free : FnScope n_Store_free ["self"] (defScope s_Store_free) := ⟨rfl, rfl, rfl, by decide +kernel, rfl, by decide +kernel, by decide +kernel⟩
abbrev s_Store__check_block : Stmt := inClass (topS 17) 9
abbrev n_Store__check_block : List Str := ["self", "block"]
/-! Store._check_block: 0 self, 1 block -/
theorem sc_Store__check_block : FnScope n_Store__check_block ["self", "block"] (defScope s_Store__check_block) := ⟨rfl, rfl, rfl, by decide +kernel, rfl, by decide +kernel, by decide +kernel⟩
abbrev s_Store__check_held : Stmt := inClass (topS 17) 10
abbrev n_Store__check_held : List Str := ["self", "block"]
/-! Store._check_held: 0 self, 1 block -/
theorem sc_Store__check_held : FnScope n_Store__check_held ["self", "block"] (defScope s_Store__check_held) := ⟨rfl, rfl, rfl, by decide +kernel, rfl, by decide +kernel, by decide +kernel⟩
abbrev s_Store__check_alone : Stmt := inClass (topS 17) 11
abbrev n_Store__check_alone : List Str := ["self", "block"]
/-! Store._check_alone: 0 self, 1 block -/
theorem sc_Store__check_alone : FnScope n_Store__check_alone ["self", "block"] (defScope s_Store__check_alone) := ⟨rfl, rfl, rfl, by decide +kernel, rfl, by decide +kernel, by decide +kernel⟩
abbrev s_Store_take : Stmt := inClass (topS 17) 2
abbrev n_Store_take : List Str := ["self", "block"]
/-! Store.take: 0 self, 1 block -/
theorem sc_Store_take : FnScope n_Store_take ["self"] (defScope s_Store_take) := ⟨rfl, rfl, rfl, by decide +kernel, rfl, by decide +kernel, by decide +kernel⟩
abbrev s_Store_hold : Stmt := inClass (topS 17) 3
abbrev n_Store_hold : List Str := ["self", "block"]
/-! Store.hold: 0 self, 1 block -/
theorem sc_Store_hold : FnScope n_Store_hold ["self", "block"] (defScope s_Store_hold) := ⟨rfl, rfl, rfl, by decide +kernel, rfl, by decide +kernel, by decide +kernel⟩
abbrev s_Store_release : Stmt := inClass (topS 17) 4
abbrev n_Store_release : List Str := ["self", "block"]
/-! Store.release: 0 self, 1 block -/
theorem sc_Store_release : FnScope n_Store_release ["self", "block"] (defScope s_Store_release) := ⟨rfl, rfl, rfl, by decide +kernel, rfl, by decide +kernel, by decide +kernel⟩
abbrev s_Store_put_row : Stmt := inClass (topS 17) 5
abbrev n_Store_put_row : List Str := ["self", "block", "row"]
/-! Store.put_row: 0 self, 1 block, 2 row -/
theorem sc_Store_put_row : FnScope n_Store_put_row ["self", "block", "row"] (defScope s_Store_put_row) := ⟨rfl, rfl, rfl, by decide +kernel, rfl, by decide +kernel, by decide +kernel⟩
abbrev s_Store_shorten : Stmt := inClass (topS 17) 6
abbrev n_Store_shorten : List Str := ["self", "block", "many"]
/-! Store.shorten: 0 self, 1 block, 2 many -/
theorem sc_Store_shorten : FnScope n_Store_shorten ["self", "block", "many"] (defScope s_Store_shorten) := ⟨rfl, rfl, rfl, by decide +kernel, rfl, by decide +kernel, by decide +kernel⟩
abbrev s_Store_rows : Stmt := inClass (topS 17) 7
abbrev n_Store_rows : List Str := ["self", "block"]
/-! Store.rows: 0 self, 1 block -/
theorem sc_Store_rows : FnScope n_Store_rows ["self", "block"] (defScope s_Store_rows) := ⟨rfl, rfl, rfl, by decide +kernel, rfl, by decide +kernel, by decide +kernel⟩
abbrev s_Store_holders : Stmt := inClass (topS 17) 8
abbrev n_Store_holders : List Str := ["self", "block"]
/-! Store.holders: 0 self, 1 block -/
theorem sc_Store_holders : FnScope n_Store_holders ["self", "block"] (defScope s_Store_holders) := ⟨rfl, rfl, rfl, by decide +kernel, rfl, by decide +kernel, by decide +kernel⟩
abbrev s__law_kinds : Stmt := topS 32
abbrev n__law_kinds : List Str := ["e", "kinds"]
/-! _law_kinds: 0 e, 1 kinds -/
theorem sc__law_kinds : FnScope n__law_kinds ["e"] (defScope s__law_kinds) := ⟨rfl, rfl, rfl, by decide +kernel, rfl, by decide +kernel, by decide +kernel⟩
abbrev s__law_odd : Stmt := topS 31
abbrev n__law_odd : List Str := ["numbers", "k", "most", "odds"]
/-! _law_odd: 0 numbers, 1 k, 2 most, 3 odds -/
theorem sc__law_odd : FnScope n__law_odd ["numbers", "k", "most"] (defScope s__law_odd) := ⟨rfl, rfl, rfl, by decide +kernel, rfl, by decide +kernel, by decide +kernel⟩
abbrev s__law_vector : Stmt := topS 21
abbrev n__law_vector : List Str := ["numbers", "at", "width", "prime", "vector", "j"]
/-! _law_vector: 0 numbers, 1 at, 2 width, 3 prime, 4 vector, 5 j -/
theorem sc__law_vector : FnScope n__law_vector ["numbers", "at", "width", "prime"] (defScope s__law_vector) := ⟨rfl, rfl, rfl, by decide +kernel, rfl, by decide +kernel, by decide +kernel⟩
abbrev s__law_net : Stmt := topS 22
abbrev n__law_net : List Str := ["numbers", "letters", "width", "many", "prime", "rows", "j", "layers", "at", "matrices", "first"]
/-! _law_net: 0 numbers, 1 letters, 2 width, 3 many, 4 prime, 5 rows, 6 j, 7 layers, 8 at, 9 matrices, 10 first -/
theorem sc__law_net : FnScope n__law_net ["numbers", "letters", "width", "many", "prime"] (defScope s__law_net) := ⟨rfl, rfl, rfl, by decide +kernel, rfl, by decide +kernel, by decide +kernel⟩
abbrev s__law_dot : Stmt := topS 23
abbrev n__law_dot : List Str := ["one", "other", "prime", "total", "k"]
/-! _law_dot: 0 one, 1 other, 2 prime, 3 total, 4 k -/
theorem sc__law_dot : FnScope n__law_dot ["one", "other", "prime"] (defScope s__law_dot) := ⟨rfl, rfl, rfl, by decide +kernel, rfl, by decide +kernel, by decide +kernel⟩
abbrev s__law_times : Stmt := topS 24
abbrev n__law_times : List Str := ["matrix", "vector", "prime", "row"]
/-! _law_times: 0 matrix, 1 vector, 2 prime, 3 row -/
theorem sc__law_times : FnScope n__law_times ["matrix", "vector", "prime"] (defScope s__law_times) := ⟨rfl, rfl, rfl, by decide +kernel, rfl, by decide +kernel, by decide +kernel⟩
abbrev s__law_row : Stmt := topS 25
abbrev n__law_row : List Str := ["net", "rows", "letter", "prime", "x", "pairs", "at", "layer", "asked", "pair", "other", "near", "squares", "more", "k", "row", "one"]
/-! _law_row: 0 net, 1 rows, 2 letter, 3 prime, 4 x, 5 pairs, 6 at, 7 layer, 8 asked, 9 pair, 10 other, 11 near, 12 squares, 13 more, 14 k, 15 row, 16 one -/
theorem sc__law_row : FnScope n__law_row ["net", "rows", "letter"] (defScope s__law_row) := ⟨rfl, rfl, rfl, by decide +kernel, rfl, by decide +kernel, by decide +kernel⟩
abbrev s__law_some_rows : Stmt := topS 26
abbrev n__law_some_rows : List Str := ["numbers", "net", "rows", "k"]
/-! _law_some_rows: 0 numbers, 1 net, 2 rows, 3 k -/
theorem sc__law_some_rows : FnScope n__law_some_rows ["numbers"] (defScope s__law_some_rows) := ⟨rfl, rfl, rfl, by decide +kernel, rfl, by decide +kernel, by decide +kernel⟩
abbrev s__law_is_integer : Stmt := topS 30
abbrev n__law_is_integer : List Str := ["value", "low", "high"]
/-! _law_is_integer: 0 value, 1 low, 2 high -/
theorem sc__law_is_integer : FnScope n__law_is_integer ["value", "low", "high"] (defScope s__law_is_integer) := ⟨rfl, rfl, rfl, by decide +kernel, rfl, by decide +kernel, by decide +kernel⟩
abbrev s__law_lowest : Stmt := topS 27
abbrev n__law_lowest : List Str := ["state", "block"]
/-! _law_lowest: 0 state, 1 block -/
theorem sc__law_lowest : FnScope n__law_lowest ["state"] (defScope s__law_lowest) := ⟨rfl, rfl, rfl, by decide +kernel, rfl, by decide +kernel, by decide +kernel⟩
abbrev s__law_take : Stmt := topS 28
abbrev n__law_take : List Str := ["state", "block"]
/-! _law_take: 0 state, 1 block -/
theorem sc__law_take : FnScope n__law_take ["state"] (defScope s__law_take) := ⟨rfl, rfl, rfl, by decide +kernel, rfl, by decide +kernel, by decide +kernel⟩
abbrev s__law_release : Stmt := topS 29
abbrev n__law_release : List Str := ["state", "block"]
/-! _law_release: 0 state, 1 block -/
theorem sc__law_release : FnScope n__law_release ["state", "block"] (defScope s__law_release) := ⟨rfl, rfl, rfl, by decide +kernel, rfl, by decide +kernel, by decide +kernel⟩
abbrev s__law_call : Stmt := topS 33
abbrev n__law_call : List Str := ["store", "word", "block", "value"]
/-! _law_call: 0 store, 1 word, 2 block, 3 value -/
theorem sc__law_call : FnScope n__law_call ["store", "word", "block", "value"] (defScope s__law_call) := ⟨rfl, rfl, rfl, by decide +kernel, rfl, by decide +kernel, by decide +kernel⟩
abbrev s__law_ask : Stmt := topS 34
abbrev n__law_ask : List Str := ["store", "word", "block", "value", "e"]
/-! _law_ask: 0 store, 1 word, 2 block, 3 value, 4 e -/
theorem sc__law_ask : FnScope n__law_ask ["store", "word", "block", "value"] (defScope s__law_ask) := ⟨rfl, rfl, rfl, by decide +kernel, rfl, by decide +kernel, by decide +kernel⟩
abbrev s__law_due : Stmt := topS 35
abbrev n__law_due : List Str := ["state", "size", "word", "block", "value"]
/-! _law_due: 0 state, 1 size, 2 word, 3 block, 4 value -/
theorem sc__law_due : FnScope n__law_due ["state", "size", "word", "block", "value"] (defScope s__law_due) := ⟨rfl, rfl, rfl, by decide +kernel, rfl, by decide +kernel, by decide +kernel⟩
abbrev s__law_free : Stmt := topS 37
abbrev n__law_free : List Str := ["state", "one"]
/-! _law_free: 0 state, 1 one -/
theorem sc__law_free : FnScope n__law_free ["state"] (defScope s__law_free) := ⟨rfl, rfl, rfl, by decide +kernel, rfl, by decide +kernel, by decide +kernel⟩
abbrev s__law_stands : Stmt := topS 36
abbrev n__law_stands : List Str := ["store", "state", "block", "one"]
/-! _law_stands: 0 store, 1 state, 2 block, 3 one -/
theorem sc__law_stands : FnScope n__law_stands ["store", "state"] (defScope s__law_stands) := ⟨rfl, rfl, rfl, by decide +kernel, rfl, by decide +kernel, by decide +kernel⟩
abbrev s_law : Stmt := topS 38
abbrev n_law : List Str := ["script", "head", "rows", "shapes", "k", "many", "stores", "states", "at", "numbers", "one", "words", "word", "block", "held", "value", "turn", "told", "shape"]
/-! law: 0 script, 1 head, 2 rows, 3 shapes, 4 k, 5 many, 6 stores, 7 states, 8 at, 9 numbers, 10 one, 11 words, 12 word, 13 block, 14 held, 15 value, 16 turn, 17 told, 18 shape -/
theorem sc_law : FnScope n_law ["script"] (defScope s_law) := ⟨rfl, rfl, rfl, by decide +kernel, rfl, by decide +kernel, by decide +kernel⟩
abbrev s_XInvalidNumber : Stmt := inClass (topS 5) 0
theorem ex_InvalidNumber : ∃ p1 p2 q1 q2 q3 q4, defArgs s_XInvalidNumber = PySem.EXnumber.arA p1 p2 ∧ defBody s_XInvalidNumber = PySem.EXnumber.boB q1 q2 q3 q4 ∧ defScope s_XInvalidNumber = PySem.EXnumber.scS := ⟨_, _, _, _, _, _, rfl, rfl, rfl⟩
abbrev s_XNoRoom : Stmt := inClass (topS 7) 0
theorem ex_NoRoom : ∃ p1 p2 q1 q2 q3 q4, defArgs s_XNoRoom = PySem.EXmany.arA p1 p2 ∧ defBody s_XNoRoom = PySem.EXmany.boB q1 q2 q3 q4 ∧ defScope s_XNoRoom = PySem.EXmany.scS := ⟨_, _, _, _, _, _, rfl, rfl, rfl⟩
abbrev s_XNotAlone : Stmt := inClass (topS 9) 0
theorem ex_NotAlone : ∃ p1 p2 q1 q2 q3 q4, defArgs s_XNotAlone = PySem.EXblock.arA p1 p2 ∧ defBody s_XNotAlone = PySem.EXblock.boB q1 q2 q3 q4 ∧ defScope s_XNotAlone = PySem.EXblock.scS := ⟨_, _, _, _, _, _, rfl, rfl, rfl⟩
abbrev s_XNotHeld : Stmt := inClass (topS 8) 0
theorem ex_NotHeld : ∃ p1 p2 q1 q2 q3 q4, defArgs s_XNotHeld = PySem.EXblock.arA p1 p2 ∧ defBody s_XNotHeld = PySem.EXblock.boB q1 q2 q3 q4 ∧ defScope s_XNotHeld = PySem.EXblock.scS := ⟨_, _, _, _, _, _, rfl, rfl, rfl⟩
def C_law : Contract := fun ds O R _ => ∃ ns : List Int, ds = [.scr (ns.map .int)] ∧ ns.length ≤ 63 ∧ ∀ O', R O' (.bl true)
theorem start_law (ns : List Int) (h : ns.length ≤ 63) (X : XO) : C_law [.scr (ns.map .int)] [] (fun _ d => d = .bl true) X := ⟨ns, rfl, h, fun _ => rfl⟩
theorem len_law : ∀ ds O R X, C_law ds O R X → ds.length = 1 := fun _ _ _ _ h => by obtain ⟨_, rfl, _⟩ := h; rfl

structure TD_is_integer (K : PySem.W.Frag) (mg : Str → Option Value) where
  a : Addr
  fd : FuncData
  F : Fun K "is_integer" "is_integer" s_is_integer a fd
  b : Binds K fd ["value"] []
  g : mg "is_integer" = some (.ref a)
structure TD_is_from (K : PySem.W.Frag) (mg : Str → Option Value) where
  a : Addr
  fd : FuncData
  F : Fun K "is_from" "is_from" s_is_from a fd
  b : Binds K fd ["value", "low", "high"] []
  g : mg "is_from" = some (.ref a)
structure TD_vectors (K : PySem.W.Frag) (mg : Str → Option Value) where
  a : Addr
  fd : FuncData
  F : Fun K "vectors" "vectors" s_vectors a fd
  b : Binds K fd ["rows"] []
  g : mg "vectors" = some (.ref a)
structure TD_fixed_row (K : PySem.W.Frag) (mg : Str → Option Value) where
  a : Addr
  fd : FuncData
  F : Fun K "fixed_row" "fixed_row" s_fixed_row a fd
  b : Binds K fd ["row"] []
  g : mg "fixed_row" = some (.ref a)
structure TD__law_numbers (K : PySem.W.Frag) (mg : Str → Option Value) where
  a : Addr
  fd : FuncData
  F : Fun K "_law_numbers" "_law_numbers" s__law_numbers a fd
  b : Binds K fd ["cell", "at", "many"] []
  g : mg "_law_numbers" = some (.ref a)
structure TD__law_same (K : PySem.W.Frag) (mg : Str → Option Value) where
  a : Addr
  fd : FuncData
  F : Fun K "_law_same" "_law_same" s__law_same a fd
  b : Binds K fd ["actual", "expected"] []
  g : mg "_law_same" = some (.ref a)
structure TD_Store___init__ (K : PySem.W.Frag) (mg : Str → Option Value) where
  a : Addr
  fd : FuncData
  F : Fun K "__init__" "Store.__init__" s_Store___init__ a fd
  b : Binds K fd ["self", "many", "size"] []
structure TD_Store_free (K : PySem.W.Frag) (mg : Str → Option Value) where
  a : Addr
  fd : FuncData
  F : Fun K "free" "Store.free" s_Store_free a fd
  b : Binds K fd ["self"] []
structure TD_Store__check_block (K : PySem.W.Frag) (mg : Str → Option Value) where
  a : Addr
  fd : FuncData
  F : Fun K "_check_block" "Store._check_block" s_Store__check_block a fd
  b : Binds K fd ["self", "block"] []
structure TD_Store__check_held (K : PySem.W.Frag) (mg : Str → Option Value) where
  a : Addr
  fd : FuncData
  F : Fun K "_check_held" "Store._check_held" s_Store__check_held a fd
  b : Binds K fd ["self", "block"] []
structure TD_Store__check_alone (K : PySem.W.Frag) (mg : Str → Option Value) where
  a : Addr
  fd : FuncData
  F : Fun K "_check_alone" "Store._check_alone" s_Store__check_alone a fd
  b : Binds K fd ["self", "block"] []
structure TD_Store_take (K : PySem.W.Frag) (mg : Str → Option Value) where
  a : Addr
  fd : FuncData
  F : Fun K "take" "Store.take" s_Store_take a fd
  b : Binds K fd ["self"] []
structure TD_Store_hold (K : PySem.W.Frag) (mg : Str → Option Value) where
  a : Addr
  fd : FuncData
  F : Fun K "hold" "Store.hold" s_Store_hold a fd
  b : Binds K fd ["self", "block"] []
structure TD_Store_release (K : PySem.W.Frag) (mg : Str → Option Value) where
  a : Addr
  fd : FuncData
  F : Fun K "release" "Store.release" s_Store_release a fd
  b : Binds K fd ["self", "block"] []
structure TD_Store_put_row (K : PySem.W.Frag) (mg : Str → Option Value) where
  a : Addr
  fd : FuncData
  F : Fun K "put_row" "Store.put_row" s_Store_put_row a fd
  b : Binds K fd ["self", "block", "row"] []
structure TD_Store_shorten (K : PySem.W.Frag) (mg : Str → Option Value) where
  a : Addr
  fd : FuncData
  F : Fun K "shorten" "Store.shorten" s_Store_shorten a fd
  b : Binds K fd ["self", "block", "many"] []
structure TD_Store_rows (K : PySem.W.Frag) (mg : Str → Option Value) where
  a : Addr
  fd : FuncData
  F : Fun K "rows" "Store.rows" s_Store_rows a fd
  b : Binds K fd ["self", "block"] []
structure TD_Store_holders (K : PySem.W.Frag) (mg : Str → Option Value) where
  a : Addr
  fd : FuncData
  F : Fun K "holders" "Store.holders" s_Store_holders a fd
  b : Binds K fd ["self", "block"] []
structure TD__law_kinds (K : PySem.W.Frag) (mg : Str → Option Value) where
  a : Addr
  fd : FuncData
  F : Fun K "_law_kinds" "_law_kinds" s__law_kinds a fd
  b : Binds K fd ["e"] []
  g : mg "_law_kinds" = some (.ref a)
structure TD__law_odd (K : PySem.W.Frag) (mg : Str → Option Value) where
  a : Addr
  fd : FuncData
  F : Fun K "_law_odd" "_law_odd" s__law_odd a fd
  b : Binds K fd ["numbers", "k", "most"] []
  g : mg "_law_odd" = some (.ref a)
structure TD__law_vector (K : PySem.W.Frag) (mg : Str → Option Value) where
  a : Addr
  fd : FuncData
  F : Fun K "_law_vector" "_law_vector" s__law_vector a fd
  b : Binds K fd ["numbers", "at", "width", "prime"] []
  g : mg "_law_vector" = some (.ref a)
structure TD__law_net (K : PySem.W.Frag) (mg : Str → Option Value) where
  a : Addr
  fd : FuncData
  F : Fun K "_law_net" "_law_net" s__law_net a fd
  b : Binds K fd ["numbers", "letters", "width", "many", "prime"] []
  g : mg "_law_net" = some (.ref a)
structure TD__law_dot (K : PySem.W.Frag) (mg : Str → Option Value) where
  a : Addr
  fd : FuncData
  F : Fun K "_law_dot" "_law_dot" s__law_dot a fd
  b : Binds K fd ["one", "other", "prime"] []
  g : mg "_law_dot" = some (.ref a)
structure TD__law_times (K : PySem.W.Frag) (mg : Str → Option Value) where
  a : Addr
  fd : FuncData
  F : Fun K "_law_times" "_law_times" s__law_times a fd
  b : Binds K fd ["matrix", "vector", "prime"] []
  g : mg "_law_times" = some (.ref a)
structure TD__law_row (K : PySem.W.Frag) (mg : Str → Option Value) where
  a : Addr
  fd : FuncData
  F : Fun K "_law_row" "_law_row" s__law_row a fd
  b : Binds K fd ["net", "rows", "letter"] []
  g : mg "_law_row" = some (.ref a)
structure TD__law_some_rows (K : PySem.W.Frag) (mg : Str → Option Value) where
  a : Addr
  fd : FuncData
  F : Fun K "_law_some_rows" "_law_some_rows" s__law_some_rows a fd
  b : Binds K fd ["numbers"] []
  g : mg "_law_some_rows" = some (.ref a)
structure TD__law_is_integer (K : PySem.W.Frag) (mg : Str → Option Value) where
  a : Addr
  fd : FuncData
  F : Fun K "_law_is_integer" "_law_is_integer" s__law_is_integer a fd
  b : Binds K fd ["value", "low", "high"] []
  g : mg "_law_is_integer" = some (.ref a)
structure TD__law_lowest (K : PySem.W.Frag) (mg : Str → Option Value) where
  a : Addr
  fd : FuncData
  F : Fun K "_law_lowest" "_law_lowest" s__law_lowest a fd
  b : Binds K fd ["state"] []
  g : mg "_law_lowest" = some (.ref a)
structure TD__law_take (K : PySem.W.Frag) (mg : Str → Option Value) where
  a : Addr
  fd : FuncData
  F : Fun K "_law_take" "_law_take" s__law_take a fd
  b : Binds K fd ["state"] []
  g : mg "_law_take" = some (.ref a)
structure TD__law_release (K : PySem.W.Frag) (mg : Str → Option Value) where
  a : Addr
  fd : FuncData
  F : Fun K "_law_release" "_law_release" s__law_release a fd
  b : Binds K fd ["state", "block"] []
  g : mg "_law_release" = some (.ref a)
structure TD__law_call (K : PySem.W.Frag) (mg : Str → Option Value) where
  a : Addr
  fd : FuncData
  F : Fun K "_law_call" "_law_call" s__law_call a fd
  b : Binds K fd ["store", "word", "block", "value"] []
  g : mg "_law_call" = some (.ref a)
structure TD__law_ask (K : PySem.W.Frag) (mg : Str → Option Value) where
  a : Addr
  fd : FuncData
  F : Fun K "_law_ask" "_law_ask" s__law_ask a fd
  b : Binds K fd ["store", "word", "block", "value"] []
  g : mg "_law_ask" = some (.ref a)
structure TD__law_due (K : PySem.W.Frag) (mg : Str → Option Value) where
  a : Addr
  fd : FuncData
  F : Fun K "_law_due" "_law_due" s__law_due a fd
  b : Binds K fd ["state", "size", "word", "block", "value"] []
  g : mg "_law_due" = some (.ref a)
structure TD__law_free (K : PySem.W.Frag) (mg : Str → Option Value) where
  a : Addr
  fd : FuncData
  F : Fun K "_law_free" "_law_free" s__law_free a fd
  b : Binds K fd ["state"] []
  g : mg "_law_free" = some (.ref a)
structure TD__law_stands (K : PySem.W.Frag) (mg : Str → Option Value) where
  a : Addr
  fd : FuncData
  F : Fun K "_law_stands" "_law_stands" s__law_stands a fd
  b : Binds K fd ["store", "state"] []
  g : mg "_law_stands" = some (.ref a)
structure TD_law (K : PySem.W.Frag) (mg : Str → Option Value) where
  a : Addr
  fd : FuncData
  F : Fun K "law" "law" s_law a fd
  b : Binds K fd ["script"] []
  g : mg "law" = some (.ref a)
structure TC_Store (K : PySem.W.Frag) (mg : Str → Option Value) where
  aC : Addr
  cl : Cls K aC
  mgC : mg "Store" = some (.ref aC)
  nA__held : NoAttr K aC "_held"
  nA__kept : NoAttr K aC "_kept"
  nA_many : NoAttr K aC "many"
  nA_size : NoAttr K aC "size"
structure TE_InvalidLetter (K : PySem.W.Frag) (mg : Str → Option Value) where
  aC : Addr
  mgC : mg "InvalidLetter" = some (.ref aC)
structure TE_InvalidNumber (K : PySem.W.Frag) (mg : Str → Option Value) where
  aC : Addr
  mgC : mg "InvalidNumber" = some (.ref aC)
  fI : Addr
  tx : PySem.EXnumber.Txt K mg "InvalidNumber" "InvalidNumber.__init__" aC fI
  xc : ExC K aC
  xf : XfC K aC
  nf : PySem.W.findIn K (.ref aC) "number" = some none
structure TE_NoHouse (K : PySem.W.Frag) (mg : Str → Option Value) where
  aC : Addr
  mgC : mg "NoHouse" = some (.ref aC)
structure TE_NoRequest (K : PySem.W.Frag) (mg : Str → Option Value) where
  aC : Addr
  mgC : mg "NoRequest" = some (.ref aC)
structure TE_NoRoom (K : PySem.W.Frag) (mg : Str → Option Value) where
  aC : Addr
  mgC : mg "NoRoom" = some (.ref aC)
  fI : Addr
  tx : PySem.EXmany.Txt K mg "NoRoom" "NoRoom.__init__" aC fI
  xc : ExC K aC
  xf : XfC K aC
  nf : PySem.W.findIn K (.ref aC) "many" = some none
structure TE_NotAlone (K : PySem.W.Frag) (mg : Str → Option Value) where
  aC : Addr
  mgC : mg "NotAlone" = some (.ref aC)
  fI : Addr
  tx : PySem.EXblock.Txt K mg "NotAlone" "NotAlone.__init__" aC fI
  xc : ExC K aC
  xf : XfC K aC
  nf : PySem.W.findIn K (.ref aC) "block" = some none
structure TE_NotHeld (K : PySem.W.Frag) (mg : Str → Option Value) where
  aC : Addr
  mgC : mg "NotHeld" = some (.ref aC)
  fI : Addr
  tx : PySem.EXblock.Txt K mg "NotHeld" "NotHeld.__init__" aC fI
  xc : ExC K aC
  xf : XfC K aC
  nf : PySem.W.findIn K (.ref aC) "block" = some none
structure TE_ServeError (K : PySem.W.Frag) (mg : Str → Option Value) where
  aC : Addr
  mgC : mg "ServeError" = some (.ref aC)
structure TE_TooLarge (K : PySem.W.Frag) (mg : Str → Option Value) where
  aC : Addr
  mgC : mg "TooLarge" = some (.ref aC)
set_option maxHeartbeats 0 in
structure Tx (K : PySem.W.Frag) (mg : Str → Option Value) where
  d_is_integer : TD_is_integer K mg
  d_is_from : TD_is_from K mg
  d_vectors : TD_vectors K mg
  d_fixed_row : TD_fixed_row K mg
  d__law_numbers : TD__law_numbers K mg
  d__law_same : TD__law_same K mg
  d_Store___init__ : TD_Store___init__ K mg
  d_Store_free : TD_Store_free K mg
  d_Store__check_block : TD_Store__check_block K mg
  d_Store__check_held : TD_Store__check_held K mg
  d_Store__check_alone : TD_Store__check_alone K mg
  d_Store_take : TD_Store_take K mg
  d_Store_hold : TD_Store_hold K mg
  d_Store_release : TD_Store_release K mg
  d_Store_put_row : TD_Store_put_row K mg
  d_Store_shorten : TD_Store_shorten K mg
  d_Store_rows : TD_Store_rows K mg
  d_Store_holders : TD_Store_holders K mg
  d__law_kinds : TD__law_kinds K mg
  d__law_odd : TD__law_odd K mg
  d__law_vector : TD__law_vector K mg
  d__law_net : TD__law_net K mg
  d__law_dot : TD__law_dot K mg
  d__law_times : TD__law_times K mg
  d__law_row : TD__law_row K mg
  d__law_some_rows : TD__law_some_rows K mg
  d__law_is_integer : TD__law_is_integer K mg
  d__law_lowest : TD__law_lowest K mg
  d__law_take : TD__law_take K mg
  d__law_release : TD__law_release K mg
  d__law_call : TD__law_call K mg
  d__law_ask : TD__law_ask K mg
  d__law_due : TD__law_due K mg
  d__law_free : TD__law_free K mg
  d__law_stands : TD__law_stands K mg
  d_law : TD_law K mg
  m_ValueError : mg "ValueError" = none
  m_abs : mg "abs" = none
  m_bool : mg "bool" = none
  m_int : mg "int" = none
  m_isinstance : mg "isinstance" = none
  m_len : mg "len" = none
  m_min : mg "min" = none
  m_range : mg "range" = none
  m_repr : mg "repr" = none
  m_str : mg "str" = none
  m_tuple : mg "tuple" = none
  c_Store : TC_Store K mg
  mk_Store : Mk K c_Store.aC d_Store___init__.a
  e_InvalidLetter : TE_InvalidLetter K mg
  e_InvalidNumber : TE_InvalidNumber K mg
  e_NoHouse : TE_NoHouse K mg
  e_NoRequest : TE_NoRequest K mg
  e_NoRoom : TE_NoRoom K mg
  e_NotAlone : TE_NotAlone K mg
  e_NotHeld : TE_NotHeld K mg
  e_ServeError : TE_ServeError K mg
  e_TooLarge : TE_TooLarge K mg
  em_InvalidNumber : PySem.W.exmOne K (.ref e_InvalidNumber.aC) (.ref e_ServeError.aC) = some true
  kv_InvalidNumber : PySem.W.kitOne K (.ref e_InvalidNumber.aC) (.type "ValueError") = some true
  ko_InvalidNumber_InvalidLetter : PySem.W.kitOne K (.ref e_InvalidNumber.aC) (.ref e_InvalidLetter.aC) = some false
  ko_InvalidNumber_InvalidNumber : PySem.W.kitOne K (.ref e_InvalidNumber.aC) (.ref e_InvalidNumber.aC) = some true
  ko_InvalidNumber_NoHouse : PySem.W.kitOne K (.ref e_InvalidNumber.aC) (.ref e_NoHouse.aC) = some false
  ko_InvalidNumber_NoRequest : PySem.W.kitOne K (.ref e_InvalidNumber.aC) (.ref e_NoRequest.aC) = some false
  ko_InvalidNumber_NoRoom : PySem.W.kitOne K (.ref e_InvalidNumber.aC) (.ref e_NoRoom.aC) = some false
  ko_InvalidNumber_NotAlone : PySem.W.kitOne K (.ref e_InvalidNumber.aC) (.ref e_NotAlone.aC) = some false
  ko_InvalidNumber_NotHeld : PySem.W.kitOne K (.ref e_InvalidNumber.aC) (.ref e_NotHeld.aC) = some false
  ko_InvalidNumber_ServeError : PySem.W.kitOne K (.ref e_InvalidNumber.aC) (.ref e_ServeError.aC) = some true
  ko_InvalidNumber_TooLarge : PySem.W.kitOne K (.ref e_InvalidNumber.aC) (.ref e_TooLarge.aC) = some false
  em_NoRoom : PySem.W.exmOne K (.ref e_NoRoom.aC) (.ref e_ServeError.aC) = some true
  kv_NoRoom : PySem.W.kitOne K (.ref e_NoRoom.aC) (.type "ValueError") = some true
  ko_NoRoom_InvalidLetter : PySem.W.kitOne K (.ref e_NoRoom.aC) (.ref e_InvalidLetter.aC) = some false
  ko_NoRoom_InvalidNumber : PySem.W.kitOne K (.ref e_NoRoom.aC) (.ref e_InvalidNumber.aC) = some false
  ko_NoRoom_NoHouse : PySem.W.kitOne K (.ref e_NoRoom.aC) (.ref e_NoHouse.aC) = some false
  ko_NoRoom_NoRequest : PySem.W.kitOne K (.ref e_NoRoom.aC) (.ref e_NoRequest.aC) = some false
  ko_NoRoom_NoRoom : PySem.W.kitOne K (.ref e_NoRoom.aC) (.ref e_NoRoom.aC) = some true
  ko_NoRoom_NotAlone : PySem.W.kitOne K (.ref e_NoRoom.aC) (.ref e_NotAlone.aC) = some false
  ko_NoRoom_NotHeld : PySem.W.kitOne K (.ref e_NoRoom.aC) (.ref e_NotHeld.aC) = some false
  ko_NoRoom_ServeError : PySem.W.kitOne K (.ref e_NoRoom.aC) (.ref e_ServeError.aC) = some true
  ko_NoRoom_TooLarge : PySem.W.kitOne K (.ref e_NoRoom.aC) (.ref e_TooLarge.aC) = some false
  em_NotAlone : PySem.W.exmOne K (.ref e_NotAlone.aC) (.ref e_ServeError.aC) = some true
  kv_NotAlone : PySem.W.kitOne K (.ref e_NotAlone.aC) (.type "ValueError") = some true
  ko_NotAlone_InvalidLetter : PySem.W.kitOne K (.ref e_NotAlone.aC) (.ref e_InvalidLetter.aC) = some false
  ko_NotAlone_InvalidNumber : PySem.W.kitOne K (.ref e_NotAlone.aC) (.ref e_InvalidNumber.aC) = some false
  ko_NotAlone_NoHouse : PySem.W.kitOne K (.ref e_NotAlone.aC) (.ref e_NoHouse.aC) = some false
  ko_NotAlone_NoRequest : PySem.W.kitOne K (.ref e_NotAlone.aC) (.ref e_NoRequest.aC) = some false
  ko_NotAlone_NoRoom : PySem.W.kitOne K (.ref e_NotAlone.aC) (.ref e_NoRoom.aC) = some false
  ko_NotAlone_NotAlone : PySem.W.kitOne K (.ref e_NotAlone.aC) (.ref e_NotAlone.aC) = some true
  ko_NotAlone_NotHeld : PySem.W.kitOne K (.ref e_NotAlone.aC) (.ref e_NotHeld.aC) = some false
  ko_NotAlone_ServeError : PySem.W.kitOne K (.ref e_NotAlone.aC) (.ref e_ServeError.aC) = some true
  ko_NotAlone_TooLarge : PySem.W.kitOne K (.ref e_NotAlone.aC) (.ref e_TooLarge.aC) = some false
  em_NotHeld : PySem.W.exmOne K (.ref e_NotHeld.aC) (.ref e_ServeError.aC) = some true
  kv_NotHeld : PySem.W.kitOne K (.ref e_NotHeld.aC) (.type "ValueError") = some true
  ko_NotHeld_InvalidLetter : PySem.W.kitOne K (.ref e_NotHeld.aC) (.ref e_InvalidLetter.aC) = some false
  ko_NotHeld_InvalidNumber : PySem.W.kitOne K (.ref e_NotHeld.aC) (.ref e_InvalidNumber.aC) = some false
  ko_NotHeld_NoHouse : PySem.W.kitOne K (.ref e_NotHeld.aC) (.ref e_NoHouse.aC) = some false
  ko_NotHeld_NoRequest : PySem.W.kitOne K (.ref e_NotHeld.aC) (.ref e_NoRequest.aC) = some false
  ko_NotHeld_NoRoom : PySem.W.kitOne K (.ref e_NotHeld.aC) (.ref e_NoRoom.aC) = some false
  ko_NotHeld_NotAlone : PySem.W.kitOne K (.ref e_NotHeld.aC) (.ref e_NotAlone.aC) = some false
  ko_NotHeld_NotHeld : PySem.W.kitOne K (.ref e_NotHeld.aC) (.ref e_NotHeld.aC) = some true
  ko_NotHeld_ServeError : PySem.W.kitOne K (.ref e_NotHeld.aC) (.ref e_ServeError.aC) = some true
  ko_NotHeld_TooLarge : PySem.W.kitOne K (.ref e_NotHeld.aC) (.ref e_TooLarge.aC) = some false
  meth_Store__check_alone : Meth K c_Store.aC "_check_alone" d_Store__check_alone.a
  meth_Store__check_block : Meth K c_Store.aC "_check_block" d_Store__check_block.a
  meth_Store__check_held : Meth K c_Store.aC "_check_held" d_Store__check_held.a
  meth_Store_hold : Meth K c_Store.aC "hold" d_Store_hold.a
  meth_Store_holders : Meth K c_Store.aC "holders" d_Store_holders.a
  meth_Store_put_row : Meth K c_Store.aC "put_row" d_Store_put_row.a
  meth_Store_release : Meth K c_Store.aC "release" d_Store_release.a
  meth_Store_rows : Meth K c_Store.aC "rows" d_Store_rows.a
  meth_Store_shorten : Meth K c_Store.aC "shorten" d_Store_shorten.a
  meth_Store_take : Meth K c_Store.aC "take" d_Store_take.a
  p_Store_free : Addr
  prop_Store_free : PropOf K c_Store.aC "free" p_Store_free d_Store_free.a
abbrev Tx.a_is_integer {K : PySem.W.Frag} {mg : Str → Option Value} (T : Tx K mg) : Addr := T.d_is_integer.a
abbrev Tx.fd_is_integer {K : PySem.W.Frag} {mg : Str → Option Value} (T : Tx K mg) : FuncData := T.d_is_integer.fd
theorem Tx.F_is_integer {K : PySem.W.Frag} {mg : Str → Option Value} (T : Tx K mg) : Fun K "is_integer" "is_integer" s_is_integer T.a_is_integer T.fd_is_integer := T.d_is_integer.F
theorem Tx.b_is_integer {K : PySem.W.Frag} {mg : Str → Option Value} (T : Tx K mg) : Binds K T.fd_is_integer ["value"] [] := T.d_is_integer.b
theorem Tx.g_is_integer {K : PySem.W.Frag} {mg : Str → Option Value} (T : Tx K mg) : mg "is_integer" = some (.ref T.a_is_integer) := T.d_is_integer.g
abbrev Tx.a_is_from {K : PySem.W.Frag} {mg : Str → Option Value} (T : Tx K mg) : Addr := T.d_is_from.a
abbrev Tx.fd_is_from {K : PySem.W.Frag} {mg : Str → Option Value} (T : Tx K mg) : FuncData := T.d_is_from.fd
theorem Tx.F_is_from {K : PySem.W.Frag} {mg : Str → Option Value} (T : Tx K mg) : Fun K "is_from" "is_from" s_is_from T.a_is_from T.fd_is_from := T.d_is_from.F
theorem Tx.b_is_from {K : PySem.W.Frag} {mg : Str → Option Value} (T : Tx K mg) : Binds K T.fd_is_from ["value", "low", "high"] [] := T.d_is_from.b
theorem Tx.g_is_from {K : PySem.W.Frag} {mg : Str → Option Value} (T : Tx K mg) : mg "is_from" = some (.ref T.a_is_from) := T.d_is_from.g
abbrev Tx.a_vectors {K : PySem.W.Frag} {mg : Str → Option Value} (T : Tx K mg) : Addr := T.d_vectors.a
abbrev Tx.fd_vectors {K : PySem.W.Frag} {mg : Str → Option Value} (T : Tx K mg) : FuncData := T.d_vectors.fd
theorem Tx.F_vectors {K : PySem.W.Frag} {mg : Str → Option Value} (T : Tx K mg) : Fun K "vectors" "vectors" s_vectors T.a_vectors T.fd_vectors := T.d_vectors.F
theorem Tx.b_vectors {K : PySem.W.Frag} {mg : Str → Option Value} (T : Tx K mg) : Binds K T.fd_vectors ["rows"] [] := T.d_vectors.b
theorem Tx.g_vectors {K : PySem.W.Frag} {mg : Str → Option Value} (T : Tx K mg) : mg "vectors" = some (.ref T.a_vectors) := T.d_vectors.g
abbrev Tx.a_fixed_row {K : PySem.W.Frag} {mg : Str → Option Value} (T : Tx K mg) : Addr := T.d_fixed_row.a
abbrev Tx.fd_fixed_row {K : PySem.W.Frag} {mg : Str → Option Value} (T : Tx K mg) : FuncData := T.d_fixed_row.fd
theorem Tx.F_fixed_row {K : PySem.W.Frag} {mg : Str → Option Value} (T : Tx K mg) : Fun K "fixed_row" "fixed_row" s_fixed_row T.a_fixed_row T.fd_fixed_row := T.d_fixed_row.F
theorem Tx.b_fixed_row {K : PySem.W.Frag} {mg : Str → Option Value} (T : Tx K mg) : Binds K T.fd_fixed_row ["row"] [] := T.d_fixed_row.b
theorem Tx.g_fixed_row {K : PySem.W.Frag} {mg : Str → Option Value} (T : Tx K mg) : mg "fixed_row" = some (.ref T.a_fixed_row) := T.d_fixed_row.g
abbrev Tx.a__law_numbers {K : PySem.W.Frag} {mg : Str → Option Value} (T : Tx K mg) : Addr := T.d__law_numbers.a
abbrev Tx.fd__law_numbers {K : PySem.W.Frag} {mg : Str → Option Value} (T : Tx K mg) : FuncData := T.d__law_numbers.fd
theorem Tx.F__law_numbers {K : PySem.W.Frag} {mg : Str → Option Value} (T : Tx K mg) : Fun K "_law_numbers" "_law_numbers" s__law_numbers T.a__law_numbers T.fd__law_numbers := T.d__law_numbers.F
theorem Tx.b__law_numbers {K : PySem.W.Frag} {mg : Str → Option Value} (T : Tx K mg) : Binds K T.fd__law_numbers ["cell", "at", "many"] [] := T.d__law_numbers.b
theorem Tx.g__law_numbers {K : PySem.W.Frag} {mg : Str → Option Value} (T : Tx K mg) : mg "_law_numbers" = some (.ref T.a__law_numbers) := T.d__law_numbers.g
abbrev Tx.a__law_same {K : PySem.W.Frag} {mg : Str → Option Value} (T : Tx K mg) : Addr := T.d__law_same.a
abbrev Tx.fd__law_same {K : PySem.W.Frag} {mg : Str → Option Value} (T : Tx K mg) : FuncData := T.d__law_same.fd
theorem Tx.F__law_same {K : PySem.W.Frag} {mg : Str → Option Value} (T : Tx K mg) : Fun K "_law_same" "_law_same" s__law_same T.a__law_same T.fd__law_same := T.d__law_same.F
theorem Tx.b__law_same {K : PySem.W.Frag} {mg : Str → Option Value} (T : Tx K mg) : Binds K T.fd__law_same ["actual", "expected"] [] := T.d__law_same.b
theorem Tx.g__law_same {K : PySem.W.Frag} {mg : Str → Option Value} (T : Tx K mg) : mg "_law_same" = some (.ref T.a__law_same) := T.d__law_same.g
abbrev Tx.a_Store___init__ {K : PySem.W.Frag} {mg : Str → Option Value} (T : Tx K mg) : Addr := T.d_Store___init__.a
abbrev Tx.fd_Store___init__ {K : PySem.W.Frag} {mg : Str → Option Value} (T : Tx K mg) : FuncData := T.d_Store___init__.fd
theorem Tx.F_Store___init__ {K : PySem.W.Frag} {mg : Str → Option Value} (T : Tx K mg) : Fun K "__init__" "Store.__init__" s_Store___init__ T.a_Store___init__ T.fd_Store___init__ := T.d_Store___init__.F
theorem Tx.b_Store___init__ {K : PySem.W.Frag} {mg : Str → Option Value} (T : Tx K mg) : Binds K T.fd_Store___init__ ["self", "many", "size"] [] := T.d_Store___init__.b
abbrev Tx.a_Store_free {K : PySem.W.Frag} {mg : Str → Option Value} (T : Tx K mg) : Addr := T.d_Store_free.a
abbrev Tx.fd_Store_free {K : PySem.W.Frag} {mg : Str → Option Value} (T : Tx K mg) : FuncData := T.d_Store_free.fd
theorem Tx.F_Store_free {K : PySem.W.Frag} {mg : Str → Option Value} (T : Tx K mg) : Fun K "free" "Store.free" s_Store_free T.a_Store_free T.fd_Store_free := T.d_Store_free.F
theorem Tx.b_Store_free {K : PySem.W.Frag} {mg : Str → Option Value} (T : Tx K mg) : Binds K T.fd_Store_free ["self"] [] := T.d_Store_free.b
abbrev Tx.a_Store__check_block {K : PySem.W.Frag} {mg : Str → Option Value} (T : Tx K mg) : Addr := T.d_Store__check_block.a
abbrev Tx.fd_Store__check_block {K : PySem.W.Frag} {mg : Str → Option Value} (T : Tx K mg) : FuncData := T.d_Store__check_block.fd
theorem Tx.F_Store__check_block {K : PySem.W.Frag} {mg : Str → Option Value} (T : Tx K mg) : Fun K "_check_block" "Store._check_block" s_Store__check_block T.a_Store__check_block T.fd_Store__check_block := T.d_Store__check_block.F
theorem Tx.b_Store__check_block {K : PySem.W.Frag} {mg : Str → Option Value} (T : Tx K mg) : Binds K T.fd_Store__check_block ["self", "block"] [] := T.d_Store__check_block.b
abbrev Tx.a_Store__check_held {K : PySem.W.Frag} {mg : Str → Option Value} (T : Tx K mg) : Addr := T.d_Store__check_held.a
abbrev Tx.fd_Store__check_held {K : PySem.W.Frag} {mg : Str → Option Value} (T : Tx K mg) : FuncData := T.d_Store__check_held.fd
theorem Tx.F_Store__check_held {K : PySem.W.Frag} {mg : Str → Option Value} (T : Tx K mg) : Fun K "_check_held" "Store._check_held" s_Store__check_held T.a_Store__check_held T.fd_Store__check_held := T.d_Store__check_held.F
theorem Tx.b_Store__check_held {K : PySem.W.Frag} {mg : Str → Option Value} (T : Tx K mg) : Binds K T.fd_Store__check_held ["self", "block"] [] := T.d_Store__check_held.b
abbrev Tx.a_Store__check_alone {K : PySem.W.Frag} {mg : Str → Option Value} (T : Tx K mg) : Addr := T.d_Store__check_alone.a
abbrev Tx.fd_Store__check_alone {K : PySem.W.Frag} {mg : Str → Option Value} (T : Tx K mg) : FuncData := T.d_Store__check_alone.fd
theorem Tx.F_Store__check_alone {K : PySem.W.Frag} {mg : Str → Option Value} (T : Tx K mg) : Fun K "_check_alone" "Store._check_alone" s_Store__check_alone T.a_Store__check_alone T.fd_Store__check_alone := T.d_Store__check_alone.F
theorem Tx.b_Store__check_alone {K : PySem.W.Frag} {mg : Str → Option Value} (T : Tx K mg) : Binds K T.fd_Store__check_alone ["self", "block"] [] := T.d_Store__check_alone.b
abbrev Tx.a_Store_take {K : PySem.W.Frag} {mg : Str → Option Value} (T : Tx K mg) : Addr := T.d_Store_take.a
abbrev Tx.fd_Store_take {K : PySem.W.Frag} {mg : Str → Option Value} (T : Tx K mg) : FuncData := T.d_Store_take.fd
theorem Tx.F_Store_take {K : PySem.W.Frag} {mg : Str → Option Value} (T : Tx K mg) : Fun K "take" "Store.take" s_Store_take T.a_Store_take T.fd_Store_take := T.d_Store_take.F
theorem Tx.b_Store_take {K : PySem.W.Frag} {mg : Str → Option Value} (T : Tx K mg) : Binds K T.fd_Store_take ["self"] [] := T.d_Store_take.b
abbrev Tx.a_Store_hold {K : PySem.W.Frag} {mg : Str → Option Value} (T : Tx K mg) : Addr := T.d_Store_hold.a
abbrev Tx.fd_Store_hold {K : PySem.W.Frag} {mg : Str → Option Value} (T : Tx K mg) : FuncData := T.d_Store_hold.fd
theorem Tx.F_Store_hold {K : PySem.W.Frag} {mg : Str → Option Value} (T : Tx K mg) : Fun K "hold" "Store.hold" s_Store_hold T.a_Store_hold T.fd_Store_hold := T.d_Store_hold.F
theorem Tx.b_Store_hold {K : PySem.W.Frag} {mg : Str → Option Value} (T : Tx K mg) : Binds K T.fd_Store_hold ["self", "block"] [] := T.d_Store_hold.b
abbrev Tx.a_Store_release {K : PySem.W.Frag} {mg : Str → Option Value} (T : Tx K mg) : Addr := T.d_Store_release.a
abbrev Tx.fd_Store_release {K : PySem.W.Frag} {mg : Str → Option Value} (T : Tx K mg) : FuncData := T.d_Store_release.fd
theorem Tx.F_Store_release {K : PySem.W.Frag} {mg : Str → Option Value} (T : Tx K mg) : Fun K "release" "Store.release" s_Store_release T.a_Store_release T.fd_Store_release := T.d_Store_release.F
theorem Tx.b_Store_release {K : PySem.W.Frag} {mg : Str → Option Value} (T : Tx K mg) : Binds K T.fd_Store_release ["self", "block"] [] := T.d_Store_release.b
abbrev Tx.a_Store_put_row {K : PySem.W.Frag} {mg : Str → Option Value} (T : Tx K mg) : Addr := T.d_Store_put_row.a
abbrev Tx.fd_Store_put_row {K : PySem.W.Frag} {mg : Str → Option Value} (T : Tx K mg) : FuncData := T.d_Store_put_row.fd
theorem Tx.F_Store_put_row {K : PySem.W.Frag} {mg : Str → Option Value} (T : Tx K mg) : Fun K "put_row" "Store.put_row" s_Store_put_row T.a_Store_put_row T.fd_Store_put_row := T.d_Store_put_row.F
theorem Tx.b_Store_put_row {K : PySem.W.Frag} {mg : Str → Option Value} (T : Tx K mg) : Binds K T.fd_Store_put_row ["self", "block", "row"] [] := T.d_Store_put_row.b
abbrev Tx.a_Store_shorten {K : PySem.W.Frag} {mg : Str → Option Value} (T : Tx K mg) : Addr := T.d_Store_shorten.a
abbrev Tx.fd_Store_shorten {K : PySem.W.Frag} {mg : Str → Option Value} (T : Tx K mg) : FuncData := T.d_Store_shorten.fd
theorem Tx.F_Store_shorten {K : PySem.W.Frag} {mg : Str → Option Value} (T : Tx K mg) : Fun K "shorten" "Store.shorten" s_Store_shorten T.a_Store_shorten T.fd_Store_shorten := T.d_Store_shorten.F
theorem Tx.b_Store_shorten {K : PySem.W.Frag} {mg : Str → Option Value} (T : Tx K mg) : Binds K T.fd_Store_shorten ["self", "block", "many"] [] := T.d_Store_shorten.b
abbrev Tx.a_Store_rows {K : PySem.W.Frag} {mg : Str → Option Value} (T : Tx K mg) : Addr := T.d_Store_rows.a
abbrev Tx.fd_Store_rows {K : PySem.W.Frag} {mg : Str → Option Value} (T : Tx K mg) : FuncData := T.d_Store_rows.fd
theorem Tx.F_Store_rows {K : PySem.W.Frag} {mg : Str → Option Value} (T : Tx K mg) : Fun K "rows" "Store.rows" s_Store_rows T.a_Store_rows T.fd_Store_rows := T.d_Store_rows.F
theorem Tx.b_Store_rows {K : PySem.W.Frag} {mg : Str → Option Value} (T : Tx K mg) : Binds K T.fd_Store_rows ["self", "block"] [] := T.d_Store_rows.b
abbrev Tx.a_Store_holders {K : PySem.W.Frag} {mg : Str → Option Value} (T : Tx K mg) : Addr := T.d_Store_holders.a
abbrev Tx.fd_Store_holders {K : PySem.W.Frag} {mg : Str → Option Value} (T : Tx K mg) : FuncData := T.d_Store_holders.fd
theorem Tx.F_Store_holders {K : PySem.W.Frag} {mg : Str → Option Value} (T : Tx K mg) : Fun K "holders" "Store.holders" s_Store_holders T.a_Store_holders T.fd_Store_holders := T.d_Store_holders.F
theorem Tx.b_Store_holders {K : PySem.W.Frag} {mg : Str → Option Value} (T : Tx K mg) : Binds K T.fd_Store_holders ["self", "block"] [] := T.d_Store_holders.b
abbrev Tx.a__law_kinds {K : PySem.W.Frag} {mg : Str → Option Value} (T : Tx K mg) : Addr := T.d__law_kinds.a
abbrev Tx.fd__law_kinds {K : PySem.W.Frag} {mg : Str → Option Value} (T : Tx K mg) : FuncData := T.d__law_kinds.fd
theorem Tx.F__law_kinds {K : PySem.W.Frag} {mg : Str → Option Value} (T : Tx K mg) : Fun K "_law_kinds" "_law_kinds" s__law_kinds T.a__law_kinds T.fd__law_kinds := T.d__law_kinds.F
theorem Tx.b__law_kinds {K : PySem.W.Frag} {mg : Str → Option Value} (T : Tx K mg) : Binds K T.fd__law_kinds ["e"] [] := T.d__law_kinds.b
theorem Tx.g__law_kinds {K : PySem.W.Frag} {mg : Str → Option Value} (T : Tx K mg) : mg "_law_kinds" = some (.ref T.a__law_kinds) := T.d__law_kinds.g
abbrev Tx.a__law_odd {K : PySem.W.Frag} {mg : Str → Option Value} (T : Tx K mg) : Addr := T.d__law_odd.a
abbrev Tx.fd__law_odd {K : PySem.W.Frag} {mg : Str → Option Value} (T : Tx K mg) : FuncData := T.d__law_odd.fd
theorem Tx.F__law_odd {K : PySem.W.Frag} {mg : Str → Option Value} (T : Tx K mg) : Fun K "_law_odd" "_law_odd" s__law_odd T.a__law_odd T.fd__law_odd := T.d__law_odd.F
theorem Tx.b__law_odd {K : PySem.W.Frag} {mg : Str → Option Value} (T : Tx K mg) : Binds K T.fd__law_odd ["numbers", "k", "most"] [] := T.d__law_odd.b
theorem Tx.g__law_odd {K : PySem.W.Frag} {mg : Str → Option Value} (T : Tx K mg) : mg "_law_odd" = some (.ref T.a__law_odd) := T.d__law_odd.g
abbrev Tx.a__law_vector {K : PySem.W.Frag} {mg : Str → Option Value} (T : Tx K mg) : Addr := T.d__law_vector.a
abbrev Tx.fd__law_vector {K : PySem.W.Frag} {mg : Str → Option Value} (T : Tx K mg) : FuncData := T.d__law_vector.fd
theorem Tx.F__law_vector {K : PySem.W.Frag} {mg : Str → Option Value} (T : Tx K mg) : Fun K "_law_vector" "_law_vector" s__law_vector T.a__law_vector T.fd__law_vector := T.d__law_vector.F
theorem Tx.b__law_vector {K : PySem.W.Frag} {mg : Str → Option Value} (T : Tx K mg) : Binds K T.fd__law_vector ["numbers", "at", "width", "prime"] [] := T.d__law_vector.b
theorem Tx.g__law_vector {K : PySem.W.Frag} {mg : Str → Option Value} (T : Tx K mg) : mg "_law_vector" = some (.ref T.a__law_vector) := T.d__law_vector.g
abbrev Tx.a__law_net {K : PySem.W.Frag} {mg : Str → Option Value} (T : Tx K mg) : Addr := T.d__law_net.a
abbrev Tx.fd__law_net {K : PySem.W.Frag} {mg : Str → Option Value} (T : Tx K mg) : FuncData := T.d__law_net.fd
theorem Tx.F__law_net {K : PySem.W.Frag} {mg : Str → Option Value} (T : Tx K mg) : Fun K "_law_net" "_law_net" s__law_net T.a__law_net T.fd__law_net := T.d__law_net.F
theorem Tx.b__law_net {K : PySem.W.Frag} {mg : Str → Option Value} (T : Tx K mg) : Binds K T.fd__law_net ["numbers", "letters", "width", "many", "prime"] [] := T.d__law_net.b
theorem Tx.g__law_net {K : PySem.W.Frag} {mg : Str → Option Value} (T : Tx K mg) : mg "_law_net" = some (.ref T.a__law_net) := T.d__law_net.g
abbrev Tx.a__law_dot {K : PySem.W.Frag} {mg : Str → Option Value} (T : Tx K mg) : Addr := T.d__law_dot.a
abbrev Tx.fd__law_dot {K : PySem.W.Frag} {mg : Str → Option Value} (T : Tx K mg) : FuncData := T.d__law_dot.fd
theorem Tx.F__law_dot {K : PySem.W.Frag} {mg : Str → Option Value} (T : Tx K mg) : Fun K "_law_dot" "_law_dot" s__law_dot T.a__law_dot T.fd__law_dot := T.d__law_dot.F
theorem Tx.b__law_dot {K : PySem.W.Frag} {mg : Str → Option Value} (T : Tx K mg) : Binds K T.fd__law_dot ["one", "other", "prime"] [] := T.d__law_dot.b
theorem Tx.g__law_dot {K : PySem.W.Frag} {mg : Str → Option Value} (T : Tx K mg) : mg "_law_dot" = some (.ref T.a__law_dot) := T.d__law_dot.g
abbrev Tx.a__law_times {K : PySem.W.Frag} {mg : Str → Option Value} (T : Tx K mg) : Addr := T.d__law_times.a
abbrev Tx.fd__law_times {K : PySem.W.Frag} {mg : Str → Option Value} (T : Tx K mg) : FuncData := T.d__law_times.fd
theorem Tx.F__law_times {K : PySem.W.Frag} {mg : Str → Option Value} (T : Tx K mg) : Fun K "_law_times" "_law_times" s__law_times T.a__law_times T.fd__law_times := T.d__law_times.F
theorem Tx.b__law_times {K : PySem.W.Frag} {mg : Str → Option Value} (T : Tx K mg) : Binds K T.fd__law_times ["matrix", "vector", "prime"] [] := T.d__law_times.b
theorem Tx.g__law_times {K : PySem.W.Frag} {mg : Str → Option Value} (T : Tx K mg) : mg "_law_times" = some (.ref T.a__law_times) := T.d__law_times.g
abbrev Tx.a__law_row {K : PySem.W.Frag} {mg : Str → Option Value} (T : Tx K mg) : Addr := T.d__law_row.a
abbrev Tx.fd__law_row {K : PySem.W.Frag} {mg : Str → Option Value} (T : Tx K mg) : FuncData := T.d__law_row.fd
theorem Tx.F__law_row {K : PySem.W.Frag} {mg : Str → Option Value} (T : Tx K mg) : Fun K "_law_row" "_law_row" s__law_row T.a__law_row T.fd__law_row := T.d__law_row.F
theorem Tx.b__law_row {K : PySem.W.Frag} {mg : Str → Option Value} (T : Tx K mg) : Binds K T.fd__law_row ["net", "rows", "letter"] [] := T.d__law_row.b
theorem Tx.g__law_row {K : PySem.W.Frag} {mg : Str → Option Value} (T : Tx K mg) : mg "_law_row" = some (.ref T.a__law_row) := T.d__law_row.g
abbrev Tx.a__law_some_rows {K : PySem.W.Frag} {mg : Str → Option Value} (T : Tx K mg) : Addr := T.d__law_some_rows.a
abbrev Tx.fd__law_some_rows {K : PySem.W.Frag} {mg : Str → Option Value} (T : Tx K mg) : FuncData := T.d__law_some_rows.fd
theorem Tx.F__law_some_rows {K : PySem.W.Frag} {mg : Str → Option Value} (T : Tx K mg) : Fun K "_law_some_rows" "_law_some_rows" s__law_some_rows T.a__law_some_rows T.fd__law_some_rows := T.d__law_some_rows.F
theorem Tx.b__law_some_rows {K : PySem.W.Frag} {mg : Str → Option Value} (T : Tx K mg) : Binds K T.fd__law_some_rows ["numbers"] [] := T.d__law_some_rows.b
theorem Tx.g__law_some_rows {K : PySem.W.Frag} {mg : Str → Option Value} (T : Tx K mg) : mg "_law_some_rows" = some (.ref T.a__law_some_rows) := T.d__law_some_rows.g
abbrev Tx.a__law_is_integer {K : PySem.W.Frag} {mg : Str → Option Value} (T : Tx K mg) : Addr := T.d__law_is_integer.a
abbrev Tx.fd__law_is_integer {K : PySem.W.Frag} {mg : Str → Option Value} (T : Tx K mg) : FuncData := T.d__law_is_integer.fd
theorem Tx.F__law_is_integer {K : PySem.W.Frag} {mg : Str → Option Value} (T : Tx K mg) : Fun K "_law_is_integer" "_law_is_integer" s__law_is_integer T.a__law_is_integer T.fd__law_is_integer := T.d__law_is_integer.F
theorem Tx.b__law_is_integer {K : PySem.W.Frag} {mg : Str → Option Value} (T : Tx K mg) : Binds K T.fd__law_is_integer ["value", "low", "high"] [] := T.d__law_is_integer.b
theorem Tx.g__law_is_integer {K : PySem.W.Frag} {mg : Str → Option Value} (T : Tx K mg) : mg "_law_is_integer" = some (.ref T.a__law_is_integer) := T.d__law_is_integer.g
abbrev Tx.a__law_lowest {K : PySem.W.Frag} {mg : Str → Option Value} (T : Tx K mg) : Addr := T.d__law_lowest.a
abbrev Tx.fd__law_lowest {K : PySem.W.Frag} {mg : Str → Option Value} (T : Tx K mg) : FuncData := T.d__law_lowest.fd
theorem Tx.F__law_lowest {K : PySem.W.Frag} {mg : Str → Option Value} (T : Tx K mg) : Fun K "_law_lowest" "_law_lowest" s__law_lowest T.a__law_lowest T.fd__law_lowest := T.d__law_lowest.F
theorem Tx.b__law_lowest {K : PySem.W.Frag} {mg : Str → Option Value} (T : Tx K mg) : Binds K T.fd__law_lowest ["state"] [] := T.d__law_lowest.b
theorem Tx.g__law_lowest {K : PySem.W.Frag} {mg : Str → Option Value} (T : Tx K mg) : mg "_law_lowest" = some (.ref T.a__law_lowest) := T.d__law_lowest.g
abbrev Tx.a__law_take {K : PySem.W.Frag} {mg : Str → Option Value} (T : Tx K mg) : Addr := T.d__law_take.a
abbrev Tx.fd__law_take {K : PySem.W.Frag} {mg : Str → Option Value} (T : Tx K mg) : FuncData := T.d__law_take.fd
theorem Tx.F__law_take {K : PySem.W.Frag} {mg : Str → Option Value} (T : Tx K mg) : Fun K "_law_take" "_law_take" s__law_take T.a__law_take T.fd__law_take := T.d__law_take.F
theorem Tx.b__law_take {K : PySem.W.Frag} {mg : Str → Option Value} (T : Tx K mg) : Binds K T.fd__law_take ["state"] [] := T.d__law_take.b
theorem Tx.g__law_take {K : PySem.W.Frag} {mg : Str → Option Value} (T : Tx K mg) : mg "_law_take" = some (.ref T.a__law_take) := T.d__law_take.g
abbrev Tx.a__law_release {K : PySem.W.Frag} {mg : Str → Option Value} (T : Tx K mg) : Addr := T.d__law_release.a
abbrev Tx.fd__law_release {K : PySem.W.Frag} {mg : Str → Option Value} (T : Tx K mg) : FuncData := T.d__law_release.fd
theorem Tx.F__law_release {K : PySem.W.Frag} {mg : Str → Option Value} (T : Tx K mg) : Fun K "_law_release" "_law_release" s__law_release T.a__law_release T.fd__law_release := T.d__law_release.F
theorem Tx.b__law_release {K : PySem.W.Frag} {mg : Str → Option Value} (T : Tx K mg) : Binds K T.fd__law_release ["state", "block"] [] := T.d__law_release.b
theorem Tx.g__law_release {K : PySem.W.Frag} {mg : Str → Option Value} (T : Tx K mg) : mg "_law_release" = some (.ref T.a__law_release) := T.d__law_release.g
abbrev Tx.a__law_call {K : PySem.W.Frag} {mg : Str → Option Value} (T : Tx K mg) : Addr := T.d__law_call.a
abbrev Tx.fd__law_call {K : PySem.W.Frag} {mg : Str → Option Value} (T : Tx K mg) : FuncData := T.d__law_call.fd
theorem Tx.F__law_call {K : PySem.W.Frag} {mg : Str → Option Value} (T : Tx K mg) : Fun K "_law_call" "_law_call" s__law_call T.a__law_call T.fd__law_call := T.d__law_call.F
theorem Tx.b__law_call {K : PySem.W.Frag} {mg : Str → Option Value} (T : Tx K mg) : Binds K T.fd__law_call ["store", "word", "block", "value"] [] := T.d__law_call.b
theorem Tx.g__law_call {K : PySem.W.Frag} {mg : Str → Option Value} (T : Tx K mg) : mg "_law_call" = some (.ref T.a__law_call) := T.d__law_call.g
abbrev Tx.a__law_ask {K : PySem.W.Frag} {mg : Str → Option Value} (T : Tx K mg) : Addr := T.d__law_ask.a
abbrev Tx.fd__law_ask {K : PySem.W.Frag} {mg : Str → Option Value} (T : Tx K mg) : FuncData := T.d__law_ask.fd
theorem Tx.F__law_ask {K : PySem.W.Frag} {mg : Str → Option Value} (T : Tx K mg) : Fun K "_law_ask" "_law_ask" s__law_ask T.a__law_ask T.fd__law_ask := T.d__law_ask.F
theorem Tx.b__law_ask {K : PySem.W.Frag} {mg : Str → Option Value} (T : Tx K mg) : Binds K T.fd__law_ask ["store", "word", "block", "value"] [] := T.d__law_ask.b
theorem Tx.g__law_ask {K : PySem.W.Frag} {mg : Str → Option Value} (T : Tx K mg) : mg "_law_ask" = some (.ref T.a__law_ask) := T.d__law_ask.g
abbrev Tx.a__law_due {K : PySem.W.Frag} {mg : Str → Option Value} (T : Tx K mg) : Addr := T.d__law_due.a
abbrev Tx.fd__law_due {K : PySem.W.Frag} {mg : Str → Option Value} (T : Tx K mg) : FuncData := T.d__law_due.fd
theorem Tx.F__law_due {K : PySem.W.Frag} {mg : Str → Option Value} (T : Tx K mg) : Fun K "_law_due" "_law_due" s__law_due T.a__law_due T.fd__law_due := T.d__law_due.F
theorem Tx.b__law_due {K : PySem.W.Frag} {mg : Str → Option Value} (T : Tx K mg) : Binds K T.fd__law_due ["state", "size", "word", "block", "value"] [] := T.d__law_due.b
theorem Tx.g__law_due {K : PySem.W.Frag} {mg : Str → Option Value} (T : Tx K mg) : mg "_law_due" = some (.ref T.a__law_due) := T.d__law_due.g
abbrev Tx.a__law_free {K : PySem.W.Frag} {mg : Str → Option Value} (T : Tx K mg) : Addr := T.d__law_free.a
abbrev Tx.fd__law_free {K : PySem.W.Frag} {mg : Str → Option Value} (T : Tx K mg) : FuncData := T.d__law_free.fd
theorem Tx.F__law_free {K : PySem.W.Frag} {mg : Str → Option Value} (T : Tx K mg) : Fun K "_law_free" "_law_free" s__law_free T.a__law_free T.fd__law_free := T.d__law_free.F
theorem Tx.b__law_free {K : PySem.W.Frag} {mg : Str → Option Value} (T : Tx K mg) : Binds K T.fd__law_free ["state"] [] := T.d__law_free.b
theorem Tx.g__law_free {K : PySem.W.Frag} {mg : Str → Option Value} (T : Tx K mg) : mg "_law_free" = some (.ref T.a__law_free) := T.d__law_free.g
abbrev Tx.a__law_stands {K : PySem.W.Frag} {mg : Str → Option Value} (T : Tx K mg) : Addr := T.d__law_stands.a
abbrev Tx.fd__law_stands {K : PySem.W.Frag} {mg : Str → Option Value} (T : Tx K mg) : FuncData := T.d__law_stands.fd
theorem Tx.F__law_stands {K : PySem.W.Frag} {mg : Str → Option Value} (T : Tx K mg) : Fun K "_law_stands" "_law_stands" s__law_stands T.a__law_stands T.fd__law_stands := T.d__law_stands.F
theorem Tx.b__law_stands {K : PySem.W.Frag} {mg : Str → Option Value} (T : Tx K mg) : Binds K T.fd__law_stands ["store", "state"] [] := T.d__law_stands.b
theorem Tx.g__law_stands {K : PySem.W.Frag} {mg : Str → Option Value} (T : Tx K mg) : mg "_law_stands" = some (.ref T.a__law_stands) := T.d__law_stands.g
abbrev Tx.a_law {K : PySem.W.Frag} {mg : Str → Option Value} (T : Tx K mg) : Addr := T.d_law.a
abbrev Tx.fd_law {K : PySem.W.Frag} {mg : Str → Option Value} (T : Tx K mg) : FuncData := T.d_law.fd
theorem Tx.F_law {K : PySem.W.Frag} {mg : Str → Option Value} (T : Tx K mg) : Fun K "law" "law" s_law T.a_law T.fd_law := T.d_law.F
theorem Tx.b_law {K : PySem.W.Frag} {mg : Str → Option Value} (T : Tx K mg) : Binds K T.fd_law ["script"] [] := T.d_law.b
theorem Tx.g_law {K : PySem.W.Frag} {mg : Str → Option Value} (T : Tx K mg) : mg "law" = some (.ref T.a_law) := T.d_law.g
abbrev Tx.aC_Store {K : PySem.W.Frag} {mg : Str → Option Value} (T : Tx K mg) : Addr := T.c_Store.aC
theorem Tx.cl_Store {K : PySem.W.Frag} {mg : Str → Option Value} (T : Tx K mg) : Cls K T.aC_Store := T.c_Store.cl
theorem Tx.mgC_Store {K : PySem.W.Frag} {mg : Str → Option Value} (T : Tx K mg) : mg "Store" = some (.ref T.aC_Store) := T.c_Store.mgC
theorem Tx.nA_Store__held {K : PySem.W.Frag} {mg : Str → Option Value} (T : Tx K mg) : NoAttr K T.aC_Store "_held" := T.c_Store.nA__held
theorem Tx.nA_Store__kept {K : PySem.W.Frag} {mg : Str → Option Value} (T : Tx K mg) : NoAttr K T.aC_Store "_kept" := T.c_Store.nA__kept
theorem Tx.nA_Store_many {K : PySem.W.Frag} {mg : Str → Option Value} (T : Tx K mg) : NoAttr K T.aC_Store "many" := T.c_Store.nA_many
theorem Tx.nA_Store_size {K : PySem.W.Frag} {mg : Str → Option Value} (T : Tx K mg) : NoAttr K T.aC_Store "size" := T.c_Store.nA_size
abbrev Tx.aC_InvalidLetter {K : PySem.W.Frag} {mg : Str → Option Value} (T : Tx K mg) : Addr := T.e_InvalidLetter.aC
theorem Tx.mgC_InvalidLetter {K : PySem.W.Frag} {mg : Str → Option Value} (T : Tx K mg) : mg "InvalidLetter" = some (.ref T.aC_InvalidLetter) := T.e_InvalidLetter.mgC
abbrev Tx.aC_InvalidNumber {K : PySem.W.Frag} {mg : Str → Option Value} (T : Tx K mg) : Addr := T.e_InvalidNumber.aC
theorem Tx.mgC_InvalidNumber {K : PySem.W.Frag} {mg : Str → Option Value} (T : Tx K mg) : mg "InvalidNumber" = some (.ref T.aC_InvalidNumber) := T.e_InvalidNumber.mgC
abbrev Tx.fI_InvalidNumber {K : PySem.W.Frag} {mg : Str → Option Value} (T : Tx K mg) : Addr := T.e_InvalidNumber.fI
theorem Tx.tx_InvalidNumber {K : PySem.W.Frag} {mg : Str → Option Value} (T : Tx K mg) : PySem.EXnumber.Txt K mg "InvalidNumber" "InvalidNumber.__init__" T.aC_InvalidNumber T.fI_InvalidNumber := T.e_InvalidNumber.tx
theorem Tx.xc_InvalidNumber {K : PySem.W.Frag} {mg : Str → Option Value} (T : Tx K mg) : ExC K T.aC_InvalidNumber := T.e_InvalidNumber.xc
theorem Tx.xf_InvalidNumber {K : PySem.W.Frag} {mg : Str → Option Value} (T : Tx K mg) : XfC K T.aC_InvalidNumber := T.e_InvalidNumber.xf
theorem Tx.nf_InvalidNumber {K : PySem.W.Frag} {mg : Str → Option Value} (T : Tx K mg) : PySem.W.findIn K (.ref T.aC_InvalidNumber) "number" = some none := T.e_InvalidNumber.nf
abbrev Tx.aC_NoHouse {K : PySem.W.Frag} {mg : Str → Option Value} (T : Tx K mg) : Addr := T.e_NoHouse.aC
theorem Tx.mgC_NoHouse {K : PySem.W.Frag} {mg : Str → Option Value} (T : Tx K mg) : mg "NoHouse" = some (.ref T.aC_NoHouse) := T.e_NoHouse.mgC
abbrev Tx.aC_NoRequest {K : PySem.W.Frag} {mg : Str → Option Value} (T : Tx K mg) : Addr := T.e_NoRequest.aC
theorem Tx.mgC_NoRequest {K : PySem.W.Frag} {mg : Str → Option Value} (T : Tx K mg) : mg "NoRequest" = some (.ref T.aC_NoRequest) := T.e_NoRequest.mgC
abbrev Tx.aC_NoRoom {K : PySem.W.Frag} {mg : Str → Option Value} (T : Tx K mg) : Addr := T.e_NoRoom.aC
theorem Tx.mgC_NoRoom {K : PySem.W.Frag} {mg : Str → Option Value} (T : Tx K mg) : mg "NoRoom" = some (.ref T.aC_NoRoom) := T.e_NoRoom.mgC
abbrev Tx.fI_NoRoom {K : PySem.W.Frag} {mg : Str → Option Value} (T : Tx K mg) : Addr := T.e_NoRoom.fI
theorem Tx.tx_NoRoom {K : PySem.W.Frag} {mg : Str → Option Value} (T : Tx K mg) : PySem.EXmany.Txt K mg "NoRoom" "NoRoom.__init__" T.aC_NoRoom T.fI_NoRoom := T.e_NoRoom.tx
theorem Tx.xc_NoRoom {K : PySem.W.Frag} {mg : Str → Option Value} (T : Tx K mg) : ExC K T.aC_NoRoom := T.e_NoRoom.xc
theorem Tx.xf_NoRoom {K : PySem.W.Frag} {mg : Str → Option Value} (T : Tx K mg) : XfC K T.aC_NoRoom := T.e_NoRoom.xf
theorem Tx.nf_NoRoom {K : PySem.W.Frag} {mg : Str → Option Value} (T : Tx K mg) : PySem.W.findIn K (.ref T.aC_NoRoom) "many" = some none := T.e_NoRoom.nf
abbrev Tx.aC_NotAlone {K : PySem.W.Frag} {mg : Str → Option Value} (T : Tx K mg) : Addr := T.e_NotAlone.aC
theorem Tx.mgC_NotAlone {K : PySem.W.Frag} {mg : Str → Option Value} (T : Tx K mg) : mg "NotAlone" = some (.ref T.aC_NotAlone) := T.e_NotAlone.mgC
abbrev Tx.fI_NotAlone {K : PySem.W.Frag} {mg : Str → Option Value} (T : Tx K mg) : Addr := T.e_NotAlone.fI
theorem Tx.tx_NotAlone {K : PySem.W.Frag} {mg : Str → Option Value} (T : Tx K mg) : PySem.EXblock.Txt K mg "NotAlone" "NotAlone.__init__" T.aC_NotAlone T.fI_NotAlone := T.e_NotAlone.tx
theorem Tx.xc_NotAlone {K : PySem.W.Frag} {mg : Str → Option Value} (T : Tx K mg) : ExC K T.aC_NotAlone := T.e_NotAlone.xc
theorem Tx.xf_NotAlone {K : PySem.W.Frag} {mg : Str → Option Value} (T : Tx K mg) : XfC K T.aC_NotAlone := T.e_NotAlone.xf
theorem Tx.nf_NotAlone {K : PySem.W.Frag} {mg : Str → Option Value} (T : Tx K mg) : PySem.W.findIn K (.ref T.aC_NotAlone) "block" = some none := T.e_NotAlone.nf
abbrev Tx.aC_NotHeld {K : PySem.W.Frag} {mg : Str → Option Value} (T : Tx K mg) : Addr := T.e_NotHeld.aC
theorem Tx.mgC_NotHeld {K : PySem.W.Frag} {mg : Str → Option Value} (T : Tx K mg) : mg "NotHeld" = some (.ref T.aC_NotHeld) := T.e_NotHeld.mgC
abbrev Tx.fI_NotHeld {K : PySem.W.Frag} {mg : Str → Option Value} (T : Tx K mg) : Addr := T.e_NotHeld.fI
theorem Tx.tx_NotHeld {K : PySem.W.Frag} {mg : Str → Option Value} (T : Tx K mg) : PySem.EXblock.Txt K mg "NotHeld" "NotHeld.__init__" T.aC_NotHeld T.fI_NotHeld := T.e_NotHeld.tx
theorem Tx.xc_NotHeld {K : PySem.W.Frag} {mg : Str → Option Value} (T : Tx K mg) : ExC K T.aC_NotHeld := T.e_NotHeld.xc
theorem Tx.xf_NotHeld {K : PySem.W.Frag} {mg : Str → Option Value} (T : Tx K mg) : XfC K T.aC_NotHeld := T.e_NotHeld.xf
theorem Tx.nf_NotHeld {K : PySem.W.Frag} {mg : Str → Option Value} (T : Tx K mg) : PySem.W.findIn K (.ref T.aC_NotHeld) "block" = some none := T.e_NotHeld.nf
abbrev Tx.aC_ServeError {K : PySem.W.Frag} {mg : Str → Option Value} (T : Tx K mg) : Addr := T.e_ServeError.aC
theorem Tx.mgC_ServeError {K : PySem.W.Frag} {mg : Str → Option Value} (T : Tx K mg) : mg "ServeError" = some (.ref T.aC_ServeError) := T.e_ServeError.mgC
abbrev Tx.aC_TooLarge {K : PySem.W.Frag} {mg : Str → Option Value} (T : Tx K mg) : Addr := T.e_TooLarge.aC
theorem Tx.mgC_TooLarge {K : PySem.W.Frag} {mg : Str → Option Value} (T : Tx K mg) : mg "TooLarge" = some (.ref T.aC_TooLarge) := T.e_TooLarge.mgC
section
variable {P : Program} {w : World} {K : PySem.W.Frag} {mg : Str → Option Value} {base : Heap}
set_option maxHeartbeats 8000000 in
theorem ok_is_integer (T : Tx K mg) : FnOk P w K mg base CX0 1 T.a_is_integer T.fd_is_integer ["value"] (SpA K AU.C_is_integer) := by
  refine Fun.ok T.F_is_integer sc_is_integer (fun vs H Q E h => SpA.len AU.len_is_integer h) (fun cdv A outer s H vs Q E hr h => ⟨_, (pss_one (ps_ret (pe_and (pe_callB (call_isiK (K := K) rfl) (by rfl) T.m_isinstance (by decide +kernel) (pa_cons (pv 0) (pa_cons (pe_bltn (v := .ty "int") (u := .type "int") (by rfl) T.m_int (by decide +kernel) rfl) pa_nil))) (pe_one (pe_not (pe_callB (call_isiK (K := K) rfl) (by rfl) T.m_isinstance (by decide +kernel) (pa_cons (pv 0) (pa_cons (pe_bltn (v := .ty "bool") (u := .type "bool") (by rfl) T.m_bool (by decide +kernel) rfl) pa_nil)))))))), run_def h (fun ds O R X c hK hE hX hp => ?_)⟩)
  subst hK; clear h hr
  try dsimp only [cxOf, Cx.nox, Cx.wish]
  have hcl_Store := T.cl_Store; have hna_Store__held := T.nA_Store__held; have hna_Store__kept := T.nA_Store__kept; have hna_Store_many := T.nA_Store_many; have hna_Store_size := T.nA_Store_size
  obtain ⟨d, rfl, hd, k⟩ := hp
  cases hd <;> walk_at "al" <;> exact k

set_option maxHeartbeats 8000000 in
theorem ok_is_from (T : Tx K mg) (G_is_integer : FnOk P w K mg base CX0 1 T.a_is_integer T.fd_is_integer ["value"] (SpA K AU.C_is_integer)) : FnOk P w K mg base CX0 2 T.a_is_from T.fd_is_from ["value", "low", "high"] (SpA K AU.C_is_from) := by
  refine Fun.ok T.F_is_from sc_is_from (fun vs H Q E h => SpA.len AU.len_is_from h) (fun cdv A outer s H vs Q E hr h => ⟨_, (pss_one (ps_ret (pe_and (pe_call G_is_integer (hr.mono (by decide)) (by rfl) T.g_is_integer T.F_is_integer.kp T.b_is_integer .nil pass0 (pa_cons (pv 0) pa_nil)) (pe_one (pe_chain op_leA op_leA (pv 1) (pv 0) (pv 2)))))), run_def h (fun ds O R X c hK hE hX hp => ?_)⟩)
  subst hK; clear h hr
  try dsimp only [cxOf, Cx.nox, Cx.wish]
  have hcl_Store := T.cl_Store; have hna_Store__held := T.nA_Store__held; have hna_Store__kept := T.nA_Store__kept; have hna_Store_many := T.nA_Store_many; have hna_Store_size := T.nA_Store_size
  obtain ⟨d, a, b, rfl, hd, k⟩ := hp
  walk_at "al"
  refine ⟨d, rfl, hd, ?_⟩
  cases hd with
  | int n =>
    rw [show AU.isIntD (.int n) = true from rfl]
    walk_at "al"
    refine we_chain ?_
    walk_at "al"
    have k' : R O (.bl (decide (a ≤ n) && decide (n ≤ b))) := k
    refine ⟨fun ha => ?_, fun ha => ?_⟩
    · rw [ha] at k'
      walk_at "al"
      exact k'
    · rw [ha] at k'
      exact k'
  | bl n => rw [show AU.isIntD (.bl n) = false from rfl]; walk_at "al"; exact k
  | non => rw [show AU.isIntD .non = false from rfl]; walk_at "al"; exact k
  | str n => rw [show AU.isIntD (.str n) = false from rfl]; walk_at "al"; exact k
  | tup n => rw [show AU.isIntD (.tup n) = false from rfl]; walk_at "al"; exact k
  | lst n => rw [show AU.isIntD (.lst n) = false from rfl]; walk_at "al"; exact k

set_option maxHeartbeats 8000000 in
theorem ok_vectors (T : Tx K mg) : FnOk P w K mg base CX0 1 T.a_vectors T.fd_vectors ["rows"] (SpA K C_vectors) := by
  refine Fun.ok T.F_vectors sc_vectors (fun vs H Q E h => SpA.len len_vectors h) (fun cdv A outer s H vs Q E hr h => ⟨_, (pss_one (ps_ret (pe_callTy (call_tupK (K := K) rfl) (by rfl) T.m_tuple (by decide +kernel) (pa_cons (pe_lc (own := [("row", 1)]) (g := gName 1) (tt := tYes) rfl sc_vectors.nd (pi_K (fun K => iSeq K _) (K := K) rfl (pi_seq (pv 0))) (blkOk_by (N := n_vectors) (sc := defScope s_vectors) (by decide +kernel)) (fun _ _ _ _ _ => (pg_name (i := 1) sc_vectors.nd rfl (.inl rfl))) (fun _ _ _ _ _ => pts_nil) (fun _ _ _ _ _ => (pe_callTy (call_tupK (K := K) rfl) (by rfl) T.m_tuple (by decide +kernel) (pa_cons (pv 1) pa_nil)))) pa_nil)))), run_def h (fun ds O R X c hK hE hX hp => ?_)⟩)
  subst hK; clear h hr
  try dsimp only [cxOf, Cx.nox, Cx.wish]
  have hcl_Store := T.cl_Store; have hna_Store__held := T.nA_Store__held; have hna_Store__kept := T.nA_Store__kept; have hna_Store_many := T.nA_Store_many; have hna_Store_size := T.nA_Store_size
  obtain ⟨m, rfl, hl, k⟩ := hp
  walk_at "al"
  refine wn_lcM (α := List Int) dV dV (gok_name (by decide)) ?_
  walk_at "al"
  refine ⟨_, rfl, m, rfl, rfl, by omega, fun x hx => ?_, ?_⟩
  · walk_at "al"
    exact ⟨rfl, by walk_at "keeps"⟩
  · walk_at "al"
    exact k

set_option maxHeartbeats 8000000 in
theorem ok_fixed_row (T : Tx K mg) (G_vectors : FnOk P w K mg base CX0 1 T.a_vectors T.fd_vectors ["rows"] (SpA K C_vectors)) : FnOk P w K mg base CX0 2 T.a_fixed_row T.fd_fixed_row ["row"] (SpA K AU.C_fixed_row) := by
  refine Fun.ok T.F_fixed_row sc_fixed_row (fun vs H Q E h => SpA.len AU.len_fixed_row h) (fun cdv A outer s H vs Q E hr h => ⟨_, (pss_cons (ps_asg (pv 0) (pg_K (fun K => gTup K 2 _) (K := K) rfl (pg_tup (by rfl) (pgs_cons (pg_name (i := 1) sc_fixed_row.nd rfl (.inl rfl)) (pgs_cons (pg_name (i := 2) sc_fixed_row.nd rfl (.inl rfl)) pgs_nil)))))
      (pss_one (ps_ret (pe_tupP (pa_cons (pe_callTy (call_tupK (K := K) rfl) (by rfl) T.m_tuple (by decide +kernel) (pa_cons (pe_lc (own := [("pair", 3)]) (g := gName 3) (tt := tYes) rfl sc_fixed_row.nd (pi_K (fun K => iSeq K _) (K := K) rfl (pi_seq (pv 1))) (blkOk_by (N := n_fixed_row) (sc := defScope s_fixed_row) (by decide +kernel)) (fun _ _ _ _ _ => (pg_name (i := 3) sc_fixed_row.nd rfl (.inl rfl))) (fun _ _ _ _ _ => pts_nil) (fun _ _ _ _ _ => (pe_call G_vectors (hr.mono (by decide)) (by rfl) T.g_vectors T.F_vectors.kp T.b_vectors .nil pass0 (pa_cons (pv 3) pa_nil)))) pa_nil)) (pa_cons (pe_callTy (call_tupK (K := K) rfl) (by rfl) T.m_tuple (by decide +kernel) (pa_cons (pv 2) pa_nil)) pa_nil)))))), run_def h (fun ds O R X c hK hE hX hp => ?_)⟩)
  subst hK; clear h hr
  try dsimp only [cxOf, Cx.nox, Cx.wish]
  have hcl_Store := T.cl_Store; have hna_Store__held := T.nA_Store__held; have hna_Store__kept := T.nA_Store__kept; have hna_Store_many := T.nA_Store_many; have hna_Store_size := T.nA_Store_size
  obtain ⟨d, rfl, ⟨r, rfl, hp1, hk, hw⟩, k⟩ := hp
  refine vs_seq (vs_asgG ?_)
  walk_at "go"
  refine wg_tup rfl ?_
  walk_at "go"
  refine wn_lcM (α := Pr) dPr dPr (gok_name (by decide)) ?_
  walk_at "go"
  refine ⟨_, rfl, r.pairs, rfl, rfl, by omega, fun x hx => ?_, ?_⟩
  · walk_at "go"
    refine ⟨[x.1, x.2], rfl, Nat.le_of_ble_eq_true rfl, ?_⟩
    walk_at "go"
    exact ⟨rfl, by walk_at "keeps"⟩
  · walk_at "go"
    exact k

set_option maxHeartbeats 8000000 in
theorem ok__law_numbers (T : Tx K mg) : FnOk P w K mg base CX0 1 T.a__law_numbers T.fd__law_numbers ["cell", "at", "many"] (SpA K C__law_numbers) := by
  refine Fun.ok T.F__law_numbers sc__law_numbers (fun vs H Q E h => SpA.len len__law_numbers h) (fun cdv A outer s H vs Q E hr h => ⟨_, (pss_cons (ps_set (i := 3) sc__law_numbers.nd rfl (.inl rfl) (pe_cmpR op_geA (pe_callB call_absA (by rfl) T.m_abs (by decide +kernel) (pa_cons (pe_callTy call_intA (by rfl) T.m_int (by decide +kernel) (pa_cons (pv 0) pa_nil)) pa_nil)) (pe_op op_powA pe_int pe_int) (nomark _)))
      (pss_cons (ps_set (i := 4) sc__law_numbers.nd rfl (.inl rfl) (pe_op (op_addK (K := K) rfl) (pe_op op_mulA pe_int (pe_callB call_absA (by rfl) T.m_abs (by decide +kernel) (pa_cons (pe_callTy call_intA (by rfl) T.m_int (by decide +kernel) (pa_cons (pv 0) pa_nil)) pa_nil))) (pe_callTy call_intA (by rfl) T.m_int (by decide +kernel) (pa_cons (pe_cmpR op_ltA (pv 0) pe_int (nomark _)) pa_nil))))
      (pss_cons (ps_own (ps_set (i := 5) sc__law_numbers.nd rfl (.inl rfl) (pe_lst pa_nil)))
      (pss_cons (ps_for PassesOwn.never rfl (pi_range1 (by rfl) T.m_range (pa_cons (pv 2) pa_nil)) (pg_name (i := 6) sc__law_numbers.nd rfl (.inl rfl)) (pss_one (ps_if (pt_val (pv 3)) (pss_cons (ps_expr (pe_K (fun K => tBM K "list" rAppend _ _) (K := K) rfl (pe_bm PySem.F.plainAttrs_list PySem.F.slot_list_append PySem.F.type_list_append mt_append (pv 5) (pa_cons (pe_op op_modA (pe_callTy call_intA (by rfl) T.m_int (by decide +kernel) (pa_cons (pv 4) pa_nil)) pe_int) pa_nil))))
      (pss_one (ps_set (i := 4) sc__law_numbers.nd rfl (.inl rfl) (pe_op op_divA (pv 4) pe_int)))) (pss_cons (ps_set (i := 7) sc__law_numbers.nd rfl (.inl rfl) (pe_op op_modA (pe_callTy call_intA (by rfl) T.m_int (by decide +kernel) (pa_cons (pe_op (op_addK (K := K) rfl) (pe_op (op_addK (K := K) rfl) (pe_op (op_addK (K := K) rfl) (pe_op op_mulA (pv 4) pe_int) (pe_op op_mulA (pv 1) pe_int)) (pe_op op_mulA (pv 6) pe_int)) pe_int) pa_nil)) pe_int))
      (pss_cons (ps_set (i := 7) sc__law_numbers.nd rfl (.inl rfl) (pe_op op_modA (pe_callTy call_intA (by rfl) T.m_int (by decide +kernel) (pa_cons (pe_op (op_addK (K := K) rfl) (pe_op (op_addK (K := K) rfl) (pe_op op_mulA (pv 7) (pv 7)) (pe_op op_mulA (pv 6) pe_int)) pe_int) pa_nil)) pe_int))
      (pss_cons (ps_set (i := 7) sc__law_numbers.nd rfl (.inl rfl) (pe_op op_modA (pe_callTy call_intA (by rfl) T.m_int (by decide +kernel) (pa_cons (pe_op (op_addK (K := K) rfl) (pe_op (op_addK (K := K) rfl) (pe_op op_mulA (pv 7) (pv 7)) (pe_op op_mulA (pv 1) pe_int)) pe_int) pa_nil)) pe_int))
      (pss_one (ps_expr (pe_K (fun K => tBM K "list" rAppend _ _) (K := K) rfl (pe_bm PySem.F.plainAttrs_list PySem.F.slot_list_append PySem.F.type_list_append mt_append (pv 5) (pa_cons (pe_op op_modA (pe_callTy call_intA (by rfl) T.m_int (by decide +kernel) (pa_cons (pe_op op_divA (pv 7) pe_int) pa_nil)) pe_int) pa_nil)))))))))))
      (pss_one (ps_ret (pv 5))))))), run_def h (fun ds O R X c hK hE hX hp => ?_)⟩)
  subst hK; clear h hr
  try dsimp only [cxOf, Cx.nox, Cx.wish]
  have hcl_Store := T.cl_Store; have hna_Store__held := T.nA_Store__held; have hna_Store__kept := T.nA_Store__kept; have hna_Store_many := T.nA_Store_many; have hna_Store_size := T.nA_Store_size
  obtain ⟨cell, at_, many, rfl, h0, h1, k⟩ := hp
  walk_at "al"
  refine vs_for (fun i A => ∃ (rest : Int) (ns : List Int) (z1 z2 : Option SV) (b : Bool), A = ⟨[some (.val (.int cell)), some (.val (.int at_)), some (.val (.int many)), some (.val (.bl b)), some (.val (.int rest)), some (.own (.lst (ns.map .int))), z1, z2], O⟩ ∧ ns.length = i ∧ AllN ns) ?_
  walk_at "al"
  refine ⟨many, rfl, by omega, by omega, ⟨_, [], none, none, _, rfl, rfl, fun n h => (nomatch h)⟩, ?_, ?_⟩
  · rintro i d A2 hd ⟨rest, ns, z1, z2, b, rfl, hl, ha⟩
    obtain ⟨hi, rfl⟩ := intsD_at hd
    walk_at "al"
    refine ⟨fun hb => ?_, fun hb => ?_⟩
    · walk_at "al"
      refine ⟨_, rfl, by rw [List.length_map]; omega, ?_⟩
      walk_at "al"
      exact ⟨_, ns ++ [rest % 1000], _, _, _, by rw [List.map_append]; rfl, by rw [List.length_append, hl]; rfl, ha.app (by omega)⟩
    · walk_at "al"
      refine ⟨_, rfl, by rw [List.length_map]; omega, ?_⟩
      refine ⟨rest, ns ++ [_], _, _, _, by rw [List.map_append]; rfl, by rw [List.length_append, hl]; rfl, ha.app ?_⟩
      omega
  · rintro A2 ⟨rest, ns, z1, z2, b, rfl, hl, ha⟩
    walk_at "al"
    rw [intsD_len] at hl
    exact k ns (by omega) ha

set_option maxHeartbeats 8000000 in
theorem ok__law_same (T : Tx K mg) : ∀ k : Nat, FnOk P w K mg base CX0 (k + 1) T.a__law_same T.fd__law_same ["actual", "expected"] (SpA K (C__law_same k)) := by
  intro k
  induction k with
  | zero => exact ⟨fun vs H Q E h => SpA.len len__law_same h, fun A outer s H args us vs Q E hr e b v h => (none__law_same h).elim⟩
  | succ k G__law_same =>
  refine T.F__law_same.ok sc__law_same (fun vs H Q E h => SpA.len len__law_same h) (fun cdv A outer s H vs Q E hr h => ⟨_, (pss_cons (ps_if (pt_cmpR op_isA (pv 1) pe_non (nomark _)) (pss_one (ps_ret (pe_cmpR op_isA (pv 0) pe_non (nomark _)))) pss_nil)
      (pss_cons (ps_if (pt_val (pe_callB (call_isiK (K := K) rfl) (by rfl) T.m_isinstance (by decide +kernel) (pa_cons (pv 1) (pa_cons (pe_bltn (v := .ty "str") (u := .type "str") (by rfl) T.m_str (by decide +kernel) rfl) pa_nil)))) (pss_one (ps_ret (pe_and (pe_callB (call_isiK (K := K) rfl) (by rfl) T.m_isinstance (by decide +kernel) (pa_cons (pv 0) (pa_cons (pe_bltn (v := .ty "str") (u := .type "str") (by rfl) T.m_str (by decide +kernel) rfl) pa_nil))) (pe_one (pe_cmpR (op_eqK (K := K) rfl hr.units) (pv 0) (pv 1) (nomark _)))))) pss_nil)
      (pss_cons (ps_if (pt_val (pe_callB (call_isiK (K := K) rfl) (by rfl) T.m_isinstance (by decide +kernel) (pa_cons (pv 1) (pa_cons (pe_bltn (v := .ty "bool") (u := .type "bool") (by rfl) T.m_bool (by decide +kernel) rfl) pa_nil)))) (pss_one (ps_ret (pe_and (pe_callB (call_isiK (K := K) rfl) (by rfl) T.m_isinstance (by decide +kernel) (pa_cons (pv 0) (pa_cons (pe_bltn (v := .ty "bool") (u := .type "bool") (by rfl) T.m_bool (by decide +kernel) rfl) pa_nil))) (pe_one (pe_cmpR (op_eqK (K := K) rfl hr.units) (pv 0) (pv 1) (nomark _)))))) pss_nil)
      (pss_cons (ps_if (pt_val (pe_callB (call_isiK (K := K) rfl) (by rfl) T.m_isinstance (by decide +kernel) (pa_cons (pv 1) (pa_cons (pe_bltn (v := .ty "int") (u := .type "int") (by rfl) T.m_int (by decide +kernel) rfl) pa_nil)))) (pss_one (ps_ret (pe_and (pe_callB (call_isiK (K := K) rfl) (by rfl) T.m_isinstance (by decide +kernel) (pa_cons (pv 0) (pa_cons (pe_bltn (v := .ty "int") (u := .type "int") (by rfl) T.m_int (by decide +kernel) rfl) pa_nil))) (pe_and (pe_not (pe_callB (call_isiK (K := K) rfl) (by rfl) T.m_isinstance (by decide +kernel) (pa_cons (pv 0) (pa_cons (pe_bltn (v := .ty "bool") (u := .type "bool") (by rfl) T.m_bool (by decide +kernel) rfl) pa_nil)))) (pe_one (pe_cmpR (op_eqK (K := K) rfl hr.units) (pv 0) (pv 1) (nomark _))))))) pss_nil)
      (pss_cons (ps_if (PW.pt (pw_or (pt_not (pt_val (pe_callB (call_isiK (K := K) rfl) (by rfl) T.m_isinstance (by decide +kernel) (pa_cons (pv 0) (pa_cons (pe_bltn (v := .ty "tuple") (u := .type "tuple") (by rfl) T.m_tuple (by decide +kernel) rfl) pa_nil))))) (pw_or1 (pt_cmpR (op_neK (K := K) rfl hr.units) (pe_callB (call_lenK (K := K) rfl) (by rfl) T.m_len (by decide +kernel) (pa_cons (pv 0) pa_nil)) (pe_callB (call_lenK (K := K) rfl) (by rfl) T.m_len (by decide +kernel) (pa_cons (pv 1) pa_nil)) (nomark _))))) (pss_one (ps_ret pe_bl)) pss_nil)
      (pss_cons (ps_for PassesOwn.never rfl (pi_range1 (by rfl) T.m_range (pa_cons (pe_callB (call_lenK (K := K) rfl) (by rfl) T.m_len (by decide +kernel) (pa_cons (pv 1) pa_nil)) pa_nil)) (pg_name (i := 2) sc__law_same.nd rfl (.inl rfl)) (pss_one (ps_if (pt_not (pt_val (pe_call G__law_same hr (by rfl) T.g__law_same T.F__law_same.kp T.b__law_same .nil pass0 (pa_cons (pe_ix (ix_seqK (K := K) rfl) (pv 0) (pv 2) (fun _ _ => rfl)) (pa_cons (pe_ix (ix_seqK (K := K) rfl) (pv 1) (pv 2) (fun _ _ => rfl)) pa_nil))))) (pss_one (ps_ret pe_bl)) pss_nil)))
      (pss_one (ps_ret pe_bl)))))))), run_def h (fun ds O R X c hK hE hX hp => ?_)⟩)
  subst hK; clear h hr
  try dsimp only [cxOf, Cx.nox, Cx.wish]
  have hcl_Store := T.cl_Store; have hna_Store__held := T.nA_Store__held; have hna_Store__kept := T.nA_Store__kept; have hna_Store_many := T.nA_Store_many; have hna_Store_size := T.nA_Store_size
  obtain ⟨a, e, rfl, ha, he, q⟩ := hp
  have fin : ∀ {b : Bool}, sameK (k + 1) a e = b → R O (.bl b) := fun {b} z => z ▸ q
  cases e <;> first
    | exact (he : False).elim
    | (walk_at "al"
       cases a <;> first
        | exact (ha : False).elim
        | (walk_at "al" <;> exact fin rfl)
        | skip)
  rename_i es as
  walk_at "al"
  refine ⟨fun hb => ?_, fun hb => ?_⟩
  · walk_at "al"
    refine fin ?_
    have hb : ¬ as.length = es.length := fun z => by rw [z] at hb; simp at hb
    simp [sameK, hb]
  · have hb : as.length = es.length := by
      have z : (as.length : Int) = es.length := by simpa using hb
      omega
    walk_at "al"
    refine vs_for (fun i A => ∃ z, A = ⟨[some (.val (.tup as)), some (.val (.tup es)), z], O⟩ ∧ ∀ j : Nat, j < i → sameK k (as.getD j .non) (es.getD j .non) = true) ?_
    walk_at "al"
    have hel : es.length < 1000 := he.1
    refine ⟨_, rfl, by omega, by omega, ⟨none, rfl, fun j h => absurd h (Nat.not_lt_zero _)⟩, ?_, ?_⟩
    · rintro i d A2 hd ⟨z, rfl, hz⟩
      obtain ⟨hi, rfl⟩ := intsD_at hd
      have hi : i < es.length := by omega
      have hia : i < as.length := by omega
      walk_at "al"
      refine od_ixT (ds := as) rfl (atI_of (by omega) (show as[(0 + (i : Int)).toNat]? = some (as.getD i .non) by rw [show (0 + (i : Int)).toNat = i by omega, List.getElem?_eq_getElem hia, getD_lt hia])) ?_
      walk_at "al"
      refine od_ixT (ds := es) rfl (atI_of (by omega) (show es[(0 + (i : Int)).toNat]? = some (es.getD i .non) by rw [show (0 + (i : Int)).toNat = i by omega, List.getElem?_eq_getElem hi, getD_lt hi])) ?_
      walk_at "al"
      refine ⟨_, _, rfl, by rw [getD_lt hia]; exact ha.2 _ (List.getElem_mem hia), by rw [getD_lt hi]; exact he.2 _ (List.getElem_mem hi), ?_⟩
      walk_at "al"
      refine ⟨fun hc => ?_, fun hc => ?_⟩
      · walk_at "al"
        refine fin ?_
        have hc : sameK k (as.getD i .non) (es.getD i .non) = false := by simpa using hc
        simp only [sameK, hb, decide_true, Bool.true_and]
        exact List.all_eq_false.mpr ⟨i, List.mem_range.mpr hi, by rw [hc]; exact Bool.false_ne_true⟩
      · have hc : sameK k (as.getD i .non) (es.getD i .non) = true := by simpa using hc
        walk_at "al"
        refine ⟨_, rfl, fun j hj => ?_⟩
        by_cases e : j = i
        · subst e; exact hc
        · exact hz j (by omega)
    · rintro A2 ⟨z, rfl, hz⟩
      walk_at "al"
      refine fin ?_
      simp only [sameK, hb, decide_true, Bool.true_and]
      refine List.all_eq_true.mpr fun j hj => ?_
      rw [intsD_len] at hz
      exact hz j (by have := List.mem_range.mp hj; omega)

set_option maxHeartbeats 8000000 in
theorem ok_Store___init__ (T : Tx K mg) (G_is_from : FnOk P w K mg base CX0 2 T.a_is_from T.fd_is_from ["value", "low", "high"] (SpA K AU.C_is_from)) : FnOk P w K mg base (L2N.CX P w) 3 T.a_Store___init__ T.fd_Store___init__ ["self", "many", "size"] (SpA K (AU.C_Store___init__ T.aC_Store T.aC_InvalidNumber)) := by
  refine okN T.F_Store___init__ sc_Store___init__ (fun vs H Q E h => SpA.len AU.len_Store___init__ h) (fun cdv A outer s H vs Q E hr h => ⟨_, (pss_cons (ps_if (pt_not (pt_val (pe_call G_is_from (hr.mono (by decide)) (by rfl) T.g_is_from T.F_is_from.kp T.b_is_from .nil pass0 (pa_cons (pv 1) (pa_cons pe_int (pa_cons pe_int pa_nil)))))) (pss_one (ps_raise1 rfl (IsDef.tk isDef) (L2N.pmknumber T.tx_InvalidNumber hr (pa_cons (pv 1) pa_nil) (by rfl)))) pss_nil)
      (pss_cons (ps_if (pt_not (pt_val (pe_call G_is_from (hr.mono (by decide)) (by rfl) T.g_is_from T.F_is_from.kp T.b_is_from .nil pass0 (pa_cons (pv 2) (pa_cons pe_int (pa_cons pe_int pa_nil)))))) (pss_one (ps_raise1 rfl (IsDef.tk isDef) (L2N.pmknumber T.tx_InvalidNumber hr (pa_cons (pv 2) pa_nil) (by rfl)))) pss_nil)
      (pss_cons (ps_K (fun K => sFld K _ _ _) (K := K) rfl (ps_fld (pv 0) (pv 1) rfl))
      (pss_cons (ps_K (fun K => sFld K _ _ _) (K := K) rfl (ps_fld (pv 0) (pv 2) rfl))
      (pss_cons (ps_K (fun K => sFld K _ _ _) (K := K) rfl (ps_fld (pv 0) (pe_op op_mulA (pe_lst (pa_cons pe_int pa_nil)) (pv 1)) rfl))
      (pss_one (ps_K (fun K => sFld K _ _ _) (K := K) rfl (ps_fld (pv 0) (pe_op op_mulA (pe_lst (pa_cons (pe_tupP pa_nil) pa_nil)) (pv 1)) rfl)))))))), run_def h (fun ds O R X c hK hE hX hp => ?_)⟩)
  subst hK; clear h hr
  try dsimp only [cxOf, Cx.nox, Cx.wish]
  have hcl_Store := T.cl_Store; have hna_Store__held := T.nA_Store__held; have hna_Store__kept := T.nA_Store__kept; have hna_Store_many := T.nA_Store_many; have hna_Store_size := T.nA_Store_size
  obtain ⟨i, d, e, rfl, hi, hd, he, x1, x2, k⟩ := hp
  obtain ⟨hO, hil⟩ := set_id hi
  refine vs_cut (fun A1 => A1 = ⟨entry n_Store___init__.length [.ptr i, d, e], O⟩ ∧ AU.isFromD d 1 60 = true) ?_ ?_
  · refine vs_if ?_
    walk_at "go"
    refine ⟨d, _, _, rfl, hd, ?_⟩
    cases h : AU.isFromD d 1 60 with
    | true =>
      walk_at "go"
      exact ⟨rfl, rfl⟩
    | false =>
      walk_at "go"
      refine ws_raise1 hE ?_
      walk_at "go"
      exact ⟨d, rfl, hX _ _ _ (x1 h)⟩
  rintro A1 ⟨rfl, h1⟩
  refine vs_cut (fun A1 => A1 = ⟨entry n_Store___init__.length [.ptr i, d, e], O⟩ ∧ AU.isFromD e 1 8 = true) ?_ ?_
  · refine vs_if ?_
    walk_at "go"
    refine ⟨e, _, _, rfl, he, ?_⟩
    cases h : AU.isFromD e 1 8 with
    | true =>
      walk_at "go"
      exact ⟨rfl, rfl⟩
    | false =>
      walk_at "go"
      refine ws_raise1 hE ?_
      walk_at "go"
      exact ⟨e, rfl, hX _ _ _ (x2 h1 h)⟩
  rintro A1 ⟨rfl, h2⟩
  obtain ⟨m, rfl, hm1, hm2⟩ := AU.isFromD_yes h1
  obtain ⟨z, rfl, hz1, hz2⟩ := AU.isFromD_yes h2
  obtain ⟨m, rfl, _, _⟩ := natOf (x := m) 1 60 hm1 hm2
  obtain ⟨z, rfl, _, _⟩ := natOf (x := z) 1 8 hz1 hz2
  have k := k m z rfl rfl (by omega) (by omega) (by omega) (by omega)
  refine vs_seq (vs_fldI ?_)
  walk_at "go"
  refine ⟨i, O, T.aC_Store, [], rfl, hO, hil, hcl_Store, hna_Store_many, by decide, ?_⟩
  refine vs_seq (vs_fldI ?_)
  walk_at "go"
  refine ⟨i, O, T.aC_Store, _, rfl, rfl, hil, hcl_Store, hna_Store_size, Nat.le_of_ble_eq_true rfl, ?_⟩
  refine vs_seq (vs_fldI ?_)
  refine we_cell (wn_rep ?_)
  walk_at "go"
  refine ⟨_, _, rfl, trivial, rfl, by omega, by rw [Int.toNat_natCast]; show 1 * _ ≤ _; omega, ?_⟩
  walk_at "go"
  refine ⟨i, O ++ [.lst (AU.dN (List.replicate m 0))], T.aC_Store, [("many", .int (m : Nat)), ("size", .int (z : Nat))], rfl, ?_, by rw [List.length_append]; omega, hcl_Store, hna_Store__held, Nat.le_of_ble_eq_true rfl, ?_⟩
  · rw [List.set_append_left _ _ hil, Int.toNat_natCast]
    show _ ++ [Cell.lst (List.replicate m [D.int 0]).flatten] = _
    rw [List.flatten_replicate_singleton]
    unfold AU.dN; rw [List.map_replicate]; rfl
  refine vs_fldI ?_
  refine we_cell (wn_rep ?_)
  walk_at "go"
  refine ⟨_, _, rfl, trivial, rfl, by omega, by rw [Int.toNat_natCast]; show 1 * _ ≤ _; omega, ?_⟩
  walk_at "go"
  refine ⟨i, O ++ [.lst (AU.dN (List.replicate m 0)), .lst ((List.replicate m []).map .tup)], T.aC_Store, [("many", .int (m : Nat)), ("size", .int (z : Nat)), ("_held", .ptr O.length)], rfl, ?_, by rw [List.length_append]; omega, hcl_Store, hna_Store__kept, Nat.le_of_ble_eq_true rfl, ?_⟩
  · rw [List.set_append_left _ _ hil, List.set_append_left _ _ hil, Int.toNat_natCast, List.append_assoc]
    show _ ++ [Cell.lst _, Cell.lst (List.replicate m [D.tup []]).flatten] = _
    rw [List.flatten_replicate_singleton, List.map_replicate]
    simp only [List.length_set]; rfl
  rw [List.length_set, List.length_append]
  exact k

set_option maxHeartbeats 8000000 in
theorem ok_Store_free (T : Tx K mg) : FnOk P w K mg base CX0 1 T.a_Store_free T.fd_Store_free ["self"] (SpA K (AU.C_Store_free T.aC_Store)) := by
  refine Fun.ok T.F_Store_free sc_Store_free (fun vs H Q E h => SpA.len AU.len_Store_free h) (fun cdv A outer s H vs Q E hr h => ⟨_, (pss_one (ps_ret (pe_callB (call_lenK (K := K) rfl) (by rfl) T.m_len (by decide +kernel) (pa_cons (pe_lc (own := [("held", 1)]) (g := gName 1) rfl sc_Store_free.nd (pi_K (fun K => iSeq K _) (K := K) rfl (pi_seq (pe_K (fun K => tFld K _ _) (K := K) rfl (pe_fld (pv 0) rfl)))) (blkOk_by (N := n_Store_free) (sc := defScope s_Store_free) (by decide +kernel)) (fun _ _ _ _ _ => (pg_name (i := 1) sc_Store_free.nd rfl (.inl rfl))) (fun _ _ _ _ _ => (pts_one (pt_cmpR (op_eqK (K := K) rfl hr.units) (pv 1) pe_int (nomark _)))) (fun _ _ _ _ _ => (pv 1))) pa_nil)))), run_def h (fun ds O R X c hK hE hX hp => ?_)⟩)
  subst hK; clear h hr
  try dsimp only [cxOf, Cx.nox, Cx.wish]
  have hcl_Store := T.cl_Store; have hna_Store__held := T.nA_Store__held; have hna_Store__kept := T.nA_Store__kept; have hna_Store_many := T.nA_Store_many; have hna_Store_size := T.nA_Store_size
  obtain ⟨n, h, k', s, rfl, hs, k⟩ := hp
  have i1 := hs.ins
  have i2 := hs.held
  have hl := hs.wf.hl
  have hm := hs.wf.m60
  walk_at "go"
  refine wn_lcC (gok_name (by decide)) ?_
  walk_at "go"
  refine ⟨h, _, rfl, i2, rfl, by rw [AU.dN_len]; omega, fun i O' acc => O' = O ∧ acc.length = (s.held.take i).count 0, ⟨rfl, rfl⟩, fun i O' acc z => by rw [z.1]; exact i2, ?_, ?_⟩
  · rintro i d O' acc hd ⟨rfl, ha⟩
    unfold AU.dN at hd
    rw [List.getElem?_map] at hd
    obtain ⟨x, hx, rfl⟩ : ∃ x, s.held[i]? = some x ∧ d = .int (x : Nat) := by
      cases e : s.held[i]? with
      | none => rw [e] at hd; cases hd
      | some kk => rw [e] at hd; cases hd; exact ⟨kk, rfl, rfl⟩
    have ht : (s.held.take (i + 1)).count 0 = (s.held.take i).count 0 + if x = 0 then 1 else 0 := by
      rw [List.take_add_one, hx, List.count_append]
      show _ + List.count 0 [x] = _
      rw [List.count_singleton]
      by_cases e : x = 0 <;> simp [e]
    walk_at "go"
    refine ⟨fun hb => ?_, fun hb => ?_⟩
    · have hb : x = 0 := by have := of_decide_eq_true hb; omega
      rw [if_pos hb] at ht
      walk_at "go"
      exact ⟨⟨rfl, by rw [List.length_append, ha, ht]; rfl⟩, fun j hj => AU.keepj (v := 1) (by decide) hj⟩
    · have hb : x ≠ 0 := by have := of_decide_eq_false hb; omega
      rw [if_neg hb] at ht
      exact ⟨⟨rfl, by rw [ha, ht]; rfl⟩, fun j hj => AU.keepj (v := 1) (by decide) hj⟩
  · rintro O' acc ⟨rfl, ha⟩
    rw [AU.dN_len, List.take_length] at ha
    walk_at "go"
    rw [ha]; exact k

set_option maxHeartbeats 8000000 in
theorem ok_Store__check_block (T : Tx K mg) (G_is_from : FnOk P w K mg base CX0 2 T.a_is_from T.fd_is_from ["value", "low", "high"] (SpA K AU.C_is_from)) : FnOk P w K mg base (L2N.CX P w) 3 T.a_Store__check_block T.fd_Store__check_block ["self", "block"] (SpA K (AU.C_Store__check_block T.aC_Store T.aC_NotHeld)) := by
  refine okN T.F_Store__check_block sc_Store__check_block (fun vs H Q E h => SpA.len AU.len_Store__check_block h) (fun cdv A outer s H vs Q E hr h => ⟨_, (pss_one (ps_if (pt_not (pt_val (pe_call G_is_from (hr.mono (by decide)) (by rfl) T.g_is_from T.F_is_from.kp T.b_is_from .nil pass0 (pa_cons (pv 1) (pa_cons pe_int (pa_cons (pe_op op_subA (pe_K (fun K => tFld K _ _) (K := K) rfl (pe_fld (pv 0) rfl)) pe_int) pa_nil)))))) (pss_one (ps_raise1 rfl (IsDef.tk isDef) (L2N.pmkblock T.tx_NotHeld hr (pa_cons (pv 1) pa_nil) (by rfl)))) pss_nil)), run_def h (fun ds O R X c hK hE hX hp => ?_)⟩)
  subst hK; clear h hr
  try dsimp only [cxOf, Cx.nox, Cx.wish]
  have hcl_Store := T.cl_Store; have hna_Store__held := T.nA_Store__held; have hna_Store__kept := T.nA_Store__kept; have hna_Store_many := T.nA_Store_many; have hna_Store_size := T.nA_Store_size
  obtain ⟨n, h, k', s, d, rfl, hs, hd, k, kx⟩ := hp
  have i1 := hs.ins
  refine vs_if ?_
  walk_at "go"
  refine ⟨d, _, _, rfl, hd, ?_⟩
  rw [AU.blockOf_isFrom]
  cases hb : AU.blockOf s d with
  | some b =>
    rw [show (some b).isSome = true from rfl]
    walk_at "go"
    exact k b hb
  | none =>
    rw [show (none : Option Nat).isSome = false from rfl]
    walk_at "go"
    refine ws_raise1 hE ?_
    walk_at "go"
    exact ⟨d, rfl, hX _ _ _ (kx hb)⟩

set_option maxHeartbeats 8000000 in
theorem ok_Store__check_held (T : Tx K mg) (G_Store__check_block : FnOk P w K mg base (L2N.CX P w) 3 T.a_Store__check_block T.fd_Store__check_block ["self", "block"] (SpA K (AU.C_Store__check_block T.aC_Store T.aC_NotHeld))) : FnOk P w K mg base (L2N.CX P w) 4 T.a_Store__check_held T.fd_Store__check_held ["self", "block"] (SpA K (AU.C_Store__check_held T.aC_Store T.aC_NotHeld)) := by
  refine okN T.F_Store__check_held sc_Store__check_held (fun vs H Q E h => SpA.len AU.len_Store__check_held h) (fun cdv A outer s H vs Q E hr h => ⟨_, (pss_cons (ps_expr (pe_meth (pv 0) T.cl_Store T.meth_Store__check_block G_Store__check_block (hr.mono (by decide)) T.b_Store__check_block .nil (IsDef.pass isDef) (pa_cons (pv 1) pa_nil)))
      (pss_one (ps_if (pt_cmpR (op_eqK (K := K) rfl hr.units) (pe_ix (ix_seqK (K := K) rfl) (pe_K (fun K => tFld K _ _) (K := K) rfl (pe_fld (pv 0) rfl)) (pv 1) (fun _ _ => rfl)) pe_int (nomark _)) (pss_one (ps_raise1 rfl (IsDef.tk isDef) (L2N.pmkblock T.tx_NotHeld hr (pa_cons (pv 1) pa_nil) (by rfl)))) pss_nil))), run_def h (fun ds O R X c hK hE hX hp => ?_)⟩)
  subst hK; clear h hr
  try dsimp only [cxOf, Cx.nox, Cx.wish]
  have hcl_Store := T.cl_Store; have hna_Store__held := T.nA_Store__held; have hna_Store__kept := T.nA_Store__kept; have hna_Store_many := T.nA_Store_many; have hna_Store_size := T.nA_Store_size
  obtain ⟨n, h, k', s, d, rfl, hs, hd, k, kx⟩ := hp
  have i1 := hs.ins
  have i2 := hs.held
  have hl := hs.wf.hl
  refine vs_seqD (vs_drop (we_methX hE ?_))
  walk_at "go"
  refine ⟨n, h, k', s, d, rfl, hs, hd, fun b hb => ?_, fun hb => hX _ _ _ (kx (AU.heldOf_none' hb))⟩
  obtain ⟨rfl, hbm⟩ := AU.blockOf_some hb
  walk_at "go"
  refine vs_if ?_
  walk_at "go"
  refine ⟨fun h0 => ?_, fun h0 => ?_⟩
  · have h0 : s.held.getD b 0 = 0 := by have := of_decide_eq_true h0; omega
    refine ws_raise1 hE ?_
    walk_at "go"
    exact ⟨_, rfl, hX _ _ _ (kx (AU.heldOf_none hb h0))⟩
  · have h0 : s.held.getD b 0 ≠ 0 := by have := of_decide_eq_false h0; omega
    walk_at "go"
    exact k b (AU.heldOf_some' hb h0)

set_option maxHeartbeats 8000000 in
theorem ok_Store__check_alone (T : Tx K mg) (G_Store__check_held : FnOk P w K mg base (L2N.CX P w) 4 T.a_Store__check_held T.fd_Store__check_held ["self", "block"] (SpA K (AU.C_Store__check_held T.aC_Store T.aC_NotHeld))) : FnOk P w K mg base (L2N.CX P w) 5 T.a_Store__check_alone T.fd_Store__check_alone ["self", "block"] (SpA K (AU.C_Store__check_alone T.aC_Store T.aC_NotAlone T.aC_NotHeld)) := by
  refine okN T.F_Store__check_alone sc_Store__check_alone (fun vs H Q E h => SpA.len AU.len_Store__check_alone h) (fun cdv A outer s H vs Q E hr h => ⟨_, (pss_cons (ps_expr (pe_meth (pv 0) T.cl_Store T.meth_Store__check_held G_Store__check_held (hr.mono (by decide)) T.b_Store__check_held .nil (IsDef.pass isDef) (pa_cons (pv 1) pa_nil)))
      (pss_one (ps_if (pt_cmpR op_gtA (pe_ix (ix_seqK (K := K) rfl) (pe_K (fun K => tFld K _ _) (K := K) rfl (pe_fld (pv 0) rfl)) (pv 1) (fun _ _ => rfl)) pe_int (nomark _)) (pss_one (ps_raise1 rfl (IsDef.tk isDef) (L2N.pmkblock T.tx_NotAlone hr (pa_cons (pv 1) pa_nil) (by rfl)))) pss_nil))), run_def h (fun ds O R X c hK hE hX hp => ?_)⟩)
  subst hK; clear h hr
  try dsimp only [cxOf, Cx.nox, Cx.wish]
  have hcl_Store := T.cl_Store; have hna_Store__held := T.nA_Store__held; have hna_Store__kept := T.nA_Store__kept; have hna_Store_many := T.nA_Store_many; have hna_Store_size := T.nA_Store_size
  obtain ⟨n, h, k', s, d, rfl, hs, hd, k, kn, ka⟩ := hp
  have i1 := hs.ins
  have i2 := hs.held
  have hl := hs.wf.hl
  refine vs_seqD (vs_drop (we_methX hE ?_))
  walk_at "gox"
  refine ⟨n, h, k', s, d, rfl, hs, hd, fun b hb => ?_, fun hb => hX _ _ _ (kn hb)⟩
  have hb' := hb
  obtain ⟨rfl, hbm, h0⟩ := AU.heldOf_some hb
  walk_at "gox"
  refine vs_if ?_
  walk_at "gox"
  refine ⟨fun h1 => ?_, fun h1 => ?_⟩
  · have h1 : 1 < s.held.getD b 0 := by have := of_decide_eq_true h1; omega
    refine ws_raise1 hE ?_
    walk_at "gox"
    exact ⟨_, rfl, hX _ _ _ (ka b hb' h1)⟩
  · have h1 : s.held.getD b 0 ≤ 1 := by have := of_decide_eq_false h1; omega
    walk_at "gox"
    exact k b hb' h1

set_option maxHeartbeats 8000000 in
theorem ok_Store_take (T : Tx K mg) (G_Store_free : FnOk P w K mg base CX0 1 T.a_Store_free T.fd_Store_free ["self"] (SpA K (AU.C_Store_free T.aC_Store))) : FnOk P w K mg base (L2N.CX P w) 3 T.a_Store_take T.fd_Store_take ["self"] (SpA K (AU.C_Store_take T.aC_Store T.aC_NoRoom)) := by
  refine okN T.F_Store_take sc_Store_take (fun vs H Q E h => SpA.len AU.len_Store_take h) (fun cdv A outer s H vs Q E hr h => ⟨_, (pss_cons (ps_if (pt_cmpR (op_eqK (K := K) rfl hr.units) (pe_prop (pv 0) T.cl_Store T.prop_Store_free G_Store_free (hr.mono (by decide)) T.b_Store_free .nil pass0 rfl) pe_int (nomark _)) (pss_one (ps_raise1 rfl (IsDef.tk isDef) (L2N.pmkmany T.tx_NoRoom hr (pa_cons pe_int pa_nil) (by rfl)))) pss_nil)
      (pss_cons (ps_set (i := 1) sc_Store_take.nd rfl (.inl rfl) (pe_K (fun K => tIndexA K _ _) (K := K) rfl (pe_orE (pe_bm PySem.F.plainAttrs_list PySem.F.slot_list_index PySem.F.type_list_index mt_index (pe_K (fun K => tFld K _ _) (K := K) rfl (pe_fld (pv 0) rfl)) (pa_cons pe_int pa_nil)) (pe_indexT (pe_K (fun K => tFld K _ _) (K := K) rfl (pe_fld (pv 0) rfl)) (pa_cons pe_int pa_nil) PySem.F.slot_tuple_index))))
      (pss_cons (ps_asg pe_int (pg_sub (pe_K (fun K => tFld K _ _) (K := K) rfl (pe_fld (pv 0) rfl)) (pv 1) set_list))
      (pss_one (ps_ret (pv 1)))))), run_def h (fun ds O R X c hK hE hX hp => ?_)⟩)
  subst hK; clear h hr
  try dsimp only [cxOf, Cx.nox, Cx.wish]
  have hcl_Store := T.cl_Store; have hna_Store__held := T.nA_Store__held; have hna_Store__kept := T.nA_Store__kept; have hna_Store_many := T.nA_Store_many; have hna_Store_size := T.nA_Store_size
  obtain ⟨n, h, k', s, rfl, hs, k, kx⟩ := hp
  have i1 := hs.ins
  have i2 := hs.held
  have hl := hs.wf.hl
  refine vs_seq (vs_if ?_)
  walk_at "go"
  refine ⟨n, h, k', s, rfl, hs, ?_⟩
  walk_at "go"
  refine ⟨fun h0 => ?_, fun h0 => ?_⟩
  · have h0 : AU.freeOf s = 0 := by have := of_decide_eq_true h0; omega
    refine ws_raise1 hE ?_
    walk_at "go"
    exact ⟨_, rfl, hX _ _ _ (kx (AU.lowest_none.mpr h0))⟩
  · have h0 : AU.freeOf s ≠ 0 := by have := of_decide_eq_false h0; omega
    obtain ⟨b, hb⟩ : ∃ b, AU.lowest s = some b := by
      cases e : AU.lowest s with
      | none => exact absurd (AU.lowest_none.mp e) h0
      | some b => exact ⟨b, rfl⟩
    obtain ⟨hbl, hb0, hbn⟩ := AU.lowest_some hb
    walk_at "go"
    refine we_indexL ?_
    walk_at "go"
    refine ⟨_, lsC i2, ?_⟩
    walk_at "go"
    refine ⟨s.held.map Int.ofNat, 0, b, rfl, trivial, by rw [← AU.dN_dL]; exact lsC i2, ?_, fun m hm => ?_, ?_⟩
    · rw [List.getElem?_map, List.getElem?_eq_getElem hbl]
      rw [getD_lt hbl] at hb0
      show some (Int.ofNat _) = _
      rw [hb0]; rfl
    · have := hbn m hm
      rw [getD_lt (by omega)] at this
      rw [List.getElem?_map, List.getElem?_eq_getElem (by omega)]
      intro z
      have z : ((s.held[m]'(by omega) : Nat) : Int) = 0 := Option.some.inj z
      omega
    walk_at "go"
    refine ⟨h, _, _, b, rfl, i2, rfl, AU.ixN_n (by rw [AU.dN_len]; exact hbl), ?_⟩
    rw [show (1 : Int) = ((1 : Nat) : Int) from rfl, AU.dN_set]
    walk_at "go"
    exact k b hb

set_option maxHeartbeats 8000000 in
theorem ok_Store_hold (T : Tx K mg) (G_Store__check_held : FnOk P w K mg base (L2N.CX P w) 4 T.a_Store__check_held T.fd_Store__check_held ["self", "block"] (SpA K (AU.C_Store__check_held T.aC_Store T.aC_NotHeld))) : FnOk P w K mg base (L2N.CX P w) 5 T.a_Store_hold T.fd_Store_hold ["self", "block"] (SpA K (AU.C_Store_hold T.aC_Store T.aC_NotHeld)) := by
  refine okN T.F_Store_hold sc_Store_hold (fun vs H Q E h => SpA.len AU.len_Store_hold h) (fun cdv A outer s H vs Q E hr h => ⟨_, (pss_cons (ps_expr (pe_meth (pv 0) T.cl_Store T.meth_Store__check_held G_Store__check_held (hr.mono (by decide)) T.b_Store__check_held .nil (IsDef.pass isDef) (pa_cons (pv 1) pa_nil)))
      (pss_one (augK (K := K) rfl (ps_augS (pe_K (fun K => tFld K _ _) (K := K) rfl (pe_fld (pv 0) rfl)) (pv 1) get_list pe_int ip_add set_list)))), run_def h (fun ds O R X c hK hE hX hp => ?_)⟩)
  subst hK; clear h hr
  try dsimp only [cxOf, Cx.nox, Cx.wish]
  have hcl_Store := T.cl_Store; have hna_Store__held := T.nA_Store__held; have hna_Store__kept := T.nA_Store__kept; have hna_Store_many := T.nA_Store_many; have hna_Store_size := T.nA_Store_size
  obtain ⟨n, h, k', s, d, rfl, hs, hd, k, kx⟩ := hp
  have i1 := hs.ins
  have i2 := hs.held
  have hl := hs.wf.hl
  refine vs_seqD (vs_drop (we_methX hE ?_))
  walk_at "go"
  refine ⟨n, h, k', s, d, rfl, hs, hd, fun b hb => ?_, fun hb => hX _ _ _ (kx hb)⟩
  obtain ⟨rfl, hbm, h0⟩ := AU.heldOf_some hb
  walk_at "go"
  refine ⟨h, _, _, b, _, rfl, i2, rfl, AU.ixN_n (by rw [AU.dN_len]; omega), by unfold AU.dN; rw [List.getElem?_map, List.getElem?_eq_getElem (by omega)]; rfl, ?_⟩
  walk_at "go"
  refine ⟨_, i2, AU.ixN_n (by rw [AU.dN_len]; omega), ?_⟩
  have := k b hb
  rw [getD_lt (by omega)] at this
  rw [show (((s.held[b]'(by omega) : Nat) : Int) + 1) = ((s.held[b]'(by omega) + 1 : Nat) : Int) by omega, AU.dN_set]
  exact this

set_option maxHeartbeats 8000000 in
theorem ok_Store_release (T : Tx K mg) (G_Store__check_held : FnOk P w K mg base (L2N.CX P w) 4 T.a_Store__check_held T.fd_Store__check_held ["self", "block"] (SpA K (AU.C_Store__check_held T.aC_Store T.aC_NotHeld))) : FnOk P w K mg base (L2N.CX P w) 5 T.a_Store_release T.fd_Store_release ["self", "block"] (SpA K (AU.C_Store_release T.aC_Store T.aC_NotHeld)) := by
  refine okN T.F_Store_release sc_Store_release (fun vs H Q E h => SpA.len AU.len_Store_release h) (fun cdv A outer s H vs Q E hr h => ⟨_, (pss_cons (ps_expr (pe_meth (pv 0) T.cl_Store T.meth_Store__check_held G_Store__check_held (hr.mono (by decide)) T.b_Store__check_held .nil (IsDef.pass isDef) (pa_cons (pv 1) pa_nil)))
      (pss_cons (augK (K := K) rfl (ps_augS (pe_K (fun K => tFld K _ _) (K := K) rfl (pe_fld (pv 0) rfl)) (pv 1) get_list pe_int ip_sub set_list))
      (pss_one (ps_if (pt_cmpR (op_eqK (K := K) rfl hr.units) (pe_ix (ix_seqK (K := K) rfl) (pe_K (fun K => tFld K _ _) (K := K) rfl (pe_fld (pv 0) rfl)) (pv 1) (fun _ _ => rfl)) pe_int (nomark _)) (pss_one (ps_asg (pe_tupP pa_nil) (pg_sub (pe_K (fun K => tFld K _ _) (K := K) rfl (pe_fld (pv 0) rfl)) (pv 1) set_list))) pss_nil)))), run_def h (fun ds O R X c hK hE hX hp => ?_)⟩)
  subst hK; clear h hr
  try dsimp only [cxOf, Cx.nox, Cx.wish]
  have hcl_Store := T.cl_Store; have hna_Store__held := T.nA_Store__held; have hna_Store__kept := T.nA_Store__kept; have hna_Store_many := T.nA_Store_many; have hna_Store_size := T.nA_Store_size
  obtain ⟨n, h, k', s, d, rfl, hs, hd, k, kx⟩ := hp
  have i1 := hs.ins
  have i2 := hs.held
  have i3 := hs.kept
  have hl := hs.wf.hl
  have hkl := hs.wf.kl
  have hne := hs.ne
  have hnh := hs.nh
  have hnk := hs.nk
  refine vs_seqD (vs_drop (we_methX hE ?_))
  walk_at "go"
  refine ⟨n, h, k', s, d, rfl, hs, hd, fun b hb => ?_, fun hb => hX _ _ _ (kx hb)⟩
  obtain ⟨rfl, hbm, h0⟩ := AU.heldOf_some hb
  have k := k b hb
  unfold AU.releaseO at k
  walk_at "go"
  refine ⟨h, _, _, b, _, rfl, i2, rfl, AU.ixN_n (by rw [AU.dN_len]; omega), by unfold AU.dN; rw [List.getElem?_map, List.getElem?_eq_getElem (by omega)]; rfl, ?_⟩
  walk_at "go"
  refine ⟨_, i2, AU.ixN_n (by rw [AU.dN_len]; omega), ?_⟩
  rw [getD_lt (by omega)] at k h0
  rw [show (((s.held[b]'(by omega) : Nat) : Int) - 1) = ((s.held[b]'(by omega) - 1 : Nat) : Int) by omega, AU.dN_set]
  have j1 : (O.set h (.lst (AU.dN (s.held.set b (s.held[b]'(by omega) - 1)))))[n]? = some (.ins T.aC_Store (AU.storeF s h k')) := by rw [List.getElem?_set_ne (Ne.symm hnh)]; exact i1
  have j2 : (O.set h (.lst (AU.dN (s.held.set b (s.held[b]'(by omega) - 1)))))[h]? = some (.lst (AU.dN (s.held.set b (s.held[b]'(by omega) - 1)))) := by rw [List.getElem?_set_self (List.getElem?_eq_some_iff.mp i2).1]
  have j3 : (O.set h (.lst (AU.dN (s.held.set b (s.held[b]'(by omega) - 1)))))[k']? = some (.lst (s.kept.map .tup)) := by rw [List.getElem?_set_ne hne]; exact i3
  have hll : (s.held.set b (s.held[b]'(by omega) - 1)).length = s.many := by rw [List.length_set]; exact hl
  refine vs_if ?_
  walk_at "go"
  rw [AU.getD_set (by omega), if_pos rfl]
  refine ⟨fun h1 => ?_, fun h1 => ?_⟩
  · have h1 : s.held[b]'(by omega) = 1 := by have := of_decide_eq_true h1; omega
    rw [if_pos h1] at k
    walk_at "go"
    refine ⟨k', _, _, b, rfl, j3, rfl, AU.ixN_n (by rw [List.length_map]; omega), ?_⟩
    rw [h1, ← List.map_set (f := D.tup) (a := [])]
    exact k
  · have h1 : ¬ s.held[b]'(by omega) = 1 := by have := of_decide_eq_false h1; omega
    rw [if_neg h1] at k
    walk_at "go"
    exact k

set_option maxHeartbeats 8000000 in
theorem ok_Store_put_row (T : Tx K mg) (G_Store__check_alone : FnOk P w K mg base (L2N.CX P w) 5 T.a_Store__check_alone T.fd_Store__check_alone ["self", "block"] (SpA K (AU.C_Store__check_alone T.aC_Store T.aC_NotAlone T.aC_NotHeld))) (G_fixed_row : FnOk P w K mg base CX0 2 T.a_fixed_row T.fd_fixed_row ["row"] (SpA K AU.C_fixed_row)) : FnOk P w K mg base (L2N.CX P w) 6 T.a_Store_put_row T.fd_Store_put_row ["self", "block", "row"] (SpA K (AU.C_Store_put_row T.aC_Store T.aC_NoRoom T.aC_NotAlone T.aC_NotHeld)) := by
  refine okN T.F_Store_put_row sc_Store_put_row (fun vs H Q E h => SpA.len AU.len_Store_put_row h) (fun cdv A outer s H vs Q E hr h => ⟨_, (pss_cons (ps_expr (pe_meth (pv 0) T.cl_Store T.meth_Store__check_alone G_Store__check_alone (hr.mono (by decide)) T.b_Store__check_alone .nil (IsDef.pass isDef) (pa_cons (pv 1) pa_nil)))
      (pss_cons (ps_if (pt_cmpR (op_eqK (K := K) rfl hr.units) (pe_callB (call_lenK (K := K) rfl) (by rfl) T.m_len (by decide +kernel) (pa_cons (pe_ix (ix_seqK (K := K) rfl) (pe_K (fun K => tFld K _ _) (K := K) rfl (pe_fld (pv 0) rfl)) (pv 1) (fun _ _ => rfl)) pa_nil)) (pe_K (fun K => tFld K _ _) (K := K) rfl (pe_fld (pv 0) rfl)) (nomark _)) (pss_one (ps_raise1 rfl (IsDef.tk isDef) (L2N.pmkmany T.tx_NoRoom hr (pa_cons pe_int pa_nil) (by rfl)))) pss_nil)
      (pss_one (ps_asg (pe_op (op_addK (K := K) rfl) (pe_ix (ix_seqK (K := K) rfl) (pe_K (fun K => tFld K _ _) (K := K) rfl (pe_fld (pv 0) rfl)) (pv 1) (fun _ _ => rfl)) (pe_tupP (pa_cons (pe_call G_fixed_row (hr.mono (by decide)) (by rfl) T.g_fixed_row T.F_fixed_row.kp T.b_fixed_row .nil pass0 (pa_cons (pv 2) pa_nil)) pa_nil))) (pg_sub (pe_K (fun K => tFld K _ _) (K := K) rfl (pe_fld (pv 0) rfl)) (pv 1) set_list))))), run_def h (fun ds O R X c hK hE hX hp => ?_)⟩)
  subst hK; clear h hr
  try dsimp only [cxOf, Cx.nox, Cx.wish]
  have hcl_Store := T.cl_Store; have hna_Store__held := T.nA_Store__held; have hna_Store__kept := T.nA_Store__kept; have hna_Store_many := T.nA_Store_many; have hna_Store_size := T.nA_Store_size
  obtain ⟨n, h, k', s, d, v, rfl, hs, hd, hv, kn, k⟩ := hp
  have i1 := hs.ins
  have i3 := hs.kept
  have hkl := hs.wf.kl
  have hrw := hs.wf.rw
  have h8 := hs.wf.s8
  refine vs_seqD (vs_drop (we_methX hE ?_))
  walk_at "gox"
  refine ⟨n, h, k', s, d, rfl, hs, hd, fun b hb ha => ?_, fun hb => hX _ _ _ (kn hb), fun b hb ha => hX _ _ _ ((k b hb).1 ha)⟩
  have k2 := (k b hb).2 ha
  obtain ⟨rfl, hbm, h0⟩ := AU.heldOf_some hb
  have hix : atI (s.kept.map D.tup) (b : Int) = some (.tup (s.kept.getD b [])) := atI_map (x := s.kept.getD b []) (by omega) (by rw [Int.toNat_natCast, List.getElem?_eq_getElem (by omega), getD_lt (by omega)])
  have hll : (s.kept.getD b []).length ≤ 8 := by
    have := hrw (s.kept.getD b []) (by rw [getD_lt (by omega)]; exact List.getElem_mem _); omega
  refine vs_seq (vs_if ?_)
  walk_at "gox"
  refine od_ixL (lsC i3) hix ?_
  walk_at "gox"
  refine ⟨fun hl => ?_, fun hl => ?_⟩
  · have hl : (s.kept.getD b []).length = s.size := by have := of_decide_eq_true hl; omega
    refine ws_raise1 hE ?_
    walk_at "gox"
    exact ⟨_, rfl, hX _ _ _ (k2.1 hl)⟩
  · have hl : (s.kept.getD b []).length ≠ s.size := by have := of_decide_eq_false hl; omega
    walk_at "gox"
    refine od_ixL (lsC i3) hix ?_
    walk_at "gox"
    refine we_call0 ?_
    walk_at "gox"
    refine ⟨v, rfl, hv, ?_⟩
    walk_at "gox"
    refine od_catT (by show _ + 1 ≤ _; omega) ?_
    walk_at "gox"
    refine ⟨k', _, _, b, rfl, i3, rfl, AU.ixN_n (by rw [List.length_map]; omega), ?_⟩
    rw [← List.map_set]
    exact k2.2 hl

set_option maxHeartbeats 8000000 in
theorem ok_Store_shorten (T : Tx K mg) (G_Store__check_alone : FnOk P w K mg base (L2N.CX P w) 5 T.a_Store__check_alone T.fd_Store__check_alone ["self", "block"] (SpA K (AU.C_Store__check_alone T.aC_Store T.aC_NotAlone T.aC_NotHeld))) (G_is_from : FnOk P w K mg base CX0 2 T.a_is_from T.fd_is_from ["value", "low", "high"] (SpA K AU.C_is_from)) : FnOk P w K mg base (L2N.CX P w) 6 T.a_Store_shorten T.fd_Store_shorten ["self", "block", "many"] (SpA K (AU.C_Store_shorten T.aC_Store T.aC_InvalidNumber T.aC_NotAlone T.aC_NotHeld)) := by
  refine okN T.F_Store_shorten sc_Store_shorten (fun vs H Q E h => SpA.len AU.len_Store_shorten h) (fun cdv A outer s H vs Q E hr h => ⟨_, (pss_cons (ps_expr (pe_meth (pv 0) T.cl_Store T.meth_Store__check_alone G_Store__check_alone (hr.mono (by decide)) T.b_Store__check_alone .nil (IsDef.pass isDef) (pa_cons (pv 1) pa_nil)))
      (pss_cons (ps_if (pt_not (pt_val (pe_call G_is_from (hr.mono (by decide)) (by rfl) T.g_is_from T.F_is_from.kp T.b_is_from .nil pass0 (pa_cons (pv 2) (pa_cons pe_int (pa_cons (pe_callB (call_lenK (K := K) rfl) (by rfl) T.m_len (by decide +kernel) (pa_cons (pe_ix (ix_seqK (K := K) rfl) (pe_K (fun K => tFld K _ _) (K := K) rfl (pe_fld (pv 0) rfl)) (pv 1) (fun _ _ => rfl)) pa_nil)) pa_nil)))))) (pss_one (ps_raise1 rfl (IsDef.tk isDef) (L2N.pmknumber T.tx_InvalidNumber hr (pa_cons (pv 2) pa_nil) (by rfl)))) pss_nil)
      (pss_one (ps_asg (pe_slice (sl_K (K := K) rfl) (pe_ix (ix_seqK (K := K) rfl) (pe_K (fun K => tFld K _ _) (K := K) rfl (pe_fld (pv 0) rfl)) (pv 1) (fun _ _ => rfl)) po_none (po_some (pv 2))) (pg_sub (pe_K (fun K => tFld K _ _) (K := K) rfl (pe_fld (pv 0) rfl)) (pv 1) set_list))))), run_def h (fun ds O R X c hK hE hX hp => ?_)⟩)
  subst hK; clear h hr
  try dsimp only [cxOf, Cx.nox, Cx.wish]
  have hcl_Store := T.cl_Store; have hna_Store__held := T.nA_Store__held; have hna_Store__kept := T.nA_Store__kept; have hna_Store_many := T.nA_Store_many; have hna_Store_size := T.nA_Store_size
  obtain ⟨n, h, k', s, d, v, rfl, hs, hd, hv, kn, k⟩ := hp
  have i1 := hs.ins
  have i3 := hs.kept
  have hkl := hs.wf.kl
  refine vs_seqD (vs_drop (we_methX hE ?_))
  walk_at "gox"
  refine ⟨n, h, k', s, d, rfl, hs, hd, fun b hb ha => ?_, fun hb => hX _ _ _ (kn hb), fun b hb ha => hX _ _ _ ((k b hb).1 ha)⟩
  have k2 := (k b hb).2 ha
  obtain ⟨rfl, hbm, h0⟩ := AU.heldOf_some hb
  have hix : atI (s.kept.map D.tup) (b : Int) = some (.tup (s.kept.getD b [])) := atI_map (x := s.kept.getD b []) (by omega) (by rw [Int.toNat_natCast, List.getElem?_eq_getElem (by omega), getD_lt (by omega)])
  refine vs_seq (vs_if ?_)
  walk_at "gox"
  refine we_call0 ?_
  walk_at "gox"
  refine od_ixL (lsC i3) hix ?_
  walk_at "gox"
  refine ⟨v, _, _, rfl, hv, ?_⟩
  cases hb2 : AU.isFromD v 0 ((s.kept.getD b []).length : Int) with
  | false =>
    walk_at "gox"
    refine ws_raise1 hE ?_
    walk_at "gox"
    exact ⟨_, rfl, hX _ _ _ (k2.1 hb2)⟩
  | true =>
    obtain ⟨z, rfl, hz1, hz2⟩ := AU.isFromD_yes hb2
    obtain ⟨z, rfl, _, hz3⟩ := natOf (x := z) 0 _ hz1 hz2
    walk_at "gox"
    refine we_slT ?_
    walk_at "gox"
    refine od_ixL (lsC i3) hix ?_
    walk_at "gox"
    refine ⟨_, rfl, ?_⟩
    rw [show cutD (s.kept.getD b []) none (some (z : Int)) = (s.kept.getD b []).take z by have := cutD_tn (f := id) (xs := s.kept.getD b []) (a := z); rw [List.map_id, List.map_id] at this; exact this]
    walk_at "gox"
    refine ⟨k', _, _, b, rfl, i3, rfl, AU.ixN_n (by rw [List.length_map]; omega), ?_⟩
    rw [← List.map_set]
    exact k2.2 z rfl hz3

set_option maxHeartbeats 8000000 in
theorem ok_Store_rows (T : Tx K mg) (G_Store__check_held : FnOk P w K mg base (L2N.CX P w) 4 T.a_Store__check_held T.fd_Store__check_held ["self", "block"] (SpA K (AU.C_Store__check_held T.aC_Store T.aC_NotHeld))) : FnOk P w K mg base (L2N.CX P w) 5 T.a_Store_rows T.fd_Store_rows ["self", "block"] (SpA K (AU.C_Store_rows T.aC_Store T.aC_NotHeld)) := by
  refine okN T.F_Store_rows sc_Store_rows (fun vs H Q E h => SpA.len AU.len_Store_rows h) (fun cdv A outer s H vs Q E hr h => ⟨_, (pss_cons (ps_expr (pe_meth (pv 0) T.cl_Store T.meth_Store__check_held G_Store__check_held (hr.mono (by decide)) T.b_Store__check_held .nil (IsDef.pass isDef) (pa_cons (pv 1) pa_nil)))
      (pss_one (ps_ret (pe_ix (ix_seqK (K := K) rfl) (pe_K (fun K => tFld K _ _) (K := K) rfl (pe_fld (pv 0) rfl)) (pv 1) (fun _ _ => rfl))))), run_def h (fun ds O R X c hK hE hX hp => ?_)⟩)
  subst hK; clear h hr
  try dsimp only [cxOf, Cx.nox, Cx.wish]
  have hcl_Store := T.cl_Store; have hna_Store__held := T.nA_Store__held; have hna_Store__kept := T.nA_Store__kept; have hna_Store_many := T.nA_Store_many; have hna_Store_size := T.nA_Store_size
  obtain ⟨n, h, k', s, d, rfl, hs, hd, k, kx⟩ := hp
  have i1 := hs.ins
  have i3 := hs.kept
  have hkl := hs.wf.kl
  refine vs_seqD (vs_drop (we_methX hE ?_))
  walk_at "go"
  refine ⟨n, h, k', s, d, rfl, hs, hd, fun b hb => ?_, fun hb => hX _ _ _ (kx hb)⟩
  obtain ⟨rfl, hbm, h0⟩ := AU.heldOf_some hb
  walk_at "go"
  refine od_ixL (lsC i3) (atI_map (x := s.kept.getD b []) (by omega) (by rw [Int.toNat_natCast, List.getElem?_eq_getElem (by omega), getD_lt (by omega)])) ?_
  walk_at "go"
  exact k b hb

set_option maxHeartbeats 8000000 in
theorem ok_Store_holders (T : Tx K mg) (G_Store__check_block : FnOk P w K mg base (L2N.CX P w) 3 T.a_Store__check_block T.fd_Store__check_block ["self", "block"] (SpA K (AU.C_Store__check_block T.aC_Store T.aC_NotHeld))) : FnOk P w K mg base (L2N.CX P w) 4 T.a_Store_holders T.fd_Store_holders ["self", "block"] (SpA K (AU.C_Store_holders T.aC_Store T.aC_NotHeld)) := by
  refine okN T.F_Store_holders sc_Store_holders (fun vs H Q E h => SpA.len AU.len_Store_holders h) (fun cdv A outer s H vs Q E hr h => ⟨_, (pss_cons (ps_expr (pe_meth (pv 0) T.cl_Store T.meth_Store__check_block G_Store__check_block (hr.mono (by decide)) T.b_Store__check_block .nil (IsDef.pass isDef) (pa_cons (pv 1) pa_nil)))
      (pss_one (ps_ret (pe_ix (ix_seqK (K := K) rfl) (pe_K (fun K => tFld K _ _) (K := K) rfl (pe_fld (pv 0) rfl)) (pv 1) (fun _ _ => rfl))))), run_def h (fun ds O R X c hK hE hX hp => ?_)⟩)
  subst hK; clear h hr
  try dsimp only [cxOf, Cx.nox, Cx.wish]
  have hcl_Store := T.cl_Store; have hna_Store__held := T.nA_Store__held; have hna_Store__kept := T.nA_Store__kept; have hna_Store_many := T.nA_Store_many; have hna_Store_size := T.nA_Store_size
  obtain ⟨n, h, k', s, d, rfl, hs, hd, k, kx⟩ := hp
  have i1 := hs.ins
  have i2 := hs.held
  have hl := hs.wf.hl
  refine vs_seqD (vs_drop (we_methX hE ?_))
  walk_at "go"
  refine ⟨n, h, k', s, d, rfl, hs, hd, fun b hb => ?_, fun hb => hX _ _ _ (kx hb)⟩
  obtain ⟨rfl, hbm⟩ := AU.blockOf_some hb
  walk_at "go"
  exact k b hb

set_option maxHeartbeats 8000000 in
theorem ok__law_kinds (T : Tx K mg) : FnE P w K mg base 1 T.a__law_kinds T.fd__law_kinds "e" (SpE K (AU.C__law_kinds T.aC_InvalidNumber T.aC_NoRoom T.aC_NotAlone T.aC_NotHeld)) := by
  refine okEx T.F__law_kinds sc__law_kinds (fun cdv A outer s H Q E p cls d hz hf hgd hr h => ?_)
  obtain ⟨C, dx, rfl, rfl⟩ := h.cls
  refine ⟨_, (pss_cons (ps_own (ps_set (i := 1) sc__law_kinds.nd rfl (.inl rfl) (pe_lst pa_nil)))
      (pss_cons (ps_if (pt_val (pe_callB (call_isPK (K := K) rfl (List.mem_cons_self) hz hf) (by rfl) T.m_isinstance (by decide +kernel) (pa_cons (pv 0) (pa_cons (pe_glob (v := .ref T.aC_InvalidNumber) rfl T.mgC_InvalidNumber rfl) pa_nil)))) (pss_one (ps_expr (pe_K (fun K => tBM K "list" rAppend _ _) (K := K) rfl (pe_bm PySem.F.plainAttrs_list PySem.F.slot_list_append PySem.F.type_list_append mt_append (pv 1) (pa_cons (pe_tupP (pa_cons pe_str (pa_cons (pe_callB (call_reprK (K := K) rfl hgd hr.units) (by rfl) T.m_repr (by decide +kernel) (pa_cons (pe_xfP (List.mem_cons_self) T.xf_InvalidNumber T.nf_InvalidNumber hz hf (pv 0)) pa_nil)) pa_nil))) pa_nil))))) pss_nil)
      (pss_cons (ps_if (pt_val (pe_callB (call_isPK (K := K) rfl (List.mem_cons_self) hz hf) (by rfl) T.m_isinstance (by decide +kernel) (pa_cons (pv 0) (pa_cons (pe_glob (v := .ref T.aC_NoRoom) rfl T.mgC_NoRoom rfl) pa_nil)))) (pss_one (ps_expr (pe_K (fun K => tBM K "list" rAppend _ _) (K := K) rfl (pe_bm PySem.F.plainAttrs_list PySem.F.slot_list_append PySem.F.type_list_append mt_append (pv 1) (pa_cons (pe_tupP (pa_cons pe_str (pa_cons (pe_callB (call_reprK (K := K) rfl hgd hr.units) (by rfl) T.m_repr (by decide +kernel) (pa_cons (pe_xfP (List.mem_cons_self) T.xf_NoRoom T.nf_NoRoom hz hf (pv 0)) pa_nil)) pa_nil))) pa_nil))))) pss_nil)
      (pss_cons (ps_if (pt_val (pe_callB (call_isPK (K := K) rfl (List.mem_cons_self) hz hf) (by rfl) T.m_isinstance (by decide +kernel) (pa_cons (pv 0) (pa_cons (pe_glob (v := .ref T.aC_NotAlone) rfl T.mgC_NotAlone rfl) pa_nil)))) (pss_one (ps_expr (pe_K (fun K => tBM K "list" rAppend _ _) (K := K) rfl (pe_bm PySem.F.plainAttrs_list PySem.F.slot_list_append PySem.F.type_list_append mt_append (pv 1) (pa_cons (pe_tupP (pa_cons pe_str (pa_cons (pe_callB (call_reprK (K := K) rfl hgd hr.units) (by rfl) T.m_repr (by decide +kernel) (pa_cons (pe_xfP (List.mem_cons_self) T.xf_NotAlone T.nf_NotAlone hz hf (pv 0)) pa_nil)) pa_nil))) pa_nil))))) pss_nil)
      (pss_cons (ps_if (pt_val (pe_callB (call_isPK (K := K) rfl (List.mem_cons_self) hz hf) (by rfl) T.m_isinstance (by decide +kernel) (pa_cons (pv 0) (pa_cons (pe_glob (v := .ref T.aC_NotHeld) rfl T.mgC_NotHeld rfl) pa_nil)))) (pss_one (ps_expr (pe_K (fun K => tBM K "list" rAppend _ _) (K := K) rfl (pe_bm PySem.F.plainAttrs_list PySem.F.slot_list_append PySem.F.type_list_append mt_append (pv 1) (pa_cons (pe_tupP (pa_cons pe_str (pa_cons (pe_callB (call_reprK (K := K) rfl hgd hr.units) (by rfl) T.m_repr (by decide +kernel) (pa_cons (pe_xfP (List.mem_cons_self) T.xf_NotHeld T.nf_NotHeld hz hf (pv 0)) pa_nil)) pa_nil))) pa_nil))))) pss_nil)
      (pss_cons (ps_if (PW.pt (pw_or (pt_val (pe_callB (call_isPK (K := K) rfl (List.mem_cons_self) hz hf) (by rfl) T.m_isinstance (by decide +kernel) (pa_cons (pv 0) (pa_cons (pe_tupP (pa_cons (pe_glob (v := .ref T.aC_InvalidLetter) rfl T.mgC_InvalidLetter rfl) (pa_cons (pe_glob (v := .ref T.aC_NoHouse) rfl T.mgC_NoHouse rfl) (pa_cons (pe_glob (v := .ref T.aC_NoRequest) rfl T.mgC_NoRequest rfl) (pa_cons (pe_glob (v := .ref T.aC_TooLarge) rfl T.mgC_TooLarge rfl) pa_nil))))) pa_nil)))) (pw_or1 (pt_not (pt_val (pe_callB (call_isPK (K := K) rfl (List.mem_cons_self) hz hf) (by rfl) T.m_isinstance (by decide +kernel) (pa_cons (pv 0) (pa_cons (pe_bltn (v := .ty "ValueError") (u := .type "ValueError") (by rfl) T.m_ValueError (by decide +kernel) rfl) pa_nil)))))))) (pss_one (ps_expr (pe_K (fun K => tBM K "list" rAppend _ _) (K := K) rfl (pe_bm PySem.F.plainAttrs_list PySem.F.slot_list_append PySem.F.type_list_append mt_append (pv 1) (pa_cons (pe_tupP (pa_cons pe_str (pa_cons pe_str pa_nil))) pa_nil))))) pss_nil)
      (pss_cons (ps_if (pt_cmpR (op_eqK (K := K) rfl hr.units) (pe_callB (call_lenK (K := K) rfl) (by rfl) T.m_len (by decide +kernel) (pa_cons (pv 1) pa_nil)) pe_int (nomark _)) (pss_one (ps_ret (pe_ix (ix_seqK (K := K) rfl) (pv 1) pe_int (fun _ _ => rfl)))) pss_nil)
      (pss_one (ps_ret (pe_tupP (pa_cons pe_str (pa_cons pe_str pa_nil)))))))))))), run_bodyE h (fun fs O R c hK hv hp => ?_)⟩
  subst hK; clear h hr
  try dsimp only [cxOf, Cx.nox, Cx.wish]
  have hcl_Store := T.cl_Store; have hna_Store__held := T.nA_Store__held; have hna_Store__kept := T.nA_Store__kept; have hna_Store_many := T.nA_Store_many; have hna_Store_size := T.nA_Store_size; have hxc_InvalidNumber := T.xc_InvalidNumber; have hkv_InvalidNumber := T.kv_InvalidNumber; have hem_InvalidNumber := T.em_InvalidNumber; have hko_InvalidNumber_InvalidLetter := T.ko_InvalidNumber_InvalidLetter; have hko_InvalidNumber_InvalidNumber := T.ko_InvalidNumber_InvalidNumber; have hko_InvalidNumber_NoHouse := T.ko_InvalidNumber_NoHouse; have hko_InvalidNumber_NoRequest := T.ko_InvalidNumber_NoRequest; have hko_InvalidNumber_NoRoom := T.ko_InvalidNumber_NoRoom; have hko_InvalidNumber_NotAlone := T.ko_InvalidNumber_NotAlone; have hko_InvalidNumber_NotHeld := T.ko_InvalidNumber_NotHeld; have hko_InvalidNumber_ServeError := T.ko_InvalidNumber_ServeError; have hko_InvalidNumber_TooLarge := T.ko_InvalidNumber_TooLarge; have hxc_NoRoom := T.xc_NoRoom; have hkv_NoRoom := T.kv_NoRoom; have hem_NoRoom := T.em_NoRoom; have hko_NoRoom_InvalidLetter := T.ko_NoRoom_InvalidLetter; have hko_NoRoom_InvalidNumber := T.ko_NoRoom_InvalidNumber; have hko_NoRoom_NoHouse := T.ko_NoRoom_NoHouse; have hko_NoRoom_NoRequest := T.ko_NoRoom_NoRequest; have hko_NoRoom_NoRoom := T.ko_NoRoom_NoRoom; have hko_NoRoom_NotAlone := T.ko_NoRoom_NotAlone; have hko_NoRoom_NotHeld := T.ko_NoRoom_NotHeld; have hko_NoRoom_ServeError := T.ko_NoRoom_ServeError; have hko_NoRoom_TooLarge := T.ko_NoRoom_TooLarge; have hxc_NotAlone := T.xc_NotAlone; have hkv_NotAlone := T.kv_NotAlone; have hem_NotAlone := T.em_NotAlone; have hko_NotAlone_InvalidLetter := T.ko_NotAlone_InvalidLetter; have hko_NotAlone_InvalidNumber := T.ko_NotAlone_InvalidNumber; have hko_NotAlone_NoHouse := T.ko_NotAlone_NoHouse; have hko_NotAlone_NoRequest := T.ko_NotAlone_NoRequest; have hko_NotAlone_NoRoom := T.ko_NotAlone_NoRoom; have hko_NotAlone_NotAlone := T.ko_NotAlone_NotAlone; have hko_NotAlone_NotHeld := T.ko_NotAlone_NotHeld; have hko_NotAlone_ServeError := T.ko_NotAlone_ServeError; have hko_NotAlone_TooLarge := T.ko_NotAlone_TooLarge; have hxc_NotHeld := T.xc_NotHeld; have hkv_NotHeld := T.kv_NotHeld; have hem_NotHeld := T.em_NotHeld; have hko_NotHeld_InvalidLetter := T.ko_NotHeld_InvalidLetter; have hko_NotHeld_InvalidNumber := T.ko_NotHeld_InvalidNumber; have hko_NotHeld_NoHouse := T.ko_NotHeld_NoHouse; have hko_NotHeld_NoRequest := T.ko_NotHeld_NoRequest; have hko_NotHeld_NoRoom := T.ko_NotHeld_NoRoom; have hko_NotHeld_NotAlone := T.ko_NotHeld_NotAlone; have hko_NotHeld_NotHeld := T.ko_NotHeld_NotHeld; have hko_NotHeld_ServeError := T.ko_NotHeld_ServeError; have hko_NotHeld_TooLarge := T.ko_NotHeld_TooLarge
  obtain ⟨d, p, hp1, hp2, h⟩ := hp
  rcases h with ⟨rfl, rfl, k⟩ | ⟨rfl, rfl, k⟩ | ⟨rfl, rfl, k⟩ | ⟨rfl, rfl, k⟩ <;> (walk_at "alx"; refine ⟨fun _ => ?_, fun h => absurd h (by simp)⟩; walk_at "alx"; exact k)

set_option maxHeartbeats 8000000 in
theorem ok__law_odd (T : Tx K mg) : FnOk P w K mg base CX0 1 T.a__law_odd T.fd__law_odd ["numbers", "k", "most"] (SpA K AU.C__law_odd) := by
  refine Fun.ok T.F__law_odd sc__law_odd (fun vs H Q E h => SpA.len AU.len__law_odd h) (fun cdv A outer s H vs Q E hr h => ⟨_, (pss_cons (ps_own (ps_set (i := 3) sc__law_odd.nd rfl (.inl rfl) (pe_lst (pa_cons (pe_un un_neg pe_int) (pa_cons (pv 2) (pa_cons pe_bl (pa_cons pe_bl (pa_cons pe_non (pa_cons pe_str (pa_cons (pe_tupP (pa_cons pe_int pa_nil)) (pa_cons (pe_lst (pa_cons pe_int pa_nil)) (pa_cons (pe_op op_powA pe_int pe_int) (pa_cons (pe_tupP pa_nil) (pa_cons pe_str (pa_cons (pe_un un_neg (pe_op op_powA pe_int pe_int)) pa_nil)))))))))))))))
      (pss_cons (ps_expr (pe_K (fun K => tBM K "list" rAppend _ _) (K := K) rfl (pe_bm PySem.F.plainAttrs_list PySem.F.slot_list_append PySem.F.type_list_append mt_append (pv 3) (pa_cons (pe_op (op_addK (K := K) rfl) (pv 2) (pe_op op_modA (pe_callTy call_intA (by rfl) T.m_int (by decide +kernel) (pa_cons (pe_ix (ix_seqK (K := K) rfl) (pv 0) (pv 1) (fun _ _ => rfl)) pa_nil)) pe_int)) pa_nil))))
      (pss_one (ps_ret (pe_ix (ix_seqK (K := K) rfl) (pv 3) (pe_op op_modA (pe_callTy call_intA (by rfl) T.m_int (by decide +kernel) (pa_cons (pe_ix (ix_seqK (K := K) rfl) (pv 0) (pe_op (op_addK (K := K) rfl) (pv 1) pe_int) (fun _ _ => rfl)) pa_nil)) pe_int) (fun _ _ => rfl)))))), run_def h (fun ds O R X c hK hE hX hp => ?_)⟩)
  subst hK; clear h hr
  try dsimp only [cxOf, Cx.nox, Cx.wish]
  have hcl_Store := T.cl_Store; have hna_Store__held := T.nA_Store__held; have hna_Store__kept := T.nA_Store__kept; have hna_Store_many := T.nA_Store_many; have hna_Store_size := T.nA_Store_size
  obtain ⟨ns, k', most, rfl, hN, hk, hn1, hm1, hm2, k⟩ := hp
  walk_at "go"
  have b1 := hN.at k'
  rename_i y hy0 hy1
  refine od_ixAll (P := fun d => AU.OddS d ∧ AU.isFromD d 0 ((most : Nat) - 1 : Int) = false) rfl (by omega) (by walk_at "pk") ?_ (fun d hd => ?_)
  · intro d hd
    have e30 : ((10 : Int) ^ (30 : Int).toNat) = 1000000000000000000000000000000 := by decide
    have e20 : -((10 : Int) ^ (20 : Int).toNat) = -100000000000000000000 := by decide
    simp only [List.cons_append, List.nil_append, List.mem_cons, List.not_mem_nil, or_false] at hd
    rcases hd with rfl | rfl | rfl | rfl | rfl | rfl | rfl | rfl | rfl | rfl | rfl | rfl | rfl
    · exact ⟨AU.oddS_lt (by omega) (by omega), AU.isFromD_lo (by omega)⟩
    · exact ⟨AU.oddS_lt (by omega) (by omega), AU.isFromD_hi (by omega)⟩
    · exact ⟨AU.oddS_bl _, rfl⟩
    · exact ⟨AU.oddS_bl _, rfl⟩
    · exact ⟨AU.oddS_non, rfl⟩
    · exact ⟨AU.oddS_s0, rfl⟩
    · exact ⟨AU.oddS_t0, rfl⟩
    · exact ⟨AU.oddS_l0, rfl⟩
    · rw [e30]; exact ⟨AU.oddS_int (by decide), AU.isFromD_hi (by omega)⟩
    · exact ⟨AU.oddS_t, rfl⟩
    · exact ⟨AU.oddS_s, rfl⟩
    · rw [e20]; exact ⟨AU.oddS_int (by decide), AU.isFromD_lo (by omega)⟩
    · exact ⟨AU.oddS_lt (by omega) (by omega), AU.isFromD_hi (by omega)⟩
  walk_at "go"
  exact k d hd.1 hd.2

set_option maxHeartbeats 8000000 in
theorem ok__law_vector (T : Tx K mg) : FnOk P w K mg base CX0 1 T.a__law_vector T.fd__law_vector ["numbers", "at", "width", "prime"] (SpA K C__law_vector) := by
  refine Fun.ok T.F__law_vector sc__law_vector (fun vs H Q E h => SpA.len len__law_vector h) (fun cdv A outer s H vs Q E hr h => ⟨_, (pss_cons (ps_own (ps_set (i := 4) sc__law_vector.nd rfl (.inl rfl) (pe_lst pa_nil)))
      (pss_cons (ps_for PassesOwn.never rfl (pi_range2 (by rfl) T.m_range (pa_cons (pv 1) (pa_cons (pe_op (op_addK (K := K) rfl) (pv 1) (pv 2)) pa_nil))) (pg_name (i := 5) sc__law_vector.nd rfl (.inl rfl)) (pss_one (ps_expr (pe_K (fun K => tBM K "list" rAppend _ _) (K := K) rfl (pe_bm PySem.F.plainAttrs_list PySem.F.slot_list_append PySem.F.type_list_append mt_append (pv 4) (pa_cons (pe_op op_modA (pe_callTy call_intA (by rfl) T.m_int (by decide +kernel) (pa_cons (pe_op (op_addK (K := K) rfl) (pe_ix (ix_seqK (K := K) rfl) (pv 0) (pe_op op_modA (pe_callTy call_intA (by rfl) T.m_int (by decide +kernel) (pa_cons (pv 5) pa_nil)) (pe_callB (call_lenK (K := K) rfl) (by rfl) T.m_len (by decide +kernel) (pa_cons (pv 0) pa_nil))) (fun _ _ => rfl)) (pe_op op_mulA pe_int (pe_op op_divA (pv 5) (pe_callB (call_lenK (K := K) rfl) (by rfl) T.m_len (by decide +kernel) (pa_cons (pv 0) pa_nil))))) pa_nil)) (pv 3)) pa_nil))))))
      (pss_one (ps_ret (pe_callTy (call_tupK (K := K) rfl) (by rfl) T.m_tuple (by decide +kernel) (pa_cons (pv 4) pa_nil)))))), run_def h (fun ds O R X c hK hE hX hp => ?_)⟩)
  subst hK; clear h hr
  try dsimp only [cxOf, Cx.nox, Cx.wish]
  have hcl_Store := T.cl_Store; have hna_Store__held := T.nA_Store__held; have hna_Store__kept := T.nA_Store__kept; have hna_Store_many := T.nA_Store_many; have hna_Store_size := T.nA_Store_size
  obtain ⟨ns, a, w', p, rfl, hn0, hn1, ha, hw, h0, h1, hN, k⟩ := hp
  have hml : (List.map D.int ns).length = ns.length := List.length_map ..
  refine vs_seq ?_
  walk_at "al"
  refine vs_for (fun i A => ∃ (v : List Int) (z : Option SV), A = ⟨[some (.val (.lst (ns.map .int))), some (.val (.int (a : Nat))), some (.val (.int (w' : Nat))), some (.val (.int p)), some (.own (.lst (v.map .int))), z], O⟩ ∧ v.length = i ∧ Bd v) ?_
  walk_at "al"
  refine ⟨_, _, rfl, by omega, by omega, ⟨[], none, rfl, rfl, fun x h => (nomatch h)⟩, ?_, ?_⟩
  · rintro i x A2 hx ⟨v, z, rfl, hv, hvb⟩
    obtain ⟨hi, rfl⟩ := intsD_at hx
    walk_at "al"
    have q0 := Int.emod_nonneg ((a : Int) + (i : Int)) (show (((List.map D.int ns).length : Nat) : Int) ≠ 0 by omega)
    have q1 := Int.emod_lt_of_pos ((a : Int) + (i : Int)) (show 0 < (((List.map D.int ns).length : Nat) : Int) by omega)
    walk_at "al"
    refine ⟨_, rfl, by rw [List.length_map]; omega, ?_⟩
    refine ⟨v ++ [_], _, by rw [List.map_append]; rfl, by rw [List.length_append, hv]; rfl, ?_⟩
    intro y hy
    rcases List.mem_append.mp hy with h | h
    · exact hvb y h
    · rw [List.mem_singleton] at h; subst h
      have := Int.emod_nonneg (ns.getD ((↑a + ↑i) % (((List.map D.int ns).length : Nat) : Int)).toNat 0 + 7 * ((↑a + ↑i) / (((List.map D.int ns).length : Nat) : Int))) (show p ≠ 0 by omega)
      have := Int.emod_lt_of_pos (ns.getD ((↑a + ↑i) % (((List.map D.int ns).length : Nat) : Int)).toNat 0 + 7 * ((↑a + ↑i) / (((List.map D.int ns).length : Nat) : Int))) h0
      omega
  · rintro A2 ⟨v, z, rfl, hv, hvb⟩
    rw [intsD_len] at hv
    walk_at "al"
    exact k v (by omega) hvb

set_option maxHeartbeats 8000000 in
theorem ok__law_net (T : Tx K mg) (G__law_vector : FnOk P w K mg base CX0 1 T.a__law_vector T.fd__law_vector ["numbers", "at", "width", "prime"] (SpA K C__law_vector)) : FnOk P w K mg base CX0 2 T.a__law_net T.fd__law_net ["numbers", "letters", "width", "many", "prime"] (SpA K C__law_net) := by
  refine Fun.ok T.F__law_net sc__law_net (fun vs H Q E h => SpA.len len__law_net h) (fun cdv A outer s H vs Q E hr h => ⟨_, (pss_cons (ps_own (ps_set (i := 5) sc__law_net.nd rfl (.inl rfl) (pe_lst pa_nil)))
      (pss_cons (ps_for PassesOwn.never rfl (pi_range1 (by rfl) T.m_range (pa_cons (pe_op (op_addK (K := K) rfl) (pe_op (op_addK (K := K) rfl) (pe_op op_mulA pe_int (pv 1)) pe_int) (pe_op op_mulA (pe_op op_mulA pe_int (pv 2)) (pv 3))) pa_nil)) (pg_name (i := 6) sc__law_net.nd rfl (.inl rfl)) (pss_one (ps_expr (pe_K (fun K => tBM K "list" rAppend _ _) (K := K) rfl (pe_bm PySem.F.plainAttrs_list PySem.F.slot_list_append PySem.F.type_list_append mt_append (pv 5) (pa_cons (pe_call G__law_vector (hr.mono (by decide)) (by rfl) T.g__law_vector T.F__law_vector.kp T.b__law_vector .nil pass0 (pa_cons (pv 0) (pa_cons (pe_op op_mulA (pv 6) (pv 2)) (pa_cons (pv 2) (pa_cons (pv 4) pa_nil))))) pa_nil))))))
      (pss_cons (ps_own (ps_set (i := 7) sc__law_net.nd rfl (.inl rfl) (pe_lst pa_nil)))
      (pss_cons (ps_for PassesOwn.never rfl (pi_range1 (by rfl) T.m_range (pa_cons (pv 3) pa_nil)) (pg_name (i := 8) sc__law_net.nd rfl (.inl rfl)) (pss_cons (ps_own (ps_set (i := 9) sc__law_net.nd rfl (.inl rfl) (pe_lst pa_nil)))
      (pss_cons (ps_for PassesOwn.never rfl (pi_range1 (by rfl) T.m_range (pa_cons pe_int pa_nil)) (pg_name (i := 6) sc__law_net.nd rfl (.inl rfl)) (pss_cons (ps_set (i := 10) sc__law_net.nd rfl (.inl rfl) (pe_op (op_addK (K := K) rfl) (pe_op (op_addK (K := K) rfl) (pe_op op_mulA pe_int (pv 1)) pe_int) (pe_op op_mulA (pv 2) (pe_op (op_addK (K := K) rfl) (pe_op op_mulA pe_int (pv 8)) (pv 6)))))
      (pss_one (ps_expr (pe_K (fun K => tBM K "list" rAppend _ _) (K := K) rfl (pe_bm PySem.F.plainAttrs_list PySem.F.slot_list_append PySem.F.type_list_append mt_append (pv 9) (pa_cons (pe_callTy (call_tupK (K := K) rfl) (by rfl) T.m_tuple (by decide +kernel) (pa_cons (pe_slice (sl_K (K := K) rfl) (pv 5) (po_some (pv 10)) (po_some (pe_op (op_addK (K := K) rfl) (pv 10) (pv 2)))) pa_nil)) pa_nil)))))))
      (pss_one (ps_expr (pe_K (fun K => tBM K "list" rAppend _ _) (K := K) rfl (pe_bm PySem.F.plainAttrs_list PySem.F.slot_list_append PySem.F.type_list_append mt_append (pv 7) (pa_cons (pe_callTy (call_tupK (K := K) rfl) (by rfl) T.m_tuple (by decide +kernel) (pa_cons (pv 9) pa_nil)) pa_nil))))))))
      (pss_one (ps_ret (pe_tupP (pa_cons (pv 4) (pa_cons (pe_callTy (call_tupK (K := K) rfl) (by rfl) T.m_tuple (by decide +kernel) (pa_cons (pe_slice (sl_K (K := K) rfl) (pv 5) po_none (po_some (pv 1))) pa_nil)) (pa_cons (pe_ix (ix_seqK (K := K) rfl) (pv 5) (pe_op op_mulA pe_int (pv 1)) (fun _ _ => rfl)) (pa_cons (pe_callTy (call_tupK (K := K) rfl) (by rfl) T.m_tuple (by decide +kernel) (pa_cons (pv 7) pa_nil)) (pa_cons (pe_callTy (call_tupK (K := K) rfl) (by rfl) T.m_tuple (by decide +kernel) (pa_cons (pe_slice (sl_K (K := K) rfl) (pv 5) (po_some (pv 1)) (po_some (pe_op op_mulA pe_int (pv 1)))) pa_nil)) pa_nil)))))))))))), run_def h (fun ds O R X c hK hE hX hp => ?_)⟩)
  subst hK; clear h hr
  try dsimp only [cxOf, Cx.nox, Cx.wish]
  have hcl_Store := T.cl_Store; have hna_Store__held := T.nA_Store__held; have hna_Store__kept := T.nA_Store__kept; have hna_Store_many := T.nA_Store_many; have hna_Store_size := T.nA_Store_size
  obtain ⟨ns, l, w', many, p, rfl, hn0, hn1, hN, hl0, hl1, hw0, hw1, hm, h0, h1, k⟩ := hp
  have hwm : w' * many ≤ 16 := Nat.mul_le_mul hw1 hm
  refine vs_seq ?_
  walk_at "al"
  refine vs_for (fun i A => ∃ (m : List (List Int)) (z : Option SV), A = ⟨[some (.val (.lst (ns.map .int))), some (.val (.int (l : Nat))), some (.val (.int (w' : Nat))), some (.val (.int (many : Nat))), some (.val (.int p)), some (.own (.lst (m.map dV))), z, none, none, none, none], O⟩ ∧ m.length = i ∧ MM w' m) ?_
  walk_at "al"
  have hN5 : (2 * (l : Int) + 1 + 5 * (w' : Int) * (many : Int)) = ((2 * l + 1 + 5 * (w' * many) : Nat) : Int) := by push_cast; rw [Int.mul_assoc]
  refine ⟨((2 * l + 1 + 5 * (w' * many) : Nat) : Int), by rw [hN5], by omega, by omega, ⟨[], none, rfl, rfl, fun x h => (nomatch h)⟩, ?_, ?_⟩
  · rintro i g A2 hg ⟨m, z, rfl, hml, hmm⟩
    obtain ⟨hi, rfl⟩ := intsD_at hg
    walk_at "al"
    have hiw : i * w' ≤ 107 * 4 := Nat.mul_le_mul (by omega) hw1
    refine ⟨ns, i * w', w', p, by rw [show (0 + (i : Int)) * (w' : Int) = ((i * w' : Nat) : Int) by push_cast; rw [Int.zero_add]], hn0, hn1, by omega, by omega, h0, h1, hN, fun v hv hvb => ?_⟩
    walk_at "al"
    refine ⟨_, rfl, by rw [List.length_map]; omega, m ++ [v], _, by rw [List.map_append]; rfl, by rw [List.length_append, hml]; rfl, ?_⟩
    intro r hr
    rcases List.mem_append.mp hr with h | h
    · exact hmm r h
    · rw [List.mem_singleton] at h; subst h; exact ⟨hvb, hv⟩
  rintro A2 ⟨m, z, rfl, hml, hmm⟩
  rw [intsD_len] at hml
  have hml : m.length = 2 * l + 1 + 5 * (w' * many) := by omega
  walk_at "al"
  refine vs_for (fun i A => ∃ (ls : List Lay) (z6 z8 z9 z10 : Option SV), A = ⟨[some (.val (.lst (ns.map .int))), some (.val (.int (l : Nat))), some (.val (.int (w' : Nat))), some (.val (.int (many : Nat))), some (.val (.int p)), some (.own (.lst (m.map dV))), z6, some (.own (.lst (ls.map dLay))), z8, z9, z10], O⟩ ∧ ls.length = i ∧ ∀ lay ∈ ls, BdL lay ∧ LW5 w' lay) ?_
  walk_at "al"
  refine ⟨_, rfl, by omega, by omega, ⟨[], _, none, none, none, rfl, rfl, fun x h => (nomatch h)⟩, ?_, ?_⟩
  · rintro i g A2 hg ⟨ls, z6, z8, z9, z10, rfl, hls, hlw⟩
    obtain ⟨hi, rfl⟩ := intsD_at hg
    have hi : i < many := by omega
    walk_at "al"
    refine vs_for (fun j A => ∃ (ms : List (List (List Int))) (z6 z10 : Option SV), A = ⟨[some (.val (.lst (ns.map .int))), some (.val (.int (l : Nat))), some (.val (.int (w' : Nat))), some (.val (.int (many : Nat))), some (.val (.int p)), some (.own (.lst (m.map dV))), z6, some (.own (.lst (ls.map dLay))), some (.val (.int (0 + (i : Nat)))), some (.own (.lst (ms.map dM))), z10], O⟩ ∧ ms.length = j ∧ ∀ x ∈ ms, x.length = w' ∧ MM w' x) ?_
    walk_at "al"
    refine ⟨5, rfl, by omega, by omega, ⟨[], _, _, rfl, rfl, fun x h => (nomatch h)⟩, ?_, ?_⟩
    · rintro j g A2 hg ⟨ms, z6, z10, rfl, hms, hmw⟩
      obtain ⟨hj, rfl⟩ := intsD_at hg
      have hj : j < 5 := hj
      have hF : (2 * (l : Int) + 1 + (w' : Int) * (5 * (0 + (i : Int)) + (0 + (j : Int)))) = ((2 * l + 1 + w' * (5 * i + j) : Nat) : Int) := by push_cast; simp only [Int.zero_add]
      have hT : ((2 * l + 1 + w' * (5 * i + j) : Nat) : Int) + (w' : Int) = ((2 * l + 1 + w' * (5 * i + j) + w' : Nat) : Int) := by push_cast; rfl
      have hin : w' * (5 * i + j) + w' ≤ 5 * (w' * many) := by
        have h := Nat.mul_le_mul_left w' (show 5 * i + j + 1 ≤ 5 * many by omega)
        rw [Nat.mul_add, Nat.mul_one, Nat.mul_left_comm] at h
        exact h
      generalize hf : 2 * l + 1 + w' * (5 * i + j) = first at *
      walk_at "al"
      rw [hF]
      refine we_slL ?_
      walk_at "al"
      rw [hT]
      refine ⟨m.map dV, rfl, rfl, rfl, ?_⟩
      rw [cutD_mid (by omega) (by omega), show first + w' - first = w' by omega]
      walk_at "al"
      refine ⟨_, rfl, by rw [List.length_map]; omega, ms ++ [(m.drop first).take w'], _, _, by rw [List.map_append]; rfl, by rw [List.length_append, hms]; rfl, ?_⟩
      intro x hx
      rcases List.mem_append.mp hx with h | h
      · exact hmw x h
      · rw [List.mem_singleton] at h; subst h
        exact ⟨by rw [List.length_take, List.length_drop]; omega, hmm.sub sub_cut⟩
    · rintro A2 ⟨ms, z6, z10, rfl, hms, hmw⟩
      have hms : ms.length = 5 := hms
      obtain ⟨a1, a2, a3, a4, a5, rfl⟩ : ∃ a1 a2 a3 a4 a5, ms = [a1, a2, a3, a4, a5] := by
        match ms, hms with
        | [a1, a2, a3, a4, a5], _ => exact ⟨_, _, _, _, _, rfl⟩
      have g1 := hmw a1 (by simp)
      have g2 := hmw a2 (by simp)
      have g3 := hmw a3 (by simp)
      have g4 := hmw a4 (by simp)
      have g5 := hmw a5 (by simp)
      walk_at "al"
      refine ⟨_, rfl, by rw [List.length_map]; omega, ls ++ [⟨a1, a2, a3, a4, a5⟩], _, _, _, _, by rw [List.map_append]; rfl, by rw [List.length_append, hls]; rfl, ?_⟩
      intro x hx
      rcases List.mem_append.mp hx with h | h
      · exact hlw x h
      · rw [List.mem_singleton] at h; subst h
        exact ⟨⟨g1.2.bd (by omega) (by omega), g2.2.bd (by omega) (by omega), g3.2.bd (by omega) (by omega), g4.2.bd (by omega) (by omega), g5.2.bd (by omega) (by omega)⟩, ⟨⟨g1.2.mw, g1.1⟩, ⟨g2.2.mw, g2.1⟩, ⟨g3.2.mw, g3.1⟩, ⟨g4.2.mw, g4.1⟩, ⟨g5.2.mw, g5.1⟩⟩⟩
  · rintro A2 ⟨ls, z6, z8, z9, z10, rfl, hls, hlw⟩
    rw [intsD_len] at hls
    have hls : ls.length = many := by omega
    walk_at "al"
    refine we_slL ?_
    walk_at "al"
    refine ⟨m.map dV, rfl, rfl, rfl, ?_⟩
    rw [cutD_tn]
    walk_at "al"
    have h2l : (m[2 * l]'(by omega)) ∈ m := List.getElem_mem _
    refine od_ixL (ds := m.map dV) rfl (atI_map (x := m[2 * l]'(by omega)) (by omega) (by rw [show (2 * (l : Int)).toNat = 2 * l by omega]; exact List.getElem?_eq_getElem _)) ?_
    walk_at "al"
    refine we_slL ?_
    walk_at "al"
    refine ⟨m.map dV, rfl, rfl, rfl, ?_⟩
    rw [show (2 * (l : Int)) = ((2 * l : Nat) : Int) by push_cast; rfl, cutD_mid (by omega) (by omega)]
    walk_at "al"
    have hs1 : MM w' (m.take l) := hmm.sub fun r hr => List.mem_of_mem_take hr
    have hs2 : MM w' ((m.drop l).take (2 * l - l)) := hmm.sub sub_cut
    refine k ⟨p, m.take l, m[2 * l]'(by omega), ls, (m.drop l).take (2 * l - l)⟩ rfl ⟨h0, h1, hs1.bd (by omega) (by show (m.take l).length ≤ 100; rw [List.length_take]; omega), ⟨(hmm _ h2l).1, by show (m[2 * l]'_).length ≤ 100; rw [(hmm _ h2l).2]; omega⟩, ⟨by show ls.length ≤ 10; omega, fun x hx => (hlw x hx).1⟩, hs2.bd (by omega) (by show ((m.drop l).take (2 * l - l)).length ≤ 100; rw [List.length_take]; omega)⟩ ⟨hs1.mw, (hmm _ h2l).2, fun x hx => (hlw x hx).2, hs2.mw⟩ (by show (m.take l).length = l; rw [List.length_take]; omega) (by show ((m.drop l).take (2 * l - l)).length = l; rw [List.length_take, List.length_drop]; omega)

set_option maxHeartbeats 8000000 in
theorem ok__law_dot (T : Tx K mg) : FnOk P w K mg base CX0 1 T.a__law_dot T.fd__law_dot ["one", "other", "prime"] (SpA K C__law_dot) := by
  refine Fun.ok T.F__law_dot sc__law_dot (fun vs H Q E h => SpA.len len__law_dot h) (fun cdv A outer s H vs Q E hr h => ⟨_, (pss_cons (ps_set (i := 3) sc__law_dot.nd rfl (.inl rfl) pe_int)
      (pss_cons (ps_for PassesOwn.never rfl (pi_range1 (by rfl) T.m_range (pa_cons (pe_callB (call_lenK (K := K) rfl) (by rfl) T.m_len (by decide +kernel) (pa_cons (pv 0) pa_nil)) pa_nil)) (pg_name (i := 4) sc__law_dot.nd rfl (.inl rfl)) (pss_one (ps_set (i := 3) sc__law_dot.nd rfl (.inl rfl) (pe_op (op_addK (K := K) rfl) (pv 3) (pe_op op_mulA (pe_ix (ix_seqK (K := K) rfl) (pv 0) (pv 4) (fun _ _ => rfl)) (pe_ix (ix_seqK (K := K) rfl) (pv 1) (pv 4) (fun _ _ => rfl)))))))
      (pss_one (ps_ret (pe_op op_modA (pe_callTy call_intA (by rfl) T.m_int (by decide +kernel) (pa_cons (pv 3) pa_nil)) (pv 2)))))), run_def h (fun ds O R X c hK hE hX hp => ?_)⟩)
  subst hK; clear h hr
  try dsimp only [cxOf, Cx.nox, Cx.wish]
  have hcl_Store := T.cl_Store; have hna_Store__held := T.nA_Store__held; have hna_Store__kept := T.nA_Store__kept; have hna_Store_many := T.nA_Store_many; have hna_Store_size := T.nA_Store_size
  obtain ⟨d, e, a, b, p, rfl, hd, he, hb, hl, hab, h0, k⟩ := hp
  refine vs_seq ?_
  walk_at "al"
  refine vs_for (fun i A => ∃ z, A = ⟨[some (.val d), some (.val e), some (.val (.int p)), some (.val (.int (((a.zip b).take i).map fun q => q.1 * q.2).sum)), z], O⟩) ?_
  walk_at "al"
  refine cb_lenS hd ?_
  walk_at "al"
  refine ⟨_, rfl, by omega, by omega, ⟨none, rfl⟩, ?_, ?_⟩
  · rintro i x A2 hx ⟨z, rfl⟩
    obtain ⟨hi, rfl⟩ := intsD_at hx
    have hi : i < a.length := by omega
    have hm := hb (a.getD i 0) (by rw [getD_lt hi]; exact List.getElem_mem hi)
    walk_at "al"
    refine od_ixS hd (by omega) (by omega) ?_
    rw [show (0 + ((i : Nat) : Int)).toNat = i by omega]
    walk_at "al"
    refine od_ixS he (by omega) (by omega) ?_
    rw [show (0 + ((i : Nat) : Int)).toNat = i by omega]
    walk_at "al"
    refine ⟨some (.val (.int (0 + (i : Nat)))), ?_⟩
    have hz : (a.zip b)[i]? = some (a.getD i 0, b.getD i 0) := by
      rw [List.getElem?_eq_getElem (by rw [List.length_zip]; omega), List.getElem_zip, getD_lt hi, getD_lt (by omega)]
    rw [take_succ hz, List.map_append, List.sum_append]
    simp only [List.map_cons, List.map_nil, List.sum_cons, List.sum_nil, Int.add_zero]
    rfl
  · rintro A2 ⟨z, rfl⟩
    rw [intsD_len, List.take_of_length_le (by rw [List.length_zip]; omega)]
    walk_at "al"
    exact k

set_option maxHeartbeats 8000000 in
theorem ok__law_times (T : Tx K mg) (G__law_dot : FnOk P w K mg base CX0 1 T.a__law_dot T.fd__law_dot ["one", "other", "prime"] (SpA K C__law_dot)) : FnOk P w K mg base CX0 2 T.a__law_times T.fd__law_times ["matrix", "vector", "prime"] (SpA K C__law_times) := by
  refine Fun.ok T.F__law_times sc__law_times (fun vs H Q E h => SpA.len len__law_times h) (fun cdv A outer s H vs Q E hr h => ⟨_, (pss_one (ps_ret (pe_lc (own := [("row", 3)]) (g := gName 3) (tt := tYes) rfl sc__law_times.nd (pi_K (fun K => iSeq K _) (K := K) rfl (pi_seq (pv 0))) (blkOk_by (N := n__law_times) (sc := defScope s__law_times) (by decide +kernel)) (fun _ _ _ _ _ => (pg_name (i := 3) sc__law_times.nd rfl (.inl rfl))) (fun _ _ _ _ _ => pts_nil) (fun _ _ _ _ _ => (pe_call G__law_dot (hr.mono (by decide)) (by rfl) T.g__law_dot T.F__law_dot.kp T.b__law_dot .nil pass0 (pa_cons (pv 3) (pa_cons (pv 1) (pa_cons (pv 2) pa_nil)))))))), run_def h (fun ds O R X c hK hE hX hp => ?_)⟩)
  subst hK; clear h hr
  try dsimp only [cxOf, Cx.nox, Cx.wish]
  have hcl_Store := T.cl_Store; have hna_Store__held := T.nA_Store__held; have hna_Store__kept := T.nA_Store__kept; have hna_Store_many := T.nA_Store_many; have hna_Store_size := T.nA_Store_size
  obtain ⟨m, d, v, p, rfl, hd, hm, hw, h0, k⟩ := hp
  walk_at "al"
  refine wn_lcM (α := List Int) dV (fun r => .int (dotI r v p)) (gok_name (by decide)) ?_
  walk_at "al"
  refine ⟨_, rfl, m, rfl, rfl, by have := hm.1; omega, fun x hx => ?_, ?_⟩
  · walk_at "al"
    refine ⟨_, d, x, v, p, rfl, .inr rfl, hd, (hm.2 x hx).1, (hm.2 x hx).2, by rw [hw x hx]; exact Nat.le_refl _, h0, ?_⟩
    walk_at "al"
    exact ⟨rfl, by walk_at "keeps"⟩
  · walk_at "al"
    exact (by simpa [timesI, List.map_map, Function.comp_def] using k)

set_option maxHeartbeats 8000000 in
theorem ok__law_row (T : Tx K mg) (G__law_dot : FnOk P w K mg base CX0 1 T.a__law_dot T.fd__law_dot ["one", "other", "prime"] (SpA K C__law_dot)) (G__law_times : FnOk P w K mg base CX0 2 T.a__law_times T.fd__law_times ["matrix", "vector", "prime"] (SpA K C__law_times)) : FnOk P w K mg base CX0 3 T.a__law_row T.fd__law_row ["net", "rows", "letter"] (SpA K C__law_row) := by
  refine Fun.ok T.F__law_row sc__law_row (fun vs H Q E h => SpA.len len__law_row h) (fun cdv A outer s H vs Q E hr h => ⟨_, (pss_cons (ps_set (i := 3) sc__law_row.nd rfl (.inr rfl) (pe_ix (ix_seqK (K := K) rfl) (pv 0) pe_int (fun _ _ => rfl)))
      (pss_cons (ps_set (i := 4) sc__law_row.nd rfl (.inr rfl) (pe_lc (own := [("k", 14)]) (g := gName 14) (tt := tYes) rfl sc__law_row.nd (pi_range1 (by rfl) T.m_range (pa_cons (pe_callB (call_lenK (K := K) rfl) (by rfl) T.m_len (by decide +kernel) (pa_cons (pe_ix (ix_seqK (K := K) rfl) (pv 0) pe_int (fun _ _ => rfl)) pa_nil)) pa_nil)) (blkOk_by (N := n__law_row) (sc := defScope s__law_row) (by decide +kernel)) (fun _ _ _ _ _ => (pg_name (i := 14) sc__law_row.nd rfl (.inl rfl))) (fun _ _ _ _ _ => pts_nil) (fun _ _ _ _ _ => (pe_op op_modA (pe_callTy call_intA (by rfl) T.m_int (by decide +kernel) (pa_cons (pe_op (op_addK (K := K) rfl) (pe_ix (ix_seqK (K := K) rfl) (pe_ix (ix_seqK (K := K) rfl) (pe_ix (ix_seqK (K := K) rfl) (pv 0) pe_int (fun _ _ => rfl)) (pv 2) (fun _ _ => rfl)) (pv 14) (fun _ _ => rfl)) (pe_op op_mulA (pe_callB (call_lenK (K := K) rfl) (by rfl) T.m_len (by decide +kernel) (pa_cons (pv 1) pa_nil)) (pe_ix (ix_seqK (K := K) rfl) (pe_ix (ix_seqK (K := K) rfl) (pv 0) pe_int (fun _ _ => rfl)) (pv 14) (fun _ _ => rfl)))) pa_nil)) (pv 3)))))
      (pss_cons (ps_own (ps_set (i := 5) sc__law_row.nd rfl (.inl rfl) (pe_lst pa_nil)))
      (pss_cons (ps_for PassesOwn.never rfl (pi_range1 (by rfl) T.m_range (pa_cons (pe_callB (call_lenK (K := K) rfl) (by rfl) T.m_len (by decide +kernel) (pa_cons (pe_ix (ix_seqK (K := K) rfl) (pv 0) pe_int (fun _ _ => rfl)) pa_nil)) pa_nil)) (pg_name (i := 6) sc__law_row.nd rfl (.inr rfl)) (pss_cons (ps_set (i := 7) sc__law_row.nd rfl (.inl rfl) (pe_ix (ix_seqK (K := K) rfl) (pe_ix (ix_seqK (K := K) rfl) (pv 0) pe_int (fun _ _ => rfl)) (pv 6) (fun _ _ => rfl)))
      (pss_cons (ps_set (i := 8) sc__law_row.nd rfl (.inl rfl) (pe_call G__law_times (hr.mono (by decide)) (by rfl) T.g__law_times T.F__law_times.kp T.b__law_times .nil pass0 (pa_cons (pe_ix (ix_seqK (K := K) rfl) (pv 7) pe_int (fun _ _ => rfl)) (pa_cons (pv 4) (pa_cons (pv 3) pa_nil)))))
      (pss_cons (ps_set (i := 9) sc__law_row.nd rfl (.inl rfl) (pe_tupP (pa_cons (pe_callTy (call_tupK (K := K) rfl) (by rfl) T.m_tuple (by decide +kernel) (pa_cons (pe_call G__law_times (hr.mono (by decide)) (by rfl) T.g__law_times T.F__law_times.kp T.b__law_times .nil pass0 (pa_cons (pe_ix (ix_seqK (K := K) rfl) (pv 7) pe_int (fun _ _ => rfl)) (pa_cons (pv 4) (pa_cons (pv 3) pa_nil)))) pa_nil)) (pa_cons (pe_callTy (call_tupK (K := K) rfl) (by rfl) T.m_tuple (by decide +kernel) (pa_cons (pe_call G__law_times (hr.mono (by decide)) (by rfl) T.g__law_times T.F__law_times.kp T.b__law_times .nil pass0 (pa_cons (pe_ix (ix_seqK (K := K) rfl) (pv 7) pe_int (fun _ _ => rfl)) (pa_cons (pv 4) (pa_cons (pv 3) pa_nil)))) pa_nil)) pa_nil))))
      (pss_cons (ps_for PassesOwn.never rfl (pi_K (fun K => iSeq K _) (K := K) rfl (pi_seq (pe_op (op_addK (K := K) rfl) (pe_lc (own := [("row", 15)]) (g := gName 15) (tt := tYes) rfl sc__law_row.nd (pi_K (fun K => iSeq K _) (K := K) rfl (pi_seq (pv 1))) (blkOk_by (N := n__law_row) (sc := defScope s__law_row) (by decide +kernel)) (fun _ _ _ _ _ => (pg_name (i := 15) sc__law_row.nd rfl (.inl rfl))) (fun _ _ _ _ _ => pts_nil) (fun _ _ _ _ _ => (pe_ix (ix_seqK (K := K) rfl) (pe_ix (ix_seqK (K := K) rfl) (pv 15) pe_int (fun _ _ => rfl)) (pv 6) (fun _ _ => rfl)))) (pe_lst (pa_cons (pv 9) pa_nil))))) (pg_name (i := 10) sc__law_row.nd rfl (.inr rfl)) (pss_cons (ps_set (i := 11) sc__law_row.nd rfl (.inr rfl) (pe_call G__law_dot (hr.mono (by decide)) (by rfl) T.g__law_dot T.F__law_dot.kp T.b__law_dot .nil pass0 (pa_cons (pv 8) (pa_cons (pe_ix (ix_seqK (K := K) rfl) (pv 10) pe_int (fun _ _ => rfl)) (pa_cons (pv 3) pa_nil)))))
      (pss_one (ps_set (i := 4) sc__law_row.nd rfl (.inr rfl) (pe_lc (own := [("k", 14)]) (g := gName 14) (tt := tYes) rfl sc__law_row.nd (pi_range1 (by rfl) T.m_range (pa_cons (pe_callB (call_lenK (K := K) rfl) (by rfl) T.m_len (by decide +kernel) (pa_cons (pv 4) pa_nil)) pa_nil)) (blkOk_by (N := n__law_row) (sc := defScope s__law_row) (by decide +kernel)) (fun _ _ _ _ _ => (pg_name (i := 14) sc__law_row.nd rfl (.inl rfl))) (fun _ _ _ _ _ => pts_nil) (fun _ _ _ _ _ => (pe_op op_modA (pe_callTy call_intA (by rfl) T.m_int (by decide +kernel) (pa_cons (pe_op (op_addK (K := K) rfl) (pe_ix (ix_seqK (K := K) rfl) (pv 4) (pv 14) (fun _ _ => rfl)) (pe_op op_mulA (pv 11) (pe_ix (ix_seqK (K := K) rfl) (pe_ix (ix_seqK (K := K) rfl) (pv 10) pe_int (fun _ _ => rfl)) (pv 14) (fun _ _ => rfl)))) pa_nil)) (pv 3))))))))
      (pss_cons (ps_setLc (i := 12) (own := [("one", 16)]) (g := gName 16) (tt := tYes) rfl sc__law_row.nd rfl rfl (sw_true rfl rfl rfl (by decide +kernel)) (pi_K (fun K => iSeq K _) (K := K) rfl (pi_seq (pe_call G__law_times (hr.mono (by decide)) (by rfl) T.g__law_times T.F__law_times.kp T.b__law_times .nil pass0 (pa_cons (pe_ix (ix_seqK (K := K) rfl) (pv 7) pe_int (fun _ _ => rfl)) (pa_cons (pv 4) (pa_cons (pv 3) pa_nil)))))) (blkOk_by (N := n__law_row) (sc := defScope s__law_row) (by decide +kernel)) (fun _ _ _ _ _ => (pg_name (i := 16) sc__law_row.nd rfl (.inl rfl))) (fun _ _ _ _ _ => pts_nil) (fun _ _ _ _ _ => (pe_op op_mulA (pv 16) (pv 16))))
      (pss_cons (ps_set (i := 13) sc__law_row.nd rfl (.inr rfl) (pe_call G__law_times (hr.mono (by decide)) (by rfl) T.g__law_times T.F__law_times.kp T.b__law_times .nil pass0 (pa_cons (pe_ix (ix_seqK (K := K) rfl) (pv 7) pe_int (fun _ _ => rfl)) (pa_cons (pv 12) (pa_cons (pv 3) pa_nil)))))
      (pss_cons (ps_set (i := 4) sc__law_row.nd rfl (.inr rfl) (pe_lc (own := [("k", 14)]) (g := gName 14) (tt := tYes) rfl sc__law_row.nd (pi_range1 (by rfl) T.m_range (pa_cons (pe_callB (call_lenK (K := K) rfl) (by rfl) T.m_len (by decide +kernel) (pa_cons (pv 4) pa_nil)) pa_nil)) (blkOk_by (N := n__law_row) (sc := defScope s__law_row) (by decide +kernel)) (fun _ _ _ _ _ => (pg_name (i := 14) sc__law_row.nd rfl (.inl rfl))) (fun _ _ _ _ _ => pts_nil) (fun _ _ _ _ _ => (pe_op op_modA (pe_callTy call_intA (by rfl) T.m_int (by decide +kernel) (pa_cons (pe_op (op_addK (K := K) rfl) (pe_ix (ix_seqK (K := K) rfl) (pv 4) (pv 14) (fun _ _ => rfl)) (pe_ix (ix_seqK (K := K) rfl) (pv 13) (pv 14) (fun _ _ => rfl))) pa_nil)) (pv 3)))))
      (pss_one (ps_expr (pe_K (fun K => tBM K "list" rAppend _ _) (K := K) rfl (pe_bm PySem.F.plainAttrs_list PySem.F.slot_list_append PySem.F.type_list_append mt_append (pv 5) (pa_cons (pv 9) pa_nil)))))))))))))
      (pss_one (ps_ret (pe_tupP (pa_cons (pe_callTy (call_tupK (K := K) rfl) (by rfl) T.m_tuple (by decide +kernel) (pa_cons (pv 5) pa_nil)) (pa_cons (pe_callTy (call_tupK (K := K) rfl) (by rfl) T.m_tuple (by decide +kernel) (pa_cons (pe_lc (own := [("one", 16)]) (g := gName 16) (tt := tYes) rfl sc__law_row.nd (pi_K (fun K => iSeq K _) (K := K) rfl (pi_seq (pe_ix (ix_seqK (K := K) rfl) (pv 0) pe_int (fun _ _ => rfl)))) (blkOk_by (N := n__law_row) (sc := defScope s__law_row) (by decide +kernel)) (fun _ _ _ _ _ => (pg_name (i := 16) sc__law_row.nd rfl (.inl rfl))) (fun _ _ _ _ _ => pts_nil) (fun _ _ _ _ _ => (pe_op (op_addK (K := K) rfl) (pe_call G__law_dot (hr.mono (by decide)) (by rfl) T.g__law_dot T.F__law_dot.kp T.b__law_dot .nil pass0 (pa_cons (pv 16) (pa_cons (pv 4) (pa_cons (pv 3) pa_nil)))) pe_int))) pa_nil)) pa_nil))))))))), run_def h (fun ds O R X c hK hE hX hp => ?_)⟩)
  subst hK; clear h hr
  try dsimp only [cxOf, Cx.nox, Cx.wish]
  have hcl_Store := T.cl_Store; have hna_Store__held := T.nA_Store__held; have hna_Store__kept := T.nA_Store__kept; have hna_Store_many := T.nA_Store_many; have hna_Store_size := T.nA_Store_size
  obtain ⟨n, w', rows, l, rfl, hw, hwd, hl, hrl, hrw, k⟩ := hp
  have hp0 := hw.p0
  have hp1 := hw.p1
  have hel : (n.emb.getD l []).length = w' := hwd.emb _ (by rw [getD_lt hl]; exact List.getElem_mem hl)
  have hsl := hwd.shift
  have hw100 : w' ≤ 100 := by have := hw.shift.2; omega
  generalize hx0 : plusI (n.emb.getD l []) (scaledI rows.length n.shift n.p) n.p = x0
  have hx0l : x0.length = w' := by rw [← hx0]; simp only [plusI, scaledI, List.length_map, List.length_zip]; omega
  have hx0b : Bd x0 := hx0 ▸ bd_plus hp0 hp1
  have hmx : (List.map dRow rows).length = rows.length := List.length_map ..
  have hms : (List.map D.int n.shift).length = n.shift.length := List.length_map ..
  refine vs_seq ?_
  walk_at "al"
  refine od_ixT (ds := [.int n.p, dM n.emb, dV n.shift, .tup (n.layers.map dLay), dM n.out]) rfl (atI_of (by decide) rfl) ?_
  walk_at "al"
  refine wn_lcM (α := Nat) (fun k => .int (0 + (k : Nat))) (fun k => .int (((n.emb.getD l []).getD k 0 + rows.length * n.shift.getD k 0) % n.p)) (gok_name (by decide)) ?_
  walk_at "al"
  refine od_ixT (ds := [.int n.p, dM n.emb, dV n.shift, .tup (n.layers.map dLay), dM n.out]) rfl (atI_of (by decide) rfl) ?_
  walk_at "al"
  refine ⟨_, rfl, by omega, by omega, List.range n.shift.length, by rw [intsD_range, hms]; rfl, rfl, by rw [List.length_range]; omega, fun kk hk => ?_, ?_⟩
  · have hkl := List.mem_range.mp hk
    walk_at "al"
    refine od_ixT (ds := [.int n.p, dM n.emb, dV n.shift, .tup (n.layers.map dLay), dM n.out]) rfl (atI_of (by decide) rfl) ?_
    walk_at "al"
    refine od_ixT (ds := n.emb.map dV) rfl (atI_map (x := n.emb.getD l []) (by omega) (by rw [show ((l : Nat) : Int).toNat = l by omega, List.getElem?_eq_getElem hl, getD_lt hl])) ?_
    walk_at "al"
    refine od_ixS (.inr rfl) (by omega) (by omega) ?_
    walk_at "al"
    refine od_ixT (ds := [.int n.p, dM n.emb, dV n.shift, .tup (n.layers.map dLay), dM n.out]) rfl (atI_of (by decide) rfl) ?_
    walk_at "al"
    refine od_ixS (.inr rfl) (by omega) (by omega) ?_
    rw [z0]
    have hb := hw.shift.1 (n.shift.getD kk 0) (by rw [getD_lt hkl]; exact List.getElem_mem hkl)
    walk_at "al"
    exact ⟨by rw [hmx], by walk_at "keeps"⟩
  · rw [rangeG (by omega) (by omega), hx0]
    walk_at "al"
    refine vs_for (fun i A => ∃ x ps z6 z7 z8 z9 z10 z11 z12 z13, A = ⟨[some (.val (dNetT n)), some (.val (.lst (rows.map dRow))), some (.val (.int (l : Nat))), some (.val (.int n.p)), some (.val (.lst (x.map .int))), some (.own (.lst (ps.map dPr))), z6, z7, z8, z9, z10, z11, z12, z13, none, none, none], O⟩ ∧ x.length = w' ∧ Bd x ∧ ps.length = i ∧ laysI n.p rows (n.layers.drop i) i x ps = laysI n.p rows n.layers 0 x0 []) ?_
    walk_at "al"
    refine od_ixT (ds := [.int n.p, dM n.emb, dV n.shift, .tup (n.layers.map dLay), dM n.out]) rfl (atI_of (by decide) rfl) ?_
    walk_at "al"
    have hll : (List.map dLay n.layers).length = n.layers.length := List.length_map ..
    have hl10 := hw.lay.1
    refine ⟨_, rfl, by omega, by omega, ⟨x0, [], none, none, none, none, none, none, none, none, rfl, hx0l, hx0b, rfl, rfl⟩, ?_, ?_⟩
    · rintro i g A2 hg ⟨x, ps, z6, z7, z8, z9, z10, z11, z12, z13, rfl, hxl, hxb, hps, hh⟩
      obtain ⟨hi, rfl⟩ := intsD_at hg
      have hi : i < n.layers.length := by omega
      walk_at "al"
      obtain ⟨lay, hlay⟩ : ∃ lay, n.layers[i]? = some lay := ⟨_, List.getElem?_eq_getElem hi⟩
      have hbl := hw.lay.2 lay (List.mem_of_getElem? hlay)
      have hwl := hwd.lay lay (List.mem_of_getElem? hlay)
      have ixl : ∀ {j : Int} {d : D}, 0 ≤ j → [dM lay.q, dM lay.k, dM lay.v, dM lay.f, dM lay.s][j.toNat]? = some d → atI [dM lay.q, dM lay.k, dM lay.v, dM lay.f, dM lay.s] j = some d := fun h0 h => atI_of h0 h
      refine od_ixT (ds := [.int n.p, dM n.emb, dV n.shift, .tup (n.layers.map dLay), dM n.out]) rfl (atI_of (by decide) rfl) ?_
      walk_at "al"
      refine od_ixT (ds := n.layers.map dLay) rfl (atI_map (x := lay) (by omega) (by rw [z0]; exact hlay)) ?_
      walk_at "al"
      refine od_ixT (ds := [dM lay.q, dM lay.k, dM lay.v, dM lay.f, dM lay.s]) rfl (ixl (by decide) rfl) ?_
      walk_at "al"
      refine ⟨lay.q, _, x, n.p, rfl, .inl rfl, hbl.q, by rw [hxl]; exact hwl.q.1, hp0, ?_⟩
      walk_at "al"
      refine od_ixT (ds := [dM lay.q, dM lay.k, dM lay.v, dM lay.f, dM lay.s]) rfl (ixl (by decide) rfl) ?_
      walk_at "al"
      refine ⟨lay.k, _, x, n.p, rfl, .inl rfl, hbl.k, by rw [hxl]; exact hwl.k.1, hp0, ?_⟩
      walk_at "al"
      refine od_ixT (ds := [dM lay.q, dM lay.k, dM lay.v, dM lay.f, dM lay.s]) rfl (ixl (by decide) rfl) ?_
      walk_at "al"
      refine ⟨lay.v, _, x, n.p, rfl, .inl rfl, hbl.v, by rw [hxl]; exact hwl.v.1, hp0, ?_⟩
      walk_at "al"
      generalize hpr : ((timesI lay.k x n.p, timesI lay.v x n.p) : Pr) = pr
      have hpr' : D.tup [D.tup ((timesI lay.k x n.p).map .int), D.tup ((timesI lay.v x n.p).map .int)] = dPr pr := by rw [← hpr]; rfl
      have hprw : Bd pr.1 ∧ pr.1.length = w' ∧ pr.2.length = w' := by
        rw [← hpr]
        exact ⟨bd_times hp0 hp1, by show (timesI _ _ _).length = _; unfold timesI; rw [List.length_map]; exact hwl.k.2, by show (timesI _ _ _).length = _; unfold timesI; rw [List.length_map]; exact hwl.v.2⟩
      have hql : (timesI lay.q x n.p).length = w' := by unfold timesI; rw [List.length_map]; exact hwl.q.2
      simp only [hpr']
      refine vs_for (fun j A => ∃ x' z10 z11, A = ⟨[some (.val (dNetT n)), some (.val (.lst (rows.map dRow))), some (.val (.int (l : Nat))), some (.val (.int n.p)), some (.val (.lst (x'.map .int))), some (.own (.lst (ps.map dPr))), some (.val (.int (0 + (i : Nat)))), some (.val (dLay lay)), some (.val (.lst ((timesI lay.q x n.p).map .int))), some (.val (dPr pr)), z10, z11, z12, z13, none, none, none], O⟩ ∧ x'.length = w' ∧ Bd x' ∧ heardI x' (timesI lay.q x n.p) ((before rows i ++ [pr]).drop j) n.p = heardI x (timesI lay.q x n.p) (before rows i ++ [pr]) n.p) ?_
      walk_at "al"
      refine wn_lcM (α := Row) dRow (fun r => dPr (r.pairs.getD i ([], []))) (gok_name (by decide)) ?_
      walk_at "al"
      refine ⟨_, rfl, rows, rfl, rfl, by omega, fun r hr => ?_, ?_⟩
      · have hri := (hrw r hr).1.1
        walk_at "al"
        refine od_ixT (ds := [.tup (r.pairs.map dPr), dV r.weights]) rfl (atI_of (by decide) rfl) ?_
        walk_at "al"
        refine od_ixT (ds := r.pairs.map dPr) rfl (atI_map (x := r.pairs.getD i ([], [])) (by omega) (by rw [z0, List.getElem?_eq_getElem (by omega), getD_lt (by omega)])) ?_
        walk_at "al"
        exact ⟨rfl, by walk_at "keeps"⟩
      have hbe : (rows.map fun r => dPr (r.pairs.getD i ([], []))) = (before rows i).map dPr := by simp [before, List.map_map, Function.comp_def]
      have hbn : (before rows i).length = rows.length := by simp [before]
      rw [hbe]
      walk_at "al"
      have hkk : ∀ kk ∈ before rows i ++ [pr], Bd kk.1 ∧ kk.1.length = w' ∧ kk.2.length = w' := by
        intro kk hk
        rcases List.mem_append.mp hk with h | h
        · obtain ⟨r, hr, rfl⟩ := List.mem_map.mp h
          refine (hrw r hr).2 _ ?_
          rw [getD_lt (by rw [(hrw r hr).1.1]; exact hi)]; exact List.getElem_mem _
        · rw [List.mem_singleton] at h; subst h; exact hprw
      refine ⟨(before rows i ++ [pr]).map dPr, by rw [List.map_append]; rfl, ⟨x, _, _, rfl, hxl, hxb, rfl⟩, ?_, ?_⟩
      · rintro j g A3 hg ⟨x', z10, z11, rfl, hxl', hxb', hh'⟩
        rw [List.getElem?_map] at hg
        obtain ⟨kk, hk, rfl⟩ : ∃ kk, (before rows i ++ [pr])[j]? = some kk ∧ g = dPr kk := by
          cases e : (before rows i ++ [pr])[j]? with
          | none => rw [e] at hg; cases hg
          | some kk => rw [e] at hg; cases hg; exact ⟨kk, rfl, rfl⟩
        obtain ⟨hk1, hk2, hk3⟩ := hkk kk (List.mem_of_getElem? hk)
        walk_at "al"
        refine od_ixT (ds := [dV kk.1, dV kk.2]) rfl (atI_of (by decide) rfl) ?_
        walk_at "al"
        refine ⟨_, _, timesI lay.q x n.p, kk.1, n.p, rfl, .inl rfl, .inr rfl, bd_times hp0 hp1, by omega, by omega, hp0, ?_⟩
        walk_at "al"
        have hx'm : (List.map D.int x').length = x'.length := List.length_map ..
        have hdb := dotI_bd (a := timesI lay.q x n.p) (b := kk.1) hp0 hp1
        refine wn_lcM (α := Nat) (fun k => .int (0 + (k : Nat))) (fun k => .int ((x'.getD k 0 + dotI (timesI lay.q x n.p) kk.1 n.p * kk.2.getD k 0) % n.p)) (gok_name (by decide)) ?_
        walk_at "al"
        refine ⟨_, rfl, by omega, by omega, List.range x'.length, by rw [intsD_range, hx'm]; rfl, rfl, by rw [List.length_range]; omega, fun q hq => ?_, ?_⟩
        · have hql := List.mem_range.mp hq
          walk_at "al"
          refine od_ixT (ds := [dV kk.1, dV kk.2]) rfl (atI_of (by decide) rfl) ?_
          walk_at "al"
          refine od_ixS (.inr rfl) (by omega) (by omega) ?_
          rw [z0]
          walk_at "al"
          exact ⟨rfl, by walk_at "keeps"⟩
        · rw [rangeG (by omega) rfl]
          walk_at "al"
          refine ⟨_, _, _, rfl, by have := plusI_len2 (p := n.p) (show x'.length = (scaledI (dotI (timesI lay.q x n.p) kk.1 n.p) kk.2 n.p).length by simp only [scaledI, List.length_map]; omega); omega, bd_plus hp0 hp1, ?_⟩
          rw [← hh', drop_at hk]; rfl
      · rintro A3 ⟨x', z10, z11, rfl, hxl', hxb', hh'⟩
        rw [List.length_map, List.drop_length] at hh'
        have hh' : x' = heardI x (timesI lay.q x n.p) (before rows i ++ [pr]) n.p := hh'
        walk_at "al"
        refine wn_lcM (α := Int) D.int (fun y => .int (y * y)) (gok_name (by decide)) ?_
        walk_at "al"
        refine od_ixT (ds := [dM lay.q, dM lay.k, dM lay.v, dM lay.f, dM lay.s]) rfl (ixl (by decide) rfl) ?_
        walk_at "al"
        refine ⟨lay.f, _, x', n.p, rfl, .inl rfl, hbl.f, by rw [hxl']; exact hwl.f.1, hp0, ?_⟩
        walk_at "al"
        have hfl : (timesI lay.f x' n.p).length = w' := by unfold timesI; rw [List.length_map]; exact hwl.f.2
        refine ⟨_, rfl, timesI lay.f x' n.p, rfl, rfl, by omega, fun y hy => ?_, ?_⟩
        · have hb := bd_times hp0 hp1 y hy
          walk_at "al"
          exact ⟨rfl, by walk_at "keeps"⟩
        · walk_at "al"
          refine od_ixT (ds := [dM lay.q, dM lay.k, dM lay.v, dM lay.f, dM lay.s]) rfl (ixl (by decide) rfl) ?_
          walk_at "al"
          refine ⟨lay.s, _, (timesI lay.f x' n.p).map fun y => y * y, n.p, rfl, .inl (by simp [List.map_map, Function.comp_def]), hbl.s, by rw [List.length_map, hfl]; exact hwl.s.1, hp0, ?_⟩
          rw [times_sq]
          walk_at "al"
          have hml : (timesI lay.s (squaresI (timesI lay.f x' n.p) n.p) n.p).length = w' := by unfold timesI; rw [List.length_map]; exact hwl.s.2
          generalize hmo : timesI lay.s (squaresI (timesI lay.f x' n.p) n.p) n.p = more at *
          have hx'm : (List.map D.int x').length = x'.length := List.length_map ..
          refine wn_lcM (α := Nat) (fun k => .int (0 + (k : Nat))) (fun k => .int ((x'.getD k 0 + more.getD k 0) % n.p)) (gok_name (by decide)) ?_
          walk_at "al"
          refine ⟨_, rfl, by omega, by omega, List.range x'.length, by rw [intsD_range, hx'm]; rfl, rfl, by rw [List.length_range]; omega, fun q hq => ?_, ?_⟩
          · have hql := List.mem_range.mp hq
            walk_at "al"
            exact ⟨by simp only [z0], by walk_at "keeps"⟩
          · rw [rangeM (by omega) rfl]
            walk_at "al"
            refine ⟨_, rfl, by rw [List.length_map]; omega, plusI x' more n.p, ps ++ [pr], _, _, _, _, _, _, _, _, by rw [List.map_append]; rfl, by rw [plusI_len2 (by omega)]; exact hxl', bd_plus hp0 hp1, by rw [List.length_append, hps]; rfl, ?_⟩
            have e : layI lay x (before rows i) n.p = (plusI x' more n.p, pr) := by unfold layI; simp only [hpr, ← hh', hmo]
            rw [← hh, drop_at hlay]
            show _ = laysI n.p rows _ (i + 1) (layI lay x (before rows i) n.p).1 (ps ++ [(layI lay x (before rows i) n.p).2])
            rw [e]
    · rintro A2 ⟨x, ps, z6, z7, z8, z9, z10, z11, z12, z13, rfl, hxl, hxb, hps, hh⟩
      rw [intsD_len, show ((List.map dLay n.layers).length : Int).toNat = n.layers.length by omega, List.drop_length] at hh
      walk_at "al"
      refine wn_lcM (α := List Int) dV (fun r => .int (dotI r x n.p + 1)) (gok_name (by decide)) ?_
      walk_at "al"
      refine od_ixT (ds := [.int n.p, dM n.emb, dV n.shift, .tup (n.layers.map dLay), dM n.out]) rfl (atI_of (by decide) rfl) ?_
      walk_at "al"
      refine ⟨_, rfl, n.out, rfl, rfl, by have := hw.out.1; omega, fun y hy => ?_, ?_⟩
      · walk_at "al"
        refine ⟨_, _, y, x, n.p, rfl, .inr rfl, .inl rfl, (hw.out.2 y hy).1, (hw.out.2 y hy).2, by rw [hwd.out y hy]; omega, hp0, ?_⟩
        walk_at "al"
        exact ⟨rfl, by walk_at "keeps"⟩
      · walk_at "al"
        have e : rowI n rows l = ⟨ps, (timesI n.out x n.p).map (· + 1)⟩ := by unfold rowI; simp only [hx0, ← hh]; rfl
        rw [e] at k
        simp only [dRow, dV, timesI, List.map_map, Function.comp_def] at k
        exact k

set_option maxHeartbeats 8000000 in
theorem ok__law_some_rows (T : Tx K mg) (G__law_net : FnOk P w K mg base CX0 2 T.a__law_net T.fd__law_net ["numbers", "letters", "width", "many", "prime"] (SpA K C__law_net)) (G__law_row : FnOk P w K mg base CX0 3 T.a__law_row T.fd__law_row ["net", "rows", "letter"] (SpA K C__law_row)) : FnOk P w K mg base CX0 4 T.a__law_some_rows T.fd__law_some_rows ["numbers"] (SpA K AU.C__law_some_rows) := by
  refine Fun.ok T.F__law_some_rows sc__law_some_rows (fun vs H Q E h => SpA.len AU.len__law_some_rows h) (fun cdv A outer s H vs Q E hr h => ⟨_, (pss_cons (ps_set (i := 1) sc__law_some_rows.nd rfl (.inl rfl) (pe_call G__law_net (hr.mono (by decide)) (by rfl) T.g__law_net T.F__law_net.kp T.b__law_net .nil pass0 (pa_cons (pv 0) (pa_cons (pe_op (op_addK (K := K) rfl) pe_int (pe_op op_modA (pe_callTy call_intA (by rfl) T.m_int (by decide +kernel) (pa_cons (pe_ix (ix_seqK (K := K) rfl) (pv 0) pe_int (fun _ _ => rfl)) pa_nil)) pe_int)) (pa_cons (pe_op (op_addK (K := K) rfl) pe_int (pe_op op_modA (pe_callTy call_intA (by rfl) T.m_int (by decide +kernel) (pa_cons (pe_ix (ix_seqK (K := K) rfl) (pv 0) pe_int (fun _ _ => rfl)) pa_nil)) pe_int)) (pa_cons (pe_op op_modA (pe_callTy call_intA (by rfl) T.m_int (by decide +kernel) (pa_cons (pe_ix (ix_seqK (K := K) rfl) (pv 0) pe_int (fun _ _ => rfl)) pa_nil)) pe_int) (pa_cons pe_int pa_nil)))))))
      (pss_cons (ps_own (ps_set (i := 2) sc__law_some_rows.nd rfl (.inl rfl) (pe_lst pa_nil)))
      (pss_cons (ps_for PassesOwn.never rfl (pi_range1 (by rfl) T.m_range (pa_cons pe_int pa_nil)) (pg_name (i := 3) sc__law_some_rows.nd rfl (.inl rfl)) (pss_one (ps_expr (pe_K (fun K => tBM K "list" rAppend _ _) (K := K) rfl (pe_bm PySem.F.plainAttrs_list PySem.F.slot_list_append PySem.F.type_list_append mt_append (pv 2) (pa_cons (pe_call G__law_row (hr.mono (by decide)) (by rfl) T.g__law_row T.F__law_row.kp T.b__law_row .nil pass0 (pa_cons (pv 1) (pa_cons (pe_slice (sl_K (K := K) rfl) (pv 2) po_none (po_some pe_int)) (pa_cons (pe_op op_modA (pe_callTy call_intA (by rfl) T.m_int (by decide +kernel) (pa_cons (pe_ix (ix_seqK (K := K) rfl) (pv 0) (pe_op (op_addK (K := K) rfl) pe_int (pv 3)) (fun _ _ => rfl)) pa_nil)) (pe_callB (call_lenK (K := K) rfl) (by rfl) T.m_len (by decide +kernel) (pa_cons (pe_ix (ix_seqK (K := K) rfl) (pv 1) pe_int (fun _ _ => rfl)) pa_nil))) pa_nil)))) pa_nil))))))
      (pss_one (ps_ret (pv 2)))))), run_def h (fun ds O R X c hK hE hX hp => ?_)⟩)
  subst hK; clear h hr
  try dsimp only [cxOf, Cx.nox, Cx.wish]
  have hcl_Store := T.cl_Store; have hna_Store__held := T.nA_Store__held; have hna_Store__kept := T.nA_Store__kept; have hna_Store_many := T.nA_Store_many; have hna_Store_size := T.nA_Store_size
  obtain ⟨ns, rfl, hN, hn0, hn1, k⟩ := hp
  walk_at "go"
  rename_i v0 h00 h01 v1 h10 h11 v2 h20 h21
  obtain ⟨l, hl, hl0, hl3⟩ := natOf (x := 1 + v0 % 3) 1 3 (by omega) (by omega)
  obtain ⟨w, hw, hw0, hw2⟩ := natOf (x := 1 + v1 % 2) 1 2 (by omega) (by omega)
  obtain ⟨m, hm, hm0, hm1⟩ := natOf (x := v2 % 2) 0 1 (by omega) (by omega)
  rw [hl, hw, hm]
  refine ⟨ns, l, w, m, 97, rfl, by omega, by omega, hN, by omega, by omega, by omega, by omega, by omega, by omega, by omega, fun n hnp hwf hwd hemb hout => ?_⟩
  walk_at "go"
  walk_at "fl"
  refine vs_seq ?_
  refine vs_forI (α := List Row) [3] (fun q => [(2, some (.own (.lst (q.map dRow))))]) (fun _ => O) (fun _ i q => q.length = i ∧ ∀ r ∈ q, WfR n r ∧ (∀ k ∈ r.pairs, Bd k.1 ∧ k.1.length = w ∧ k.2.length = w) ∧ AU.RowD (dRow r) ∧ okE 5 (dRow r)) ?_
  walk_at "go"
  refine ⟨20, rfl, by omega, by omega, ⟨[], rfl, rfl, fun r h => nomatch h⟩, ?_, ?_⟩
  · rintro i d q hd ⟨hql, hq⟩
    obtain ⟨hi, rfl⟩ := intsD_at hd
    have hi : i < 20 := hi
    walk_at "fl"
    walk_at "go"
    refine we_slL ?_
    walk_at "go"
    refine ⟨q.map dRow, rfl, rfl, rfl, ?_⟩
    rw [show cutD (q.map dRow) none (some (5 : Int)) = (q.take 5).map dRow from cutD_tn (a := 5)]
    walk_at "go"
    rename_i x hx0 hx1
    rw [List.length_map]
    obtain ⟨c', hc, hc2⟩ := modN (x := x) (m := n.emb.length) (by omega)
    refine od_mod (by omega) ?_
    rw [hc]
    walk_at "go"
    have hr := AU.row_rowD (n := n) (w := w) hwf hwd (by omega) (q.take 5) c'
    refine ⟨n, w, q.take 5, c', rfl, hwf, hwd, hc2, by rw [List.length_take]; omega, fun r hr => ⟨(hq r (List.mem_of_mem_take hr)).1, (hq r (List.mem_of_mem_take hr)).2.1⟩, ?_⟩
    walk_at "go"
    refine ⟨q ++ [rowI n (q.take 5) c'], ?_, by rw [List.length_append, hql]; rfl, fun r hr2 => ?_⟩
    · rw [List.map_append]; rfl
    · rcases List.mem_append.mp hr2 with h | h
      · exact hq r h
      · rw [List.mem_singleton] at h; subst h
        exact ⟨row_wf hwf _ _, AU.row_wid hwf hwd _ _, hr.1, hr.2⟩
  · rintro q ⟨hql, hq⟩
    rw [intsD_len] at hql
    walk_at "go"
    refine k (q.map dRow) (by rw [List.length_map]; exact hql) fun d hd => ?_
    obtain ⟨r, hr, rfl⟩ := List.mem_map.mp hd
    exact (hq r hr).2.2

set_option maxHeartbeats 8000000 in
theorem ok__law_is_integer (T : Tx K mg) : FnOk P w K mg base CX0 1 T.a__law_is_integer T.fd__law_is_integer ["value", "low", "high"] (SpA K AU.C__law_is_integer) := by
  refine Fun.ok T.F__law_is_integer sc__law_is_integer (fun vs H Q E h => SpA.len AU.len__law_is_integer h) (fun cdv A outer s H vs Q E hr h => ⟨_, (pss_one (ps_ret (pe_and (pe_callB (call_isiK (K := K) rfl) (by rfl) T.m_isinstance (by decide +kernel) (pa_cons (pv 0) (pa_cons (pe_bltn (v := .ty "int") (u := .type "int") (by rfl) T.m_int (by decide +kernel) rfl) pa_nil))) (pe_and (pe_not (pe_callB (call_isiK (K := K) rfl) (by rfl) T.m_isinstance (by decide +kernel) (pa_cons (pv 0) (pa_cons (pe_bltn (v := .ty "bool") (u := .type "bool") (by rfl) T.m_bool (by decide +kernel) rfl) pa_nil)))) (pe_one (pe_chain op_leA op_leA (pv 1) (pv 0) (pv 2))))))), run_def h (fun ds O R X c hK hE hX hp => ?_)⟩)
  subst hK; clear h hr
  try dsimp only [cxOf, Cx.nox, Cx.wish]
  have hcl_Store := T.cl_Store; have hna_Store__held := T.nA_Store__held; have hna_Store__kept := T.nA_Store__kept; have hna_Store_many := T.nA_Store_many; have hna_Store_size := T.nA_Store_size
  obtain ⟨d, a, b, rfl, hd, k⟩ := hp
  cases hd with
  | int n =>
    walk_at "al"
    refine we_chain ?_
    walk_at "al"
    have k' : R O (.bl (decide (a ≤ n) && decide (n ≤ b))) := k
    refine ⟨fun ha => ?_, fun ha => ?_⟩
    · rw [ha] at k'
      walk_at "al"
      exact k'
    · rw [ha] at k'
      exact k'
  | bl n => walk_at "al"; exact k
  | non => walk_at "al"; exact k
  | str n => walk_at "al"; exact k
  | tup n => walk_at "al"; exact k
  | lst n => walk_at "al"; exact k

set_option maxHeartbeats 8000000 in
theorem ok__law_lowest (T : Tx K mg) : FnOk P w K mg base CX0 1 T.a__law_lowest T.fd__law_lowest ["state"] (SpA K AU.C__law_lowest) := by
  refine Fun.ok T.F__law_lowest sc__law_lowest (fun vs H Q E h => SpA.len AU.len__law_lowest h) (fun cdv A outer s H vs Q E hr h => ⟨_, (pss_cons (ps_for PassesOwn.never rfl (pi_range1 (by rfl) T.m_range (pa_cons (pe_callB (call_lenK (K := K) rfl) (by rfl) T.m_len (by decide +kernel) (pa_cons (pe_ix (ix_seqK (K := K) rfl) (pv 0) pe_int (fun _ _ => rfl)) pa_nil)) pa_nil)) (pg_name (i := 1) sc__law_lowest.nd rfl (.inl rfl)) (pss_one (ps_if (pt_cmpR (op_eqK (K := K) rfl hr.units) (pe_ix (ix_seqK (K := K) rfl) (pe_ix (ix_seqK (K := K) rfl) (pv 0) pe_int (fun _ _ => rfl)) (pv 1) (fun _ _ => rfl)) pe_int (nomark _)) (pss_one (ps_ret (pv 1))) pss_nil)))
      (pss_one (ps_ret pe_non))), run_def h (fun ds O R X c hK hE hX hp => ?_)⟩)
  subst hK; clear h hr
  try dsimp only [cxOf, Cx.nox, Cx.wish]
  have hcl_Store := T.cl_Store; have hna_Store__held := T.nA_Store__held; have hna_Store__kept := T.nA_Store__kept; have hna_Store_many := T.nA_Store_many; have hna_Store_size := T.nA_Store_size
  obtain ⟨st, a, b, ps, s, rfl, hs, hl, k⟩ := hp
  have i1 := hs.top
  have i2 := hs.held
  refine vs_seq ?_
  walk_at "fl"
  refine vs_forI (α := Unit) [1] (fun _ => []) (fun _ => O) (fun _ i _ => ∀ m : Nat, m < i → s.held.getD m 0 ≠ 0) ?_
  walk_at "goz"
  rw [AU.dN_len]
  refine ⟨_, rfl, by omega, by omega, ⟨(), rfl, fun m hm => by omega⟩, ?_, ?_⟩
  · rintro i d _ hd hm
    obtain ⟨hi, rfl⟩ := intsD_at hd
    rw [Int.toNat_natCast] at hi
    rw [show (0 + (i : Int)) = ((i : Nat) : Int) by omega]
    refine wg_name ?_
    walk_at "fl"
    refine vs_if ?_
    walk_at "goz"
    refine ⟨fun h0 => ?_, fun h0 => ?_⟩
    · have h0 : s.held.getD i 0 = 0 := by have := of_decide_eq_true h0; omega
      rw [AU.lowest_is hi h0 hm] at k
      walk_at "goz"
      exact k
    · have h0 : s.held.getD i 0 ≠ 0 := by have := of_decide_eq_false h0; omega
      walk_at "goz"
      refine ⟨(), ?_, fun m hm2 => ?_⟩
      · walk_at "fl"
      · by_cases e : m = i
        · subst e; exact h0
        · exact hm m (by omega)
  · rintro _ hm
    rw [intsD_len, Int.toNat_natCast] at hm
    rw [AU.lowest_no hm] at k
    walk_at "goz"
    exact k

set_option maxHeartbeats 8000000 in
theorem ok__law_take (T : Tx K mg) (G__law_lowest : FnOk P w K mg base CX0 1 T.a__law_lowest T.fd__law_lowest ["state"] (SpA K AU.C__law_lowest)) : FnOk P w K mg base CX0 2 T.a__law_take T.fd__law_take ["state"] (SpA K AU.C__law_take) := by
  refine Fun.ok T.F__law_take sc__law_take (fun vs H Q E h => SpA.len AU.len__law_take h) (fun cdv A outer s H vs Q E hr h => ⟨_, (pss_cons (ps_set (i := 1) sc__law_take.nd rfl (.inl rfl) (pe_call G__law_lowest (hr.mono (by decide)) (by rfl) T.g__law_lowest T.F__law_lowest.kp T.b__law_lowest .nil pass0 (pa_cons (pv 0) pa_nil)))
      (pss_cons (ps_if (pt_cmpR op_notA (pv 1) pe_non (nomark _)) (pss_one (ps_asg pe_int (pg_sub (pe_ix (ix_seqK (K := K) rfl) (pv 0) pe_int (fun _ _ => rfl)) (pv 1) set_list))) pss_nil)
      (pss_one (ps_ret (pv 1))))), run_def h (fun ds O R X c hK hE hX hp => ?_)⟩)
  subst hK; clear h hr
  try dsimp only [cxOf, Cx.nox, Cx.wish]
  have hcl_Store := T.cl_Store; have hna_Store__held := T.nA_Store__held; have hna_Store__kept := T.nA_Store__kept; have hna_Store_many := T.nA_Store_many; have hna_Store_size := T.nA_Store_size
  obtain ⟨st, a, b, ps, s, rfl, hs, hl, k, kn⟩ := hp
  have i1 := hs.top
  have i2 := hs.held
  walk_at "goz"
  refine ⟨st, a, b, ps, s, rfl, hs, hl, ?_⟩
  walk_at "goz"
  refine vs_seq (vs_if ?_)
  cases hlow : AU.lowest s with
  | none =>
    walk_at "goz"
    exact kn hlow
  | some l =>
    have hll := (AU.lowest_some hlow).1
    rw [dOp_some]
    walk_at "goz"
    refine ⟨a, _, _, l, rfl, i2, rfl, AU.ixN_n (by rw [AU.dN_len]; exact hll), ?_⟩
    rw [show (1 : Int) = ((1 : Nat) : Int) from rfl, AU.dN_set]
    walk_at "goz"
    exact k l hlow

set_option maxHeartbeats 8000000 in
theorem ok__law_release (T : Tx K mg) : FnOk P w K mg base CX0 1 T.a__law_release T.fd__law_release ["state", "block"] (SpA K AU.C__law_release) := by
  refine Fun.ok T.F__law_release sc__law_release (fun vs H Q E h => SpA.len AU.len__law_release h) (fun cdv A outer s H vs Q E hr h => ⟨_, (pss_cons (ps_asg (pe_op op_subA (pe_ix (ix_seqK (K := K) rfl) (pe_ix (ix_seqK (K := K) rfl) (pv 0) pe_int (fun _ _ => rfl)) (pv 1) (fun _ _ => rfl)) pe_int) (pg_sub (pe_ix (ix_seqK (K := K) rfl) (pv 0) pe_int (fun _ _ => rfl)) (pv 1) set_list))
      (pss_one (ps_if (pt_cmpR (op_eqK (K := K) rfl hr.units) (pe_ix (ix_seqK (K := K) rfl) (pe_ix (ix_seqK (K := K) rfl) (pv 0) pe_int (fun _ _ => rfl)) (pv 1) (fun _ _ => rfl)) pe_int (nomark _)) (pss_one (ps_asg (pe_lst pa_nil) (pg_sub (pe_ix (ix_seqK (K := K) rfl) (pv 0) pe_int (fun _ _ => rfl)) (pv 1) set_list))) pss_nil))), run_def h (fun ds O R X c hK hE hX hp => ?_)⟩)
  subst hK; clear h hr
  try dsimp only [cxOf, Cx.nox, Cx.wish]
  have hcl_Store := T.cl_Store; have hna_Store__held := T.nA_Store__held; have hna_Store__kept := T.nA_Store__kept; have hna_Store_many := T.nA_Store_many; have hna_Store_size := T.nA_Store_size
  obtain ⟨st, a, b, ps, s, l, rfl, hs, hl, h0, k⟩ := hp
  have i1 := hs.top
  have i2 := hs.held
  have hs1 := hs.setHeld (hs' := s.held.set l (s.held.getD l 0 - 1)) (List.length_set ..)
  have j1 := hs1.top
  have j2 := hs1.held
  have j3 := hs1.rows
  have hll : (s.held.set l (s.held.getD l 0 - 1)).length = s.held.length := List.length_set ..
  walk_at "goz"
  refine ⟨a, _, _, l, rfl, i2, rfl, AU.ixN_n (by rw [AU.dN_len]; exact hl), ?_⟩
  rw [show ((s.held.getD l 0 : Nat) : Int) - 1 = ((s.held.getD l 0 - 1 : Nat) : Int) by omega, AU.dN_set]
  have hf1 : AU.Frm O (O.set a (.lst (AU.dN (s.held.set l (s.held.getD l 0 - 1))))) [a, b] := AU.Frm.set (by simp)
  have hol : (O.set a (.lst (AU.dN (s.held.set l (s.held.getD l 0 - 1))))).length = O.length := List.length_set ..
  generalize O.set a (.lst (AU.dN (s.held.set l (s.held.getD l 0 - 1)))) = O1 at hs1 j1 j2 j3 hf1 hol ⊢
  refine vs_if ?_
  walk_at "goz"
  rw [AU.getD_set hl, if_pos rfl]
  unfold AU.releaseM at k
  refine ⟨fun h1 => ?_, fun h1 => ?_⟩
  · have h1 : s.held.getD l 0 = 1 := by have := of_decide_eq_true h1; omega
    rw [if_pos h1] at k
    refine vs_setP (we_cell (wn_lst (wa_nil ⟨Nat.le_of_ble_eq_true rfl, ?_⟩)))
    have g1 : (O1 ++ [Cell.lst []])[st]? = some (.lst [.ptr a, .ptr b]) := by rw [List.getElem?_append_left (AU.lt_of j1)]; exact j1
    have g3 : (O1 ++ [Cell.lst []])[b]? = some (.lst (ps.map .ptr)) := by rw [List.getElem?_append_left (AU.lt_of j3)]; exact j3
    walk_at "goz"
    refine ⟨b, _, _, l, rfl, g3, rfl, AU.ixN_n (by rw [List.length_map, hs.lp]; exact hl), ?_⟩
    rw [← List.map_set]
    have hs2 := hs1.newRow (l := l) (x := []) (by omega)
    rw [h1] at hs2
    exact k _ (ps.set l O1.length) hs2 (hf1.trans (AU.Frm.app.trans (AU.Frm.set (by simp)))) (fun j hj => (List.mem_or_eq_of_mem_set hj).imp id fun e => by omega)
  · have h1 : ¬ s.held.getD l 0 = 1 := by have := of_decide_eq_false h1; omega
    rw [if_neg h1] at k
    walk_at "goz"
    exact k _ ps hs1 hf1 (fun j hj => .inl hj)

set_option maxHeartbeats 8000000 in
theorem ok__law_call (T : Tx K mg) (G_Store_hold : FnOk P w K mg base (L2N.CX P w) 5 T.a_Store_hold T.fd_Store_hold ["self", "block"] (SpA K (AU.C_Store_hold T.aC_Store T.aC_NotHeld))) (G_Store_holders : FnOk P w K mg base (L2N.CX P w) 4 T.a_Store_holders T.fd_Store_holders ["self", "block"] (SpA K (AU.C_Store_holders T.aC_Store T.aC_NotHeld))) (G_Store_put_row : FnOk P w K mg base (L2N.CX P w) 6 T.a_Store_put_row T.fd_Store_put_row ["self", "block", "row"] (SpA K (AU.C_Store_put_row T.aC_Store T.aC_NoRoom T.aC_NotAlone T.aC_NotHeld))) (G_Store_release : FnOk P w K mg base (L2N.CX P w) 5 T.a_Store_release T.fd_Store_release ["self", "block"] (SpA K (AU.C_Store_release T.aC_Store T.aC_NotHeld))) (G_Store_rows : FnOk P w K mg base (L2N.CX P w) 5 T.a_Store_rows T.fd_Store_rows ["self", "block"] (SpA K (AU.C_Store_rows T.aC_Store T.aC_NotHeld))) (G_Store_shorten : FnOk P w K mg base (L2N.CX P w) 6 T.a_Store_shorten T.fd_Store_shorten ["self", "block", "many"] (SpA K (AU.C_Store_shorten T.aC_Store T.aC_InvalidNumber T.aC_NotAlone T.aC_NotHeld))) (G_Store_take : FnOk P w K mg base (L2N.CX P w) 3 T.a_Store_take T.fd_Store_take ["self"] (SpA K (AU.C_Store_take T.aC_Store T.aC_NoRoom))) : FnOk P w K mg base (L2N.CX P w) 7 T.a__law_call T.fd__law_call ["store", "word", "block", "value"] (SpA K (AU.C__law_call T.aC_Store T.aC_InvalidNumber T.aC_NoRoom T.aC_NotAlone T.aC_NotHeld)) := by
  refine okN T.F__law_call sc__law_call (fun vs H Q E h => SpA.len AU.len__law_call h) (fun cdv A outer s H vs Q E hr h => ⟨_, (pss_cons (ps_if (pt_cmpR (op_eqK (K := K) rfl hr.units) (pv 1) pe_str (nomark _)) (pss_one (ps_ret (pe_meth0 (pv 0) T.cl_Store T.meth_Store_take G_Store_take (hr.mono (by decide)) T.b_Store_take .nil (IsDef.pass isDef)))) pss_nil)
      (pss_cons (ps_if (pt_cmpR (op_eqK (K := K) rfl hr.units) (pv 1) pe_str (nomark _)) (pss_one (ps_ret (pe_meth (pv 0) T.cl_Store T.meth_Store_hold G_Store_hold (hr.mono (by decide)) T.b_Store_hold .nil (IsDef.pass isDef) (pa_cons (pv 2) pa_nil)))) pss_nil)
      (pss_cons (ps_if (pt_cmpR (op_eqK (K := K) rfl hr.units) (pv 1) pe_str (nomark _)) (pss_one (ps_ret (pe_meth (pv 0) T.cl_Store T.meth_Store_release G_Store_release (hr.mono (by decide)) T.b_Store_release .nil (IsDef.pass isDef) (pa_cons (pv 2) pa_nil)))) pss_nil)
      (pss_cons (ps_if (pt_cmpR (op_eqK (K := K) rfl hr.units) (pv 1) pe_str (nomark _)) (pss_one (ps_ret (pe_meth (pv 0) T.cl_Store T.meth_Store_put_row G_Store_put_row (hr.mono (by decide)) T.b_Store_put_row .nil (IsDef.pass isDef) (pa_cons (pv 2) (pa_cons (pv 3) pa_nil))))) pss_nil)
      (pss_cons (ps_if (pt_cmpR (op_eqK (K := K) rfl hr.units) (pv 1) pe_str (nomark _)) (pss_one (ps_ret (pe_meth (pv 0) T.cl_Store T.meth_Store_shorten G_Store_shorten (hr.mono (by decide)) T.b_Store_shorten .nil (IsDef.pass isDef) (pa_cons (pv 2) (pa_cons (pv 3) pa_nil))))) pss_nil)
      (pss_cons (ps_if (pt_cmpR (op_eqK (K := K) rfl hr.units) (pv 1) pe_str (nomark _)) (pss_one (ps_ret (pe_meth (pv 0) T.cl_Store T.meth_Store_rows G_Store_rows (hr.mono (by decide)) T.b_Store_rows .nil (IsDef.pass isDef) (pa_cons (pv 2) pa_nil)))) pss_nil)
      (pss_one (ps_ret (pe_meth (pv 0) T.cl_Store T.meth_Store_holders G_Store_holders (hr.mono (by decide)) T.b_Store_holders .nil (IsDef.pass isDef) (pa_cons (pv 2) pa_nil)))))))))), run_def h (fun ds O R X c hK hE hX hp => ?_)⟩)
  subst hK; clear h hr
  try dsimp only [cxOf, Cx.nox, Cx.wish]
  have hcl_Store := T.cl_Store; have hna_Store__held := T.nA_Store__held; have hna_Store__kept := T.nA_Store__kept; have hna_Store_many := T.nA_Store_many; have hna_Store_size := T.nA_Store_size
  obtain ⟨n, h, k', s, w, d, v, rfl, hs, hd, hv, ok, er⟩ := hp
  have i1 := hs.ins
  cases w
  case take =>
    walk_at "goxi"
    refine we_methX hE ?_
    walk_at "goxi"
    refine ⟨n, h, k', s, rfl, hs, fun b hb => ?_, fun hb => hX _ _ _ (er .room (by simp only [AU.opS]; rw [hb]))⟩
    walk_at "goxi"
    exact ok _ _ (by simp only [AU.opS]; rw [hb]) _ (List.length_set ..) (hs.setH (by have := (AU.lowest_some hb).1; have := hs.wf.hl; omega) (fun z => by cases z)) rfl rfl (AU.Frm.set (by simp))
  case hold =>
    walk_at "goxi"
    refine we_methX hE ?_
    walk_at "goxi"
    refine ⟨n, h, k', s, _, rfl, hs, hd, fun b hb => ?_, fun hb => hX _ _ _ (er .held (by simp only [AU.opS]; rw [hb]))⟩
    walk_at "goxi"
    exact ok _ _ (by simp only [AU.opS]; rw [hb]) _ (List.length_set ..) (hs.setH (AU.heldOf_some hb).2.1 (fun z => by cases z)) rfl rfl (AU.Frm.set (by simp))
  case release =>
    walk_at "goxi"
    refine we_methX hE ?_
    walk_at "goxi"
    refine ⟨n, h, k', s, _, rfl, hs, hd, fun b hb => ?_, fun hb => hX _ _ _ (er .held (by simp only [AU.opS]; rw [hb]))⟩
    walk_at "goxi"
    refine ok _ _ (by simp only [AU.opS]; rw [hb]) _ ?_ (hs.release (AU.heldOf_some hb).2.1 (AU.heldOf_some hb).2.2) AU.releaseM_many.1 AU.releaseM_many.2 ?_
    · unfold AU.releaseO; split <;> simp
    · unfold AU.releaseO; split
      · exact (AU.Frm.set (by simp)).trans (AU.Frm.set (by simp))
      · exact AU.Frm.set (by simp)
  case put =>
    walk_at "goxi"
    refine we_methX hE ?_
    walk_at "goxi"
    refine ⟨n, h, k', s, _, _, rfl, hs, hd, hv, fun hb => hX _ _ _ (er .held (by simp only [AU.opS]; rw [hb])), fun b hb => ⟨fun h1 => hX _ _ _ (er .alone (by simp only [AU.opS]; rw [hb]; exact if_neg (by omega))), fun h1 => ⟨fun h2 => hX _ _ _ (er .room (by simp only [AU.opS]; rw [hb]; exact (if_pos h1).trans (if_pos h2))), fun h2 => ?_⟩⟩⟩
    walk_at "goxi"
    have hb2 := AU.heldOf_some hb
    have hsz : (s.kept.getD b []).length ≤ s.size := hs.wf.rw _ (by rw [getD_lt (by rw [hs.wf.kl]; exact hb2.2.1)]; exact List.getElem_mem _)
    exact ok _ _ (by simp only [AU.opS]; rw [hb]; exact (if_pos h1).trans (if_neg h2)) _ (List.length_set ..) (hs.setK hb2.2.1 (by rw [List.length_append]; show _ + 1 ≤ _; omega) (fun z => by omega)) rfl rfl (AU.Frm.set (by simp))
  case shorten =>
    walk_at "goxi"
    refine we_methX hE ?_
    walk_at "goxi"
    refine ⟨n, h, k', s, _, _, rfl, hs, hd, hv.1, fun hb => hX _ _ _ (er .held (by simp only [AU.opS]; rw [hb])), fun b hb => ⟨fun h1 => hX _ _ _ (er .alone (by simp only [AU.opS]; rw [hb]; exact if_neg (by omega))), fun h1 => ⟨fun h2 => hX _ _ _ (er .num ?_), fun z ez hz => ?_⟩⟩⟩
    · simp only [AU.opS]; rw [hb]
      refine (if_pos h1).trans ?_
      cases v <;> try rfl
      rename_i z
      refine if_neg fun q => ?_
      rw [AU.isFromD_of q.1 q.2] at h2; cases h2
    · subst ez
      have hb2 := AU.heldOf_some hb
      have hsz : (s.kept.getD b []).length ≤ s.size := hs.wf.rw _ (by rw [getD_lt (by rw [hs.wf.kl]; exact hb2.2.1)]; exact List.getElem_mem _)
      walk_at "goxi"
      exact ok _ _ (by simp only [AU.opS]; rw [hb]; exact (if_pos h1).trans (if_pos ⟨by omega, by omega⟩)) _ (List.length_set ..) (hs.setK hb2.2.1 (by rw [List.length_take]; omega) (fun z => by omega)) rfl rfl (AU.Frm.set (by simp))
  case rows =>
    walk_at "goxi"
    refine we_methX hE ?_
    walk_at "goxi"
    refine ⟨n, h, k', s, _, rfl, hs, hd, fun b hb => ?_, fun hb => hX _ _ _ (er .held (by simp only [AU.opS]; rw [hb]))⟩
    walk_at "goxi"
    exact ok _ _ (by simp only [AU.opS]; rw [hb]) _ rfl hs rfl rfl AU.Frm.refl
  case holders =>
    walk_at "goxi"
    refine we_methX hE ?_
    walk_at "goxi"
    refine ⟨n, h, k', s, _, rfl, hs, hd, fun b hb => ?_, fun hb => hX _ _ _ (er .held (by simp only [AU.opS]; rw [hb]))⟩
    walk_at "goxi"
    exact ok _ _ (by simp only [AU.opS]; rw [hb]) _ rfl hs rfl rfl AU.Frm.refl

set_option maxHeartbeats 8000000 in
theorem ok__law_ask (T : Tx K mg) (G__law_call : FnOk P w K mg base (L2N.CX P w) 7 T.a__law_call T.fd__law_call ["store", "word", "block", "value"] (SpA K (AU.C__law_call T.aC_Store T.aC_InvalidNumber T.aC_NoRoom T.aC_NotAlone T.aC_NotHeld))) (G__law_kinds : FnE P w K mg base 1 T.a__law_kinds T.fd__law_kinds "e" (SpE K (AU.C__law_kinds T.aC_InvalidNumber T.aC_NoRoom T.aC_NotAlone T.aC_NotHeld))) : FnG P w K mg base CX0 8 T.a__law_ask T.fd__law_ask ["store", "word", "block", "value"] (SpA K (AU.C__law_ask T.aC_Store)) := by
  refine okG T.F__law_ask sc__law_ask (fun vs H Q E h => SpA.len AU.len__law_ask h) (fun cdv A outer s H vs Q E hr hgd h => ⟨_, (pss_one (ps_try1N (K := K) (i := 4) rfl rfl rfl sc__law_ask.nd rfl rfl ⟨by rfl, by decide, .inl T.mgC_ServeError⟩ (fun W pn xe tk => (pss_one (ps_ret (pe_tupP (pa_cons pe_str (pa_cons (pe_callSD G__law_call (hr.mono (by decide)) (by rfl) T.g__law_call T.F__law_call.kp T.b__law_call .nil (fun σ => L2N.passAt tk σ) (pa_cons (pv 0) (pa_cons (pv 1) (pa_cons (pv 2) (pa_cons (pv 3) pa_nil))))) pa_nil)))))) (fun a oe cls d pn hz hf => (pss_one (ps_ret (pe_callE G__law_kinds (L2H.roomH_of (hr.mono (by decide))) hgd hz hf (by rfl) T.g__law_kinds T.F__law_kinds.kp T.b__law_kinds (pa_cons (pv 4) pa_nil))))))), run_def h (fun ds O R X c hK hE hX hp => ?_)⟩)
  subst hK; clear h hr
  try dsimp only [cxOf, Cx.nox, Cx.wish]
  have hcl_Store := T.cl_Store; have hna_Store__held := T.nA_Store__held; have hna_Store__kept := T.nA_Store__kept; have hna_Store_many := T.nA_Store_many; have hna_Store_size := T.nA_Store_size; have hxc_InvalidNumber := T.xc_InvalidNumber; have hkv_InvalidNumber := T.kv_InvalidNumber; have hem_InvalidNumber := T.em_InvalidNumber; have hko_InvalidNumber_InvalidLetter := T.ko_InvalidNumber_InvalidLetter; have hko_InvalidNumber_InvalidNumber := T.ko_InvalidNumber_InvalidNumber; have hko_InvalidNumber_NoHouse := T.ko_InvalidNumber_NoHouse; have hko_InvalidNumber_NoRequest := T.ko_InvalidNumber_NoRequest; have hko_InvalidNumber_NoRoom := T.ko_InvalidNumber_NoRoom; have hko_InvalidNumber_NotAlone := T.ko_InvalidNumber_NotAlone; have hko_InvalidNumber_NotHeld := T.ko_InvalidNumber_NotHeld; have hko_InvalidNumber_ServeError := T.ko_InvalidNumber_ServeError; have hko_InvalidNumber_TooLarge := T.ko_InvalidNumber_TooLarge; have hxc_NoRoom := T.xc_NoRoom; have hkv_NoRoom := T.kv_NoRoom; have hem_NoRoom := T.em_NoRoom; have hko_NoRoom_InvalidLetter := T.ko_NoRoom_InvalidLetter; have hko_NoRoom_InvalidNumber := T.ko_NoRoom_InvalidNumber; have hko_NoRoom_NoHouse := T.ko_NoRoom_NoHouse; have hko_NoRoom_NoRequest := T.ko_NoRoom_NoRequest; have hko_NoRoom_NoRoom := T.ko_NoRoom_NoRoom; have hko_NoRoom_NotAlone := T.ko_NoRoom_NotAlone; have hko_NoRoom_NotHeld := T.ko_NoRoom_NotHeld; have hko_NoRoom_ServeError := T.ko_NoRoom_ServeError; have hko_NoRoom_TooLarge := T.ko_NoRoom_TooLarge; have hxc_NotAlone := T.xc_NotAlone; have hkv_NotAlone := T.kv_NotAlone; have hem_NotAlone := T.em_NotAlone; have hko_NotAlone_InvalidLetter := T.ko_NotAlone_InvalidLetter; have hko_NotAlone_InvalidNumber := T.ko_NotAlone_InvalidNumber; have hko_NotAlone_NoHouse := T.ko_NotAlone_NoHouse; have hko_NotAlone_NoRequest := T.ko_NotAlone_NoRequest; have hko_NotAlone_NoRoom := T.ko_NotAlone_NoRoom; have hko_NotAlone_NotAlone := T.ko_NotAlone_NotAlone; have hko_NotAlone_NotHeld := T.ko_NotAlone_NotHeld; have hko_NotAlone_ServeError := T.ko_NotAlone_ServeError; have hko_NotAlone_TooLarge := T.ko_NotAlone_TooLarge; have hxc_NotHeld := T.xc_NotHeld; have hkv_NotHeld := T.kv_NotHeld; have hem_NotHeld := T.em_NotHeld; have hko_NotHeld_InvalidLetter := T.ko_NotHeld_InvalidLetter; have hko_NotHeld_InvalidNumber := T.ko_NotHeld_InvalidNumber; have hko_NotHeld_NoHouse := T.ko_NotHeld_NoHouse; have hko_NotHeld_NoRequest := T.ko_NotHeld_NoRequest; have hko_NotHeld_NoRoom := T.ko_NotHeld_NoRoom; have hko_NotHeld_NotAlone := T.ko_NotHeld_NotAlone; have hko_NotHeld_NotHeld := T.ko_NotHeld_NotHeld; have hko_NotHeld_ServeError := T.ko_NotHeld_ServeError; have hko_NotHeld_TooLarge := T.ko_NotHeld_TooLarge
  obtain ⟨n, h, k', s, w, d, v, pd, pv, rfl, hs, hd, hv, hp, hps, hpv, k⟩ := hp
  refine ws_try fun W => ?_
  walk_at "go"
  refine we_callS0 (fun _ => rfl) ?_
  walk_at "go"
  refine ⟨n, h, k', s, w, d, v, rfl, hs, hd, hv, fun s' r e O' hl hs' h1 h2 hf => ?_, fun e he => ?_⟩
  · walk_at "go"
    rw [e] at k
    exact k O' hl hs' h1 h2 hf
  · rw [he] at k
    have k := k O rfl hs rfl rfl AU.Frm.refl
    cases e with
    | room =>
      refine ⟨T.em_NoRoom, fun a dx => ?_⟩
      walk_at "alx"
      refine ⟨.int 1, .int 1, .int 1, AU.shows_int (by decide), .inr (.inl ⟨rfl, rfl, ?_⟩)⟩
      walk_at "alx"
      rw [show (PyData.int 1).shown = "1" by decide +kernel]
      exact k
    | held =>
      refine ⟨T.em_NotHeld, fun a dx => ?_⟩
      walk_at "alx"
      refine ⟨d, pd, hp, hps, .inr (.inr (.inr ⟨rfl, rfl, ?_⟩))⟩
      walk_at "alx"
      exact k
    | alone =>
      refine ⟨T.em_NotAlone, fun a dx => ?_⟩
      walk_at "alx"
      refine ⟨d, pd, hp, hps, .inr (.inr (.inl ⟨rfl, rfl, ?_⟩))⟩
      walk_at "alx"
      exact k
    | num =>
      have hw : w = .shorten := AU.num_shorten he
      refine ⟨T.em_InvalidNumber, fun a dx => ?_⟩
      walk_at "alx"
      refine ⟨v, pv, (hpv hw).1, (hpv hw).2, .inl ⟨rfl, rfl, ?_⟩⟩
      walk_at "alx"
      exact k

set_option maxHeartbeats 8000000 in
theorem ok__law_due (T : Tx K mg) (G__law_is_integer : FnOk P w K mg base CX0 1 T.a__law_is_integer T.fd__law_is_integer ["value", "low", "high"] (SpA K AU.C__law_is_integer)) (G__law_release : FnOk P w K mg base CX0 1 T.a__law_release T.fd__law_release ["state", "block"] (SpA K AU.C__law_release)) (G__law_take : FnOk P w K mg base CX0 2 T.a__law_take T.fd__law_take ["state"] (SpA K AU.C__law_take)) : FnG P w K mg base CX0 3 T.a__law_due T.fd__law_due ["state", "size", "word", "block", "value"] (SpA K AU.C__law_due) := by
  refine okG T.F__law_due sc__law_due (fun vs H Q E h => SpA.len AU.len__law_due h) (fun cdv A outer s H vs Q E hr hgd h => ⟨_, (pss_cons (ps_if (pt_cmpR (op_eqK (K := K) rfl hr.units) (pv 2) pe_str (nomark _)) (pss_cons (ps_set (i := 3) sc__law_due.nd rfl (.inl rfl) (pe_call G__law_take (hr.mono (by decide)) (by rfl) T.g__law_take T.F__law_take.kp T.b__law_take .nil pass0 (pa_cons (pv 0) pa_nil)))
      (pss_cons (ps_if (pt_cmpR op_isA (pv 3) pe_non (nomark _)) (pss_one (ps_ret (pe_tupP (pa_cons pe_str (pa_cons pe_str pa_nil))))) pss_nil)
      (pss_one (ps_ret (pe_tupP (pa_cons pe_str (pa_cons (pv 3) pa_nil))))))) pss_nil)
      (pss_cons (ps_if (PW.pt (pw_or (pt_not (pt_val (pe_call G__law_is_integer (hr.mono (by decide)) (by rfl) T.g__law_is_integer T.F__law_is_integer.kp T.b__law_is_integer .nil pass0 (pa_cons (pv 3) (pa_cons pe_int (pa_cons (pe_op op_subA (pe_callB (call_lenK (K := K) rfl) (by rfl) T.m_len (by decide +kernel) (pa_cons (pe_ix (ix_seqK (K := K) rfl) (pv 0) pe_int (fun _ _ => rfl)) pa_nil)) pe_int) pa_nil)))))) (pw_or1 (PW.pt (pw_and (pt_cmpR (op_neK (K := K) rfl hr.units) (pv 2) pe_str (nomark _)) (pw_and1 (pt_cmpR (op_eqK (K := K) rfl hr.units) (pe_ix (ix_seqK (K := K) rfl) (pe_ix (ix_seqK (K := K) rfl) (pv 0) pe_int (fun _ _ => rfl)) (pv 3) (fun _ _ => rfl)) pe_int (nomark _)))))))) (pss_one (ps_ret (pe_tupP (pa_cons pe_str (pa_cons (pe_callB (call_reprK (K := K) rfl hgd hr.units) (by rfl) T.m_repr (by decide +kernel) (pa_cons (pv 3) pa_nil)) pa_nil))))) pss_nil)
      (pss_cons (ps_if (pt_cmpR (op_eqK (K := K) rfl hr.units) (pv 2) pe_str (nomark _)) (pss_one (ps_ret (pe_tupP (pa_cons pe_str (pa_cons (pe_ix (ix_seqK (K := K) rfl) (pe_ix (ix_seqK (K := K) rfl) (pv 0) pe_int (fun _ _ => rfl)) (pv 3) (fun _ _ => rfl)) pa_nil))))) pss_nil)
      (pss_cons (ps_if (pt_cmpR (op_eqK (K := K) rfl hr.units) (pv 2) pe_str (nomark _)) (pss_one (ps_ret (pe_tupP (pa_cons pe_str (pa_cons (pe_callTy (call_tupK (K := K) rfl) (by rfl) T.m_tuple (by decide +kernel) (pa_cons (pe_ix (ix_seqK (K := K) rfl) (pe_ix (ix_seqK (K := K) rfl) (pv 0) pe_int (fun _ _ => rfl)) (pv 3) (fun _ _ => rfl)) pa_nil)) pa_nil))))) pss_nil)
      (pss_cons (ps_if (pt_cmpR (op_eqK (K := K) rfl hr.units) (pv 2) pe_str (nomark _)) (pss_one (ps_asg (pe_op (op_addK (K := K) rfl) (pe_ix (ix_seqK (K := K) rfl) (pe_ix (ix_seqK (K := K) rfl) (pv 0) pe_int (fun _ _ => rfl)) (pv 3) (fun _ _ => rfl)) pe_int) (pg_sub (pe_ix (ix_seqK (K := K) rfl) (pv 0) pe_int (fun _ _ => rfl)) (pv 3) set_list))) (pss_one (ps_if (pt_cmpR (op_eqK (K := K) rfl hr.units) (pv 2) pe_str (nomark _)) (pss_one (ps_expr (pe_call G__law_release (hr.mono (by decide)) (by rfl) T.g__law_release T.F__law_release.kp T.b__law_release .nil pass0 (pa_cons (pv 0) (pa_cons (pv 3) pa_nil))))) (pss_one (ps_if (pt_cmpR op_gtA (pe_ix (ix_seqK (K := K) rfl) (pe_ix (ix_seqK (K := K) rfl) (pv 0) pe_int (fun _ _ => rfl)) (pv 3) (fun _ _ => rfl)) pe_int (nomark _)) (pss_one (ps_ret (pe_tupP (pa_cons pe_str (pa_cons (pe_callB (call_reprK (K := K) rfl hgd hr.units) (by rfl) T.m_repr (by decide +kernel) (pa_cons (pv 3) pa_nil)) pa_nil))))) (pss_one (ps_if (pt_cmpR (op_eqK (K := K) rfl hr.units) (pv 2) pe_str (nomark _)) (pss_cons (ps_if (pt_cmpR (op_eqK (K := K) rfl hr.units) (pe_callB (call_lenK (K := K) rfl) (by rfl) T.m_len (by decide +kernel) (pa_cons (pe_ix (ix_seqK (K := K) rfl) (pe_ix (ix_seqK (K := K) rfl) (pv 0) pe_int (fun _ _ => rfl)) (pv 3) (fun _ _ => rfl)) pa_nil)) (pv 1) (nomark _)) (pss_one (ps_ret (pe_tupP (pa_cons pe_str (pa_cons pe_str pa_nil))))) pss_nil)
      (pss_one (ps_expr (pe_K (fun K => tBM K "list" rAppend _ _) (K := K) rfl (pe_bm PySem.F.plainAttrs_list PySem.F.slot_list_append PySem.F.type_list_append mt_append (pe_ix (ix_seqK (K := K) rfl) (pe_ix (ix_seqK (K := K) rfl) (pv 0) pe_int (fun _ _ => rfl)) (pv 3) (fun _ _ => rfl)) (pa_cons (pv 4) pa_nil)))))) (pss_cons (ps_if (pt_not (pt_val (pe_call G__law_is_integer (hr.mono (by decide)) (by rfl) T.g__law_is_integer T.F__law_is_integer.kp T.b__law_is_integer .nil pass0 (pa_cons (pv 4) (pa_cons pe_int (pa_cons (pe_callB (call_lenK (K := K) rfl) (by rfl) T.m_len (by decide +kernel) (pa_cons (pe_ix (ix_seqK (K := K) rfl) (pe_ix (ix_seqK (K := K) rfl) (pv 0) pe_int (fun _ _ => rfl)) (pv 3) (fun _ _ => rfl)) pa_nil)) pa_nil)))))) (pss_one (ps_ret (pe_tupP (pa_cons pe_str (pa_cons (pe_callB (call_reprK (K := K) rfl hgd hr.units) (by rfl) T.m_repr (by decide +kernel) (pa_cons (pv 4) pa_nil)) pa_nil))))) pss_nil)
      (pss_one (ps_asg (pe_slice (sl_K (K := K) rfl) (pe_ix (ix_seqK (K := K) rfl) (pe_ix (ix_seqK (K := K) rfl) (pv 0) pe_int (fun _ _ => rfl)) (pv 3) (fun _ _ => rfl)) po_none (po_some (pv 4))) (pg_sub (pe_ix (ix_seqK (K := K) rfl) (pv 0) pe_int (fun _ _ => rfl)) (pv 3) set_list)))))))))))
      (pss_one (ps_ret (pe_tupP (pa_cons pe_str (pa_cons pe_non pa_nil)))))))))), run_def h (fun ds O R X c hK hE hX hp => ?_)⟩)
  subst hK; clear h hr
  try dsimp only [cxOf, Cx.nox, Cx.wish]
  have hcl_Store := T.cl_Store; have hna_Store__held := T.nA_Store__held; have hna_Store__kept := T.nA_Store__kept; have hna_Store_many := T.nA_Store_many; have hna_Store_size := T.nA_Store_size
  obtain ⟨st, a, b, ps, s, sz, w, d, v, pd, pv, rfl, hsz, hs, hw, hd, hv, hp, hps, hpv, k⟩ := hp
  have i1 := hs.top
  have i2 := hs.held
  have i3 := hs.rows
  have hhl := hw.hl
  have hm60 := hw.m60
  have h8 := hw.s8
  cases w
  case take =>
    refine vs_seq (vs_if ?_)
    walk_at "goz"
    refine ⟨st, a, b, ps, s, rfl, hs, by omega, fun l hl => ?_, fun hn => ?_⟩
    · walk_at "gozi"
      have e : AU.opS s .take d v = .inl ({ s with held := s.held.set l 1 }, .int (l : Nat)) := by simp only [AU.opS]; rw [hl]
      rw [e] at k
      exact k _ ps (hs.setHeld (List.length_set ..)) (AU.Frm.set (by simp)) (fun j hj => .inl hj)
    · walk_at "gozi"
      have e : AU.opS s .take d v = .inr .room := by simp only [AU.opS]; rw [hn]
      rw [e] at k
      exact k O ps hs AU.Frm.refl (fun j hj => .inl hj)
  case holders =>
    walk_at "gozi"
    refine ⟨d, _, _, rfl, hd, ?_⟩
    rw [AU.dN_len, hw.hl, AU.blockOf_isFrom]
    cases hb : AU.blockOf s d with
    | none =>
      rw [show (none : Option Nat).isSome = false from rfl]
      walk_at "goz"
      have e : AU.opS s .holders d v = .inr .held := by simp only [AU.opS]; rw [hb]
      rw [e] at k
      exact k O ps hs AU.Frm.refl (fun j hj => .inl hj)
    | some l =>
    obtain ⟨rfl, hbm⟩ := AU.blockOf_some hb
    have hlh : l < s.held.length := by omega
    rw [show (some l).isSome = true from rfl]
    walk_at "gozi"
    have e : AU.opS s .holders (.int (l : Nat)) v = .inl (s, .int (s.held.getD l 0 : Nat)) := by simp only [AU.opS]; rw [hb]
    walk_at "gozi"
    rw [e] at k
    exact k O ps hs AU.Frm.refl (fun j hj => .inl hj)
  case hold =>
    walk_at "gozi"
    refine ⟨d, _, _, rfl, hd, ?_⟩
    rw [AU.dN_len, hw.hl, AU.blockOf_isFrom]
    cases hb : AU.blockOf s d with
    | none =>
      rw [show (none : Option Nat).isSome = false from rfl]
      walk_at "goz"
      have e : AU.opS s .hold d v = .inr .held := by simp only [AU.opS]; rw [AU.heldOf_none' hb]
      rw [e] at k
      exact k O ps hs AU.Frm.refl (fun j hj => .inl hj)
    | some l =>
    obtain ⟨rfl, hbm⟩ := AU.blockOf_some hb
    have hlh : l < s.held.length := by omega
    rw [show (some l).isSome = true from rfl]
    walk_at "gozi"
    refine ⟨fun h0 => ?_, fun h0 => ?_⟩
    · have h0 : s.held.getD l 0 = 0 := by have := of_decide_eq_true h0; omega
      walk_at "goz"
      have e : AU.opS s .hold (.int (l : Nat)) v = .inr .held := by simp only [AU.opS]; rw [AU.heldOf_none hb h0]
      rw [e] at k
      exact k O ps hs AU.Frm.refl (fun j hj => .inl hj)
    have h0 : s.held.getD l 0 ≠ 0 := by have := of_decide_eq_false h0; omega
    have hh : AU.heldOf s (.int (l : Nat)) = some l := AU.heldOf_some' hb h0
    walk_at "gozi"
    refine ⟨a, _, _, l, rfl, i2, rfl, AU.ixN_n (by rw [AU.dN_len]; exact hlh), ?_⟩
    rw [show ((s.held.getD l 0 : Nat) : Int) + 1 = ((s.held.getD l 0 + 1 : Nat) : Int) by omega, AU.dN_set]
    walk_at "gozi"
    have e : AU.opS s .hold (.int (l : Nat)) v = .inl ({ s with held := s.held.set l (s.held.getD l 0 + 1) }, .non) := by simp only [AU.opS]; rw [hh]
    rw [e] at k
    exact k _ ps (hs.setHeld (List.length_set ..)) (AU.Frm.set (by simp)) (fun j hj => .inl hj)
  case release =>
    walk_at "gozi"
    refine ⟨d, _, _, rfl, hd, ?_⟩
    rw [AU.dN_len, hw.hl, AU.blockOf_isFrom]
    cases hb : AU.blockOf s d with
    | none =>
      rw [show (none : Option Nat).isSome = false from rfl]
      walk_at "goz"
      have e : AU.opS s .release d v = .inr .held := by simp only [AU.opS]; rw [AU.heldOf_none' hb]
      rw [e] at k
      exact k O ps hs AU.Frm.refl (fun j hj => .inl hj)
    | some l =>
    obtain ⟨rfl, hbm⟩ := AU.blockOf_some hb
    have hlh : l < s.held.length := by omega
    rw [show (some l).isSome = true from rfl]
    walk_at "gozi"
    refine ⟨fun h0 => ?_, fun h0 => ?_⟩
    · have h0 : s.held.getD l 0 = 0 := by have := of_decide_eq_true h0; omega
      walk_at "goz"
      have e : AU.opS s .release (.int (l : Nat)) v = .inr .held := by simp only [AU.opS]; rw [AU.heldOf_none hb h0]
      rw [e] at k
      exact k O ps hs AU.Frm.refl (fun j hj => .inl hj)
    have h0 : s.held.getD l 0 ≠ 0 := by have := of_decide_eq_false h0; omega
    have hh : AU.heldOf s (.int (l : Nat)) = some l := AU.heldOf_some' hb h0
    walk_at "gozi"
    refine ⟨st, a, b, ps, s, l, rfl, hs, hlh, by omega, fun O' ps' hs' hf hp' => ?_⟩
    walk_at "gozi"
    have e : AU.opS s .release (.int (l : Nat)) v = .inl (AU.releaseM s l, .non) := by simp only [AU.opS]; rw [hh]
    rw [e] at k
    exact k O' ps' hs' (hf.mono fun j hj _ => by simp only [List.mem_cons, List.not_mem_nil, or_false] at hj ⊢; rcases hj with rfl | rfl <;> simp) hp'
  case put =>
    obtain rfl := hsz rfl
    walk_at "gozi"
    refine ⟨d, _, _, rfl, hd, ?_⟩
    rw [AU.dN_len, hw.hl, AU.blockOf_isFrom]
    cases hb : AU.blockOf s d with
    | none =>
      rw [show (none : Option Nat).isSome = false from rfl]
      walk_at "goz"
      have e : AU.opS s .put d v = .inr .held := by simp only [AU.opS]; rw [AU.heldOf_none' hb]
      rw [e] at k
      exact k O ps hs AU.Frm.refl (fun j hj => .inl hj)
    | some l =>
    obtain ⟨rfl, hbm⟩ := AU.blockOf_some hb
    have hlh : l < s.held.length := by omega
    rw [show (some l).isSome = true from rfl]
    walk_at "gozi"
    obtain ⟨p, hpl⟩ : ∃ p, ps[l]? = some p := ⟨_, List.getElem?_eq_getElem (by rw [hs.lp]; exact hlh)⟩
    have hrow := hs.row l p hpl
    have hix : atI (ps.map D.ptr) (l : Int) = some (.ptr p) := atI_map (by omega) (by rw [Int.toNat_natCast]; exact hpl)
    have hll : (s.kept.getD l []).length ≤ 8 := by
      have := hw.rw (s.kept.getD l []) (by rw [getD_lt (by rw [hs.lk]; exact hlh)]; exact List.getElem_mem _); omega
    refine ⟨fun h0 => ?_, fun h0 => ?_⟩
    · have h0 : s.held.getD l 0 = 0 := by have := of_decide_eq_true h0; omega
      walk_at "goz"
      have e : AU.opS s .put (.int (l : Nat)) v = .inr .held := by simp only [AU.opS]; rw [AU.heldOf_none hb h0]
      rw [e] at k
      exact k O ps hs AU.Frm.refl (fun j hj => .inl hj)
    have h0 : s.held.getD l 0 ≠ 0 := by have := of_decide_eq_false h0; omega
    have hh : AU.heldOf s (.int (l : Nat)) = some l := AU.heldOf_some' hb h0
    walk_at "gozi"
    refine ⟨fun h1 => ?_, fun h1 => ?_⟩
    · have h1 : ¬ s.held.getD l 0 ≤ 1 := by have := of_decide_eq_true h1; omega
      walk_at "gozi"
      have e : AU.opS s .put (.int (l : Nat)) v = .inr .alone := by simp only [AU.opS]; rw [hh]; exact if_neg h1
      rw [e] at k
      exact k O ps hs AU.Frm.refl (fun j hj => .inl hj)
    have h1 : s.held.getD l 0 ≤ 1 := by have := of_decide_eq_false h1; omega
    walk_at "gozi"
    refine od_ixL (lsC i3) hix ?_
    walk_at "gozi"
    refine ⟨fun h2 => ?_, fun h2 => ?_⟩
    · have h2 : (s.kept.getD l []).length = s.size := by have := of_decide_eq_true h2; omega
      walk_at "gozi"
      have e : AU.opS s .put (.int (l : Nat)) v = .inr .room := by simp only [AU.opS]; rw [hh]; exact (if_pos h1).trans (if_pos h2)
      rw [e] at k
      exact k O ps hs AU.Frm.refl (fun j hj => .inl hj)
    have h2 : (s.kept.getD l []).length ≠ s.size := by have := of_decide_eq_false h2; omega
    refine vs_next ?_
    refine vs_appendP ?_
    walk_at "gozi"
    refine od_ixL (lsC i3) hix ?_
    refine ⟨p, _, rfl, hrow, ?_⟩
    walk_at "gozi"
    refine ⟨_, hrow, by omega, ?_⟩
    walk_at "gozi"
    have e : AU.opS s .put (.int (l : Nat)) v = .inl ({ s with kept := s.kept.set l (s.kept.getD l [] ++ [v]) }, .non) := by simp only [AU.opS]; rw [hh]; exact (if_pos h1).trans (if_neg h2)
    rw [e] at k
    exact k _ ps (hs.setRow hpl) (AU.Frm.set (by simp [List.mem_of_getElem? hpl])) (fun j hj => .inl hj)
  case shorten =>
    walk_at "gozi"
    refine ⟨d, _, _, rfl, hd, ?_⟩
    rw [AU.dN_len, hw.hl, AU.blockOf_isFrom]
    cases hb : AU.blockOf s d with
    | none =>
      rw [show (none : Option Nat).isSome = false from rfl]
      walk_at "goz"
      have e : AU.opS s .shorten d v = .inr .held := by simp only [AU.opS]; rw [AU.heldOf_none' hb]
      rw [e] at k
      exact k O ps hs AU.Frm.refl (fun j hj => .inl hj)
    | some l =>
    obtain ⟨rfl, hbm⟩ := AU.blockOf_some hb
    have hlh : l < s.held.length := by omega
    rw [show (some l).isSome = true from rfl]
    walk_at "gozi"
    obtain ⟨p, hpl⟩ : ∃ p, ps[l]? = some p := ⟨_, List.getElem?_eq_getElem (by rw [hs.lp]; exact hlh)⟩
    have hrow := hs.row l p hpl
    have hix : atI (ps.map D.ptr) (l : Int) = some (.ptr p) := atI_map (by omega) (by rw [Int.toNat_natCast]; exact hpl)
    have hll : (s.kept.getD l []).length ≤ 8 := by
      have := hw.rw (s.kept.getD l []) (by rw [getD_lt (by rw [hs.lk]; exact hlh)]; exact List.getElem_mem _); omega
    refine ⟨fun h0 => ?_, fun h0 => ?_⟩
    · have h0 : s.held.getD l 0 = 0 := by have := of_decide_eq_true h0; omega
      walk_at "goz"
      have e : AU.opS s .shorten (.int (l : Nat)) v = .inr .held := by simp only [AU.opS]; rw [AU.heldOf_none hb h0]
      rw [e] at k
      exact k O ps hs AU.Frm.refl (fun j hj => .inl hj)
    have h0 : s.held.getD l 0 ≠ 0 := by have := of_decide_eq_false h0; omega
    have hh : AU.heldOf s (.int (l : Nat)) = some l := AU.heldOf_some' hb h0
    walk_at "gozi"
    refine ⟨fun h1 => ?_, fun h1 => ?_⟩
    · have h1 : ¬ s.held.getD l 0 ≤ 1 := by have := of_decide_eq_true h1; omega
      walk_at "gozi"
      have e : AU.opS s .shorten (.int (l : Nat)) v = .inr .alone := by simp only [AU.opS]; rw [hh]; exact if_neg h1
      rw [e] at k
      exact k O ps hs AU.Frm.refl (fun j hj => .inl hj)
    have h1 : s.held.getD l 0 ≤ 1 := by have := of_decide_eq_false h1; omega
    walk_at "gozi"
    refine od_ixL (lsC i3) hix ?_
    walk_at "gozi"
    obtain ⟨hvp, hvs⟩ := hpv rfl
    refine ⟨v, _, _, rfl, hv.1, ?_⟩
    cases hz : AU.isFromD v 0 ((s.kept.getD l []).length : Int) with
    | false =>
      walk_at "gozi"
      have e : AU.opS s .shorten (.int (l : Nat)) v = .inr .num := by
        simp only [AU.opS]; rw [hh]
        refine (if_pos h1).trans ?_
        cases v <;> try rfl
        rename_i z
        refine if_neg fun q => ?_
        rw [AU.isFromD_of q.1 q.2] at hz; cases hz
      rw [e] at k
      exact k O ps hs AU.Frm.refl (fun j hj => .inl hj)
    | true =>
      obtain ⟨z, rfl, hz1, hz2⟩ := AU.isFromD_yes hz
      have e : AU.opS s .shorten (.int (l : Nat)) (.int z) = .inl ({ s with kept := s.kept.set l ((s.kept.getD l []).take z.toNat) }, .non) := by
        simp only [AU.opS]; rw [hh]
        exact (if_pos h1).trans (if_pos ⟨hz1, hz2⟩)
      rw [e] at k
      obtain ⟨z, rfl, _, hz3⟩ := natOf (x := z) 0 _ hz1 hz2
      walk_at "gozi"
      refine we_cell (wn_slL ?_)
      walk_at "gozi"
      refine od_ixL (lsC i3) hix ?_
      walk_at "gozi"
      refine ⟨_, lsC hrow, lsC hrow, trivial, ?_⟩
      rw [show cutD (s.kept.getD l []) none (some (z : Int)) = (s.kept.getD l []).take z by have := cutD_tn (f := id) (xs := s.kept.getD l []) (a := z); rw [List.map_id, List.map_id] at this; exact this]
      have j1 : (O ++ [Cell.lst ((s.kept.getD l []).take z)])[st]? = some (.lst [.ptr a, .ptr b]) := by rw [List.getElem?_append_left (AU.lt_of i1)]; exact i1
      have j3 : (O ++ [Cell.lst ((s.kept.getD l []).take z)])[b]? = some (.lst (ps.map .ptr)) := by rw [List.getElem?_append_left (AU.lt_of i3)]; exact i3
      walk_at "gozi"
      refine ⟨b, _, _, l, rfl, j3, rfl, AU.ixN_n (by rw [List.length_map, hs.lp]; exact hlh), ?_⟩
      rw [← List.map_set]
      walk_at "gozi"
      exact k _ (ps.set l O.length) (hs.newRow hlh) (AU.Frm.app.trans (AU.Frm.set (by simp))) (fun j hj => (List.mem_or_eq_of_mem_set hj).imp id fun e => by omega)
  case rows =>
    walk_at "gozi"
    refine ⟨d, _, _, rfl, hd, ?_⟩
    rw [AU.dN_len, hw.hl, AU.blockOf_isFrom]
    cases hb : AU.blockOf s d with
    | none =>
      rw [show (none : Option Nat).isSome = false from rfl]
      walk_at "goz"
      have e : AU.opS s .rows d v = .inr .held := by simp only [AU.opS]; rw [AU.heldOf_none' hb]
      rw [e] at k
      exact k O ps hs AU.Frm.refl (fun j hj => .inl hj)
    | some l =>
    obtain ⟨rfl, hbm⟩ := AU.blockOf_some hb
    have hlh : l < s.held.length := by omega
    rw [show (some l).isSome = true from rfl]
    walk_at "gozi"
    obtain ⟨p, hpl⟩ : ∃ p, ps[l]? = some p := ⟨_, List.getElem?_eq_getElem (by rw [hs.lp]; exact hlh)⟩
    have hrow := hs.row l p hpl
    have hix : atI (ps.map D.ptr) (l : Int) = some (.ptr p) := atI_map (by omega) (by rw [Int.toNat_natCast]; exact hpl)
    have hll : (s.kept.getD l []).length ≤ 8 := by
      have := hw.rw (s.kept.getD l []) (by rw [getD_lt (by rw [hs.lk]; exact hlh)]; exact List.getElem_mem _); omega
    refine ⟨fun h0 => ?_, fun h0 => ?_⟩
    · have h0 : s.held.getD l 0 = 0 := by have := of_decide_eq_true h0; omega
      walk_at "goz"
      have e : AU.opS s .rows (.int (l : Nat)) v = .inr .held := by simp only [AU.opS]; rw [AU.heldOf_none hb h0]
      rw [e] at k
      exact k O ps hs AU.Frm.refl (fun j hj => .inl hj)
    have h0 : s.held.getD l 0 ≠ 0 := by have := of_decide_eq_false h0; omega
    have hh : AU.heldOf s (.int (l : Nat)) = some l := AU.heldOf_some' hb h0
    walk_at "gozi"
    refine od_ixL (lsC i3) hix ?_
    walk_at "gozi"
    have e : AU.opS s .rows (.int (l : Nat)) v = .inl (s, .tup (s.kept.getD l [])) := by simp only [AU.opS]; rw [hh]
    rw [e] at k
    exact k O ps hs AU.Frm.refl (fun j hj => .inl hj)

set_option maxHeartbeats 8000000 in
theorem ok__law_free (T : Tx K mg) : FnOk P w K mg base CX0 1 T.a__law_free T.fd__law_free ["state"] (SpA K AU.C__law_free) := by
  refine Fun.ok T.F__law_free sc__law_free (fun vs H Q E h => SpA.len AU.len__law_free h) (fun cdv A outer s H vs Q E hr h => ⟨_, (pss_one (ps_ret (pe_callB (call_lenK (K := K) rfl) (by rfl) T.m_len (by decide +kernel) (pa_cons (pe_lc (own := [("one", 1)]) (g := gName 1) rfl sc__law_free.nd (pi_K (fun K => iSeq K _) (K := K) rfl (pi_seq (pe_ix (ix_seqK (K := K) rfl) (pv 0) pe_int (fun _ _ => rfl)))) (blkOk_by (N := n__law_free) (sc := defScope s__law_free) (by decide +kernel)) (fun _ _ _ _ _ => (pg_name (i := 1) sc__law_free.nd rfl (.inl rfl))) (fun _ _ _ _ _ => (pts_one (pt_cmpR (op_eqK (K := K) rfl hr.units) (pv 1) pe_int (nomark _)))) (fun _ _ _ _ _ => (pv 1))) pa_nil)))), run_def h (fun ds O R X c hK hE hX hp => ?_)⟩)
  subst hK; clear h hr
  try dsimp only [cxOf, Cx.nox, Cx.wish]
  have hcl_Store := T.cl_Store; have hna_Store__held := T.nA_Store__held; have hna_Store__kept := T.nA_Store__kept; have hna_Store_many := T.nA_Store_many; have hna_Store_size := T.nA_Store_size
  obtain ⟨st, a, b, ps, s, rfl, ha, hl, k⟩ := hp
  have j1 := ha.top
  have j2 := ha.held
  walk_at "goz"
  refine wn_lcC (gok_name (by decide)) ?_
  walk_at "goz"
  refine ⟨a, _, rfl, j2, rfl, by rw [AU.dN_len]; omega, fun i O' acc => O' = O ∧ acc.length = (s.held.take i).count 0, ⟨rfl, rfl⟩, fun i O' acc z => by rw [z.1]; exact j2, ?_, ?_⟩
  · rintro i d O' acc hd ⟨rfl, hac⟩
    unfold AU.dN at hd
    rw [List.getElem?_map] at hd
    obtain ⟨x, hx, rfl⟩ : ∃ x, s.held[i]? = some x ∧ d = .int (x : Nat) := by
      cases e : s.held[i]? with
      | none => rw [e] at hd; cases hd
      | some kk => rw [e] at hd; cases hd; exact ⟨kk, rfl, rfl⟩
    have ht : (s.held.take (i + 1)).count 0 = (s.held.take i).count 0 + if x = 0 then 1 else 0 := by
      rw [List.take_add_one, hx, List.count_append]
      show _ + List.count 0 [x] = _
      rw [List.count_singleton]
      by_cases e : x = 0 <;> simp [e]
    walk_at "goz"
    refine ⟨fun hb => ?_, fun hb => ?_⟩
    · have hb : x = 0 := by have := of_decide_eq_true hb; omega
      rw [if_pos hb] at ht
      walk_at "goz"
      exact ⟨⟨rfl, by rw [List.length_append, hac, ht]; rfl⟩, fun j hj => AU.keepj (v := 1) (by decide) hj⟩
    · have hb : x ≠ 0 := by have := of_decide_eq_false hb; omega
      rw [if_neg hb] at ht
      exact ⟨⟨rfl, by rw [hac, ht]; rfl⟩, fun j hj => AU.keepj (v := 1) (by decide) hj⟩
  rintro O' acc ⟨rfl, hacc⟩
  rw [AU.dN_len, List.take_length] at hacc
  walk_at "goz"
  rw [hacc]
  exact k

set_option maxHeartbeats 8000000 in
theorem ok__law_stands (T : Tx K mg) (G_Store_free : FnOk P w K mg base CX0 1 T.a_Store_free T.fd_Store_free ["self"] (SpA K (AU.C_Store_free T.aC_Store))) (G_Store_holders : FnOk P w K mg base (L2N.CX P w) 4 T.a_Store_holders T.fd_Store_holders ["self", "block"] (SpA K (AU.C_Store_holders T.aC_Store T.aC_NotHeld))) (G_Store_rows : FnOk P w K mg base (L2N.CX P w) 5 T.a_Store_rows T.fd_Store_rows ["self", "block"] (SpA K (AU.C_Store_rows T.aC_Store T.aC_NotHeld))) (G__law_same : FnOk P w K mg base CX0 8 T.a__law_same T.fd__law_same ["actual", "expected"] (SpA K (C__law_same 7))) : FnG P w K mg base CX0 9 T.a__law_stands T.fd__law_stands ["store", "state"] (SpA K (AU.C__law_stands T.aC_Store)) := by
  refine okG T.F__law_stands sc__law_stands (fun vs H Q E h => SpA.len AU.len__law_stands h) (fun cdv A outer s H vs Q E hr hgd h => ⟨_, (pss_cons (ps_if (pt_not (pt_val (pe_call G__law_same (hr.mono (by decide)) (by rfl) T.g__law_same T.F__law_same.kp T.b__law_same .nil pass0 (pa_cons (pe_prop (pv 0) T.cl_Store T.prop_Store_free G_Store_free (hr.mono (by decide)) T.b_Store_free .nil pass0 rfl) (pa_cons (pe_callB (call_lenK (K := K) rfl) (by rfl) T.m_len (by decide +kernel) (pa_cons (pe_lc (own := [("one", 3)]) (g := gName 3) rfl sc__law_stands.nd (pi_K (fun K => iSeq K _) (K := K) rfl (pi_seq (pe_ix (ix_seqK (K := K) rfl) (pv 1) pe_int (fun _ _ => rfl)))) (blkOk_by (N := n__law_stands) (sc := defScope s__law_stands) (by decide +kernel)) (fun _ _ _ _ _ => (pg_name (i := 3) sc__law_stands.nd rfl (.inl rfl))) (fun _ _ _ _ _ => (pts_one (pt_cmpR (op_eqK (K := K) rfl hr.units) (pv 3) pe_int (nomark _)))) (fun _ _ _ _ _ => (pv 3))) pa_nil)) pa_nil))))) (pss_one (ps_ret pe_bl)) pss_nil)
      (pss_cons (ps_for PassesOwn.never rfl (pi_range1 (by rfl) T.m_range (pa_cons (pe_callB (call_lenK (K := K) rfl) (by rfl) T.m_len (by decide +kernel) (pa_cons (pe_ix (ix_seqK (K := K) rfl) (pv 1) pe_int (fun _ _ => rfl)) pa_nil)) pa_nil)) (pg_name (i := 2) sc__law_stands.nd rfl (.inl rfl)) (pss_cons (ps_if (pt_not (pt_val (pe_call G__law_same (hr.mono (by decide)) (by rfl) T.g__law_same T.F__law_same.kp T.b__law_same .nil pass0 (pa_cons (pe_meth (pv 0) T.cl_Store T.meth_Store_holders G_Store_holders (hr.mono (by decide)) T.b_Store_holders .nil passN0 (pa_cons (pv 2) pa_nil)) (pa_cons (pe_ix (ix_seqK (K := K) rfl) (pe_ix (ix_seqK (K := K) rfl) (pv 1) pe_int (fun _ _ => rfl)) (pv 2) (fun _ _ => rfl)) pa_nil))))) (pss_one (ps_ret pe_bl)) pss_nil)
      (pss_one (ps_if (PW.pt (pw_and (pt_cmpR op_gtA (pe_ix (ix_seqK (K := K) rfl) (pe_ix (ix_seqK (K := K) rfl) (pv 1) pe_int (fun _ _ => rfl)) (pv 2) (fun _ _ => rfl)) pe_int (nomark _)) (pw_and1 (pt_not (pt_val (pe_call G__law_same (hr.mono (by decide)) (by rfl) T.g__law_same T.F__law_same.kp T.b__law_same .nil pass0 (pa_cons (pe_meth (pv 0) T.cl_Store T.meth_Store_rows G_Store_rows (hr.mono (by decide)) T.b_Store_rows .nil passN0 (pa_cons (pv 2) pa_nil)) (pa_cons (pe_callTy (call_tupK (K := K) rfl) (by rfl) T.m_tuple (by decide +kernel) (pa_cons (pe_ix (ix_seqK (K := K) rfl) (pe_ix (ix_seqK (K := K) rfl) (pv 1) pe_int (fun _ _ => rfl)) (pv 2) (fun _ _ => rfl)) pa_nil)) pa_nil)))))))) (pss_one (ps_ret pe_bl)) pss_nil))))
      (pss_one (ps_ret pe_bl)))), run_def h (fun ds O R X c hK hE hX hp => ?_)⟩)
  subst hK; clear h hr
  try dsimp only [cxOf, Cx.nox, Cx.wish]
  have hcl_Store := T.cl_Store; have hna_Store__held := T.nA_Store__held; have hna_Store__kept := T.nA_Store__kept; have hna_Store_many := T.nA_Store_many; have hna_Store_size := T.nA_Store_size
  obtain ⟨n, h, k', s, st, a, b, ps, rfl, hs, ha, hr, k⟩ := hp
  have i1 := hs.ins
  have j1 := ha.top
  have j2 := ha.held
  have j3 := ha.rows
  have hhl := hs.wf.hl
  have hm60 := hs.wf.m60
  refine vs_seq (vs_if ?_)
  walk_at "goz"
  refine ⟨n, h, k', s, rfl, hs, ?_⟩
  walk_at "goz"
  refine wn_lcC (gok_name (by decide)) ?_
  walk_at "goz"
  refine ⟨a, _, rfl, j2, rfl, by rw [AU.dN_len]; omega, fun i O' acc => O' = O ∧ acc.length = (s.held.take i).count 0, ⟨rfl, rfl⟩, fun i O' acc z => by rw [z.1]; exact j2, ?_, ?_⟩
  · rintro i d O' acc hd ⟨rfl, hac⟩
    unfold AU.dN at hd
    rw [List.getElem?_map] at hd
    obtain ⟨x, hx, rfl⟩ : ∃ x, s.held[i]? = some x ∧ d = .int (x : Nat) := by
      cases e : s.held[i]? with
      | none => rw [e] at hd; cases hd
      | some kk => rw [e] at hd; cases hd; exact ⟨kk, rfl, rfl⟩
    have ht : (s.held.take (i + 1)).count 0 = (s.held.take i).count 0 + if x = 0 then 1 else 0 := by
      rw [List.take_add_one, hx, List.count_append]
      show _ + List.count 0 [x] = _
      rw [List.count_singleton]
      by_cases e : x = 0 <;> simp [e]
    walk_at "goz"
    refine ⟨fun hb => ?_, fun hb => ?_⟩
    · have hb : x = 0 := by have := of_decide_eq_true hb; omega
      rw [if_pos hb] at ht
      walk_at "goz"
      exact ⟨⟨rfl, by rw [List.length_append, hac, ht]; rfl⟩, fun j hj => AU.keepj (v := 3) (by decide) hj⟩
    · have hb : x ≠ 0 := by have := of_decide_eq_false hb; omega
      rw [if_neg hb] at ht
      exact ⟨⟨rfl, by rw [hac, ht]; rfl⟩, fun j hj => AU.keepj (v := 3) (by decide) hj⟩
  rintro O' acc ⟨rfl, hacc⟩
  rw [AU.dN_len, List.take_length] at hacc
  walk_at "goz"
  rw [hacc, show s.held.count 0 = AU.freeOf s from rfl]
  refine AU.same_self trivial ?_
  walk_at "goz"
  refine vs_seq ?_
  refine vs_forI (α := Unit) [2] (fun _ => []) (fun _ => O') (fun _ _ _ => True) ?_
  walk_at "goz"
  rw [AU.dN_len]
  refine ⟨_, rfl, by omega, by omega, ⟨(), rfl, trivial⟩, ?_, ?_⟩
  · rintro i d _ hd -
    obtain ⟨hi, rfl⟩ := intsD_at hd
    rw [Int.toNat_natCast] at hi
    rw [show (0 + (i : Int)) = ((i : Nat) : Int) by omega]
    have hbo := AU.blockOf_int (s := s) (b := i) (by omega)
    refine wg_name ?_
    walk_at "fl"
    refine vs_seq (vs_if ?_)
    walk_at "goz"
    refine ⟨n, h, k', s, _, rfl, hs, .int _, fun b' hb' => ?_, fun hn => by rw [hbo] at hn; cases hn⟩
    rw [hbo] at hb'
    cases hb'
    walk_at "goz"
    refine AU.same_self trivial ?_
    walk_at "goz"
    refine vs_if ?_
    walk_at "goz"
    refine ⟨fun h0 => ?_, fun h0 => ?_⟩
    · have h0 : 0 < s.held.getD i 0 := by have := of_decide_eq_true h0; omega
      have hh := AU.heldOf_int (s := s) (b := i) (by omega) h0
      obtain ⟨p, hpl⟩ : ∃ p, ps[i]? = some p := ⟨_, List.getElem?_eq_getElem (by rw [ha.lp]; exact hi)⟩
      have hrow := ha.row i p hpl
      have hix : atI (ps.map D.ptr) (i : Int) = some (.ptr p) := atI_map (by omega) (by rw [Int.toNat_natCast]; exact hpl)
      have hmem : s.kept.getD i [] ∈ s.kept := by rw [getD_lt (by rw [ha.lk]; exact hi)]; exact List.getElem_mem _
      have h8 := hs.wf.s8
      have hll := hs.wf.rw _ hmem
      walk_at "goz"
      refine ⟨n, h, k', s, _, rfl, hs, .int _, fun b' hb' => ?_, fun hn => by rw [hh] at hn; cases hn⟩
      rw [hh] at hb'
      cases hb'
      walk_at "goz"
      refine od_ixL (lsC j3) hix ?_
      walk_at "goz"
      refine AU.same_self (AU.okE_tup (k := 6) (by omega) (fun x hx => AU.okE_mono 5 x (hr _ hmem x hx))) ?_
      walk_at "goz"
      refine ⟨(), ?_, trivial⟩
      walk_at "fl"
    · walk_at "goz"
      refine ⟨(), ?_, trivial⟩
      walk_at "fl"
  · rintro _ -
    walk_at "goz"
    exact k

set_option maxHeartbeats 8000000 in
theorem ok_law (T : Tx K mg) (G_Store___init__ : FnOk P w K mg base (L2N.CX P w) 3 T.a_Store___init__ T.fd_Store___init__ ["self", "many", "size"] (SpA K (AU.C_Store___init__ T.aC_Store T.aC_InvalidNumber))) (G_Store_free : FnOk P w K mg base CX0 1 T.a_Store_free T.fd_Store_free ["self"] (SpA K (AU.C_Store_free T.aC_Store))) (G__law_ask : FnG P w K mg base CX0 8 T.a__law_ask T.fd__law_ask ["store", "word", "block", "value"] (SpA K (AU.C__law_ask T.aC_Store))) (G__law_due : FnG P w K mg base CX0 3 T.a__law_due T.fd__law_due ["state", "size", "word", "block", "value"] (SpA K AU.C__law_due)) (G__law_free : FnOk P w K mg base CX0 1 T.a__law_free T.fd__law_free ["state"] (SpA K AU.C__law_free)) (G__law_numbers : FnOk P w K mg base CX0 1 T.a__law_numbers T.fd__law_numbers ["cell", "at", "many"] (SpA K C__law_numbers)) (G__law_odd : FnOk P w K mg base CX0 1 T.a__law_odd T.fd__law_odd ["numbers", "k", "most"] (SpA K AU.C__law_odd)) (G__law_same : FnOk P w K mg base CX0 8 T.a__law_same T.fd__law_same ["actual", "expected"] (SpA K (C__law_same 7))) (G__law_some_rows : FnOk P w K mg base CX0 4 T.a__law_some_rows T.fd__law_some_rows ["numbers"] (SpA K AU.C__law_some_rows)) (G__law_stands : FnG P w K mg base CX0 9 T.a__law_stands T.fd__law_stands ["store", "state"] (SpA K (AU.C__law_stands T.aC_Store))) : FnG P w K mg base CX0 10 T.a_law T.fd_law ["script"] (SpA K C_law) := by
  refine okG T.F_law sc_law (fun vs H Q E h => SpA.len len_law h) (fun cdv A outer s H vs Q E hr hgd h => ⟨_, (pss_cons (ps_set (i := 1) sc_law.nd rfl (.inl rfl) (pe_call G__law_numbers (hr.mono (by decide)) (by rfl) T.g__law_numbers T.F__law_numbers.kp T.b__law_numbers .nil pass0 (pa_cons (pe_ifExp (pt_cmpR op_gtA (pe_callB (call_lenK (K := K) rfl) (by rfl) T.m_len (by decide +kernel) (pa_cons (pv 0) pa_nil)) pe_int (nomark _)) (pe_ix (ix_seqK (K := K) rfl) (pv 0) pe_int (fun _ _ => rfl)) pe_int) (pa_cons pe_int (pa_cons pe_int pa_nil)))))
      (pss_cons (ps_set (i := 2) sc_law.nd rfl (.inl rfl) (pe_call G__law_some_rows (hr.mono (by decide)) (by rfl) T.g__law_some_rows T.F__law_some_rows.kp T.b__law_some_rows .nil pass0 (pa_cons (pv 1) pa_nil)))
      (pss_cons (ps_own (ps_set (i := 3) sc_law.nd rfl (.inl rfl) (pe_lst pa_nil)))
      (pss_cons (ps_for PassesOwn.never rfl (pi_range1 (by rfl) T.m_range (pa_cons pe_int pa_nil)) (pg_name (i := 4) sc_law.nd rfl (.inl rfl)) (pss_cons (ps_set (i := 5) sc_law.nd rfl (.inl rfl) (pe_ix (ix_seqK (K := K) rfl) (pe_lst (pa_cons pe_int (pa_cons pe_int (pa_cons pe_int (pa_cons pe_int (pa_cons pe_int (pa_cons (pe_op (op_addK (K := K) rfl) pe_int (pe_op op_modA (pe_callTy call_intA (by rfl) T.m_int (by decide +kernel) (pa_cons (pe_ix (ix_seqK (K := K) rfl) (pv 1) (pe_op (op_addK (K := K) rfl) pe_int (pv 4)) (fun _ _ => rfl)) pa_nil)) pe_int)) pa_nil))))))) (pe_op op_modA (pe_callTy call_intA (by rfl) T.m_int (by decide +kernel) (pa_cons (pe_ix (ix_seqK (K := K) rfl) (pv 1) (pe_op (op_addK (K := K) rfl) pe_int (pv 4)) (fun _ _ => rfl)) pa_nil)) pe_int) (fun _ _ => rfl)))
      (pss_one (ps_expr (pe_K (fun K => tBM K "list" rAppend _ _) (K := K) rfl (pe_bm PySem.F.plainAttrs_list PySem.F.slot_list_append PySem.F.type_list_append mt_append (pv 3) (pa_cons (pe_tupP (pa_cons (pv 5) (pa_cons (pe_ix (ix_seqK (K := K) rfl) (pe_lst (pa_cons pe_int (pa_cons pe_int (pa_cons pe_int (pa_cons (pe_op (op_addK (K := K) rfl) pe_int (pe_op op_modA (pe_callTy call_intA (by rfl) T.m_int (by decide +kernel) (pa_cons (pe_ix (ix_seqK (K := K) rfl) (pv 1) (pe_op (op_addK (K := K) rfl) pe_int (pv 4)) (fun _ _ => rfl)) pa_nil)) pe_int)) pa_nil))))) (pe_op op_modA (pe_callTy call_intA (by rfl) T.m_int (by decide +kernel) (pa_cons (pe_ix (ix_seqK (K := K) rfl) (pv 1) (pe_op (op_addK (K := K) rfl) pe_int (pv 4)) (fun _ _ => rfl)) pa_nil)) pe_int) (fun _ _ => rfl)) pa_nil))) pa_nil)))))))
      (pss_cons (ps_setLc (i := 6) (own := [("shape", 18)]) (g := gName 18) (tt := tYes) rfl sc_law.nd rfl rfl (sw_true rfl rfl rfl (by decide +kernel)) (pi_K (fun K => iSeq K _) (K := K) rfl (pi_seq (pv 3))) (blkOk_by (N := n_law) (sc := defScope s_law) (by decide +kernel)) (fun _ _ _ _ _ => (pg_name (i := 18) sc_law.nd rfl (.inl rfl))) (fun _ _ _ _ _ => pts_nil) (fun _ _ _ _ _ => (pe_make T.mk_Store G_Store___init__ (hr.mono (by decide)) (by rfl) T.mgC_Store T.b_Store___init__ .nil passN0 (pa_cons (pe_ix (ix_seqK (K := K) rfl) (pv 18) pe_int (fun _ _ => rfl)) (pa_cons (pe_ix (ix_seqK (K := K) rfl) (pv 18) pe_int (fun _ _ => rfl)) pa_nil)))))
      (pss_cons (ps_set (i := 7) sc_law.nd rfl (.inr rfl) (pe_lc (own := [("shape", 18)]) (g := gName 18) (tt := tYes) rfl sc_law.nd (pi_K (fun K => iSeq K _) (K := K) rfl (pi_seq (pv 3))) (blkOk_by (N := n_law) (sc := defScope s_law) (by decide +kernel)) (fun _ _ _ _ _ => (pg_name (i := 18) sc_law.nd rfl (.inl rfl))) (fun _ _ _ _ _ => pts_nil) (fun _ _ _ _ _ => (pe_lst (pa_cons (pe_op op_mulA (pe_lst (pa_cons pe_int pa_nil)) (pe_ix (ix_seqK (K := K) rfl) (pv 18) pe_int (fun _ _ => rfl))) (pa_cons (pe_lc (own := [("k", 4)]) (g := gName 4) (tt := tYes) rfl sc_law.nd (pi_range1 (by rfl) T.m_range (pa_cons (pe_ix (ix_seqK (K := K) rfl) (pv 18) pe_int (fun _ _ => rfl)) pa_nil)) (blkOk_by (N := n_law) (sc := { kind := .function, names := [(PySem.Str.ofString ".0", .local), (PySem.Str.ofString "shape", .local), (PySem.Str.ofString "range", .globalImplicit)], isGenerator := false, isCoroutine := false, more := [] }) (by decide +kernel)) (fun _ _ _ _ _ => (pg_name (i := 4) sc_law.nd rfl (.inl rfl))) (fun _ _ _ _ _ => pts_nil) (fun _ _ _ _ _ => (pe_lst pa_nil))) pa_nil))))))
      (pss_cons (ps_for PassesOwn.never rfl (pi_range2 (by rfl) T.m_range (pa_cons pe_int (pa_cons (pe_callB (call_min2A rfl) (by rfl) T.m_min (by decide +kernel) (pa_cons (pe_callB (call_lenK (K := K) rfl) (by rfl) T.m_len (by decide +kernel) (pa_cons (pv 0) pa_nil)) (pa_cons pe_int pa_nil))) pa_nil))) (pg_name (i := 8) sc_law.nd rfl (.inl rfl)) (pss_cons (ps_set (i := 9) sc_law.nd rfl (.inl rfl) (pe_call G__law_numbers (hr.mono (by decide)) (by rfl) T.g__law_numbers T.F__law_numbers.kp T.b__law_numbers .nil pass0 (pa_cons (pe_ix (ix_seqK (K := K) rfl) (pv 0) (pv 8) (fun _ _ => rfl)) (pa_cons (pv 8) (pa_cons pe_int pa_nil)))))
      (pss_cons (ps_set (i := 10) sc_law.nd rfl (.inr rfl) (pe_op op_modA (pe_callTy call_intA (by rfl) T.m_int (by decide +kernel) (pa_cons (pe_ix (ix_seqK (K := K) rfl) (pv 9) pe_int (fun _ _ => rfl)) pa_nil)) pe_int))
      (pss_cons (ps_set (i := 5) sc_law.nd rfl (.inl rfl) (pe_ix (ix_seqK (K := K) rfl) (pe_ix (ix_seqK (K := K) rfl) (pv 3) (pv 10) (fun _ _ => rfl)) pe_int (fun _ _ => rfl)))
      (pss_cons (ps_set (i := 11) sc_law.nd rfl (.inl rfl) (pe_lst (pa_cons pe_str (pa_cons pe_str (pa_cons pe_str (pa_cons pe_str (pa_cons pe_str (pa_cons pe_str (pa_cons pe_str (pa_cons pe_str (pa_cons pe_str (pa_cons pe_str (pa_cons pe_str pa_nil)))))))))))))
      (pss_cons (ps_set (i := 12) sc_law.nd rfl (.inl rfl) (pe_ix (ix_seqK (K := K) rfl) (pv 11) (pe_op op_modA (pe_callTy call_intA (by rfl) T.m_int (by decide +kernel) (pa_cons (pe_ix (ix_seqK (K := K) rfl) (pv 9) pe_int (fun _ _ => rfl)) pa_nil)) pe_int) (fun _ _ => rfl)))
      (pss_cons (ps_setLc (i := 14) (own := [("block", 13)]) (g := gName 13) rfl sc_law.nd rfl rfl (sw_true rfl rfl rfl (by decide +kernel)) (pi_range1 (by rfl) T.m_range (pa_cons (pv 5) pa_nil)) (blkOk_by (N := n_law) (sc := defScope s_law) (by decide +kernel)) (fun _ _ _ _ _ => (pg_name (i := 13) sc_law.nd rfl (.inl rfl))) (fun _ _ _ _ _ => (pts_one (pt_cmpR op_gtA (pe_ix (ix_seqK (K := K) rfl) (pe_ix (ix_seqK (K := K) rfl) (pe_ix (ix_seqK (K := K) rfl) (pv 7) (pv 10) (fun _ _ => rfl)) pe_int (fun _ _ => rfl)) (pv 13) (fun _ _ => rfl)) pe_int (nomark _)))) (fun _ _ _ _ _ => (pv 13)))
      (pss_cons (ps_set (i := 13) sc_law.nd rfl (.inl rfl) (pe_op op_modA (pe_callTy call_intA (by rfl) T.m_int (by decide +kernel) (pa_cons (pe_ix (ix_seqK (K := K) rfl) (pv 9) pe_int (fun _ _ => rfl)) pa_nil)) (pv 5)))
      (pss_cons (ps_if (PW.pt (pw_and (pt_cmpR op_gtA (pe_callB (call_lenK (K := K) rfl) (by rfl) T.m_len (by decide +kernel) (pa_cons (pv 14) pa_nil)) pe_int (nomark _)) (pw_and1 (pt_cmpR op_gtA (pe_op op_modA (pe_callTy call_intA (by rfl) T.m_int (by decide +kernel) (pa_cons (pe_ix (ix_seqK (K := K) rfl) (pv 9) pe_int (fun _ _ => rfl)) pa_nil)) pe_int) pe_int (nomark _))))) (pss_one (ps_set (i := 13) sc_law.nd rfl (.inl rfl) (pe_ix (ix_seqK (K := K) rfl) (pv 14) (pe_op op_modA (pe_callTy call_intA (by rfl) T.m_int (by decide +kernel) (pa_cons (pe_ix (ix_seqK (K := K) rfl) (pv 9) pe_int (fun _ _ => rfl)) pa_nil)) (pe_callB (call_lenK (K := K) rfl) (by rfl) T.m_len (by decide +kernel) (pa_cons (pv 14) pa_nil))) (fun _ _ => rfl)))) pss_nil)
      (pss_cons (ps_if (pt_cmpR (op_eqK (K := K) rfl hr.units) (pe_op op_modA (pe_callTy call_intA (by rfl) T.m_int (by decide +kernel) (pa_cons (pe_ix (ix_seqK (K := K) rfl) (pv 9) pe_int (fun _ _ => rfl)) pa_nil)) pe_int) pe_int (nomark _)) (pss_one (ps_set (i := 13) sc_law.nd rfl (.inl rfl) (pe_call G__law_odd (hr.mono (by decide)) (by rfl) T.g__law_odd T.F__law_odd.kp T.b__law_odd .nil pass0 (pa_cons (pv 9) (pa_cons pe_int (pa_cons (pv 5) pa_nil)))))) pss_nil)
      (pss_cons (ps_set (i := 15) sc_law.nd rfl (.inl rfl) pe_non)
      (pss_cons (ps_if (pt_cmpR (op_eqK (K := K) rfl hr.units) (pv 12) pe_str (nomark _)) (pss_one (ps_set (i := 15) sc_law.nd rfl (.inl rfl) (pe_ix (ix_seqK (K := K) rfl) (pv 2) (pe_op op_modA (pe_callTy call_intA (by rfl) T.m_int (by decide +kernel) (pa_cons (pe_ix (ix_seqK (K := K) rfl) (pv 9) pe_int (fun _ _ => rfl)) pa_nil)) pe_int) (fun _ _ => rfl)))) pss_nil)
      (pss_cons (ps_if (pt_cmpR (op_eqK (K := K) rfl hr.units) (pv 12) pe_str (nomark _)) (pss_one (ps_set (i := 15) sc_law.nd rfl (.inl rfl) (pe_ix (ix_seqK (K := K) rfl) (pe_lst (pa_cons (pe_op op_modA (pe_callTy call_intA (by rfl) T.m_int (by decide +kernel) (pa_cons (pe_ix (ix_seqK (K := K) rfl) (pv 9) pe_int (fun _ _ => rfl)) pa_nil)) pe_int) (pa_cons (pe_call G__law_odd (hr.mono (by decide)) (by rfl) T.g__law_odd T.F__law_odd.kp T.b__law_odd .nil pass0 (pa_cons (pv 9) (pa_cons pe_int (pa_cons pe_int pa_nil)))) pa_nil))) (pe_callTy call_intA (by rfl) T.m_int (by decide +kernel) (pa_cons (pe_cmpR (op_eqK (K := K) rfl hr.units) (pe_op op_modA (pe_callTy call_intA (by rfl) T.m_int (by decide +kernel) (pa_cons (pe_ix (ix_seqK (K := K) rfl) (pv 9) pe_int (fun _ _ => rfl)) pa_nil)) pe_int) pe_int (nomark _)) pa_nil)) (fun _ _ => rfl)))) pss_nil)
      (pss_cons (ps_for PassesOwn.never rfl (pi_range1 (by rfl) T.m_range (pa_cons (pe_ix (ix_seqK (K := K) rfl) (pe_lst (pa_cons pe_int (pa_cons pe_int (pa_cons pe_int (pa_cons pe_int pa_nil))))) (pe_op op_modA (pe_callTy call_intA (by rfl) T.m_int (by decide +kernel) (pa_cons (pe_ix (ix_seqK (K := K) rfl) (pv 9) pe_int (fun _ _ => rfl)) pa_nil)) pe_int) (fun _ _ => rfl)) pa_nil)) (pg_name (i := 16) sc_law.nd rfl (.inl rfl)) (pss_cons (ps_set (i := 17) sc_law.nd rfl (.inl rfl) (pe_callG G__law_ask (hr.mono (by decide)) hgd (by rfl) T.g__law_ask T.F__law_ask.kp T.b__law_ask pass0 (pa_cons (pe_ix (ix_seqK (K := K) rfl) (pv 6) (pv 10) (fun _ _ => rfl)) (pa_cons (pv 12) (pa_cons (pv 13) (pa_cons (pv 15) pa_nil))))))
      (pss_one (ps_if (pt_not (pt_val (pe_call G__law_same (hr.mono (by decide)) (by rfl) T.g__law_same T.F__law_same.kp T.b__law_same .nil pass0 (pa_cons (pv 17) (pa_cons (pe_callG G__law_due (hr.mono (by decide)) hgd (by rfl) T.g__law_due T.F__law_due.kp T.b__law_due pass0 (pa_cons (pe_ix (ix_seqK (K := K) rfl) (pv 7) (pv 10) (fun _ _ => rfl)) (pa_cons (pe_ix (ix_seqK (K := K) rfl) (pe_ix (ix_seqK (K := K) rfl) (pv 3) (pv 10) (fun _ _ => rfl)) pe_int (fun _ _ => rfl)) (pa_cons (pv 12) (pa_cons (pv 13) (pa_cons (pv 15) pa_nil)))))) pa_nil))))) (pss_one (ps_ret pe_bl)) pss_nil))))
      (pss_cons (ps_for PassesOwn.never rfl (pi_range1 (by rfl) T.m_range (pa_cons pe_int pa_nil)) (pg_name (i := 4) sc_law.nd rfl (.inl rfl)) (pss_one (ps_if (pt_not (pt_val (pe_call G__law_same (hr.mono (by decide)) (by rfl) T.g__law_same T.F__law_same.kp T.b__law_same .nil pass0 (pa_cons (pe_prop (pe_ix (ix_seqK (K := K) rfl) (pv 6) (pv 4) (fun _ _ => rfl)) T.cl_Store T.prop_Store_free G_Store_free (hr.mono (by decide)) T.b_Store_free .nil pass0 rfl) (pa_cons (pe_call G__law_free (hr.mono (by decide)) (by rfl) T.g__law_free T.F__law_free.kp T.b__law_free .nil pass0 (pa_cons (pe_ix (ix_seqK (K := K) rfl) (pv 7) (pv 4) (fun _ _ => rfl)) pa_nil)) pa_nil))))) (pss_one (ps_ret pe_bl)) pss_nil)))
      (pss_one (ps_if (pt_not (pt_val (pe_call G__law_same (hr.mono (by decide)) (by rfl) T.g__law_same T.F__law_same.kp T.b__law_same .nil pass0 (pa_cons (pe_callG G__law_ask (hr.mono (by decide)) hgd (by rfl) T.g__law_ask T.F__law_ask.kp T.b__law_ask pass0 (pa_cons (pe_ix (ix_seqK (K := K) rfl) (pv 6) (pv 10) (fun _ _ => rfl)) (pa_cons pe_str (pa_cons (pv 13) (pa_cons pe_non pa_nil))))) (pa_cons (pe_callG G__law_due (hr.mono (by decide)) hgd (by rfl) T.g__law_due T.F__law_due.kp T.b__law_due pass0 (pa_cons (pe_ix (ix_seqK (K := K) rfl) (pv 7) (pv 10) (fun _ _ => rfl)) (pa_cons pe_int (pa_cons pe_str (pa_cons (pv 13) (pa_cons pe_non pa_nil)))))) pa_nil))))) (pss_one (ps_ret pe_bl)) pss_nil)))))))))))))))))
      (pss_one (ps_ret (pe_and (pe_callG G__law_stands (hr.mono (by decide)) hgd (by rfl) T.g__law_stands T.F__law_stands.kp T.b__law_stands pass0 (pa_cons (pe_ix (ix_seqK (K := K) rfl) (pv 6) pe_int (fun _ _ => rfl)) (pa_cons (pe_ix (ix_seqK (K := K) rfl) (pv 7) pe_int (fun _ _ => rfl)) pa_nil))) (pe_one (pe_callG G__law_stands (hr.mono (by decide)) hgd (by rfl) T.g__law_stands T.F__law_stands.kp T.b__law_stands pass0 (pa_cons (pe_ix (ix_seqK (K := K) rfl) (pv 6) pe_int (fun _ _ => rfl)) (pa_cons (pe_ix (ix_seqK (K := K) rfl) (pv 7) pe_int (fun _ _ => rfl)) pa_nil)))))))))))))), run_def h (fun ds O R X c hK hE hX hp => ?_)⟩)
  subst hK; clear h hr
  try dsimp only [cxOf, Cx.nox, Cx.wish]
  have hcl_Store := T.cl_Store; have hna_Store__held := T.nA_Store__held; have hna_Store__kept := T.nA_Store__kept; have hna_Store_many := T.nA_Store_many; have hna_Store_size := T.nA_Store_size
  obtain ⟨ns, rfl, hl, k⟩ := hp
  refine vs_cutI (α := List Int) [] (fun q => [(1, some (.val (.lst (q.map .int))))]) (fun _ => O) (fun q => q.length = 60 ∧ AllN q) ?_ ?_
  · walk_at "gom"
    refine ⟨fun h0 => ?_, fun h0 => ?_⟩
    · have h0 : 0 < ns.length := by have := of_decide_eq_true h0; rw [List.length_map] at this; omega
      walk_at "gom"
      refine ⟨_, _, _, rfl, by omega, by omega, fun ms hms hN => ?_⟩
      walk_at "gom"
      refine ⟨ms, ?_, by omega, hN⟩
      walk_at "fl"
    · walk_at "gom"
      refine ⟨_, _, _, rfl, by omega, by omega, fun ms hms hN => ?_⟩
      walk_at "gom"
      refine ⟨ms, ?_, by omega, hN⟩
      walk_at "fl"
  rintro hd ⟨hhd, hN⟩
  walk_at "fl"
  walk_at "gom"
  refine ⟨hd, rfl, hN, by omega, by omega, fun rs hrl hrs => ?_⟩
  walk_at "gom"
  walk_at "fl"
  refine vs_seq ?_
  refine vs_forI (α := List (Nat × Nat)) [4, 5] (fun q => [(3, some (.own (.lst (q.map AU.dSh))))]) (fun _ => O) (fun _ i q => q.length = i ∧ ∀ p ∈ q, 1 ≤ p.1 ∧ p.1 ≤ 60 ∧ 1 ≤ p.2 ∧ p.2 ≤ 8) ?_
  walk_at "goz"
  refine ⟨2, rfl, by omega, by omega, ⟨[], rfl, rfl, fun p h => nomatch h⟩, ?_, ?_⟩
  · rintro i d q hd' ⟨hql, hq⟩
    obtain ⟨hi, rfl⟩ := intsD_at hd'
    have hi : i < 2 := hi
    walk_at "fl"
    walk_at "goz"
    refine od_pickN 1 60 rfl (by omega) (by walk_at "pk") (by walk_at "inb") fun m hm1 hm2 => ?_
    walk_at "goz"
    refine od_pickN 1 8 rfl (by omega) (by walk_at "pk") (by walk_at "inb") fun z hz1 hz2 => ?_
    walk_at "goz"
    refine ⟨q ++ [(m, z)], ?_, by rw [List.length_append, hql]; rfl, fun p hp => ?_⟩
    · rw [List.map_append]; walk_at "fl"; rfl
    · rcases List.mem_append.mp hp with h | h
      · exact hq p h
      · rw [List.mem_singleton] at h; subst h; exact ⟨hm1, hm2, hz1, hz2⟩
  rintro q ⟨hql, hq⟩
  rw [intsD_len] at hql
  obtain ⟨s1, s2, rfl⟩ : ∃ s1 s2, q = [s1, s2] := by
    match q, hql with
    | [x, y], _ => exact ⟨x, y, rfl⟩
  have hq1 := hq s1 (by simp)
  have hq2 := hq s2 (by simp)
  have hqi : ∀ (i : Nat) (p : Nat × Nat), [s1, s2][i]? = some p → 1 ≤ p.1 ∧ p.1 ≤ 60 ∧ 1 ≤ p.2 ∧ p.2 ≤ 8 := fun i p h => hq p (List.mem_of_getElem? h)
  walk_at "fl"
  walk_at "gom"
  refine wn_lcI (gok_name (by decide)) ?_
  walk_at "gom"
  refine ⟨_, rfl, rfl, by show 2 < _; omega, AU.StI T.aC_Store O s1 s2, .inl ⟨rfl, rfl, rfl⟩, ?_, ?_⟩
  · rintro i d O' acc hd' I
    have hd' : ([s1, s2].map AU.dSh)[i]? = some d := hd'
    rw [List.getElem?_map] at hd'
    obtain ⟨p, hp, rfl⟩ : ∃ p, [s1, s2][i]? = some p ∧ d = AU.dSh p := by
      cases e : [s1, s2][i]? with
      | none => rw [e] at hd'; cases hd'
      | some kk => rw [e] at hd'; cases hd'; exact ⟨kk, rfl, rfl⟩
    have hpb := hqi i p hp
    obtain ⟨pm, pz⟩ := p
    dsimp only at hpb
    refine wg_name ?_
    refine wt_yes ⟨fun _ => ?_, fun h => nomatch h⟩
    refine we_make ?_
    walk_at "gom"
    refine ⟨O'.length, _, _, rfl, by simp [AS.setS], .int _, .int _, fun h => ?_, fun _ h => ?_, fun m' z' em ez _ _ _ _ => ⟨rfl, ?_⟩⟩
    · rw [AU.isFromD_of (by omega) (by omega)] at h; cases h
    · rw [AU.isFromD_of (by omega) (by omega)] at h; cases h
    have em : pm = m' := by have := (D.int.inj em); omega
    have ez : pz = z' := by have := (D.int.inj ez); omega
    subst em ez
    have hs := AU.storeAt_new (C := T.aC_Store) (O := O' ++ [.ins T.aC_Store []]) (i := O'.length) (m := pm) (z := pz) (by simp) (by omega) (by omega) (by omega) (by omega)
    have hf : AU.Frm O' (((O' ++ [Cell.ins T.aC_Store []]) ++ [Cell.lst (AU.dN (List.replicate pm 0)), Cell.lst ((List.replicate pm []).map D.tup)]).set O'.length (.ins T.aC_Store (AU.storeF ⟨pm, pz, List.replicate pm 0, List.replicate pm []⟩ (O' ++ [Cell.ins T.aC_Store []]).length ((O' ++ [Cell.ins T.aC_Store []]).length + 1)))) [] := ⟨by simp, fun j hj _ => by rw [List.getElem?_set_ne (by omega), List.append_assoc, List.getElem?_append_left hj]⟩
    have hb : ∀ j ∈ [O'.length, (O' ++ [Cell.ins T.aC_Store []]).length, (O' ++ [Cell.ins T.aC_Store []]).length + 1], O'.length ≤ j := fun j hj => by
      simp only [List.mem_cons, List.not_mem_nil, or_false, List.length_append, List.length_cons, List.length_nil] at hj
      rcases hj with rfl | rfl | rfl <;> omega
    exact frz_val ⟨I.step hp hs hf hb, fun j hj => AU.keepj (v := 18) (by decide) hj⟩
  rintro O3 acc (⟨z, _⟩ | ⟨z, _⟩ | ⟨_, n1, h1, k1, n2, h2, k2, rfl, a1, a2, dj⟩)
  · cases z
  · cases z
  walk_at "gom"
  walk_at "fl"
  refine wn_lcI (gok_name (by decide)) ?_
  walk_at "gom"
  refine ⟨_, rfl, rfl, by show 2 < _; omega, AU.CtI T.aC_Store O3 s1 s2 n1 h1 k1 n2 h2 k2, .inl ⟨rfl, rfl, a1, a2⟩, ?_, ?_⟩
  · rintro i d O' acc hd' I
    have hd' : ([s1, s2].map AU.dSh)[i]? = some d := hd'
    rw [List.getElem?_map] at hd'
    obtain ⟨p, hp, rfl⟩ : ∃ p, [s1, s2][i]? = some p ∧ d = AU.dSh p := by
      cases e : [s1, s2][i]? with
      | none => rw [e] at hd'; cases hd'
      | some kk => rw [e] at hd'; cases hd'; exact ⟨kk, rfl, rfl⟩
    have hpb := hqi i p hp
    obtain ⟨n, h, k', hs, hn⟩ := I.at hp
    obtain ⟨m, z⟩ := p
    dsimp only at hpb
    have hs : AU.StoreAt T.aC_Store O' n h k' ⟨m, z, List.replicate m 0, List.replicate m []⟩ := hs
    refine wg_name ?_
    refine wt_yes ⟨fun _ => ?_, fun h => nomatch h⟩
    refine we_cell (wn_lst (wa_cons (we_cell (wn_rep ?_))))
    walk_at "gom"
    refine ⟨_, _, rfl, trivial, rfl, by omega, by rw [Int.toNat_natCast]; show 1 * _ ≤ _; omega, ?_⟩
    rw [show (List.replicate ((m : Nat) : Int).toNat [D.int 0]).flatten = AU.dN (List.replicate m 0) by rw [Int.toNat_natCast, List.flatten_replicate_singleton]; unfold AU.dN; rw [List.map_replicate]; rfl]
    refine frz_val ?_
    refine wa_cons (we_cell (wn_lcMO (α := Nat) (fun k => .int (0 + (k : Nat))) (fun k => .ptr (O'.length + 1 + k)) (gok_name (by decide)) ?_))
    walk_at "gom"
    refine ⟨_, rfl, by omega, by omega, List.range m, fun i => (O' ++ [.lst (AU.dN (List.replicate m 0))]) ++ List.replicate i (.lst []), rfl, rfl, by rw [List.length_range]; omega, by show _ ++ List.replicate 0 _ = _; rw [List.replicate_zero, List.append_nil]; rfl, fun i x hx => ?_, ?_⟩
    · obtain ⟨hi, hxi⟩ := List.getElem?_eq_some_iff.mp hx
      rw [List.getElem_range] at hxi
      subst hxi
      refine wg_name ?_
      refine we_cell (wn_lst (wa_nil ⟨Nat.le_of_ble_eq_true rfl, ?_⟩))
      refine frz_val ⟨?_, ?_, ?_⟩
      · show D.ptr (List.length _) = _
        congr 1
        show (((O' ++ [Cell.lst (AU.dN (List.replicate m 0))]) ++ List.replicate i (Cell.lst []))).length = _
        rw [List.length_append, List.length_append, List.length_replicate]; rfl
      · show ((O' ++ [Cell.lst (AU.dN (List.replicate m 0))]) ++ List.replicate i (Cell.lst [])) ++ [Cell.lst []] = _
        show _ = _ ++ List.replicate (i + 1) _
        rw [List.replicate_succ', ← List.append_assoc]
      · intro j hj
        exact AU.keepj (v := 4) (by decide) hj
    rw [List.length_range]
    generalize hps : (List.range m).map (fun i => O'.length + 1 + i) = ps
    have hpl : ps.map D.ptr = (List.range m).map (fun k => D.ptr (O'.length + 1 + k)) := by rw [← hps, List.map_map]; rfl
    rw [← hpl]
    obtain ⟨B, hf, hb⟩ := AU.both_new hs hps
    have e1 : ((O' ++ [Cell.lst (AU.dN (List.replicate m 0))]) ++ List.replicate m (Cell.lst [])).length = O'.length + 1 + m := by rw [List.length_append, List.length_append, List.length_replicate]; rfl
    have e2 : (((O' ++ [Cell.lst (AU.dN (List.replicate m 0))]) ++ List.replicate m (Cell.lst [])) ++ [Cell.lst (ps.map .ptr)]).length = O'.length + 2 + m := by rw [List.length_append, e1]; show _ + 1 = _; omega
    refine frz_val (wa_nil ⟨Nat.le_of_ble_eq_true rfl, ?_⟩)
    dsimp only [AS.setS]
    rw [e1, e2]
    refine frz_val ⟨I.step dj hp hn B hf hb, fun j hj => AU.keepj (v := 18) (by decide) hj⟩
  rintro O4 acc (⟨z, _⟩ | ⟨z, _⟩ | ⟨_, st1, c1, b1, ps1, st2, c2, b2, ps2, rfl, B1, B2, dd⟩)
  · cases z
  · cases z
  have hT : AU.Two T.aC_Store ⟨n1, h1, k1, st1, c1, b1⟩ ⟨n2, h2, k2, st2, c2, b2⟩ s1 s2 (O4, (AU.frs s1, ps1), (AU.frs s2, ps2)) := ⟨B1, ⟨rfl, rfl⟩, B2, ⟨rfl, rfl⟩, dd⟩
  generalize AU.frs s1 = t1 at hT
  generalize AU.frs s2 = t2 at hT
  clear B1 B2 dd a1 a2 dj
  generalize hF1 : (⟨n1, h1, k1, st1, c1, b1⟩ : AU.Six) = F1 at hT
  generalize hF2 : (⟨n2, h2, k2, st2, c2, b2⟩ : AU.Six) = F2 at hT
  rw [show n1 = F1.n by rw [← hF1], show n2 = F2.n by rw [← hF2], show st1 = F1.st by rw [← hF1], show st2 = F2.st by rw [← hF2]]
  clear hF1 hF2
  walk_at "fl"
  refine vs_seq ?_
  refine vs_forI (α := List Cell × (AU.StoreM × List Nat) × (AU.StoreM × List Nat)) [4, 5, 8, 9, 10, 11, 12, 13, 14, 15, 16, 17] (fun _ => []) (fun q => q.1) (fun _ _ q => AU.Two T.aC_Store F1 F2 s1 s2 q) ?_
  walk_at "goz"
  refine ⟨_, _, rfl, ⟨by omega, by omega⟩, ⟨by split <;> omega, by split <;> omega⟩, ⟨(O4, (t1, ps1), (t2, ps2)), rfl, hT⟩, ?_, ?_⟩
  · clear hT
    rintro i d ⟨O6, r6⟩ hd' hT
    obtain ⟨hi, rfl⟩ := intsD_at hd'
    have hi : 1 + i < ns.length := by rw [List.length_map] at hi; split at hi <;> omega
    walk_at "fl"
    walk_at "goz"
    refine ⟨_, _, _, rfl, by omega, by omega, fun ms hms hN2 => ?_⟩
    have hms : ms.length = 12 := by omega
    walk_at "goz"
    rename_i x hx0 hx1
    obtain ⟨one, hone, hone2⟩ := modN (x := x) (m := 2) (by decide)
    rw [show x % 2 = (one : Int) from hone]
    obtain ⟨F, G, z, s, s', ps, ps', B, hm, hz, B', dj, hn, hst, hzz, Rb⟩ := hT.pick hone2
    dsimp only at B B'
    have ixz : atI [AU.dSh s1, AU.dSh s2] (one : Int) = some (AU.dSh z) := atI_map (f := AU.dSh) (xs := [s1, s2]) (by omega) (by rw [Int.toNat_natCast]; exact hzz)
    have ixn : atI [D.ptr F1.n, D.ptr F2.n] (one : Int) = some (D.ptr F.n) := atI_map (f := D.ptr) (xs := [F1.n, F2.n]) (by omega) (by rw [Int.toNat_natCast]; exact hn)
    have ixs : atI [D.ptr F1.st, D.ptr F2.st] (one : Int) = some (D.ptr F.st) := atI_map (f := D.ptr) (xs := [F1.st, F2.st]) (by omega) (by rw [Int.toNat_natCast]; exact hst)
    have hzb := hqi one z hzz
    have j1 := B.ca.top
    have j2 := B.ca.held
    have hhl := B.sa.wf.hl
    refine od_ixL rfl ixz ?_
    walk_at "goz"
    refine od_ixAll (P := fun d => ∃ w : AU.Wd, d = .str w.str) rfl (by omega) (by walk_at "pk") ?_ ?_
    · intro d hd
      simp only [List.mem_cons, List.not_mem_nil, or_false] at hd
      rcases hd with rfl | rfl | rfl | rfl | rfl | rfl | rfl | rfl | rfl | rfl | rfl
      · exact ⟨.take, rfl⟩
      · exact ⟨.take, rfl⟩
      · exact ⟨.take, rfl⟩
      · exact ⟨.put, rfl⟩
      · exact ⟨.put, rfl⟩
      · exact ⟨.put, rfl⟩
      · exact ⟨.hold, rfl⟩
      · exact ⟨.release, rfl⟩
      · exact ⟨.shorten, rfl⟩
      · exact ⟨.rows, rfl⟩
      · exact ⟨.holders, rfl⟩
    rintro _ ⟨w, rfl⟩
    generalize hwl : D.lst [D.str "take", D.str "take", D.str "take", D.str "put", D.str "put", D.str "put", D.str "hold", D.str "release", D.str "shorten", D.str "rows", D.str "holders"] = wl
    clear hwl
    walk_at "goz"
    walk_at "fl"
    refine wn_lcI (gok_name (by decide)) ?_
    walk_at "goz"
    refine ⟨_, rfl, by omega, by omega, rfl, by rw [intsD_len]; omega, fun i O' acc => O' = O6 ∧ ∃ bs : List Nat, acc = AU.dN bs ∧ bs.length ≤ i ∧ ∀ x ∈ bs, x < z.1, ⟨rfl, [], rfl, Nat.le_refl _, fun x h => nomatch h⟩, ?_, ?_⟩
    · rintro j e O' acc he ⟨rfl, bs, rfl, hbl, hbs⟩
      obtain ⟨hj, rfl⟩ := intsD_at he
      rw [Int.toNat_natCast] at hj
      rw [show (0 + (j : Int)) = ((j : Nat) : Int) by omega]
      walk_at "goz"
      refine od_ixL rfl ixs ?_
      walk_at "goz"
      refine ⟨fun _ => ?_, fun _ => ?_⟩
      · walk_at "goz"
        refine ⟨⟨rfl, bs ++ [j], by unfold AU.dN; rw [List.map_append]; rfl, by rw [List.length_append]; show _ + 1 ≤ _; omega, fun x hx => ?_⟩, fun j' hj' => AU.keepj (v := 13) (by decide) hj'⟩
        rcases List.mem_append.mp hx with h | h
        · exact hbs x h
        · rw [List.mem_singleton] at h; omega
      · exact ⟨⟨rfl, bs, rfl, by omega, hbs⟩, fun j' hj' => AU.keepj (v := 13) (by decide) hj'⟩
    rintro O7 acc ⟨rfl, bs, rfl, hbl, hbs⟩
    rw [intsD_len, Int.toNat_natCast] at hbl
    have hdl : (AU.dN bs).length = bs.length := AU.dN_len
    walk_at "goz"
    rename_i y hy0 hy1
    obtain ⟨bk, hbk, hbk2⟩ := modN (x := y) (m := z.1) (by omega)
    rw [hbk]
    walk_at "fl"
    refine vs_cutI (α := D) [] (fun v => [(13, some (.val v))]) (fun _ => O7) (fun v => AU.OddS v) ?_ ?_
    · refine vs_if ?_
      walk_at "goz"
      refine ⟨fun h0 => ?_, fun _ => ?_⟩
      · have h0 : 0 < bs.length := by have := of_decide_eq_true h0; omega
        walk_at "goz"
        refine ⟨fun _ => ?_, fun _ => ?_⟩
        · walk_at "goz"
          rename_i u hu0 hu1
          obtain ⟨ui, hui, hui2⟩ := modN (x := u) (m := (AU.dN bs).length) (by omega)
          rw [hui]
          refine od_ixAll (P := AU.OddS) rfl (by omega) (by omega) (fun d hd => ?_) (fun v hv => ?_)
          · obtain ⟨x, hx, rfl⟩ := List.mem_map.mp hd
            have := hbs x hx
            exact AU.oddS_lt (by omega) (by omega)
          walk_at "goz"
          refine ⟨v, ?_, hv⟩
          walk_at "fl"
        · walk_at "goz"
          refine ⟨.int (bk : Nat), ?_, AU.oddS_lt (by omega) (by omega)⟩
          walk_at "fl"
      · walk_at "goz"
        refine ⟨.int (bk : Nat), ?_, AU.oddS_lt (by omega) (by omega)⟩
        walk_at "fl"
    rintro v1 hv1
    walk_at "fl"
    refine vs_cutI (α := D) [] (fun v => [(13, some (.val v))]) (fun _ => O7) (fun v => AU.OddS v) ?_ ?_
    · refine vs_if ?_
      walk_at "goz"
      refine ⟨fun _ => ?_, fun _ => ?_⟩
      · walk_at "goz"
        refine ⟨ms, 4, z.1, rfl, hN2, by omega, by omega, by omega, by omega, fun od ho _ => ?_⟩
        walk_at "goz"
        refine ⟨od, ?_, ho⟩
        walk_at "fl"
      · walk_at "goz"
        refine ⟨v1, ?_, hv1⟩
        walk_at "fl"
    rintro bd hbd
    walk_at "fl"
    walk_at "goz"
    walk_at "fl"
    refine vs_cutI (α := D) [] (fun v => [(15, some (.val v))]) (fun _ => O7) (fun v => w = .put → AU.RowD v ∧ okE 5 v) ?_ ?_
    · refine vs_if ?_
      cases w
      case put =>
        walk_at "goz"
        refine od_ixAll (P := fun d => AU.RowD d ∧ okE 5 d) rfl (by omega) (by rw [hrl]; omega) (fun d hd => hrs d hd) (fun v hv => ?_)
        walk_at "goz"
        refine ⟨v, ?_, fun _ => hv⟩
        walk_at "fl"
      all_goals
        walk_at "goz"
        refine ⟨.non, ?_, fun z => nomatch z⟩
        walk_at "fl"
    rintro v2 hv2
    walk_at "fl"
    refine vs_cutI (α := D) [] (fun v => [(15, some (.val v))]) (fun _ => O7) (fun v => AU.VOk w v ∧ (w = .put → okE 5 v)) ?_ ?_
    · refine vs_if ?_
      cases w
      case shorten =>
        walk_at "goz"
        refine ⟨ms, 8, 9, rfl, hN2, by omega, by omega, by omega, by omega, fun od ho _ => ?_⟩
        walk_at "goz"
        refine od_ixAll (P := AU.OddS) rfl (by split <;> omega) (by split <;> walk_at "pk") ?_ ?_
        · intro d hd
          simp only [List.mem_cons, List.not_mem_nil, or_false] at hd
          rcases hd with rfl | rfl
          · exact AU.oddS_lt (by omega) (by omega)
          · exact ho
        intro v hv
        walk_at "goz"
        refine ⟨v, ?_, hv, fun z => nomatch z⟩
        walk_at "fl"
      case put =>
        walk_at "goz"
        refine ⟨v2, ?_, (hv2 rfl).1, fun _ => (hv2 rfl).2⟩
        walk_at "fl"
      all_goals
        walk_at "goz"
        refine ⟨v2, ?_, trivial, fun z => nomatch z⟩
        walk_at "fl"
    rintro v3 ⟨hv, hv5⟩
    obtain ⟨pv, hpv⟩ := AU.sho hv
    obtain ⟨hb1, pd, hpd, hpds, _⟩ := hbd
    walk_at "fl"
    refine vs_seq ?_
    refine vs_forI (α := List Cell × AU.StoreM × List Nat) [16, 17] (fun _ => []) (fun q => q.1) (fun _ _ q => AU.BF T.aC_Store q.1 F q.2.2 q.2.1 ∧ q.2.1.many = z.1 ∧ q.2.1.size = z.2 ∧ AU.BF T.aC_Store q.1 G ps' s' ∧ ∀ j ∈ AU.ff F q.2.2, j ∉ AU.ff G ps') ?_
    walk_at "goz"
    refine od_pickN 1 2 rfl (by omega) (by walk_at "pk") (by walk_at "inb") fun tn _ _ => ?_
    walk_at "goz"
    refine ⟨_, rfl, by omega, by omega, ⟨(O7, s, ps), rfl, B, hm, hz, B', dj⟩, ?_, ?_⟩
    · clear B B' dj j1 j2 hhl hm hz hT
      rintro tk g ⟨O8, u, pu⟩ hg ⟨Bu, hum, huz, Bu', dju⟩
      dsimp only at Bu hum huz Bu' dju
      obtain ⟨_, rfl⟩ := intsD_at hg
      have hwf := Bu.sa.wf
      walk_at "fl"
      walk_at "goz"
      refine od_ixL rfl ixn ?_
      walk_at "goz"
      refine ⟨F.n, F.h, F.k, u, w, bd, v3, pd, pv, rfl, Bu.sa, hb1, hv, hpd, hpds, hpv, fun O9 hl9 hs9 hm9 hz9 hf9 => ?_⟩
      walk_at "goz"
      refine vs_if ?_
      walk_at "goz"
      refine od_ixL rfl ixs ?_
      walk_at "goz"
      refine od_ixL rfl ixz ?_
      walk_at "goz"
      refine ⟨F.st, F.a, F.b, pu, u, _, w, bd, v3, pd, pv, rfl, fun _ => by rw [huz], Bu.mid hf9, hwf, hb1, hv, hpd, hpds, hpv, fun O10 ps10 hst10 hf10 hps10 => ?_⟩
      have B10 := Bu.step hl9 hs9 hf9 hst10 hf10 hps10 (AU.new_ok Bu.ok hv5)
      have Bo := Bu'.other dju hl9 hf9 hf10 hps10
      walk_at "goz"
      refine AU.same_self (AU.told_ok hwf Bu.ok) ?_
      walk_at "goz"
      refine ⟨(O10, _, ps10), ?_, B10, by rw [← hum]; exact hm9, by rw [← huz]; exact hz9, Bo.1, Bo.2⟩
      walk_at "fl"
    rintro ⟨O8, u, pu⟩ ⟨Bu, hum, huz, Bu', dju⟩
    dsimp only at Bu hum huz Bu' dju
    obtain ⟨⟨O9, r9⟩, e9, hT9⟩ := Rb O8 u pu Bu hum huz Bu' dju
    have e9 : O9 = O8 := e9
    rw [e9] at hT9
    walk_at "fl"
    refine vs_seq ?_
    refine vs_forI (α := Unit) [4] (fun _ => []) (fun _ => O8) (fun _ _ _ => True) ?_
    walk_at "goz"
    refine ⟨2, rfl, by omega, by omega, ⟨(), rfl, trivial⟩, ?_, ?_⟩
    · rintro kk g _ hg -
      obtain ⟨hkk, rfl⟩ := intsD_at hg
      have hkk : kk < 2 := hkk
      obtain ⟨F', G', z', t, t', qs, qs', C, _, _, _, _, hn', hst', _, _⟩ := hT9.pick hkk
      dsimp only at C
      have ixn' : atI [D.ptr F1.n, D.ptr F2.n] (kk : Int) = some (D.ptr F'.n) := atI_map (f := D.ptr) (xs := [F1.n, F2.n]) (by omega) (by rw [Int.toNat_natCast]; exact hn')
      have ixs' : atI [D.ptr F1.st, D.ptr F2.st] (kk : Int) = some (D.ptr F'.st) := atI_map (f := D.ptr) (xs := [F1.st, F2.st]) (by omega) (by rw [Int.toNat_natCast]; exact hst')
      have c1 := C.sa.ins
      have hcl := C.sa.wf.hl
      have hc60 := C.sa.wf.m60
      rw [show (0 + (kk : Int)) = ((kk : Nat) : Int) by omega]
      refine wg_name ?_
      walk_at "fl"
      refine vs_if ?_
      walk_at "goz"
      refine od_ixL rfl ixn' ?_
      walk_at "goz"
      refine ⟨F'.n, _, _, t, rfl, C.sa, ?_⟩
      walk_at "goz"
      refine od_ixL rfl ixs' ?_
      walk_at "goz"
      refine ⟨F'.st, _, _, qs, t, rfl, C.ca, by omega, ?_⟩
      walk_at "goz"
      refine AU.same_self trivial ?_
      walk_at "goz"
      refine ⟨(), ?_, trivial⟩
      walk_at "fl"
    rintro _ -
    walk_at "fl"
    refine vs_if ?_
    walk_at "goz"
    refine od_ixL rfl ixn ?_
    walk_at "goz"
    refine ⟨F.n, F.h, F.k, u, .rows, bd, .non, pd, .none, rfl, Bu.sa, hb1, trivial, hpd, hpds, (fun z => nomatch z), fun O10 hl10 hs10 hm10 hz10 hf10 => ?_⟩
    walk_at "goz"
    refine od_ixL rfl ixs ?_
    walk_at "goz"
    refine ⟨F.st, F.a, F.b, pu, u, _, .rows, bd, .non, pd, .none, rfl, (fun z => nomatch z), Bu.mid hf10, Bu.sa.wf, hb1, trivial, hpd, hpds, (fun z => nomatch z), fun O11 ps11 hst11 hf11 hps11 => ?_⟩
    have B11 := Bu.step hl10 hs10 hf10 hst11 hf11 hps11 (AU.new_ok Bu.ok (fun z => nomatch z))
    have Bo := Bu'.other dju hl10 hf10 hf11 hps11
    walk_at "goz"
    refine AU.same_self (AU.told_ok Bu.sa.wf Bu.ok) ?_
    walk_at "goz"
    obtain ⟨q12, e12, hT12⟩ := Rb O11 _ ps11 B11 (by rw [← hum]; exact hm10) (by rw [← huz]; exact hz10) Bo.1 Bo.2
    refine ⟨q12, ?_, hT12⟩
    rw [e12]
    walk_at "fl"
  · rintro ⟨O6, r6⟩ hT
    have hT1 := hT.b1
    have hT2 := hT.b2
    dsimp only at hT1 hT2
    walk_at "goz"
    refine ⟨_, _, _, _, _, _, _, _, rfl, hT1.sa, hT1.ca, hT1.ok, ?_⟩
    walk_at "goz"
    refine ⟨_, _, _, _, _, _, _, _, rfl, hT2.sa, hT2.ca, hT2.ok, ?_⟩
    walk_at "goz"
    exact k _

end
set_option maxHeartbeats 0 in
theorem all_mk {l : PySem.W.OpenLaw} {w : World} {K : PySem.W.Frag} {h : Heap} {mg : Str → Option Value} {fa : Addr} (X : K.In h) (G : h.Ns mainGlobals mg) (hfa : mg "law" = some (.ref fa))
    {fC_Store : Addr} (AC_Store : PySem.W.nsIn K mainGlobals "Store" = some (some (.ref fC_Store))) (pg_Store : PySem.W.plainGet K fC_Store Str.empty = true) (hd_Store : PySem.W.hasDictIn K fC_Store = true) (po_Store : PySem.W.plainOver K fC_Store = true) (sa_Store : PySem.W.findIn K (.ref fC_Store) "__setattr__" = some (some (.builtin "object.__setattr__"))) (mk_Store : PySem.W.makesIn K fC_Store = true) (kc_Store : PySem.W.keepIn K (.ref fC_Store) = true)
    (na_Store__held : PySem.W.findIn K (.ref fC_Store) "_held" = some none)
    (na_Store__kept : PySem.W.findIn K (.ref fC_Store) "_kept" = some none)
    (na_Store_many : PySem.W.findIn K (.ref fC_Store) "many" = some none)
    (na_Store_size : PySem.W.findIn K (.ref fC_Store) "size" = some none)
    {fC_InvalidLetter : Addr} (AC_InvalidLetter : PySem.W.nsIn K mainGlobals "InvalidLetter" = some (some (.ref fC_InvalidLetter)))
    {fC_InvalidNumber : Addr} (AC_InvalidNumber : PySem.W.nsIn K mainGlobals "InvalidNumber" = some (some (.ref fC_InvalidNumber)))
    {nm_InvalidNumber q_InvalidNumber : Str} {N_InvalidNumber : Addr} {bs_InvalidNumber bm_InvalidNumber : List Value} {sn_InvalidNumber : List Str} {sub_InvalidNumber : List Value} {ab_InvalidNumber : Bool} {col_InvalidNumber : Option Bool} {dd_InvalidNumber : Option Addr} {m0_InvalidNumber m1_InvalidNumber m2_InvalidNumber m3_InvalidNumber m5_InvalidNumber : Option Value} (xL_InvalidNumber : K.lookup fC_InvalidNumber = some (excClassObj nm_InvalidNumber q_InvalidNumber fC_InvalidNumber N_InvalidNumber bs_InvalidNumber bm_InvalidNumber true sn_InvalidNumber sub_InvalidNumber ab_InvalidNumber col_InvalidNumber dd_InvalidNumber m0_InvalidNumber m1_InvalidNumber m2_InvalidNumber m3_InvalidNumber m5_InvalidNumber "ValueError.__new__")) (rvE_InvalidNumber : PySem.HandSPX.refsVE bm_InvalidNumber = true) (sa_InvalidNumber : PySem.W.findIn K (.ref fC_InvalidNumber) "__setattr__" = some (some (.builtin "object.__setattr__"))) (ga_InvalidNumber : PySem.W.findIn K (.ref fC_InvalidNumber) "__getattribute__" = some (some (.builtin "BaseException.__getattribute__"))) (gg_InvalidNumber : PySem.W.findIn K (.ref fC_InvalidNumber) "__getattr__" = some none) (nb_InvalidNumber : PySem.W.findIn K (.ref fC_InvalidNumber) "number" = some none) {fI_InvalidNumber : Addr} (a1_InvalidNumber : PySem.W.findIn K (.ref fC_InvalidNumber) "__init__" = some (some (.ref fI_InvalidNumber))) (t1_InvalidNumber : PySem.W.typeIn K (.ref fI_InvalidNumber) = some (.type "function")) {od_InvalidNumber an_InvalidNumber : Option Addr} {sl_InvalidNumber : Array (Option Value)} {oc_InvalidNumber dc_InvalidNumber pm_InvalidNumber cd_InvalidNumber ct_InvalidNumber : Value} (l1_InvalidNumber : K.lookup fI_InvalidNumber = some ⟨oc_InvalidNumber, od_InvalidNumber, .func (PySem.W.fnOf "__init__" "InvalidNumber.__init__" (defArgs s_XInvalidNumber) (defBody s_XInvalidNumber) (defScope s_XInvalidNumber) .none .none dc_InvalidNumber pm_InvalidNumber an_InvalidNumber cd_InvalidNumber ct_InvalidNumber), sl_InvalidNumber⟩) (c1_InvalidNumber : PySem.W.codeIn K cd_InvalidNumber "InvalidNumber.__init__" = true) (kC_InvalidNumber : PySem.W.keepIn K (.ref fC_InvalidNumber) = true) (eC_InvalidNumber : PySem.W.subIn K (.ref fC_InvalidNumber) (.type "BaseException") = some true) (tC_InvalidNumber : PySem.W.typeIn K (.ref fC_InvalidNumber) = some (.type "type")) (hC_InvalidNumber : PySem.W.hasDictIn K fC_InvalidNumber = true) (iC_InvalidNumber : PySem.W.isClsIn K fC_InvalidNumber = true) (ca_InvalidNumber : PySem.W.findIn K (.ref fC_InvalidNumber) "__class__" = some (some (.builtin "object.__class__"))) (mo_InvalidNumber : PySem.W.mroIn K fC_InvalidNumber (.type "object") = some true)
    {fC_NoHouse : Addr} (AC_NoHouse : PySem.W.nsIn K mainGlobals "NoHouse" = some (some (.ref fC_NoHouse)))
    {fC_NoRequest : Addr} (AC_NoRequest : PySem.W.nsIn K mainGlobals "NoRequest" = some (some (.ref fC_NoRequest)))
    {fC_NoRoom : Addr} (AC_NoRoom : PySem.W.nsIn K mainGlobals "NoRoom" = some (some (.ref fC_NoRoom)))
    {nm_NoRoom q_NoRoom : Str} {N_NoRoom : Addr} {bs_NoRoom bm_NoRoom : List Value} {sn_NoRoom : List Str} {sub_NoRoom : List Value} {ab_NoRoom : Bool} {col_NoRoom : Option Bool} {dd_NoRoom : Option Addr} {m0_NoRoom m1_NoRoom m2_NoRoom m3_NoRoom m5_NoRoom : Option Value} (xL_NoRoom : K.lookup fC_NoRoom = some (excClassObj nm_NoRoom q_NoRoom fC_NoRoom N_NoRoom bs_NoRoom bm_NoRoom true sn_NoRoom sub_NoRoom ab_NoRoom col_NoRoom dd_NoRoom m0_NoRoom m1_NoRoom m2_NoRoom m3_NoRoom m5_NoRoom "ValueError.__new__")) (rvE_NoRoom : PySem.HandSPX.refsVE bm_NoRoom = true) (sa_NoRoom : PySem.W.findIn K (.ref fC_NoRoom) "__setattr__" = some (some (.builtin "object.__setattr__"))) (ga_NoRoom : PySem.W.findIn K (.ref fC_NoRoom) "__getattribute__" = some (some (.builtin "BaseException.__getattribute__"))) (gg_NoRoom : PySem.W.findIn K (.ref fC_NoRoom) "__getattr__" = some none) (nb_NoRoom : PySem.W.findIn K (.ref fC_NoRoom) "many" = some none) {fI_NoRoom : Addr} (a1_NoRoom : PySem.W.findIn K (.ref fC_NoRoom) "__init__" = some (some (.ref fI_NoRoom))) (t1_NoRoom : PySem.W.typeIn K (.ref fI_NoRoom) = some (.type "function")) {od_NoRoom an_NoRoom : Option Addr} {sl_NoRoom : Array (Option Value)} {oc_NoRoom dc_NoRoom pm_NoRoom cd_NoRoom ct_NoRoom : Value} (l1_NoRoom : K.lookup fI_NoRoom = some ⟨oc_NoRoom, od_NoRoom, .func (PySem.W.fnOf "__init__" "NoRoom.__init__" (defArgs s_XNoRoom) (defBody s_XNoRoom) (defScope s_XNoRoom) .none .none dc_NoRoom pm_NoRoom an_NoRoom cd_NoRoom ct_NoRoom), sl_NoRoom⟩) (c1_NoRoom : PySem.W.codeIn K cd_NoRoom "NoRoom.__init__" = true) (kC_NoRoom : PySem.W.keepIn K (.ref fC_NoRoom) = true) (eC_NoRoom : PySem.W.subIn K (.ref fC_NoRoom) (.type "BaseException") = some true) (tC_NoRoom : PySem.W.typeIn K (.ref fC_NoRoom) = some (.type "type")) (hC_NoRoom : PySem.W.hasDictIn K fC_NoRoom = true) (iC_NoRoom : PySem.W.isClsIn K fC_NoRoom = true) (ca_NoRoom : PySem.W.findIn K (.ref fC_NoRoom) "__class__" = some (some (.builtin "object.__class__"))) (mo_NoRoom : PySem.W.mroIn K fC_NoRoom (.type "object") = some true)
    {fC_NotAlone : Addr} (AC_NotAlone : PySem.W.nsIn K mainGlobals "NotAlone" = some (some (.ref fC_NotAlone)))
    {nm_NotAlone q_NotAlone : Str} {N_NotAlone : Addr} {bs_NotAlone bm_NotAlone : List Value} {sn_NotAlone : List Str} {sub_NotAlone : List Value} {ab_NotAlone : Bool} {col_NotAlone : Option Bool} {dd_NotAlone : Option Addr} {m0_NotAlone m1_NotAlone m2_NotAlone m3_NotAlone m5_NotAlone : Option Value} (xL_NotAlone : K.lookup fC_NotAlone = some (excClassObj nm_NotAlone q_NotAlone fC_NotAlone N_NotAlone bs_NotAlone bm_NotAlone true sn_NotAlone sub_NotAlone ab_NotAlone col_NotAlone dd_NotAlone m0_NotAlone m1_NotAlone m2_NotAlone m3_NotAlone m5_NotAlone "ValueError.__new__")) (rvE_NotAlone : PySem.HandSPX.refsVE bm_NotAlone = true) (sa_NotAlone : PySem.W.findIn K (.ref fC_NotAlone) "__setattr__" = some (some (.builtin "object.__setattr__"))) (ga_NotAlone : PySem.W.findIn K (.ref fC_NotAlone) "__getattribute__" = some (some (.builtin "BaseException.__getattribute__"))) (gg_NotAlone : PySem.W.findIn K (.ref fC_NotAlone) "__getattr__" = some none) (nb_NotAlone : PySem.W.findIn K (.ref fC_NotAlone) "block" = some none) {fI_NotAlone : Addr} (a1_NotAlone : PySem.W.findIn K (.ref fC_NotAlone) "__init__" = some (some (.ref fI_NotAlone))) (t1_NotAlone : PySem.W.typeIn K (.ref fI_NotAlone) = some (.type "function")) {od_NotAlone an_NotAlone : Option Addr} {sl_NotAlone : Array (Option Value)} {oc_NotAlone dc_NotAlone pm_NotAlone cd_NotAlone ct_NotAlone : Value} (l1_NotAlone : K.lookup fI_NotAlone = some ⟨oc_NotAlone, od_NotAlone, .func (PySem.W.fnOf "__init__" "NotAlone.__init__" (defArgs s_XNotAlone) (defBody s_XNotAlone) (defScope s_XNotAlone) .none .none dc_NotAlone pm_NotAlone an_NotAlone cd_NotAlone ct_NotAlone), sl_NotAlone⟩) (c1_NotAlone : PySem.W.codeIn K cd_NotAlone "NotAlone.__init__" = true) (kC_NotAlone : PySem.W.keepIn K (.ref fC_NotAlone) = true) (eC_NotAlone : PySem.W.subIn K (.ref fC_NotAlone) (.type "BaseException") = some true) (tC_NotAlone : PySem.W.typeIn K (.ref fC_NotAlone) = some (.type "type")) (hC_NotAlone : PySem.W.hasDictIn K fC_NotAlone = true) (iC_NotAlone : PySem.W.isClsIn K fC_NotAlone = true) (ca_NotAlone : PySem.W.findIn K (.ref fC_NotAlone) "__class__" = some (some (.builtin "object.__class__"))) (mo_NotAlone : PySem.W.mroIn K fC_NotAlone (.type "object") = some true)
    {fC_NotHeld : Addr} (AC_NotHeld : PySem.W.nsIn K mainGlobals "NotHeld" = some (some (.ref fC_NotHeld)))
    {nm_NotHeld q_NotHeld : Str} {N_NotHeld : Addr} {bs_NotHeld bm_NotHeld : List Value} {sn_NotHeld : List Str} {sub_NotHeld : List Value} {ab_NotHeld : Bool} {col_NotHeld : Option Bool} {dd_NotHeld : Option Addr} {m0_NotHeld m1_NotHeld m2_NotHeld m3_NotHeld m5_NotHeld : Option Value} (xL_NotHeld : K.lookup fC_NotHeld = some (excClassObj nm_NotHeld q_NotHeld fC_NotHeld N_NotHeld bs_NotHeld bm_NotHeld true sn_NotHeld sub_NotHeld ab_NotHeld col_NotHeld dd_NotHeld m0_NotHeld m1_NotHeld m2_NotHeld m3_NotHeld m5_NotHeld "ValueError.__new__")) (rvE_NotHeld : PySem.HandSPX.refsVE bm_NotHeld = true) (sa_NotHeld : PySem.W.findIn K (.ref fC_NotHeld) "__setattr__" = some (some (.builtin "object.__setattr__"))) (ga_NotHeld : PySem.W.findIn K (.ref fC_NotHeld) "__getattribute__" = some (some (.builtin "BaseException.__getattribute__"))) (gg_NotHeld : PySem.W.findIn K (.ref fC_NotHeld) "__getattr__" = some none) (nb_NotHeld : PySem.W.findIn K (.ref fC_NotHeld) "block" = some none) {fI_NotHeld : Addr} (a1_NotHeld : PySem.W.findIn K (.ref fC_NotHeld) "__init__" = some (some (.ref fI_NotHeld))) (t1_NotHeld : PySem.W.typeIn K (.ref fI_NotHeld) = some (.type "function")) {od_NotHeld an_NotHeld : Option Addr} {sl_NotHeld : Array (Option Value)} {oc_NotHeld dc_NotHeld pm_NotHeld cd_NotHeld ct_NotHeld : Value} (l1_NotHeld : K.lookup fI_NotHeld = some ⟨oc_NotHeld, od_NotHeld, .func (PySem.W.fnOf "__init__" "NotHeld.__init__" (defArgs s_XNotHeld) (defBody s_XNotHeld) (defScope s_XNotHeld) .none .none dc_NotHeld pm_NotHeld an_NotHeld cd_NotHeld ct_NotHeld), sl_NotHeld⟩) (c1_NotHeld : PySem.W.codeIn K cd_NotHeld "NotHeld.__init__" = true) (kC_NotHeld : PySem.W.keepIn K (.ref fC_NotHeld) = true) (eC_NotHeld : PySem.W.subIn K (.ref fC_NotHeld) (.type "BaseException") = some true) (tC_NotHeld : PySem.W.typeIn K (.ref fC_NotHeld) = some (.type "type")) (hC_NotHeld : PySem.W.hasDictIn K fC_NotHeld = true) (iC_NotHeld : PySem.W.isClsIn K fC_NotHeld = true) (ca_NotHeld : PySem.W.findIn K (.ref fC_NotHeld) "__class__" = some (some (.builtin "object.__class__"))) (mo_NotHeld : PySem.W.mroIn K fC_NotHeld (.type "object") = some true)
    {fC_ServeError : Addr} (AC_ServeError : PySem.W.nsIn K mainGlobals "ServeError" = some (some (.ref fC_ServeError)))
    {fC_TooLarge : Addr} (AC_TooLarge : PySem.W.nsIn K mainGlobals "TooLarge" = some (some (.ref fC_TooLarge)))
    (cgE : PySem.W.specialIn K (.builtin "object.__class__") "__get__" = some (some (.builtin "getset_descriptor.__get__"))) (tkE : PySem.W.takesIn K (.builtin "object.__class__") = some true)
    (eS : PySem.W.subIn K (.ref fC_ServeError) (.type "BaseException") = some true) (hS : PySem.W.hasDictIn K fC_ServeError = true) (tS : PySem.W.typeIn K (.ref fC_ServeError) = some (.type "type"))
    (sS_InvalidNumber : PySem.W.subIn K (.ref fC_InvalidNumber) (.ref fC_ServeError) = some true)
    (kvE_InvalidNumber : PySem.W.kitOne K (.ref fC_InvalidNumber) (.type "ValueError") = some true)
    (koE_InvalidNumber_InvalidLetter : PySem.W.kitOne K (.ref fC_InvalidNumber) (.ref fC_InvalidLetter) = some false)
    (koE_InvalidNumber_NoHouse : PySem.W.kitOne K (.ref fC_InvalidNumber) (.ref fC_NoHouse) = some false)
    (koE_InvalidNumber_NoRequest : PySem.W.kitOne K (.ref fC_InvalidNumber) (.ref fC_NoRequest) = some false)
    (koE_InvalidNumber_NoRoom : PySem.W.kitOne K (.ref fC_InvalidNumber) (.ref fC_NoRoom) = some false)
    (koE_InvalidNumber_NotAlone : PySem.W.kitOne K (.ref fC_InvalidNumber) (.ref fC_NotAlone) = some false)
    (koE_InvalidNumber_NotHeld : PySem.W.kitOne K (.ref fC_InvalidNumber) (.ref fC_NotHeld) = some false)
    (koE_InvalidNumber_ServeError : PySem.W.kitOne K (.ref fC_InvalidNumber) (.ref fC_ServeError) = some true)
    (koE_InvalidNumber_TooLarge : PySem.W.kitOne K (.ref fC_InvalidNumber) (.ref fC_TooLarge) = some false)
    (sS_NoRoom : PySem.W.subIn K (.ref fC_NoRoom) (.ref fC_ServeError) = some true)
    (kvE_NoRoom : PySem.W.kitOne K (.ref fC_NoRoom) (.type "ValueError") = some true)
    (koE_NoRoom_InvalidLetter : PySem.W.kitOne K (.ref fC_NoRoom) (.ref fC_InvalidLetter) = some false)
    (koE_NoRoom_InvalidNumber : PySem.W.kitOne K (.ref fC_NoRoom) (.ref fC_InvalidNumber) = some false)
    (koE_NoRoom_NoHouse : PySem.W.kitOne K (.ref fC_NoRoom) (.ref fC_NoHouse) = some false)
    (koE_NoRoom_NoRequest : PySem.W.kitOne K (.ref fC_NoRoom) (.ref fC_NoRequest) = some false)
    (koE_NoRoom_NotAlone : PySem.W.kitOne K (.ref fC_NoRoom) (.ref fC_NotAlone) = some false)
    (koE_NoRoom_NotHeld : PySem.W.kitOne K (.ref fC_NoRoom) (.ref fC_NotHeld) = some false)
    (koE_NoRoom_ServeError : PySem.W.kitOne K (.ref fC_NoRoom) (.ref fC_ServeError) = some true)
    (koE_NoRoom_TooLarge : PySem.W.kitOne K (.ref fC_NoRoom) (.ref fC_TooLarge) = some false)
    (sS_NotAlone : PySem.W.subIn K (.ref fC_NotAlone) (.ref fC_ServeError) = some true)
    (kvE_NotAlone : PySem.W.kitOne K (.ref fC_NotAlone) (.type "ValueError") = some true)
    (koE_NotAlone_InvalidLetter : PySem.W.kitOne K (.ref fC_NotAlone) (.ref fC_InvalidLetter) = some false)
    (koE_NotAlone_InvalidNumber : PySem.W.kitOne K (.ref fC_NotAlone) (.ref fC_InvalidNumber) = some false)
    (koE_NotAlone_NoHouse : PySem.W.kitOne K (.ref fC_NotAlone) (.ref fC_NoHouse) = some false)
    (koE_NotAlone_NoRequest : PySem.W.kitOne K (.ref fC_NotAlone) (.ref fC_NoRequest) = some false)
    (koE_NotAlone_NoRoom : PySem.W.kitOne K (.ref fC_NotAlone) (.ref fC_NoRoom) = some false)
    (koE_NotAlone_NotHeld : PySem.W.kitOne K (.ref fC_NotAlone) (.ref fC_NotHeld) = some false)
    (koE_NotAlone_ServeError : PySem.W.kitOne K (.ref fC_NotAlone) (.ref fC_ServeError) = some true)
    (koE_NotAlone_TooLarge : PySem.W.kitOne K (.ref fC_NotAlone) (.ref fC_TooLarge) = some false)
    (sS_NotHeld : PySem.W.subIn K (.ref fC_NotHeld) (.ref fC_ServeError) = some true)
    (kvE_NotHeld : PySem.W.kitOne K (.ref fC_NotHeld) (.type "ValueError") = some true)
    (koE_NotHeld_InvalidLetter : PySem.W.kitOne K (.ref fC_NotHeld) (.ref fC_InvalidLetter) = some false)
    (koE_NotHeld_InvalidNumber : PySem.W.kitOne K (.ref fC_NotHeld) (.ref fC_InvalidNumber) = some false)
    (koE_NotHeld_NoHouse : PySem.W.kitOne K (.ref fC_NotHeld) (.ref fC_NoHouse) = some false)
    (koE_NotHeld_NoRequest : PySem.W.kitOne K (.ref fC_NotHeld) (.ref fC_NoRequest) = some false)
    (koE_NotHeld_NoRoom : PySem.W.kitOne K (.ref fC_NotHeld) (.ref fC_NoRoom) = some false)
    (koE_NotHeld_NotAlone : PySem.W.kitOne K (.ref fC_NotHeld) (.ref fC_NotAlone) = some false)
    (koE_NotHeld_ServeError : PySem.W.kitOne K (.ref fC_NotHeld) (.ref fC_ServeError) = some true)
    (koE_NotHeld_TooLarge : PySem.W.kitOne K (.ref fC_NotHeld) (.ref fC_TooLarge) = some false)
    {f_is_integer : Addr} {od_is_integer an_is_integer : Option Addr} {sl_is_integer : Array (Option Value)} {oc_is_integer kV_is_integer dc_is_integer pm_is_integer cd_is_integer ct_is_integer : Value} (A_is_integer : PySem.W.nsIn K mainGlobals "is_integer" = some (some (.ref f_is_integer))) (l_is_integer : K.lookup f_is_integer = some ⟨oc_is_integer, od_is_integer, .func (PySem.W.fnOf "is_integer" "is_integer" (defArgs s_is_integer) (defBody s_is_integer) (defScope s_is_integer) .none kV_is_integer dc_is_integer pm_is_integer an_is_integer cd_is_integer ct_is_integer), sl_is_integer⟩) (c_is_integer : PySem.W.codeIn K cd_is_integer "is_integer" = true) (k_is_integer : PySem.W.keepIn K (.ref f_is_integer) = true)
    {f_is_from : Addr} {od_is_from an_is_from : Option Addr} {sl_is_from : Array (Option Value)} {oc_is_from kV_is_from dc_is_from pm_is_from cd_is_from ct_is_from : Value} (A_is_from : PySem.W.nsIn K mainGlobals "is_from" = some (some (.ref f_is_from))) (l_is_from : K.lookup f_is_from = some ⟨oc_is_from, od_is_from, .func (PySem.W.fnOf "is_from" "is_from" (defArgs s_is_from) (defBody s_is_from) (defScope s_is_from) .none kV_is_from dc_is_from pm_is_from an_is_from cd_is_from ct_is_from), sl_is_from⟩) (c_is_from : PySem.W.codeIn K cd_is_from "is_from" = true) (k_is_from : PySem.W.keepIn K (.ref f_is_from) = true)
    {f_vectors : Addr} {od_vectors an_vectors : Option Addr} {sl_vectors : Array (Option Value)} {oc_vectors kV_vectors dc_vectors pm_vectors cd_vectors ct_vectors : Value} (A_vectors : PySem.W.nsIn K mainGlobals "vectors" = some (some (.ref f_vectors))) (l_vectors : K.lookup f_vectors = some ⟨oc_vectors, od_vectors, .func (PySem.W.fnOf "vectors" "vectors" (defArgs s_vectors) (defBody s_vectors) (defScope s_vectors) .none kV_vectors dc_vectors pm_vectors an_vectors cd_vectors ct_vectors), sl_vectors⟩) (c_vectors : PySem.W.codeIn K cd_vectors "vectors" = true) (k_vectors : PySem.W.keepIn K (.ref f_vectors) = true)
    {f_fixed_row : Addr} {od_fixed_row an_fixed_row : Option Addr} {sl_fixed_row : Array (Option Value)} {oc_fixed_row kV_fixed_row dc_fixed_row pm_fixed_row cd_fixed_row ct_fixed_row : Value} (A_fixed_row : PySem.W.nsIn K mainGlobals "fixed_row" = some (some (.ref f_fixed_row))) (l_fixed_row : K.lookup f_fixed_row = some ⟨oc_fixed_row, od_fixed_row, .func (PySem.W.fnOf "fixed_row" "fixed_row" (defArgs s_fixed_row) (defBody s_fixed_row) (defScope s_fixed_row) .none kV_fixed_row dc_fixed_row pm_fixed_row an_fixed_row cd_fixed_row ct_fixed_row), sl_fixed_row⟩) (c_fixed_row : PySem.W.codeIn K cd_fixed_row "fixed_row" = true) (k_fixed_row : PySem.W.keepIn K (.ref f_fixed_row) = true)
    {f__law_numbers : Addr} {od__law_numbers an__law_numbers : Option Addr} {sl__law_numbers : Array (Option Value)} {oc__law_numbers kV__law_numbers dc__law_numbers pm__law_numbers cd__law_numbers ct__law_numbers : Value} (A__law_numbers : PySem.W.nsIn K mainGlobals "_law_numbers" = some (some (.ref f__law_numbers))) (l__law_numbers : K.lookup f__law_numbers = some ⟨oc__law_numbers, od__law_numbers, .func (PySem.W.fnOf "_law_numbers" "_law_numbers" (defArgs s__law_numbers) (defBody s__law_numbers) (defScope s__law_numbers) .none kV__law_numbers dc__law_numbers pm__law_numbers an__law_numbers cd__law_numbers ct__law_numbers), sl__law_numbers⟩) (c__law_numbers : PySem.W.codeIn K cd__law_numbers "_law_numbers" = true) (k__law_numbers : PySem.W.keepIn K (.ref f__law_numbers) = true)
    {f__law_same : Addr} {od__law_same an__law_same : Option Addr} {sl__law_same : Array (Option Value)} {oc__law_same kV__law_same dc__law_same pm__law_same cd__law_same ct__law_same : Value} (A__law_same : PySem.W.nsIn K mainGlobals "_law_same" = some (some (.ref f__law_same))) (l__law_same : K.lookup f__law_same = some ⟨oc__law_same, od__law_same, .func (PySem.W.fnOf "_law_same" "_law_same" (defArgs s__law_same) (defBody s__law_same) (defScope s__law_same) .none kV__law_same dc__law_same pm__law_same an__law_same cd__law_same ct__law_same), sl__law_same⟩) (c__law_same : PySem.W.codeIn K cd__law_same "_law_same" = true) (k__law_same : PySem.W.keepIn K (.ref f__law_same) = true)
    {f_Store___init__ : Addr} {od_Store___init__ an_Store___init__ : Option Addr} {sl_Store___init__ : Array (Option Value)} {oc_Store___init__ kV_Store___init__ dc_Store___init__ pm_Store___init__ cd_Store___init__ ct_Store___init__ : Value} (A_Store___init__ : PySem.W.findIn K (.ref fC_Store) "__init__" = some (some (.ref f_Store___init__))) (i_Store___init__ : PySem.W.isFn K (.ref f_Store___init__) = true) (l_Store___init__ : K.lookup f_Store___init__ = some ⟨oc_Store___init__, od_Store___init__, .func (PySem.W.fnOf "__init__" "Store.__init__" (defArgs s_Store___init__) (defBody s_Store___init__) (defScope s_Store___init__) .none kV_Store___init__ dc_Store___init__ pm_Store___init__ an_Store___init__ cd_Store___init__ ct_Store___init__), sl_Store___init__⟩) (c_Store___init__ : PySem.W.codeIn K cd_Store___init__ "Store.__init__" = true) (k_Store___init__ : PySem.W.keepIn K (.ref f_Store___init__) = true)
    {f_Store_free : Addr} {od_Store_free an_Store_free : Option Addr} {sl_Store_free : Array (Option Value)} {oc_Store_free kV_Store_free dc_Store_free pm_Store_free cd_Store_free ct_Store_free : Value} {fp_Store_free : Addr} {rest_Store_free : List Value} (A_Store_free : PySem.W.findIn K (.ref fC_Store) "free" = some (some (.ref fp_Store_free))) (sp_Store_free : PySem.W.specialIn K (.ref fp_Store_free) "__get__" = some (some (.builtin "property.__get__"))) (tk_Store_free : PySem.W.takesIn K (.ref fp_Store_free) = some true) (rc_Store_free : PySem.W.recIn K fp_Store_free "property" = some (.ref f_Store_free :: rest_Store_free)) (l_Store_free : K.lookup f_Store_free = some ⟨oc_Store_free, od_Store_free, .func (PySem.W.fnOf "free" "Store.free" (defArgs s_Store_free) (defBody s_Store_free) (defScope s_Store_free) .none kV_Store_free dc_Store_free pm_Store_free an_Store_free cd_Store_free ct_Store_free), sl_Store_free⟩) (c_Store_free : PySem.W.codeIn K cd_Store_free "Store.free" = true) (k_Store_free : PySem.W.keepIn K (.ref f_Store_free) = true)
    {f_Store__check_block : Addr} {od_Store__check_block an_Store__check_block : Option Addr} {sl_Store__check_block : Array (Option Value)} {oc_Store__check_block kV_Store__check_block dc_Store__check_block pm_Store__check_block cd_Store__check_block ct_Store__check_block : Value} (A_Store__check_block : PySem.W.findIn K (.ref fC_Store) "_check_block" = some (some (.ref f_Store__check_block))) (i_Store__check_block : PySem.W.isFn K (.ref f_Store__check_block) = true) (l_Store__check_block : K.lookup f_Store__check_block = some ⟨oc_Store__check_block, od_Store__check_block, .func (PySem.W.fnOf "_check_block" "Store._check_block" (defArgs s_Store__check_block) (defBody s_Store__check_block) (defScope s_Store__check_block) .none kV_Store__check_block dc_Store__check_block pm_Store__check_block an_Store__check_block cd_Store__check_block ct_Store__check_block), sl_Store__check_block⟩) (c_Store__check_block : PySem.W.codeIn K cd_Store__check_block "Store._check_block" = true) (k_Store__check_block : PySem.W.keepIn K (.ref f_Store__check_block) = true)
    {f_Store__check_held : Addr} {od_Store__check_held an_Store__check_held : Option Addr} {sl_Store__check_held : Array (Option Value)} {oc_Store__check_held kV_Store__check_held dc_Store__check_held pm_Store__check_held cd_Store__check_held ct_Store__check_held : Value} (A_Store__check_held : PySem.W.findIn K (.ref fC_Store) "_check_held" = some (some (.ref f_Store__check_held))) (i_Store__check_held : PySem.W.isFn K (.ref f_Store__check_held) = true) (l_Store__check_held : K.lookup f_Store__check_held = some ⟨oc_Store__check_held, od_Store__check_held, .func (PySem.W.fnOf "_check_held" "Store._check_held" (defArgs s_Store__check_held) (defBody s_Store__check_held) (defScope s_Store__check_held) .none kV_Store__check_held dc_Store__check_held pm_Store__check_held an_Store__check_held cd_Store__check_held ct_Store__check_held), sl_Store__check_held⟩) (c_Store__check_held : PySem.W.codeIn K cd_Store__check_held "Store._check_held" = true) (k_Store__check_held : PySem.W.keepIn K (.ref f_Store__check_held) = true)
    {f_Store__check_alone : Addr} {od_Store__check_alone an_Store__check_alone : Option Addr} {sl_Store__check_alone : Array (Option Value)} {oc_Store__check_alone kV_Store__check_alone dc_Store__check_alone pm_Store__check_alone cd_Store__check_alone ct_Store__check_alone : Value} (A_Store__check_alone : PySem.W.findIn K (.ref fC_Store) "_check_alone" = some (some (.ref f_Store__check_alone))) (i_Store__check_alone : PySem.W.isFn K (.ref f_Store__check_alone) = true) (l_Store__check_alone : K.lookup f_Store__check_alone = some ⟨oc_Store__check_alone, od_Store__check_alone, .func (PySem.W.fnOf "_check_alone" "Store._check_alone" (defArgs s_Store__check_alone) (defBody s_Store__check_alone) (defScope s_Store__check_alone) .none kV_Store__check_alone dc_Store__check_alone pm_Store__check_alone an_Store__check_alone cd_Store__check_alone ct_Store__check_alone), sl_Store__check_alone⟩) (c_Store__check_alone : PySem.W.codeIn K cd_Store__check_alone "Store._check_alone" = true) (k_Store__check_alone : PySem.W.keepIn K (.ref f_Store__check_alone) = true)
    {f_Store_take : Addr} {od_Store_take an_Store_take : Option Addr} {sl_Store_take : Array (Option Value)} {oc_Store_take kV_Store_take dc_Store_take pm_Store_take cd_Store_take ct_Store_take : Value} (A_Store_take : PySem.W.findIn K (.ref fC_Store) "take" = some (some (.ref f_Store_take))) (i_Store_take : PySem.W.isFn K (.ref f_Store_take) = true) (l_Store_take : K.lookup f_Store_take = some ⟨oc_Store_take, od_Store_take, .func (PySem.W.fnOf "take" "Store.take" (defArgs s_Store_take) (defBody s_Store_take) (defScope s_Store_take) .none kV_Store_take dc_Store_take pm_Store_take an_Store_take cd_Store_take ct_Store_take), sl_Store_take⟩) (c_Store_take : PySem.W.codeIn K cd_Store_take "Store.take" = true) (k_Store_take : PySem.W.keepIn K (.ref f_Store_take) = true)
    {f_Store_hold : Addr} {od_Store_hold an_Store_hold : Option Addr} {sl_Store_hold : Array (Option Value)} {oc_Store_hold kV_Store_hold dc_Store_hold pm_Store_hold cd_Store_hold ct_Store_hold : Value} (A_Store_hold : PySem.W.findIn K (.ref fC_Store) "hold" = some (some (.ref f_Store_hold))) (i_Store_hold : PySem.W.isFn K (.ref f_Store_hold) = true) (l_Store_hold : K.lookup f_Store_hold = some ⟨oc_Store_hold, od_Store_hold, .func (PySem.W.fnOf "hold" "Store.hold" (defArgs s_Store_hold) (defBody s_Store_hold) (defScope s_Store_hold) .none kV_Store_hold dc_Store_hold pm_Store_hold an_Store_hold cd_Store_hold ct_Store_hold), sl_Store_hold⟩) (c_Store_hold : PySem.W.codeIn K cd_Store_hold "Store.hold" = true) (k_Store_hold : PySem.W.keepIn K (.ref f_Store_hold) = true)
    {f_Store_release : Addr} {od_Store_release an_Store_release : Option Addr} {sl_Store_release : Array (Option Value)} {oc_Store_release kV_Store_release dc_Store_release pm_Store_release cd_Store_release ct_Store_release : Value} (A_Store_release : PySem.W.findIn K (.ref fC_Store) "release" = some (some (.ref f_Store_release))) (i_Store_release : PySem.W.isFn K (.ref f_Store_release) = true) (l_Store_release : K.lookup f_Store_release = some ⟨oc_Store_release, od_Store_release, .func (PySem.W.fnOf "release" "Store.release" (defArgs s_Store_release) (defBody s_Store_release) (defScope s_Store_release) .none kV_Store_release dc_Store_release pm_Store_release an_Store_release cd_Store_release ct_Store_release), sl_Store_release⟩) (c_Store_release : PySem.W.codeIn K cd_Store_release "Store.release" = true) (k_Store_release : PySem.W.keepIn K (.ref f_Store_release) = true)
    {f_Store_put_row : Addr} {od_Store_put_row an_Store_put_row : Option Addr} {sl_Store_put_row : Array (Option Value)} {oc_Store_put_row kV_Store_put_row dc_Store_put_row pm_Store_put_row cd_Store_put_row ct_Store_put_row : Value} (A_Store_put_row : PySem.W.findIn K (.ref fC_Store) "put_row" = some (some (.ref f_Store_put_row))) (i_Store_put_row : PySem.W.isFn K (.ref f_Store_put_row) = true) (l_Store_put_row : K.lookup f_Store_put_row = some ⟨oc_Store_put_row, od_Store_put_row, .func (PySem.W.fnOf "put_row" "Store.put_row" (defArgs s_Store_put_row) (defBody s_Store_put_row) (defScope s_Store_put_row) .none kV_Store_put_row dc_Store_put_row pm_Store_put_row an_Store_put_row cd_Store_put_row ct_Store_put_row), sl_Store_put_row⟩) (c_Store_put_row : PySem.W.codeIn K cd_Store_put_row "Store.put_row" = true) (k_Store_put_row : PySem.W.keepIn K (.ref f_Store_put_row) = true)
    {f_Store_shorten : Addr} {od_Store_shorten an_Store_shorten : Option Addr} {sl_Store_shorten : Array (Option Value)} {oc_Store_shorten kV_Store_shorten dc_Store_shorten pm_Store_shorten cd_Store_shorten ct_Store_shorten : Value} (A_Store_shorten : PySem.W.findIn K (.ref fC_Store) "shorten" = some (some (.ref f_Store_shorten))) (i_Store_shorten : PySem.W.isFn K (.ref f_Store_shorten) = true) (l_Store_shorten : K.lookup f_Store_shorten = some ⟨oc_Store_shorten, od_Store_shorten, .func (PySem.W.fnOf "shorten" "Store.shorten" (defArgs s_Store_shorten) (defBody s_Store_shorten) (defScope s_Store_shorten) .none kV_Store_shorten dc_Store_shorten pm_Store_shorten an_Store_shorten cd_Store_shorten ct_Store_shorten), sl_Store_shorten⟩) (c_Store_shorten : PySem.W.codeIn K cd_Store_shorten "Store.shorten" = true) (k_Store_shorten : PySem.W.keepIn K (.ref f_Store_shorten) = true)
    {f_Store_rows : Addr} {od_Store_rows an_Store_rows : Option Addr} {sl_Store_rows : Array (Option Value)} {oc_Store_rows kV_Store_rows dc_Store_rows pm_Store_rows cd_Store_rows ct_Store_rows : Value} (A_Store_rows : PySem.W.findIn K (.ref fC_Store) "rows" = some (some (.ref f_Store_rows))) (i_Store_rows : PySem.W.isFn K (.ref f_Store_rows) = true) (l_Store_rows : K.lookup f_Store_rows = some ⟨oc_Store_rows, od_Store_rows, .func (PySem.W.fnOf "rows" "Store.rows" (defArgs s_Store_rows) (defBody s_Store_rows) (defScope s_Store_rows) .none kV_Store_rows dc_Store_rows pm_Store_rows an_Store_rows cd_Store_rows ct_Store_rows), sl_Store_rows⟩) (c_Store_rows : PySem.W.codeIn K cd_Store_rows "Store.rows" = true) (k_Store_rows : PySem.W.keepIn K (.ref f_Store_rows) = true)
    {f_Store_holders : Addr} {od_Store_holders an_Store_holders : Option Addr} {sl_Store_holders : Array (Option Value)} {oc_Store_holders kV_Store_holders dc_Store_holders pm_Store_holders cd_Store_holders ct_Store_holders : Value} (A_Store_holders : PySem.W.findIn K (.ref fC_Store) "holders" = some (some (.ref f_Store_holders))) (i_Store_holders : PySem.W.isFn K (.ref f_Store_holders) = true) (l_Store_holders : K.lookup f_Store_holders = some ⟨oc_Store_holders, od_Store_holders, .func (PySem.W.fnOf "holders" "Store.holders" (defArgs s_Store_holders) (defBody s_Store_holders) (defScope s_Store_holders) .none kV_Store_holders dc_Store_holders pm_Store_holders an_Store_holders cd_Store_holders ct_Store_holders), sl_Store_holders⟩) (c_Store_holders : PySem.W.codeIn K cd_Store_holders "Store.holders" = true) (k_Store_holders : PySem.W.keepIn K (.ref f_Store_holders) = true)
    {f__law_kinds : Addr} {od__law_kinds an__law_kinds : Option Addr} {sl__law_kinds : Array (Option Value)} {oc__law_kinds kV__law_kinds dc__law_kinds pm__law_kinds cd__law_kinds ct__law_kinds : Value} (A__law_kinds : PySem.W.nsIn K mainGlobals "_law_kinds" = some (some (.ref f__law_kinds))) (l__law_kinds : K.lookup f__law_kinds = some ⟨oc__law_kinds, od__law_kinds, .func (PySem.W.fnOf "_law_kinds" "_law_kinds" (defArgs s__law_kinds) (defBody s__law_kinds) (defScope s__law_kinds) .none kV__law_kinds dc__law_kinds pm__law_kinds an__law_kinds cd__law_kinds ct__law_kinds), sl__law_kinds⟩) (c__law_kinds : PySem.W.codeIn K cd__law_kinds "_law_kinds" = true) (k__law_kinds : PySem.W.keepIn K (.ref f__law_kinds) = true)
    {f__law_odd : Addr} {od__law_odd an__law_odd : Option Addr} {sl__law_odd : Array (Option Value)} {oc__law_odd kV__law_odd dc__law_odd pm__law_odd cd__law_odd ct__law_odd : Value} (A__law_odd : PySem.W.nsIn K mainGlobals "_law_odd" = some (some (.ref f__law_odd))) (l__law_odd : K.lookup f__law_odd = some ⟨oc__law_odd, od__law_odd, .func (PySem.W.fnOf "_law_odd" "_law_odd" (defArgs s__law_odd) (defBody s__law_odd) (defScope s__law_odd) .none kV__law_odd dc__law_odd pm__law_odd an__law_odd cd__law_odd ct__law_odd), sl__law_odd⟩) (c__law_odd : PySem.W.codeIn K cd__law_odd "_law_odd" = true) (k__law_odd : PySem.W.keepIn K (.ref f__law_odd) = true)
    {f__law_vector : Addr} {od__law_vector an__law_vector : Option Addr} {sl__law_vector : Array (Option Value)} {oc__law_vector kV__law_vector dc__law_vector pm__law_vector cd__law_vector ct__law_vector : Value} (A__law_vector : PySem.W.nsIn K mainGlobals "_law_vector" = some (some (.ref f__law_vector))) (l__law_vector : K.lookup f__law_vector = some ⟨oc__law_vector, od__law_vector, .func (PySem.W.fnOf "_law_vector" "_law_vector" (defArgs s__law_vector) (defBody s__law_vector) (defScope s__law_vector) .none kV__law_vector dc__law_vector pm__law_vector an__law_vector cd__law_vector ct__law_vector), sl__law_vector⟩) (c__law_vector : PySem.W.codeIn K cd__law_vector "_law_vector" = true) (k__law_vector : PySem.W.keepIn K (.ref f__law_vector) = true)
    {f__law_net : Addr} {od__law_net an__law_net : Option Addr} {sl__law_net : Array (Option Value)} {oc__law_net kV__law_net dc__law_net pm__law_net cd__law_net ct__law_net : Value} (A__law_net : PySem.W.nsIn K mainGlobals "_law_net" = some (some (.ref f__law_net))) (l__law_net : K.lookup f__law_net = some ⟨oc__law_net, od__law_net, .func (PySem.W.fnOf "_law_net" "_law_net" (defArgs s__law_net) (defBody s__law_net) (defScope s__law_net) .none kV__law_net dc__law_net pm__law_net an__law_net cd__law_net ct__law_net), sl__law_net⟩) (c__law_net : PySem.W.codeIn K cd__law_net "_law_net" = true) (k__law_net : PySem.W.keepIn K (.ref f__law_net) = true)
    {f__law_dot : Addr} {od__law_dot an__law_dot : Option Addr} {sl__law_dot : Array (Option Value)} {oc__law_dot kV__law_dot dc__law_dot pm__law_dot cd__law_dot ct__law_dot : Value} (A__law_dot : PySem.W.nsIn K mainGlobals "_law_dot" = some (some (.ref f__law_dot))) (l__law_dot : K.lookup f__law_dot = some ⟨oc__law_dot, od__law_dot, .func (PySem.W.fnOf "_law_dot" "_law_dot" (defArgs s__law_dot) (defBody s__law_dot) (defScope s__law_dot) .none kV__law_dot dc__law_dot pm__law_dot an__law_dot cd__law_dot ct__law_dot), sl__law_dot⟩) (c__law_dot : PySem.W.codeIn K cd__law_dot "_law_dot" = true) (k__law_dot : PySem.W.keepIn K (.ref f__law_dot) = true)
    {f__law_times : Addr} {od__law_times an__law_times : Option Addr} {sl__law_times : Array (Option Value)} {oc__law_times kV__law_times dc__law_times pm__law_times cd__law_times ct__law_times : Value} (A__law_times : PySem.W.nsIn K mainGlobals "_law_times" = some (some (.ref f__law_times))) (l__law_times : K.lookup f__law_times = some ⟨oc__law_times, od__law_times, .func (PySem.W.fnOf "_law_times" "_law_times" (defArgs s__law_times) (defBody s__law_times) (defScope s__law_times) .none kV__law_times dc__law_times pm__law_times an__law_times cd__law_times ct__law_times), sl__law_times⟩) (c__law_times : PySem.W.codeIn K cd__law_times "_law_times" = true) (k__law_times : PySem.W.keepIn K (.ref f__law_times) = true)
    {f__law_row : Addr} {od__law_row an__law_row : Option Addr} {sl__law_row : Array (Option Value)} {oc__law_row kV__law_row dc__law_row pm__law_row cd__law_row ct__law_row : Value} (A__law_row : PySem.W.nsIn K mainGlobals "_law_row" = some (some (.ref f__law_row))) (l__law_row : K.lookup f__law_row = some ⟨oc__law_row, od__law_row, .func (PySem.W.fnOf "_law_row" "_law_row" (defArgs s__law_row) (defBody s__law_row) (defScope s__law_row) .none kV__law_row dc__law_row pm__law_row an__law_row cd__law_row ct__law_row), sl__law_row⟩) (c__law_row : PySem.W.codeIn K cd__law_row "_law_row" = true) (k__law_row : PySem.W.keepIn K (.ref f__law_row) = true)
    {f__law_some_rows : Addr} {od__law_some_rows an__law_some_rows : Option Addr} {sl__law_some_rows : Array (Option Value)} {oc__law_some_rows kV__law_some_rows dc__law_some_rows pm__law_some_rows cd__law_some_rows ct__law_some_rows : Value} (A__law_some_rows : PySem.W.nsIn K mainGlobals "_law_some_rows" = some (some (.ref f__law_some_rows))) (l__law_some_rows : K.lookup f__law_some_rows = some ⟨oc__law_some_rows, od__law_some_rows, .func (PySem.W.fnOf "_law_some_rows" "_law_some_rows" (defArgs s__law_some_rows) (defBody s__law_some_rows) (defScope s__law_some_rows) .none kV__law_some_rows dc__law_some_rows pm__law_some_rows an__law_some_rows cd__law_some_rows ct__law_some_rows), sl__law_some_rows⟩) (c__law_some_rows : PySem.W.codeIn K cd__law_some_rows "_law_some_rows" = true) (k__law_some_rows : PySem.W.keepIn K (.ref f__law_some_rows) = true)
    {f__law_is_integer : Addr} {od__law_is_integer an__law_is_integer : Option Addr} {sl__law_is_integer : Array (Option Value)} {oc__law_is_integer kV__law_is_integer dc__law_is_integer pm__law_is_integer cd__law_is_integer ct__law_is_integer : Value} (A__law_is_integer : PySem.W.nsIn K mainGlobals "_law_is_integer" = some (some (.ref f__law_is_integer))) (l__law_is_integer : K.lookup f__law_is_integer = some ⟨oc__law_is_integer, od__law_is_integer, .func (PySem.W.fnOf "_law_is_integer" "_law_is_integer" (defArgs s__law_is_integer) (defBody s__law_is_integer) (defScope s__law_is_integer) .none kV__law_is_integer dc__law_is_integer pm__law_is_integer an__law_is_integer cd__law_is_integer ct__law_is_integer), sl__law_is_integer⟩) (c__law_is_integer : PySem.W.codeIn K cd__law_is_integer "_law_is_integer" = true) (k__law_is_integer : PySem.W.keepIn K (.ref f__law_is_integer) = true)
    {f__law_lowest : Addr} {od__law_lowest an__law_lowest : Option Addr} {sl__law_lowest : Array (Option Value)} {oc__law_lowest kV__law_lowest dc__law_lowest pm__law_lowest cd__law_lowest ct__law_lowest : Value} (A__law_lowest : PySem.W.nsIn K mainGlobals "_law_lowest" = some (some (.ref f__law_lowest))) (l__law_lowest : K.lookup f__law_lowest = some ⟨oc__law_lowest, od__law_lowest, .func (PySem.W.fnOf "_law_lowest" "_law_lowest" (defArgs s__law_lowest) (defBody s__law_lowest) (defScope s__law_lowest) .none kV__law_lowest dc__law_lowest pm__law_lowest an__law_lowest cd__law_lowest ct__law_lowest), sl__law_lowest⟩) (c__law_lowest : PySem.W.codeIn K cd__law_lowest "_law_lowest" = true) (k__law_lowest : PySem.W.keepIn K (.ref f__law_lowest) = true)
    {f__law_take : Addr} {od__law_take an__law_take : Option Addr} {sl__law_take : Array (Option Value)} {oc__law_take kV__law_take dc__law_take pm__law_take cd__law_take ct__law_take : Value} (A__law_take : PySem.W.nsIn K mainGlobals "_law_take" = some (some (.ref f__law_take))) (l__law_take : K.lookup f__law_take = some ⟨oc__law_take, od__law_take, .func (PySem.W.fnOf "_law_take" "_law_take" (defArgs s__law_take) (defBody s__law_take) (defScope s__law_take) .none kV__law_take dc__law_take pm__law_take an__law_take cd__law_take ct__law_take), sl__law_take⟩) (c__law_take : PySem.W.codeIn K cd__law_take "_law_take" = true) (k__law_take : PySem.W.keepIn K (.ref f__law_take) = true)
    {f__law_release : Addr} {od__law_release an__law_release : Option Addr} {sl__law_release : Array (Option Value)} {oc__law_release kV__law_release dc__law_release pm__law_release cd__law_release ct__law_release : Value} (A__law_release : PySem.W.nsIn K mainGlobals "_law_release" = some (some (.ref f__law_release))) (l__law_release : K.lookup f__law_release = some ⟨oc__law_release, od__law_release, .func (PySem.W.fnOf "_law_release" "_law_release" (defArgs s__law_release) (defBody s__law_release) (defScope s__law_release) .none kV__law_release dc__law_release pm__law_release an__law_release cd__law_release ct__law_release), sl__law_release⟩) (c__law_release : PySem.W.codeIn K cd__law_release "_law_release" = true) (k__law_release : PySem.W.keepIn K (.ref f__law_release) = true)
    {f__law_call : Addr} {od__law_call an__law_call : Option Addr} {sl__law_call : Array (Option Value)} {oc__law_call kV__law_call dc__law_call pm__law_call cd__law_call ct__law_call : Value} (A__law_call : PySem.W.nsIn K mainGlobals "_law_call" = some (some (.ref f__law_call))) (l__law_call : K.lookup f__law_call = some ⟨oc__law_call, od__law_call, .func (PySem.W.fnOf "_law_call" "_law_call" (defArgs s__law_call) (defBody s__law_call) (defScope s__law_call) .none kV__law_call dc__law_call pm__law_call an__law_call cd__law_call ct__law_call), sl__law_call⟩) (c__law_call : PySem.W.codeIn K cd__law_call "_law_call" = true) (k__law_call : PySem.W.keepIn K (.ref f__law_call) = true)
    {f__law_ask : Addr} {od__law_ask an__law_ask : Option Addr} {sl__law_ask : Array (Option Value)} {oc__law_ask kV__law_ask dc__law_ask pm__law_ask cd__law_ask ct__law_ask : Value} (A__law_ask : PySem.W.nsIn K mainGlobals "_law_ask" = some (some (.ref f__law_ask))) (l__law_ask : K.lookup f__law_ask = some ⟨oc__law_ask, od__law_ask, .func (PySem.W.fnOf "_law_ask" "_law_ask" (defArgs s__law_ask) (defBody s__law_ask) (defScope s__law_ask) .none kV__law_ask dc__law_ask pm__law_ask an__law_ask cd__law_ask ct__law_ask), sl__law_ask⟩) (c__law_ask : PySem.W.codeIn K cd__law_ask "_law_ask" = true) (k__law_ask : PySem.W.keepIn K (.ref f__law_ask) = true)
    {f__law_due : Addr} {od__law_due an__law_due : Option Addr} {sl__law_due : Array (Option Value)} {oc__law_due kV__law_due dc__law_due pm__law_due cd__law_due ct__law_due : Value} (A__law_due : PySem.W.nsIn K mainGlobals "_law_due" = some (some (.ref f__law_due))) (l__law_due : K.lookup f__law_due = some ⟨oc__law_due, od__law_due, .func (PySem.W.fnOf "_law_due" "_law_due" (defArgs s__law_due) (defBody s__law_due) (defScope s__law_due) .none kV__law_due dc__law_due pm__law_due an__law_due cd__law_due ct__law_due), sl__law_due⟩) (c__law_due : PySem.W.codeIn K cd__law_due "_law_due" = true) (k__law_due : PySem.W.keepIn K (.ref f__law_due) = true)
    {f__law_free : Addr} {od__law_free an__law_free : Option Addr} {sl__law_free : Array (Option Value)} {oc__law_free kV__law_free dc__law_free pm__law_free cd__law_free ct__law_free : Value} (A__law_free : PySem.W.nsIn K mainGlobals "_law_free" = some (some (.ref f__law_free))) (l__law_free : K.lookup f__law_free = some ⟨oc__law_free, od__law_free, .func (PySem.W.fnOf "_law_free" "_law_free" (defArgs s__law_free) (defBody s__law_free) (defScope s__law_free) .none kV__law_free dc__law_free pm__law_free an__law_free cd__law_free ct__law_free), sl__law_free⟩) (c__law_free : PySem.W.codeIn K cd__law_free "_law_free" = true) (k__law_free : PySem.W.keepIn K (.ref f__law_free) = true)
    {f__law_stands : Addr} {od__law_stands an__law_stands : Option Addr} {sl__law_stands : Array (Option Value)} {oc__law_stands kV__law_stands dc__law_stands pm__law_stands cd__law_stands ct__law_stands : Value} (A__law_stands : PySem.W.nsIn K mainGlobals "_law_stands" = some (some (.ref f__law_stands))) (l__law_stands : K.lookup f__law_stands = some ⟨oc__law_stands, od__law_stands, .func (PySem.W.fnOf "_law_stands" "_law_stands" (defArgs s__law_stands) (defBody s__law_stands) (defScope s__law_stands) .none kV__law_stands dc__law_stands pm__law_stands an__law_stands cd__law_stands ct__law_stands), sl__law_stands⟩) (c__law_stands : PySem.W.codeIn K cd__law_stands "_law_stands" = true) (k__law_stands : PySem.W.keepIn K (.ref f__law_stands) = true)
    {f_law : Addr} {od_law an_law : Option Addr} {sl_law : Array (Option Value)} {oc_law kV_law dc_law pm_law cd_law ct_law : Value} (A_law : PySem.W.nsIn K mainGlobals "law" = some (some (.ref f_law))) (l_law : K.lookup f_law = some ⟨oc_law, od_law, .func (PySem.W.fnOf "law" "law" (defArgs s_law) (defBody s_law) (defScope s_law) .none kV_law dc_law pm_law an_law cd_law ct_law), sl_law⟩) (c_law : PySem.W.codeIn K cd_law "law" = true) (k_law : PySem.W.keepIn K (.ref f_law) = true)
    (z_ValueError : PySem.W.nsIn K mainGlobals "ValueError" = some none)
    (z_abs : PySem.W.nsIn K mainGlobals "abs" = some none)
    (z_bool : PySem.W.nsIn K mainGlobals "bool" = some none)
    (z_int : PySem.W.nsIn K mainGlobals "int" = some none)
    (z_isinstance : PySem.W.nsIn K mainGlobals "isinstance" = some none)
    (z_len : PySem.W.nsIn K mainGlobals "len" = some none)
    (z_min : PySem.W.nsIn K mainGlobals "min" = some none)
    (z_range : PySem.W.nsIn K mainGlobals "range" = some none)
    (z_repr : PySem.W.nsIn K mainGlobals "repr" = some none)
    (z_str : PySem.W.nsIn K mainGlobals "str" = some none)
    (z_tuple : PySem.W.nsIn K mainGlobals "tuple" = some none) :
    ∃ fd : FuncData, (∀ (s : Shared) (v : Value), BindsTo s fd ⟨[v], []⟩ [("script", v)]) ∧ ∀ base : Heap, K.In base → base.Ns mainGlobals mg → FnG l.prog w K mg base CX0 10 fa fd ["script"] (SpA K C_law) := by
  have e := hfa.symm.trans (PySem.W.mg_of X G A_law)
  cases e
  obtain ⟨p1_InvalidNumber, p2_InvalidNumber, q1_InvalidNumber, q2_InvalidNumber, q3_InvalidNumber, q4_InvalidNumber, ea_InvalidNumber, eb_InvalidNumber, es_InvalidNumber⟩ := ex_InvalidNumber
  rw [ea_InvalidNumber, eb_InvalidNumber, es_InvalidNumber] at l1_InvalidNumber
  obtain ⟨p1_NoRoom, p2_NoRoom, q1_NoRoom, q2_NoRoom, q3_NoRoom, q4_NoRoom, ea_NoRoom, eb_NoRoom, es_NoRoom⟩ := ex_NoRoom
  rw [ea_NoRoom, eb_NoRoom, es_NoRoom] at l1_NoRoom
  obtain ⟨p1_NotAlone, p2_NotAlone, q1_NotAlone, q2_NotAlone, q3_NotAlone, q4_NotAlone, ea_NotAlone, eb_NotAlone, es_NotAlone⟩ := ex_NotAlone
  rw [ea_NotAlone, eb_NotAlone, es_NotAlone] at l1_NotAlone
  obtain ⟨p1_NotHeld, p2_NotHeld, q1_NotHeld, q2_NotHeld, q3_NotHeld, q4_NotHeld, ea_NotHeld, eb_NotHeld, es_NotHeld⟩ := ex_NotHeld
  rw [ea_NotHeld, eb_NotHeld, es_NotHeld] at l1_NotHeld
  have F_is_integer := fun_mk (st := s_is_integer) l_is_integer c_is_integer k_is_integer
  have b_is_integer := F_is_integer.binds (ps := ["value"]) fun _ _ _ _ _ _ us hl => match us, hl with | [_], _ => rfl
  have F_is_from := fun_mk (st := s_is_from) l_is_from c_is_from k_is_from
  have b_is_from := F_is_from.binds (ps := ["value", "low", "high"]) fun _ _ _ _ _ _ us hl => match us, hl with | [_, _, _], _ => rfl
  have F_vectors := fun_mk (st := s_vectors) l_vectors c_vectors k_vectors
  have b_vectors := F_vectors.binds (ps := ["rows"]) fun _ _ _ _ _ _ us hl => match us, hl with | [_], _ => rfl
  have F_fixed_row := fun_mk (st := s_fixed_row) l_fixed_row c_fixed_row k_fixed_row
  have b_fixed_row := F_fixed_row.binds (ps := ["row"]) fun _ _ _ _ _ _ us hl => match us, hl with | [_], _ => rfl
  have F__law_numbers := fun_mk (st := s__law_numbers) l__law_numbers c__law_numbers k__law_numbers
  have b__law_numbers := F__law_numbers.binds (ps := ["cell", "at", "many"]) fun _ _ _ _ _ _ us hl => match us, hl with | [_, _, _], _ => rfl
  have F__law_same := fun_mk (st := s__law_same) l__law_same c__law_same k__law_same
  have b__law_same := F__law_same.binds (ps := ["actual", "expected"]) fun _ _ _ _ _ _ us hl => match us, hl with | [_, _], _ => rfl
  have F_Store___init__ := fun_mk (st := s_Store___init__) l_Store___init__ c_Store___init__ k_Store___init__
  have b_Store___init__ := F_Store___init__.binds (ps := ["self", "many", "size"]) fun _ _ _ _ _ _ us hl => match us, hl with | [_, _, _], _ => rfl
  have F_Store_free := fun_mk (st := s_Store_free) l_Store_free c_Store_free k_Store_free
  have b_Store_free := F_Store_free.binds (ps := ["self"]) fun _ _ _ _ _ _ us hl => match us, hl with | [_], _ => rfl
  have F_Store__check_block := fun_mk (st := s_Store__check_block) l_Store__check_block c_Store__check_block k_Store__check_block
  have b_Store__check_block := F_Store__check_block.binds (ps := ["self", "block"]) fun _ _ _ _ _ _ us hl => match us, hl with | [_, _], _ => rfl
  have F_Store__check_held := fun_mk (st := s_Store__check_held) l_Store__check_held c_Store__check_held k_Store__check_held
  have b_Store__check_held := F_Store__check_held.binds (ps := ["self", "block"]) fun _ _ _ _ _ _ us hl => match us, hl with | [_, _], _ => rfl
  have F_Store__check_alone := fun_mk (st := s_Store__check_alone) l_Store__check_alone c_Store__check_alone k_Store__check_alone
  have b_Store__check_alone := F_Store__check_alone.binds (ps := ["self", "block"]) fun _ _ _ _ _ _ us hl => match us, hl with | [_, _], _ => rfl
  have F_Store_take := fun_mk (st := s_Store_take) l_Store_take c_Store_take k_Store_take
  have b_Store_take := F_Store_take.binds (ps := ["self"]) fun _ _ _ _ _ _ us hl => match us, hl with | [_], _ => rfl
  have F_Store_hold := fun_mk (st := s_Store_hold) l_Store_hold c_Store_hold k_Store_hold
  have b_Store_hold := F_Store_hold.binds (ps := ["self", "block"]) fun _ _ _ _ _ _ us hl => match us, hl with | [_, _], _ => rfl
  have F_Store_release := fun_mk (st := s_Store_release) l_Store_release c_Store_release k_Store_release
  have b_Store_release := F_Store_release.binds (ps := ["self", "block"]) fun _ _ _ _ _ _ us hl => match us, hl with | [_, _], _ => rfl
  have F_Store_put_row := fun_mk (st := s_Store_put_row) l_Store_put_row c_Store_put_row k_Store_put_row
  have b_Store_put_row := F_Store_put_row.binds (ps := ["self", "block", "row"]) fun _ _ _ _ _ _ us hl => match us, hl with | [_, _, _], _ => rfl
  have F_Store_shorten := fun_mk (st := s_Store_shorten) l_Store_shorten c_Store_shorten k_Store_shorten
  have b_Store_shorten := F_Store_shorten.binds (ps := ["self", "block", "many"]) fun _ _ _ _ _ _ us hl => match us, hl with | [_, _, _], _ => rfl
  have F_Store_rows := fun_mk (st := s_Store_rows) l_Store_rows c_Store_rows k_Store_rows
  have b_Store_rows := F_Store_rows.binds (ps := ["self", "block"]) fun _ _ _ _ _ _ us hl => match us, hl with | [_, _], _ => rfl
  have F_Store_holders := fun_mk (st := s_Store_holders) l_Store_holders c_Store_holders k_Store_holders
  have b_Store_holders := F_Store_holders.binds (ps := ["self", "block"]) fun _ _ _ _ _ _ us hl => match us, hl with | [_, _], _ => rfl
  have F__law_kinds := fun_mk (st := s__law_kinds) l__law_kinds c__law_kinds k__law_kinds
  have b__law_kinds := F__law_kinds.binds (ps := ["e"]) fun _ _ _ _ _ _ us hl => match us, hl with | [_], _ => rfl
  have F__law_odd := fun_mk (st := s__law_odd) l__law_odd c__law_odd k__law_odd
  have b__law_odd := F__law_odd.binds (ps := ["numbers", "k", "most"]) fun _ _ _ _ _ _ us hl => match us, hl with | [_, _, _], _ => rfl
  have F__law_vector := fun_mk (st := s__law_vector) l__law_vector c__law_vector k__law_vector
  have b__law_vector := F__law_vector.binds (ps := ["numbers", "at", "width", "prime"]) fun _ _ _ _ _ _ us hl => match us, hl with | [_, _, _, _], _ => rfl
  have F__law_net := fun_mk (st := s__law_net) l__law_net c__law_net k__law_net
  have b__law_net := F__law_net.binds (ps := ["numbers", "letters", "width", "many", "prime"]) fun _ _ _ _ _ _ us hl => match us, hl with | [_, _, _, _, _], _ => rfl
  have F__law_dot := fun_mk (st := s__law_dot) l__law_dot c__law_dot k__law_dot
  have b__law_dot := F__law_dot.binds (ps := ["one", "other", "prime"]) fun _ _ _ _ _ _ us hl => match us, hl with | [_, _, _], _ => rfl
  have F__law_times := fun_mk (st := s__law_times) l__law_times c__law_times k__law_times
  have b__law_times := F__law_times.binds (ps := ["matrix", "vector", "prime"]) fun _ _ _ _ _ _ us hl => match us, hl with | [_, _, _], _ => rfl
  have F__law_row := fun_mk (st := s__law_row) l__law_row c__law_row k__law_row
  have b__law_row := F__law_row.binds (ps := ["net", "rows", "letter"]) fun _ _ _ _ _ _ us hl => match us, hl with | [_, _, _], _ => rfl
  have F__law_some_rows := fun_mk (st := s__law_some_rows) l__law_some_rows c__law_some_rows k__law_some_rows
  have b__law_some_rows := F__law_some_rows.binds (ps := ["numbers"]) fun _ _ _ _ _ _ us hl => match us, hl with | [_], _ => rfl
  have F__law_is_integer := fun_mk (st := s__law_is_integer) l__law_is_integer c__law_is_integer k__law_is_integer
  have b__law_is_integer := F__law_is_integer.binds (ps := ["value", "low", "high"]) fun _ _ _ _ _ _ us hl => match us, hl with | [_, _, _], _ => rfl
  have F__law_lowest := fun_mk (st := s__law_lowest) l__law_lowest c__law_lowest k__law_lowest
  have b__law_lowest := F__law_lowest.binds (ps := ["state"]) fun _ _ _ _ _ _ us hl => match us, hl with | [_], _ => rfl
  have F__law_take := fun_mk (st := s__law_take) l__law_take c__law_take k__law_take
  have b__law_take := F__law_take.binds (ps := ["state"]) fun _ _ _ _ _ _ us hl => match us, hl with | [_], _ => rfl
  have F__law_release := fun_mk (st := s__law_release) l__law_release c__law_release k__law_release
  have b__law_release := F__law_release.binds (ps := ["state", "block"]) fun _ _ _ _ _ _ us hl => match us, hl with | [_, _], _ => rfl
  have F__law_call := fun_mk (st := s__law_call) l__law_call c__law_call k__law_call
  have b__law_call := F__law_call.binds (ps := ["store", "word", "block", "value"]) fun _ _ _ _ _ _ us hl => match us, hl with | [_, _, _, _], _ => rfl
  have F__law_ask := fun_mk (st := s__law_ask) l__law_ask c__law_ask k__law_ask
  have b__law_ask := F__law_ask.binds (ps := ["store", "word", "block", "value"]) fun _ _ _ _ _ _ us hl => match us, hl with | [_, _, _, _], _ => rfl
  have F__law_due := fun_mk (st := s__law_due) l__law_due c__law_due k__law_due
  have b__law_due := F__law_due.binds (ps := ["state", "size", "word", "block", "value"]) fun _ _ _ _ _ _ us hl => match us, hl with | [_, _, _, _, _], _ => rfl
  have F__law_free := fun_mk (st := s__law_free) l__law_free c__law_free k__law_free
  have b__law_free := F__law_free.binds (ps := ["state"]) fun _ _ _ _ _ _ us hl => match us, hl with | [_], _ => rfl
  have F__law_stands := fun_mk (st := s__law_stands) l__law_stands c__law_stands k__law_stands
  have b__law_stands := F__law_stands.binds (ps := ["store", "state"]) fun _ _ _ _ _ _ us hl => match us, hl with | [_, _], _ => rfl
  have F_law := fun_mk (st := s_law) l_law c_law k_law
  have b_law := F_law.binds (ps := ["script"]) fun _ _ _ _ _ _ us hl => match us, hl with | [_], _ => rfl
  let T : Tx K mg := { d_is_integer := { a := _, fd := _, F := F_is_integer, b := b_is_integer, g := PySem.W.mg_of X G A_is_integer }, d_is_from := { a := _, fd := _, F := F_is_from, b := b_is_from, g := PySem.W.mg_of X G A_is_from }, d_vectors := { a := _, fd := _, F := F_vectors, b := b_vectors, g := PySem.W.mg_of X G A_vectors }, d_fixed_row := { a := _, fd := _, F := F_fixed_row, b := b_fixed_row, g := PySem.W.mg_of X G A_fixed_row }, d__law_numbers := { a := _, fd := _, F := F__law_numbers, b := b__law_numbers, g := PySem.W.mg_of X G A__law_numbers }, d__law_same := { a := _, fd := _, F := F__law_same, b := b__law_same, g := PySem.W.mg_of X G A__law_same }, d_Store___init__ := { a := _, fd := _, F := F_Store___init__, b := b_Store___init__ }, d_Store_free := { a := _, fd := _, F := F_Store_free, b := b_Store_free }, d_Store__check_block := { a := _, fd := _, F := F_Store__check_block, b := b_Store__check_block }, d_Store__check_held := { a := _, fd := _, F := F_Store__check_held, b := b_Store__check_held }, d_Store__check_alone := { a := _, fd := _, F := F_Store__check_alone, b := b_Store__check_alone }, d_Store_take := { a := _, fd := _, F := F_Store_take, b := b_Store_take }, d_Store_hold := { a := _, fd := _, F := F_Store_hold, b := b_Store_hold }, d_Store_release := { a := _, fd := _, F := F_Store_release, b := b_Store_release }, d_Store_put_row := { a := _, fd := _, F := F_Store_put_row, b := b_Store_put_row }, d_Store_shorten := { a := _, fd := _, F := F_Store_shorten, b := b_Store_shorten }, d_Store_rows := { a := _, fd := _, F := F_Store_rows, b := b_Store_rows }, d_Store_holders := { a := _, fd := _, F := F_Store_holders, b := b_Store_holders }, d__law_kinds := { a := _, fd := _, F := F__law_kinds, b := b__law_kinds, g := PySem.W.mg_of X G A__law_kinds }, d__law_odd := { a := _, fd := _, F := F__law_odd, b := b__law_odd, g := PySem.W.mg_of X G A__law_odd }, d__law_vector := { a := _, fd := _, F := F__law_vector, b := b__law_vector, g := PySem.W.mg_of X G A__law_vector }, d__law_net := { a := _, fd := _, F := F__law_net, b := b__law_net, g := PySem.W.mg_of X G A__law_net }, d__law_dot := { a := _, fd := _, F := F__law_dot, b := b__law_dot, g := PySem.W.mg_of X G A__law_dot }, d__law_times := { a := _, fd := _, F := F__law_times, b := b__law_times, g := PySem.W.mg_of X G A__law_times }, d__law_row := { a := _, fd := _, F := F__law_row, b := b__law_row, g := PySem.W.mg_of X G A__law_row }, d__law_some_rows := { a := _, fd := _, F := F__law_some_rows, b := b__law_some_rows, g := PySem.W.mg_of X G A__law_some_rows }, d__law_is_integer := { a := _, fd := _, F := F__law_is_integer, b := b__law_is_integer, g := PySem.W.mg_of X G A__law_is_integer }, d__law_lowest := { a := _, fd := _, F := F__law_lowest, b := b__law_lowest, g := PySem.W.mg_of X G A__law_lowest }, d__law_take := { a := _, fd := _, F := F__law_take, b := b__law_take, g := PySem.W.mg_of X G A__law_take }, d__law_release := { a := _, fd := _, F := F__law_release, b := b__law_release, g := PySem.W.mg_of X G A__law_release }, d__law_call := { a := _, fd := _, F := F__law_call, b := b__law_call, g := PySem.W.mg_of X G A__law_call }, d__law_ask := { a := _, fd := _, F := F__law_ask, b := b__law_ask, g := PySem.W.mg_of X G A__law_ask }, d__law_due := { a := _, fd := _, F := F__law_due, b := b__law_due, g := PySem.W.mg_of X G A__law_due }, d__law_free := { a := _, fd := _, F := F__law_free, b := b__law_free, g := PySem.W.mg_of X G A__law_free }, d__law_stands := { a := _, fd := _, F := F__law_stands, b := b__law_stands, g := PySem.W.mg_of X G A__law_stands }, d_law := { a := _, fd := _, F := F_law, b := b_law, g := PySem.W.mg_of X G A_law }, m_ValueError := PySem.W.mg_none_of X G z_ValueError, m_abs := PySem.W.mg_none_of X G z_abs, m_bool := PySem.W.mg_none_of X G z_bool, m_int := PySem.W.mg_none_of X G z_int, m_isinstance := PySem.W.mg_none_of X G z_isinstance, m_len := PySem.W.mg_none_of X G z_len, m_min := PySem.W.mg_none_of X G z_min, m_range := PySem.W.mg_none_of X G z_range, m_repr := PySem.W.mg_none_of X G z_repr, m_str := PySem.W.mg_none_of X G z_str, m_tuple := PySem.W.mg_none_of X G z_tuple, c_Store := { aC := _, cl := ⟨pg_Store, hd_Store, po_Store, sa_Store⟩, mgC := PySem.W.mg_of X G AC_Store, nA__held := na_Store__held, nA__kept := na_Store__kept, nA_many := na_Store_many, nA_size := na_Store_size }, mk_Store := ⟨mk_Store, A_Store___init__, i_Store___init__, kc_Store⟩, e_InvalidLetter := { aC := fC_InvalidLetter, mgC := PySem.W.mg_of X G AC_InvalidLetter }, e_InvalidNumber := { aC := fC_InvalidNumber, mgC := PySem.W.mg_of X G AC_InvalidNumber, fI := fI_InvalidNumber, tx := { gC := PySem.W.mg_of X G AC_InvalidNumber, cls := ⟨_, _, _, _, _, _, _, _, _, _, _, _, _, _, _, xL_InvalidNumber, rvE_InvalidNumber⟩, sa := sa_InvalidNumber, noN := nb_InvalidNumber, iC := a1_InvalidNumber, tC := t1_InvalidNumber, kC := kC_InvalidNumber, exC := eC_InvalidNumber, tyC := tC_InvalidNumber, fn := ⟨_, _, _, _, _, _, _, _, _, _, _, _, _, _, l1_InvalidNumber, c1_InvalidNumber⟩ }, xc := ⟨iC_InvalidNumber, ga_InvalidNumber, gg_InvalidNumber, eC_InvalidNumber, ca_InvalidNumber, cgE, tkE, mo_InvalidNumber, hC_InvalidNumber⟩, xf := ⟨ga_InvalidNumber, gg_InvalidNumber, eC_InvalidNumber, hC_InvalidNumber⟩, nf := nb_InvalidNumber }, e_NoHouse := { aC := fC_NoHouse, mgC := PySem.W.mg_of X G AC_NoHouse }, e_NoRequest := { aC := fC_NoRequest, mgC := PySem.W.mg_of X G AC_NoRequest }, e_NoRoom := { aC := fC_NoRoom, mgC := PySem.W.mg_of X G AC_NoRoom, fI := fI_NoRoom, tx := { gC := PySem.W.mg_of X G AC_NoRoom, cls := ⟨_, _, _, _, _, _, _, _, _, _, _, _, _, _, _, xL_NoRoom, rvE_NoRoom⟩, sa := sa_NoRoom, noN := nb_NoRoom, iC := a1_NoRoom, tC := t1_NoRoom, kC := kC_NoRoom, exC := eC_NoRoom, tyC := tC_NoRoom, fn := ⟨_, _, _, _, _, _, _, _, _, _, _, _, _, _, l1_NoRoom, c1_NoRoom⟩ }, xc := ⟨iC_NoRoom, ga_NoRoom, gg_NoRoom, eC_NoRoom, ca_NoRoom, cgE, tkE, mo_NoRoom, hC_NoRoom⟩, xf := ⟨ga_NoRoom, gg_NoRoom, eC_NoRoom, hC_NoRoom⟩, nf := nb_NoRoom }, e_NotAlone := { aC := fC_NotAlone, mgC := PySem.W.mg_of X G AC_NotAlone, fI := fI_NotAlone, tx := { gC := PySem.W.mg_of X G AC_NotAlone, cls := ⟨_, _, _, _, _, _, _, _, _, _, _, _, _, _, _, xL_NotAlone, rvE_NotAlone⟩, sa := sa_NotAlone, noN := nb_NotAlone, iC := a1_NotAlone, tC := t1_NotAlone, kC := kC_NotAlone, exC := eC_NotAlone, tyC := tC_NotAlone, fn := ⟨_, _, _, _, _, _, _, _, _, _, _, _, _, _, l1_NotAlone, c1_NotAlone⟩ }, xc := ⟨iC_NotAlone, ga_NotAlone, gg_NotAlone, eC_NotAlone, ca_NotAlone, cgE, tkE, mo_NotAlone, hC_NotAlone⟩, xf := ⟨ga_NotAlone, gg_NotAlone, eC_NotAlone, hC_NotAlone⟩, nf := nb_NotAlone }, e_NotHeld := { aC := fC_NotHeld, mgC := PySem.W.mg_of X G AC_NotHeld, fI := fI_NotHeld, tx := { gC := PySem.W.mg_of X G AC_NotHeld, cls := ⟨_, _, _, _, _, _, _, _, _, _, _, _, _, _, _, xL_NotHeld, rvE_NotHeld⟩, sa := sa_NotHeld, noN := nb_NotHeld, iC := a1_NotHeld, tC := t1_NotHeld, kC := kC_NotHeld, exC := eC_NotHeld, tyC := tC_NotHeld, fn := ⟨_, _, _, _, _, _, _, _, _, _, _, _, _, _, l1_NotHeld, c1_NotHeld⟩ }, xc := ⟨iC_NotHeld, ga_NotHeld, gg_NotHeld, eC_NotHeld, ca_NotHeld, cgE, tkE, mo_NotHeld, hC_NotHeld⟩, xf := ⟨ga_NotHeld, gg_NotHeld, eC_NotHeld, hC_NotHeld⟩, nf := nb_NotHeld }, e_ServeError := { aC := fC_ServeError, mgC := PySem.W.mg_of X G AC_ServeError }, e_TooLarge := { aC := fC_TooLarge, mgC := PySem.W.mg_of X G AC_TooLarge }, em_InvalidNumber := PySem.W.exm_ref eS hS tS sS_InvalidNumber, kv_InvalidNumber := kvE_InvalidNumber, ko_InvalidNumber_InvalidLetter := koE_InvalidNumber_InvalidLetter, ko_InvalidNumber_InvalidNumber := by unfold PySem.W.kitOne; rw [if_pos (by simp)], ko_InvalidNumber_NoHouse := koE_InvalidNumber_NoHouse, ko_InvalidNumber_NoRequest := koE_InvalidNumber_NoRequest, ko_InvalidNumber_NoRoom := koE_InvalidNumber_NoRoom, ko_InvalidNumber_NotAlone := koE_InvalidNumber_NotAlone, ko_InvalidNumber_NotHeld := koE_InvalidNumber_NotHeld, ko_InvalidNumber_ServeError := koE_InvalidNumber_ServeError, ko_InvalidNumber_TooLarge := koE_InvalidNumber_TooLarge, em_NoRoom := PySem.W.exm_ref eS hS tS sS_NoRoom, kv_NoRoom := kvE_NoRoom, ko_NoRoom_InvalidLetter := koE_NoRoom_InvalidLetter, ko_NoRoom_InvalidNumber := koE_NoRoom_InvalidNumber, ko_NoRoom_NoHouse := koE_NoRoom_NoHouse, ko_NoRoom_NoRequest := koE_NoRoom_NoRequest, ko_NoRoom_NoRoom := by unfold PySem.W.kitOne; rw [if_pos (by simp)], ko_NoRoom_NotAlone := koE_NoRoom_NotAlone, ko_NoRoom_NotHeld := koE_NoRoom_NotHeld, ko_NoRoom_ServeError := koE_NoRoom_ServeError, ko_NoRoom_TooLarge := koE_NoRoom_TooLarge, em_NotAlone := PySem.W.exm_ref eS hS tS sS_NotAlone, kv_NotAlone := kvE_NotAlone, ko_NotAlone_InvalidLetter := koE_NotAlone_InvalidLetter, ko_NotAlone_InvalidNumber := koE_NotAlone_InvalidNumber, ko_NotAlone_NoHouse := koE_NotAlone_NoHouse, ko_NotAlone_NoRequest := koE_NotAlone_NoRequest, ko_NotAlone_NoRoom := koE_NotAlone_NoRoom, ko_NotAlone_NotAlone := by unfold PySem.W.kitOne; rw [if_pos (by simp)], ko_NotAlone_NotHeld := koE_NotAlone_NotHeld, ko_NotAlone_ServeError := koE_NotAlone_ServeError, ko_NotAlone_TooLarge := koE_NotAlone_TooLarge, em_NotHeld := PySem.W.exm_ref eS hS tS sS_NotHeld, kv_NotHeld := kvE_NotHeld, ko_NotHeld_InvalidLetter := koE_NotHeld_InvalidLetter, ko_NotHeld_InvalidNumber := koE_NotHeld_InvalidNumber, ko_NotHeld_NoHouse := koE_NotHeld_NoHouse, ko_NotHeld_NoRequest := koE_NotHeld_NoRequest, ko_NotHeld_NoRoom := koE_NotHeld_NoRoom, ko_NotHeld_NotAlone := koE_NotHeld_NotAlone, ko_NotHeld_NotHeld := by unfold PySem.W.kitOne; rw [if_pos (by simp)], ko_NotHeld_ServeError := koE_NotHeld_ServeError, ko_NotHeld_TooLarge := koE_NotHeld_TooLarge, meth_Store__check_alone := ⟨A_Store__check_alone, i_Store__check_alone, k_Store__check_alone⟩, meth_Store__check_block := ⟨A_Store__check_block, i_Store__check_block, k_Store__check_block⟩, meth_Store__check_held := ⟨A_Store__check_held, i_Store__check_held, k_Store__check_held⟩, meth_Store_hold := ⟨A_Store_hold, i_Store_hold, k_Store_hold⟩, meth_Store_holders := ⟨A_Store_holders, i_Store_holders, k_Store_holders⟩, meth_Store_put_row := ⟨A_Store_put_row, i_Store_put_row, k_Store_put_row⟩, meth_Store_release := ⟨A_Store_release, i_Store_release, k_Store_release⟩, meth_Store_rows := ⟨A_Store_rows, i_Store_rows, k_Store_rows⟩, meth_Store_shorten := ⟨A_Store_shorten, i_Store_shorten, k_Store_shorten⟩, meth_Store_take := ⟨A_Store_take, i_Store_take, k_Store_take⟩, p_Store_free := _, prop_Store_free := ⟨A_Store_free, sp_Store_free, tk_Store_free, ⟨_, rc_Store_free⟩⟩ }
  refine ⟨PySem.W.fnOf "law" "law" (defArgs s_law) (defBody s_law) (defScope s_law) .none kV_law dc_law pm_law an_law cd_law ct_law, fun s v => .of_eq rfl, fun base _ _ => ?_⟩
  have g_is_integer := ok_is_integer (P := l.prog) (w := w) (base := base) T
  have g_is_from := ok_is_from (P := l.prog) (w := w) (base := base) T g_is_integer
  have g_vectors := ok_vectors (P := l.prog) (w := w) (base := base) T
  have g_fixed_row := ok_fixed_row (P := l.prog) (w := w) (base := base) T g_vectors
  have g__law_numbers := ok__law_numbers (P := l.prog) (w := w) (base := base) T
  have g__law_same := fun k => ok__law_same (P := l.prog) (w := w) (base := base) T k
  have g_Store___init__ := ok_Store___init__ (P := l.prog) (w := w) (base := base) T g_is_from
  have g_Store_free := ok_Store_free (P := l.prog) (w := w) (base := base) T
  have g_Store__check_block := ok_Store__check_block (P := l.prog) (w := w) (base := base) T g_is_from
  have g_Store__check_held := ok_Store__check_held (P := l.prog) (w := w) (base := base) T g_Store__check_block
  have g_Store__check_alone := ok_Store__check_alone (P := l.prog) (w := w) (base := base) T g_Store__check_held
  have g_Store_take := ok_Store_take (P := l.prog) (w := w) (base := base) T g_Store_free
  have g_Store_hold := ok_Store_hold (P := l.prog) (w := w) (base := base) T g_Store__check_held
  have g_Store_release := ok_Store_release (P := l.prog) (w := w) (base := base) T g_Store__check_held
  have g_Store_put_row := ok_Store_put_row (P := l.prog) (w := w) (base := base) T g_Store__check_alone g_fixed_row
  have g_Store_shorten := ok_Store_shorten (P := l.prog) (w := w) (base := base) T g_Store__check_alone g_is_from
  have g_Store_rows := ok_Store_rows (P := l.prog) (w := w) (base := base) T g_Store__check_held
  have g_Store_holders := ok_Store_holders (P := l.prog) (w := w) (base := base) T g_Store__check_block
  have g__law_kinds := ok__law_kinds (P := l.prog) (w := w) (base := base) T
  have g__law_odd := ok__law_odd (P := l.prog) (w := w) (base := base) T
  have g__law_vector := ok__law_vector (P := l.prog) (w := w) (base := base) T
  have g__law_net := ok__law_net (P := l.prog) (w := w) (base := base) T g__law_vector
  have g__law_dot := ok__law_dot (P := l.prog) (w := w) (base := base) T
  have g__law_times := ok__law_times (P := l.prog) (w := w) (base := base) T g__law_dot
  have g__law_row := ok__law_row (P := l.prog) (w := w) (base := base) T g__law_dot g__law_times
  have g__law_some_rows := ok__law_some_rows (P := l.prog) (w := w) (base := base) T g__law_net g__law_row
  have g__law_is_integer := ok__law_is_integer (P := l.prog) (w := w) (base := base) T
  have g__law_lowest := ok__law_lowest (P := l.prog) (w := w) (base := base) T
  have g__law_take := ok__law_take (P := l.prog) (w := w) (base := base) T g__law_lowest
  have g__law_release := ok__law_release (P := l.prog) (w := w) (base := base) T
  have g__law_call := ok__law_call (P := l.prog) (w := w) (base := base) T g_Store_hold g_Store_holders g_Store_put_row g_Store_release g_Store_rows g_Store_shorten g_Store_take
  have g__law_ask := ok__law_ask (P := l.prog) (w := w) (base := base) T g__law_call g__law_kinds
  have g__law_due := ok__law_due (P := l.prog) (w := w) (base := base) T g__law_is_integer g__law_release g__law_take
  have g__law_free := ok__law_free (P := l.prog) (w := w) (base := base) T
  have g__law_stands := ok__law_stands (P := l.prog) (w := w) (base := base) T g_Store_free g_Store_holders g_Store_rows (g__law_same 7)
  have g_law := ok_law (P := l.prog) (w := w) (base := base) T g_Store___init__ g_Store_free g__law_ask g__law_due g__law_free g__law_numbers g__law_odd (g__law_same 7) g__law_some_rows g__law_stands
  exact g_law
end LW

open PySem PySem.W PyProof.Rows
set_option maxRecDepth 100000 in
set_option maxHeartbeats 0 in
theorem PySem.Challenge.cw_servedalone_k12_whole_stores_holds : PySem.Challenge.rw_servedalone_k12_whole_stores.Holds := by
  w_on; o_law; k_head; (case hw => w_witness2)
  k_fill
  refine AL.walk_ofG (l := PySem.Challenge.rw_servedalone_k12_whole_stores) (n := 63) (k := 10) (x := "script") (sp := fun w => AL.SpA _ LW.C_law) rfl (by decide) rfl ⟨rfl, by decide, by decide⟩ (fun w h Y => PySem.W.kIn_of Y) ?F (fun _ _ a ns hl _ hS => AL.spa_start hS (LW.start_law ns hl))
  case F =>
    intro w mg fa h KX G hmg
    refine' LW.all_mk KX G hmg ?AC_Store ?pg_Store ?hd_Store ?po_Store ?sa_Store ?mk_Store ?kc_Store ?na_Store__held ?na_Store__kept ?na_Store_many ?na_Store_size ?AC_InvalidLetter ?AC_InvalidNumber ?xL_InvalidNumber ?rvE_InvalidNumber ?sa_InvalidNumber ?ga_InvalidNumber ?gg_InvalidNumber ?nb_InvalidNumber ?a1_InvalidNumber ?t1_InvalidNumber ?l1_InvalidNumber ?c1_InvalidNumber ?kC_InvalidNumber ?eC_InvalidNumber ?tC_InvalidNumber ?hC_InvalidNumber ?iC_InvalidNumber ?ca_InvalidNumber ?mo_InvalidNumber ?AC_NoHouse ?AC_NoRequest ?AC_NoRoom ?xL_NoRoom ?rvE_NoRoom ?sa_NoRoom ?ga_NoRoom ?gg_NoRoom ?nb_NoRoom ?a1_NoRoom ?t1_NoRoom ?l1_NoRoom ?c1_NoRoom ?kC_NoRoom ?eC_NoRoom ?tC_NoRoom ?hC_NoRoom ?iC_NoRoom ?ca_NoRoom ?mo_NoRoom ?AC_NotAlone ?xL_NotAlone ?rvE_NotAlone ?sa_NotAlone ?ga_NotAlone ?gg_NotAlone ?nb_NotAlone ?a1_NotAlone ?t1_NotAlone ?l1_NotAlone ?c1_NotAlone ?kC_NotAlone ?eC_NotAlone ?tC_NotAlone ?hC_NotAlone ?iC_NotAlone ?ca_NotAlone ?mo_NotAlone ?AC_NotHeld ?xL_NotHeld ?rvE_NotHeld ?sa_NotHeld ?ga_NotHeld ?gg_NotHeld ?nb_NotHeld ?a1_NotHeld ?t1_NotHeld ?l1_NotHeld ?c1_NotHeld ?kC_NotHeld ?eC_NotHeld ?tC_NotHeld ?hC_NotHeld ?iC_NotHeld ?ca_NotHeld ?mo_NotHeld ?AC_ServeError ?AC_TooLarge ?cgE ?tkE ?eS ?hS ?tS ?sS_InvalidNumber ?kvE_InvalidNumber ?koE_InvalidNumber_InvalidLetter ?koE_InvalidNumber_NoHouse ?koE_InvalidNumber_NoRequest ?koE_InvalidNumber_NoRoom ?koE_InvalidNumber_NotAlone ?koE_InvalidNumber_NotHeld ?koE_InvalidNumber_ServeError ?koE_InvalidNumber_TooLarge ?sS_NoRoom ?kvE_NoRoom ?koE_NoRoom_InvalidLetter ?koE_NoRoom_InvalidNumber ?koE_NoRoom_NoHouse ?koE_NoRoom_NoRequest ?koE_NoRoom_NotAlone ?koE_NoRoom_NotHeld ?koE_NoRoom_ServeError ?koE_NoRoom_TooLarge ?sS_NotAlone ?kvE_NotAlone ?koE_NotAlone_InvalidLetter ?koE_NotAlone_InvalidNumber ?koE_NotAlone_NoHouse ?koE_NotAlone_NoRequest ?koE_NotAlone_NoRoom ?koE_NotAlone_NotHeld ?koE_NotAlone_ServeError ?koE_NotAlone_TooLarge ?sS_NotHeld ?kvE_NotHeld ?koE_NotHeld_InvalidLetter ?koE_NotHeld_InvalidNumber ?koE_NotHeld_NoHouse ?koE_NotHeld_NoRequest ?koE_NotHeld_NoRoom ?koE_NotHeld_NotAlone ?koE_NotHeld_ServeError ?koE_NotHeld_TooLarge ?A_is_integer ?l_is_integer ?c_is_integer ?k_is_integer ?A_is_from ?l_is_from ?c_is_from ?k_is_from ?A_vectors ?l_vectors ?c_vectors ?k_vectors ?A_fixed_row ?l_fixed_row ?c_fixed_row ?k_fixed_row ?A__law_numbers ?l__law_numbers ?c__law_numbers ?k__law_numbers ?A__law_same ?l__law_same ?c__law_same ?k__law_same ?A_Store___init__ ?i_Store___init__ ?l_Store___init__ ?c_Store___init__ ?k_Store___init__ ?A_Store_free ?sp_Store_free ?tk_Store_free ?rc_Store_free ?l_Store_free ?c_Store_free ?k_Store_free ?A_Store__check_block ?i_Store__check_block ?l_Store__check_block ?c_Store__check_block ?k_Store__check_block ?A_Store__check_held ?i_Store__check_held ?l_Store__check_held ?c_Store__check_held ?k_Store__check_held ?A_Store__check_alone ?i_Store__check_alone ?l_Store__check_alone ?c_Store__check_alone ?k_Store__check_alone ?A_Store_take ?i_Store_take ?l_Store_take ?c_Store_take ?k_Store_take ?A_Store_hold ?i_Store_hold ?l_Store_hold ?c_Store_hold ?k_Store_hold ?A_Store_release ?i_Store_release ?l_Store_release ?c_Store_release ?k_Store_release ?A_Store_put_row ?i_Store_put_row ?l_Store_put_row ?c_Store_put_row ?k_Store_put_row ?A_Store_shorten ?i_Store_shorten ?l_Store_shorten ?c_Store_shorten ?k_Store_shorten ?A_Store_rows ?i_Store_rows ?l_Store_rows ?c_Store_rows ?k_Store_rows ?A_Store_holders ?i_Store_holders ?l_Store_holders ?c_Store_holders ?k_Store_holders ?A__law_kinds ?l__law_kinds ?c__law_kinds ?k__law_kinds ?A__law_odd ?l__law_odd ?c__law_odd ?k__law_odd ?A__law_vector ?l__law_vector ?c__law_vector ?k__law_vector ?A__law_net ?l__law_net ?c__law_net ?k__law_net ?A__law_dot ?l__law_dot ?c__law_dot ?k__law_dot ?A__law_times ?l__law_times ?c__law_times ?k__law_times ?A__law_row ?l__law_row ?c__law_row ?k__law_row ?A__law_some_rows ?l__law_some_rows ?c__law_some_rows ?k__law_some_rows ?A__law_is_integer ?l__law_is_integer ?c__law_is_integer ?k__law_is_integer ?A__law_lowest ?l__law_lowest ?c__law_lowest ?k__law_lowest ?A__law_take ?l__law_take ?c__law_take ?k__law_take ?A__law_release ?l__law_release ?c__law_release ?k__law_release ?A__law_call ?l__law_call ?c__law_call ?k__law_call ?A__law_ask ?l__law_ask ?c__law_ask ?k__law_ask ?A__law_due ?l__law_due ?c__law_due ?k__law_due ?A__law_free ?l__law_free ?c__law_free ?k__law_free ?A__law_stands ?l__law_stands ?c__law_stands ?k__law_stands ?A_law ?l_law ?c_law ?k_law ?z_ValueError ?z_abs ?z_bool ?z_int ?z_isinstance ?z_len ?z_min ?z_range ?z_repr ?z_str ?z_tuple
    (case AC_Store => k_is); (case pg_Store => k_is); (case hd_Store => k_is); (case po_Store => k_is); (case sa_Store => k_is); (case mk_Store => k_is); (case kc_Store => k_is); (case na_Store__held => k_is); (case na_Store__kept => k_is); (case na_Store_many => k_is); (case na_Store_size => k_is); (case AC_InvalidLetter => k_is); (case AC_InvalidNumber => k_is); (case xL_InvalidNumber => k_is); (case rvE_InvalidNumber => decide +kernel); (case sa_InvalidNumber => k_is); (case ga_InvalidNumber => k_is); (case gg_InvalidNumber => k_is); (case nb_InvalidNumber => k_is); (case a1_InvalidNumber => k_is); (case t1_InvalidNumber => k_is); (case l1_InvalidNumber => k_is); (case c1_InvalidNumber => k_is); (case kC_InvalidNumber => k_is); (case eC_InvalidNumber => k_is); (case tC_InvalidNumber => k_is); (case hC_InvalidNumber => k_is); (case iC_InvalidNumber => k_is); (case ca_InvalidNumber => k_is); (case mo_InvalidNumber => k_is); (case AC_NoHouse => k_is); (case AC_NoRequest => k_is); (case AC_NoRoom => k_is); (case xL_NoRoom => k_is); (case rvE_NoRoom => decide +kernel); (case sa_NoRoom => k_is); (case ga_NoRoom => k_is); (case gg_NoRoom => k_is); (case nb_NoRoom => k_is); (case a1_NoRoom => k_is); (case t1_NoRoom => k_is); (case l1_NoRoom => k_is); (case c1_NoRoom => k_is); (case kC_NoRoom => k_is); (case eC_NoRoom => k_is); (case tC_NoRoom => k_is); (case hC_NoRoom => k_is); (case iC_NoRoom => k_is); (case ca_NoRoom => k_is); (case mo_NoRoom => k_is); (case AC_NotAlone => k_is); (case xL_NotAlone => k_is); (case rvE_NotAlone => decide +kernel); (case sa_NotAlone => k_is); (case ga_NotAlone => k_is); (case gg_NotAlone => k_is); (case nb_NotAlone => k_is); (case a1_NotAlone => k_is); (case t1_NotAlone => k_is); (case l1_NotAlone => k_is); (case c1_NotAlone => k_is); (case kC_NotAlone => k_is); (case eC_NotAlone => k_is); (case tC_NotAlone => k_is); (case hC_NotAlone => k_is); (case iC_NotAlone => k_is); (case ca_NotAlone => k_is); (case mo_NotAlone => k_is); (case AC_NotHeld => k_is); (case xL_NotHeld => k_is); (case rvE_NotHeld => decide +kernel); (case sa_NotHeld => k_is); (case ga_NotHeld => k_is); (case gg_NotHeld => k_is); (case nb_NotHeld => k_is); (case a1_NotHeld => k_is); (case t1_NotHeld => k_is); (case l1_NotHeld => k_is); (case c1_NotHeld => k_is); (case kC_NotHeld => k_is); (case eC_NotHeld => k_is); (case tC_NotHeld => k_is); (case hC_NotHeld => k_is); (case iC_NotHeld => k_is); (case ca_NotHeld => k_is); (case mo_NotHeld => k_is); (case AC_ServeError => k_is); (case AC_TooLarge => k_is); (case cgE => k_is); (case tkE => k_is); (case eS => k_is); (case hS => k_is); (case tS => k_is); (case sS_InvalidNumber => k_is); (case kvE_InvalidNumber => (first | kit_is | k_is)); (case koE_InvalidNumber_InvalidLetter => (first | kit_is | k_is)); (case koE_InvalidNumber_NoHouse => (first | kit_is | k_is)); (case koE_InvalidNumber_NoRequest => (first | kit_is | k_is)); (case koE_InvalidNumber_NoRoom => (first | kit_is | k_is)); (case koE_InvalidNumber_NotAlone => (first | kit_is | k_is)); (case koE_InvalidNumber_NotHeld => (first | kit_is | k_is)); (case koE_InvalidNumber_ServeError => (first | kit_is | k_is)); (case koE_InvalidNumber_TooLarge => (first | kit_is | k_is)); (case sS_NoRoom => k_is); (case kvE_NoRoom => (first | kit_is | k_is)); (case koE_NoRoom_InvalidLetter => (first | kit_is | k_is)); (case koE_NoRoom_InvalidNumber => (first | kit_is | k_is)); (case koE_NoRoom_NoHouse => (first | kit_is | k_is)); (case koE_NoRoom_NoRequest => (first | kit_is | k_is)); (case koE_NoRoom_NotAlone => (first | kit_is | k_is)); (case koE_NoRoom_NotHeld => (first | kit_is | k_is)); (case koE_NoRoom_ServeError => (first | kit_is | k_is)); (case koE_NoRoom_TooLarge => (first | kit_is | k_is)); (case sS_NotAlone => k_is); (case kvE_NotAlone => (first | kit_is | k_is)); (case koE_NotAlone_InvalidLetter => (first | kit_is | k_is)); (case koE_NotAlone_InvalidNumber => (first | kit_is | k_is)); (case koE_NotAlone_NoHouse => (first | kit_is | k_is)); (case koE_NotAlone_NoRequest => (first | kit_is | k_is)); (case koE_NotAlone_NoRoom => (first | kit_is | k_is)); (case koE_NotAlone_NotHeld => (first | kit_is | k_is)); (case koE_NotAlone_ServeError => (first | kit_is | k_is)); (case koE_NotAlone_TooLarge => (first | kit_is | k_is)); (case sS_NotHeld => k_is); (case kvE_NotHeld => (first | kit_is | k_is)); (case koE_NotHeld_InvalidLetter => (first | kit_is | k_is)); (case koE_NotHeld_InvalidNumber => (first | kit_is | k_is)); (case koE_NotHeld_NoHouse => (first | kit_is | k_is)); (case koE_NotHeld_NoRequest => (first | kit_is | k_is)); (case koE_NotHeld_NoRoom => (first | kit_is | k_is)); (case koE_NotHeld_NotAlone => (first | kit_is | k_is)); (case koE_NotHeld_ServeError => (first | kit_is | k_is)); (case koE_NotHeld_TooLarge => (first | kit_is | k_is)); (case A_is_integer => k_is); (case l_is_integer => k_is); (case c_is_integer => k_is); (case k_is_integer => k_is); (case A_is_from => k_is); (case l_is_from => k_is); (case c_is_from => k_is); (case k_is_from => k_is); (case A_vectors => k_is); (case l_vectors => k_is); (case c_vectors => k_is); (case k_vectors => k_is); (case A_fixed_row => k_is); (case l_fixed_row => k_is); (case c_fixed_row => k_is); (case k_fixed_row => k_is); (case A__law_numbers => k_is); (case l__law_numbers => k_is); (case c__law_numbers => k_is); (case k__law_numbers => k_is); (case A__law_same => k_is); (case l__law_same => k_is); (case c__law_same => k_is); (case k__law_same => k_is); (case A_Store___init__ => k_is); (case i_Store___init__ => k_is); (case l_Store___init__ => k_is); (case c_Store___init__ => k_is); (case k_Store___init__ => k_is); (case A_Store_free => k_is); (case sp_Store_free => k_is); (case tk_Store_free => k_is); (case rc_Store_free => k_is); (case l_Store_free => k_is); (case c_Store_free => k_is); (case k_Store_free => k_is); (case A_Store__check_block => k_is); (case i_Store__check_block => k_is); (case l_Store__check_block => k_is); (case c_Store__check_block => k_is); (case k_Store__check_block => k_is); (case A_Store__check_held => k_is); (case i_Store__check_held => k_is); (case l_Store__check_held => k_is); (case c_Store__check_held => k_is); (case k_Store__check_held => k_is); (case A_Store__check_alone => k_is); (case i_Store__check_alone => k_is); (case l_Store__check_alone => k_is); (case c_Store__check_alone => k_is); (case k_Store__check_alone => k_is); (case A_Store_take => k_is); (case i_Store_take => k_is); (case l_Store_take => k_is); (case c_Store_take => k_is); (case k_Store_take => k_is); (case A_Store_hold => k_is); (case i_Store_hold => k_is); (case l_Store_hold => k_is); (case c_Store_hold => k_is); (case k_Store_hold => k_is); (case A_Store_release => k_is); (case i_Store_release => k_is); (case l_Store_release => k_is); (case c_Store_release => k_is); (case k_Store_release => k_is); (case A_Store_put_row => k_is); (case i_Store_put_row => k_is); (case l_Store_put_row => k_is); (case c_Store_put_row => k_is); (case k_Store_put_row => k_is); (case A_Store_shorten => k_is); (case i_Store_shorten => k_is); (case l_Store_shorten => k_is); (case c_Store_shorten => k_is); (case k_Store_shorten => k_is); (case A_Store_rows => k_is); (case i_Store_rows => k_is); (case l_Store_rows => k_is); (case c_Store_rows => k_is); (case k_Store_rows => k_is); (case A_Store_holders => k_is); (case i_Store_holders => k_is); (case l_Store_holders => k_is); (case c_Store_holders => k_is); (case k_Store_holders => k_is); (case A__law_kinds => k_is); (case l__law_kinds => k_is); (case c__law_kinds => k_is); (case k__law_kinds => k_is); (case A__law_odd => k_is); (case l__law_odd => k_is); (case c__law_odd => k_is); (case k__law_odd => k_is); (case A__law_vector => k_is); (case l__law_vector => k_is); (case c__law_vector => k_is); (case k__law_vector => k_is); (case A__law_net => k_is); (case l__law_net => k_is); (case c__law_net => k_is); (case k__law_net => k_is); (case A__law_dot => k_is); (case l__law_dot => k_is); (case c__law_dot => k_is); (case k__law_dot => k_is); (case A__law_times => k_is); (case l__law_times => k_is); (case c__law_times => k_is); (case k__law_times => k_is); (case A__law_row => k_is); (case l__law_row => k_is); (case c__law_row => k_is); (case k__law_row => k_is); (case A__law_some_rows => k_is); (case l__law_some_rows => k_is); (case c__law_some_rows => k_is); (case k__law_some_rows => k_is); (case A__law_is_integer => k_is); (case l__law_is_integer => k_is); (case c__law_is_integer => k_is); (case k__law_is_integer => k_is); (case A__law_lowest => k_is); (case l__law_lowest => k_is); (case c__law_lowest => k_is); (case k__law_lowest => k_is); (case A__law_take => k_is); (case l__law_take => k_is); (case c__law_take => k_is); (case k__law_take => k_is); (case A__law_release => k_is); (case l__law_release => k_is); (case c__law_release => k_is); (case k__law_release => k_is); (case A__law_call => k_is); (case l__law_call => k_is); (case c__law_call => k_is); (case k__law_call => k_is); (case A__law_ask => k_is); (case l__law_ask => k_is); (case c__law_ask => k_is); (case k__law_ask => k_is); (case A__law_due => k_is); (case l__law_due => k_is); (case c__law_due => k_is); (case k__law_due => k_is); (case A__law_free => k_is); (case l__law_free => k_is); (case c__law_free => k_is); (case k__law_free => k_is); (case A__law_stands => k_is); (case l__law_stands => k_is); (case c__law_stands => k_is); (case k__law_stands => k_is); (case A_law => k_is); (case l_law => k_is); (case c_law => k_is); (case k_law => k_is); (case z_ValueError => k_is); (case z_abs => k_is); (case z_bool => k_is); (case z_int => k_is); (case z_isinstance => k_is); (case z_len => k_is); (case z_min => k_is); (case z_range => k_is); (case z_repr => k_is); (case z_str => k_is); (case z_tuple => k_is)
