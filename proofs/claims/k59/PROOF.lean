import PyProof.Rows.All
import Wide.All
import OpenK.AllK
import Wide.FinOn
import PySem.Challenge.RW_ownpartners_k59_told_products_by_their_v
import HandS.ForExc
import HandS.IsInst
import HandS.TryMany
import HandS.ExcField
import HandS.Comp
import HandS.Iter
import HandS.Style
import HandS.Lambda
import HandS.Dict
import HandS.Text
import HandS.More
import HandS.TupAny
import HandS.TupMul
import HandS.Wide
import PyProof.ReprRoads
import HandS.ExcIs
import HandS.EndTab
import HandS.Zip
import HandS.SortInts
import HandS.Deep
import KE.DataFind
import HandS.Sort
import HandS.Conv
import PyProof.GenQ
import PyProof.GenCompD
import PyProof.CodeObjX
import PyProof.ConsumeS
import PyProof.SumAny
import HandS.GenList
import KE.GoesEnum
import HandS.Star
import KE.KNestM
set_option Elab.async false
set_option linter.all false
section
set_option maxRecDepth 100000
set_option maxHeartbeats 1000000
set_option autoImplicit false
/-! tuples whose objects are known: nothing but a tuple, no dict -/
namespace MrT
open PySem PySem.Spec L2
open PyProof.Rows hiding St
/-- a tuple at a, its object known -/
def TupF (H : Hp) (a : Addr) (xs : List V) : Prop := ∃ o, H a = some (.frz o (.tup xs)) ∧ o.dict = none
theorem TupF.sq {K : PySem.W.Frag} {H : Hp} {a : Addr} {xs : List V} (h : TupF H a xs) : SqT K H a xs := by
  obtain ⟨o, e, _⟩ := h
  exact .inl (.inr ⟨o, e⟩)
theorem TupF.new {H : Hp} {a : Addr} {xs : List V} {o : Obj} (h : o.dict = none) : TupF (upd H a (.frz o (.tup xs))) a xs := ⟨o, upd_same, h⟩
/-- the new tuple's object -/
abbrev tupO (its : List Value) : Obj := { cls := .type "tuple", data := .seq its.toArray }
/-- the wish of a new tuple -/
def NewT (Q : VK) (H : Hp) (xs : List V) : Prop := ∀ (p : Addr) (o : Obj), H p = none → o.dict = none → Q (.ref p) (upd H p (.frz o (.tup xs)))
section
variable {X : Cx} {pins : List (Addr × Obj)} {σ : St} {H : Hp} {s : Shared}
theorem laid_tup {Q : VK} {xs : List V} {its : List Value} {h' : Heap} {t : Nat} (I : Inv X pins σ H s) (kp : ∀ b o, s.heap.get? b = some o → h'.get? b = some o) (r : Vals xs its) (hz : xs.length ≤ sizeLine) (q : NewT Q H xs) (hs : s.heap.objs.size ≤ h'.objs.size) :
    EP X pins σ Q (.ref h'.objs.size) { s with heap := h'.push (tupO its), toks := t } := by
  have hf : H h'.objs.size = none := I.hok.fresh hs
  refine ⟨.ref h'.objs.size, upd H h'.objs.size (.frz (tupO its) (.tup xs)), I.laid (t' := t) (fun b u e => Heap.get?_push_of_some _ (kp b u e)) hs ?_, rfl, q _ _ hf rfl⟩
  exact ⟨Heap.get?_push_size _ rfl, hz, its, r, ⟨_, Heap.get?_push_size _ rfl, rfl, _, rfl⟩⟩
end
section
variable {X : Cx} {es : List Expr} {t : TA} {pos : Pos}
def tTupF (t : TA) : TE := fun σ H Q => t σ H fun xs H1 => xs.length ≤ sizeLine ∧ NewT Q H1 xs
theorem pe_tupF {x1} (h : PA X es t) : PE X (.Tuple es x1 pos) (tTupF t) := by
  refine ⟨fun pins s σ H Q I hq => ?_⟩
  refine wpAny_Tuple_spliced (thn (h.run pos pins s σ H _ I hq) fun us s1 ⟨xs, H1, I1, r, z, q⟩ => ⟨by rw [← r.length]; exact z, ?_⟩)
  exact laid_tup (t := s1.toks) I1 (fun _ _ e => e) r z q (Nat.le_refl _)
theorem call_tuple_ofF : CallR X (.type "tuple") (fun xs H Q => ∃ p ys, xs = [.ref p] ∧ ((SqL X.K H p ys ∧ NewT Q H ys) ∨ (SqT X.K H p ys ∧ Q (.ref p) H))) := by
  intro pins s σ H xs us Q I r h
  obtain ⟨p, ys, rfl, h⟩ := h
  obtain ⟨u, rfl, rx⟩ := vals1 r
  cases rx
  rcases h with ⟨hq, q⟩ | ⟨hq, q⟩
  · obtain ⟨its, r', pl, hz⟩ := I.list hq
    have hlen := r'.length
    refine call_tuple_list pl.isList (fun h' kp => ?_) (by simp only [List.size_toArray] <;> omega)
    have I1 : Inv X pins σ H { s with heap := h' } := I.kept (t' := s.toks) kp
    exact laid_tup (s := { s with heap := h' }) (h' := h') (t := s.toks) I1 (fun _ _ e => e) r' hz q (Nat.le_refl _)
  · obtain ⟨its, r', pl, hz⟩ := I.tuple hq
    exact call_tuple_same pl ⟨.ref p, H, I, rfl, q⟩
def rSlF (K : PySem.W.Frag) : V → Option Int → Option Int → Hp → VK → Prop := fun x lo hi H Q => ∃ a xs, x = .ref a ∧ SqT K H a xs ∧
  (HT.sIx xs.length 0 lo = 0 ∧ HT.sIx xs.length xs.length hi = xs.length → Q (.ref a) H) ∧ (¬ (HT.sIx xs.length 0 lo = 0 ∧ HT.sIx xs.length xs.length hi = xs.length) → NewT Q H (cutV xs lo hi))
theorem sl_tupF : SlR X (rSlF X.K) := by
  intro pins s σ H x v vl vu lo hi sl Q I rx hs pl pu h
  obtain ⟨a, xs, rfl, hx, q1, q2⟩ := h
  cases rx
  obtain ⟨its, r, ht, hz⟩ := I.tuple hx
  have hlen : its.toArray.size = xs.length := by rw [List.size_toArray]; exact r.length.symm
  refine ⟨"tuple", _, PyProof.Rows.slot_tuple_getitem.lookup, ht.typeIs, ?_⟩
  by_cases hw : HT.sIx xs.length 0 lo = 0 ∧ HT.sIx xs.length xs.length hi = xs.length
  · exact getItem_tuple_whole ht hs pl pu (by rw [hlen]; exact hw) ⟨.ref a, H, I, rfl, q1 hw⟩
  · refine HT.getItem_tuple_cut ht hs pl pu (by rw [hlen]; exact hw) ?_ (by rw [hlen]; exact hz)
    rw [hlen]
    exact laid_tup (its := (its.drop (HT.sIx xs.length 0 lo)).take (HT.sIx xs.length xs.length hi - HT.sIx xs.length 0 lo)) (t := s.toks) I (fun _ _ e => e) ((r.drop (HT.sIx xs.length 0 lo)).take (HT.sIx xs.length xs.length hi - HT.sIx xs.length 0 lo)) (Nat.le_trans (cutV_length xs lo hi) hz) (q2 hw) (Nat.le_refl _)
def rCatF (K : PySem.W.Frag) : R2 := fun x y H Q => ∃ a b xs ys, x = .ref a ∧ y = .ref b ∧ SqT K H a xs ∧ SqT K H b ys ∧ xs.length + ys.length ≤ sizeLine ∧
  (xs = [] → Q (.ref b) H) ∧ (xs ≠ [] → ys = [] → Q (.ref a) H) ∧ (xs ≠ [] → ys ≠ [] → NewT Q H (xs ++ ys))
theorem op_catF : OpR X (binaryOp .Add) (rCatF X.K) := by
  intro pins s σ H x y v u Q I rx ry h
  obtain ⟨a, b, xs, ys, rfl, rfl, ha, hb, hz, q0, q1, q2⟩ := h
  cases rx
  cases ry
  obtain ⟨its, r1, p1, _⟩ := I.tuple ha
  obtain ⟨its2, r2, p2, _⟩ := I.tuple hb
  by_cases hx : xs = []
  · subst hx
    cases r1
    exact cat_tup0 p1 p2 ⟨.ref b, H, I, rfl, q0 rfl⟩
  · refine HT.cat_tup p1 p2 (fun z => hx (r1.nil_iff.mp z)) (fun z => ⟨.ref a, H, I, rfl, q1 hx (r2.nil_iff.mp z)⟩) (fun z => ?_) (by rw [← r1.length, ← r2.length]; exact hz)
    exact laid_tup (its := its ++ its2) (t := s.toks) I (fun _ _ e => e) (r1.append r2) (by rw [List.length_append]; exact hz) (q2 hx fun w => z (r2.nil_iff.mpr w)) (Nat.le_refl _)
def rRepF (K : PySem.W.Frag) : R2 := fun x y H Q => ∃ l k xs, x = .ref l ∧ y = .int k ∧ SqT K H l xs ∧ xs ≠ [] ∧ 2 ≤ k ∧ k ≤ 1000 ∧ xs.length ≤ 1000 ∧ NewT Q H (List.replicate k.toNat xs).flatten
theorem op_repF : OpR X (binaryOp .Mult) (rRepF X.K) := by
  intro pins s σ H x y v u Q I rx ry h
  obtain ⟨l, k, xs, rfl, rfl, hT, hne, h1, h2, hz, q⟩ := h
  cases rx
  obtain ⟨t, rfl⟩ := ry
  obtain ⟨its, r, ⟨⟨cls, dd, data, sl⟩, ho, hc, n, hd⟩, hs⟩ := I.tuple hT
  simp only at hc hd
  subst hc hd
  have hle : its.length = xs.length := r.length.symm
  have hn : its ≠ [] := fun e => hne (by
    rw [e] at hle
    exact List.eq_nil_of_length_eq_zero hle.symm)
  have hi : its.toArray.isEmpty = false := by
    cases its with
    | nil => exact absurd rfl hn
    | cons a b => rfl
  have hsz0 : its.toArray.size = xs.length := by rw [List.size_toArray, hle]
  have hm : ((its.toArray.size : Nat) : Int) * k ≤ 1000000 := by
    rw [hsz0]
    have a1 : ((xs.length : Nat) : Int) * k ≤ 1000 * k := Int.mul_le_mul_of_nonneg_right (by omega) (by omega)
    omega
  have flen : (List.replicate k.toNat its).flatten.length ≤ sizeLine := by
    rw [PyProof.Rows.lm_len_rep_flat, hle, sizeLine_eq]
    have a1 : k.toNat * xs.length ≤ 1000 * 1000 := Nat.mul_le_mul (by omega) hz
    omega
  have c0 : (decide (k < -(2 ^ 63)) || decide (k ≥ 2 ^ 63)) = false := by
    rw [decide_eq_false (by omega), decide_eq_false (by omega)] <;> rfl
  have c1 : (its.toArray.isEmpty || k == 1) = false := by
    rw [hi, Bool.false_or]
    exact beq_eq_false_iff_ne.mpr (by omega)
  have c2 : (decide (k ≤ 0) || its.toArray.isEmpty) = false := by
    rw [hi, Bool.or_false]
    exact decide_eq_false (by omega)
  have c4 : Builtin.Tuple.tupleTooMany (((its.toArray.size : Nat) : Int) * k) = false := by
    unfold Builtin.Tuple.tupleTooMany
    rw [sizeLine_eq]
    exact decide_eq_false (by omega)
  refine wpAny_binaryOp_repeat_ref (T := "tuple") (U := "int") (by decide) ⟨_, ho, rfl⟩ (fun s' => typeIs_int s' k t) noFill_tuple_mul PySem.F.fills_int_mul PySem.F.slot_int_rmul repeat_tuple PySem.F.slot_int_index.lookup
    (call_meets PySem.F.slot_int_rmul (typeIs_int s k t) PySem.F.entry_int_rmul (PySem.F.args_int_rmul_2 _ _) (int_rmul_tuple k t l its.toArray n dd sl)
      ⟨ho, rfl, ⟨_, ho, rfl⟩, call_meets PySem.F.slot_tuple_mul ⟨_, ho, rfl⟩ PySem.F.entry_tuple_mul (PySem.F.args_tuple_mul_2 _ _) (tuple_mulW l its.toArray n dd sl k t c0 c1 c2 (by omega) c4 (by rw [size_rep, List.size_toArray]; exact flen)) ⟨ho, ?_⟩⟩)
  rw [size_rep]
  exact laid_tup (its := (List.replicate k.toNat its).flatten) (t := s.toks) I (fun _ _ e => e) (r.rep k.toNat) (by rw [PyProof.Rows.lm_len_rep_flat, sizeLine_eq]; have a1 : k.toNat * xs.length ≤ 1000 * 1000 := Nat.mul_le_mul (by omega) hz; omega) q (Nat.le_refl _)
/-! ### methods of tuples -/
/-- the value is a tuple, nothing else -/
def isTy (K : PySem.W.Frag) (x : V) (H : Hp) : Prop := ∃ p, x = .ref p ∧ ((∃ xs, TupF H p xs) ∨ ∃ o, K.lookup p = some o ∧ o.cls = .type "tuple" ∧ o.dict = none)
theorem isTy_is {pins : List (Addr × Obj)} {σ : St} {H : Hp} {s : Shared} {x : V} {v : Value} (I : Inv X pins σ H s) (r : RelV x v) (ty : isTy X.K x H) : s.TypeIs v "tuple" ∧ ∀ a, v = .ref a → ∃ ob, s.heap.get? a = some ob ∧ ob.dict = none := by
  obtain ⟨p, rfl, ty⟩ := ty
  cases r
  rcases ty with ⟨xs, o, e, hd⟩ | ⟨o, e, hc, hd⟩
  · obtain ⟨e1, _, its, _, o', e2, hc, _⟩ := I.hok _ _ e
    rw [e1] at e2
    cases e2
    exact ⟨⟨o, e1, hc⟩, fun a z => by cases z; exact ⟨o, e1, hd⟩⟩
  · have e1 := I.kIn _ _ e
    exact ⟨⟨o, e1, hc⟩, fun a z => by cases z; exact ⟨o, e1, hd⟩⟩
/-- o.name(..), o a list or a tuple -/
def tSqM (K : PySem.W.Frag) (rl rt : V → List V → Hp → VK → Prop) (to : TE) (t : TA) : TE := fun σ H Q => to σ H fun x H1 => (tyV K "list" x H1 ∧ t σ H1 fun xs H2 => rl x xs H2 Q) ∨ (isTy K x H1 ∧ t σ H1 fun xs H2 => rt x xs H2 Q)
theorem pe_sqm {o e : Expr} {to : TE} {name : Str} {apos cpos : Pos} {idl idt : String} {rl rt : V → List V → Hp → VK → Prop} (sl : Slot "list" name idl) (tl : typeOf (.builtin idl) = pure (.type "method_descriptor")) (ml : MtR X idl rl)
    (st : Slot "tuple" name idt) (tt : typeOf (.builtin idt) = pure (.type "method_descriptor")) (mt : MtR X idt rt) (ho : PE X o to) (ha : PA X (e :: es) t)
    (hbase : attributeBase o name X.env (eval o X.env) = eval o X.env := by rfl)
    (hfew : ((backTo cpos (starEach (e :: es) X.env)).all (fun x => !x.1) && (backToKw cpos (keywordEach [] X.env)).all (fun x => x.1.isSome)
      && decide ((e :: es).length + ([] : List Keyword).length + (if ([] : List Keyword).isEmpty then 0 else 1) < 30)) = true := by rfl)
    (hline : (apos.endLine == cpos.line) = true := by rfl) (hs : starEach (e :: es) X.env = (false, eval e X.env) :: starEach es X.env := by rfl) (hplain : (backTo cpos (starEach es X.env)).any (·.1) = false := by rfl) :
    PE X (.Call (.Attribute o name apos) (e :: es) [] cpos) (tSqM X.K rl rt to t) := by
  refine ⟨fun pins s σ H Q I h => ?_⟩
  refine wpAny_Call_method_late hbase hfew hline rfl (thn (ho.run pins s σ H _ I h) fun v s1 ⟨x, H1, I1, r1, q1⟩ => ?_)
  rcases q1 with ⟨ty, q1⟩ | ⟨ty, q1⟩
  · obtain ⟨h1, h2⟩ := tyV_is I1 r1 ty
    refine ⟨"list", idl, PySem.F.plainAttrs_list, sl, tl, h1, h2, ?_⟩
    have hA := ha.run cpos pins s1 σ H1 _ I1 q1
    rw [hs] at hA ⊢
    refine Calls.callWith_builtin (by show (false || (backTo cpos (starEach es X.env)).any (·.1)) = false; rw [hplain] <;> rfl) (Calls.evalArgs_plain ?_)
    exact thn hA fun us s2 ⟨vs, H2, I2, r2, q2⟩ => ml pins s2 σ H2 x vs v us Q I2 r1 r2 q2
  · obtain ⟨h1, h2⟩ := isTy_is I1 r1 ty
    refine ⟨"tuple", idt, PySem.F.plainAttrs_tuple, st, tt, h1, h2, ?_⟩
    have hA := ha.run cpos pins s1 σ H1 _ I1 q1
    rw [hs] at hA ⊢
    refine Calls.callWith_builtin (by show (false || (backTo cpos (starEach es X.env)).any (·.1)) = false; rw [hplain] <;> rfl) (Calls.evalArgs_plain ?_)
    exact thn hA fun us s2 ⟨vs, H2, I2, r2, q2⟩ => mt pins s2 σ H2 x vs v us Q I2 r1 r2 q2
end
end MrT

end
section
set_option maxRecDepth 100000
namespace Mr
open PySem PySem.Spec L2 MrT
open PyProof.Rows hiding St
set_option autoImplicit false

/-! ### values of the mirror -/
inductive M where
  | d (x : PyData) | loc (n : Nat) | ro (xs : List PyData) | pr (xs : List PyData) | fn (a : Addr) | ty (n : String) | kdc (a : Addr) (ks : List (Str × PyData)) | exn (c : Nat) (x : Option (Str × PyData))
inductive O where
  | lst (xs : List M) | dct (kvs : List (Key × M))
abbrev Sto := List O
abbrev Env1 := List (Option M)
inductive R (α : Type) where
  | ok (a : α) (S : Sto) | rz (c : Nat) (x : Option (Str × PyData)) (S : Sto) | bad
inductive Out where
  | nx (e : Env1) (S : Sto) | rt (m : M) (S : Sto) | bk (e : Env1) (S : Sto) | ct (e : Env1) (S : Sto) | rz (c : Nat) (x : Option (Str × PyData)) (e : Env1) (S : Sto) | bad

/-- a key as data -/
def keyD : Key → PyData
  | .inl i => .int i
  | .inr x => .str x

mutual
/-- v is the data d; what is tracked of it stands outside of B -/
inductive Dr (K : PySem.W.Frag) (B : List Addr) (H : Hp) : V → PyData → Prop
  | non : Dr K B H .non .none
  | bl (b : Bool) : Dr K B H (.bl b) (.bool b)
  | int (i : Int) : Dr K B H (.int i) (.int i)
  | str (x : Str) : Dr K B H (.str x) (.str x)
  | lst {a : Addr} {xs : List V} {ds : List PyData} : H a = some (.lst xs) → a ∉ B → DrAll K B H xs ds → Dr K B H (.ref a) (.list ds)
  | tup {a : Addr} {xs : List V} {ds : List PyData} : TupF H a xs → a ∉ B → DrAll K B H xs ds → Dr K B H (.ref a) (.tuple ds)
  | tupK {a : Addr} {o : Obj} {its : Array Value} {n : Nat} {xs : List V} {ds : List PyData} : K.lookup a = some o → o.cls = .type "tuple" → o.dict = none → o.data = .seq its n → its.size ≤ sizeLine → Vals xs its.toList → DrAll K B H xs ds → Dr K B H (.ref a) (.tuple ds)
  | dct {a : Addr} {ks : List Key} {vs : List V} {ds : List PyData} : H a = some (.dK (ks.zip vs)) → a ∉ B → ks.length = vs.length → DrAll K B H vs ds → Dr K B H (.ref a) (.dict ((ks.map keyD).zip ds))
inductive DrAll (K : PySem.W.Frag) (B : List Addr) (H : Hp) : List V → List PyData → Prop
  | nil : DrAll K B H [] []
  | cons {v : V} {vs : List V} {d : PyData} {ds : List PyData} : Dr K B H v d → DrAll K B H vs ds → DrAll K B H (v :: vs) (d :: ds)
end

/-- what stays -/
structure Ext (r : List Addr) (H : Hp) (r' : List Addr) (H' : Hp) : Prop where
  keep : ∀ a o, H a = some o → a ∉ r → (∀ ps, o ≠ .tbl ps) → H' a = some o
  stay : ∀ a o, H a = some o → (∀ ps, o ≠ .tbl ps) → ∃ o', H' a = some o' ∧ ∀ ps, o' ≠ .tbl ps
  pre : ∃ l, r' = r ++ l ∧ ∀ a ∈ l, ∀ o, H a = some o → ∃ ps, o = .tbl ps

theorem Ext.refl (r : List Addr) (H : Hp) : Ext r H r H := ⟨fun _ _ h _ _ => h, fun _ o h t => ⟨o, h, t⟩, [], by simp, by simp⟩
theorem Ext.trans {r r1 r2 : List Addr} {H H1 H2 : Hp} (h : Ext r H r1 H1) (h2 : Ext r1 H1 r2 H2) : Ext r H r2 H2 := by
  obtain ⟨l, rfl, hl⟩ := h.pre
  obtain ⟨l2, rfl, hl2⟩ := h2.pre
  refine ⟨fun a o e n t => ?_, fun a o e t => ?_, l ++ l2, by rw [List.append_assoc], fun a ha o e => ?_⟩
  · refine h2.keep a o (h.keep a o e n t) (fun z => ?_) t
    rcases List.mem_append.mp z with z | z
    · exact n z
    · obtain ⟨ps, z⟩ := hl a z o e
      exact t ps z
  · obtain ⟨o1, e1, t1⟩ := h.stay a o e t
    exact h2.stay a o1 e1 t1
  · rcases List.mem_append.mp ha with z | z
    · exact hl a z o e
    · by_cases t : ∀ ps, o ≠ .tbl ps
      · obtain ⟨o1, e1, t1⟩ := h.stay a o e t
        obtain ⟨ps, z2⟩ := hl2 a z o1 e1
        exact absurd z2 (t1 ps)
      · exact Classical.byContradiction fun w => t fun ps z => w ⟨ps, z⟩
/-- a new object, not owned -/
theorem Ext.new {r : List Addr} {H : Hp} {p : Addr} {o : HO} (hp : H p = none) : Ext r H r (upd H p o) := by
  refine ⟨fun a u e _ _ => ?_, fun a u e t => ?_, [], by simp, by simp⟩
  · rw [upd_ne (ne_of_none e hp)]; exact e
  · exact ⟨u, by rw [upd_ne (ne_of_none e hp)]; exact e, t⟩
/-- a new object, owned -/
theorem Ext.own {r : List Addr} {H : Hp} {p : Addr} {o : HO} (hp : H p = none) : Ext r H (r ++ [p]) (upd H p o) := by
  refine ⟨fun a u e _ _ => ?_, fun a u e t => ?_, [p], rfl, fun a ha u e => ?_⟩
  · rw [upd_ne (ne_of_none e hp)]; exact e
  · exact ⟨u, by rw [upd_ne (ne_of_none e hp)]; exact e, t⟩
  · rw [List.mem_singleton.mp ha, hp] at e; cases e
/-- an owned object is changed -/
theorem Ext.put {r : List Addr} {H : Hp} {p : Addr} {o : HO} (hp : p ∈ r) (ho : ∀ ps, o ≠ .tbl ps := by intro _ z; cases z) : Ext r H r (upd H p o) := by
  refine ⟨fun a u e n _ => ?_, fun a u e t => ?_, [], by simp, by simp⟩
  · rw [upd_ne (show a ≠ p from fun z => n (by rw [z]; exact hp))]; exact e
  · by_cases h : a = p
    · exact ⟨o, by rw [h, upd_same], ho⟩
    · exact ⟨u, by rw [upd_ne h]; exact e, t⟩

theorem Ext.tracked {r r' : List Addr} {H H' : Hp} (x : Ext r H r' H') {ph : List Addr} {a : Addr} {o : HO} (e : H a = some o) (n : a ∉ ph ++ r) (t : ∀ ps, o ≠ .tbl ps) : H' a = some o ∧ a ∉ ph ++ r' := by
  have n1 : a ∉ ph := fun z => n (List.mem_append_left _ z)
  have n2 : a ∉ r := fun z => n (List.mem_append_right _ z)
  refine ⟨x.keep a o e n2 t, fun z => ?_⟩
  obtain ⟨l, rfl, hl⟩ := x.pre
  rcases List.mem_append.mp z with z | z
  · exact n1 z
  · rcases List.mem_append.mp z with z | z
    · exact n2 z
    · obtain ⟨ps, w⟩ := hl a z o e
      exact t ps w

section
variable {K : PySem.W.Frag} {ph r r' : List Addr} {H H' : Hp}
mutual
theorem Dr.mono (x : Ext r H r' H') : ∀ {v : V} {d : PyData}, Dr K (ph ++ r) H v d → Dr K (ph ++ r') H' v d
  | _, _, .non => .non
  | _, _, .bl b => .bl b
  | _, _, .int i => .int i
  | _, _, .str s => .str s
  | _, _, .lst e n h => by
    obtain ⟨e', n'⟩ := x.tracked e n (fun _ z => by cases z)
    exact .lst e' n' (DrAll.mono x h)
  | _, _, .tup ⟨o, e, hd⟩ n h => by
    obtain ⟨e', n'⟩ := x.tracked e n (fun _ z => by cases z)
    exact .tup ⟨o, e', hd⟩ n' (DrAll.mono x h)
  | _, _, .tupK a b c d e f h => .tupK a b c d e f (DrAll.mono x h)
  | _, _, .dct e n l h => by
    obtain ⟨e', n'⟩ := x.tracked e n (fun _ z => by cases z)
    exact .dct e' n' l (DrAll.mono x h)
theorem DrAll.mono (x : Ext r H r' H') : ∀ {vs : List V} {ds : List PyData}, DrAll K (ph ++ r) H vs ds → DrAll K (ph ++ r') H' vs ds
  | _, _, .nil => .nil
  | _, _, .cons h t => .cons (Dr.mono x h) (DrAll.mono x t)
end
mutual
/-- fewer addresses are shut -/
theorem Dr.less {B B' : List Addr} (h : ∀ a, a ∈ B' → a ∈ B) : ∀ {v : V} {d : PyData}, Dr K B H v d → Dr K B' H v d
  | _, _, .non => .non
  | _, _, .bl b => .bl b
  | _, _, .int i => .int i
  | _, _, .str s => .str s
  | _, _, .lst e n t => .lst e (fun z => n (h _ z)) (DrAll.less h t)
  | _, _, .tup e n t => .tup e (fun z => n (h _ z)) (DrAll.less h t)
  | _, _, .tupK a b c d e f t => .tupK a b c d e f (DrAll.less h t)
  | _, _, .dct e n l t => .dct e (fun z => n (h _ z)) l (DrAll.less h t)
theorem DrAll.less {B B' : List Addr} (h : ∀ a, a ∈ B' → a ∈ B) : ∀ {vs : List V} {ds : List PyData}, DrAll K B H vs ds → DrAll K B' H vs ds
  | _, _, .nil => .nil
  | _, _, .cons a t => .cons (Dr.less h a) (DrAll.less h t)
end
mutual
/-- more addresses are shut, that were free -/
theorem Dr.more {B B' : List Addr} (h : ∀ a, a ∈ B' → a ∈ B ∨ H a = none) : ∀ {v : V} {d : PyData}, Dr K B H v d → Dr K B' H v d
  | _, _, .non => .non
  | _, _, .bl b => .bl b
  | _, _, .int i => .int i
  | _, _, .str s => .str s
  | _, _, .lst e n t => .lst e (fun z => (h _ z).elim n fun q => by rw [e] at q; cases q) (DrAll.more h t)
  | _, _, .tup ⟨o, e, hd⟩ n t => .tup ⟨o, e, hd⟩ (fun z => (h _ z).elim n fun q => by rw [e] at q; cases q) (DrAll.more h t)
  | _, _, .tupK a b c d e f t => .tupK a b c d e f (DrAll.more h t)
  | _, _, .dct e n l t => .dct e (fun z => (h _ z).elim n fun q => by rw [e] at q; cases q) l (DrAll.more h t)
theorem DrAll.more {B B' : List Addr} (h : ∀ a, a ∈ B' → a ∈ B ∨ H a = none) : ∀ {vs : List V} {ds : List PyData}, DrAll K B H vs ds → DrAll K B' H vs ds
  | _, _, .nil => .nil
  | _, _, .cons a t => .cons (Dr.more h a) (DrAll.more h t)
end
mutual
/-- the heap is changed at a shut address -/
theorem Dr.shut {B : List Addr} {p : Addr} {o : HO} (hp : p ∈ B) : ∀ {v : V} {d : PyData}, Dr K B H v d → Dr K B (upd H p o) v d
  | _, _, .non => .non
  | _, _, .bl b => .bl b
  | _, _, .int i => .int i
  | _, _, .str s => .str s
  | _, _, .lst e n t => .lst (by rw [upd_ne (fun z => n (by rw [z]; exact hp))]; exact e) n (DrAll.shut hp t)
  | _, _, .tup ⟨o, e, hd⟩ n t => .tup ⟨o, by rw [upd_ne (fun z => n (by rw [z]; exact hp))]; exact e, hd⟩ n (DrAll.shut hp t)
  | _, _, .tupK a b c d e f t => .tupK a b c d e f (DrAll.shut hp t)
  | _, _, .dct e n l t => .dct (by rw [upd_ne (fun z => n (by rw [z]; exact hp))]; exact e) n l (DrAll.shut hp t)
theorem DrAll.shut {B : List Addr} {p : Addr} {o : HO} (hp : p ∈ B) : ∀ {vs : List V} {ds : List PyData}, DrAll K B H vs ds → DrAll K B (upd H p o) vs ds
  | _, _, .nil => .nil
  | _, _, .cons a t => .cons (Dr.shut hp a) (DrAll.shut hp t)
end
theorem DrAll.length {B : List Addr} : ∀ {vs : List V} {ds : List PyData}, DrAll K B H vs ds → vs.length = ds.length
  | _, _, .nil => rfl
  | _, _, .cons _ t => by rw [List.length_cons, List.length_cons, DrAll.length t]
theorem DrAll.get {B : List Addr} : ∀ {vs : List V} {ds : List PyData} {i : Nat} {x : PyData}, DrAll K B H vs ds → ds[i]? = some x → ∃ v, vs[i]? = some v ∧ Dr K B H v x
  | _, _, _, _, .nil, e => by simp at e
  | _, _, 0, _, .cons h _, e => by simp at e; subst e; exact ⟨_, rfl, h⟩
  | _, _, i + 1, x, .cons _ t, e => by
    obtain ⟨u, h1, h2⟩ := DrAll.get (i := i) (x := x) t (by simpa using e)
    exact ⟨u, by simpa using h1, h2⟩
theorem DrAll.append {B : List Addr} : ∀ {vs ws : List V} {ds es : List PyData}, DrAll K B H vs ds → DrAll K B H ws es → DrAll K B H (vs ++ ws) (ds ++ es)
  | _, _, _, _, .nil, h => h
  | _, _, _, _, .cons a t, h => .cons a (DrAll.append t h)
theorem DrAll.take {B : List Addr} : ∀ {vs : List V} {ds : List PyData} (n : Nat), DrAll K B H vs ds → DrAll K B H (vs.take n) (ds.take n)
  | _, _, 0, _ => .nil
  | _, _, _ + 1, .nil => .nil
  | _, _, n + 1, .cons a t => .cons a (DrAll.take n t)
theorem DrAll.drop {B : List Addr} : ∀ {vs : List V} {ds : List PyData} (n : Nat), DrAll K B H vs ds → DrAll K B H (vs.drop n) (ds.drop n)
  | _, _, 0, h => h
  | _, _, _ + 1, .nil => .nil
  | _, _, n + 1, .cons _ t => DrAll.drop n t
theorem DrAll.snoc {B : List Addr} {vs : List V} {ds : List PyData} {v : V} {d : PyData} (h : DrAll K B H vs ds) (a : Dr K B H v d) : DrAll K B H (vs ++ [v]) (ds ++ [d]) := h.append (.cons a .nil)
end

/-! ### values, the store, the names -/
/-- classes of errors by their numbers; code objects' tables -/
structure Cfg where
  w : World
  T : List (Addr × Str)
  cl : Nat → Addr
  ex : Option (Addr × Nat × Option Addr) := none
  C : List (Addr × Str) := []
  kp : List (Env1 × L2.St) := []
/-- the tables, and the code objects that are known -/
def Tb (g : Cfg) (H : Hp) : Prop := LamX.Tabs g.T H ∧ ∀ p ∈ g.C, H p.1 = some (LamX.CodeO p.1 p.2)
theorem Tb.ext {g : Cfg} {H H' : Hp} (t : Tb g H) (e : ∀ b o, H b = some o → H' b = some o) : Tb g H' := ⟨t.1.ext e, fun p hp => e _ _ (t.2 p hp)⟩
/-- an error's own dict -/
def Xv (K : PySem.W.Frag) (B : List Addr) (H : Hp) (d : Option Addr) : Option (Str × PyData) → Prop
  | none => True
  | some (f, x) => ∃ dd w, d = some dd ∧ H dd = some (.xd [(f, w)]) ∧ dd ∉ B ∧ Dr K B H w x
theorem Xv.mono {K : PySem.W.Frag} {ph r r' : List Addr} {H H' : Hp} (x : Ext r H r' H') {d : Option Addr} : ∀ {o : Option (Str × PyData)}, Xv K (ph ++ r) H d o → Xv K (ph ++ r') H' d o
  | none, _ => trivial
  | some (f, y), h => by
    obtain ⟨dd, w, e1, e, n, t⟩ := h
    obtain ⟨e', n'⟩ := x.tracked e n (fun _ z => by cases z)
    exact ⟨dd, w, e1, e', n', Dr.mono x t⟩
/-- a list among the written objects -/
def KL (K : PySem.W.Frag) (a : Addr) (vs : List V) : Prop := ∃ (o : Obj) (its : Array Value) (n : Nat), K.lookup a = some o ∧ o.cls = .type "list" ∧ o.dict = none ∧ o.data = .seq its n ∧ its.size ≤ sizeLine ∧ Vals vs its.toList
/-- m is the value v -/
def Mv (K : PySem.W.Frag) (g : Cfg) (ph r : List Addr) (H : Hp) : M → V → Prop
  | .d x, v => Dr K (ph ++ r) H v x
  | .loc n, v => ∃ a, r[n]? = some a ∧ v = .ref a
  | .ro xs, v => ∃ a vs, v = .ref a ∧ ((∃ o, H a = some (.frz o (.lst vs)) ∧ a ∉ ph ++ r) ∨ KL K a vs) ∧ DrAll K (ph ++ r) H vs xs
  | .pr xs, v => ∃ a vs, v = .ref a ∧ (H a = some (.tup vs) ∧ a ∉ ph ++ r) ∧ DrAll K (ph ++ r) H vs xs
  | .fn a, v => v = .ref a
  | .ty n, v => v = .ty n
  | .kdc a ks, v => v = .ref a ∧ ∀ z x, ks.lookup z = some x → ∃ u, KDct K g.w a z u ∧ ∀ B H, Dr K B H u x
  | .exn c x, v => ∃ a d, g.ex = some (a, c, d) ∧ v = .ref a ∧ Xv K (ph ++ r) H d x
def Ov (K : PySem.W.Frag) (g : Cfg) (ph r : List Addr) (H : Hp) : O → HO → Prop
  | .lst xs, .lst vs => Paired (Mv K g ph r H) xs vs
  | .dct kvs, .dK ws => Paired (fun (p : Key × M) (q : Key × V) => p.1 = q.1 ∧ Mv K g ph r H p.2 q.2) kvs ws
  | _, _ => False
def Sl (K : PySem.W.Frag) (g : Cfg) (ph r : List Addr) (H : Hp) : Option M → Option V → Prop
  | some m, some v => Mv K g ph r H m v
  | none, _ => True
  | _, _ => False
abbrev Ev (K : PySem.W.Frag) (g : Cfg) (ph r : List Addr) (H : Hp) : Env1 → St → Prop := Paired (Sl K g ph r H)
structure So (K : PySem.W.Frag) (g : Cfg) (ph r : List Addr) (S : Sto) (H : Hp) : Prop where
  len : r.length = S.length
  nd : r.Nodup
  dis : ∀ a ∈ ph, a ∉ r
  there : ∀ a ∈ ph, ∃ o, H a = some o ∧ ∀ ps, o ≠ .tbl ps
  at_ : ∀ (n : Nat) (o : O), S[n]? = some o → ∃ a u, r[n]? = some a ∧ H a = some u ∧ Ov K g ph r H o u
  tabs : Tb g H
  kp : ∀ p ∈ g.kp, Ev K g ph r H p.1 p.2

section
variable {K : PySem.W.Frag} {g : Cfg} {ph r r' : List Addr} {H H' : Hp}
theorem Mv.mono (x : Ext r H r' H') : ∀ {m : M} {v : V}, Mv K g ph r H m v → Mv K g ph r' H' m v
  | .d _, _, h => Dr.mono x h
  | .loc n, _, h => by
    obtain ⟨a, e, rfl⟩ := h
    obtain ⟨l, rfl, _⟩ := x.pre
    exact ⟨a, by rw [List.getElem?_append_left (by have := List.getElem?_eq_some_iff.mp e; exact this.1)]; exact e, rfl⟩
  | .ro _, _, h => by
    obtain ⟨a, vs, rfl, e, t⟩ := h
    refine ⟨a, vs, rfl, e.imp (fun q => ?_) id, DrAll.mono x t⟩
    obtain ⟨o, e, n⟩ := q
    exact ⟨o, x.tracked e n (fun _ z => by cases z)⟩
  | .pr _, _, h => by
    obtain ⟨a, vs, rfl, ⟨e, n⟩, t⟩ := h
    exact ⟨a, vs, rfl, x.tracked e n (fun _ z => by cases z), DrAll.mono x t⟩
  | .fn _, _, h => h
  | .ty _, _, h => h
  | .kdc _ _, _, h => h
  | .exn _ _, _, h => by
    obtain ⟨a, d, e1, rfl, t⟩ := h
    exact ⟨a, d, e1, rfl, t.mono x⟩
theorem Sl.mono (x : Ext r H r' H') {m : Option M} {v : Option V} (h : Sl K g ph r H m v) : Sl K g ph r' H' m v := by
  cases m with
  | none => trivial
  | some m =>
    cases v with
    | none => exact h
    | some v => exact Mv.mono (g := g) x h
theorem Ev.mono (x : Ext r H r' H') {e : Env1} {s : St} (h : Ev K g ph r H e s) : Ev K g ph r' H' e s := Paired.mapP h fun _ _ => Sl.mono (g := g) x
theorem Ov.mono (x : Ext r H r' H') {o : O} {u : HO} (h : Ov K g ph r H o u) : Ov K g ph r' H' o u := by
  cases o with
  | lst xs =>
    cases u with
    | lst vs => exact Paired.mapP h fun _ _ => Mv.mono (g := g) x
    | _ => exact h
  | dct kvs =>
    cases u with
    | dK ws => exact Paired.mapP h fun _ _ z => ⟨z.1, Mv.mono x z.2⟩
    | _ => exact h
theorem Ev.get {e : Env1} {s : St} {i : Nat} {m : M} (h : Ev K g ph r H e s) (q : e[i]? = some (some m)) : ∃ v, s[i]? = some (some v) ∧ Mv K g ph r H m v := by
  induction h generalizing i with
  | nil => simp at q
  | @cons a b as bs h1 h2 ih =>
    cases i with
    | zero =>
      simp at q
      subst q
      cases b with
      | none => exact h1.elim
      | some v => exact ⟨v, rfl, h1⟩
    | succ i =>
      obtain ⟨v, h3, h4⟩ := ih (i := i) (by simpa using q)
      exact ⟨v, by simpa using h3, h4⟩
theorem Ev.set {e : Env1} {s : St} (h : Ev K g ph r H e s) (i : Nat) {m : M} {v : V} (q : Mv K g ph r H m v) : Ev K g ph r H (e.set i (some m)) (s.set i (some v)) := by
  induction h generalizing i with
  | nil => exact .nil
  | @cons a b as bs h1 h2 ih =>
    cases i with
    | zero => exact .cons q h2
    | succ i => exact .cons h1 (ih i)
theorem Ev.wipe1 {e : Env1} {s : St} (h : Ev K g ph r H e s) (i : Nat) {o : Option V} : Ev K g ph r H (e.set i none) (s.set i o) := by
  induction h generalizing i with
  | nil => exact .nil
  | @cons a b as bs h1 h2 ih =>
    cases i with
    | zero => exact .cons trivial h2
    | succ i => exact .cons h1 (ih i)
theorem Ev.length {e : Env1} {s : St} (h : Ev K g ph r H e s) : e.length = s.length := Paired.length h
/-- a new object, not owned, comes -/
theorem So.new {S : Sto} {p : Addr} {o : HO} (s : So K g ph r S H) (hp : H p = none) : So K g ph r S (upd H p o) := by
  have x : Ext r H r (upd H p o) := Ext.new hp
  refine ⟨s.len, s.nd, s.dis, fun a ha => ?_, fun n u e => ?_, s.tabs.ext fun b u e => by rw [upd_ne (ne_of_none e hp)]; exact e, fun q hq => (s.kp q hq).mono x⟩
  · obtain ⟨u, e, t⟩ := s.there a ha
    exact x.stay a u e t
  · obtain ⟨a, w, e1, e2, e3⟩ := s.at_ n u e
    exact ⟨a, w, e1, by rw [upd_ne (ne_of_none e2 hp)]; exact e2, e3.mono x⟩
theorem So.own_mem {S : Sto} (s : So K g ph r S H) {a : Addr} (h : a ∈ r) : ∃ u, H a = some u ∧ (∃ o, Ov K g ph r H o u) := by
  obtain ⟨n, hn, e⟩ := List.getElem_of_mem h
  have hl : n < S.length := by rw [← s.len]; exact hn
  obtain ⟨b, u, e1, e2, e3⟩ := s.at_ n S[n] (List.getElem?_eq_getElem hl)
  rw [List.getElem?_eq_getElem hn, e] at e1
  cases e1
  exact ⟨u, e2, _, e3⟩
theorem Mv.more {ph' : List Addr} (h : ∀ a, a ∈ ph' → a ∈ ph ∨ H a = none) (hr : ∀ a, a ∈ ph → a ∈ ph') : ∀ {m : M} {v : V}, Mv K g ph r H m v → Mv K g ph' r H m v := by
  have hB : ∀ a, a ∈ ph' ++ r → a ∈ ph ++ r ∨ H a = none := fun a ha => by
    rcases List.mem_append.mp ha with z | z
    · exact (h a z).imp (fun q => List.mem_append_left _ q) id
    · exact .inl (List.mem_append_right _ z)
  intro m v q
  cases m with
  | d x => exact Dr.more hB q
  | loc n => exact q
  | ro xs =>
    obtain ⟨a, vs, e1, e, t⟩ := q
    refine ⟨a, vs, e1, e.imp (fun q => ?_) id, DrAll.more hB t⟩
    obtain ⟨o, e, n⟩ := q
    exact ⟨o, e, fun z => (hB a z).elim n fun q => (by rw [e] at q; cases q)⟩
  | pr xs =>
    obtain ⟨a, vs, e1, ⟨e, n⟩, t⟩ := q
    exact ⟨a, vs, e1, ⟨e, fun z => (hB a z).elim n fun q => (by rw [e] at q; cases q)⟩, DrAll.more hB t⟩
  | fn a => exact q
  | ty n => exact q
  | kdc a ks => exact q
  | exn c x =>
    obtain ⟨a, d, e1, e2, t⟩ := q
    refine ⟨a, d, e1, e2, ?_⟩
    cases x with
    | none => trivial
    | some p =>
      obtain ⟨f, y⟩ := p
      obtain ⟨dd, w, h1, e, n, t⟩ := t
      exact ⟨dd, w, h1, e, fun z => (hB dd z).elim n fun q => (by rw [e] at q; cases q), Dr.more hB t⟩
theorem Ev.more {ph' : List Addr} (h : ∀ a, a ∈ ph' → a ∈ ph ∨ H a = none) (hr : ∀ a, a ∈ ph → a ∈ ph') {e : Env1} {s : L2.St} (q : Ev K g ph r H e s) : Ev K g ph' r H e s := Paired.mapP q fun m v z => by
  cases m with
  | none => trivial
  | some m =>
    cases v with
    | none => exact z
    | some v => exact Mv.more h hr z
theorem So.more {S : Sto} {p : Addr} {o : HO} (s : So K g ph r S H) (hp : H p = none) (ho : ∀ ps, o ≠ .tbl ps := by intro _ z; cases z) : So K g (p :: ph) r S (upd H p o) := by
  have x : Ext r H r (upd H p o) := Ext.new hp
  have hh : ∀ a, a ∈ p :: ph → a ∈ ph ∨ H a = none := fun a ha => by
    rcases List.mem_cons.mp ha with z | z
    · rw [z]; exact .inr hp
    · exact .inl z
  have hr : ∀ a, a ∈ ph → a ∈ p :: ph := fun a ha => List.mem_cons_of_mem _ ha
  refine ⟨s.len, s.nd, fun a ha => ?_, fun a ha => ?_, fun n u e => ?_, s.tabs.ext fun b u e => by rw [upd_ne (ne_of_none e hp)]; exact e, fun q hq => Ev.mono x (Ev.more hh hr (s.kp q hq))⟩
  · rcases List.mem_cons.mp ha with z | z
    · rw [z]
      intro w
      obtain ⟨u, e, _⟩ := s.own_mem w
      rw [hp] at e; cases e
    · exact s.dis a z
  · rcases List.mem_cons.mp ha with z | z
    · exact ⟨o, by rw [z, upd_same], ho⟩
    · obtain ⟨u, e, t⟩ := s.there a z
      exact x.stay a u e t
  · obtain ⟨a, w, e1, e2, e3⟩ := s.at_ n u e
    refine ⟨a, w, e1, by rw [upd_ne (ne_of_none e2 hp)]; exact e2, Ov.mono x ?_⟩
    cases u with
    | lst xs =>
      cases w with
      | lst vs => exact Paired.mapP e3 fun _ _ z => Mv.more (g := g) hh hr z
      | _ => exact e3
    | dct kvs =>
      cases w with
      | dK ws => exact Paired.mapP e3 fun _ _ z => ⟨z.1, Mv.more (g := g) hh hr z.2⟩
      | _ => exact e3
/-- a new object is fresh for all that is told -/
theorem So.fresh {S : Sto} (s : So K g ph r S H) {p : Addr} (hp : H p = none) : p ∉ ph ++ r := fun z => by
  rcases List.mem_append.mp z with z | z
  · obtain ⟨o, e, _⟩ := s.there p z
    rw [hp] at e; cases e
  · obtain ⟨u, e, _⟩ := s.own_mem z
    rw [hp] at e; cases e
end
end Mr

end
section
set_option maxRecDepth 100000
set_option autoImplicit false
namespace Mr
open PySem PySem.Spec L2 MrT
open PyProof.Rows hiding St

/-! ### what is wanted of an outcome -/
def R.bind {α β : Type} (x : R α) (k : α → Sto → R β) : R β := match x with
  | .ok a S => k a S
  | .rz c x S => .rz c x S
  | .bad => .bad
def lift {α : Type} (o : Option α) (S : Sto) : R α := match o with
  | some a => .ok a S
  | none => .bad

abbrev Rel (α β : Type) := PySem.W.Frag → Cfg → List Addr → List Addr → Hp → α → β → Prop
/-- P tells how the mirror's answer lies; E: the wish of errors -/
def Post {α β : Type} (P : Rel α β) (K : PySem.W.Frag) (g : Cfg) (E : XK) (ph r : List Addr) (H : Hp) (o : R α) (Q : β → Hp → Prop) : Prop := match o with
  | .ok m S' => ∀ r' H' v, Ext r H r' H' → So K g ph r' S' H' → P K g ph r' H' m v → Q v H'
  | .rz c x S' => ∀ r' H' d, Ext r H r' H' → So K g ph r' S' H' → Xv K (ph ++ r') H' d x → E (.ref (g.cl c)) d H'
  | .bad => False
theorem Post.mono {α β : Type} {P : Rel α β} {K : PySem.W.Frag} {g : Cfg} {E : XK} {ph r r' : List Addr} {H H' : Hp} {o : R α} {Q : β → Hp → Prop} (x : Ext r H r' H') (h : Post P K g E ph r H o Q) : Post P K g E ph r' H' o Q := by
  cases o with
  | ok m S => exact fun r2 H2 v y s q => h r2 H2 v (x.trans y) s q
  | rz c z S => exact fun r2 H2 d y s q => h r2 H2 d (x.trans y) s q
  | bad => exact h
theorem Post.imp {α β : Type} {P : Rel α β} {K : PySem.W.Frag} {g : Cfg} {E : XK} {ph r : List Addr} {H : Hp} {o : R α} {Q Q' : β → Hp → Prop} (h : Post P K g E ph r H o Q) (w : ∀ v H', Q v H' → Q' v H') : Post P K g E ph r H o Q' := by
  cases o with
  | ok m S => exact fun r2 H2 v y s q => w _ _ (h r2 H2 v y s q)
  | rz c z S => exact h
  | bad => exact h
/-- the reading «the mirror f tells it», of anything with values β -/
def tG {α β : Type} (P : Rel α β) (K : PySem.W.Frag) (g : Cfg) (W : WX) (f : Env1 → Sto → R α) : L2.St → Hp → (β → Hp → Prop) → Prop := fun s H Q =>
  ∃ ph r S e, So K g ph r S H ∧ Ev K g ph r H e s ∧ Post P K g (fun c d H' => W c d s H') ph r H (f e S) Q
theorem tG.imp {α β : Type} {P : Rel α β} {K : PySem.W.Frag} {g : Cfg} {W : WX} {f : Env1 → Sto → R α} {s : L2.St} {H : Hp} {Q Q' : β → Hp → Prop} (h : tG P K g W f s H Q) (w : ∀ v H', Q v H' → Q' v H') : tG P K g W f s H Q' := by
  obtain ⟨ph, r, S, e, a, b, c⟩ := h
  exact ⟨ph, r, S, e, a, b, c.imp w⟩
/-- one after the other -/
theorem tG.bind {α β γ δ : Type} {P : Rel α β} {P' : Rel γ δ} {K : PySem.W.Frag} {g : Cfg} {W : WX} {f : Env1 → Sto → R α} {k : α → Sto → R γ} {s : L2.St} {H : Hp} {ph r : List Addr} {S : Sto} {e : Env1} {Q : δ → Hp → Prop} {Q1 : β → Hp → Prop}
    (so : So K g ph r S H) (ev : Ev K g ph r H e s) (h : Post P' K g (fun c d H' => W c d s H') ph r H ((f e S).bind k) Q)
    (w : ∀ m v S' r' H', Ext r H r' H' → So K g ph r' S' H' → Ev K g ph r' H' e s → P K g ph r' H' m v → Post P' K g (fun c d H' => W c d s H') ph r' H' (k m S') Q → Q1 v H') : tG P K g W f s H Q1 := by
  refine ⟨ph, r, S, e, so, ev, ?_⟩
  cases q : f e S with
  | ok m S' =>
    rw [q] at h
    exact fun r' H' v x s' m' => w m v S' r' H' x s' (ev.mono x) m' (Post.mono x h)
  | rz c x S' =>
    rw [q] at h
    exact h
  | bad =>
    rw [q] at h
    exact h

/-! ### judgements -/
abbrev PV : Rel M V := fun K g ph r H m v => Mv K g ph r H m v
abbrev PB : Rel Bool Bool := fun _ _ _ _ _ a b => a = b
abbrev PVs : Rel (List M) (List V) := fun K g ph r H ms vs => Paired (Mv K g ph r H) ms vs
abbrev tM (K : PySem.W.Frag) (g : Cfg) (W : WX) (f : Env1 → Sto → R M) : TE := tG PV K g W f
abbrev tMT (K : PySem.W.Frag) (g : Cfg) (W : WX) (f : Env1 → Sto → R Bool) : TT := tG PB K g W f
abbrev tMA (K : PySem.W.Frag) (g : Cfg) (W : WX) (f : Env1 → Sto → R (List M)) : TA := tG PVs K g W f
abbrev ME (X : Cx) (g : Cfg) (W : WX) (e : Expr) (f : Env1 → Sto → R M) : Prop := PE X e (tM X.K g W f)
abbrev MT (X : Cx) (g : Cfg) (W : WX) (e : Expr) (f : Env1 → Sto → R Bool) : Prop := PT X e (tMT X.K g W f)
abbrev MA (X : Cx) (g : Cfg) (W : WX) (es : List Expr) (f : Env1 → Sto → R (List M)) : Prop := PA X es (tMA X.K g W f)
def PostS (K : PySem.W.Frag) (g : Cfg) (W : WX) (ph r : List Addr) (s : L2.St) (H : Hp) (o : Out) (D : Ends) : Prop := match o with
  | .nx e' S' => ∀ r' H' s', Ext r H r' H' → So K g ph r' S' H' → Ev K g ph r' H' e' s' → D.nx s' H'
  | .rt m S' => ∀ r' H' v, Ext r H r' H' → So K g ph r' S' H' → Mv K g ph r' H' m v → D.rt v H'
  | .bk e' S' => ∀ r' H' s', Ext r H r' H' → So K g ph r' S' H' → Ev K g ph r' H' e' s' → D.bk s' H'
  | .ct e' S' => ∀ r' H' s', Ext r H r' H' → So K g ph r' S' H' → Ev K g ph r' H' e' s' → D.ct s' H'
  | .rz c x e' S' => ∀ r' H' s' d, Ext r H r' H' → So K g ph r' S' H' → Ev K g ph r' H' e' s' → Xv K (ph ++ r') H' d x → W (.ref (g.cl c)) d s' H'
  | .bad => False
theorem PostS.mono {K : PySem.W.Frag} {g : Cfg} {W : WX} {ph r r' : List Addr} {s s' : L2.St} {H H' : Hp} {o : Out} {D : Ends} (x : Ext r H r' H') (h : PostS K g W ph r s H o D) : PostS K g W ph r' s' H' o D := by
  cases o with
  | nx e S => exact fun r2 H2 v y a b => h r2 H2 v (x.trans y) a b
  | rt m S => exact fun r2 H2 v y a b => h r2 H2 v (x.trans y) a b
  | bk e S => exact fun r2 H2 v y a b => h r2 H2 v (x.trans y) a b
  | ct e S => exact fun r2 H2 v y a b => h r2 H2 v (x.trans y) a b
  | rz c z e S => exact fun r2 H2 v d y a b q => h r2 H2 v d (x.trans y) a b q
  | bad => exact h
def tMS (K : PySem.W.Frag) (g : Cfg) (W : WX) (f : Env1 → Sto → Out) : TS := fun D s H =>
  ∃ ph r S e, So K g ph r S H ∧ Ev K g ph r H e s ∧ PostS K g W ph r s H (f e S) D
abbrev MS (X : Cx) (g : Cfg) (W : WX) (st : Stmt) (f : Env1 → Sto → Out) : Prop := PS X st (tMS X.K g W f)
abbrev MSs (X : Cx) (g : Cfg) (W : WX) (st : List Stmt) (f : Env1 → Sto → Out) : Prop := PSs X st (tMS X.K g W f)

theorem PE.of {X : Cx} {e : Expr} {t t' : TE} (h : PE X e t) (w : ∀ s H Q, t' s H Q → t s H Q) : PE X e t' := ⟨fun pins s q H Q I z => h.run pins s q H Q I (w _ _ _ z)⟩
theorem PT.of {X : Cx} {e : Expr} {t t' : TT} (h : PT X e t) (w : ∀ s H Q, t' s H Q → t s H Q) : PT X e t' := ⟨fun pins s q H Q I z => h.run pins s q H Q I (w _ _ _ z)⟩
theorem PW.of {X : Cx} {e : Expr} {t t' : TT} (h : PW X e t) (w : ∀ s H Q, t' s H Q → t s H Q) : PW X e t' := ⟨fun whole pins s q H Q I z => h.run whole pins s q H Q I (w _ _ _ z)⟩
theorem PA.of {X : Cx} {e : List Expr} {t t' : TA} (h : PA X e t) (w : ∀ s H Q, t' s H Q → t s H Q) : PA X e t' := ⟨fun pos pins s q H Q I z => h.run pos pins s q H Q I (w _ _ _ z)⟩
theorem PS.of {X : Cx} {e : Stmt} {t t' : TS} (h : PS X e t) (w : ∀ D s H, t' D s H → t D s H) : PS X e t' := ⟨fun pins s q H D I z => h.run pins s q H D I (w _ _ _ z)⟩
theorem PSs.of {X : Cx} {e : List Stmt} {t t' : TS} (h : PSs X e t) (w : ∀ D s H, t' D s H → t D s H) : PSs X e t' := ⟨fun pins s q H D I z => h.run pins s q H D I (w _ _ _ z)⟩

/-! ### the mirror's words for expressions -/
def eC (m : M) : Env1 → Sto → R M := fun _ S => .ok m S
def eV (i : Nat) : Env1 → Sto → R M := fun e S => match e[i]? with
  | some (some m) => .ok m S
  | _ => .bad
def e1 (op : M → Sto → Option M) (a : Env1 → Sto → R M) : Env1 → Sto → R M := fun e S => (a e S).bind fun x S1 => lift (op x S1) S1
def e2 (op : M → M → Sto → Option M) (a b : Env1 → Sto → R M) : Env1 → Sto → R M := fun e S => (a e S).bind fun x S1 => (b e S1).bind fun y S2 => lift (op x y S2) S2
def aN : Env1 → Sto → R (List M) := fun _ S => .ok [] S
def aC (a : Env1 → Sto → R M) (b : Env1 → Sto → R (List M)) : Env1 → Sto → R (List M) := fun e S => (a e S).bind fun x S1 => (b e S1).bind fun xs S2 => .ok (x :: xs) S2
def eCall (f : List M → Sto → R M) (a : Env1 → Sto → R (List M)) : Env1 → Sto → R M := fun e S => (a e S).bind f
def ePrim (op : List M → Sto → Option M) (a : Env1 → Sto → R (List M)) : Env1 → Sto → R M := fun e S => (a e S).bind fun xs S1 => lift (op xs S1) S1
def eIf (t : Env1 → Sto → R Bool) (a b : Env1 → Sto → R M) : Env1 → Sto → R M := fun e S => (t e S).bind fun k S1 => if k then a e S1 else b e S1
def asB : M → Option Bool
  | .d (.bool b) => some b
  | _ => none
def tB (a : Env1 → Sto → R M) : Env1 → Sto → R Bool := fun e S => (a e S).bind fun x S1 => lift (asB x) S1
def tAndM (a b : Env1 → Sto → R Bool) : Env1 → Sto → R Bool := fun e S => (a e S).bind fun k S1 => if k then b e S1 else .ok false S1
def tOrM (a b : Env1 → Sto → R Bool) : Env1 → Sto → R Bool := fun e S => (a e S).bind fun k S1 => if k then .ok true S1 else b e S1
def tNotM (a : Env1 → Sto → R Bool) : Env1 → Sto → R Bool := fun e S => (a e S).bind fun k S1 => .ok (!k) S1
def eAndM (a b : Env1 → Sto → R M) : Env1 → Sto → R M := fun e S => (tB a e S).bind fun k S1 => if k then b e S1 else .ok (.d (.bool false)) S1
def eOrM (a b : Env1 → Sto → R M) : Env1 → Sto → R M := fun e S => (tB a e S).bind fun k S1 => if k then .ok (.d (.bool true)) S1 else b e S1
def eNotM (a : Env1 → Sto → R M) : Env1 → Sto → R M := fun e S => (tB a e S).bind fun k S1 => .ok (.d (.bool (!k))) S1

/-! ### rules -/
section
variable {X : Cx} {g : Cfg} {W : WX} {a b c : Expr} {fa fb fc : Env1 → Sto → R M} {ta tb tc : Env1 → Sto → R Bool} {pos : Pos}
theorem me_var (i : Nat) {x : Str} (hN : X.N[i]? = some x := by rfl) (hv : Vis X.env.scope x := by first | exact Or.inl rfl | exact Or.inr (Or.inl rfl) | exact Or.inr (Or.inr rfl)) (hd : (x == ("__debug__" : Str)) = false := by decide)
    (hcd : (x == ("__classdict__" : Str)) = false := by decide) : ME X g W (.Name x pos) (eV i) := by
  refine PE.of (pe_var (i := i) hN hv hd hcd) fun s H Q h => ?_
  obtain ⟨ph, r, S, e, so, ev, h⟩ := h
  unfold eV at h
  split at h
  · rename_i m q
    obtain ⟨v, h1, h2⟩ := ev.get q
    exact ⟨v, h1, h r H v (.refl _ _) so h2⟩
  · exact h.elim
theorem me_c {v : V} {m : M} (h : PE X a (tC v)) (r : ∀ ph r H, Mv X.K g ph r H m v) : ME X g W a (eC m) := PE.of h fun s H Q ⟨ph, rr, S, e, so, ev, h⟩ => h rr H v (.refl _ _) so (r _ _ _)
theorem me_int {i j} : ME X g W (.Constant (.int i) j pos) (eC (.d (.int i))) := me_c pe_int fun _ _ _ => .int _
theorem me_bl {i j} : ME X g W (.Constant (.bool i) j pos) (eC (.d (.bool i))) := me_c pe_bl fun _ _ _ => .bl _
theorem me_non {j} : ME X g W (.Constant .none j pos) (eC (.d .none)) := me_c pe_non fun _ _ _ => .non
theorem me_str {i j} : ME X g W (.Constant (.str i) j pos) (eC (.d (.str i))) := me_c pe_str fun _ _ _ => .str _
/-- a module's constant -/
theorem me_glob {x : Str} {v : V} {u : Value} {m : M} (hg : Gl X x) (hm : X.mg x = some u) (r : RelV v u) (hd : ∀ ph r H, Mv X.K g ph r H m v) (hx : (x == ("__debug__" : Str)) = false := by decide) : ME X g W (.Name x pos) (eC m) := me_c (pe_glob hg hm r hx) hd

theorem ma_nil : MA X g W [] aN := PA.of pa_nil fun s H Q ⟨ph, r, S, e, so, ev, h⟩ => h r H [] (.refl _ _) so .nil
theorem ma_cons {es : List Expr} {fs : Env1 → Sto → R (List M)} (ha : ME X g W a fa) (hb : MA X g W es fs) (hs : starEach (a :: es) X.env = (false, eval a X.env) :: starEach es X.env := by rfl) : MA X g W (a :: es) (aC fa fs) := by
  refine PA.of (pa_cons ha hb hs) fun s H Q h => ?_
  obtain ⟨ph, r, S, e, so, ev, h⟩ := h
  refine tG.bind so ev h fun m v S1 r1 H1 x1 so1 ev1 m1 h1 => ?_
  refine tG.bind so1 ev1 h1 fun ms vs S2 r2 H2 x2 so2 ev2 m2 h2 => ?_
  exact h2 r2 H2 (v :: vs) (.refl _ _) so2 (.cons (Mv.mono x2 m1) m2)

/-- a two-place operation of the mirror keeps what the rule asks -/
def Snd2 (K : PySem.W.Frag) (g : Cfg) (rr : R2) (op : M → M → Sto → Option M) : Prop := ∀ (ph r : List Addr) (S : Sto) (H : Hp) (m1 m2 m : M) (v1 v2 : V) (Q : VK), So K g ph r S H → Mv K g ph r H m1 v1 → Mv K g ph r H m2 v2 → op m1 m2 S = some m →
  (∀ r' H' v, Ext r H r' H' → So K g ph r' S H' → Mv K g ph r' H' m v → Q v H') → rr v1 v2 H Q
def Snd1 (K : PySem.W.Frag) (g : Cfg) (rr : V → Hp → VK → Prop) (op : M → Sto → Option M) : Prop := ∀ (ph r : List Addr) (S : Sto) (H : Hp) (m1 m : M) (v1 : V) (Q : VK), So K g ph r S H → Mv K g ph r H m1 v1 → op m1 S = some m →
  (∀ r' H' v, Ext r H r' H' → So K g ph r' S H' → Mv K g ph r' H' m v → Q v H') → rr v1 H Q
def SndN (K : PySem.W.Frag) (g : Cfg) (rr : List V → Hp → VK → Prop) (op : List M → Sto → Option M) : Prop := ∀ (ph r : List Addr) (S : Sto) (H : Hp) (ms : List M) (m : M) (vs : List V) (Q : VK), So K g ph r S H → Paired (Mv K g ph r H) ms vs → op ms S = some m →
  (∀ r' H' v, Ext r H r' H' → So K g ph r' S H' → Mv K g ph r' H' m v → Q v H') → rr vs H Q
theorem tM_op {rr : R2} {op : M → M → Sto → Option M} (hs : Snd2 X.K g rr op) (s : L2.St) (H : Hp) (Q : VK) (h : tM X.K g W (e2 op fa fb) s H Q) : tOp rr (tM X.K g W fa) (tM X.K g W fb) s H Q := by
  obtain ⟨ph, r, S, e, so, ev, h⟩ := h
  refine tG.bind so ev h fun m v S1 r1 H1 x1 so1 ev1 m1 h1 => ?_
  refine tG.bind so1 ev1 h1 fun m' v' S2 r2 H2 x2 so2 ev2 m2 h2 => ?_
  cases q : op m m' S2 with
  | none => rw [q] at h2; exact h2.elim
  | some z =>
    rw [q] at h2
    exact hs ph r2 S2 H2 m m' z v v' Q so2 (Mv.mono x2 m1) m2 q h2
theorem me_op {o : Operator} {rr : R2} {op : M → M → Sto → Option M} (ho : OpR X (binaryOp o) rr) (hs : Snd2 X.K g rr op) (ha : ME X g W a fa) (hb : ME X g W b fb) : ME X g W (.BinOp a o b pos) (e2 op fa fb) := PE.of (pe_op ho ha hb) (tM_op hs)
theorem me_cmp {o : CmpOp} {rr : R2} {op : M → M → Sto → Option M} (ho : OpR X (compareOp o) rr) (hs : Snd2 X.K g rr op) (ha : ME X g W a fa) (hb : ME X g W b fb) (hm : behindInMarks o b = false := by first | exact nomark _ | rfl) : ME X g W (.Compare a [o] [b] pos) (e2 op fa fb) := PE.of (pe_cmpR ho ha hb hm) (tM_op hs)
theorem mt_cmp {o : CmpOp} {rr : R2} {op : M → M → Sto → Option M} (ho : OpR X (compareOp o) rr) (hs : Snd2 X.K g rr op) (ha : ME X g W a fa) (hb : ME X g W b fb) (hm : behindInMarks o b = false := by first | exact nomark _ | rfl) : MT X g W (.Compare a [o] [b] pos) (tB (e2 op fa fb)) := by
  refine PT.of (pt_cmpR ho ha hb hm) fun s H Q h => ?_
  obtain ⟨ph, r, S, e, so, ev, h⟩ := h
  refine tM_op hs s H _ ?_
  refine tG.bind so ev h fun m v S1 r1 H1 x1 so1 ev1 m1 h1 => ?_
  cases m with
  | d x =>
    cases x with
    | bool k =>
      cases m1
      exact ⟨k, rfl, h1 r1 H1 k (.refl _ _) so1 rfl⟩
    | _ => exact h1.elim
  | _ => exact h1.elim
theorem mt_val (ha : ME X g W a fa) (he : ∀ whole, isTrue a X.env whole = (do let v ← whole; standAt a.pos; holding [v] (truthy v)) := by intro _; rfl) : MT X g W a (tB fa) := by
  refine PT.of (pt_val ha he) fun s H Q h => ?_
  obtain ⟨ph, r, S, e, so, ev, h⟩ := h
  refine tG.bind so ev h fun m v S1 r1 H1 x1 so1 ev1 m1 h1 => ?_
  cases m with
  | d x =>
    cases x with
    | bool k =>
      cases m1
      exact ⟨k, rfl, h1 r1 H1 k (.refl _ _) so1 rfl⟩
    | _ => exact h1.elim
  | _ => exact h1.elim
theorem me_un {o : UnaryOp} {rr : V → Hp → VK → Prop} {op : M → Sto → Option M} (ho : UnR X (unaryOp o) rr) (hs : Snd1 X.K g rr op) (ha : ME X g W a fa) : ME X g W (.UnaryOp o a pos) (e1 op fa) := by
  refine PE.of (pe_un ho ha) fun s H Q h => ?_
  obtain ⟨ph, r, S, e, so, ev, h⟩ := h
  refine tG.bind so ev h fun m v S1 r1 H1 x1 so1 ev1 m1 h1 => ?_
  cases q : op m S1 with
  | none => rw [q] at h1; exact h1.elim
  | some z =>
    rw [q] at h1
    exact hs ph r1 S1 H1 m z v Q so1 m1 q h1
theorem me_if {tc : Env1 → Sto → R Bool} (hc : MT X g W c tc) (ha : ME X g W a fa) (hb : ME X g W b fb) : ME X g W (.IfExp c a b pos) (eIf tc fa fb) := by
  refine PE.of (pe_ifExp hc ha hb) fun s H Q h => ?_
  obtain ⟨ph, r, S, e, so, ev, h⟩ := h
  refine tG.bind so ev h fun k k' S1 r1 H1 x1 so1 ev1 m1 h1 => ?_
  cases m1
  cases k with
  | true => exact ⟨ph, r1, S1, e, so1, ev1, h1⟩
  | false => exact ⟨ph, r1, S1, e, so1, ev1, h1⟩
theorem mt_not (ha : MT X g W a ta) : MT X g W (.UnaryOp .Not a pos) (tNotM ta) := by
  refine PT.of (pt_not ha) fun s H Q h => ?_
  obtain ⟨ph, r, S, e, so, ev, h⟩ := h
  refine tG.bind so ev h fun k k' S1 r1 H1 x1 so1 ev1 m1 h1 => ?_
  cases m1
  exact h1 r1 H1 _ (.refl _ _) so1 rfl
abbrev MW (X : Cx) (g : Cfg) (W : WX) (e : Expr) (f : Env1 → Sto → R Bool) : Prop := PW X e (tMT X.K g W f)
theorem mw_and1 (ha : MT X g W a ta) : MW X g W (.BoolOp .And [a] pos) ta := pw_and1 ha
theorem mw_or1 (ha : MT X g W a ta) : MW X g W (.BoolOp .Or [a] pos) ta := pw_or1 ha
theorem mw_and {rest : List Expr} (ha : MT X g W a ta) (hb : MW X g W (.BoolOp .And (b :: rest) pos) tb) : MW X g W (.BoolOp .And (a :: b :: rest) pos) (tAndM ta tb) := by
  refine PW.of (pw_and ha hb) fun s H Q h => ?_
  obtain ⟨ph, r, S, e, so, ev, h⟩ := h
  refine tG.bind so ev h fun k k' S1 r1 H1 x1 so1 ev1 m1 h1 => ?_
  cases m1
  cases k with
  | true => exact ⟨ph, r1, S1, e, so1, ev1, h1⟩
  | false => exact h1 r1 H1 _ (.refl _ _) so1 rfl
theorem mw_or {rest : List Expr} (ha : MT X g W a ta) (hb : MW X g W (.BoolOp .Or (b :: rest) pos) tb) : MW X g W (.BoolOp .Or (a :: b :: rest) pos) (tOrM ta tb) := by
  refine PW.of (pw_or ha hb) fun s H Q h => ?_
  obtain ⟨ph, r, S, e, so, ev, h⟩ := h
  refine tG.bind so ev h fun k k' S1 r1 H1 x1 so1 ev1 m1 h1 => ?_
  cases m1
  cases k with
  | true => exact h1 r1 H1 _ (.refl _ _) so1 rfl
  | false => exact ⟨ph, r1, S1, e, so1, ev1, h1⟩
theorem tB_ev {s : L2.St} {H : Hp} {ph r : List Addr} {S : Sto} {e : Env1} {γ δ : Type} {P' : Rel γ δ} {k : Bool → Sto → R γ} {Q : δ → Hp → Prop} {Q1 : VK} (so : So X.K g ph r S H) (ev : Ev X.K g ph r H e s) (h : Post P' X.K g (fun c d H' => W c d s H') ph r H ((tB fa e S).bind k) Q)
    (w : ∀ b S' r' H', Ext r H r' H' → So X.K g ph r' S' H' → Ev X.K g ph r' H' e s → Post P' X.K g (fun c d H' => W c d s H') ph r' H' (k b S') Q → Q1 (.bl b) H') : tM X.K g W fa s H Q1 := by
  have q : (tB fa e S).bind k = (fa e S).bind fun x S1 => (lift (asB x) S1).bind k := by
    unfold tB
    cases fa e S <;> rfl
  rw [q] at h
  refine tG.bind so ev h fun m v S1 r1 H1 x1 so1 ev1 m1 h1 => ?_
  cases m with
  | d x =>
    cases x with
    | bool b =>
      cases m1
      exact w b S1 r1 H1 x1 so1 ev1 h1
    | _ => exact h1.elim
  | _ => exact h1.elim
theorem me_and (ha : ME X g W a fa) (hb : ME X g W b fb) : ME X g W (.BoolOp .And [a, b] pos) (eAndM fa fb) := by
  refine PE.of (pe_and ha (pe_one hb)) fun s H Q h => ?_
  obtain ⟨ph, r, S, e, so, ev, h⟩ := h
  refine tB_ev so ev h fun k S1 r1 H1 x1 so1 ev1 h1 => ⟨k, rfl, ?_⟩
  cases k with
  | true => exact ⟨ph, r1, S1, e, so1, ev1, h1⟩
  | false => exact h1 r1 H1 _ (.refl _ _) so1 (.bl _)
theorem me_or (ha : ME X g W a fa) (hb : ME X g W b fb) : ME X g W (.BoolOp .Or [a, b] pos) (eOrM fa fb) := by
  refine PE.of (pe_or ha (pe_one hb)) fun s H Q h => ?_
  obtain ⟨ph, r, S, e, so, ev, h⟩ := h
  refine tB_ev so ev h fun k S1 r1 H1 x1 so1 ev1 h1 => ⟨k, rfl, ?_⟩
  cases k with
  | true => exact h1 r1 H1 _ (.refl _ _) so1 (.bl _)
  | false => exact ⟨ph, r1, S1, e, so1, ev1, h1⟩
theorem me_not (ha : ME X g W a fa) : ME X g W (.UnaryOp .Not a pos) (eNotM fa) := by
  refine PE.of (pe_not ha) fun s H Q h => ?_
  obtain ⟨ph, r, S, e, so, ev, h⟩ := h
  refine tB_ev so ev h fun k S1 r1 H1 x1 so1 ev1 h1 => ⟨k, rfl, ?_⟩
  exact h1 r1 H1 _ (.refl _ _) so1 (.bl _)
/-- built-ins and types, called -/
theorem ma_prim {fs : Env1 → Sto → R (List M)} {rr : List V → Hp → VK → Prop} {op : List M → Sto → Option M} (hs : SndN X.K g rr op) (s : L2.St) (H : Hp) (Q : VK) (h : tM X.K g W (ePrim op fs) s H Q) : tG PVs X.K g W fs s H (fun vs H1 => rr vs H1 Q) := by
  obtain ⟨ph, r, S, e, so, ev, h⟩ := h
  refine tG.bind so ev h fun m v S1 r1 H1 x1 so1 ev1 m1 h1 => ?_
  cases q : op m S1 with
  | none => rw [q] at h1; exact h1.elim
  | some z =>
    rw [q] at h1
    exact hs ph r1 S1 H1 m z v Q so1 m1 q h1
end
end Mr

end
section
set_option maxRecDepth 100000
set_option autoImplicit false
namespace Mr
open PySem PySem.Spec L2 MrT
open PyProof.Rows hiding St

/-! ### statements -/
def R.toS {α : Type} (x : R α) (e : Env1) (k : α → Sto → Out) : Out := match x with
  | .ok a S => k a S
  | .rz c y S => .rz c y e S
  | .bad => .bad
def Out.andThen (o : Out) (k : Env1 → Sto → Out) : Out := match o with
  | .nx e S => k e S
  | o => o
def sNx : Env1 → Sto → Out := fun e S => .nx e S
def sSeq (a b : Env1 → Sto → Out) : Env1 → Sto → Out := fun e S => (a e S).andThen b
def sSet (i : Nat) (f : Env1 → Sto → R M) : Env1 → Sto → Out := fun e S => (f e S).toS e fun m S1 => .nx (e.set i (some m)) S1
def sRet (f : Env1 → Sto → R M) : Env1 → Sto → Out := fun e S => (f e S).toS e fun m S1 => .rt m S1
def sRetN : Env1 → Sto → Out := fun _ S => .rt (.d .none) S
def sExpr (f : Env1 → Sto → R M) : Env1 → Sto → Out := fun e S => (f e S).toS e fun _ S1 => .nx e S1
def sIf (t : Env1 → Sto → R Bool) (a b : Env1 → Sto → Out) : Env1 → Sto → Out := fun e S => (t e S).toS e fun k S1 => if k then a e S1 else b e S1
def sBk : Env1 → Sto → Out := fun e S => .bk e S
def sCt : Env1 → Sto → Out := fun e S => .ct e S
def forL (ft : M → Env1 → Option Env1) (fb : Env1 → Sto → Out) : List M → Env1 → Sto → Out
  | [], e, S => .nx e S
  | x :: xs, e, S => match ft x e with
    | none => .bad
    | some e1 => match fb e1 S with
      | .nx e2 S2 => forL ft fb xs e2 S2
      | .ct e2 S2 => forL ft fb xs e2 S2
      | .bk e2 S2 => .nx e2 S2
      | o => o
def sFor (fi : Env1 → Sto → R (List M)) (ft : M → Env1 → Option Env1) (fb : Env1 → Sto → Out) : Env1 → Sto → Out := fun e S => (fi e S).toS e fun items S1 => forL ft fb items e S1
def whileL (ft : Env1 → Sto → R Bool) (fb : Env1 → Sto → Out) : Nat → Env1 → Sto → Out
  | 0, _, _ => .bad
  | n + 1, e, S => (ft e S).toS e fun k S1 => if k then (match fb e S1 with
      | .nx e2 S2 => whileL ft fb n e2 S2
      | .ct e2 S2 => whileL ft fb n e2 S2
      | .bk e2 S2 => .nx e2 S2
      | o => o) else .nx e S1
def sWhile (fuel : Env1 → Sto → Nat) (ft : Env1 → Sto → R Bool) (fb : Env1 → Sto → Out) : Env1 → Sto → Out := fun e S => whileL ft fb (fuel e S) e S

theorem tG.bindS {α β : Type} {P : Rel α β} {K : PySem.W.Frag} {g : Cfg} {W : WX} {f : Env1 → Sto → R α} {k : α → Sto → Out} {s : L2.St} {H : Hp} {ph r : List Addr} {S : Sto} {e : Env1} {D : Ends} {Q1 : β → Hp → Prop}
    (so : So K g ph r S H) (ev : Ev K g ph r H e s) (h : PostS K g W ph r s H ((f e S).toS e k) D)
    (w : ∀ m v S' r' H', Ext r H r' H' → So K g ph r' S' H' → Ev K g ph r' H' e s → P K g ph r' H' m v → PostS K g W ph r' s H' (k m S') D → Q1 v H') : tG P K g W f s H Q1 := by
  refine ⟨ph, r, S, e, so, ev, ?_⟩
  cases q : f e S with
  | ok m S' =>
    rw [q] at h
    exact fun r' H' v x s' m' => w m v S' r' H' x s' (ev.mono x) m' (PostS.mono x h)
  | rz c x S' =>
    rw [q] at h
    exact fun r' H' d x s' z => h r' H' s d x s' (ev.mono x) z
  | bad =>
    rw [q] at h
    exact h

/-- slots outside of vs are as they were -/
def Off (vs : List Nat) (s s' : L2.St) : Prop := s'.length = s.length ∧ ∀ k : Nat, k ∉ vs → s'[k]? = s[k]?
theorem Off.refl (vs : List Nat) (s : L2.St) : Off vs s s := ⟨rfl, fun _ _ => rfl⟩
theorem Off.trans {vs : List Nat} {s s1 s2 : L2.St} (a : Off vs s s1) (b : Off vs s1 s2) : Off vs s s2 := ⟨b.1.trans a.1, fun k h => (b.2 k h).trans (a.2 k h)⟩
theorem Off.set {vs : List Nat} {s : L2.St} {i : Nat} {x : Option V} (h : i ∈ vs) : Off vs s (s.set i x) := ⟨by simp, fun k hk => by
  rw [List.getElem?_set_ne]
  intro z
  rw [z] at h
  exact hk h⟩
theorem wipe_off (s : L2.St) : ∀ vs : List Nat, Off vs s (wipe s vs)
  | [] => .refl _ _
  | v :: vs => by
    have h := wipe_off s vs
    refine ⟨by unfold wipe; rw [List.length_set]; exact h.1, fun k hk => ?_⟩
    unfold wipe
    rw [List.getElem?_set_ne (fun z => hk (by rw [z]; exact List.mem_cons_self))]
    exact h.2 k (fun z => hk (List.mem_cons_of_mem _ z))
theorem wipe_in (s : L2.St) : ∀ (vs : List Nat) (k : Nat), k ∈ vs → k < s.length → (wipe s vs)[k]? = some none
  | [], _, h, _ => by simp at h
  | v :: vs, k, h, hl => by
    unfold wipe
    by_cases e : v = k
    · subst e
      rw [List.getElem?_set_self (by rw [(wipe_off s vs).1]; exact hl)]
    · rw [List.getElem?_set_ne e]
      rcases List.mem_cons.mp h with z | z
      · exact absurd z.symm e
      · exact wipe_in s vs k z hl
theorem Off.wipe {vs : List Nat} {s s' : L2.St} (h : Off vs s s') : L2.wipe s' vs = L2.wipe s vs := by
  apply List.ext_getElem?
  intro k
  by_cases hk : k ∈ vs
  · by_cases hl : k < s.length
    · rw [wipe_in s vs k hk hl, wipe_in s' vs k hk (by rw [h.1]; exact hl)]
    · have h1 := (wipe_off s vs).1
      have h2 := (wipe_off s' vs).1
      have h3 := h.1
      rw [List.getElem?_eq_none (show (L2.wipe s' vs).length ≤ k by omega), List.getElem?_eq_none (show (L2.wipe s vs).length ≤ k by omega)]
  · rw [(wipe_off s vs).2 k hk, (wipe_off s' vs).2 k hk, h.2 k hk]
def wipeE (e : Env1) : List Nat → Env1
  | [] => e
  | v :: vs => (wipeE e vs).set v none
theorem Ev.wipe {K : PySem.W.Frag} {g : Cfg} {ph r : List Addr} {H : Hp} {e : Env1} {s : L2.St} (h : Ev K g ph r H e s) : ∀ vs : List Nat, Ev K g ph r H (wipeE e vs) (L2.wipe s vs)
  | [] => h
  | v :: vs => (Ev.wipe h vs).wipe1 v

/-- a target -/
def tMG (K : PySem.W.Frag) (g : Cfg) (vs : List Nat) (f : M → Env1 → Option Env1) : TG := fun v s H Q =>
  ∃ ph r S e m e', So K g ph r S H ∧ Ev K g ph r H e s ∧ Mv K g ph r H m v ∧ f m e = some e' ∧ ∀ r' H' s', Ext r H r' H' → So K g ph r' S H' → Ev K g ph r' H' e' s' → Off vs s s' → Q s' H'
abbrev MG (X : Cx) (g : Cfg) (vs : List Nat) (tg : Expr) (f : M → Env1 → Option Env1) : Prop := PG X tg (tMG X.K g vs f)
def tgN (i : Nat) : M → Env1 → Option Env1 := fun m e => some (e.set i (some m))
def tgT (fs : List (M → Env1 → Option Env1)) : List PyData → Env1 → Option Env1 := match fs with
  | [] => fun xs e => match xs with
    | [] => some e
    | _ :: _ => none
  | f :: fs => fun xs e => match xs with
    | [] => none
    | x :: xs => (f (.d x) e).bind fun e1 => tgT fs xs e1
def tgTup (fs : List (M → Env1 → Option Env1)) : M → Env1 → Option Env1 := fun m e => match m with
  | .d (.tuple xs) => tgT fs xs e
  | .pr xs => tgT fs xs e
  | _ => none
theorem PG.of {X : Cx} {e : Expr} {t t' : TG} (h : PG X e t) (w : ∀ v s H Q, t' v s H Q → t v s H Q) : PG X e t' := ⟨fun pins s q H v u Q I r z => h.run pins s q H v u Q I r (w _ _ _ _ z)⟩
theorem PGs.of {X : Cx} {e : List Expr} {t t' : TGs} (h : PGs X e t) (w : ∀ v s H Q, t' v s H Q → t v s H Q) : PGs X e t' := ⟨fun pins s q H v u Q I r z => h.run pins s q H v u Q I r (w _ _ _ _ z)⟩
def tMGs (K : PySem.W.Frag) (g : Cfg) (vs : List Nat) (f : List PyData → Env1 → Option Env1) : TGs := fun ws s H Q =>
  ∃ ph r S e ds e', So K g ph r S H ∧ Ev K g ph r H e s ∧ DrAll K (ph ++ r) H ws ds ∧ f ds e = some e' ∧ ∀ r' H' s', Ext r H r' H' → So K g ph r' S H' → Ev K g ph r' H' e' s' → Off vs s s' → Q s' H'
abbrev MGs (X : Cx) (g : Cfg) (vs : List Nat) (tgs : List Expr) (f : List PyData → Env1 → Option Env1) : Prop := PGs X tgs (tMGs X.K g vs f)
section
variable {X : Cx} {g : Cfg} {W : WX} {pos : Pos} {vs : List Nat}
theorem mg_name (i : Nat) {x : Str} (hN : X.N.Nodup) (hv : i ∈ vs := by decide) (hi : X.N[i]? = some x := by rfl) (hx : Loc X.env.scope x := by first | exact .inl rfl | exact .inr rfl) (hf : X.fn x = true ∨ X.env.scope.names.lookup x = some .local := by first | exact .inl rfl | exact .inr rfl | assumption) : MG X g vs (.Name x pos) (tgN i) := by
  refine PG.of (pg_name hN hi hx hf) fun v s H Q h => ?_
  obtain ⟨ph, r, S, e, m, e', so, ev, mv, q, k⟩ := h
  cases q
  exact k r H _ (.refl _ _) so (ev.set i mv) (.set hv)
theorem mgs_nil : MGs X g vs [] (tgT []) := by
  refine PGs.of pgs_nil fun v s H Q h => ?_
  obtain ⟨ph, r, S, e, ds, e', so, ev, dr, q, k⟩ := h
  cases dr with
  | nil =>
    cases q
    exact ⟨rfl, k r H _ (.refl _ _) so ev (.refl _ _)⟩
  | cons => cases q
theorem mgs_cons {t : Expr} {ts : List Expr} {f : M → Env1 → Option Env1} {fs : List (M → Env1 → Option Env1)} (h1 : MG X g vs t f) (h2 : MGs X g vs ts (tgT fs)) (hs : (assignEach (t :: ts) X.env).map (·.2) = assign t X.env :: (assignEach ts X.env).map (·.2) := by rfl) : MGs X g vs (t :: ts) (tgT (f :: fs)) := by
  refine PGs.of (pgs_cons h1 h2 hs) fun v s H Q h => ?_
  obtain ⟨ph, r, S, e, ds, e', so, ev, dr, q, k⟩ := h
  cases dr with
  | nil => cases q
  | @cons v vs' d ds' hd ht =>
    have q : ((f (.d d) e).bind fun e1 => tgT fs ds' e1) = some e' := q
    cases q1 : f (.d d) e with
    | none => rw [q1] at q; cases q
    | some e1 =>
      rw [q1] at q
      refine ⟨v, vs', rfl, ph, r, S, e, .d d, e1, so, ev, hd, q1, fun r1 H1 s1 x1 so1 ev1 o1 => ?_⟩
      exact ⟨ph, r1, S, e1, ds', e', so1, ev1, DrAll.mono x1 ht, q, fun r2 H2 s2 x2 so2 ev2 o2 => k r2 H2 s2 (x1.trans x2) so2 ev2 (o1.trans o2)⟩
theorem Dr.toT {K : PySem.W.Frag} {B : List Addr} {H : Hp} {a : Addr} {ds : List PyData} (h : Dr K B H (.ref a) (.tuple ds)) : ∃ xs, SqT K H a xs ∧ DrAll K B H xs ds := by
  cases h with
  | tup e n t => exact ⟨_, e.sq, t⟩
  | tupK h1 h2 h3 h4 h5 h6 h7 => exact ⟨_, .inr ⟨_, _, _, h1, h2, h4, h5, h6⟩, h7⟩
theorem Dr.isTy {K : PySem.W.Frag} {B : List Addr} {H : Hp} {v : V} {ds : List PyData} (h : Dr K B H v (.tuple ds)) : isTy K v H := by
  cases h with
  | tup e n t => exact ⟨_, rfl, .inl ⟨_, e⟩⟩
  | tupK h1 h2 h3 h4 h5 h6 h7 => exact ⟨_, rfl, .inr ⟨_, h1, h2, h3⟩⟩
theorem mg_tup {ts : List Expr} {k : Nat} {fs : List (M → Env1 → Option Env1)} (hc : X.calm = true) (h : MGs X g vs ts (tgT fs)) (hl : fs.length = ts.length := by rfl) (hn : (assignEach ts X.env).length = ts.length := by rfl) (hst : (assignEach ts X.env).findIdx? (·.1) = none := by rfl) : MG X g vs (.Tuple ts k pos) (tgTup fs) := by
  refine PG.of (pg_tup (n := ts.length) hc h hn hst) fun v s H Q h => ?_
  obtain ⟨ph, r, S, e, m, e', so, ev, mv, q, k⟩ := h
  have len : ∀ (fs : List (M → Env1 → Option Env1)) (ds : List PyData) (e e' : Env1), tgT fs ds e = some e' → ds.length = fs.length := by
    intro fs
    induction fs with
    | nil =>
      intro ds e e' h
      cases ds with
      | nil => rfl
      | cons => cases h
    | cons f fs ih =>
      intro ds e e' h
      cases ds with
      | nil => cases h
      | cons d ds =>
        have h : ((f (.d d) e).bind fun e1 => tgT fs ds e1) = some e' := h
        cases q1 : f (.d d) e with
        | none => rw [q1] at h; cases h
        | some e1 =>
          rw [q1] at h
          rw [List.length_cons, List.length_cons, ih ds e1 e' h]
  cases m with
  | d x =>
    cases x with
    | tuple ds =>
      have q : tgT fs ds e = some e' := q
      cases v with
      | ref a =>
        obtain ⟨xs, hq, ht⟩ := Dr.toT mv
        exact ⟨a, xs, rfl, hq, by rw [ht.length, len _ _ _ _ q, hl], ph, r, S, e, ds, e', so, ev, ht, q, k⟩
      | _ => cases mv
    | _ => cases q
  | pr ds =>
    have q : tgT fs ds e = some e' := q
    obtain ⟨a, xs, rfl, ⟨hq, _⟩, ht⟩ := mv
    exact ⟨a, xs, rfl, .inl (.inl hq), by rw [ht.length, len _ _ _ _ q, hl], ph, r, S, e, ds, e', so, ev, ht, q, k⟩
  | _ => cases q

/-! ### what a loop walks -/
def Goes (K : PySem.W.Frag) (g : Cfg) (ph r : List Addr) (H : Hp) (items : List M) (J : It) : Prop := ∀ r' S' H', Ext r H r' H' → So K g ph r' S' H' → ∀ i,
  (∀ m, items[i]? = some m → J.go i H' ∧ ∀ x H'', J.yld i H' x H'' → Ext r' H' r' H'' ∧ So K g ph r' S' H'' ∧ Mv K g ph r' H'' m x) ∧ (items.length ≤ i → J.stop i H')
theorem Goes.mono {K : PySem.W.Frag} {g : Cfg} {ph r r' : List Addr} {H H' : Hp} {items : List M} {J : It} (h : Goes K g ph r H items J) (x : Ext r H r' H') : Goes K g ph r' H' items J := fun r2 S2 H2 y so => h r2 S2 H2 (x.trans y) so
abbrev PIt : Rel (List M) It := fun K g ph r H items J => ∀ ph' : List Addr, (∀ a, a ∈ ph → a ∈ ph') → (∀ a, a ∈ ph' → a ∈ ph ∨ H a = none) → Goes K g ph' r H items J
abbrev tMI (K : PySem.W.Frag) (g : Cfg) (W : WX) (f : Env1 → Sto → R (List M)) : TI := fun s H Q => tG PIt K g W f s H Q
abbrev MI (X : Cx) (g : Cfg) (W : WX) (tg it : Expr) (f : Env1 → Sto → R (List M)) : Prop := PI X tg it (tMI X.K g W f)

/-! ### rules for statements -/
variable {st : Stmt} {sts : List Stmt} {e1 : Expr} {f : Env1 → Sto → R M} {fs fss fa fb : Env1 → Sto → Out}
theorem mss_nil : MSs X g W [] sNx := PSs.of pss_nil fun D s H ⟨ph, r, S, e, so, ev, h⟩ => h r H s (.refl _ _) so ev
theorem mss_cons (h1 : MS X g W st fs) (h2 : MSs X g W sts fss) : MSs X g W (st :: sts) (sSeq fs fss) := by
  refine PSs.of (pss_cons h1 h2) fun D s H h => ?_
  obtain ⟨ph, r, S, e, so, ev, h⟩ := h
  refine ⟨ph, r, S, e, so, ev, ?_⟩
  unfold sSeq at h
  cases q : fs e S with
  | nx e' S' =>
    rw [q] at h
    exact fun r' H' s' x so' ev' => ⟨ph, r', S', e', so', ev', PostS.mono x h⟩
  | _ => rw [q] at h; exact h
theorem mss_one (h1 : MS X g W st fs) : MSs X g W [st] fs := PSs.of (pss_one h1) fun _ _ _ h => h
theorem ms_set (i : Nat) {x : Str} {p : Pos} (hN : X.N.Nodup) (he : ME X g W e1 f) (hi : X.N[i]? = some x := by rfl) (hx : Loc X.env.scope x := by first | exact .inl rfl | exact .inr rfl) (hs : swapsWith e1 (some (.Name x p)) pos.line X.env = pure false := by rfl) (hf : X.fn x = true ∨ X.env.scope.names.lookup x = some .local := by first | exact .inl rfl | exact .inr rfl | assumption) :
    MS X g W (.Assign [.Name x p] e1 pos) (sSet i f) := by
  refine PS.of (ps_set hN hi hx he hs hf) fun D s H h => ?_
  obtain ⟨ph, r, S, e, so, ev, h⟩ := h
  exact tG.bindS so ev h fun m v S1 r1 H1 x1 so1 ev1 m1 h1 => h1 r1 H1 _ (.refl _ _) so1 (ev1.set i m1)
theorem ms_ret (he : ME X g W e1 f) : MS X g W (.Return (some e1) pos) (sRet f) := by
  refine PS.of (ps_ret he) fun D s H h => ?_
  obtain ⟨ph, r, S, e, so, ev, h⟩ := h
  exact tG.bindS so ev h fun m v S1 r1 H1 x1 so1 ev1 m1 h1 => h1 r1 H1 _ (.refl _ _) so1 m1
theorem ms_retN : MS X g W (.Return none pos) sRetN := PS.of ps_retN fun D s H ⟨ph, r, S, e, so, ev, h⟩ => h r H _ (.refl _ _) so .non
theorem ms_expr (he : ME X g W e1 f) (hs : swapsWith e1 none pos.line X.env = pure false := by rfl) : MS X g W (.Expr e1 pos) (sExpr f) := by
  refine PS.of (ps_expr he hs) fun D s H h => ?_
  obtain ⟨ph, r, S, e, so, ev, h⟩ := h
  exact tG.bindS so ev h fun m v S1 r1 H1 x1 so1 ev1 m1 h1 => h1 r1 H1 _ (.refl _ _) so1 ev1
theorem ms_pass : MS X g W (.Pass pos) sNx := PS.of ps_pass fun D s H ⟨ph, r, S, e, so, ev, h⟩ => h r H s (.refl _ _) so ev
theorem ms_break : MS X g W (.Break pos) sBk := PS.of ps_break fun D s H ⟨ph, r, S, e, so, ev, h⟩ => h r H s (.refl _ _) so ev
theorem ms_continue : MS X g W (.Continue pos) sCt := PS.of ps_continue fun D s H ⟨ph, r, S, e, so, ev, h⟩ => h r H s (.refl _ _) so ev
theorem ms_doc {x j p p'} : MS X g W (.Expr (.Constant (.str x) j p) p') sNx := PS.of ps_doc fun D s H ⟨ph, r, S, e, so, ev, h⟩ => h r H s (.refl _ _) so ev
theorem ms_if {c : Expr} {a b : List Stmt} {tc : Env1 → Sto → R Bool} (hc : MT X g W c tc) (ha : MSs X g W a fa) (hb : MSs X g W b fb) : MS X g W (.If c a b pos) (sIf tc fa fb) := by
  refine PS.of (ps_if hc ha hb) fun D s H h => ?_
  obtain ⟨ph, r, S, e, so, ev, h⟩ := h
  refine tG.bindS so ev h fun k k' S1 r1 H1 x1 so1 ev1 m1 h1 => ?_
  cases m1
  cases k with
  | true => exact ⟨ph, r1, S1, e, so1, ev1, h1⟩
  | false => exact ⟨ph, r1, S1, e, so1, ev1, h1⟩
theorem ms_for {tg it : Expr} {body : List Stmt} {fi : Env1 → Sto → R (List M)} {ft : M → Env1 → Option Env1} {fbody : Env1 → Sto → Out} (hp : PassesOwn (model X.prog X.w) X.A X.env X.xe) (hc : X.calm = true) (hi : MI X g W tg it fi) (hg : MG X g vs tg ft) (hb : MSs X g W body fbody)
    (hs : ∀ x, foldedSetIterable it X.env x = pure x := by intro _; rfl) : MS X g W (.For tg it body [] pos) (sFor fi ft fbody) := by
  refine PS.of (ps_for hp hc hi hg hb hs) fun D s H h => ?_
  obtain ⟨ph, r, S, e, so, ev, h⟩ := h
  refine tG.bindS so ev h fun items J S1 r1 H1 x1 so1 ev1 m1 h1 => ?_
  have G := m1 ph (fun _ z => z) (fun _ z => .inl z)
  refine ⟨fun i m s' H' => ∃ r' S' e', Ext r1 H1 r' H' ∧ So X.K g ph r' S' H' ∧ Ev X.K g ph r' H' e' s' ∧ i ≤ items.length ∧ m = items.length - i ∧ PostS X.K g W ph r' s' H' (forL ft fbody (items.drop i) e' S') D, ⟨items.length, r1, S1, e, .refl _ _, so1, ev1, Nat.zero_le _, rfl, h1⟩, ?_⟩
  rintro i m s' H' ⟨r', S', e', x', so', ev', hi', rfl, h'⟩
  obtain ⟨G1, G2⟩ := G r' S' H' x' so' i
  by_cases hl : i < items.length
  · have hd : items.drop i = items[i] :: items.drop (i + 1) := List.drop_eq_getElem_cons hl
    rw [hd] at h'
    obtain ⟨g1, g2⟩ := G1 items[i] (List.getElem?_eq_getElem hl)
    refine .inr ⟨g1, fun s2 H2 => ∃ r2 S2 e2, Ext r1 H1 r2 H2 ∧ So X.K g ph r2 S2 H2 ∧ Ev X.K g ph r2 H2 e2 s2 ∧ PostS X.K g W ph r2 s2 H2 (forL ft fbody (items.drop (i + 1)) e2 S2) D, fun s2 H2 hN => ?_, fun x H2 hy => ?_⟩
    · obtain ⟨r2, S2, e2, y2, so2, ev2, h2⟩ := hN
      exact ⟨items.length - (i + 1), by omega, r2, S2, e2, y2, so2, ev2, hl, rfl, h2⟩
    · obtain ⟨y, so2, mv⟩ := g2 x H2 hy
      unfold forL at h'
      cases q : ft items[i] e' with
      | none => rw [q] at h'; exact h'.elim
      | some e2 =>
        rw [q] at h'
        refine ⟨ph, r', S', e', items[i], e2, so2, ev'.mono y, mv, q, fun r3 H3 s3 y3 so3 ev3 _ => ?_⟩
        refine ⟨ph, r3, S', e2, so3, ev3, ?_⟩
        have x3 : Ext r1 H1 r3 H3 := x'.trans (y.trans y3)
        have h' := PostS.mono (s' := s3) (y.trans y3) h'
        dsimp only at h'
        cases q2 : fbody e2 S' with
        | nx e4 S4 => rw [q2] at h'; exact fun r5 H5 s5 y5 so5 ev5 => ⟨r5, S4, e4, x3.trans y5, so5, ev5, PostS.mono y5 h'⟩
        | ct e4 S4 => rw [q2] at h'; exact fun r5 H5 s5 y5 so5 ev5 => ⟨r5, S4, e4, x3.trans y5, so5, ev5, PostS.mono y5 h'⟩
        | bk e4 S4 => rw [q2] at h'; exact fun r5 H5 s5 y5 so5 ev5 => h' r5 H5 s5 y5 so5 ev5
        | rt m4 S4 => rw [q2] at h'; exact h'
        | rz c4 x4 e4 S4 => rw [q2] at h'; exact h'
        | bad => rw [q2] at h'; exact h'.elim
  · have e0 : items.drop i = [] := List.drop_of_length_le (by omega)
    rw [e0] at h'
    exact .inl ⟨G2 (by omega), h' r' H' s' (.refl _ _) so' ev'⟩
theorem ms_while {c : Expr} {body : List Stmt} {fuel : Env1 → Sto → Nat} {ft : Env1 → Sto → R Bool} {fbody : Env1 → Sto → Out} (hp : PassesOwn (model X.prog X.w) X.A X.env X.xe) (hc : MT X g W c ft) (hb : MSs X g W body fbody) : MS X g W (.While c body [] pos) (sWhile fuel ft fbody) := by
  refine PS.of (ps_while hp hc hb) fun D s H h => ?_
  obtain ⟨ph, r, S, e, so, ev, h⟩ := h
  refine ⟨fun m s' H' => ∃ r' S' e', So X.K g ph r' S' H' ∧ Ev X.K g ph r' H' e' s' ∧ PostS X.K g W ph r' s' H' (whileL ft fbody m e' S') D, ⟨fuel e S, r, S, e, so, ev, h⟩, ?_⟩
  rintro m s' H' ⟨r', S', e', so', ev', h'⟩
  cases m with
  | zero => exact h'.elim
  | succ m =>
    unfold whileL at h'
    refine tG.bindS so' ev' h' fun k k' S1 r1 H1 x1 so1 ev1 m1 h1 => ?_
    cases m1
    cases k with
    | false => exact h1 r1 H1 s' (.refl _ _) so1 ev1
    | true =>
      refine ⟨fun s2 H2 => ∃ r2 S2 e2, So X.K g ph r2 S2 H2 ∧ Ev X.K g ph r2 H2 e2 s2 ∧ PostS X.K g W ph r2 s2 H2 (whileL ft fbody m e2 S2) D, fun s2 H2 hN => ⟨m, Nat.lt_succ_self m, hN⟩, ph, r1, S1, e', so1, ev1, ?_⟩
      simp only [if_true] at h1
      cases q2 : fbody e' S1 with
      | nx e4 S4 => rw [q2] at h1; exact fun r5 H5 s5 y5 so5 ev5 => ⟨r5, S4, e4, so5, ev5, PostS.mono y5 h1⟩
      | ct e4 S4 => rw [q2] at h1; exact fun r5 H5 s5 y5 so5 ev5 => ⟨r5, S4, e4, so5, ev5, PostS.mono y5 h1⟩
      | bk e4 S4 => rw [q2] at h1; exact fun r5 H5 s5 y5 so5 ev5 => h1 r5 H5 s5 y5 so5 ev5
      | rt m4 S4 => rw [q2] at h1; exact h1
      | rz c4 x4 e4 S4 => rw [q2] at h1; exact h1
      | bad => rw [q2] at h1; exact h1.elim
end
end Mr

end
section
set_option maxRecDepth 100000
set_option autoImplicit false
namespace Mr
open PySem PySem.Spec L2 MrT
open PyProof.Rows hiding St

theorem nodup_at {α : Type} {l : List α} (h : l.Nodup) : ∀ {i j : Nat} {x : α}, l[i]? = some x → l[j]? = some x → i = j := by
  induction l with
  | nil => intro i j x e; simp at e
  | cons a l ih =>
    obtain ⟨h1, h2⟩ := List.nodup_cons.mp h
    intro i j x e1 e2
    cases i with
    | zero =>
      simp at e1
      subst e1
      cases j with
      | zero => rfl
      | succ j => exact absurd (List.mem_of_getElem? (by simpa using e2)) h1
    | succ i =>
      cases j with
      | zero =>
        simp at e2
        subst e2
        exact absurd (List.mem_of_getElem? (by simpa using e1)) h1
      | succ j => exact congrArg Nat.succ (ih h2 (i := i) (j := j) (x := x) (by simpa using e1) (by simpa using e2))
/-! ### a shut or owned object is changed -/
theorem tabs_upd {g : Cfg} {H : Hp} {D : Addr} {o o' : HO} (e : H D = some o) (n1 : ∀ ps, o ≠ .tbl ps) (n2 : ∀ φ, o ≠ .ext φ) (t : Tb g H) : Tb g (upd H D o') := ⟨fun p hp => by
  obtain ⟨ps, h1, h2, h3⟩ := t.1 p hp
  refine ⟨ps, ?_, h2, fun pos cv hc => ?_⟩
  · rw [upd_ne (ne_of h1 e (fun z => n1 ps z.symm))]; exact h1
  · obtain ⟨c, e1, e2⟩ := h3 pos cv hc
    exact ⟨c, e1, by rw [upd_ne (ne_of e2 e (fun z => n2 _ z.symm))]; exact e2⟩, fun p hp => by
  rw [upd_ne (ne_of (t.2 p hp) e (fun z => n2 _ z.symm))]
  exact t.2 p hp⟩
section
variable {K : PySem.W.Frag} {g : Cfg} {ph r r' : List Addr} {H H' : Hp}
theorem Xv.shut {B : List Addr} {p : Addr} {o : HO} (hp : p ∈ B) {d : Option Addr} : ∀ {x : Option (Str × PyData)}, Xv K B H d x → Xv K B (upd H p o) d x
  | none, _ => trivial
  | some (f, y), h => by
    obtain ⟨dd, w, e1, e, n, t⟩ := h
    exact ⟨dd, w, e1, by rw [upd_ne (fun z => n (by rw [z]; exact hp))]; exact e, n, Dr.shut hp t⟩
theorem Mv.shut {p : Addr} {o : HO} (hp : p ∈ ph ++ r) : ∀ {m : M} {v : V}, Mv K g ph r H m v → Mv K g ph r (upd H p o) m v
  | .d _, _, h => Dr.shut hp h
  | .loc n, _, h => h
  | .ro _, _, h => by
    obtain ⟨a, vs, rfl, e, t⟩ := h
    refine ⟨a, vs, rfl, e.imp (fun q => ?_) id, DrAll.shut hp t⟩
    obtain ⟨o, e, n⟩ := q
    exact ⟨o, by rw [upd_ne (fun z => n (by rw [z]; exact hp))]; exact e, n⟩
  | .pr _, _, h => by
    obtain ⟨a, vs, rfl, ⟨e, n⟩, t⟩ := h
    exact ⟨a, vs, rfl, ⟨by rw [upd_ne (fun z => n (by rw [z]; exact hp))]; exact e, n⟩, DrAll.shut hp t⟩
  | .fn _, _, h => h
  | .ty _, _, h => h
  | .kdc _ _, _, h => h
  | .exn _ _, _, h => by
    obtain ⟨a, d, e1, rfl, t⟩ := h
    exact ⟨a, d, e1, rfl, Xv.shut hp t⟩
theorem Ov.shut {p : Addr} {o : HO} (hp : p ∈ ph ++ r) {x : O} {u : HO} (h : Ov K g ph r H x u) : Ov K g ph r (upd H p o) x u := by
  cases x with
  | lst xs =>
    cases u with
    | lst vs => exact Paired.mapP h fun _ _ => Mv.shut (g := g) hp
    | _ => exact h
  | dct kvs =>
    cases u with
    | dK ws => exact Paired.mapP h fun _ _ z => ⟨z.1, Mv.shut (g := g) hp z.2⟩
    | _ => exact h
theorem Ev.shut {p : Addr} {o : HO} (hp : p ∈ ph ++ r) {e : Env1} {s : L2.St} (h : Ev K g ph r H e s) : Ev K g ph r (upd H p o) e s := Paired.mapP h fun m v z => by
  cases m with
  | none => trivial
  | some m =>
    cases v with
    | none => exact z
    | some v => exact Mv.shut hp z
/-- a foreign object is changed -/
theorem So.shut {S : Sto} {p : Addr} {o o' : HO} (s : So K g ph r S H) (hp : p ∈ ph) (e : H p = some o) (n1 : ∀ ps, o ≠ .tbl ps) (n2 : ∀ φ, o ≠ .ext φ) (ho : ∀ ps, o' ≠ .tbl ps := by intro _ z; cases z) : So K g ph r S (upd H p o') := by
  refine ⟨s.len, s.nd, s.dis, fun a ha => ?_, fun n u q => ?_, tabs_upd e n1 n2 s.tabs, fun q hq => Ev.shut (List.mem_append_left _ hp) (s.kp q hq)⟩
  · by_cases h : a = p
    · exact ⟨o', by rw [h, upd_same], ho⟩
    · obtain ⟨u, q, t⟩ := s.there a ha
      exact ⟨u, by rw [upd_ne h]; exact q, t⟩
  · obtain ⟨a, w, e1, e2, e3⟩ := s.at_ n u q
    have hne : a ≠ p := fun z => s.dis p hp (by rw [← z]; exact List.mem_of_getElem? e1)
    exact ⟨a, w, e1, by rw [upd_ne hne]; exact e2, e3.shut (List.mem_append_left _ hp)⟩
/-- an owned object is changed -/
theorem So.put {S : Sto} {n : Nat} {p : Addr} {o o' : HO} {x : O} (s : So K g ph r S H) (hn : r[n]? = some p) (e : H p = some o) (n1 : ∀ ps, o ≠ .tbl ps) (n2 : ∀ φ, o ≠ .ext φ) (hv : Ov K g ph r H x o') (ho : ∀ ps, o' ≠ .tbl ps := by intro _ z; cases z) : So K g ph r (S.set n x) (upd H p o') := by
  have hp : p ∈ r := List.mem_of_getElem? hn
  have hpB : p ∈ ph ++ r := List.mem_append_right _ hp
  refine ⟨by rw [List.length_set]; exact s.len, s.nd, s.dis, fun a ha => ?_, fun k u q => ?_, tabs_upd e n1 n2 s.tabs, fun q hq => Ev.shut hpB (s.kp q hq)⟩
  · by_cases h : a = p
    · exact ⟨o', by rw [h, upd_same], ho⟩
    · obtain ⟨u, q, t⟩ := s.there a ha
      exact ⟨u, by rw [upd_ne h]; exact q, t⟩
  · by_cases hk : k = n
    · subst hk
      have hl : k < S.length := by rw [← s.len]; exact (List.getElem?_eq_some_iff.mp hn).1
      rw [List.getElem?_set_self hl] at q
      cases q
      exact ⟨p, o', hn, by rw [upd_same], hv.shut hpB⟩
    · rw [List.getElem?_set_ne (Ne.symm hk)] at q
      obtain ⟨a, w, e1, e2, e3⟩ := s.at_ k u q
      have hne : a ≠ p := fun z => by
        subst z
        exact hk (nodup_at s.nd e1 hn)
      exact ⟨a, w, e1, by rw [upd_ne hne]; exact e2, e3.shut hpB⟩
/-- a new object is owned -/
theorem So.own {S : Sto} {p : Addr} {o : HO} {x : O} (s : So K g ph r S H) (hp : H p = none) (hv : Ov K g ph (r ++ [p]) (upd H p o) x o) : So K g ph (r ++ [p]) (S ++ [x]) (upd H p o) := by
  have x1 : Ext r H (r ++ [p]) (upd H p o) := Ext.own hp
  have fr := s.fresh hp
  refine ⟨by simp [s.len], ?_, fun a ha z => ?_, fun a ha => ?_, fun k u q => ?_, s.tabs.ext fun b u e => by rw [upd_ne (ne_of_none e hp)]; exact e, fun q hq => (s.kp q hq).mono x1⟩
  · refine List.nodup_append.mpr ⟨s.nd, by simp, fun a ha b hb => ?_⟩
    rw [List.mem_singleton.mp hb]
    exact fun z => fr (List.mem_append_right _ (by rw [← z]; exact ha))
  · rcases List.mem_append.mp z with z | z
    · exact s.dis a ha z
    · rw [List.mem_singleton.mp z] at ha
      exact fr (List.mem_append_left _ ha)
  · obtain ⟨u, e, t⟩ := s.there a ha
    exact x1.stay a u e t
  · by_cases hk : k < S.length
    · rw [List.getElem?_append_left hk] at q
      obtain ⟨a, w, e1, e2, e3⟩ := s.at_ k u q
      exact ⟨a, w, by rw [List.getElem?_append_left (by rw [s.len]; exact hk)]; exact e1, by rw [upd_ne (ne_of_none e2 hp)]; exact e2, e3.mono x1⟩
    · rw [List.getElem?_append_right (by omega)] at q
      have hk2 : k - S.length = 0 := by
        by_cases hz : k - S.length = 0
        · exact hz
        · rw [List.getElem?_eq_none (by simp; omega)] at q
          cases q
      rw [hk2] at q
      cases q
      exact ⟨p, o, by rw [List.getElem?_append_right (by rw [s.len]; omega), s.len, hk2]; rfl, by rw [upd_same], hv⟩
theorem Mv.less {ph' : List Addr} (h : ∀ a, a ∈ ph' → a ∈ ph) : ∀ {m : M} {v : V}, Mv K g ph r H m v → Mv K g ph' r H m v := by
  have hB : ∀ a, a ∈ ph' ++ r → a ∈ ph ++ r := fun a ha => by
    rcases List.mem_append.mp ha with z | z
    · exact List.mem_append_left _ (h a z)
    · exact List.mem_append_right _ z
  intro m v q
  cases m with
  | d x => exact Dr.less hB q
  | loc n => exact q
  | ro xs =>
    obtain ⟨a, vs, e1, e, t⟩ := q
    refine ⟨a, vs, e1, e.imp (fun q => ?_) id, DrAll.less hB t⟩
    obtain ⟨o, e, n⟩ := q
    exact ⟨o, e, fun z => n (hB a z)⟩
  | pr xs =>
    obtain ⟨a, vs, e1, ⟨e, n⟩, t⟩ := q
    exact ⟨a, vs, e1, ⟨e, fun z => n (hB a z)⟩, DrAll.less hB t⟩
  | fn a => exact q
  | ty n => exact q
  | kdc a ks => exact q
  | exn c x =>
    obtain ⟨a, d, e1, e2, t⟩ := q
    refine ⟨a, d, e1, e2, ?_⟩
    cases x with
    | none => trivial
    | some p =>
      obtain ⟨f, y⟩ := p
      obtain ⟨dd, w, h1, e, n, t⟩ := t
      exact ⟨dd, w, h1, e, fun z => n (hB dd z), Dr.less hB t⟩
theorem So.less {S : Sto} {ph' : List Addr} (s : So K g ph r S H) (h : ∀ a, a ∈ ph' → a ∈ ph) : So K g ph' r S H := by
  refine ⟨s.len, s.nd, fun a ha => s.dis a (h a ha), fun a ha => s.there a (h a ha), fun n u e => ?_, s.tabs, fun q hq => Paired.mapP (s.kp q hq) fun m v z => ?_⟩
  rotate_left
  · cases m with
    | none => trivial
    | some m =>
      cases v with
      | none => exact z
      | some v => exact Mv.less (g := g) h z
  obtain ⟨a, w, e1, e2, e3⟩ := s.at_ n u e
  refine ⟨a, w, e1, e2, ?_⟩
  cases u with
  | lst xs =>
    cases w with
    | lst vs => exact Paired.mapP e3 fun _ _ z => Mv.less (g := g) h z
    | _ => exact e3
  | dct kvs =>
    cases w with
    | dK ws => exact Paired.mapP e3 fun _ _ z => ⟨z.1, Mv.less (g := g) h z.2⟩
    | _ => exact e3
/-- what was not there is changed -/
theorem Ext.over {D : Addr} {o : HO} (x : Ext r H r' H') (h : H D = none) : Ext r H r' (upd H' D o) := by
  refine ⟨fun a u e n t => ?_, fun a u e t => ?_, x.pre⟩
  · rw [upd_ne (ne_of_none e h)]; exact x.keep a u e n t
  · rw [upd_ne (ne_of_none e h)]; exact x.stay a u e t
end

/-! ### comprehensions -/
def R.nox {α : Type} (x : R α) : R α := match x with
  | .ok a S => .ok a S
  | _ => .bad
def lcL (ft : M → Env1 → Option Env1) (tt : Env1 → Sto → R Bool) (fe : Env1 → Sto → R M) : List M → Env1 → Sto → List PyData → R M
  | [], _, S, acc => .ok (.d (.list acc)) S
  | x :: xs, e, S, acc => match ft x e with
    | none => .bad
    | some e1 => (tt e1 S).nox.bind fun b S1 => if b then (fe e1 S1).nox.bind (fun m S2 => match m with
        | .d y => if acc.length < sizeLine then lcL ft tt fe xs e S2 (acc ++ [y]) else .bad
        | _ => .bad) else lcL ft tt fe xs e S1 acc
def eLc (vs : List Nat) (fi : Env1 → Sto → R (List M)) (ft : M → Env1 → Option Env1) (tt : Env1 → Sto → R Bool) (fe : Env1 → Sto → R M) : Env1 → Sto → R M := fun e S => (fi e S).bind fun items S1 => lcL ft tt fe items (wipeE e vs) S1 []
abbrev W0 : WX := fun _ _ _ _ => False
def tYesM : Env1 → Sto → R Bool := fun _ S => .ok true S
abbrev MTs (X : Cx) (g : Cfg) (W : WX) (ifs : List Expr) (f : Env1 → Sto → R Bool) : Prop := PTs X ifs (tMT X.K g W f)
theorem PTs.of {X : Cx} {e : List Expr} {t t' : TT} (h : PTs X e t) (w : ∀ s H Q, t' s H Q → t s H Q) : PTs X e t' := ⟨fun pins s q H Q I z => h.run pins s q H Q I (w _ _ _ z)⟩
theorem mts_nil {X : Cx} {g : Cfg} {W : WX} : MTs X g W [] tYesM := PTs.of pts_nil fun s H Q ⟨ph, r, S, e, so, ev, h⟩ => h r H true (.refl _ _) so rfl
theorem mts_one {X : Cx} {g : Cfg} {W : WX} {c : Expr} {t : Env1 → Sto → R Bool} (h : MT X g W c t) : MTs X g W [c] t := pts_one h
section
variable {X : Cx} {g : Cfg} {W : WX} {pos : Pos}
theorem tLc_of {own : List Nat} {fi : Env1 → Sto → R (List M)} {ft : M → Env1 → Option Env1} {ftt : Env1 → Sto → R Bool} {fe : Env1 → Sto → R M} {K : PySem.W.Frag} (s : L2.St) (H : Hp) (Q : VK) (h : tM K g W (eLc own fi ft ftt fe) s H Q) :
    tLc (tMI K g W fi) (tMG K g own ft) (tMT K g W0 ftt) (tM K g W0 fe) own s H Q := by
  obtain ⟨ph, r, S, e, so, ev, h⟩ := h
  refine tG.bind so ev h fun items J S1 r1 H1 x1 so1 ev1 m1 h1 => ?_
  intro D hD
  have hm : ∀ a, a ∈ D :: ph → a ∈ ph ∨ H1 a = none := fun a ha => by
    rcases List.mem_cons.mp ha with z | z
    · rw [z]; exact .inr hD
    · exact .inl z
  have hl : ∀ a, a ∈ ph → a ∈ D :: ph := fun a ha => List.mem_cons_of_mem _ ha
  have G := m1 (D :: ph) hl hm
  have ev2 : Ev K g (D :: ph) r1 H1 (wipeE e own) (L2.wipe s own) := (ev1.more hm hl).wipe own
  refine ⟨fun i m H' => ∃ r' S' acc va, Ext r1 H1 r' H' ∧ So K g (D :: ph) r' S' H' ∧ H' D = some (.lst va) ∧ DrAll K ((D :: ph) ++ r') H' va acc ∧ i ≤ items.length ∧ m = items.length - i ∧
    Post PV K g (fun c d H' => W c d s H') ph r1 H1 (lcL ft ftt fe (items.drop i) (wipeE e own) S' acc) Q, ⟨items.length, r1, S1, [], [], Ext.new hD, so1.more hD, upd_same, .nil, Nat.zero_le _, rfl, h1⟩, ?_⟩
  rintro i m H' ⟨r', S', acc, va, x', so', eD, da, hi', rfl, h'⟩
  obtain ⟨G1, G2⟩ := G r' S' H' x' so' i
  by_cases hlt : i < items.length
  · have hd : items.drop i = items[i] :: items.drop (i + 1) := List.drop_eq_getElem_cons hlt
    rw [hd] at h'
    obtain ⟨g1, g2⟩ := G1 items[i] (List.getElem?_eq_getElem hlt)
    refine .inr ⟨g1, fun H2 => ∃ r2 S2 acc2 va2, Ext r1 H1 r2 H2 ∧ So K g (D :: ph) r2 S2 H2 ∧ H2 D = some (.lst va2) ∧ DrAll K ((D :: ph) ++ r2) H2 va2 acc2 ∧
      Post PV K g (fun c d H' => W c d s H') ph r1 H1 (lcL ft ftt fe (items.drop (i + 1)) (wipeE e own) S2 acc2) Q, fun H2 hN => ?_, fun x H2 hy => ?_⟩
    · obtain ⟨r2, S2, acc2, va2, y2, so2, e2, d2, h2⟩ := hN
      exact ⟨items.length - (i + 1), by omega, r2, S2, acc2, va2, y2, so2, e2, d2, hlt, rfl, h2⟩
    · obtain ⟨y, so2, mv⟩ := g2 x H2 hy
      unfold lcL at h'
      cases q : ft items[i] (wipeE e own) with
      | none => rw [q] at h'; exact h'.elim
      | some e2 =>
        rw [q] at h'
        dsimp only at h'
        refine ⟨D :: ph, r', S', wipeE e own, items[i], e2, so2, ev2.mono (x'.trans y), mv, q, fun r3 H3 s3 y3 so3 ev3 off => ⟨?_, ?_⟩⟩
        · exact off.wipe.trans ((wipe_off s own).wipe)
        · have keepD : ∀ {r r' : List Addr} {H H' : Hp} {S : Sto} {va : List V}, So K g (D :: ph) r S H → Ext r H r' H' → H D = some (.lst va) → H' D = some (.lst va) := fun so x e => x.keep D _ e (so.dis D List.mem_cons_self) (fun _ z => by cases z)
          have e3 := keepD so2 y3 (keepD so' y eD)
          have d3 : DrAll K ((D :: ph) ++ r3) H3 va acc := DrAll.mono y3 (DrAll.mono y da)
          have x3 := x'.trans (y.trans y3)
          refine ⟨D :: ph, r3, S', e2, so3, ev3, ?_⟩
          cases q2 : ftt e2 S' with
          | ok b S4 =>
            rw [q2] at h'
            intro r4 H4 b' y4 so4 eb
            cases eb
            have e4 := keepD so3 y4 e3
            have d4 : DrAll K ((D :: ph) ++ r4) H4 va acc := DrAll.mono y4 d3
            cases b with
            | false => exact ⟨r4, S4, acc, va, x3.trans y4, so4, e4, d4, h'⟩
            | true =>
              simp only [R.nox, R.bind, if_true] at h'
              rw [if_pos rfl]
              refine ⟨D :: ph, r4, S4, e2, so4, ev3.mono y4, ?_⟩
              cases q5 : fe e2 S4 with
              | ok m5 S5 =>
                rw [q5] at h'
                intro r5 H5 v5 y5 so5 m5'
                have e5 := keepD so4 y5 e4
                have d5 : DrAll K ((D :: ph) ++ r5) H5 va acc := DrAll.mono y5 d4
                cases m5 with
                | d y6 =>
                  dsimp only at h'
                  by_cases hz : acc.length < sizeLine
                  · rw [if_pos hz] at h'
                    have hin : D ∈ (D :: ph) ++ r5 := List.mem_append_left _ List.mem_cons_self
                    refine ⟨va, e5, by rw [d5.length]; exact hz, r5, S5, acc ++ [y6], va ++ [v5], (x3.trans (y4.trans y5)).over hD, so5.shut List.mem_cons_self e5 (fun _ z => by cases z) (fun _ z => by cases z), upd_same, ?_, h'⟩
                    exact (DrAll.shut hin d5).snoc (Dr.shut hin m5')
                  · rw [if_neg hz] at h'; exact h'.elim
                | _ => exact h'.elim
              | rz c x S => rw [q5] at h'; exact h'.elim
              | bad => rw [q5] at h'; exact h'.elim
          | rz c x S => rw [q2] at h'; exact h'.elim
          | bad => rw [q2] at h'; exact h'.elim
  · have e0 : items.drop i = [] := List.drop_of_length_le (by omega)
    rw [e0] at h'
    refine .inl ⟨G2 (by omega), h' r' H' (.ref D) x' (so'.less hl) ?_⟩
    have hDn : D ∉ ph ++ r' := fun z => by
      rcases List.mem_append.mp z with z | z
      · obtain ⟨o, e, _⟩ := so1.there D z
        rw [hD] at e; cases e
      · exact so'.dis D List.mem_cons_self z
    refine .lst eD hDn (DrAll.less (fun a ha => ?_) da)
    rcases List.mem_append.mp ha with z | z
    · exact List.mem_append_left _ (hl a z)
    · exact List.mem_append_right _ z
variable {elt tg iter : Expr} {ifs : List Expr} {scope : Scope} {own : List (Str × Nat)} {fi : Env1 → Sto → R (List M)} {ft : M → Env1 → Option Env1} {ftt : Env1 → Sto → R Bool} {fe : Env1 → Sto → R M}
theorem me_lc (hc : X.calm = true) (hN : X.N.Nodup) (hi : MI X g W tg iter fi) (ok : BlkOk X.N X.env.scope scope own)
    (hg : ∀ (s : Shared) (H : Hp) (C : Addr) (cl : List (Str × Addr)) (fp : List Addr), MG (X.blk s H scope (compEnvC scope cl C X.env) fp) g (own.map (·.2)) tg ft) (ht : ∀ (s : Shared) (H : Hp) (C : Addr) (cl : List (Str × Addr)) (fp : List Addr), MTs (X.blk s H scope (compEnvC scope cl C X.env) fp) g W0 ifs ftt)
    (he : ∀ (s : Shared) (H : Hp) (C : Addr) (cl : List (Str × Addr)) (fp : List Addr), ME (X.blk s H scope (compEnvC scope cl C X.env) fp) g W0 elt fe) (hs : ∀ x, foldedSetIterable iter X.env x = pure x := by intro _; rfl) :
    ME X g W (.ListComp elt [⟨tg, iter, ifs, 0⟩] scope pos) (eLc (own.map (·.2)) fi ft ftt fe) := PE.of (pe_lc hc hN hi ok hg ht he hs) tLc_of
theorem ms_setLc (i : Nat) {y : Str} {py spos : Pos} (hc : X.calm = true) (hN : X.N.Nodup) (hi : MI X g W tg iter fi) (ok : BlkOk X.N X.env.scope scope own)
    (hg : ∀ (s : Shared) (H : Hp) (C : Addr) (cl : List (Str × Addr)) (fp : List Addr), MG (X.blk s H scope (compEnvC scope cl C X.env) fp) g (own.map (·.2)) tg ft) (ht : ∀ (s : Shared) (H : Hp) (C : Addr) (cl : List (Str × Addr)) (fp : List Addr), MTs (X.blk s H scope (compEnvC scope cl C X.env) fp) g W0 ifs ftt)
    (he : ∀ (s : Shared) (H : Hp) (C : Addr) (cl : List (Str × Addr)) (fp : List Addr), ME (X.blk s H scope (compEnvC scope cl C X.env) fp) g W0 elt fe)
    (hsw : swapsWith (.ListComp elt [⟨tg, iter, ifs, 0⟩] scope pos) (some (.Name y py)) spos.line X.env = pure true) (hy : X.N[i]? = some y := by rfl) (hyl : X.env.scope.names.lookup y = some .local := by rfl) (hs : ∀ x, foldedSetIterable iter X.env x = pure x := by intro _; rfl) :
    MS X g W (.Assign [.Name y py] (.ListComp elt [⟨tg, iter, ifs, 0⟩] scope pos) spos) (sSet i (eLc (own.map (·.2)) fi ft ftt fe)) := by
  refine PS.of (ps_setLc (g := tMG X.K g (own.map (·.2)) ft) (tt := tMT X.K g W0 ftt) (te := tM X.K g W0 fe) hc hN hy hyl hsw hi ok hg ht he hs) fun D s H h => ?_
  obtain ⟨ph, r, S, e, so, ev, h⟩ := h
  refine tLc_of s H _ ?_
  exact tG.bindS so ev h fun m v S1 r1 H1 x1 so1 ev1 m1 h1 => h1 r1 H1 _ (.refl _ _) so1 (ev1.set i m1)
end

/-! ### what a def promises -/
def spM (K : PySem.W.Frag) (g : Cfg) (n : Nat) (f : List M → Sto → R M) : Sp := fun vs H Q E =>
  ∃ ph r S ms, ms.length = n ∧ So K g ph r S H ∧ Paired (Mv K g ph r H) ms vs ∧ Post PV K g E ph r H (f ms S) Q
/-- a body's outcome as an answer; what the def made is let go -/
def below (n : Nat) : M → Bool
  | .loc k => decide (k < n)
  | .exn _ _ => false
  | _ => true
def oBelow (n : Nat) : O → Bool
  | .lst xs => xs.all (below n)
  | .dct kvs => kvs.all fun kv => below n kv.2
def ansOf (o : Out) : R M := match o with
  | .nx _ S => .ok (.d .none) S
  | .rt m S => .ok m S
  | .rz c x _ S => .rz c x S
  | _ => .bad
/-- the mirror of a def: N names, the arguments first -/
def fnM (N : Nat) (body : Env1 → Sto → Out) : List M → Sto → R M := fun ms S => ansOf (body (ms.map some ++ List.replicate (N - ms.length) none) S)
theorem Paired.append' {α β : Type} {P : α → β → Prop} : ∀ {as : List α} {bs : List β} {as' : List α} {bs' : List β}, Paired P as bs → Paired P as' bs' → Paired P (as ++ as') (bs ++ bs')
  | _, _, _, _, .nil, h => h
  | _, _, _, _, .cons a t, h => .cons a (Paired.append' t h)
theorem Paired.len' {α β : Type} {P : α → β → Prop} : ∀ {as : List α} {bs : List β}, Paired P as bs → as.length = bs.length
  | _, _, .nil => rfl
  | _, _, .cons _ t => by rw [List.length_cons, List.length_cons, Paired.len' t]
theorem ev_start {K : PySem.W.Frag} {g : Cfg} {ph r : List Addr} {H : Hp} {N : List Str} {ms : List M} {vs : List V} (h : Paired (Mv K g ph r H) ms vs) : Ev K g ph r H (ms.map some ++ List.replicate (N.length - ms.length) none) (L2.start N vs) := by
  have e := Paired.len' h
  unfold L2.start
  rw [e]
  refine Paired.append' ?_ ?_
  · clear e
    induction h with
    | nil => exact .nil
    | cons a t ih => exact .cons a ih
  · generalize N.length - vs.length = n
    induction n with
    | zero => exact .nil
    | succ n ih => exact .cons trivial ih
section
variable {P : Program} {w : World} {K : PySem.W.Frag} {mg : Str → Option Value} {base : Heap} {g : Cfg}
theorem body_of {N : List Str} {n : Nat} {body : Env1 → Sto → Out} {vs : List V} {H : Hp} {Q : VK} {E : XK} (h : spM K g n (fnM N.length body) vs H Q E) : tMS K g (fun c d _ H' => E c d H') body { nx := fun _ H' => Q .non H', rt := Q } (L2.start N vs) H := by
  obtain ⟨ph, r, S, ms, hn, so, mv, h⟩ := h
  refine ⟨ph, r, S, _, so, ev_start mv, ?_⟩
  unfold fnM at h
  cases q : body (ms.map some ++ List.replicate (N.length - ms.length) none) S with
  | nx e S1 => rw [q] at h; exact fun r1 H1 s1 x1 so1 ev1 => h r1 H1 .non x1 so1 .non
  | rt m S1 => rw [q] at h; exact fun r1 H1 v x1 so1 m1 => h r1 H1 v x1 so1 m1
  | bk e S1 => rw [q] at h; exact h.elim
  | ct e S1 => rw [q] at h; exact h.elim
  | rz c x e S1 => rw [q] at h; exact fun r1 H1 s1 d x1 so1 ev1 z => h r1 H1 d x1 so1 z
  | bad => rw [q] at h; exact h.elim
/-- a def's promise where no guard stands around (for repr) -/
structure FnG (gd : Bool) (P : Program) (w : World) (K : PySem.W.Frag) (mg : Str → Option Value) (base : Heap) (k : Nat) (f : Addr) (fd : FuncData) (ps : List Str) (sp : Sp) : Prop where
  len : ∀ vs H Q E, sp vs H Q E → vs.length = ps.length
  run : ∀ (A : Around) (fr : List Env) (s : Shared) (H : Hp) (args : Args) (us : List Value) (vs : List V) (Q : VK) (E : XK), Room k A → (gd = true → A.guards = some []) → Env0 P w K mg base A fr s H →
    BindsTo s fd args (ps.zip us) → Vals vs us → sp vs H Q E → codeAny (model P w) A (.call (.ref f) args) (CR (L2.CX P w) fr P w H s Q E) s
theorem FnG.mono {gd : Bool} {j k : Nat} {f : Addr} {fd : FuncData} {ps : List Str} {sp : Sp} (F : FnG gd P w K mg base j f fd ps sp) (h : j ≤ k) : FnG gd P w K mg base k f fd ps sp :=
  ⟨F.len, fun A fr s H args us vs Q E hr => F.run A fr s H args us vs Q E (hr.mono h)⟩
theorem deeper_guards {gd : Bool} {A : Around} {env : Env} (h : gd = true → A.guards = some []) : gd = true → (A.deeper env).guards = some [] := fun e => by
  have h := h e
  first
    | exact h
    | simpa [Around.deeper, pushGuards] using h
/-- a def (that may raise) keeps what its mirror tells -/
theorem fn_ok {gd : Bool} {x qual : Str} {st : Stmt} {f : Addr} {fd : FuncData} {N ps : List Str} {k : Nat} {sp : Sp} (F : Fun K x qual st f fd) (S : FnScope N ps (defScope st)) (len : ∀ vs H Q E, sp vs H Q E → vs.length = ps.length)
    (hbody : ∀ (cdv : Value) (A : Around) (fr : List Env) (s : Shared) (H : Hp) (vs : List V) (Q : VK) (E : XK), Room k (A.deeper (envOfC qual (defScope st) s.heap.objs.size f cdv)) → (gd = true → (A.deeper (envOfC qual (defScope st) s.heap.objs.size f cdv)).guards = some []) → sp vs H Q E →
      ∃ t, PSs (cxOf (L2.CX P w) P w K mg base N qual (defScope st) f cdv A fr s H E) (defBody st) t ∧ t { nx := fun _ H' => Q .non H', rt := Q } (L2.start N vs) H) : FnG gd P w K mg base (k + 1) f fd ps sp := by
  obtain ⟨oc, od, kV, doc, pm, an, cdv, ct, osl, rfl, lk, hcd⟩ := F.ex
  refine ⟨len, fun A fr s H args us vs Q E hr hG e0 hb r hsp => ?_⟩
  have vl := len _ _ _ _ hsp
  have inK : K.In s.heap := e0.mod.kin.keeps fun b o e => (e0.bs b o e).1
  have noLim : s.heap.NoLimit := e0.mod.nolimit.keeps fun b o e => (e0.bs b o e).1
  have kinds : ∀ y ∈ ps.zip us, (defScope st).names.lookup y.1 = some .local ∨ ((defScope st).names.lookup y.1 = some .cell ∧ ((cellsFrom (s.heap.objs.size + 1) (defScope st).names []).lookup y.1).isSome = true) := fun y hy =>
    (S.par y.1 (List.of_mem_zip (show (y.1, y.2) ∈ ps.zip us from hy)).1).imp id fun q => ⟨q, PySem.W.cellsFrom_some _ _ _ (.inl q)⟩
  refine codeAny_call_function hr.depth (inK _ _ lk) rfl S.co S.gen rfl (PySem.W.codeRec_of inK hcd) (hb _ _ _ _ ?_)
  refine wpAny_newFunctionEnv_cells S.kind kinds fun env he st1 ic => ?_
  cases he
  refine ⟨noLim.keeps ic.toInCall.keep, codeAny_func ?_⟩
  obtain ⟨t, ht, hq⟩ := hbody cdv A fr s H vs Q E (hr.deeper _) (deeper_guards hG) hsp
  have J0 : Inv (cxOf (L2.CX P w) P w K mg base N qual (defScope st) f cdv A fr s H E) [] (L2.start N vs) H st1 := inv_start S hr.hd e0 vl r ic
  refine wpAny_mono (ht.run [] st1 (L2.start N vs) H _ J0 hq) (fun fl s' hs => ?_) fun _ _ z => z
  cases fl with
  | next =>
    obtain ⟨q1, H1, J, z⟩ := hs
    exact ⟨.non, H1, J.os, J.bare, J.base, J.hok, rfl, z⟩
  | ret u =>
    obtain ⟨v, q1, H1, J, rv, z⟩ := hs
    exact ⟨v, H1, J.os, J.bare, J.base, J.hok, rv, z⟩
  | brk => exact hs.elim fun _ z => z.elim fun _ z => z.2.elim
  | cont => exact hs.elim fun _ z => z.elim fun _ z => z.2.elim
theorem spM_len {n : Nat} {f : List M → Sto → R M} {ps : List Str} (hn : n = ps.length) (vs : List V) (H : Hp) (Q : VK) (E : XK) (h : spM K g n f vs H Q E) : vs.length = ps.length := by
  obtain ⟨ph, r, S, ms, hm, so, mv, h⟩ := h
  rw [← Paired.len' mv, hm, hn]
end
section
variable {X : Cx} {g : Cfg} {W : WX} {pos p : Pos} {x : Str} {f : Addr} {fd : FuncData} {ps : List Str} {k n : Nat} {fm : List M → Sto → R M} {a : Expr} {es : List Expr} {fs : Env1 → Sto → R (List M)}
theorem run_g {gd : Bool} {sp : Sp} {E : XK} {pins : List (Addr × Obj)} {s : L2.St} {H : Hp} {sh : Shared} {Q : VK} {args : Args} {us : List Value} {vs : List V} (F : FnG gd X.prog X.w X.K X.mg X.base k f fd ps sp) (hr : Room k X.A) (hG : gd = true → X.A.guards = some []) (tk : Takes X W) (hE : ∀ c d H', E c d H' → W c d s H')
    (I : Inv X pins s H sh) (hb : BindsTo sh fd args (ps.zip us)) (r : Vals vs us) (h : sp vs H Q E) : wpAny (model X.prog X.w) X.A (call (.ref f) args.1 args.2) (EP X pins s Q) X.xe sh := by
  refine wpAny_call (codeAny_mono (F.run X.A X.stack sh H args us vs Q E hr hG I.env0 hb r h) fun res sh' hq => ?_)
  match res, hq with
  | .error e, hq => exact tk e sh' (XE.of_call I hE hq)
  | .ok (.ret u), hq => exact I.after hq
  | .ok .next, hq => exact hq.elim
  | .ok .brk, hq => exact hq.elim
  | .ok .cont, hq => exact hq.elim
/-- what binds: positional values, then the keywords' ones, as the parameters stand -/
def permL {α : Type} (d : α) (perm : List Nat) (xs : List α) : List α := perm.map fun i => xs.getD i d
def eCallK (perm : List Nat) (f : List M → Sto → R M) (a : Env1 → Sto → R (List M)) : Env1 → Sto → R M := fun e S => (a e S).bind fun ms S1 => f (permL (.d .none) perm ms) S1
theorem me_call {gd : Bool} (G : FnG gd X.prog X.w X.K X.mg X.base k f fd ps (spM X.K g n fm)) (hr : Room k X.A) (hG : gd = true → X.A.guards = some []) (tk : Takes X W) (hm : X.mg x = some (.ref f)) (hk : PySem.W.keepIn X.K (.ref f) = true) (hb : Binds X.K fd ps []) (ha : MA X g W (a :: es) fs) (hn : (a :: es).length = n := by rfl) (hl : ∀ e S ms S', fs e S = .ok ms S' → ms.length = (a :: es).length)
    (hg : Gl X x := by rfl) (hdb : (x == ("__debug__" : Str)) = false := by decide) (he : starEach (a :: es) X.env = (false, eval a X.env) :: starEach es X.env := by rfl) (hpl : (backTo pos (starEach es X.env)).any (·.1) = false := by rfl) :
    ME X g W (.Call (.Name x p) (a :: es) [] pos) (eCall fm fs) := by
  refine ⟨fun pins sh s H Q I h => ?_⟩
  obtain ⟨ph, r, S, e, so, ev, h⟩ := h
  refine wpAny_Call_Name_kw (ld_glob I hg hm ?_ hdb)
  have h2 : tG PVs X.K g W fs s H (fun vs H1 => spM X.K g n fm vs H1 Q (fun c d H' => W c d s H')) := by
    refine ⟨ph, r, S, e, so, ev, ?_⟩
    unfold eCall at h
    cases q : fs e S with
    | ok ms S1 =>
      rw [q] at h
      exact fun r1 H1 vs x1 so1 m1 => ⟨ph, r1, S1, ms, (hl e S ms S1 q).trans hn, so1, m1, Post.mono x1 h⟩
    | rz c y S1 => rw [q] at h; exact h
    | bad => rw [q] at h; exact h
  refine PySem.W.callWith_K (h₀ := X.base) I.ok.mod.kin hk (thn (ha.run pos pins sh s H _ I h2) fun us s1 ⟨vs, H1, I1, rr, q⟩ => ⟨I1.kIn, ?_⟩) he hpl
  have hlen : us.length = ps.length := by rw [← rr.length]; exact G.len _ _ _ _ q
  have b := hb s1 us I1.kIn (by rw [List.append_nil]; exact hlen)
  rw [List.append_nil] at b
  exact run_g (args := ⟨us, []⟩) G hr hG tk (fun _ _ _ z => z) I1 b rr q
/-- f(.., k = v, ..) -/
abbrev tMK (K : PySem.W.Frag) (g : Cfg) (W : WX) (f : Env1 → Sto → R (List M)) : TA := tG PVs K g W f
abbrev MK (X : Cx) (g : Cfg) (W : WX) (kws : List Keyword) (f : Env1 → Sto → R (List M)) : Prop := PK X kws (tMK X.K g W f)
theorem PK.of {X : Cx} {e : List Keyword} {t t' : TA} (h : PK X e t) (w : ∀ s H Q, t' s H Q → t s H Q) : PK X e t' := ⟨fun pos pins s q H Q I z => h.run pos pins s q H Q I (w _ _ _ z)⟩
theorem mk_nil : MK X g W [] aN := PK.of pk_nil fun s H Q ⟨ph, r, S, e, so, ev, h⟩ => h r H [] (.refl _ _) so .nil
theorem mk_cons {kws : List Keyword} {nm : Option Str} {kpos : Pos} {fa : Env1 → Sto → R M} {ks : Env1 → Sto → R (List M)} (ha : ME X g W a fa) (hb : MK X g W kws ks) : MK X g W (⟨nm, a, kpos⟩ :: kws) (aC fa ks) := by
  refine PK.of (pk_cons ha hb) fun s H Q h => ?_
  obtain ⟨ph, r, S, e, so, ev, h⟩ := h
  refine tG.bind so ev h fun m v S1 r1 H1 x1 so1 ev1 m1 h1 => ?_
  refine tG.bind so1 ev1 h1 fun ms vs S2 r2 H2 x2 so2 ev2 m2 h2 => ?_
  exact h2 r2 H2 (v :: vs) (.refl _ _) so2 (.cons (Mv.mono x2 m1) m2)
def aApp (a b : Env1 → Sto → R (List M)) : Env1 → Sto → R (List M) := fun e S => (a e S).bind fun xs S1 => (b e S1).bind fun ys S2 => .ok (xs ++ ys) S2
theorem permL_rel {α β : Type} {P : α → β → Prop} {da : α} {db : β} (hd : P da db) {xs : List α} {ys : List β} (h : Paired P xs ys) (perm : List Nat) : Paired P (permL da perm xs) (permL db perm ys) := by
  have at_ : ∀ i, P (xs.getD i da) (ys.getD i db) := by
    intro i
    induction h generalizing i with
    | nil => exact hd
    | cons a t ih =>
      cases i with
      | zero => exact a
      | succ i => exact ih i
  unfold permL
  induction perm with
  | nil => exact .nil
  | cons i r ih => exact .cons (at_ i) ih
/-- how a call by names binds; nu values by position -/
def KBind (fd : FuncData) (ps ks : List Str) (nu : Nat) (perm : List Nat) : Prop := ∀ (s : Shared) (us ws : List Value), us.length = nu → ws.length = ks.length → BindsTo s fd ⟨us, ks.zip ws⟩ (ps.zip (permL .none perm (us ++ ws)))
theorem me_callK {gd : Bool} {kws : List Keyword} {ks : List Str} {perm : List Nat} {fk : Env1 → Sto → R (List M)} (G : FnG gd X.prog X.w X.K X.mg X.base k f fd ps (spM X.K g n fm)) (hr : Room k X.A) (hG : gd = true → X.A.guards = some []) (tk : Takes X W) (hm : X.mg x = some (.ref f)) (hk : PySem.W.keepIn X.K (.ref f) = true) (hb : KBind fd ps ks 0 perm) (ha : MK X g W kws fk) (hn : perm.length = n) (hl : ∀ e S ms S', fk e S = .ok ms S' → ms.length = ks.length)
    (hall : (backToKw pos (keywordEach kws X.env)).all (·.1.isSome) = true := by rfl) (hks : (backToKw pos (keywordEach kws X.env)).filterMap (·.1) = ks := by rfl)
    (hg : Gl X x := by rfl) (hdb : (x == ("__debug__" : Str)) = false := by decide) (hpl : ((backTo pos (starEach [] X.env)).any (·.1) || (backToKw pos (keywordEach kws X.env)).any (·.1.isNone)) = false := by rfl) :
    ME X g W (.Call (.Name x p) [] kws pos) (eCallK perm fm fk) := by
  refine ⟨fun pins sh s H Q I h => ?_⟩
  obtain ⟨ph, r, S, e, so, ev, h⟩ := h
  refine wpAny_Call_Name_kw (ld_glob I hg hm ?_ hdb)
  have h2 : tG PVs X.K g W fk s H (fun vs H1 => vs.length = ks.length ∧ spM X.K g n fm (permL .non perm vs) H1 Q (fun c d H' => W c d s H')) := by
    refine ⟨ph, r, S, e, so, ev, ?_⟩
    unfold eCallK at h
    cases q : fk e S with
    | ok ms S1 =>
      rw [q] at h
      refine fun r1 H1 vs x1 so1 m1 => ⟨by rw [← Paired.len' m1]; exact hl e S ms S1 q, ph, r1, S1, _, by unfold permL; rw [List.length_map]; exact hn, so1, permL_rel (show Mv X.K g ph r1 H1 (.d .none) V.non from .non) m1 perm, Post.mono x1 h⟩
    | rz c y S1 => rw [q] at h; exact h
    | bad => rw [q] at h; exact h
  refine PySem.W.callWith_KW0 (h₀ := X.base) I.ok.mod.kin hk hall (thn (ha.run pos pins sh s H _ I h2) fun ws s1 ⟨vs, H1, I1, rr, hv, q⟩ => ⟨I1.kIn, ?_⟩) hpl
  rw [hks]
  have b := hb s1 [] ws rfl (by rw [← rr.length]; exact hv)
  exact run_g (args := ⟨[], ks.zip ws⟩) G hr hG tk (fun _ _ _ z => z) I1 b (permL_rel (show RelV .non .none from rfl) rr perm) q
end
theorem aN_len (e : Env1) (S : Sto) (ms : List M) (S' : Sto) (h : aN e S = .ok ms S') : ms.length = 0 := by cases h; rfl
theorem aC_len {a : Env1 → Sto → R M} {b : Env1 → Sto → R (List M)} {n : Nat} (hb : ∀ e S ms S', b e S = .ok ms S' → ms.length = n) (e : Env1) (S : Sto) (ms : List M) (S' : Sto) (h : aC a b e S = .ok ms S') : ms.length = n + 1 := by
  unfold aC at h
  cases q : a e S with
  | ok m S1 =>
    rw [q] at h
    have h : ((b e S1).bind fun xs S2 => R.ok (m :: xs) S2) = .ok ms S' := h
    cases q2 : b e S1 with
    | ok xs S2 =>
      rw [q2] at h
      cases h
      rw [List.length_cons, hb e S1 xs _ q2]
    | rz c y S2 => rw [q2] at h; cases h
    | bad => rw [q2] at h; cases h
  | rz c y S1 => rw [q] at h; cases h
  | bad => rw [q] at h; cases h
end Mr

end
section
set_option maxRecDepth 100000
set_option autoImplicit false
namespace Mr
open PySem PySem.Spec L2 MrT
open PyProof.Rows hiding St

/-! ### data out of values -/
def dOf : M → Option PyData
  | .d x => some x
  | _ => none
def dsOf : List M → Option (List PyData)
  | [] => some []
  | m :: ms => (dOf m).bind fun x => (dsOf ms).map (x :: ·)
/-- what == sees: data, an owned list of data -/
def asD (m : M) (S : Sto) : Option PyData := match m with
  | .d x => some x
  | .loc n => match S[n]? with
    | some (.lst xs) => (dsOf xs).map .list
    | _ => none
  | _ => none
def flatD : PyData → Bool
  | .none => true
  | .bool _ => true
  | .int _ => true
  | .str _ => true
  | _ => false
def vOf : PyData → V
  | .bool b => .bl b
  | .int i => .int i
  | .str x => .str x
  | _ => .non
section
variable {K : PySem.W.Frag} {g : Cfg} {ph r : List Addr} {H : Hp} {S : Sto}
theorem Dr.flat {B : List Addr} {v : V} {d : PyData} (h : Dr K B H v d) (f : flatD d = true) : v = vOf d := by
  cases h with
  | non => rfl
  | bl b => rfl
  | int i => rfl
  | str x => rfl
  | lst => cases f
  | tup => cases f
  | tupK => cases f
  | dct => cases f
theorem flat_v {d : PyData} (f : flatD d = true) : flatV (vOf d) = true := by
  cases d <;> first | rfl | cases f
theorem flat_eq {a b : PyData} (fa : flatD a = true) (fb : flatD b = true) : eqV (vOf a) (vOf b) = PyData.eqv a b := by
  cases a <;> cases b <;> simp_all [vOf, eqV, PyData.eqv, flatD]
theorem DrAll.flat {B : List Addr} : ∀ {vs : List V} {ds : List PyData}, DrAll K B H vs ds → ds.all flatD = true → vs = ds.map vOf
  | _, _, .nil, _ => rfl
  | _, _, .cons a t, f => by
    rw [List.all_cons, Bool.and_eq_true] at f
    rw [List.map_cons, Dr.flat a f.1, DrAll.flat t f.2]
theorem dsOf_rel : ∀ {ms : List M} {vs : List V} {ds : List PyData}, Paired (Mv K g ph r H) ms vs → dsOf ms = some ds → DrAll K (ph ++ r) H vs ds
  | _, _, _, .nil, h => by cases h; exact .nil
  | _, _, ds, @Paired.cons _ _ _ m v ms vs a t, h => by
    have h : ((dOf m).bind fun x => (dsOf ms).map (x :: ·)) = some ds := h
    cases m with
    | d x =>
      cases q : dsOf ms with
      | none => simp [dOf, q] at h
      | some ds' =>
        simp [dOf, q] at h
        subst h
        exact .cons a (dsOf_rel t q)
    | _ => simp [dOf] at h
mutual
/-- without dicts -/
def noDict : PyData → Bool
  | .list xs => noDictAll xs
  | .tuple xs => noDictAll xs
  | .dict _ => false
  | _ => true
def noDictAll : List PyData → Bool
  | [] => true
  | x :: xs => noDict x && noDictAll xs
end
mutual
theorem Dr.dp {B : List Addr} : ∀ {v : V} {d : PyData}, Dr K B H v d → noDict d = true → Dp K H v d
  | _, _, .non, _ => .non
  | _, _, .bl b, _ => .bl b
  | _, _, .int i, _ => .int i
  | _, _, .str s, _ => .str s
  | _, _, .lst e n h, f => .lst (.inl (.inl e)) (DrAll.dp h f)
  | _, _, .tup e n h, f => .tup e.sq (DrAll.dp h f)
  | _, _, .tupK a b _ c d e h, f => .tup (.inr ⟨_, _, _, a, b, c, d, e⟩) (DrAll.dp h f)
  | _, _, .dct e n l h, f => by cases f
theorem DrAll.dp {B : List Addr} : ∀ {vs : List V} {ds : List PyData}, DrAll K B H vs ds → noDictAll ds = true → DpAll K H vs ds
  | _, _, .nil, _ => .nil
  | _, _, @DrAll.cons _ _ _ v vs d ds h t, f => by
    have f : (noDict d && noDictAll ds) = true := f
    rw [Bool.and_eq_true] at f
    exact .cons (Dr.dp h f.1) (DrAll.dp t f.2)
end
mutual
theorem noDict_of : ∀ d : PyData, d.canLay0 = true → noDict d = true
  | .none, _ => rfl
  | .bool _, _ => rfl
  | .int _, _ => rfl
  | .str _, _ => rfl
  | .list xs, h => noDictAll_of xs (by simpa [PyData.canLay0] using h)
  | .tuple xs, h => noDictAll_of xs (by simpa [PyData.canLay0] using h)
  | .dict _, h => by simp [PyData.canLay0] at h
theorem noDictAll_of : ∀ ds : List PyData, PyData.canLayAll0 ds = true → noDictAll ds = true
  | [], _ => rfl
  | x :: xs, h => by
    have h : (x.canLay0 && PyData.canLayAll0 xs) = true := by simpa [PyData.canLayAll0] using h
    rw [Bool.and_eq_true] at h
    show (noDict x && noDictAll xs) = true
    rw [noDict_of x h.1, noDictAll_of xs h.2]
    rfl
end
theorem asD_dp {m : M} {v : V} {d : PyData} (so : So K g ph r S H) (mv : Mv K g ph r H m v) (q : asD m S = some d) (f : SeqAt.shaped d = true) : Dp K H v d := by
  have nd : noDict d = true := noDict_of d (SeqAt.canLay_of_shaped f)
  cases m with
  | d x => cases q; exact Dr.dp mv nd
  | loc n =>
    obtain ⟨a, e, rfl⟩ := mv
    cases e2 : S[n]? with
    | none => simp only [asD, e2] at q; cases q
    | some o =>
      simp only [asD, e2] at q
      cases o with
      | lst xs =>
        obtain ⟨a', u, h1, h2, h3⟩ := so.at_ n _ e2
        rw [e] at h1; cases h1
        cases u with
        | lst vs =>
          cases q3 : dsOf xs with
          | none => simp [q3] at q
          | some ds =>
            simp [q3] at q
            subst q
            exact .lst (.inl (.inl h2)) (DrAll.dp (dsOf_rel h3 q3) nd)
        | _ => exact h3.elim
      | dct kvs => cases q
  | _ => cases q

/-! ### operators -/
/-- a new object of data comes -/
theorem new_dr {Q : VK} {o : HO} {d : PyData} (so : So K g ph r S H) (k : ∀ r' H' v, Ext r H r' H' → So K g ph r' S H' → Mv K g ph r' H' (.d d) v → Q v H')
    (h : ∀ p, H p = none → p ∉ ph ++ r → Dr K (ph ++ r) (upd H p o) (.ref p) d) : ∀ p, H p = none → Q (.ref p) (upd H p o) := fun p hp =>
  k r _ _ (.new hp) (so.new hp) (h p hp (so.fresh hp))
theorem dr_lst {p : Addr} {vs : List V} {ds : List PyData} (hp : H p = none) (n : p ∉ ph ++ r) (h : DrAll K (ph ++ r) H vs ds) : Dr K (ph ++ r) (upd H p (.lst vs)) (.ref p) (.list ds) := .lst upd_same n (DrAll.mono (Ext.new hp) h)
theorem dr_tup {p : Addr} {o : Obj} {vs : List V} {ds : List PyData} (hp : H p = none) (hd : o.dict = none) (n : p ∉ ph ++ r) (h : DrAll K (ph ++ r) H vs ds) : Dr K (ph ++ r) (upd H p (.frz o (.tup vs))) (.ref p) (.tuple ds) := .tup (TupF.new hd) n (DrAll.mono (Ext.new hp) h)
/-- a new tuple -/
theorem new_tup {Q : VK} {vs : List V} {ds : List PyData} (so : So K g ph r S H) (k : ∀ r' H' v, Ext r H r' H' → So K g ph r' S H' → Mv K g ph r' H' (.d (.tuple ds)) v → Q v H') (h : DrAll K (ph ++ r) H vs ds) : NewT Q H vs := fun p o hp hd =>
  k r _ _ (.new hp) (so.new hp) (dr_tup hp hd (so.fresh hp) h)
def opAdd : M → M → Sto → Option M
  | .d (.int i), .d (.int j), _ => some (.d (.int (i + j)))
  | .d (.str a), .d (.str b), _ => if a.length + b.length ≤ sizeLine then some (.d (.str (a ++ b))) else none
  | .d (.list a), .d (.list b), _ => if a.length + b.length ≤ sizeLine then some (.d (.list (a ++ b))) else none
  | .d (.tuple a), .d (.tuple b), _ => if a.length + b.length ≤ sizeLine then some (.d (.tuple (a ++ b))) else none
  | _, _, _ => none
def rrAdd (K : PySem.W.Frag) : R2 := fun x y H Q => (rI0 (fun i j => .int (i + j)) x y H Q ∨ (∃ i j, x = .str i ∧ y = .str j ∧ i.length + j.length ≤ sizeLine ∧ Q (.str (i ++ j)) H)) ∨ (rCat x y H Q ∨ rCatF K x y H Q)
theorem o_add {X : Cx} : OpR X (binaryOp .Add) (rrAdd X.K) := (op_add.or op_add_str).or (op_cat.or op_catF)
theorem s_add : Snd2 K g (rrAdd K) opAdd := by
  intro ph r S H m1 m2 m v1 v2 Q so a1 a2 h k
  unfold opAdd at h
  split at h
  · cases h; cases a1; cases a2
    exact .inl (.inl ⟨_, _, rfl, rfl, k r H _ (.refl _ _) so (.int _)⟩)
  · cases a1; cases a2
    split at h
    · rename_i hz
      cases h
      exact .inl (.inr ⟨_, _, rfl, rfl, hz, k r H _ (.refl _ _) so (.str _)⟩)
    · cases h
  · split at h
    · rename_i hz
      cases h
      cases a1 with
      | lst e1 n1 t1 =>
        cases a2 with
        | lst e2 n2 t2 =>
          exact .inr (.inl ⟨_, _, _, _, rfl, rfl, e1, e2, by rw [t1.length, t2.length]; exact hz, new_dr so k fun p hp n => dr_lst hp n (t1.append t2)⟩)
    · cases h
  · split at h
    · rename_i ds es hz
      cases h
      have key : ∀ {a b : Addr} {xs ys : List V}, SqT K H a xs → DrAll K (ph ++ r) H xs ds → SqT K H b ys → DrAll K (ph ++ r) H ys es → Dr K (ph ++ r) H (.ref a) (.tuple ds) → Dr K (ph ++ r) H (.ref b) (.tuple es) → rrAdd K (.ref a) (.ref b) H Q := by
        intro a b xs ys h1 t1 h2 t2 d1 d2
        refine .inr (.inr ⟨_, _, _, _, rfl, rfl, h1, h2, by rw [t1.length, t2.length]; exact hz, fun z => ?_, fun _ z => ?_, fun _ _ => new_tup so k (t1.append t2)⟩)
        · subst z
          cases t1
          exact k r H _ (.refl _ _) so d2
        · subst z
          cases t2
          rw [List.append_nil] at k
          exact k r H _ (.refl _ _) so d1
      have r1 : ∃ a, v1 = .ref a := by cases a1 <;> exact ⟨_, rfl⟩
      have r2 : ∃ a, v2 = .ref a := by cases a2 <;> exact ⟨_, rfl⟩
      obtain ⟨a, rfl⟩ := r1
      obtain ⟨b, rfl⟩ := r2
      obtain ⟨xs, h1, t1⟩ := Dr.toT a1
      obtain ⟨ys, h2, t2⟩ := Dr.toT a2
      exact key h1 t1 h2 t2 a1 a2
    · cases h
  · cases h
/-- ints alone -/
def opI (c : Int → Int → Bool) (f : Int → Int → PyData) : M → M → Sto → Option M
  | .d (.int i), .d (.int j), _ => if c i j then some (.d (f i j)) else none
  | _, _, _ => none
theorem s_int {C : Int → Int → Prop} {c : Int → Int → Bool} {f : Int → Int → PyData} {fv : Int → Int → V} (hc : ∀ i j, c i j = true → C i j) (hf : ∀ K B H i j, Dr K B H (fv i j) (f i j)) : Snd2 K g (rI C fv) (opI c f) := by
  intro ph r S H m1 m2 m v1 v2 Q so a1 a2 h k
  unfold opI at h
  split at h
  · cases a1; cases a2
    split at h
    · rename_i hz
      cases h
      exact ⟨_, _, rfl, rfl, hc _ _ hz, k r H _ (.refl _ _) so (hf _ _ _ _ _)⟩
    · cases h
  · cases h
theorem s_int0 {f : Int → Int → PyData} {fv : Int → Int → V} (hf : ∀ K B H i j, Dr K B H (fv i j) (f i j)) : Snd2 K g (rI0 fv) (opI (fun _ _ => true) f) := by
  intro ph r S H m1 m2 m v1 v2 Q so a1 a2 h k
  unfold opI at h
  split at h
  · cases a1; cases a2
    cases h
    exact ⟨_, _, rfl, rfl, k r H _ (.refl _ _) so (hf _ _ _ _ _)⟩
  · cases h
def opSub : M → M → Sto → Option M := opI (fun _ _ => true) fun i j => .int (i - j)
def cMul (i j : Int) : Bool := (decide (-(2 ^ 64) < i) && decide (i < 2 ^ 64)) || (decide (-(2 ^ 64) < j) && decide (j < 2 ^ 64))
def opMulI : M → M → Sto → Option M := opI cMul fun i j => .int (i * j)
def cDiv (_ j : Int) : Bool := decide (j ≠ 0) && decide (j.natAbs < 1073741824)
def opFdiv : M → M → Sto → Option M := opI cDiv fun i j => .int (i.fdiv j)
def opMod : M → M → Sto → Option M := opI (fun _ j => decide (j ≠ 0)) fun i j => .int (i.fmod j)
def cPow (i j : Int) : Bool := decide (0 ≤ j) && (decide (j ≤ 1000000) && decide (i.natAbs < 2 ^ 64))
def opPow : M → M → Sto → Option M := opI cPow fun i j => .int (i ^ j.toNat)
def opLt : M → M → Sto → Option M := opI (fun _ _ => true) fun i j => .bool (decide (i < j))
def opLe : M → M → Sto → Option M := opI (fun _ _ => true) fun i j => .bool (decide (i ≤ j))
def opGt : M → M → Sto → Option M := opI (fun _ _ => true) fun i j => .bool (decide (j < i))
def opGe : M → M → Sto → Option M := opI (fun _ _ => true) fun i j => .bool (decide (j ≤ i))
theorem s_sub : Snd2 K g (rI0 fun i j => .int (i - j)) opSub := s_int0 fun _ _ _ _ _ => .int _
theorem s_mulI : Snd2 K g (rI CMul fun i j => .int (i * j)) opMulI := s_int (fun i j h => by simpa [cMul, CMul] using h) fun _ _ _ _ _ => .int _
theorem s_fdiv : Snd2 K g (rI CDivN fun i j => .int (i.fdiv j)) opFdiv := s_int (fun i j h => by simpa [cDiv, CDivN] using h) fun _ _ _ _ _ => .int _
theorem s_mod : Snd2 K g (rI (fun _ j => j ≠ 0) fun i j => .int (i.fmod j)) opMod := s_int (fun i j h => by simpa using h) fun _ _ _ _ _ => .int _
theorem s_pow : Snd2 K g (rI CPow fun i j => .int (i ^ j.toNat)) opPow := s_int (fun i j h => by simpa [cPow, CPow] using h) fun _ _ _ _ _ => .int _
theorem s_lt : Snd2 K g (rI0 fun i j => .bl (decide (i < j))) opLt := s_int0 fun _ _ _ _ _ => .bl _
theorem s_le : Snd2 K g (rI0 fun i j => .bl (decide (i ≤ j))) opLe := s_int0 fun _ _ _ _ _ => .bl _
theorem s_gt : Snd2 K g (rI0 fun i j => .bl (decide (j < i))) opGt := s_int0 fun _ _ _ _ _ => .bl _
theorem s_ge : Snd2 K g (rI0 fun i j => .bl (decide (j ≤ i))) opGe := s_int0 fun _ _ _ _ _ => .bl _
/-- products, a tuple or a list repeated -/
def opMul : M → M → Sto → Option M
  | .d (.int i), .d (.int j), _ => if cMul i j then some (.d (.int (i * j))) else none
  | .d (.tuple a), .d (.int k), _ => if a.isEmpty = false ∧ 2 ≤ k ∧ k ≤ 1000 ∧ a.length ≤ 1000 then some (.d (.tuple (List.replicate k.toNat a).flatten)) else none
  | .d (.list a), .d (.int k), _ => if -(2 ^ 63) ≤ k ∧ k < 2 ^ 63 ∧ a.length * k.toNat ≤ sizeLine then some (.d (.list (List.replicate k.toNat a).flatten)) else none
  | _, _, _ => none
def rrMul (K : PySem.W.Frag) : R2 := fun x y H Q => (rI CMul (fun i j => .int (i * j)) x y H Q) ∨ (rRepF K x y H Q ∨ rRep x y H Q)
theorem o_mul {X : Cx} : OpR X (binaryOp .Mult) (rrMul X.K) := op_mul.or (op_repF.or op_rep)
theorem DrAll.rep {B : List Addr} {vs : List V} {ds : List PyData} (h : DrAll K B H vs ds) : ∀ n : Nat, DrAll K B H (List.replicate n vs).flatten (List.replicate n ds).flatten
  | 0 => .nil
  | n + 1 => by
    rw [List.replicate_succ, List.replicate_succ, List.flatten_cons, List.flatten_cons]
    exact h.append (DrAll.rep h n)
theorem s_mul : Snd2 K g (rrMul K) opMul := by
  intro ph r S H m1 m2 m v1 v2 Q so a1 a2 h k
  unfold opMul at h
  split at h
  · cases a1; cases a2
    split at h
    · rename_i hz
      cases h
      exact .inl ⟨_, _, rfl, rfl, by simpa [cMul, CMul] using hz, k r H _ (.refl _ _) so (.int _)⟩
    · cases h
  · split at h
    · rename_i ds kk hz
      cases h
      have r1 : ∃ a, v1 = .ref a := by cases a1 <;> exact ⟨_, rfl⟩
      obtain ⟨a, rfl⟩ := r1
      obtain ⟨xs, h1, t1⟩ := Dr.toT a1
      cases a2
      refine .inr (.inl ⟨_, _, _, rfl, rfl, h1, fun z => ?_, hz.2.1, hz.2.2.1, by rw [t1.length]; exact hz.2.2.2, new_tup so k (t1.rep _)⟩)
      subst z
      cases t1
      exact absurd hz.1 (by simp)
    · cases h
  · split at h
    · rename_i hz
      cases h
      cases a2
      cases a1 with
      | lst e1 n1 t1 => exact .inr (.inr ⟨_, _, _, rfl, rfl, e1, hz.1, hz.2.1, by rw [t1.length]; exact hz.2.2, new_dr so k fun p hp n => dr_lst hp n (t1.rep _)⟩)
    · cases h
  · cases h
def opNeg : M → Sto → Option M
  | .d (.int i), _ => some (.d (.int (-i)))
  | _, _ => none
theorem s_neg : Snd1 K g (rU fun i => .int (-i)) opNeg := by
  intro ph r S H m1 m v1 Q so a1 h k
  unfold opNeg at h
  split at h
  · cases h; cases a1
    exact ⟨_, rfl, k r H _ (.refl _ _) so (.int _)⟩
  · cases h
/-- == and != of data -/
def opEqG (neg : Bool) (x y : M) (S : Sto) : Option M := (asD x S).bind fun a => (asD y S).bind fun b => if SeqAt.shaped a && SeqAt.shaped b then some (.d (.bool (if neg then !PyData.eqv a b else PyData.eqv a b))) else none
def opEq : M → M → Sto → Option M := opEqG false
def opNe : M → M → Sto → Option M := opEqG true
theorem eqG_of {neg : Bool} {x y : M} {m : M} (h : opEqG neg x y S = some m) : ∃ a b, asD x S = some a ∧ asD y S = some b ∧ SeqAt.shaped a = true ∧ SeqAt.shaped b = true ∧ m = .d (.bool (if neg then !PyData.eqv a b else PyData.eqv a b)) := by
  unfold opEqG at h
  cases q1 : asD x S with
  | none => simp [q1] at h
  | some a =>
    cases q2 : asD y S with
    | none => simp [q1, q2] at h
    | some b =>
      simp [q1, q2] at h
      obtain ⟨⟨s1, s2⟩, h⟩ := h
      refine ⟨a, b, rfl, rfl, s1, s2, ?_⟩
      rw [← h]
theorem s_eq : Snd2 K g (rEqD K) opEq := by
  intro ph r S H m1 m2 m v1 v2 Q so a1 a2 h k
  obtain ⟨a, b, q1, q2, s1, s2, rfl⟩ := eqG_of h
  exact ⟨a, b, asD_dp so a1 q1 s1, asD_dp so a2 q2 s2, s1, s2, k r H _ (.refl _ _) so (.bl _)⟩
theorem s_ne : Snd2 K g (rNeD K) opNe := by
  intro ph r S H m1 m2 m v1 v2 Q so a1 a2 h k
  obtain ⟨a, b, q1, q2, s1, s2, rfl⟩ := eqG_of h
  exact ⟨a, b, asD_dp so a1 q1 s1, asD_dp so a2 q2 s2, s1, s2, k r H _ (.refl _ _) so (.bl _)⟩
/-- in, not in, over flat things -/
def itemsD : PyData → Option (List PyData)
  | .list xs => some xs
  | .tuple xs => some xs
  | _ => none
def opInG (neg : Bool) : M → M → Sto → Option M
  | .d x, .d y, _ => match itemsD y with
    | some ys => if flatD x && ys.all flatD then some (.d (.bool (if neg then !(ys.any fun z => PyData.eqv z x) else ys.any fun z => PyData.eqv z x))) else none
    | none => none
  | _, _, _ => none
def opIn : M → M → Sto → Option M := opInG false
def opNotIn : M → M → Sto → Option M := opInG true
theorem items_of {B : List Addr} {v : V} {y : PyData} {ys : List PyData} (h : Dr K B H v y) (q : itemsD y = some ys) : ∃ p vs, v = .ref p ∧ (SqL K H p vs ∨ SqT K H p vs) ∧ DrAll K B H vs ys := by
  cases h with
  | lst e n t => cases q; exact ⟨_, _, rfl, .inl (.inl (.inl e)), t⟩
  | tup e n t => cases q; exact ⟨_, _, rfl, .inr e.sq, t⟩
  | tupK a b _ c d e t => cases q; exact ⟨_, _, rfl, .inr (.inr ⟨_, _, _, a, b, c, d, e⟩), t⟩
  | _ => cases q
theorem s_inG (neg : Bool) : Snd2 K g (rIn K neg) (opInG neg) := by
  intro ph r S H m1 m2 m v1 v2 Q so a1 a2 h k
  unfold opInG at h
  split at h
  · rename_i x y
    cases q : itemsD y with
    | none => rw [q] at h; cases h
    | some ys =>
      rw [q] at h
      dsimp only at h
      split at h
      · rename_i hz
        rw [Bool.and_eq_true] at hz
        cases h
        obtain ⟨p, vs, rfl, hs, t⟩ := items_of a2 q
        have e1 := Dr.flat a1 hz.1
        have e2 := t.flat hz.2
        subst e1 e2
        refine ⟨p, _, rfl, hs, flat_v hz.1, ?_, ?_⟩
        · rw [List.all_map, List.all_eq_true]
          intro z hzz
          exact flat_v (List.all_eq_true.mp hz.2 z hzz)
        · have e3 : inV (vOf x) (ys.map vOf) = ys.any fun z => PyData.eqv z x := by
            unfold inV
            rw [List.any_map, Bool.eq_iff_iff, List.any_eq_true, List.any_eq_true]
            constructor
            · rintro ⟨z, h1, h2⟩
              exact ⟨z, h1, by rw [← flat_eq (List.all_eq_true.mp hz.2 z h1) hz.1]; exact h2⟩
            · rintro ⟨z, h1, h2⟩
              exact ⟨z, h1, by rw [← flat_eq (List.all_eq_true.mp hz.2 z h1) hz.1] at h2; exact h2⟩
          rw [e3]
          exact k r H _ (.refl _ _) so (.bl _)
      · cases h
  · cases h
def opIsN : M → M → Sto → Option M
  | .d x, .d .none, _ => some (.d (.bool (match x with | .none => true | _ => false)))
  | _, _, _ => none
def opNotN : M → M → Sto → Option M
  | .d x, .d .none, _ => some (.d (.bool (match x with | .none => false | _ => true)))
  | _, _, _ => none
theorem s_isN : Snd2 K g (fun x y H Q => y = .non ∧ Q (.bl (decide (x = .non))) H) opIsN := by
  intro ph r S H m1 m2 m v1 v2 Q so a1 a2 h k
  unfold opIsN at h
  split at h
  · cases h
    cases a2
    refine ⟨rfl, k r H _ (.refl _ _) so ?_⟩
    cases a1 <;> exact .bl _
  · cases h
theorem s_notN : Snd2 K g (fun x y H Q => y = .non ∧ Q (.bl (!decide (x = .non))) H) opNotN := by
  intro ph r S H m1 m2 m v1 v2 Q so a1 a2 h k
  unfold opNotN at h
  split at h
  · cases h
    cases a2
    refine ⟨rfl, k r H _ (.refl _ _) so ?_⟩
    cases a1 <;> exact .bl _
  · cases h
end
end Mr

end
section
set_option maxRecDepth 100000
set_option autoImplicit false
namespace Mr
open PySem PySem.Spec L2 MrT
open PyProof.Rows hiding St

/-! ### subscripts -/
def keyM : M → Option Key
  | .d (.int i) => some (.inl i)
  | .d (.str x) => some (.inr x)
  | _ => none
def isKey : Key → PyData → Bool
  | .inl i, .int j => decide (i = j)
  | .inr x, .str y => decide (x = y)
  | _, _ => false
def dGet (kvs : List (PyData × PyData)) (k : Key) : Option PyData := (kvs.find? fun p => isKey k p.1).map (·.2)
def mGet (kvs : List (Key × M)) (k : Key) : Option M := (kvs.find? fun p => decide (p.1 = k)).map (·.2)
def putM (kvs : List (Key × M)) (k : Key) (v : M) : List (Key × M) := if (kvs.any fun p => decide (p.1 = k)) = true then kvs.map (fun p => if p.1 = k then (p.1, v) else p) else kvs ++ [(k, v)]
theorem isKey_eq (k j : Key) : isKey k (keyD j) = decide (j = k) := by
  cases k <;> cases j <;> simp [isKey, keyD, eq_comm]
section
variable {K : PySem.W.Frag} {g : Cfg} {ph r : List Addr} {H : Hp} {S : Sto}
theorem keyM_v {m : M} {v : V} {k : Key} (h : Mv K g ph r H m v) (q : keyM m = some k) : v = kV k := by
  cases m with
  | d x =>
    cases x with
    | int i => cases q; cases h; rfl
    | str s => cases q; cases h; rfl
    | _ => cases q
  | _ => cases q
theorem dGet_ok {B : List Addr} (k : Key) {x : PyData} : ∀ {ks : List Key} {vs : List V} {ds : List PyData}, DrAll K B H vs ds → dGet ((ks.map keyD).zip ds) k = some x → ∃ v, valV (ks.zip vs) k = some v ∧ Dr K B H v x
  | [], _, _, _, h => by simp [dGet] at h
  | _ :: _, _, _, .nil, h => by simp [dGet] at h
  | j :: ks, _, _, @DrAll.cons _ _ _ v vs d ds a t, h => by
    by_cases e : j = k
    · subst e
      have h2 : dGet (((j :: ks).map keyD).zip (d :: ds)) j = some d := by simp [dGet, isKey_eq]
      rw [h2] at h
      cases h
      exact ⟨v, by simp [valV], a⟩
    · have h2 : dGet (((j :: ks).map keyD).zip (d :: ds)) k = dGet ((ks.map keyD).zip ds) k := by simp [dGet, isKey_eq, e]
      rw [h2] at h
      obtain ⟨u, h3, h4⟩ := dGet_ok k t h
      exact ⟨u, by rw [← h3]; simp [valV, e], h4⟩
abbrev KP (K : PySem.W.Frag) (g : Cfg) (ph r : List Addr) (H : Hp) : List (Key × M) → List (Key × V) → Prop := Paired fun (p : Key × M) (q : Key × V) => p.1 = q.1 ∧ Mv K g ph r H p.2 q.2
theorem mGet_ok (k : Key) {x : M} {kvs : List (Key × M)} {ws : List (Key × V)} (h : KP K g ph r H kvs ws) (q : mGet kvs k = some x) : ∃ v, valV ws k = some v ∧ Mv K g ph r H x v := by
  induction h with
  | nil => simp [mGet] at q
  | @cons a b as bs h1 h2 ih =>
    by_cases e : a.1 = k
    · have q2 : mGet (a :: as) k = some a.2 := by simp [mGet, e]
      rw [q2] at q
      cases q
      exact ⟨b.2, by simp [valV, ← h1.1, e], h1.2⟩
    · have q2 : mGet (a :: as) k = mGet as k := by simp [mGet, e]
      rw [q2] at q
      obtain ⟨u, h3, h4⟩ := ih q
      exact ⟨u, by rw [← h3]; simp [valV, ← h1.1, e], h4⟩
theorem KP.any {kvs : List (Key × M)} {ws : List (Key × V)} (h : KP K g ph r H kvs ws) (k : Key) : (kvs.any fun p => decide (p.1 = k)) = ws.any fun p => decide (p.1 = k) := by
  induction h with
  | nil => rfl
  | @cons a b as bs h1 h2 ih => rw [List.any_cons, List.any_cons, ih, h1.1]
theorem KP.length {kvs : List (Key × M)} {ws : List (Key × V)} (h : KP K g ph r H kvs ws) : kvs.length = ws.length := Paired.len' h
theorem KP.put {kvs : List (Key × M)} {ws : List (Key × V)} (h : KP K g ph r H kvs ws) (k : Key) {m : M} {v : V} (mv : Mv K g ph r H m v) : KP K g ph r H (putM kvs k m) (putK ws k v) := by
  unfold putM putK
  rw [h.any k]
  split
  · induction h with
    | nil => exact .nil
    | @cons a b as bs h1 h2 ih =>
      refine .cons ?_ ?_
      · dsimp only
        rw [h1.1]
        split
        · exact ⟨rfl, mv⟩
        · exact h1
      · have gen : ∀ {as : List (Key × M)} {bs : List (Key × V)}, KP K g ph r H as bs → KP K g ph r H (as.map fun p => if p.1 = k then (p.1, m) else p) (bs.map fun p => if p.1 = k then (p.1, v) else p) := by
          intro as bs hh
          induction hh with
          | nil => exact .nil
          | @cons a b as bs h1 h2 ih =>
            refine .cons ?_ ih
            dsimp only
            rw [h1.1]
            split
            · exact ⟨rfl, mv⟩
            · exact h1
        exact gen h2
  · exact Paired.append' h (.cons ⟨rfl, mv⟩ .nil)
def asI : M → Option Int
  | .d (.int i) => some i
  | _ => none
def asS : M → Option Str
  | .d (.str i) => some i
  | _ => none
def opIx (x y : M) (S : Sto) : Option M := match x with
  | .d (.list xs) => (asI y).bind fun i => (atI xs i).map .d
  | .d (.tuple xs) => (asI y).bind fun i => (atI xs i).map .d
  | .d (.str s) => (asI y).bind fun i => if s.length ≤ sizeLine then (atI s.cps.toList i).map fun c => .d (.str ⟨#[c]⟩) else none
  | .d (.dict kvs) => (keyM y).bind fun k => (dGet kvs k).map .d
  | .kdc _ ks => (asS y).bind fun z => (ks.lookup z).map .d
  | .loc n => match S[n]? with
    | some (.lst xs) => (asI y).bind fun i => atI xs i
    | some (.dct kvs) => (keyM y).bind fun k => mGet kvs k
    | none => none
  | _ => none
def rrIx (K : PySem.W.Frag) (w : World) : R2 := fun x y H Q => rIx K x y H Q ∨ ((∃ a v, x = .ref a ∧ DGet H a y (some v) ∧ Q v H) ∨ rIxD K w x y H Q)
theorem ix_dct {X : Cx} (hu : X.A.units + 1 < cLine) : IxR X (fun x y H Q => ∃ a v, x = .ref a ∧ DGet H a y (some v) ∧ Q v H) := by
  intro value slice pins s st H x y v u Q I rx ry h hs
  obtain ⟨a, z, rfl, dg, q⟩ := h
  obtain rfl : v = Value.ref a := rx
  exact tail_any (dict_typeIs I dg) slot_dict_getitem.lookup (d_getItem hu I dg ry fun w' s' I' r' => ⟨z, H, I', r', q⟩) hs
theorem ix_all {X : Cx} (hu : X.A.units + 1 < cLine) : IxR X (rrIx X.K X.w) := ix_seq.or ((ix_dct hu).or ix_kdict)
theorem get_rel {α β : Type} {P : α → β → Prop} : ∀ {xs : List α} {ys : List β} {j : Nat} {a : α}, Paired P xs ys → xs[j]? = some a → ∃ b, ys[j]? = some b ∧ P a b
  | _, _, _, _, .nil, q => by simp at q
  | _, _, 0, _, .cons h _, q => by simp at q; subst q; exact ⟨_, by simp, h⟩
  | _, _, j + 1, a, .cons _ t, q => by
    obtain ⟨b, h1, h2⟩ := get_rel (j := j) (a := a) t (by simpa using q)
    exact ⟨b, by simpa using h1, h2⟩
theorem at_rel {α β : Type} {P : α → β → Prop} {xs : List α} {ys : List β} {i : Int} {a : α} (h : Paired P xs ys) (q : atI xs i = some a) : ∃ b, atI ys i = some b ∧ P a b := by
  have hl := Paired.len' h
  unfold atI at q ⊢
  rw [← hl]
  cases e : ixN xs.length i with
  | none => rw [e] at q; cases q
  | some j =>
    rw [e] at q
    exact get_rel h (show xs[j]? = some a from q)
theorem DrAll.pair {B : List Addr} : ∀ {vs : List V} {ds : List PyData}, DrAll K B H vs ds → Paired (fun d v => Dr K B H v d) ds vs
  | _, _, .nil => .nil
  | _, _, .cons a t => .cons a (DrAll.pair t)
theorem DrAll.of_pair {B : List Addr} {ds : List PyData} {vs : List V} (h : Paired (fun d v => Dr K B H v d) ds vs) : DrAll K B H vs ds := by
  induction h with
  | nil => exact .nil
  | cons a t ih => exact .cons a ih
theorem asI_v {m : M} {v : V} {i : Int} (h : Mv K g ph r H m v) (q : asI m = some i) : v = .int i := by
  cases m with
  | d x => cases x <;> first | (cases q; cases h; rfl) | cases q
  | _ => cases q
theorem asS_v {m : M} {v : V} {i : Str} (h : Mv K g ph r H m v) (q : asS m = some i) : v = .str i := by
  cases m with
  | d x => cases x <;> first | (cases q; cases h; rfl) | cases q
  | _ => cases q
theorem s_ix : Snd2 K g (rrIx K g.w) opIx := by
  intro ph r S H m1 m2 m v1 v2 Q so a1 a2 h k
  unfold opIx at h
  have fin : ∀ {v}, Mv K g ph r H m v → Q v H := fun mv => k r H _ (.refl _ _) so mv
  split at h
  · obtain ⟨i, q1, h⟩ := Option.bind_eq_some_iff.mp h
    obtain ⟨x, q2, rfl⟩ := Option.map_eq_some_iff.mp h
    have e2 := asI_v a2 q1
    subst e2
    cases a1 with
    | lst e n t =>
      obtain ⟨v, q3, d⟩ := at_rel t.pair q2
      exact .inl (.inl ⟨_, _, _, _, rfl, rfl, .inl (.inl e), q3, fin d⟩)
  · obtain ⟨i, q1, h⟩ := Option.bind_eq_some_iff.mp h
    obtain ⟨x, q2, rfl⟩ := Option.map_eq_some_iff.mp h
    have e2 := asI_v a2 q1
    subst e2
    have r1 : ∃ a, v1 = .ref a := by cases a1 <;> exact ⟨_, rfl⟩
    obtain ⟨a, rfl⟩ := r1
    obtain ⟨xs, h1, t⟩ := Dr.toT a1
    obtain ⟨v, q3, d⟩ := at_rel t.pair q2
    exact .inl (.inr (.inl ⟨_, _, _, _, rfl, rfl, h1, q3, fin d⟩))
  · obtain ⟨i, q1, h⟩ := Option.bind_eq_some_iff.mp h
    have e2 := asI_v a2 q1
    subst e2
    cases a1
    split at h
    · rename_i hz
      obtain ⟨c, q2, rfl⟩ := Option.map_eq_some_iff.mp h
      exact .inl (.inr (.inr ⟨_, _, _, rfl, rfl, hz, q2, fin (.str _)⟩))
    · cases h
  · obtain ⟨kk, q1, h⟩ := Option.bind_eq_some_iff.mp h
    obtain ⟨x, q2, rfl⟩ := Option.map_eq_some_iff.mp h
    have e2 := keyM_v a2 q1
    subst e2
    cases a1 with
    | dct e n l t =>
      obtain ⟨v, q3, d⟩ := dGet_ok kk t q2
      refine .inr (.inl ⟨_, v, rfl, ?_, fin d⟩)
      rw [← q3]
      exact DGet.k e
  · obtain ⟨z, q1, h⟩ := Option.bind_eq_some_iff.mp h
    obtain ⟨x, q2, rfl⟩ := Option.map_eq_some_iff.mp h
    have e2 := asS_v a2 q1
    subst e2
    obtain ⟨rfl, hk⟩ := a1
    obtain ⟨u, h1, h2⟩ := hk z x q2
    exact .inr (.inr ⟨_, _, u, rfl, rfl, h1, fin (h2 _ _)⟩)
  · rename_i n
    obtain ⟨a, e1, rfl⟩ := a1
    split at h
    · rename_i xs q0
      obtain ⟨a', u, h1, h2, h3⟩ := so.at_ _ _ q0
      rw [e1] at h1; cases h1
      obtain ⟨i, q1, h⟩ := Option.bind_eq_some_iff.mp h
      have e2 := asI_v a2 q1
      subst e2
      cases u with
      | lst vs =>
        obtain ⟨v, q3, d⟩ := at_rel h3 h
        exact .inl (.inl ⟨_, _, _, _, rfl, rfl, .inl (.inl h2), q3, fin d⟩)
      | _ => exact h3.elim
    · rename_i kvs q0
      obtain ⟨a', u, h1, h2, h3⟩ := so.at_ _ _ q0
      rw [e1] at h1; cases h1
      obtain ⟨kk, q1, h⟩ := Option.bind_eq_some_iff.mp h
      have e2 := keyM_v a2 q1
      subst e2
      cases u with
      | dK ws =>
        obtain ⟨v, q3, d⟩ := mGet_ok kk h3 h
        refine .inr (.inl ⟨_, v, rfl, ?_, fin d⟩)
        rw [← q3]
        exact DGet.k h2
      | _ => exact h3.elim
    · cases h
  · cases h
variable {X : Cx} {W : WX} {a b : Expr} {fa fb : Env1 → Sto → R M} {pos : Pos}
theorem me_ix (hu : X.A.units + 1 < cLine) (hw : X.w = g.w) (ha : ME X g W a fa) (hb : ME X g W b fb) (hs : PlainIx b := by exact fun _ _ => rfl) : ME X g W (.Subscript a b pos) (e2 opIx fa fb) := by
  have hs2 : Snd2 X.K g (rrIx X.K X.w) opIx := by rw [hw]; exact s_ix
  exact PE.of (pe_ix (ix_all hu) ha hb hs) (tM_op hs2)

/-! ### slices -/
abbrev PIo : Rel (Option Int) (Option Int) := fun _ _ _ _ _ a b => a = b
abbrev MO (X : Cx) (g : Cfg) (W : WX) (e : Option Expr) (f : Env1 → Sto → R (Option Int)) : Prop := PO X e (tG PIo X.K g W f)
theorem PO.of {X : Cx} {e : Option Expr} {t t' : TO} (h : PO X e t) (w : ∀ s H Q, t' s H Q → t s H Q) : PO X e t' := ⟨fun pins s q H Q I z => h.run pins s q H Q I (w _ _ _ z)⟩
def oN : Env1 → Sto → R (Option Int) := fun _ S => .ok none S
def oS (f : Env1 → Sto → R M) : Env1 → Sto → R (Option Int) := fun e S => (f e S).bind fun m S1 => lift ((asI m).map some) S1
theorem mo_none : MO X g W none oN := PO.of po_none fun s H Q ⟨ph, r, S, e, so, ev, h⟩ => h r H none (.refl _ _) so rfl
theorem mo_some (h : ME X g W a fa) : MO X g W (some a) (oS fa) := by
  refine PO.of (po_some h) fun s H Q hh => ?_
  obtain ⟨ph, r, S, e, so, ev, hh⟩ := hh
  refine tG.bind so ev hh fun m v S1 r1 H1 x1 so1 ev1 m1 h1 => ?_
  cases q : asI m with
  | none => rw [q] at h1; exact h1.elim
  | some i =>
    rw [q] at h1
    exact ⟨i, asI_v m1 q, h1 r1 H1 _ (.refl _ _) so1 rfl⟩
def cutD {α : Type} (xs : List α) (lo hi : Option Int) : List α := (xs.drop (HT.sIx xs.length 0 lo)).take (HT.sIx xs.length xs.length hi - HT.sIx xs.length 0 lo)
def opSl (x : M) (lo hi : Option Int) (S : Sto) : Option M := match x with
  | .d (.list xs) => some (.d (.list (cutD xs lo hi)))
  | .d (.tuple xs) => some (.d (.tuple (cutD xs lo hi)))
  | .d (.str s) => if s.length ≤ sizeLine then some (.d (.str (cutS s lo hi))) else none
  | .ro xs => some (.d (.list (cutD xs lo hi)))
  | .loc n => match S[n]? with
    | some (.lst xs) => (dsOf xs).map fun ds => .d (.list (cutD ds lo hi))
    | _ => none
  | _ => none
def eSl (f : Env1 → Sto → R M) (lo hi : Env1 → Sto → R (Option Int)) : Env1 → Sto → R M := fun e S => (f e S).bind fun x S1 => (lo e S1).bind fun l S2 => (hi e S2).bind fun h S3 => lift (opSl x l h S3) S3
theorem cut_all {B : List Addr} {vs : List V} {ds : List PyData} (h : DrAll K B H vs ds) (lo hi : Option Int) : DrAll K B H (cutV vs lo hi) (cutD ds lo hi) := by
  unfold cutV cutD
  rw [h.length]
  exact (h.drop _).take _
theorem me_sl {lo hi : Option Expr} {fl fh : Env1 → Sto → R (Option Int)} {p2 : Pos} (he : ME X g W a fa) (hl : MO X g W lo fl) (hh : MO X g W hi fh) : ME X g W (.Subscript a (.Slice lo hi none p2) pos) (eSl fa fl fh) := by
  refine PE.of (pe_slice (sl_list.or (sl_str.or sl_tupF)) he hl hh) fun s H Q h => ?_
  obtain ⟨ph, r, S, e, so, ev, h⟩ := h
  refine tG.bind so ev h fun m v S1 r1 H1 x1 so1 ev1 m1 h1 => ?_
  refine tG.bind so1 ev1 h1 fun l l' S2 r2 H2 x2 so2 ev2 m2 h2 => ?_
  refine tG.bind so2 ev2 h2 fun u u' S3 r3 H3 x3 so3 ev3 m3 h3 => ?_
  cases m2
  cases m3
  have mv := Mv.mono (x2.trans x3) m1
  cases q : opSl m l u S3 with
  | none => rw [q] at h3; exact h3.elim
  | some z =>
    rw [q] at h3
    have k : ∀ r' H' v, Ext r3 H3 r' H' → So X.K g ph r' S3 H' → Mv X.K g ph r' H' z v → Q v H' := h3
    unfold opSl at q
    split at q
    · cases q
      cases mv with
      | lst e1 n1 t1 => exact .inl ⟨_, _, rfl, .inl (.inl e1), new_dr so3 k fun p hp n => dr_lst hp n (cut_all t1 l u)⟩
    · cases q
      have r1 : ∃ a, v = .ref a := by cases mv <;> exact ⟨_, rfl⟩
      obtain ⟨a, rfl⟩ := r1
      obtain ⟨xs, hq, t1⟩ := Dr.toT mv
      refine .inr (.inr ⟨a, xs, rfl, hq, fun ⟨w1, w2⟩ => ?_, fun _ => new_tup so3 k (cut_all t1 l u)⟩)
      refine k r3 H3 _ (.refl _ _) so3 ?_
      have e : ∀ ds : List PyData, HT.sIx ds.length 0 l = 0 → HT.sIx ds.length ds.length u = ds.length → cutD ds l u = ds := fun ds w1 w2 => by
        unfold cutD
        rw [w1, w2]
        simp
      rw [e _ (by rw [← t1.length]; exact w1) (by rw [← t1.length]; exact w2)]
      exact mv
    · split at q
      · rename_i hz
        cases q
        cases mv
        exact .inr (.inl ⟨_, rfl, hz, k r3 H3 _ (.refl _ _) so3 (.str _)⟩)
      · cases q
    · cases q
      obtain ⟨a, vs, rfl, e1, t1⟩ := mv
      exact .inl ⟨_, _, rfl, e1.elim (fun ⟨o, e1, _⟩ => .inl (.inr ⟨o, e1⟩)) .inr, new_dr so3 k fun p hp n => dr_lst hp n (cut_all t1 l u)⟩
    · obtain ⟨a, e1, rfl⟩ := mv
      split at q
      · rename_i xs q0
        obtain ⟨ds, q2, rfl⟩ := Option.map_eq_some_iff.mp q
        obtain ⟨a', w, h5, h6, h7⟩ := so3.at_ _ _ q0
        rw [e1] at h5; cases h5
        cases w with
        | lst vs => exact .inl ⟨_, _, rfl, .inl (.inl h6), new_dr so3 k fun p hp n => dr_lst hp n (cut_all (dsOf_rel h7 q2) l u)⟩
        | _ => exact h7.elim
      · cases q
    · cases q
/-- xs[::-1] -/
def opRev (x : M) (S : Sto) : Option M := match x with
  | .d (.list xs) => some (.d (.list xs.reverse))
  | _ => none
theorem DrAll.rev {B : List Addr} {vs : List V} {ds : List PyData} (h : DrAll K B H vs ds) : DrAll K B H vs.reverse ds.reverse := by
  induction vs generalizing ds with
  | nil => cases h; exact .nil
  | cons v vs ih =>
    cases h with
    | cons a t =>
      rw [List.reverse_cons, List.reverse_cons]
      exact (ih t).snoc a
theorem me_rev {k : Nat} {p1 p2 p3 : Pos} (he : ME X g W a fa) : ME X g W (.Subscript a (.Slice none none (some (.UnaryOp .USub (.Constant (.int 1) k p1) p2)) p3) pos) (e1 opRev fa) := by
  refine PE.of (pe_revL he) fun s H Q h => ?_
  obtain ⟨ph, r, S, e, so, ev, h⟩ := h
  refine tG.bind so ev h fun m v S1 r1 H1 x1 so1 ev1 m1 h1 => ?_
  cases m with
  | d x =>
    cases x with
    | list xs =>
      cases m1 with
      | lst e1 n1 t1 => exact ⟨_, _, rfl, .inl (.inl e1), new_dr so1 h1 fun p hp n => dr_lst hp n t1.rev⟩
    | _ => exact h1.elim
  | _ => exact h1.elim
/-- xs[::-1], the new list owned -/
def eRevO (f : Env1 → Sto → R M) : Env1 → Sto → R M := fun e S => (f e S).bind fun x S1 => match x with
  | .d (.list xs) => .ok (.loc S1.length) (S1 ++ [.lst (xs.reverse.map .d)])
  | _ => .bad
theorem pairs_d {B : List Addr} {vs : List V} {ds : List PyData} (hB : B = ph ++ r) (h : DrAll K B H vs ds) : Paired (Mv K g ph r H) (ds.map .d) vs := by
  subst hB
  induction vs generalizing ds with
  | nil => cases h; exact .nil
  | cons v vs ih =>
    cases h with
    | cons a t => exact .cons a (ih t)
theorem me_revO {k : Nat} {p1 p2 p3 : Pos} (he : ME X g W a fa) : ME X g W (.Subscript a (.Slice none none (some (.UnaryOp .USub (.Constant (.int 1) k p1) p2)) p3) pos) (eRevO fa) := by
  refine PE.of (pe_revL he) fun s H Q h => ?_
  obtain ⟨ph, r, S, e, so, ev, h⟩ := h
  refine tG.bind so ev h fun m v S1 r1 H1 x1 so1 ev1 m1 h1 => ?_
  cases m with
  | d x =>
    cases x with
    | list xs =>
      cases m1 with
      | lst e1 n1 t1 =>
        refine ⟨_, _, rfl, .inl (.inl e1), fun p hp => ?_⟩
        refine h1 (r1 ++ [p]) _ _ (.own hp) (so1.own hp ?_) ⟨p, by rw [← so1.len, List.getElem?_append_right (Nat.le_refl _)]; simp, rfl⟩
        exact pairs_d rfl (DrAll.mono (Ext.own hp) t1.rev)
    | _ => exact h1.elim
  | _ => exact h1.elim

/-! ### displays -/
def eTup (f : Env1 → Sto → R (List M)) : Env1 → Sto → R M := fun e S => (f e S).bind fun ms S1 => if ms.length ≤ 1000 then lift ((dsOf ms).map fun ds => .d (.tuple ds)) S1 else .bad
def eLst (f : Env1 → Sto → R (List M)) : Env1 → Sto → R M := fun e S => (f e S).bind fun ms S1 => if ms.length ≤ 1000 then lift ((dsOf ms).map fun ds => .d (.list ds)) S1 else .bad
def eLstO (f : Env1 → Sto → R (List M)) : Env1 → Sto → R M := fun e S => (f e S).bind fun ms S1 => if ms.length ≤ 1000 then .ok (.loc S1.length) (S1 ++ [.lst ms]) else .bad
variable {es : List Expr} {fs : Env1 → Sto → R (List M)}
theorem me_tup {kk : Nat} (h : MA X g W es fs) : ME X g W (.Tuple es kk pos) (eTup fs) := by
  refine PE.of (pe_tupF h) fun s H Q h => ?_
  obtain ⟨ph, r, S, e, so, ev, h⟩ := h
  refine tG.bind so ev h fun ms vs S1 r1 H1 x1 so1 ev1 m1 h1 => ?_
  split at h1
  · rename_i hz
    cases q : dsOf ms with
    | none => rw [q] at h1; exact h1.elim
    | some ds =>
      rw [q] at h1
      exact ⟨Nat.le_of_lt (small1000 (by rw [← Paired.len' m1]; exact hz)), new_tup so1 h1 (dsOf_rel m1 q)⟩
  · exact h1.elim
theorem me_lst (h : MA X g W es fs) : ME X g W (.List es pos) (eLst fs) := by
  refine PE.of (pe_lst h) fun s H Q h => ?_
  obtain ⟨ph, r, S, e, so, ev, h⟩ := h
  refine tG.bind so ev h fun ms vs S1 r1 H1 x1 so1 ev1 m1 h1 => ?_
  split at h1
  · rename_i hz
    cases q : dsOf ms with
    | none => rw [q] at h1; exact h1.elim
    | some ds =>
      rw [q] at h1
      exact ⟨Nat.le_of_lt (small1000 (by rw [← Paired.len' m1]; exact hz)), new_dr so1 h1 fun p hp n => dr_lst hp n (dsOf_rel m1 q)⟩
  · exact h1.elim
theorem me_lstO (h : MA X g W es fs) : ME X g W (.List es pos) (eLstO fs) := by
  refine PE.of (pe_lst h) fun s H Q h => ?_
  obtain ⟨ph, r, S, e, so, ev, h⟩ := h
  refine tG.bind so ev h fun ms vs S1 r1 H1 x1 so1 ev1 m1 h1 => ?_
  split at h1
  · rename_i hz
    refine ⟨Nat.le_of_lt (small1000 (by rw [← Paired.len' m1]; exact hz)), fun p hp => ?_⟩
    refine h1 (r1 ++ [p]) _ _ (.own hp) (so1.own hp ?_) ⟨p, by rw [← so1.len, List.getElem?_append_right (Nat.le_refl _)]; simp, rfl⟩
    exact Paired.mapP m1 fun _ _ => Mv.mono (g := g) (Ext.own hp)
  · exact h1.elim
end
end Mr

end
section
set_option maxRecDepth 100000
set_option autoImplicit false
namespace MrE
open PySem PySem.W PySem.Calls PySem.HandSPX PySem.Builtin PySem.Builtin.ObjectAttr
open PyProof.Rows hiding St
/-! ### errors of one's own over Exception, through own bases -/
abbrev exTail : List Value := [.type "Exception", .type "BaseException", .type "object"]
def overEx : List Value → Bool
  | .ref _ :: r => overEx r
  | l => l == exTail
theorem overEx_cases (l : List Value) (e : overEx l = true) : (∃ c r, l = .ref c :: r ∧ overEx r = true) ∨ l = exTail := by
  unfold overEx at e
  split at e
  · exact .inl ⟨_, _, rfl, e⟩
  · exact .inr (beq_iff_eq.mp e)
theorem overEx_pass (self : Value) : ∀ l : List Value, overEx l = true → refuseLoop self "__setattr__" l = pure ()
  | [], e => absurd e (by decide)
  | a :: r, e => by
    rcases overEx_cases (a :: r) e with ⟨c, r2, q, h⟩ | q
    · cases q
      rw [refuseLoop_ref]
      exact overEx_pass self r h
    · rw [q]
      exact F.store_Exception.passes self
theorem overEx_has (n : String) : ∀ l : List Value, overEx l = true → l.contains (.type n) = exTail.contains (.type n)
  | [], e => absurd e (by decide)
  | a :: r, e => by
    rcases overEx_cases (a :: r) e with ⟨c, r2, q, h⟩ | q
    · cases q
      rw [List.contains_cons, overEx_has n r h]
      rfl
    · rw [q]
section
variable {prog : Program} {w : World} {A : Around} {R : Result → Shared → Prop} {hp : Heap} {gg : Array GenState} {dr : Drawn} {t : Nat} {os : OsState}
/-- the first field of a fresh error -/
theorem put_first {K : Frag} {name : Str} {tk : Tok} {v : Value} {x C : Addr} {fv : Array Value} {cd : ClassData} (inK : K.In hp) (hx : hp.get? x = some { cls := .ref C, data := .fields fv }) (hcd : clsIn K C = some cd) (hm : overEx cd.mro = true) (hh : cd.hasDict = true)
    (ha : findIn K (.ref C) name = some none)
    (hq : ∀ h2 tk2 dx, (∀ b o, b ≠ x → hp.get? b = some o → h2.get? b = some o) → hp.objs.size ≤ dx → dx ≠ x → h2.get? x = some { cls := .ref C, dict := some dx, data := .fields fv } → h2.Ns1 dx (fun y => if y = name then some v else none) → R (.ok (.ret .none)) ⟨h2, gg, dr, tk2, os⟩) :
    codeAny (model prog w) A (.call (.builtin "object.__setattr__") ⟨[.ref x, .str name tk, v], []⟩) R ⟨hp, gg, dr, t, os⟩ := by
  have J : InstAt hp x { cls := .ref C, data := .fields fv } C none := ⟨hx, rfl, rfl, trivial⟩
  have sf := F.store_object
  have full : cd.mro.isEmpty = false := by
    cases q : cd.mro with
    | nil => rw [q] at hm; exact absurd hm (by decide)
    | cons _ _ => rfl
  have isO : cd.mro.contains (.type "object") = true := (overEx_has "object" _ hm).trans (by decide +kernel)
  have apart : x ≠ hp.objs.size := Nat.ne_of_lt (Heap.lt_size hx)
  have ofO : Looks (model prog w) hp (isInstance (.ref x) (.type "object")) true := J.type.andThen (looks_mroIn inK (by unfold mroIn; rw [hcd, Option.bind_some, if_neg (by rw [full]; decide), isO]))
  refine codeAny_call_builtin sf.slot.plain sf.entry (@check_slot (model prog w) _ _ ⟨hp, gg, dr, t, os⟩ "object.__setattr__" "object" "__setattr__" (.ref x) [.str name tk, v] [] _ sf.kind sf.split ofO (sf.args (.ref x) (.str name tk) v) ?_)
  have lookM : Looks (model prog w) hp (mroOf (.ref C)) cd.mro := (looks_clsIn inK hcd).andThen .now
  have lookT : Looks (model prog w) hp (storeTaker? none) none := .now
  have lookC : Looks (model prog w) hp (classData C) cd := looks_clsIn inK hcd
  rw [osa_eq, refuse_eq]
  refine wpAny_bind (wpAny_bind (J.type.at (wpAny_bind (lookM.at ?_))))
  rw [overEx_pass _ _ hm]
  refine wpAny_pure (wpAny_bind (J.type.at (wpAny_bind ((looks_findIn inK ha).at (wpAny_bind (lookT.at ?_))))))
  show wpAny _ _ (storeInOwnDict (.ref x) (.ref C) (.str name tk) name v false) _ _ _
  obtain ⟨cn, cb, cm, cns, cq, chd, csn, csb, cab, ccol, cdel⟩ := cd
  dsimp only at hh
  cases hh
  unfold storeInOwnDict ownDictForStores
  repeat (first | with_reducible refine store_in_new ?_ ?_ | with_reducible refine wpAny_loadPart_at hx ?_ | with_reducible refine lookC.at ?_ | wp_step)
  · exact ⟨_, #[], _, (Heap.get?_update_ne _ _ _ _ apart.symm).trans (Heap.get?_push_at rfl rfl), rfl, fun e he => absurd he (by simp), fun _ => rfl⟩
  · intro h2 tk2 ns2 but
    have grown : (hp.push { cls := .type "dict", data := .dict #[] }).get? x = some { cls := .ref C, data := .fields fv } := Heap.get?_push_of_some _ hx
    refine hq h2 tk2 hp.objs.size (fun b o hb ho => (but.2 b (Nat.ne_of_lt (Heap.lt_size ho))).trans ((Heap.get?_update_ne _ _ _ _ hb).trans (Heap.get?_push_of_some _ ho))) (Nat.le_refl _) apart.symm ((but.2 x apart).trans (Heap.get?_update_self _ grown rfl)) ns2
end
end MrE
namespace MrE
open PySem PySem.W PySem.Calls PySem.HandSPX
open PyProof.Rows hiding St
/-! ### the class's text: def __init__(self, thing): self.thing = thing -/
def iArgs (p1 p2 : Pos) : Arguments := { posonlyargs := [], args := [{ arg := "self", annotation := none, pos := p1 }, { arg := "thing", annotation := none, pos := p2 }], vararg := none, kwonlyargs := [], kw_defaults := [], kwarg := none, defaults := [] }
def iBody (q1 q2 q3 q4 : Pos) : List Stmt := [.Assign [.Attribute (.Name "self" q1) "thing" q2] (.Name "thing" q3) q4]
def iScope : Scope := { kind := .function, names := [(PySem.Str.ofString "self", .local), (PySem.Str.ofString "thing", .local)], isGenerator := false, isCoroutine := false, more := [] }
/-- what the written part says of the error class at C and of its __init__ at fI -/
structure ErrT (K : Frag) (mg : Str → Option Value) (name : Str) (C fI : Addr) : Prop where
  gC : mg name = some (.ref C)
  cls : ∃ nm q N bs bm sn sub ab col dd k0 k1 k2 k3 k5, K.lookup C = some (excClassObj nm q C N bs bm true sn sub ab col dd k0 k1 k2 k3 k5 "Exception.__new__") ∧ overEx bm = true
  sa : findIn K (.ref C) "__setattr__" = some (some (.builtin "object.__setattr__"))
  ga : findIn K (.ref C) "__getattribute__" = some (some (.builtin "BaseException.__getattribute__"))
  gg : findIn K (.ref C) "__getattr__" = some none
  noN : findIn K (.ref C) "thing" = some none
  iC : findIn K (.ref C) "__init__" = some (some (.ref fI))
  tC : typeIn K (.ref fI) = some (.type "function")
  kC : keepIn K (.ref C) = true
  exC : subIn K (.ref C) (.type "BaseException") = some true
  tyC : typeIn K (.ref C) = some (.type "type")
  hdC : hasDictIn K C = true
  fn : ∃ (qual : Str) (oc : Value) (od : Option Addr) (doc pm : Value) (an : Option Addr) (cdv ct : Value) (osl : Array (Option Value)) (p1 p2 q1 q2 q3 q4 : Pos),
    K.lookup fI = some ⟨oc, od, .func (fnOf "__init__" qual (iArgs p1 p2) (iBody q1 q2 q3 q4) iScope .none .none doc pm an cdv ct), osl⟩ ∧ codeIn K cdv qual = true
theorem one_fits (v : Value) : [v].length ≤ sizeLine := by
  rw [sizeLine_eq]
  exact (by decide : 1 ≤ 16777216)
theorem in_but {K : Frag} {h h' : Heap} {x : Addr} (X : K.In h) (hx : K.lookup x = none) (k : ∀ b o, b ≠ x → h.get? b = some o → h'.get? b = some o) : K.In h' := fun a o e => k a o (fun z => by rw [z, hx] at e; cases e) (X a o e)
theorem ld_loc {M : Model} {s : Shared} {name : Str} {scope : Scope} {L a : Addr} {cd : Value} {m : Str → Option Value} {x : Str} {pos : Pos} {v : Value} {Q : Value → Shared → Prop} {A : Around} {E : Value → Shared → Prop} (hn : s.heap.Ns L m) (hv : m x = some v) (h : Q v s)
    (hk : scope.kind = .function := by rfl) (hl : (envOfC name scope L a cd).kindOf x = some .local := by rfl) (hd : (x == ("__debug__" : Str)) = false := by decide) :
    wpAny M A (eval (.Name x pos) (envOfC name scope L a cd)) Q E s := wpAny_Name (wpAny_loadName_local hk hl hn hv h) hd
/-- what __init__ leaves of a fresh error at x -/
structure Inited (h h' : Heap) (x C dx t1 : Addr) (v : Value) : Prop where
  keep : ∀ b o, b ≠ x → h.get? b = some o → h'.get? b = some o
  obj : h'.get? x = some { cls := .ref C, dict := some dx, data := .fields #[.ref t1, .none, .none, .none, .bool false, .none] }
  dbig : h.objs.size ≤ dx
  dne : dx ≠ x
  ns : h'.Ns1 dx (fun y => if y = "thing" then some v else none)
/-- a made error -/
structure Made1 (h h' : Heap) (e C d : Addr) (v : Value) : Prop where
  keep : ∀ b o, h.get? b = some o → h'.get? b = some o
  new : h.objs.size ≤ e
  obj : ∃ oe vs, h'.get? e = some oe ∧ oe.cls = .ref C ∧ oe.dict = some d ∧ oe.data = .fields vs ∧ vs[1]? = some .none
  dbig : h.objs.size ≤ d
  dne : d ≠ e
  ns : h'.Ns1 d (fun y => if y = "thing" then some v else none)
section
variable {prog : Program} {w : World} {A : Around} {E : Value → Shared → Prop} {R : Result → Shared → Prop} {s : Shared} {K : Frag} {mg : Str → Option Value} {name : Str} {C fI : Addr}
theorem err_init (T : ErrT K mg name C fI) {x t0 : Addr} {v : Value} (X : K.In s.heap) (hlim : s.heap.NoLimit) (hx : s.heap.get? x = some (excO C t0)) (hnx : K.lookup x = none) (hroom : A.depth < recursionLimit)
    (hq : ∀ h' tk dx, Inited s.heap h' x C dx t0 v → R (.ok (.ret .none)) { s with heap := h', toks := tk }) :
    codeAny (model prog w) A (.call (.ref fI) ⟨[.ref x, v], []⟩) R s := by
  obtain ⟨qual, oc, od, doc, pm, an, cdv, ct, osl, p1, p2, q1, q2, q3, q4, ho, hcd⟩ := T.fn
  obtain ⟨nm, q, N, bs, bm, sn, sub, ab, col, dd, k0, k1, k2, k3, k5, hC, hbm⟩ := T.cls
  have hcl : clsIn K C = some { name := nm, bases := bs, mro := .ref C :: bm, ns := N, qualname := q, hasDict := true, slotNames := sn, subclasses := sub, abstract := ab, collection := col, hasDel := false } := by unfold clsIn; rw [hC] <;> rfl
  refine Att.call_fn (binds := [("self", .ref x), ("thing", v)]) X hlim ho hcd hroom (BindsTo.of_eq (by first | rfl | with_unfolding_all rfl)) (by first | rfl | decide | with_unfolding_all rfl) (fun s1 IC => ?_) rfl rfl rfl
  obtain ⟨h1, tk1, rfl⟩ := IC.toInCall.same
  have k : ∀ b o, s.heap.get? b = some o → h1.get? b = some o := IC.toInCall.keep
  have hn := IC.toInCall.ns
  have X1 : K.In h1 := X.keeps k
  have hx1 := k _ _ hx
  show wpAny _ _ (execs _ _) _ _ _
  refine wpAny_execs_cons (plainObj_wpAny_Assign_Attribute ?_)
  refine ld_loc (v := v) hn (by first | rfl | with_unfolding_all rfl | kernel_rfl) (ld_loc (v := .ref x) hn (by first | rfl | with_unfolding_all rfl | kernel_rfl) ?_)
  refine set_plain X1 (ox := excO C t0) (od := none) ⟨hx1, rfl, rfl, trivial⟩ T.sa ?_
  refine put_first X1 hx1 hcl (show overEx (.ref C :: bm) = true from hbm) rfl T.noN (fun h3 tk3 dx k3 dn dne hx3 hn3 => ?_)
  show wpAny _ _ (execs _ _) _ _ _
  have z : s.heap.objs.size < h1.objs.size := hn.lt
  exact wpAny_execs_nil (hq h3 tk3 dx ⟨fun b o hb e => k3 b o hb (k b o e), hx3, Nat.le_of_lt (Nat.lt_of_lt_of_le z dn), dne, hn3⟩)
theorem err_made (T : ErrT K mg name C fI) {v : Value} (X : K.In s.heap) (hlim : s.heap.NoLimit) (hroom : A.depth + 1 < recursionLimit)
    (hq : ∀ h' tk e d, Made1 s.heap h' e C d v → R (.ok (.ret (.ref e))) { s with heap := h', toks := tk }) :
    codeAny (model prog w) A (.call (.ref C) ⟨[v], []⟩) R s := by
  obtain ⟨nm, q, N, bs, bm, sn, sub, ab, col, dd, k0, k1, k2, k3, k5, hC, hbm⟩ := T.cls
  obtain ⟨hp, g, dr, tk, os⟩ := s
  have k : ∀ b o, hp.get? b = some o → ((hp.push (kdv_tup [v])).push (excO C hp.objs.size)).get? b = some o := fun b o e => Heap.get?_push_of_some _ (Heap.get?_push_of_some _ e)
  have hget : ((hp.push (kdv_tup [v])).push (excO C hp.objs.size)).get? (hp.objs.size + 1) = some (excO C hp.objs.size) := by heap_get
  have hnx : K.lookup (hp.objs.size + 1) = none := by
    cases e : K.lookup (hp.objs.size + 1) with
    | none => rfl
    | some o => exact absurd (Nat.lt_of_succ_lt (Heap.lt_size (X _ _ e))) (Nat.lt_irrefl _)
  refine call_own F.excBase_Exception (fun n => overEx_has n bm hbm) (X _ _ hC) (looks_findIn X T.iC) (fun self => bind_fn X self T.tC) (one_fits v) ?_
  refine err_init (s := ⟨(hp.push (kdv_tup [v])).push (excO C hp.objs.size), g, dr, tk, os⟩) T (X.keeps k) (hlim.keeps k) hget hnx ?_ fun h' tk' dx ⟨k', hx, dn, dne, hns⟩ => ?_
  · show A.depth + 1 < recursionLimit
    exact hroom
  · have old : ∀ b o, hp.get? b = some o → h'.get? b = some o := fun b o e => k' b o (Nat.ne_of_lt (Nat.lt_succ_of_lt (Heap.lt_size e))) (k b o e)
    have z : hp.objs.size + 1 + 1 ≤ dx := by
      first
        | (simpa only [Heap.size_push] using dn)
        | exact dn
        | (have q := dn; rw [Heap.size_push, Heap.size_push] at q; exact q)
    exact ⟨rfl, hq h' tk' (hp.objs.size + 1) dx ⟨old, Nat.le_succ _, ⟨_, _, hx, rfl, rfl, rfl, rfl⟩, Nat.le_trans (Nat.le_trans (Nat.le_succ _) (Nat.le_succ _)) z, dne, hns⟩⟩
end
end MrE
namespace Mr
open PySem PySem.Spec L2
open PyProof.Rows hiding St
theorem relO_one {f : Str} {v : V} {v' : Value} (r : RelV v v') (y : Str) : RelO (List.lookup y [(f, v)]) (if y = f then some v' else none) := by
  by_cases h : y = f
  · subst h
    rw [if_pos rfl]
    have q : List.lookup y [(y, v)] = some v := by simp [List.lookup]
    rw [q]
    exact r
  · rw [if_neg h]
    have q1 : (y == f) = false := by simpa using h
    have q2 : List.lookup y [(f, v)] = none := by simp [List.lookup, q1]
    rw [q2]
    trivial
section
variable {X : Cx} {C fI : Addr} {name : Str}
/-- C(e) -/
def tMkE (C : Addr) (ta : TA) : L2.St → Hp → XK → Prop := fun s H Q => ta s H fun vs H1 => ∃ v, vs = [v] ∧ ∀ d, H1 d = none → Q (.ref C) (some d) (upd H1 d (.xd [(("thing" : Str), v)]))
theorem pmk_err {a : Expr} {ta : TA} {p pos : Pos} {k : Nat} (T : MrE.ErrT X.K X.mg name C fI) (hr : Room k X.A) (ha : PA X [a] ta) (hg : Gl X name := by rfl) (hdb : (name == ("__debug__" : Str)) = false := by decide)
    (he : starEach (a :: []) X.env = (false, eval a X.env) :: starEach [] X.env := by rfl) (hpl : (backTo pos (starEach [] X.env)).any (·.1) = false := by rfl) :
    PMk X (.Call (.Name name p) [a] [] pos) (tMkE C ta) := by
  intro pins s st H Q I h
  refine wpAny_Call_Name_kw (ld_glob I hg T.gC ?_ hdb)
  refine PySem.W.callWith_K (h₀ := X.base) I.ok.mod.kin T.kC (thn (ha.run pos pins s st H _ I h) fun us s1 hh => ?_) he hpl
  obtain ⟨vs, H1, I1, r1, v, rfl, q1⟩ := hh
  refine ⟨I1.kIn, ?_⟩
  cases r1 with
  | cons rv rn =>
    rename_i v' us'
    cases rn
    show wpAny _ _ (call (.ref C) [v']) _ _ _
    have hlim := I1.nolimit
    obtain ⟨hp, g, dr, tk, os⟩ := s1
    refine wpAny_call (MrE.err_made T I1.kIn hlim (by have := hr.dp; omega) fun h' tk' e d M => ?_)
    show MkP X pins st Q (.ref e) ⟨h', g, dr, tk', os⟩
    obtain ⟨oe, fv, hoe, hc, hd, hdat, h1⟩ := M.obj
    have hns := M.ns
    obtain ⟨G', g1, g2⟩ := restrict h' fun b => decide (b ≠ e)
    have gk : ∀ b, b ≠ e → G'.get? b = h'.get? b := fun b hb => g1 b (decide_eq_true hb)
    have ge : G'.get? e = none := g2 e (by simp)
    have old : ∀ b o, hp.get? b = some o → G'.get? b = some o := fun b o q => (gk b (Nat.ne_of_lt (Nat.lt_of_lt_of_le (Heap.lt_size q) M.new))).trans (M.keep b o q)
    have ob : ObjOk X.prog X.w (upd H1 d (.xd [(("thing" : Str), v)])) G' d (.xd [(("thing" : Str), v)]) := ⟨_, hns.at (fun o q => (gk d M.dne).trans q), fun f => relO_one rv f⟩
    have J : Inv X pins st (upd H1 d (.xd [(("thing" : Str), v)])) ⟨G', g, dr, tk', os⟩ := I1.laid (t' := tk') old M.dbig ob
    refine ⟨e, oe, fv, ⟨G', g, dr, tk', os⟩, _, .ref C, some d, rfl, J, fun b o q => ?_, ge, hoe, ⟨hc, hd⟩, hdat, h1, ?_, rfl, I1.bare, raises_own T.exC T.tyC, q1 d (I1.hok.fresh M.dbig)⟩
    · by_cases hb : b = e
      · have q' : G'.get? b = some o := q
        rw [hb, ge] at q'; cases q'
      · exact (gk b hb).symm.trans q
    · rw [upd_ne (Ne.symm M.dne)]
      exact I1.hok.fresh M.new
/-- raise C(e), C the error class of the number c -/
def sRaise (c : Nat) (fld : Str) (f : Env1 → Sto → R M) : Env1 → Sto → Out := fun e S => (f e S).toS e fun m S1 => match m with
  | .d x => .rz c (some (fld, x)) e S1
  | _ => .bad
theorem ms_raise {g : Cfg} {W : WX} {a : Expr} {fa : Env1 → Sto → R M} {p pos pos2 : Pos} {k c : Nat} (hc : X.calm = true) (tk : Takes X W) (T : MrE.ErrT X.K X.mg name (g.cl c) fI) (hr : Room k X.A) (ha : ME X g W a fa) (hg : Gl X name := by rfl) (hdb : (name == ("__debug__" : Str)) = false := by decide)
    (he : starEach (a :: []) X.env = (false, eval a X.env) :: starEach [] X.env := by rfl) (hpl : (backTo pos (starEach [] X.env)).any (·.1) = false := by rfl) :
    MS X g W (.Raise (some (.Call (.Name name p) [a] [] pos)) none pos2) (sRaise c "thing" fa) := by
  refine PS.of (ps_raise hc tk (pmk_err T hr (pa_cons ha pa_nil he) hg hdb he hpl)) fun D s H h => ?_
  obtain ⟨ph, r, S, e, so, ev, h⟩ := h
  refine tG.bindS so ev h fun m v S1 r1 H1 x1 so1 ev1 m1 h1 => ?_
  refine ⟨v, rfl, fun d hd => ?_⟩
  cases m with
  | d x => exact h1 r1 _ s (some d) (.new hd) (so1.new hd) (ev1.mono (.new hd)) ⟨d, v, rfl, upd_same, so1.fresh hd, Dr.mono (Ext.new hd) m1⟩
  | _ => exact h1.elim
end
end Mr

end
section
set_option maxRecDepth 100000
set_option autoImplicit false
namespace Mr
open PySem PySem.Spec L2 MrT
open PyProof.Rows hiding St

/-! ### dict displays -/
abbrev Prs := List ((Env1 → Sto → R M) × (Env1 → Sto → R M))
def dPairs : Prs → Env1 → Sto → R (List (Key × M))
  | [], _, S => .ok [] S
  | p :: r, e, S => (p.1 e S).bind fun k S1 => (p.2 e S1).bind fun v S2 => match keyM k with
    | some kk => (dPairs r e S2).bind fun kvs S3 => .ok ((kk, v) :: kvs) S3
    | none => .bad
def trsOf (K : PySem.W.Frag) (g : Cfg) (W : WX) (prs : Prs) : List (TE × TE) := prs.map fun p => (tM K g W p.1, tM K g W p.2)
abbrev PKv : Rel (List (Key × M)) (List (Key × V)) := fun K g ph r H a b => KP K g ph r H a b
section
variable {X : Cx} {g : Cfg} {W : WX} {pos : Pos}
theorem KP.mono {K : PySem.W.Frag} {ph r r' : List Addr} {H H' : Hp} (x : Ext r H r' H') {a : List (Key × M)} {b : List (Key × V)} (h : KP K g ph r H a b) : KP K g ph r' H' a b := Paired.mapP h fun _ _ z => ⟨z.1, Mv.mono x z.2⟩
theorem tPairs_of {K : PySem.W.Frag} {s : L2.St} : ∀ {prs : Prs} {ph r : List Addr} {S : Sto} {e : Env1} {H : Hp} {Q : List (Key × V) → Hp → Prop} {Q2 : List (V × V) → Hp → Prop}, So K g ph r S H → Ev K g ph r H e s →
    Post PKv K g (fun c d H' => W c d s H') ph r H (dPairs prs e S) Q → (∀ ws H', Q ws H' → Q2 (ws.map fun kv => (kV kv.1, kv.2)) H') → tPairs (trsOf K g W prs) s H Q2
  | [], ph, r, S, e, H, Q, Q2, so, ev, h, w => w [] H (h r H [] (.refl _ _) so .nil)
  | p :: prs, ph, r, S, e, H, Q, Q2, so, ev, h, w => by
    refine tG.bind so ev h fun mk vk S1 r1 H1 x1 so1 ev1 m1 h1 => ?_
    refine tG.bind so1 ev1 h1 fun mv vv S2 r2 H2 x2 so2 ev2 m2 h2 => ?_
    cases q : keyM mk with
    | none => rw [q] at h2; exact h2.elim
    | some kk =>
      rw [q] at h2
      have e1 := keyM_v m1 q
      subst e1
      have h3 : Post PKv K g (fun c d H' => W c d s H') ph r2 H2 (dPairs prs e S2) (fun ws H3 => Q ((kk, vv) :: ws) H3) := by
        cases q2 : dPairs prs e S2 with
        | ok kvs S3 =>
          have h2 : Post PKv K g (fun c d H' => W c d s H') ph r2 H2 ((dPairs prs e S2).bind fun kvs S3 => R.ok ((kk, mv) :: kvs) S3) Q := h2
          rw [q2] at h2
          exact fun r3 H3 ws x3 so3 k3 => h2 r3 H3 _ x3 so3 (.cons ⟨rfl, Mv.mono x3 m2⟩ k3)
        | rz c y S3 =>
          have h2 : Post PKv K g (fun c d H' => W c d s H') ph r2 H2 ((dPairs prs e S2).bind fun kvs S3 => R.ok ((kk, mv) :: kvs) S3) Q := h2
          rw [q2] at h2; exact h2
        | bad =>
          have h2 : Post PKv K g (fun c d H' => W c d s H') ph r2 H2 ((dPairs prs e S2).bind fun kvs S3 => R.ok ((kk, mv) :: kvs) S3) Q := h2
          rw [q2] at h2; exact h2
      exact tPairs_of so2 ev2 h3 fun ws H' z => w ((kk, vv) :: ws) H' z
abbrev MP (X : Cx) (g : Cfg) (W : WX) (pos : Pos) (keys : List (Option Expr)) (values : List Expr) (prs : Prs) : Prop := PPs X pos keys values (trsOf X.K g W prs)
theorem mp_nil : MP X g W pos [] [] [] := pps_nil
theorem mp_cons {k v : Expr} {ks : List (Option Expr)} {vs : List Expr} {fk fv : Env1 → Sto → R M} {prs : Prs} (hk : ME X g W k fk) (hv : ME X g W v fv) (hr : MP X g W pos ks vs prs) : MP X g W pos (some k :: ks) (v :: vs) ((fk, fv) :: prs) := pps_cons hk hv hr
def mergeM (kvs : List (Key × M)) : List (Key × M) := kvs.foldl (fun acc kv => putM acc kv.1 kv.2) []
theorem KP.merge {K : PySem.W.Frag} {ph r : List Addr} {H : Hp} {more : List (Key × M)} {ws : List (Key × V)} (h : KP K g ph r H more ws) : KP K g ph r H (mergeM more) (mergeK [] ws) := by
  unfold mergeM mergeK
  have gen : ∀ {acc : List (Key × M)} {acc2 : List (Key × V)}, KP K g ph r H acc acc2 → KP K g ph r H (more.foldl (fun acc kv => putM acc kv.1 kv.2) acc) (ws.foldl (fun acc kv => putK acc kv.1 kv.2) acc2) := by
    induction h with
    | nil => exact fun h => h
    | @cons a b as bs h1 h2 ih =>
      intro acc acc2 h
      rw [List.foldl_cons, List.foldl_cons, h1.1]
      exact ih (h.put b.1 h1.2)
  exact gen .nil
def eDic (prs : Prs) : Env1 → Sto → R M := fun e S => (dPairs prs e S).bind fun kvs S1 => lift ((dsOf ((mergeM kvs).map (·.2))).map fun ds => .d (.dict (((mergeM kvs).map fun p => keyD p.1).zip ds))) S1
def eDicO (prs : Prs) : Env1 → Sto → R M := fun e S => (dPairs prs e S).bind fun kvs S1 => .ok (.loc S1.length) (S1 ++ [.dct (mergeM kvs)])
theorem dPairs_len {e : Env1} : ∀ {prs : Prs} {S S' : Sto} {kvs : List (Key × M)}, dPairs prs e S = .ok kvs S' → kvs.length = prs.length
  | [], _, _, _, h => by cases h; rfl
  | p :: prs, S, S', kvs, h => by
    have h : ((p.1 e S).bind fun k S1 => (p.2 e S1).bind fun v S2 => match keyM k with
      | some kk => (dPairs prs e S2).bind fun kvs S3 => R.ok ((kk, v) :: kvs) S3
      | none => .bad) = .ok kvs S' := h
    cases q1 : p.1 e S with
    | ok k S1 =>
      simp only [q1, R.bind] at h
      cases q2 : p.2 e S1 with
      | ok v S2 =>
        simp only [q2] at h
        cases q3 : keyM k with
        | none => simp [q3] at h
        | some kk =>
          simp only [q3] at h
          cases q4 : dPairs prs e S2 with
          | ok kvs2 S3 =>
            simp only [q4] at h
            cases h
            rw [List.length_cons, List.length_cons, dPairs_len q4]
          | rz c y S3 => simp [q4] at h
          | bad => simp [q4] at h
      | rz c y S3 => simp [q2] at h
      | bad => simp [q2] at h
    | rz c y S3 => simp [q1, R.bind] at h
    | bad => simp [q1, R.bind] at h
theorem kp_snd {K : PySem.W.Frag} {ph r : List Addr} {H : Hp} {a : List (Key × M)} {b : List (Key × V)} (h : KP K g ph r H a b) : Paired (Mv K g ph r H) (a.map (·.2)) (b.map (·.2)) ∧ b.map (·.1) = a.map (·.1) := by
  induction h with
  | nil => exact ⟨.nil, rfl⟩
  | @cons a b as bs h1 h2 ih => exact ⟨.cons h1.2 ih.1, by rw [List.map_cons, List.map_cons, ih.2, h1.1]⟩
theorem unzip_eq : ∀ l : List (Key × V), (l.map (·.1)).zip (l.map (·.2)) = l
  | [] => rfl
  | p :: l => by rw [List.map_cons, List.map_cons, List.zip_cons_cons, unzip_eq l]
/-- what was shut while it was made is let in -/
theorem Mv.adopt {K : PySem.W.Frag} {p : Addr} {ph r : List Addr} {H : Hp} {m : M} {v : V} (h : Mv K g (p :: ph) r H m v) : Mv K g ph (r ++ [p]) H m v := by
  have hB : ∀ a, a ∈ ph ++ (r ++ [p]) → a ∈ (p :: ph) ++ r := fun a ha => by
    rcases List.mem_append.mp ha with z | z
    · exact List.mem_append_left _ (List.mem_cons_of_mem _ z)
    · rcases List.mem_append.mp z with z | z
      · exact List.mem_append_right _ z
      · rw [List.mem_singleton.mp z]; exact List.mem_append_left _ List.mem_cons_self
  cases m with
  | d x => exact Dr.less hB h
  | loc n =>
    obtain ⟨a, e, rfl⟩ := h
    exact ⟨a, by rw [List.getElem?_append_left (List.getElem?_eq_some_iff.mp e).1]; exact e, rfl⟩
  | ro xs =>
    obtain ⟨a, vs, e1, e, t⟩ := h
    refine ⟨a, vs, e1, e.imp (fun q => ?_) id, DrAll.less hB t⟩
    obtain ⟨o, e, n⟩ := q
    exact ⟨o, e, fun z => n (hB a z)⟩
  | pr xs =>
    obtain ⟨a, vs, e1, ⟨e, n⟩, t⟩ := h
    exact ⟨a, vs, e1, ⟨e, fun z => n (hB a z)⟩, DrAll.less hB t⟩
  | fn a => exact h
  | ty n => exact h
  | kdc a ks => exact h
  | exn c x =>
    obtain ⟨a, d, e1, e2, t⟩ := h
    refine ⟨a, d, e1, e2, ?_⟩
    cases x with
    | none => trivial
    | some p =>
      obtain ⟨f, y⟩ := p
      obtain ⟨dd, w, h1, e, n, t⟩ := t
      exact ⟨dd, w, h1, e, fun z => n (hB dd z), Dr.less hB t⟩
theorem So.adopt {K : PySem.W.Frag} {p : Addr} {ph r : List Addr} {S : Sto} {H : Hp} {o o' : HO} {x : O} (s : So K g (p :: ph) r S H) (hpn : p ∉ ph) (e : H p = some o) (n1 : ∀ ps, o ≠ .tbl ps) (n2 : ∀ φ, o ≠ .ext φ) (hv : Ov K g ph (r ++ [p]) (upd H p o') x o') (ho : ∀ ps, o' ≠ .tbl ps := by intro _ z; cases z) : So K g ph (r ++ [p]) (S ++ [x]) (upd H p o') := by
  have pr : p ∉ r := s.dis p List.mem_cons_self
  have hin : p ∈ ph ++ (r ++ [p]) := List.mem_append_right _ (List.mem_append_right _ List.mem_cons_self)
  refine ⟨by simp [s.len], ?_, fun a ha z => ?_, fun a ha => ?_, fun k u q => ?_, tabs_upd e n1 n2 s.tabs, fun q hq => Paired.mapP (s.kp q hq) fun m v z => ?_⟩
  rotate_right
  · cases m with
    | none => trivial
    | some m =>
      cases v with
      | none => exact z
      | some v => exact Mv.shut hin (Mv.adopt (g := g) z)
  · refine List.nodup_append.mpr ⟨s.nd, by simp, fun a ha b hb => ?_⟩
    rw [List.mem_singleton.mp hb]
    exact fun z => pr (by rw [← z]; exact ha)
  · rcases List.mem_append.mp z with z | z
    · exact s.dis a (List.mem_cons_of_mem _ ha) z
    · rw [List.mem_singleton.mp z] at ha
      exact hpn ha
  · by_cases h : a = p
    · exact ⟨o', by rw [h, upd_same], ho⟩
    · obtain ⟨u, q, t⟩ := s.there a (List.mem_cons_of_mem _ ha)
      exact ⟨u, by rw [upd_ne h]; exact q, t⟩
  · by_cases hk : k < S.length
    · rw [List.getElem?_append_left hk] at q
      obtain ⟨a, w, e1, e2, e3⟩ := s.at_ k u q
      have hne : a ≠ p := fun z => pr (by rw [← z]; exact List.mem_of_getElem? e1)
      refine ⟨a, w, by rw [List.getElem?_append_left (by rw [s.len]; exact hk)]; exact e1, by rw [upd_ne hne]; exact e2, Ov.shut hin ?_⟩
      cases u with
      | lst xs =>
        cases w with
        | lst vs => exact Paired.mapP e3 fun _ _ z => Mv.adopt (g := g) z
        | _ => exact e3
      | dct kvs =>
        cases w with
        | dK ws => exact Paired.mapP e3 fun _ _ z => ⟨z.1, Mv.adopt (g := g) z.2⟩
        | _ => exact e3
    · rw [List.getElem?_append_right (by omega)] at q
      have hk2 : k - S.length = 0 := by
        by_cases hz : k - S.length = 0
        · exact hz
        · rw [List.getElem?_eq_none (by simp; omega)] at q
          cases q
      rw [hk2] at q
      cases q
      exact ⟨p, o', by rw [List.getElem?_append_right (by rw [s.len]; omega), s.len, hk2]; rfl, by rw [upd_same], hv⟩
theorem dic_core {prs : Prs} {s : L2.St} {H : Hp} {Q : VK} {ph r : List Addr} {S : Sto} {e : Env1} {F : List (Key × M) → Sto → R M} (so : So X.K g ph r S H) (ev : Ev X.K g ph r H e s) (h : Post PV X.K g (fun c d H' => W c d s H') ph r H ((dPairs prs e S).bind F) Q) (hl : prs.length ≤ 15)
    (w : ∀ (p : Addr) (kvs : List (Key × M)) (ws : List (Key × V)) (S1 : Sto) (r1 : List Addr) (H1 : Hp), H p = none → Ext r H r1 H1 → So X.K g (p :: ph) r1 S1 H1 → H1 p = some (.dK []) → KP X.K g (p :: ph) r1 H1 kvs ws → Post PV X.K g (fun c d H' => W c d s H') ph r H (F kvs S1) Q → Q (.ref p) (upd H1 p (.dK (mergeK [] ws)))) :
    tDisp (trsOf X.K g W prs) s H Q := by
  intro p hp
  have hm : ∀ a, a ∈ p :: ph → a ∈ ph ∨ H a = none := fun a ha => by
    rcases List.mem_cons.mp ha with z | z
    · rw [z]; exact .inr hp
    · exact .inl z
  have so1 := so.more (o := .dK []) hp
  have ev1 : Ev X.K g (p :: ph) r (upd H p (.dK [])) e s := (ev.more hm (fun a ha => List.mem_cons_of_mem _ ha)).mono (Ext.new hp)
  refine tPairs_of (Q := fun ws H1 => H1 p = some (.dK []) ∧ ws.length ≤ 15 ∧ Q (.ref p) (upd H1 p (.dK (mergeK [] ws)))) so1 ev1 ?_ fun ws H' z => ⟨z.1, ws, rfl, z.2.1, z.2.2⟩
  cases q : dPairs prs e S with
  | ok kvs S1 =>
    rw [q] at h
    intro r1 H1 ws x1 so2 k1
    have e1 : H1 p = some (.dK []) := x1.keep p _ upd_same (so1.dis p List.mem_cons_self) (fun _ z => by cases z)
    exact ⟨e1, by rw [← k1.length, dPairs_len q]; exact hl, w p kvs ws S1 r1 H1 hp ((Ext.new hp).trans x1) so2 e1 k1 h⟩
  | rz c y S1 =>
    rw [q] at h
    refine fun r1 H1 d x1 so2 z => h r1 H1 d ((Ext.new hp).trans x1) (so2.less fun a ha => List.mem_cons_of_mem _ ha) ?_
    cases y with
    | none => trivial
    | some y =>
      obtain ⟨dd, w, h1, h2, h3, h4⟩ := z
      have hB : ∀ a, a ∈ ph ++ r1 → a ∈ (p :: ph) ++ r1 := fun a ha => List.mem_cons_of_mem _ ha
      exact ⟨dd, w, h1, h2, fun z => h3 (hB dd z), Dr.less hB h4⟩
  | bad => rw [q] at h; exact h.elim
theorem me_dic {keys : List (Option Expr)} {values : List Expr} {prs : Prs} (h : MP X g W pos keys values prs) (hl : prs.length ≤ 15 := by decide) (hall : keys.all (·.isSome) = true := by rfl) (hkl : keys.length = values.length := by rfl) (h0 : keys ≠ [] := by exact fun z => nomatch z) (h15 : keys.length ≤ 15 := by decide) : ME X g W (.Dict keys values pos) (eDic prs) := by
  refine PE.of (pe_disp h hall hkl h0 h15) fun s H Q hh => ?_
  obtain ⟨ph, r, S, e, so, ev, hh⟩ := hh
  refine dic_core so ev hh hl fun p kvs ws S1 r1 H1 hp x1 so1 ep k1 h1 => ?_
  have k2 := k1.merge
  obtain ⟨k3, k4⟩ := kp_snd k2
  cases q : dsOf ((mergeM kvs).map (·.2)) with
  | none => rw [q] at h1; exact h1.elim
  | some ds =>
    rw [q] at h1
    have hin : p ∈ (p :: ph) ++ r1 := List.mem_append_left _ List.mem_cons_self
    have pn : p ∉ ph ++ r1 := fun z => by
      rcases List.mem_append.mp z with z | z
      · exact so.fresh hp (List.mem_append_left _ z)
      · exact so1.dis p List.mem_cons_self z
    refine h1 r1 _ _ (x1.over hp) ((so1.shut List.mem_cons_self ep (fun _ z => by cases z) (fun _ z => by cases z)).less fun a ha => List.mem_cons_of_mem _ ha) ?_
    have t := DrAll.shut (o := .dK (mergeK [] ws)) hin (dsOf_rel k3 q)
    have t2 : DrAll X.K (ph ++ r1) (upd H1 p (.dK (mergeK [] ws))) ((mergeK [] ws).map (·.2)) ds := DrAll.less (fun a ha => List.mem_cons_of_mem _ ha) t
    have d := Dr.dct (K := X.K) (B := ph ++ r1) (H := upd H1 p (.dK (mergeK [] ws))) (a := p) (ks := (mergeK [] ws).map (·.1)) (vs := (mergeK [] ws).map (·.2)) (ds := ds) (by rw [upd_same, unzip_eq]) pn (by simp) t2
    have e3 : ((mergeK [] ws).map (·.1)).map keyD = (mergeM kvs).map fun p => keyD p.1 := by
      rw [k4, List.map_map]
      rfl
    rw [e3] at d
    exact d
theorem me_dicO {keys : List (Option Expr)} {values : List Expr} {prs : Prs} (h : MP X g W pos keys values prs) (hl : prs.length ≤ 15 := by decide) (hall : keys.all (·.isSome) = true := by rfl) (hkl : keys.length = values.length := by rfl) (h0 : keys ≠ [] := by exact fun z => nomatch z) (h15 : keys.length ≤ 15 := by decide) : ME X g W (.Dict keys values pos) (eDicO prs) := by
  refine PE.of (pe_disp h hall hkl h0 h15) fun s H Q hh => ?_
  obtain ⟨ph, r, S, e, so, ev, hh⟩ := hh
  refine dic_core so ev hh hl fun p kvs ws S1 r1 H1 hp x1 so1 ep k1 h1 => ?_
  have k2 := k1.merge
  have pn : p ∉ ph := fun z => so.fresh hp (List.mem_append_left _ z)
  have x2 : Ext r H (r1 ++ [p]) (upd H1 p (.dK (mergeK [] ws))) := by
    have x3 := x1.over (o := .dK (mergeK [] ws)) hp
    refine ⟨x3.keep, x3.stay, ?_⟩
    obtain ⟨l, e1, e2⟩ := x1.pre
    exact ⟨l ++ [p], by rw [e1, List.append_assoc], fun a ha => (List.mem_append.mp ha).elim (e2 a) fun z o e => by rw [List.mem_singleton.mp z, hp] at e; cases e⟩
  have hin : p ∈ ph ++ (r1 ++ [p]) := List.mem_append_right _ (List.mem_append_right _ List.mem_cons_self)
  refine h1 (r1 ++ [p]) _ _ x2 (so1.adopt pn ep (fun _ z => by cases z) (fun _ z => by cases z) ?_) ⟨p, by rw [← so1.len, List.getElem?_append_right (Nat.le_refl _)]; simp, rfl⟩
  exact Paired.mapP k2 fun _ _ z => ⟨z.1, Mv.shut hin (Mv.adopt (g := g) z.2)⟩
theorem me_dicN : ME X g W (.Dict [] [] pos) (eC (.d (.dict []))) := PE.of pe_dnewK fun s H Q ⟨ph, r, S, e, so, ev, h⟩ => fun p hp => h r _ _ (.new hp) (so.new hp) (.dct (ks := []) (vs := []) upd_same (so.fresh hp) rfl .nil)
def eNewO (o : O) : Env1 → Sto → R M := fun _ S => .ok (.loc S.length) (S ++ [o])
theorem me_dicNO : ME X g W (.Dict [] [] pos) (eNewO (.dct [])) := PE.of pe_dnewK fun s H Q ⟨ph, r, S, e, so, ev, h⟩ => fun p hp =>
  h (r ++ [p]) _ _ (.own hp) (so.own hp (show Ov X.K g ph (r ++ [p]) (upd H p (.dK [])) (.dct []) (.dK []) from .nil)) ⟨p, by rw [← so.len, List.getElem?_append_right (Nat.le_refl _)]; simp, rfl⟩
end
end Mr

end
section
set_option maxRecDepth 100000
set_option autoImplicit false
namespace Mr
open PySem PySem.Spec L2 MrT
open PyProof.Rows hiding St

/-! ### an owned dict and list, changed -/
def sPut (fo fi fv : Env1 → Sto → R M) : Env1 → Sto → Out := fun e S => (fv e S).toS e fun v S1 => (fo e S1).toS e fun o S2 => (fi e S2).toS e fun k S3 => match o with
  | .loc n => match S3[n]? with
    | some (.dct kvs) => match keyM k with
      | some kk => if kvs.length < sizeLine then .nx e (S3.set n (.dct (putM kvs kk v))) else .bad
      | none => .bad
    | _ => .bad
  | _ => .bad
def isL (S : Sto) (n : Nat) : Bool := match S[n]? with
  | some (.lst _) => true
  | _ => false
def eApp (fo fa : Env1 → Sto → R M) : Env1 → Sto → R M := fun e S => (fo e S).bind fun o S1 => match o with
  | .loc n => if isL S1 n then (fa e S1).bind fun v S2 => match S2[n]? with
    | some (.lst xs) => if xs.length < sizeLine then .ok (.d .none) (S2.set n (.lst (xs ++ [v]))) else .bad
    | _ => .bad
    else .bad
  | _ => .bad
def ePop (fo : Env1 → Sto → R M) : Env1 → Sto → R M := fun e S => (fo e S).bind fun o S1 => match o with
  | .loc n => match S1[n]? with
    | some (.lst xs) => match xs[xs.length - 1]? with
      | some v => .ok v (S1.set n (.lst xs.dropLast))
      | none => .bad
    | _ => .bad
  | _ => .bad
theorem dropLast_pair {α β : Type} {P : α → β → Prop} : ∀ {xs : List α} {ys : List β}, Paired P xs ys → Paired P xs.dropLast ys.dropLast
  | _, _, .nil => .nil
  | _, _, .cons a .nil => .nil
  | _, _, .cons a (.cons b t) => .cons a (dropLast_pair (.cons b t))
section
variable {X : Cx} {g : Cfg} {W : WX} {pos : Pos} {o i a : Expr} {fo fi fv fa : Env1 → Sto → R M}
theorem own_at {K : PySem.W.Frag} {ph r : List Addr} {S : Sto} {H : Hp} {n : Nat} {x : O} {v : V} (so : So K g ph r S H) (mv : Mv K g ph r H (.loc n) v) (q : S[n]? = some x) : ∃ p u, v = .ref p ∧ r[n]? = some p ∧ H p = some u ∧ Ov K g ph r H x u := by
  obtain ⟨p, e, rfl⟩ := mv
  obtain ⟨p', u, h1, h2, h3⟩ := so.at_ n x q
  rw [e] at h1
  cases h1
  exact ⟨p, u, rfl, e, h2, h3⟩
theorem isL_ty {K : PySem.W.Frag} {ph r : List Addr} {S : Sto} {H : Hp} {n : Nat} {v : V} (so : So K g ph r S H) (mv : Mv K g ph r H (.loc n) v) (h : isL S n = true) : tyV K "list" v H := by
  unfold isL at h
  split at h
  · rename_i xs q
    obtain ⟨p, u, rfl, hr, hp, ov⟩ := own_at so mv q
    cases u with
    | lst vs => exact .inl ⟨rfl, _, .inl (.inl hp)⟩
    | _ => exact ov.elim
  · cases h
theorem ms_put {p' : Pos} (hu : X.A.units + 1 < cLine) (ho : ME X g W o fo) (hi : ME X g W i fi) (hv : ME X g W a fv) (hs : swapsWith a (some (.Subscript o i p')) pos.line X.env = pure false := by rfl) : MS X g W (.Assign [.Subscript o i p'] a pos) (sPut fo fi fv) := by
  refine PS.of (ps_dput hu ho hi hv hs) fun D s H h => ?_
  obtain ⟨ph, r, S, e, so, ev, h⟩ := h
  refine tG.bindS so ev h fun v vv S1 r1 H1 x1 so1 ev1 m1 h1 => ?_
  refine tG.bindS so1 ev1 h1 fun ob vo S2 r2 H2 x2 so2 ev2 m2 h2 => ?_
  refine tG.bindS so2 ev2 h2 fun k vk S3 r3 H3 x3 so3 ev3 m3 h3 => ?_
  have mv := Mv.mono (x2.trans x3) m1
  have mo := Mv.mono x3 m2
  cases ob with
  | loc n =>
    simp only at h3
    cases q : S3[n]? with
    | none => rw [q] at h3; exact h3.elim
    | some x =>
      rw [q] at h3
      cases x with
      | lst xs => exact h3.elim
      | dct kvs =>
        simp only at h3
        cases q2 : keyM k with
        | none => rw [q2] at h3; exact h3.elim
        | some kk =>
          rw [q2] at h3
          simp only at h3
          have ek := keyM_v m3 q2
          subst ek
          split at h3
          · rename_i hz
            obtain ⟨p, u, rfl, hr, hp, ov⟩ := own_at so3 mo q
            cases u with
            | dK ws =>
              have kp : KP X.K g ph r3 H3 kvs ws := ov
              refine ⟨p, _, rfl, DPut.k hp (by rw [← kp.length]; exact hz), ?_⟩
              have pin : p ∈ r3 := List.mem_of_getElem? hr
              refine h3 r3 _ s (.put pin) (so3.put hr hp (fun _ z => by cases z) (fun _ z => by cases z) ?_) (ev3.mono (.put pin))
              exact kp.put kk mv
            | _ => exact ov.elim
          · exact h3.elim
  | _ => exact h3.elim
theorem me_app {apos cpos : Pos} (ho : ME X g W o fo) (ha : ME X g W a fa)
    (hbase : attributeBase o "append" X.env (eval o X.env) = eval o X.env := by rfl)
    (hfew : ((backTo cpos (starEach (a :: []) X.env)).all (fun x => !x.1) && (backToKw cpos (keywordEach [] X.env)).all (fun x => x.1.isSome) && decide ((a :: []).length + ([] : List Keyword).length + (if ([] : List Keyword).isEmpty then 0 else 1) < 30)) = true := by rfl)
    (hline : (apos.endLine == cpos.line) = true := by rfl) (hst : starEach (a :: []) X.env = (false, eval a X.env) :: starEach [] X.env := by rfl) (hplain : (backTo cpos (starEach [] X.env)).any (·.1) = false := by rfl) :
    ME X g W (.Call (.Attribute o "append" apos) [a] [] cpos) (eApp fo fa) := by
  refine PE.of (pe_bm PySem.F.plainAttrs_list PySem.F.slot_list_append PySem.F.type_list_append mt_append ho (pa_cons ha pa_nil hst) hbase hfew hline hst hplain) fun s H Q h => ?_
  obtain ⟨ph, r, S, e, so, ev, h⟩ := h
  refine tG.bind so ev h fun ob vo S1 r1 H1 x1 so1 ev1 m1 h1 => ?_
  cases ob with
  | loc n =>
    simp only at h1
    split at h1
    · rename_i hl
      refine ⟨isL_ty so1 m1 hl, ?_⟩
      refine tG.bind so1 ev1 h1 fun v vv S2 r2 H2 x2 so2 ev2 m2 h2 => ?_
      have mo := Mv.mono x2 m1
      cases q : S2[n]? with
      | none => rw [q] at h2; exact h2.elim
      | some x =>
        rw [q] at h2
        cases x with
        | dct kvs => exact h2.elim
        | lst xs =>
          simp only at h2
          split at h2
          · rename_i hz
            obtain ⟨p, u, rfl, hr, hp, ov⟩ := own_at so2 mo q
            cases u with
            | lst vs =>
              have kp : Paired (Mv X.K g ph r2 H2) xs vs := ov
              refine ⟨p, vs, vv, rfl, rfl, hp, by rw [← Paired.len' kp]; exact hz, ?_⟩
              have pin : p ∈ r2 := List.mem_of_getElem? hr
              refine h2 r2 _ _ (.put pin) (so2.put hr hp (fun _ z => by cases z) (fun _ z => by cases z) ?_) .non
              exact Paired.append' kp (.cons m2 .nil)
            | _ => exact ov.elim
          · exact h2.elim
    · exact h1.elim
  | _ => exact h1.elim
theorem me_pop {apos cpos : Pos} (ho : ME X g W o fo) (hbase : attributeBase o "pop" X.env (eval o X.env) = eval o X.env := by rfl) (hline : (apos.endLine == cpos.line) = true := by rfl) : ME X g W (.Call (.Attribute o "pop" apos) [] [] cpos) (ePop fo) := by
  refine PE.of (pe_bm0 PySem.F.plainAttrs_list PySem.F.slot_list_pop PySem.F.type_list_pop mt_pop ho hbase hline) fun s H Q h => ?_
  obtain ⟨ph, r, S, e, so, ev, h⟩ := h
  refine tG.bind so ev h fun ob vo S1 r1 H1 x1 so1 ev1 m1 h1 => ?_
  cases ob with
  | loc n =>
    simp only at h1
    cases q : S1[n]? with
    | none => rw [q] at h1; exact h1.elim
    | some x =>
      rw [q] at h1
      cases x with
      | dct kvs => exact h1.elim
      | lst xs =>
        simp only at h1
        refine ⟨isL_ty so1 m1 (by unfold isL; rw [q]), ?_⟩
        cases q2 : xs[xs.length - 1]? with
        | none => rw [q2] at h1; exact h1.elim
        | some v =>
          rw [q2] at h1
          obtain ⟨p, u, rfl, hr, hp, ov⟩ := own_at so1 m1 q
          cases u with
          | lst vs =>
            have kp : Paired (Mv X.K g ph r1 H1) xs vs := ov
            obtain ⟨y, hy, my⟩ := get_rel kp q2
            refine ⟨p, vs, y, rfl, rfl, hp, by rw [← Paired.len' kp]; exact hy, ?_⟩
            have pin : p ∈ r1 := List.mem_of_getElem? hr
            exact h1 r1 _ _ (.put pin) (so1.put hr hp (fun _ z => by cases z) (fun _ z => by cases z) (show Ov X.K g ph r1 H1 (.lst xs.dropLast) (.lst vs.dropLast) from dropLast_pair kp)) (my.mono (.put pin))
          | _ => exact ov.elim
  | _ => exact h1.elim

/-! ### what is walked -/
/-- range(n), range(a, b) -/
def rngL (lo : Int) (n : Nat) : List M := (List.range n).map fun (k : Nat) => M.d (.int (lo + (k : Int)))
def iRng (f : Env1 → Sto → R (List M)) : Env1 → Sto → R (List M) := fun e S => (f e S).bind fun ms S1 => match ms with
  | [.d (.int j)] => if -(2 ^ 62) ≤ j ∧ j < 2 ^ 62 then .ok (rngL 0 j.toNat) S1 else .bad
  | [.d (.int i), .d (.int j)] => if -(2 ^ 62) ≤ i ∧ i < 2 ^ 62 ∧ -(2 ^ 62) ≤ j ∧ j < 2 ^ 62 then .ok (rngL i (j - i).toNat) S1 else .bad
  | _ => .bad
theorem goes_rng {K : PySem.W.Frag} {ph r : List Addr} {H : Hp} (lo : Int) (n : Nat) : Goes K g ph r H (rngL lo n) (Itr lo n) := by
  intro r' S' H' x so i
  have hlen : (rngL lo n).length = n := by unfold rngL; rw [List.length_map, List.length_range]
  refine ⟨fun m hm => ?_, fun h => by rw [hlen] at h; exact h⟩
  have hi : i < n := by rw [← hlen]; exact (List.getElem?_eq_some_iff.mp hm).1
  have em : m = .d (.int (lo + (i : Int))) := by
    have e2 : (rngL lo n)[i]? = some (.d (.int (lo + (i : Int)))) := by
      unfold rngL
      rw [List.getElem?_map, List.getElem?_range hi]
      rfl
    rw [e2] at hm
    exact (Option.some.inj hm).symm
  subst em
  exact ⟨hi, fun v H2 hy => by obtain ⟨rfl, rfl⟩ := hy; exact ⟨.refl _ _, so, .int _⟩⟩
theorem PI.of {tg it : Expr} {t t' : TI} (h : PI X tg it t) (w : ∀ s H R, t' s H R → t s H R) : PI X tg it t' := ⟨fun pins s q H R I z => h.run pins s q H R I (w _ _ _ z)⟩
variable {tg it : Expr} {fs : Env1 → Sto → R (List M)} {p : Pos}
theorem mi_rng1 (hm : X.mg "range" = none) (ha : MA X g W [a] fs) (hg : Gl X "range" := by rfl) (hs : starEach [a] X.env = [(false, eval a X.env)] := by rfl) (h1 : ∀ e S ms S', fs e S = .ok ms S' → ms.length = 1) : MI X g W tg (.Call (.Name "range" p) [a] [] pos) (iRng fs) := by
  refine PI.of (pi_range1 hg hm ha hs) fun s H R h => ?_
  obtain ⟨ph, r, S, e, so, ev, h⟩ := h
  refine ⟨ph, r, S, e, so, ev, ?_⟩
  unfold iRng at h
  cases q : fs e S with
  | ok ms S1 =>
    rw [q] at h
    intro r1 H1 vs x1 so1 m1
    have hl := h1 e S ms S1 q
    match ms, m1, hl, h with
    | [.d (.int j)], .cons mj .nil, _, h =>
      cases mj
      simp only [Mr.R.bind] at h
      split at h
      · rename_i hz
        exact ⟨j, rfl, hz.1, hz.2, h r1 H1 _ x1 so1 fun ph' _ _ => goes_rng 0 _⟩
      · exact h.elim
    | [.d .none], _, _, h => exact h.elim
    | [.d (.bool _)], _, _, h => exact h.elim
    | [.d (.str _)], _, _, h => exact h.elim
    | [.d (.list _)], _, _, h => exact h.elim
    | [.d (.tuple _)], _, _, h => exact h.elim
    | [.d (.dict _)], _, _, h => exact h.elim
    | [.loc _], _, _, h => exact h.elim
    | [.ro _], _, _, h => exact h.elim
    | [.pr _], _, _, h => exact h.elim
    | [.fn _], _, _, h => exact h.elim
    | [.ty _], _, _, h => exact h.elim
    | [.kdc _ _], _, _, h => exact h.elim
    | [.exn _ _], _, _, h => exact h.elim
  | rz c y S1 => rw [q] at h; exact h
  | bad => rw [q] at h; exact h
/-- a list or a tuple of data -/
def iSeq (f : Env1 → Sto → R M) : Env1 → Sto → R (List M) := fun e S => (f e S).bind fun m S1 => match m with
  | .d (.list xs) => .ok (xs.map .d) S1
  | .d (.tuple xs) => .ok (xs.map .d) S1
  | _ => .bad
theorem goes_l {K : PySem.W.Frag} {ph r : List Addr} {H : Hp} {a : Addr} {vs : List V} {ds : List PyData} (e : H a = some (.lst vs)) (n : a ∉ ph ++ r) (t : DrAll K (ph ++ r) H vs ds) : PIt K g ph r H (ds.map .d) (Itl K a) := by
  intro ph' h1 h2 r' S' H' x so i
  have hB : ∀ b, b ∈ ph' ++ r → b ∈ ph ++ r ∨ H b = none := fun b hb => by
    rcases List.mem_append.mp hb with z | z
    · exact (h2 b z).imp (fun q => List.mem_append_left _ q) id
    · exact .inl (List.mem_append_right _ z)
  have n' : a ∉ ph' ++ r := fun z => (hB a z).elim n fun q => by rw [e] at q; cases q
  obtain ⟨e2, n2⟩ := x.tracked e n' (fun _ z => by cases z)
  have t2 : DrAll K (ph' ++ r') H' vs ds := DrAll.mono x (DrAll.more hB t)
  have sq : SqL K H' a vs := .inl (.inl e2)
  refine ⟨fun m hm => ?_, fun h => ⟨vs, sq, by rw [t2.length]; simpa using h⟩⟩
  rw [List.getElem?_map] at hm
  obtain ⟨d, hd, rfl⟩ := Option.map_eq_some_iff.mp hm
  obtain ⟨v, hv, dv⟩ := t2.get hd
  refine ⟨⟨vs, v, sq, hv⟩, fun y H2 hy => ?_⟩
  obtain ⟨rfl, hy⟩ := hy
  have ey : some y = some v := (hy vs sq).symm.trans hv
  cases ey
  exact ⟨.refl _ _, so, dv⟩
theorem sqT_ext {K : PySem.W.Frag} {ph ph' r r' : List Addr} {H H' : Hp} {a : Addr} {ds : List PyData} {S' : Sto} (d : Dr K (ph ++ r) H (.ref a) (.tuple ds)) (x : Ext r H r' H') (h2 : ∀ b, b ∈ ph' → b ∈ ph ∨ H b = none) : ∃ vs, SqT K H' a vs ∧ DrAll K (ph' ++ r') H' vs ds := by
  have hB : ∀ b, b ∈ ph' ++ r → b ∈ ph ++ r ∨ H b = none := fun b hb => by
    rcases List.mem_append.mp hb with z | z
    · exact (h2 b z).imp (fun q => List.mem_append_left _ q) id
    · exact .inl (List.mem_append_right _ z)
  exact Dr.toT (Dr.mono x (Dr.more hB d))
theorem goes_t {K : PySem.W.Frag} {ph r : List Addr} {H : Hp} {a : Addr} {ds : List PyData} (d : Dr K (ph ++ r) H (.ref a) (.tuple ds)) : PIt K g ph r H (ds.map .d) (Itt K a) := by
  intro ph' h1 h2 r' S' H' x so i
  obtain ⟨vs, sq, t2⟩ := sqT_ext (S' := S') d x h2
  refine ⟨fun m hm => ?_, fun h => ⟨vs, sq, by rw [t2.length]; simpa using h⟩⟩
  rw [List.getElem?_map] at hm
  obtain ⟨d, hd, rfl⟩ := Option.map_eq_some_iff.mp hm
  obtain ⟨v, hv, dv⟩ := t2.get hd
  refine ⟨⟨vs, v, sq, hv⟩, fun y H2 hy => ?_⟩
  obtain ⟨rfl, hy⟩ := hy
  have ey : some y = some v := (hy vs sq).symm.trans hv
  cases ey
  exact ⟨.refl _ _, so, dv⟩
theorem mi_seq {fa : Env1 → Sto → R M} (ha : ME X g W a fa) : MI X g W tg a (iSeq fa) := by
  refine ⟨fun pins sh s H R I h => ?_⟩
  obtain ⟨ph, r, S, e, so, ev, h⟩ := h
  unfold iSeq at h
  have other : (∀ m S1, fa e S = .ok m S1 → False) → wpAny (model X.prog X.w) X.A (eval a X.env) (fun v s1 => wpAny (model X.prog X.w) X.A (pyIter v) (PIE X pins s tg R) X.xe s1) X.xe sh := fun no => by
    refine (pi_list (tg := tg) ha).run pins sh s H R I ?_
    refine ⟨ph, r, S, e, so, ev, ?_⟩
    cases q : fa e S with
    | ok m S1 => exact (no m S1 q).elim
    | rz c y S1 => rw [q] at h; exact h
    | bad => rw [q] at h; exact h
  cases q : fa e S with
  | rz c y S1 => exact other fun m S1 z => by rw [q] at z; cases z
  | bad => exact other fun m S1 z => by rw [q] at z; cases z
  | ok m S1 =>
    rw [q] at h
    cases m with
    | d x =>
      cases x with
      | list xs =>
        refine (pi_list (tg := tg) ha).run pins sh s H R I ⟨ph, r, S, e, so, ev, ?_⟩
        rw [q]
        intro r1 H1 v x1 so1 m1
        cases m1 with
        | lst e1 n1 t1 => exact ⟨_, rfl, ⟨_, .inl (.inl e1)⟩, h r1 H1 _ x1 so1 (goes_l e1 n1 t1)⟩
      | tuple xs =>
        refine (pi_tup (tg := tg) ha).run pins sh s H R I ⟨ph, r, S, e, so, ev, ?_⟩
        rw [q]
        intro r1 H1 v x1 so1 m1
        have r2 : ∃ b, v = .ref b := by cases m1 <;> exact ⟨_, rfl⟩
        obtain ⟨b, rfl⟩ := r2
        obtain ⟨ys, sq, _⟩ := Dr.toT m1
        exact ⟨b, rfl, ⟨ys, sq⟩, h r1 H1 _ x1 so1 (goes_t m1)⟩
      | _ => exact h.elim
    | _ => exact h.elim
end
end Mr

end
section
set_option maxRecDepth 100000
set_option autoImplicit false
namespace Mr
open PySem PySem.Spec L2 MrT
open PyProof.Rows hiding St

/-! ### built-ins by values -/
section
variable {X : Cx} {g : Cfg} {W : WX} {pos p : Pos} {a : Expr} {es : List Expr} {fs : Env1 → Sto → R (List M)} {x : Str} {id T : String} {rr : List V → Hp → VK → Prop} {op : List M → Sto → Option M}
theorem me_callB (hc : CallR X (.builtin id) rr) (hs : SndN X.K g rr op) (hm : X.mg x = none) (hv : bootBuiltins x = some (.builtin id)) (ha : MA X g W (a :: es) fs) (hg : Gl X x := by rfl) (hn : x ≠ "__name__" := by decide) (hdb : (x == ("__debug__" : Str)) = false := by decide)
    (he : starEach (a :: es) X.env = (false, eval a X.env) :: starEach es X.env := by rfl) (hpl : (backTo pos (starEach es X.env)).any (·.1) = false := by rfl) : ME X g W (.Call (.Name x p) (a :: es) [] pos) (ePrim op fs) := PE.of (pe_callB hc hg hm hv ha hn hdb he hpl) (ma_prim hs)
theorem me_callT (hc : CallR X (.type T) rr) (hs : SndN X.K g rr op) (hm : X.mg x = none) (hv : bootBuiltins x = some (.type T)) (ha : MA X g W (a :: es) fs) (hg : Gl X x := by rfl) (hn : x ≠ "__name__" := by decide) (hdb : (x == ("__debug__" : Str)) = false := by decide)
    (he : starEach (a :: es) X.env = (false, eval a X.env) :: starEach es X.env := by rfl) (hpl : (backTo pos (starEach es X.env)).any (·.1) = false := by rfl) : ME X g W (.Call (.Name x p) (a :: es) [] pos) (ePrim op fs) := PE.of (pe_callTy hc hg hm hv ha hn hdb he hpl) (ma_prim hs)
theorem me_ty (n : String) (hm : X.mg x = none) (hv : bootBuiltins x = some (.type n)) (hg : Gl X x := by rfl) (hn : x ≠ "__name__" := by decide) (hdb : (x == ("__debug__" : Str)) = false := by decide) : ME X g W (.Name x pos) (eC (.ty n)) := me_c (pe_bltn hg hm hv (show RelV (.ty n) (.type n) from rfl) hn hdb) fun _ _ _ => rfl
variable {K : PySem.W.Frag} {ph r : List Addr} {H : Hp} {S : Sto}
def pLen : List M → Sto → Option M
  | [.d (.str s)], _ => if s.length ≤ sizeLine then some (.d (.int s.length)) else none
  | [.d (.list xs)], _ => some (.d (.int xs.length))
  | [.d (.tuple xs)], _ => some (.d (.int xs.length))
  | [.loc n], S => match S[n]? with
    | some (.lst xs) => some (.d (.int xs.length))
    | _ => none
  | _, _ => none
theorem s_len : SndN K g (fun xs H Q => ∃ x n, xs = [x] ∧ LenV K x H n ∧ Q (.int n) H) pLen := by
  intro ph r S H ms m vs Q so a1 h k
  have fin : ∀ {v}, Mv K g ph r H m v → Q v H := fun mv => k r H _ (.refl _ _) so mv
  unfold pLen at h
  split at h
  · cases a1 with
    | cons b t =>
      cases t; cases b
      split at h
      · rename_i hz
        cases h
        exact ⟨_, _, rfl, ⟨hz, rfl⟩, fin (.int _)⟩
      · cases h
  · cases a1 with
    | cons b t =>
      cases t; cases h
      cases b with
      | lst e n t =>
        refine ⟨_, _, rfl, .inl ⟨_, .inl (.inl e), rfl⟩, ?_⟩
        rw [t.length]
        exact fin (.int _)
  · cases a1 with
    | cons b t =>
      cases t; cases h
      rename_i v
      have r1 : ∃ a, v = .ref a := by cases b <;> exact ⟨_, rfl⟩
      obtain ⟨q, rfl⟩ := r1
      obtain ⟨ys, sq, t⟩ := Dr.toT b
      refine ⟨_, _, rfl, .inr ⟨_, sq, rfl⟩, ?_⟩
      rw [t.length]
      exact fin (.int _)
  · rename_i n S
    cases a1 with
    | cons b t =>
      cases t
      split at h
      · rename_i xs q
        cases h
        obtain ⟨p, u, rfl, hr, hp, ov⟩ := own_at so b q
        cases u with
        | lst ws =>
          refine ⟨_, _, rfl, .inl ⟨_, .inl (.inl hp), rfl⟩, ?_⟩
          rw [← Paired.len' (show Paired (Mv K g ph r H) xs ws from ov)]
          exact fin (.int _)
        | _ => exact ov.elim
      · cases h
  · cases h
def pInt : List M → Sto → Option M
  | [.d (.int i)], _ => some (.d (.int i))
  | [.d (.bool b)], _ => some (.d (.int (if b then 1 else 0)))
  | _, _ => none
theorem s_pint : SndN K g (fun xs H Q => (∃ i, xs = [.int i] ∧ Q (.int i) H) ∨ ∃ k, xs = [.bl k] ∧ Q (.int (if k then 1 else 0)) H) pInt := by
  intro ph r S H ms m vs Q so a1 h k
  have fin : ∀ {v}, Mv K g ph r H m v → Q v H := fun mv => k r H _ (.refl _ _) so mv
  unfold pInt at h
  split at h
  · cases a1 with
    | cons b t => cases t; cases b; cases h; exact .inl ⟨_, rfl, fin (.int _)⟩
  · cases a1 with
    | cons b t => cases t; cases b; cases h; exact .inr ⟨_, rfl, fin (.int _)⟩
  · cases h
def pMax2 : List M → Sto → Option M
  | [.d (.int i), .d (.int j)], _ => some (.d (.int (if j > i then j else i)))
  | _, _ => none
def pMin2 : List M → Sto → Option M
  | [.d (.int i), .d (.int j)], _ => some (.d (.int (if j < i then j else i)))
  | _, _ => none
theorem s_max2 : SndN K g (fun xs H Q => ∃ i j, xs = [.int i, .int j] ∧ Q (.int (if j > i then j else i)) H) pMax2 := by
  intro ph r S H ms m vs Q so a1 h k
  unfold pMax2 at h
  split at h
  · cases a1 with
    | cons b t => cases t with
      | cons b2 t => cases t; cases b; cases b2; cases h; exact ⟨_, _, rfl, k r H _ (.refl _ _) so (.int _)⟩
  · cases h
theorem s_min2 : SndN K g (fun xs H Q => ∃ i j, xs = [.int i, .int j] ∧ Q (.int (if j < i then j else i)) H) pMin2 := by
  intro ph r S H ms m vs Q so a1 h k
  unfold pMin2 at h
  split at h
  · cases a1 with
    | cons b t => cases t with
      | cons b2 t => cases t; cases b; cases b2; cases h; exact ⟨_, _, rfl, k r H _ (.refl _ _) so (.int _)⟩
  · cases h
def pList : List M → Sto → Option M
  | [.d (.list xs)], _ => some (.d (.list xs))
  | [.d (.tuple xs)], _ => some (.d (.list xs))
  | _, _ => none
def pTuple : List M → Sto → Option M
  | [.d (.list xs)], _ => some (.d (.tuple xs))
  | [.d (.tuple xs)], _ => some (.d (.tuple xs))
  | [.loc n], S => match S[n]? with
    | some (.lst xs) => (dsOf xs).map fun ds => .d (.tuple ds)
    | _ => none
  | _, _ => none
theorem s_list : SndN K g (fun xs H Q => ∃ p ys, xs = [.ref p] ∧ (SqL K H p ys ∨ SqT K H p ys) ∧ ∀ l, H l = none → Q (.ref l) (upd H l (.lst ys))) pList := by
  intro ph r S H ms m vs Q so a1 h k
  unfold pList at h
  split at h
  · cases a1 with
    | cons b t =>
      cases t; cases h
      cases b with
      | lst e n t => exact ⟨_, _, rfl, .inl (.inl (.inl e)), new_dr so k fun p hp n => dr_lst hp n t⟩
  · cases a1 with
    | cons b t =>
      cases t; cases h
      rename_i v
      have r1 : ∃ a, v = .ref a := by cases b <;> exact ⟨_, rfl⟩
      obtain ⟨q, rfl⟩ := r1
      obtain ⟨ys, sq, t⟩ := Dr.toT b
      exact ⟨_, _, rfl, .inr sq, new_dr so k fun p hp n => dr_lst hp n t⟩
  · cases h
theorem s_tuple : SndN K g (fun xs H Q => ∃ p ys, xs = [.ref p] ∧ ((SqL K H p ys ∧ NewT Q H ys) ∨ (SqT K H p ys ∧ Q (.ref p) H))) pTuple := by
  intro ph r S H ms m vs Q so a1 h k
  unfold pTuple at h
  split at h
  · cases a1 with
    | cons b t =>
      cases t; cases h
      cases b with
      | lst e n t => exact ⟨_, _, rfl, .inl ⟨.inl (.inl e), new_tup so k t⟩⟩
  · cases a1 with
    | cons b t =>
      cases t; cases h
      rename_i v
      have r1 : ∃ a, v = .ref a := by cases b <;> exact ⟨_, rfl⟩
      obtain ⟨q, rfl⟩ := r1
      obtain ⟨ys, sq, t⟩ := Dr.toT b
      exact ⟨_, _, rfl, .inr ⟨sq, k r H _ (.refl _ _) so b⟩⟩
  · rename_i n S
    cases a1 with
    | cons b t =>
      cases t
      split at h
      · rename_i xs q
        obtain ⟨ds, q2, rfl⟩ := Option.map_eq_some_iff.mp h
        obtain ⟨p, u, rfl, hr, hp, ov⟩ := own_at so b q
        cases u with
        | lst ws => exact ⟨_, _, rfl, .inl ⟨.inl (.inl hp), new_tup so k (dsOf_rel ov q2)⟩⟩
        | _ => exact ov.elim
      · cases h
  · cases h
/-- isinstance with a built-in class -/
def tyD : PyData → String
  | .none => "NoneType"
  | .bool _ => "bool"
  | .int _ => "int"
  | .str _ => "str"
  | .list _ => "list"
  | .tuple _ => "tuple"
  | .dict _ => "dict"
def isiT (a b : String) : Option Bool := match b with
  | "int" => some (a == "int" || a == "bool")
  | "bool" => some (a == "bool")
  | "str" => some (a == "str")
  | "list" => some (a == "list")
  | "tuple" => some (a == "tuple")
  | "dict" => some (a == "dict")
  | _ => none
theorem isi_ok (d : PyData) (b : String) (k : Bool) (h : isiT (tyD d) b = some k) : kitB (tyD d) b = some k := by
  unfold isiT at h
  split at h
  · cases h; cases d <;> (simp only [tyD]; decide +kernel)
  · cases h; cases d <;> (simp only [tyD]; decide +kernel)
  · cases h; cases d <;> (simp only [tyD]; decide +kernel)
  · cases h; cases d <;> (simp only [tyD]; decide +kernel)
  · cases h; cases d <;> (simp only [tyD]; decide +kernel)
  · cases h; cases d <;> (simp only [tyD]; decide +kernel)
  · cases h
theorem Dr.ty {B : List Addr} {v : V} {d : PyData} (h : Dr K B H v d) : TyX K H v (.type (tyD d)) := by
  cases h with
  | non => exact .base .non
  | bl b => exact .base (.bl b)
  | int i => exact .base (.int i)
  | str s => exact .base (.str s)
  | lst e n t => exact .base (.lst e)
  | tup e n t =>
    obtain ⟨o, e, _⟩ := e
    exact .fTuple e
  | tupK a b c d e f t => exact .kTuple a b
  | dct e n l t => exact .base (.dK e)
def pIsi : List M → Sto → Option M
  | [.d x, .ty n], _ => (isiT (tyD x) n).map fun b => .d (.bool b)
  | _, _ => none
theorem s_isi : SndN K g (rIsi K) pIsi := by
  intro ph r S H ms m vs Q so a1 h k
  unfold pIsi at h
  split at h
  · rename_i x n
    obtain ⟨b, q, rfl⟩ := Option.map_eq_some_iff.mp h
    cases a1 with
    | cons b1 t =>
      cases t with
      | cons b2 t =>
        cases t
        cases b2
        exact ⟨_, _, _, _, b, rfl, .ty n, Dr.ty b1, kit_ty (isi_ok x n b q), k r H _ (.refl _ _) so (.bl _)⟩
  · cases h

/-! ### repr -/
theorem entry_keys {P : Program} {w : World} {h : Heap} : ∀ {es : List DictEntry} {ks : List Key} {us : List Value}, Pairs (mixKind P w) es (ks.zip us) → ks.length = us.length → es.map (·.val) = us ∧ ReadsAll h (es.map (·.key)) (ks.map keyD) []
  | es, [], us, h1, h2 => by
    cases us with
    | nil => cases h1; exact ⟨rfl, .nil⟩
    | cons u us => cases h2
  | es, k :: ks, us, h1, h2 => by
    cases us with
    | nil => cases h2
    | cons u us =>
      cases h1 with
      | @cons e kv es kvs a b t =>
        obtain ⟨e1, e2⟩ := entry_keys (h := h) t (Nat.succ.inj h2)
        refine ⟨by rw [List.map_cons, e1, b], ?_⟩
        have a' : keyIs k e.key = true := a
        rcases keyIs_shape a' with ⟨i, t, rfl, e3⟩ | ⟨x, t, rfl, e3⟩
        · rw [List.map_cons, List.map_cons, e3]
          exact .cons (as := []) (bs := []) (.int i t) e2
        · rw [List.map_cons, List.map_cons, e3]
          exact .cons (as := []) (bs := []) (.str x t) e2
theorem kv_zip {ks : List Key} {vs : List V} (hl : ks.length = vs.length) {ws : List (Key × Value)} (h : KV (ks.zip vs) ws) : ∃ us, ws = ks.zip us ∧ Vals vs us ∧ ks.length = us.length := by
  induction ks generalizing vs ws with
  | nil =>
    cases vs with
    | nil =>
      cases h
      exact ⟨[], rfl, .nil, rfl⟩
    | cons v vs => cases hl
  | cons k ks ih =>
    cases vs with
    | nil => cases hl
    | cons v vs =>
      cases h with
      | @cons a b as bs h1 h2 =>
        obtain ⟨us, rfl, r2, l2⟩ := ih (Nat.succ.inj hl) h2
        obtain ⟨b1, b2⟩ := b
        obtain ⟨rfl, h1⟩ := h1
        exact ⟨b2 :: us, rfl, .cons h1 r2, by rw [List.length_cons, List.length_cons, l2]⟩
theorem zip_fst {α β : Type} : ∀ {as : List α} {bs : List β}, as.length = bs.length → (as.zip bs).map (·.1) = as
  | [], [], _ => rfl
  | [], _ :: _, h => by cases h
  | _ :: _, [], h => by cases h
  | a :: as, b :: bs, h => by rw [List.zip_cons_cons, List.map_cons, zip_fst (Nat.succ.inj h)]
theorem zip_snd {α β : Type} : ∀ {as : List α} {bs : List β}, as.length = bs.length → (as.zip bs).map (·.2) = bs
  | [], [], _ => rfl
  | [], _ :: _, h => by cases h
  | _ :: _, [], h => by cases h
  | a :: as, b :: bs, h => by rw [List.zip_cons_cons, List.map_cons, zip_snd (Nat.succ.inj h)]
section
variable {pins : List (Addr × Obj)} {st : L2.St} {s : Shared}
mutual
theorem Dr.reads (I : Inv X pins st H s) (hS : H sysModules = none) {B : List Addr} : ∀ {v : V} {d : PyData} {u : Value}, Dr X.K B H v d → RelV v u → ∃ as, Reads s.heap u d as ∧ sysModules ∉ as
  | _, _, _, .non, r => by cases r; exact ⟨[], .none, by simp⟩
  | _, _, _, .bl b, r => by cases r; exact ⟨[], .bool b, by simp⟩
  | _, _, _, .int i, r => by obtain ⟨t, rfl⟩ := r; exact ⟨[], .int i t, by simp⟩
  | _, _, _, .str x, r => by obtain ⟨t, rfl⟩ := r; exact ⟨[], .str x t, by simp⟩
  | _, _, _, @Dr.lst _ _ _ a xs ds e n t, r => by
    cases r
    obtain ⟨z, its, c, rv, e1⟩ := (show ObjOk X.prog X.w H s.heap a (.lst xs) from I.hok a _ e)
    obtain ⟨as, ra, na⟩ := DrAll.reads I hS t rv
    refine ⟨a :: as, .list e1 rfl rfl (by simpa using ra), fun z => ?_⟩
    rcases List.mem_cons.mp z with z | z
    · rw [← z, hS] at e; cases e
    · exact na z
  | _, _, _, @Dr.tup _ _ _ a xs ds e n t, r => by
    cases r
    obtain ⟨o', e', _⟩ := e
    obtain ⟨_, z, its, rv, o, e1, e2, c, e3⟩ := I.hok a _ e'
    obtain ⟨as, ra, na⟩ := DrAll.reads I hS t rv
    exact ⟨as, .tuple e1 e2 e3 (by simpa using ra), na⟩
  | _, _, _, @Dr.tupK _ _ _ a o its c xs ds h1 h2 _ h3 h4 h5 t, r => by
    cases r
    obtain ⟨as, ra, na⟩ := DrAll.reads I hS t h5
    exact ⟨as, .tuple (I.kIn a o h1) h2 h3 ra, na⟩
  | _, _, _, @Dr.dct _ _ _ a ks vs ds e n l t, r => by
    cases r
    obtain ⟨z, hd, ws, kv, o, es, ep, e1, e2, e3, e4, e5, e6⟩ := (show ObjOk X.prog X.w H s.heap a (.dK (ks.zip vs)) from I.hok a _ e)
    obtain ⟨us, rfl, rv, hl⟩ := kv_zip l kv
    obtain ⟨as, ra, na⟩ := DrAll.reads I hS t rv
    obtain ⟨q1, q2⟩ := entry_keys (h := s.heap) e5 hl
    have hl2 : (ks.map keyD).length = ds.length := by rw [List.length_map, l, t.length]
    refine ⟨a :: [] ++ as, .dict e1 e2.1 e3 ?_ ?_, fun z => ?_⟩
    · rw [zip_fst hl2]; exact q2
    · rw [zip_snd hl2, q1]; exact ra
    · rcases List.mem_cons.mp (show sysModules ∈ a :: as from z) with z | z
      · rw [← z, hS] at e; cases e
      · exact na z
theorem DrAll.reads (I : Inv X pins st H s) (hS : H sysModules = none) {B : List Addr} : ∀ {vs : List V} {ds : List PyData} {us : List Value}, DrAll X.K B H vs ds → Vals vs us → ∃ as, ReadsAll s.heap us ds as ∧ sysModules ∉ as
  | _, _, _, .nil, r => by cases r; exact ⟨[], .nil, by simp⟩
  | _, _, _, .cons a t, r => by
    cases r with
    | cons ra rt =>
      obtain ⟨as, h1, n1⟩ := Dr.reads I hS a ra
      obtain ⟨bs, h2, n2⟩ := DrAll.reads I hS t rt
      exact ⟨as ++ bs, .cons h1 h2, fun z => (List.mem_append.mp z).elim n1 n2⟩
end
end
def reprable (d : PyData) : Bool := d.showable && (decide (d.depth ≤ 50) && decide (d.shown.length ≤ sizeLine))
def pRepr : List M → Sto → Option M
  | [.d x], _ => if reprable x then some (.d (.str x.shown)) else none
  | _, _ => none
def rRepr (K : PySem.W.Frag) : List V → Hp → VK → Prop := fun xs H Q => ∃ v d B, xs = [v] ∧ Dr K B H v d ∧ reprable d = true ∧ Q (.str d.shown) H
theorem s_repr : SndN K g (rRepr K) pRepr := by
  intro ph r S H ms m vs Q so a1 h k
  unfold pRepr at h
  split at h
  · cases a1 with
    | cons b t =>
      cases t
      split at h
      · rename_i hz
        cases h
        exact ⟨_, _, _, rfl, b, hz, k r H _ (.refl _ _) so (.str _)⟩
      · cases h
  · cases h
theorem call_repr_d {k : Nat} (hr : Room k X.A) (hG : X.A.guards = some []) (hS : ∃ o, X.base.get? sysModules = some o) : CallR X (.builtin "repr") (rRepr X.K) := by
  intro pins s st H xs us Q I r h
  obtain ⟨v, d, B, rfl, dr, hz, q⟩ := h
  obtain ⟨u, rfl, rx⟩ := vals1 r
  unfold reprable at hz
  rw [Bool.and_eq_true, Bool.and_eq_true] at hz
  obtain ⟨z1, z2, z3⟩ := hz
  have z2 := of_decide_eq_true z2
  have z3 := of_decide_eq_true z3
  obtain ⟨o, ho⟩ := hS
  have hH : H sysModules = none := (I.bs _ _ ho).2
  have hu := hr.units
  have big : ∀ {a : Addr}, u = .ref a → wpAny (model X.prog X.w) X.A (call (.builtin "repr") [u]) (EP X pins st Q) X.xe s := fun {a} e => by
    subst e
    obtain ⟨as, ra, na⟩ := Dr.reads I hH dr rx
    refine repr_of_reads' ra z1 (fun _ => na) hG (by omega) (fun _ _ e => e) (fun h' u tk hk => ?_) z3
    exact ⟨.str d.shown, H, I.kept (t' := tk) hk, ⟨u, rfl⟩, q⟩
  cases dr with
  | non =>
    cases rx
    refine PySem.P.repr_of_none ?_
    refine ⟨.str PyData.none.shown, H, I.tok _, ⟨s.toks, by rw [PyData.shown_none]⟩, q⟩
  | bl b =>
    cases rx
    refine PySem.P.repr_of_bool ?_
    refine ⟨.str (PyData.bool b).shown, H, I.tok _, ⟨s.toks, ?_⟩, q⟩
    rw [PyData.shown_bool]
  | int i =>
    obtain ⟨t, rfl⟩ := rx
    have zi : i.natAbs.log2 < 1920 := by simpa [PyData.showable] using z1
    refine PySem.P.repr_of_int zi ?_
    exact ⟨.str (PyData.int i).shown, H, I.tok _, ⟨s.toks, by rw [PyData.shown_int]⟩, q⟩
  | str x =>
    obtain ⟨t, rfl⟩ := rx
    refine PySem.P.repr_of_str ?_ (by rw [← PyData.shown_str]; exact z3)
    exact ⟨.str (PyData.str x).shown, H, I.tok _, ⟨s.toks, by rw [PyData.shown_str]⟩, q⟩
  | lst e n t => exact big (show u = .ref _ from rx)
  | tup e n t => exact big (show u = .ref _ from rx)
  | tupK a b c d e f t => exact big (show u = .ref _ from rx)
  | dct e n l t => exact big (show u = .ref _ from rx)
end
end Mr

end
section
set_option maxRecDepth 100000
set_option autoImplicit false
namespace MrE
open PySem PySem.W PySem.Calls
open PyProof.Rows hiding St
/-! ### isinstance of an error that may have a dict -/
section
variable {prog : Program} {w : World} {A : Around} {E : Value → Shared → Prop} {s : Shared} {K : Frag} {x C : Addr} {ox : Obj} {od : Option Obj}
theorem bind_any {nm : Str} {a g : Value} (hc : (clsIn K C).isSome = true) (hf : findIn K (.ref C) nm = some (some a)) (hg : specialIn K a "__get__" = some (some g)) (ht : takesIn K a = some true) : findObj K C od nm = some (.bind g a) := by
  obtain ⟨cd, hc⟩ := Option.isSome_iff_exists.mp hc
  unfold findObj
  rw [hc, Option.bind_some, hf, Option.bind_some]
  simp [hg, ht]
theorem cls_err {Q : Option Value → Shared → Prop} (T : L2.ExcC K C) (X : K.In s.heap) (I : InstAt s.heap x ox C od) (h : Q (some (.ref C)) { s with toks := s.toks + 1 }) : wpAny (model prog w) A (getAttr? (.ref x) "__class__") Q E s := by
  have hb : findObj K C od "__class__" = some (.bind (.builtin "getset_descriptor.__get__") (.builtin "object.__class__")) := bind_any (by
    obtain ⟨cd, hc, _⟩ := any_some T.hd
    rw [hc]
    rfl) T.ha T.hn T.ht
  obtain ⟨hp, gg, dd, tt, os⟩ := s
  have lT := I.type (M := model prog w)
  have lA := looks_findIn (M := model prog w) X T.hg
  have lF := looks_find (M := model prog w) X I hb
  have lS : Looks (model prog w) hp (isInstance (.ref x) (.type "BaseException")) true := lT.andThen (looks_subIn X T.hs)
  have no2 : (Value.builtin "BaseException.__getattribute__" == Value.builtin "object.__getattribute__") = false := by decide +kernel
  have no1 : (onTheHeap (Value.ref C) && Value.builtin "BaseException.__getattribute__" == Value.builtin "object.__getattribute__") = false := by
    rw [no2]
    rfl
  unfold getAttr? getAttrBy? getAttrBy
  refine wpAny_bind (wpAny_mkText (wpAny_bind (wpAny_attempt (wpAny_holding (wpAny_bind (lT.at (wpAny_bind (lA.at ?_))))))))
  show wpAny _ _ (if (onTheHeap (Value.ref C) && Value.builtin "BaseException.__getattribute__" == Value.builtin "object.__getattribute__") = true then _ else _) _ _ _
  rw [no1, if_neg Bool.false_ne_true]
  unfold getAttrByItsOwn hookBefore
  refine wpAny_bind ?_
  rw [if_pos (show onTheHeap (Value.ref C) = true from rfl)]
  refine (looks_findIn (M := model prog w) X T.hk).at ?_
  refine wpAny_bind (wpAny_attempt (wpAny_holding ?_))
  unfold callGetattribute
  rw [if_neg (show ¬ ((false && onTheHeap (Value.builtin "BaseException.__getattribute__")) = true) from by decide)]
  unfold boundAndCalled
  rw [PySem.F.excAttr_ValueError.ga.bind (.ref x)]
  refine wpAny_bind (wpAny_pure ?_)
  show wpAny _ _ (call (.builtin "BaseException.__getattribute__") [.ref x, .str "__class__" tt]) _ _ _
  refine wpAny_call (codeAny_call_builtin PySem.F.excAttr_ValueError.ga.plain PySem.F.entry_bexc_ga ?_)
  refine @check_slot (model prog w) _ _ ⟨hp, gg, dd, tt + 1, os⟩ "BaseException.__getattribute__" "BaseException" "__getattribute__" (.ref x) [.str "__class__" tt] [] _ (by decide +kernel) (by decide +kernel) lS (PySem.F.args_bexc_ga (.ref x) (.str "__class__" tt)) ?_
  unfold Builtin.«object.__getattribute__»
  refine wpAny_bind (wpAny_of_eq (a := ((Value.ref x : Value), [Value.str "__class__" tt])) (by first | rfl | (simp only [slotArgs]; rfl)) ?_)
  refine wpAny_bind (wpAny_pure (wpAny_bind (lT.at (wpAny_bind (lF.at ?_)))))
  show wpAny _ _ (holding [Value.builtin "object.__class__"] (call (.builtin "getset_descriptor.__get__") [.builtin "object.__class__", .ref x, .ref C]) >>= ret) _ _ _
  refine wpAny_bind (wpAny_holding (wpAny_call (class_get (s := ⟨hp, gg, dd, tt + 1, os⟩) (ox := ox) (od := od) X I T.hm ?_)))
  refine wpAny_pure ?_
  show wpAny _ _ (handedOut (.ref C)) _ _ _
  rw [handedOut_of (v := .ref C) rfl]
  first
    | exact wpAny_pure (wpAny_pure h)
    | exact wpAny_pure h
    | exact wpAny_pure (wpAny_bind (wpAny_pure (wpAny_pure h)))
theorem kit_err (T : L2.ExcC K C) : KitX K (.ref x) (.ref C) (fun h => InstAt h x ox C od) where
  ty := fun _ _ _ I => I.type
  it := fun _ _ X _ => by
    obtain ⟨cd, hc, _⟩ := any_some T.hd
    unfold clsIn at hc
    split at hc
    · rename_i _ _ _ _ ho
      intro A' Q' E' s' k q
      unfold isType loadHead
      exact wpAny_bind (wpAny_loadPart (k _ _ (X _ _ ho)) (wpAny_pure q))
    · cases hc
  ne := fun h tp dd its n sl X htp => by
    obtain ⟨cd, hc, _⟩ := any_some T.hd
    refine Bool.eq_false_iff.mpr fun q => ?_
    have e : C = tp := Value.ref.inj (beq_iff_eq.mp q)
    subst e
    unfold clsIn at hc
    split at hc
    · rename_i _ _ _ _ ho
      have z := (X _ _ ho).symm.trans htp
      cases z
    · cases hc
  ca := fun X I k => cls_err T X I k
end
end MrE
namespace L2
open PySem PySem.Spec PyProof.Rows
/-! ### several clauses with names -/
/-- what the clauses with names wish, one after the other -/
def wManyA (K : PySem.W.Frag) (Wout : WX) (D : Ends) : List (Value × Nat × (Addr → Value → Option Addr → TS)) → WX
  | [] => Wout
  | (c, i, ts) :: r => fun cls d s H => ∃ b, PySem.W.exmOne K cls c = some b ∧
      (b = true → ∀ a, H a = none → ts a cls d { nx := fun s' H' => D.nx (s'.set i none) H', rt := D.rt, bk := fun s' H' => D.bk (s'.set i none) H', ct := fun s' H' => D.ct (s'.set i none) H' } (s.set i (some (.ref a))) H) ∧
      (b = false → wManyA K Wout D r cls d s H)
inductive HdsA (X : Cx) : List ExceptHandler → List (Value × Nat × (Addr → Value → Option Addr → TS)) → Prop
  | nil : HdsA X [] []
  | cons {x n : Str} {c : Value} {i : Nat} {ts : Addr → Value → Option Addr → TS} {b0 : Stmt} {su : List Stmt} {np p2 : Pos} {hds : List ExceptHandler} {l : List (Value × Nat × (Addr → Value → Option Addr → TS))}
      (hc : Names X x c) (hi : X.N[i]? = some n) (hl : X.env.kindOf n = some .local)
      (hsu : ∀ (a : Addr) (oe : Obj) (cls : Value) (d : Option Addr) (pn : List (Addr × Obj)), Zc cls d oe → (∃ vs, oe.data = .fields vs) → PSs (X.suite a ((a, oe) :: pn)) (b0 :: su) (ts a cls d)) (r : HdsA X hds l) :
      HdsA X (.ExceptHandler (some (.Name x np)) (some n) (b0 :: su) p2 :: hds) ((c, i, ts) :: l)
section
variable {X : Cx} {body : List Stmt} {h0 : ExceptHandler} {hds : List ExceptHandler} {l : List (Value × Nat × (Addr → Value → Option Addr → TS))} {pos : Pos} {tb : WX → TS} {Wout : WX}
theorem ps_try_manyA (hs : X.stack = X.env :: X.outer) (hf : X.env.frame = some X.env.locals) (hN : X.N.Nodup) (tk : Takes X Wout)
    (hb : ∀ (W : WX) (pn : List (Addr × Obj)) (xe : Value → Shared → Prop), Takes (X.tr pn xe) W → PassesOwn (model X.prog X.w) X.A X.env xe → PSs (X.tr pn xe) body (tb W))
    (hh : HdsA X (h0 :: hds) l) : PS X (.Try body (h0 :: hds) [] [] pos) (fun D s H => tb (wManyA X.K Wout D l) D s H) := by
  refine ⟨fun pins s st H D I h => ?_⟩
  have ok := I.ok
  have hfr : X.A.frames = some (X.env :: X.outer) := by rw [ok.frames, hs]
  refine wpAny_Try_except ?_
  refine wpAny_mono ((hb (wManyA X.K Wout D l) (X.pn ++ pins) (fun e sa => wpAny (model X.prog X.w) X.A (noteFrame e X.env) (fun _ sb => wpAny (model X.prog X.w) X.A (setFlight e none) (fun _ sc =>
    wpAny (model X.prog X.w) X.A (handleBy e X.env (h0 :: hds)) (SP X pins D) X.xe sc) X.xe sb) X.xe sa) (fun u s' xx => ?_) PassesOwn.looking).run [] s st H D (I.toTry _) h) (fun f s1 hsp => ?_) (fun e s1 he => he)
  · obtain ⟨a, B, sI, pins', st', H', cls, d, rfl, Jt, nb, up, sky, na, os, ag, w⟩ := xx
    have J : Inv X pins st' H' sI := Jt.ofTry ok
    have skyE : Sky B (X.env :: X.outer) a (Zc cls d) X.env.locals s'.heap := by
      rw [← hs]
      exact sky
    show wpAny (model X.prog X.w) X.A (noteFrame (.ref a) X.env) _ _ _
    refine Sky.land Zc.steady hfr hf skyE fun h3 fl3 up3 => ?_
    have J3 : Inv X pins st' H' { s' with heap := h3 } := J.landed nb fl3.1 (up.trans up3) os ag
    obtain ⟨oe3, vs3, he3, hz3, hd3⟩ := fl3.there
    have nfr : a ∉ frs (X.env :: X.outer) := fun hm => by
      obtain ⟨_, o', e', hnf⟩ := fl3.2.2.1.mem hm
      rw [he3] at e'
      cases e'
      exact hnf _ hd3
    have nL : a ≠ X.env.locals := fun z => nfr (List.mem_filterMap.mpr ⟨X.env, List.mem_cons_self, by rw [hf, z]⟩)
    have nF : a ∉ X.fs := fun hm => by
      obtain ⟨e, he, q⟩ := List.mem_filterMap.mp hm
      exact nfr (List.mem_filterMap.mpr ⟨e, List.mem_cons_of_mem _ he, q⟩)
    have S3 := J3.suite he3 hd3 na nL nF
    have go : ∀ {hs2 : List ExceptHandler} {l2 : List (Value × Nat × (Addr → Value → Option Addr → TS))}, HdsA X hs2 l2 → wManyA X.K Wout D l2 cls d st' H' → wpAny (model X.prog X.w) X.A (handleBy (.ref a) X.env hs2) (SP X pins D) X.xe { s' with heap := h3 } := by
      intro hs2 l2 hk
      induction hk with
      | nil =>
        intro w
        refine wpAny_handleBy_nil ?_
        obtain ⟨k1, k2, k3, oe, vs, T, oT, tz, he, hz, hd, h1, hr⟩ := id fl3
        unfold PySem.passOn
        refine wpAny_bind (wpAny_field he hd h1 ?_)
        rw [if_neg (show ¬ ((Value.ref T == Value.none) = true) from by simp)]
        have fin : wpAny (model X.prog X.w) X.A (setFlight (.ref a) X.env.frame) (fun _ s4 => wpAny (model X.prog X.w) X.A (throw (.ref a) : Sem Flow) (SP X pins D) X.xe s4) X.xe { s' with heap := h3 } := by
          rw [hf]
          refine HandSPX.setFlight_upZ fl3 fun h4 hh4 up4 => wpAny_throw (tk _ _ ?_)
          exact ⟨a, B, sI, pins, st', H', cls, d, rfl, J, nb, (up.trans up3).trans up4, .inr (.inr (by rw [hs]; exact hh4)), na, os, ag, w⟩
        first
          | exact wpAny_bind (wpAny_pure (wpAny_bind fin))
          | exact wpAny_bind fin
      | @cons x n c i ts b0 su np p2 hs3 l3 hc hi hl hsu r ih =>
        intro w
        obtain ⟨b, hb1, hyes, hno⟩ := w
        refine wpAny_handleBy_cons (codeAny_handlers_test ?_) (by intro q; cases q)
        have lT : PySem.W.Looks (model X.prog X.w) h3 (typeOf (.ref a)) cls := fun A Q E s k q => wpAny_typeOf_ref (k _ _ he3) (by rw [hz3.1]; exact q)
        have test : ∀ {Q : Value → Shared → Prop} {E : Value → Shared → Prop}, Q c { s' with heap := h3 } → wpAny (model X.prog X.w) (X.A.mark (some (.ref a))) (eval (.Name x np) X.env) Q E { s' with heap := h3 } := fun {Q E} q => by
          obtain ⟨hg, hdbg, hm | ⟨hm, hv, hnn⟩⟩ := hc
          · exact ld_glob (X := X.suite a ((a, oe3) :: (X.pn ++ pins))) S3 hg hm q hdbg
          · exact ld_blt (X := X.suite a ((a, oe3) :: (X.pn ++ pins))) S3 hg hm hv q hnn hdbg
        refine test ((PySem.W.exm_one (M := model X.prog X.w) J3.kIn lT hb1).here ?_)
        cases b with
        | true =>
          refine codeAny_handlers_suite_as ?_
          refine HandSPX.lands_againZ fl3 fun h4 fl4 up4 => ?_
          have J4 : Inv X pins st' H' { s' with heap := h4 } := J.landed nb fl4.1 ((up.trans up3).trans up4) os ag
          obtain ⟨oe4, vs4, he4, hz4, hd4⟩ := fl4.there
          refine store_ok (X := X.suite a ((a, oe4) :: (X.pn ++ pins))) (v := .ref a) (J4.suite he4 hd4 na nL nF) hN hi (.inl hl) rfl (fun s5 S5 => ?_) (.inr hl)
          refine wpAny_mono ((hsu a oe4 cls d (X.pn ++ pins) hz4 ⟨_, hd4⟩).run [] s5 _ H' _ S5 (hyes rfl a na)) (fun f s6 hsp => ?_) (fun _ _ z => False.elim z)
          have goes : ∀ {st6 : St} {H6 : Hp} {Q : Shared → Prop}, Inv (X.suite a ((a, oe4) :: (X.pn ++ pins))) [] st6 H6 s6 → (∀ s7, Inv X pins (st6.set i none) H6 s7 → Q s7) →
              wpAny (model X.prog X.w) X.A (do bindName X.env n .none; unbindBehindTheSuite X.env n p2) (fun _ s7 => Q s7) X.xe s6 := fun {st6 H6 Q} S6 hq => gone_ok (S6.unsuite ok) hN hi hl hq
          cases f with
          | next =>
            obtain ⟨st6, H6, S6, q6⟩ := hsp
            exact goes S6 fun s7 J7 => ⟨_, _, J7, q6⟩
          | brk =>
            obtain ⟨st6, H6, S6, q6⟩ := hsp
            exact goes S6 fun s7 J7 => ⟨_, _, J7, q6⟩
          | cont =>
            obtain ⟨st6, H6, S6, q6⟩ := hsp
            exact goes S6 fun s7 J7 => ⟨_, _, J7, q6⟩
          | ret u =>
            obtain ⟨v6, st6, H6, S6, r6, q6⟩ := hsp
            exact goes S6 fun s7 J7 => ⟨_, _, _, J7, r6, q6⟩
        | false =>
          show wpAny _ X.A (handleBy (.ref a) X.env hs3) _ _ _
          exact ih (hno rfl)
    exact go hh w
  · cases f with
    | next =>
      obtain ⟨st6, H6, J6, q⟩ := hsp
      exact wpAny_execs_nil ⟨st6, H6, J6.ofTry ok, q⟩
    | brk =>
      obtain ⟨st6, H6, J6, q⟩ := hsp
      exact ⟨st6, H6, J6.ofTry ok, q⟩
    | cont =>
      obtain ⟨st6, H6, J6, q⟩ := hsp
      exact ⟨st6, H6, J6.ofTry ok, q⟩
    | ret u =>
      obtain ⟨v6, st6, H6, J6, r6, q⟩ := hsp
      exact ⟨v6, st6, H6, J6.ofTry ok, r6, q⟩
end
end L2

end
section
set_option maxRecDepth 100000
set_option autoImplicit false
namespace Mr
open PySem PySem.Spec L2 MrT
open PyProof.Rows hiding St

/-! ### the error that a suite holds -/
def noX : M → Prop
  | .exn _ _ => False
  | _ => True
def noXO : O → Prop
  | .lst xs => ∀ m ∈ xs, noX m
  | .dct kvs => ∀ p ∈ kvs, noX p.2
abbrev Cfg.held (g : Cfg) (a : Addr) (c : Nat) (d : Option Addr) : Cfg := { g with ex := some (a, c, d) }
section
variable {K : PySem.W.Frag} {g : Cfg} {ph r : List Addr} {H : Hp}
theorem Mv.noX (h0 : g.ex = none) {m : M} {v : V} (h : Mv K g ph r H m v) : Mr.noX m := by
  cases m with
  | exn c x =>
    obtain ⟨a, d, e, _⟩ := h
    rw [h0] at e
    cases e
  | _ => trivial
theorem Mv.toX (h0 : g.ex = none) (a : Addr) (c : Nat) (d : Option Addr) {m : M} {v : V} (h : Mv K g ph r H m v) : Mv K (g.held a c d) ph r H m v := by
  cases m with
  | exn c x =>
    obtain ⟨a, d, e, _⟩ := h
    rw [h0] at e
    cases e
  | _ => exact h
theorem Mv.unX {a : Addr} {c : Nat} {d : Option Addr} {m : M} {v : V} (h : Mv K (g.held a c d) ph r H m v) (n : Mr.noX m) : Mv K g ph r H m v := by
  cases m with
  | exn c x => exact n.elim
  | _ => exact h
theorem Ov.noX (h0 : g.ex = none) {o : O} {u : HO} (h : Ov K g ph r H o u) : noXO o := by
  cases o with
  | lst xs =>
    cases u with
    | lst vs =>
      replace h : Paired (Mv K g ph r H) xs vs := h
      intro m hm
      induction h with
      | nil => simp at hm
      | cons a t ih =>
        rcases List.mem_cons.mp hm with z | z
        · rw [z]; exact Mv.noX h0 a
        · exact ih z
    | _ => exact h.elim
  | dct kvs =>
    cases u with
    | dK ws =>
      replace h : Paired (fun (p : Key × M) (q : Key × V) => p.1 = q.1 ∧ Mv K g ph r H p.2 q.2) kvs ws := h
      intro m hm
      induction h with
      | nil => simp at hm
      | cons a t ih =>
        rcases List.mem_cons.mp hm with z | z
        · rw [z]; exact Mv.noX h0 a.2
        · exact ih z
    | _ => exact h.elim
theorem Ov.unX {a : Addr} {c : Nat} {d : Option Addr} {o : O} {u : HO} (h : Ov K (g.held a c d) ph r H o u) (n : noXO o) : Ov K g ph r H o u := by
  cases o with
  | lst xs =>
    cases u with
    | lst vs =>
      replace h : Paired (Mv K (g.held a c d) ph r H) xs vs := h
      replace n : ∀ m ∈ xs, Mr.noX m := n
      show Paired (Mv K g ph r H) xs vs
      induction h with
      | nil => exact .nil
      | cons a t ih => exact .cons (Mv.unX a (n _ List.mem_cons_self)) (ih fun m hm => n m (List.mem_cons_of_mem _ hm))
    | _ => exact h
  | dct kvs =>
    cases u with
    | dK ws =>
      replace h : Paired (fun (p : Key × M) (q : Key × V) => p.1 = q.1 ∧ Mv K (g.held a c d) ph r H p.2 q.2) kvs ws := h
      replace n : ∀ m ∈ kvs, Mr.noX m.2 := n
      show Paired (fun (p : Key × M) (q : Key × V) => p.1 = q.1 ∧ Mv K g ph r H p.2 q.2) kvs ws
      induction h with
      | nil => exact .nil
      | cons a t ih => exact .cons ⟨a.1, Mv.unX a.2 (n _ List.mem_cons_self)⟩ (ih fun m hm => n m (List.mem_cons_of_mem _ hm))
    | _ => exact h
theorem Ov.toX (h0 : g.ex = none) (a : Addr) (c : Nat) (d : Option Addr) {o : O} {u : HO} (h : Ov K g ph r H o u) : Ov K (g.held a c d) ph r H o u := by
  cases o with
  | lst xs =>
    cases u with
    | lst vs => exact Paired.mapP h fun _ _ z => Mv.toX h0 a c d z
    | _ => exact h
  | dct kvs =>
    cases u with
    | dK ws => exact Paired.mapP h fun _ _ z => ⟨z.1, Mv.toX h0 a c d z.2⟩
    | _ => exact h
theorem Ev.toX (h0 : g.ex = none) (a : Addr) (c : Nat) (d : Option Addr) {e : Env1} {s : L2.St} (h : Ev K g ph r H e s) : Ev K (g.held a c d) ph r H e s := Paired.mapP h fun m v z => by
  cases m with
  | none => trivial
  | some m =>
    cases v with
    | none => exact z
    | some v => exact Mv.toX h0 a c d z
theorem Ev.unX {a : Addr} {c : Nat} {d : Option Addr} {e : Env1} {s : L2.St} (h : Ev K (g.held a c d) ph r H e s) (n : ∀ m, some m ∈ e → Mr.noX m) : Ev K g ph r H e s := by
  induction h with
  | nil => exact .nil
  | @cons m v ms vs z t ih =>
    refine .cons ?_ (ih fun m hm => n m (List.mem_cons_of_mem _ hm))
    cases m with
    | none => trivial
    | some m =>
      cases v with
      | none => exact z
      | some v => exact Mv.unX z (n m List.mem_cons_self)
theorem Ev.noX (h0 : g.ex = none) {e : Env1} {s : L2.St} (h : Ev K g ph r H e s) : ∀ m, some m ∈ e → Mr.noX m := by
  intro m hm
  induction h with
  | nil => simp at hm
  | @cons m' v ms vs z t ih =>
    rcases List.mem_cons.mp hm with q | q
    · subst q
      cases v with
      | none => exact z.elim
      | some v => exact Mv.noX h0 z
    · exact ih q
theorem So.noX (h0 : g.ex = none) {S : Sto} (s : So K g ph r S H) : (∀ o ∈ S, noXO o) ∧ ∀ p ∈ g.kp, ∀ m, some m ∈ p.1 → Mr.noX m := by
  refine ⟨fun o ho => ?_, fun p hp m hm => Ev.noX h0 (s.kp p hp) m hm⟩
  obtain ⟨n, hn, e⟩ := List.getElem_of_mem ho
  obtain ⟨_, _, _, _, ov⟩ := s.at_ n o (by rw [List.getElem?_eq_getElem hn, e])
  exact ov.noX h0
theorem So.toX (h0 : g.ex = none) (a : Addr) (c : Nat) (d : Option Addr) {S : Sto} (s : So K g ph r S H) : So K (g.held a c d) ph r S H :=
  ⟨s.len, s.nd, s.dis, s.there, fun n o e => by
    obtain ⟨b, u, e1, e2, ov⟩ := s.at_ n o e
    exact ⟨b, u, e1, e2, ov.toX h0 a c d⟩, s.tabs, fun q hq => Ev.toX h0 a c d (s.kp q hq)⟩
theorem So.unX {a : Addr} {c : Nat} {d : Option Addr} {S : Sto} (s : So K (g.held a c d) ph r S H) (n : (∀ o ∈ S, noXO o) ∧ ∀ p ∈ g.kp, ∀ m, some m ∈ p.1 → Mr.noX m) : So K g ph r S H :=
  ⟨s.len, s.nd, s.dis, s.there, fun i o e => by
    obtain ⟨b, u, e1, e2, ov⟩ := s.at_ i o e
    exact ⟨b, u, e1, e2, ov.unX (n.1 o (List.mem_of_getElem? e))⟩, s.tabs, fun q hq => Ev.unX (s.kp q hq) (n.2 q hq)⟩
end

/-! ### try: .. except C as e: .. -/
/-- a suite that only tells: what it returns is no error, what is owned stays -/
def Tells (fs : Env1 → Sto → Out) : Prop := ∀ e S m S', fs e S = .rt m S' → S' = S ∧ noX m
def suiteO : Out → Out
  | .rt m S => .rt m S
  | _ => .bad
def hdl : List ((Nat → Option Bool) × Nat × (Env1 → Sto → Out)) → Nat → Option (Str × PyData) → Env1 → Sto → Out
  | [], c, x, e, S => .rz c x e S
  | (sub, i, fs) :: l, c, x, e, S => match sub c with
    | some true => suiteO (fs (e.set i (some (.exn c x))) S)
    | some false => hdl l c x e S
    | none => .bad
def sTry (fb : Env1 → Sto → Out) (l : List ((Nat → Option Bool) × Nat × (Env1 → Sto → Out))) : Env1 → Sto → Out := fun e S => match fb e S with
  | .rz c x e1 S1 => hdl l c x e1 S1
  | o => o
abbrev W00 : WX := fun _ _ _ _ => False
inductive HdsM (X : Cx) (g : Cfg) : List ExceptHandler → List ((Nat → Option Bool) × Nat × (Env1 → Sto → Out)) → Prop
  | nil : HdsM X g [] []
  | cons {x n : Str} {cv : Value} {i : Nat} {sub : Nat → Option Bool} {fs : Env1 → Sto → Out} {b0 : Stmt} {su : List Stmt} {np p2 : Pos} {hds : List ExceptHandler} {l : List ((Nat → Option Bool) × Nat × (Env1 → Sto → Out))}
      (hc : Names X x cv) (hi : X.N[i]? = some n) (hl : X.env.kindOf n = some .local) (hex : ∀ c b, sub c = some b → PySem.W.exmOne X.K (.ref (g.cl c)) cv = some b) (ht : Tells fs)
      (hsu : ∀ (c : Nat), sub c = some true → ∀ (a : Addr) (oe : Obj) (d : Option Addr) (pn : List (Addr × Obj)), Zc (.ref (g.cl c)) d oe → (∃ vs, oe.data = .fields vs) → MSs (X.suite a ((a, oe) :: pn)) (g.held a c d) W00 (b0 :: su) fs) (r : HdsM X g hds l) :
      HdsM X g (.ExceptHandler (some (.Name x np)) (some n) (b0 :: su) p2 :: hds) ((sub, i, fs) :: l)
section
variable {X : Cx} {g : Cfg} {W : WX}
theorem HdsM.does (h0 : g.ex = none) {hds : List ExceptHandler} {l : List ((Nat → Option Bool) × Nat × (Env1 → Sto → Out))} (h : HdsM X g hds l) :
    ∃ l', HdsA X hds l' ∧ ∀ (D : Ends) (ph r : List Addr) (S : Sto) (H : Hp) (e : Env1) (s : L2.St) (c : Nat) (x : Option (Str × PyData)) (d : Option Addr), So X.K g ph r S H → Ev X.K g ph r H e s → Xv X.K (ph ++ r) H d x → PostS X.K g W ph r s H (hdl l c x e S) D → wManyA X.K W D l' (.ref (g.cl c)) d s H := by
  induction h with
  | nil => exact ⟨[], .nil, fun D ph r S H e s c x d so ev xv h => h r H s d (.refl _ _) so ev xv⟩
  | @cons x n cv i sub fs b0 su np p2 hds l hc hi hl hex ht hsu r ih =>
    obtain ⟨l', hA, hw⟩ := ih
    refine ⟨(cv, i, fun a cls d D s H => ∃ c, cls = .ref (g.cl c) ∧ sub c = some true ∧ tMS X.K (g.held a c d) W00 fs D s H) :: l', .cons hc hi hl (fun a oe cls d pn hz hf => ⟨fun pins s st H D I h => ?_⟩) hA, fun D ph r S H e s c x d so ev xv h => ?_⟩
    · obtain ⟨c, rfl, hs, h⟩ := h
      exact (hsu c hs a oe d pn hz hf).run pins s st H D I h
    · unfold hdl at h
      cases q : sub c with
      | none => rw [q] at h; exact h.elim
      | some b =>
        rw [q] at h
        refine ⟨b, hex c b q, fun hb a ha => ?_, fun hb => ?_⟩
        · subst hb
          replace h : PostS X.K g W ph r s H (suiteO (fs (e.set i (some (.exn c x))) S)) D := h
          refine ⟨c, rfl, q, ph, r, S, _, so.toX h0 a c d, (ev.toX h0 a c d).set i (m := .exn c x) ⟨a, d, rfl, rfl, xv⟩, ?_⟩
          cases q2 : fs (e.set i (some (.exn c x))) S with
          | rt m S' =>
            rw [q2] at h
            obtain ⟨rfl, nm⟩ := ht _ _ _ _ q2
            exact fun r1 H1 v x1 so1 m1 => h r1 H1 v x1 (so1.unX (so.noX h0)) (m1.unX nm)
          | _ => rw [q2] at h; exact h.elim
        · subst hb
          exact hw D ph r S H e s c x d so ev xv h
theorem ms_try {body : List Stmt} {hh : ExceptHandler} {hds : List ExceptHandler} {l : List ((Nat → Option Bool) × Nat × (Env1 → Sto → Out))} {fb : Env1 → Sto → Out} {pos : Pos} (h0 : g.ex = none) (hs : X.stack = X.env :: X.outer) (hf : X.env.frame = some X.env.locals) (hN : X.N.Nodup) (tk : Takes X W)
    (hb : ∀ (W : WX) (pn : List (Addr × Obj)) (xe : Value → Shared → Prop), Takes (X.tr pn xe) W → PassesOwn (model X.prog X.w) X.A X.env xe → MSs (X.tr pn xe) g W body fb)
    (h : HdsM X g (hh :: hds) l) : MS X g W (.Try body (hh :: hds) [] [] pos) (sTry fb l) := by
  obtain ⟨l', hA, hw⟩ := h.does (W := W) h0
  refine PS.of (ps_try_manyA (tb := fun W => tMS X.K g W fb) hs hf hN tk hb hA) fun D s H h => ?_
  obtain ⟨ph, r, S, e, so, ev, h⟩ := h
  refine ⟨ph, r, S, e, so, ev, ?_⟩
  unfold sTry at h
  cases q : fb e S with
  | rz c x e1 S1 =>
    rw [q] at h
    exact fun r1 H1 s1 d x1 so1 ev1 xv => hw D ph r1 S1 H1 e1 s1 c x d so1 ev1 xv (PostS.mono x1 h)
  | _ => rw [q] at h; exact h

/-! ### in a suite: the error's field, isinstance -/
variable {a C : Addr} {c : Nat} {d : Option Addr} {oe : Obj} {pn : List (Addr × Obj)} {pos : Pos}
def eFld (n : Str) (f : Env1 → Sto → R M) : Env1 → Sto → R M := fun e S => (f e S).bind fun m S1 => match m with
  | .exn _ (some (fl, x)) => if fl = n then .ok (.d x) S1 else .bad
  | _ => .bad
theorem me_fld {e1 : Expr} {f : Env1 → Sto → R M} {n : Str} (T : XfC X.K (g.cl c)) (hno : PySem.W.findIn X.K (.ref (g.cl c)) n = some none) (hz : Zc (.ref (g.cl c)) d oe) (hf : ∃ vs, oe.data = .fields vs) (he : ME (X.suite a ((a, oe) :: pn)) (g.held a c d) W e1 f)
    (hb : attributeBase e1 n X.env (eval e1 X.env) = eval e1 X.env := by rfl) : ME (X.suite a ((a, oe) :: pn)) (g.held a c d) W (.Attribute e1 n pos) (eFld n f) := by
  refine PE.of (pe_xf T hno hz hf he hb) fun s H Q h => ?_
  obtain ⟨ph, r, S, e, so, ev, h⟩ := h
  unfold tXf
  refine tG.bind so ev h fun m v S1 r1 H1 x1 so1 ev1 m1 h1 => ?_
  cases m with
  | exn c2 x =>
    cases x with
    | none => exact h1.elim
    | some p =>
      obtain ⟨fl, x⟩ := p
      obtain ⟨a2, d2, e2, rfl, xv⟩ := m1
      cases e2
      obtain ⟨dd, w, hd, hH, _, hx⟩ := xv
      by_cases q : fl = n
      · subst q
        replace h1 : Post PV X.K (g.held a c d) (fun c d H' => W c d s H') ph r1 H1 (if fl = fl then R.ok (.d x) S1 else .bad) Q := h1
        rw [if_pos rfl] at h1
        exact ⟨rfl, rfl, dd, _, w, hd, hH, by simp [List.lookup], h1 r1 H1 w (.refl _ _) so1 hx⟩
      · have h1 : Post PV X.K (g.held a c d) (fun c d H' => W c d s H') ph r1 H1 (if fl = n then R.ok (.d x) S1 else .bad) Q := h1
        rw [if_neg q] at h1
        exact h1.elim
  | _ => exact h1.elim
/-- isinstance(e, c), e the error that the suite holds, d its dict -/
def rIsX (K : PySem.W.Frag) (C a : Addr) (d : Option Addr) : List V → Hp → VK → Prop := fun xs H Q => (∀ dd, d = some dd → ∃ fs, H dd = some (.xd fs)) ∧ rIsE K C a xs H Q
theorem call_isX (T : ExcC X.K C) (hz : Zc (.ref C) d oe) (hf : ∃ vs, oe.data = .fields vs) : CallR (X.suite a ((a, oe) :: pn)) (.builtin "isinstance") (rIsX X.K C a d) := by
  intro pins s st H xs us Q I r h
  obtain ⟨hd, c, cv, b, rfl, hcv, e, q⟩ := h
  cases r with
  | cons rx rr =>
    cases rr with
    | cons rt rr =>
      cases rr
      cases rx
      have ec := hcv _ rt
      subst ec
      obtain ⟨hget, _⟩ := I.pin (a, oe) (List.mem_append.mpr (.inl List.mem_cons_self))
      obtain ⟨vs, hv⟩ := hf
      have J : ∃ od, PySem.W.InstAt s.heap a oe C od := by
        obtain ⟨oc, od, oda, osl⟩ := oe
        obtain ⟨h1, h2⟩ := hz
        dsimp only at h1 h2 hv
        subst h1 h2 hv
        cases od with
        | none => exact ⟨none, hget, rfl, rfl, trivial⟩
        | some dd =>
          obtain ⟨fs, hfs⟩ := hd dd rfl
          obtain ⟨mA, hns, _⟩ := (show ObjOk X.prog X.w H s.heap dd (.xd fs) from I.hok dd _ hfs)
          obtain ⟨o2, ho, _⟩ := lookIn_ns hns
          exact ⟨some o2, hget, rfl, rfl, ho⟩
      obtain ⟨od, J⟩ := J
      exact PySem.W.kia_one (MrE.kit_err T) I.kIn J e (fun z => nomatch z) fun tk => ⟨.bl b, H, I.kept (t' := tk) fun _ _ z => z, rfl, q⟩
/-- kt: of which classes an error of a number is one -/
def pIsX (kt : Nat → Addr → Option Bool) : List M → Sto → Option M
  | [.exn c (some _), .fn C], _ => (kt c C).map fun b => .d (.bool b)
  | _, _ => none
theorem s_isX {kt : Nat → Addr → Option Bool} (hk : ∀ C b, kt c C = some b → PySem.W.kitOne X.K (.ref (g.cl c)) (.ref C) = some b) : SndN X.K (g.held a c d) (rIsX X.K (g.cl c) a d) (pIsX kt) := by
  intro ph r S H ms m vs Q so a1 h k
  unfold pIsX at h
  split at h
  · rename_i c2 p C
    cases a1 with
    | cons b t =>
      cases t with
      | cons b2 t =>
        cases t
        obtain ⟨a2, d2, e2, rfl, xv⟩ := b
        cases e2
        obtain rfl := b2
        cases q : kt c C with
        | none => rw [q] at h; cases h
        | some b =>
          rw [q] at h
          cases h
          obtain ⟨f, x⟩ := p
          obtain ⟨dd, w, hd, hH, _⟩ := xv
          exact ⟨fun dd2 e => ⟨_, by rw [hd] at e; cases e; exact hH⟩, .ref C, .ref C, b, rfl, fun u r => r, hk C b q, k r H _ (.refl _ _) so (.bl b)⟩
  · cases h
end
end Mr

end
section
set_option maxRecDepth 100000
set_option autoImplicit false
namespace Mr
open PySem PySem.Spec L2 MrT
open PyProof.Rows hiding St

/-! ### x(lambda: body), x a def that calls it -/
abbrev Cfg.with_ (g : Cfg) (c : Addr) (q : Str) (e : Env1) (s : L2.St) : Cfg := { g with C := (c, q) :: g.C, kp := (e, s) :: g.kp }
section
variable {K : PySem.W.Frag} {g : Cfg} {ph r r' : List Addr} {H H' : Hp} {c : Addr} {q : Str} {e0 : Env1} {s0 : L2.St}
theorem Mv.with_ {m : M} {v : V} (h : Mv K g ph r H m v) : Mv K (g.with_ c q e0 s0) ph r H m v := by
  cases m <;> exact h
theorem Mv.bare {m : M} {v : V} (h : Mv K (g.with_ c q e0 s0) ph r H m v) : Mv K g ph r H m v := by
  cases m <;> exact h
theorem Ev.with_ {e : Env1} {s : L2.St} (h : Ev K g ph r H e s) : Ev K (g.with_ c q e0 s0) ph r H e s := Paired.mapP h fun m v z => by
  cases m with
  | none => trivial
  | some m =>
    cases v with
    | none => exact z
    | some v => exact Mv.with_ (g := g) z
theorem Ev.bare {e : Env1} {s : L2.St} (h : Ev K (g.with_ c q e0 s0) ph r H e s) : Ev K g ph r H e s := Paired.mapP h fun m v z => by
  cases m with
  | none => trivial
  | some m =>
    cases v with
    | none => exact z
    | some v => exact Mv.bare (g := g) z
theorem Ov.with_ {o : O} {u : HO} (h : Ov K g ph r H o u) : Ov K (g.with_ c q e0 s0) ph r H o u := by
  cases o with
  | lst xs =>
    cases u with
    | lst vs => exact Paired.mapP h fun _ _ => Mv.with_ (g := g)
    | _ => exact h
  | dct kvs =>
    cases u with
    | dK ws => exact Paired.mapP h fun _ _ z => ⟨z.1, Mv.with_ (g := g) z.2⟩
    | _ => exact h
theorem Ov.bare {o : O} {u : HO} (h : Ov K (g.with_ c q e0 s0) ph r H o u) : Ov K g ph r H o u := by
  cases o with
  | lst xs =>
    cases u with
    | lst vs => exact Paired.mapP h fun _ _ => Mv.bare (g := g)
    | _ => exact h
  | dct kvs =>
    cases u with
    | dK ws => exact Paired.mapP h fun _ _ z => ⟨z.1, Mv.bare (g := g) z.2⟩
    | _ => exact h
theorem So.with_ {S : Sto} (s : So K g ph r S H) (hc : H c = some (LamX.CodeO c q)) (ev : Ev K g ph r H e0 s0) : So K (g.with_ c q e0 s0) ph r S H :=
  ⟨s.len, s.nd, s.dis, s.there, fun n o e => by
    obtain ⟨a, u, e1, e2, ov⟩ := s.at_ n o e
    exact ⟨a, u, e1, e2, ov.with_⟩, ⟨s.tabs.1, fun p hp => by
      rcases List.mem_cons.mp hp with z | z
      · rw [z]; exact hc
      · exact s.tabs.2 p z⟩, fun p hp => by
      rcases List.mem_cons.mp hp with z | z
      · rw [z]; exact ev.with_
      · exact (s.kp p z).with_⟩
theorem So.bare {S : Sto} (s : So K (g.with_ c q e0 s0) ph r S H) : So K g ph r S H ∧ H c = some (LamX.CodeO c q) ∧ Ev K g ph r H e0 s0 :=
  ⟨⟨s.len, s.nd, s.dis, s.there, fun n o e => by
    obtain ⟨a, u, e1, e2, ov⟩ := s.at_ n o e
    exact ⟨a, u, e1, e2, ov.bare⟩, ⟨s.tabs.1, fun p hp => s.tabs.2 p (List.mem_cons_of_mem _ hp)⟩, fun p hp => (s.kp p (List.mem_cons_of_mem _ hp)).bare⟩, s.tabs.2 _ List.mem_cons_self, (s.kp _ List.mem_cons_self).bare⟩
theorem So.code_out {S : Sto} (s : So K g ph r S H) (hc : H c = some (LamX.CodeO c q)) : c ∉ r := fun hm => by
  obtain ⟨u, e, o, ov⟩ := s.own_mem hm
  rw [hc] at e
  cases e
  cases o <;> exact ov.elim
theorem Post.bare {E : XK} {S : Sto} {o : R M} {Q : VK} (s : So K g ph r S H) (hc : H c = some (LamX.CodeO c q)) (ev : Ev K g ph r H e0 s0) (h : Post PV K (g.with_ c q e0 s0) E ph r H o Q) : Post PV K g E ph r H o Q := by
  have k : ∀ {r' : List Addr} {H' : Hp} {S' : Sto}, Ext r H r' H' → So K g ph r' S' H' → So K (g.with_ c q e0 s0) ph r' S' H' := fun x so => so.with_ (x.keep c _ hc (s.code_out hc) LamX.codeO_ne) (ev.mono x)
  cases o with
  | ok m S' => exact fun r' H' v x so mv => h r' H' v x (k x so) mv.with_
  | rz c x S' => exact fun r' H' d x so xv => h r' H' d x (k x so) xv
  | bad => exact h
theorem Post.with_ {E : XK} {o : R M} {Q : VK} (h : Post PV K g E ph r H o Q) : Post PV K (g.with_ c q e0 s0) E ph r H o Q := by
  cases o with
  | ok m S' => exact fun r' H' v x so mv => h r' H' v x so.bare.1 mv.bare
  | rz c x S' => exact fun r' H' d x so xv => h r' H' d x so.bare.1 xv
  | bad => exact h
/-- all but the tables stays: what is told stays -/
theorem Ext.ofN (r : List Addr) (x : LamX.ExtN H H') : Ext r H r H' := ⟨fun a o e _ t => x a o e t, fun a o e t => ⟨o, x a o e t, t⟩, [], by simp, by simp⟩
theorem So.ofN {S : Sto} (s : So K g ph r S H) (x : LamX.ExtN H H') (t : LamX.Tabs g.T H') : So K g ph r S H' := by
  have y : Ext r H r H' := .ofN r x
  refine ⟨s.len, s.nd, s.dis, fun a ha => ?_, fun n o e => ?_, ⟨t, fun p hp => x _ _ (s.tabs.2 p hp) LamX.codeO_ne⟩, fun p hp => (s.kp p hp).mono y⟩
  · obtain ⟨o, e, n⟩ := s.there a ha
    exact ⟨o, x a o e n, n⟩
  · obtain ⟨a, u, e1, e2, ov⟩ := s.at_ n o e
    refine ⟨a, u, e1, x a u e2 fun ps z => ?_, ov.mono y⟩
    subst z
    cases o <;> exact ov.elim
end
/-- the lambda is called, its maker's names as they were -/
def fAct (f : Addr) (call : Sto → R M) : Env1 → Sto → R M := fun e S => match (e[0]? : Option (Option M)) with
  | some (some (M.fn a)) => if a = f then call S else .bad
  | _ => .bad
section
variable {X : Cx} {pins : List (Addr × Obj)} {st : L2.St} {H : Hp} {s : Shared} {cg : Cfg}
abbrev lamZ (X : Cx) (Ng : List Str) (x : Str) (sg : Scope) (g : Addr) (cdg : Value) (s : Shared) (H : Hp) (E : XK) : Cx := cxOf (L2.CX X.prog X.w) X.prog X.w X.K X.mg X.base Ng x sg g cdg X.A X.stack s H E
theorem me_act {Eg : XK} {Ng : List Str} {x : Str} {sg : Scope} {g f c' : Addr} {cdg pm ctv : Value} {params : Arguments} {body : Expr} {scope : Scope} {k : Nat} {a : Str} {pn : List (Addr × Obj)} {xe : Value → Shared → Prop} {W : WX} {fb : Env1 → Sto → R M} {e0 : Env1} {p1 p2 : Pos}
    (I : Inv X pins st H s) (L : LamX.LamS X.env.scope scope) (hf : s.heap.get? f = some (PySem.W.kla_obj "<lambda>" (X.env.qual ++ "<lambda>") params body scope (cloFrom X.env.cells scope.names []) pm c' ctv)) (hfn : H f = none) (hfr : f ∉ frs X.stack)
    (hbind : bindArgs (PySem.W.kla_fn "<lambda>" (X.env.qual ++ "<lambda>") params body scope (cloFrom X.env.cells scope.names []) pm (.ref c') ctv) ⟨[], []⟩ = pure [])
    (tk : Takes ((lamZ X Ng x sg g cdg s H Eg).tr pn xe) W) (hr : Room (k + 1) (X.A.deeper (envOfC x sg s.heap.objs.size g cdg)))
    (hbody : ∀ (A : Around) (outer : List Env) (s : Shared) (H : Hp) (E : XK), Room k (A.deeper (LamX.lamEnv X scope s.heap.objs.size f c')) → ME (LamX.lamCx X A outer s H E scope f c') cg (fun c d _ H' => E c d H') body fb)
    (hN : Ng[0]? = some a) (hv : Vis sg a) (hd : (a == ("__debug__" : Str)) = false) (hcd : (a == ("__classdict__" : Str)) = false) :
    ME ((lamZ X Ng x sg g cdg s H Eg).tr pn xe) (cg.with_ c' (X.env.qual ++ "<lambda>") e0 st) W (.Call (.Name a p1) [] [] p2) (fAct f fun S => fb e0 S) := by
  refine ⟨fun pinsZ sZ stZ HZ Q IZ h => ?_⟩
  obtain ⟨ph, r, S, eZ, so, ev, h⟩ := h
  unfold fAct at h
  split at h
  rotate_left
  · exact h.elim
  rename_i a0 q0
  split at h
  rotate_left
  · exact h.elim
  rename_i ea
  subst ea
  obtain ⟨v0, hs, mv0⟩ := ev.get q0
  obtain rfl : v0 = .ref a0 := mv0
  obtain ⟨so1, hc, ev0⟩ := so.bare
  refine wpAny_Call_Name_kw (thn ((pe_var (pos := p1) (i := 0) hN hv hd hcd).run pinsZ sZ stZ HZ (fun v H1 => v = .ref a0 ∧ H1 = HZ) IZ ⟨.ref a0, hs, rfl, rfl⟩) fun u s1 ⟨v, H1, I1, r1, q1⟩ => ?_)
  obtain ⟨rfl, rfl⟩ := q1
  obtain rfl : u = Value.ref a0 := r1
  have of1 := I1.base.keep a0 _ hf hfn hfr (fun z => nomatch (show a0 ∈ ([] : List Addr) from z))
  refine PySem.W.callWith_F0 ⟨_, _, _, _, of1⟩ ?_
  have un : Un (frs X.stack) [] H H1 s.heap s1.heap := I1.base
  obtain ⟨⟨oc, vs, t, hoc, hdc, hvc⟩, _, _⟩ := I1.hok c' _ hc
  have rc : codeAny (model X.prog X.w) (X.A.deeper (envOfC x sg s.heap.objs.size g cdg)) (.call (.ref a0) ⟨[], []⟩) (CR (L2.CX X.prog X.w) (envOfC x sg s.heap.objs.size g cdg :: X.stack) X.prog X.w H1 s1 Q (fun c d H' => W c d stZ H')) s1 := by
    refine PySem.W.kla_callFunE hr.depth of1 rfl L.co L.gen rfl ⟨c', oc, vs, t, rfl, hoc, hdc, hvc⟩ ?_
    rw [hbind]
    refine wpAny_pure (wpAny_newFunctionEnv (fun y hy => (L.own y hy).2) (fun y hy => absurd hy (by simp)) (fun h₁ hns hsb => ⟨I1.nolimit.fresh _ hsb, ?_⟩) L.kind)
    show codeAny _ _ (.expr body (LamX.lamEnv X scope s1.heap.objs.size a0 c')) _ _
    have kp : ∀ b o, s1.heap.get? b = some o → h₁.get? b = some o := fun b o e => hsb.extBut b o (Nat.ne_of_lt (Heap.lt_size e)) (Heap.get?_push_of_some _ e)
    have J := LamX.lam_start2 (E := fun c d H' => W c d stZ H') (f := a0) (c' := c') (tk := s1.toks + ([] : List (Str × Value)).length) I L I1.env0 hr.hd un hns kp
    refine PySem.W.kla_codeExpr (wpAny_mono ((hbody _ _ s1 H1 _ (hr.deeper _)).run [] _ _ H1 Q J ⟨ph, r, S, e0, so1, ev0, h.bare so1 hc ev0⟩) (fun v s' hq => ?_) fun e s' hq => hq)
    obtain ⟨w', H', J', rv, q⟩ := hq
    exact ⟨w', H', J'.os, J'.bare, J'.base, J'.hok, rv, q⟩
  refine wpAny_call (codeAny_mono rc fun res s' hq => ?_)
  match res, hq with
  | .error e, hq => exact tk e s' (XE.of_call I1 (fun _ _ _ z => z) hq)
  | .ok (.ret u), hq => exact I1.after hq
  | .ok .next, hq => exact hq.elim
  | .ok .brk, hq => exact hq.elim
  | .ok .cont, hq => exact hq.elim
/-- x(lambda: body) -/
def eLam (tr : (Sto → R M) → Sto → R M) (fb : Env1 → Sto → R M) : Env1 → Sto → R M := fun e S => tr (fun S' => fb e S') S
theorem me_lam {W : WX} {x a : Str} {g c P : Addr} {k : Nat} {pg : Arguments} {bg : List Stmt} {sg : Scope} {dV kV doc pm cdv ct oc : Value} {an od : Option Addr} {osl : Array (Option Value)} {Ng : List Str} {params : Arguments} {body : Expr} {scope : Scope} {p lpos pos : Pos}
    {fb : Env1 → Sto → R M} {tr : (Sto → R M) → Sto → R M} {bT : Addr → (Sto → R M) → Env1 → Sto → Out}
    (hg : Gl X x) (hm : X.mg x = some (.ref g)) (hk : PySem.W.keepIn X.K (.ref g) = true) (tk : Takes X W)
    (lk : X.K.lookup g = some ⟨oc, od, .func (PySem.W.fnOf x x pg bg sg dV kV doc pm an cdv ct), osl⟩) (hcg : PySem.W.codeIn X.K cdv x = true) (hb : L2.Binds X.K (PySem.W.fnOf x x pg bg sg dV kV doc pm an cdv ct) [a] []) (Sg : FnScope Ng [a] sg) (hNg : Ng[0]? = some a) (hva : Vis sg a)
    (TB : LamX.TabB X.base X.mg c P) (hcode : X.env.code = .ref c) (hmT : (P, X.env.qual ++ "<lambda>") ∈ cg.T) (hu : ∀ p ∈ cg.T, p.1 = P → p.2 = X.env.qual ++ "<lambda>") (hr : Room (k + 2) X.A) (L : LamX.LamS X.env.scope scope) (hdef : defaultsOf params X.env = ([], []))
    (hbind : ∀ (q : Str) (cl : List (Str × Addr)) (pm cv ctv : Value), bindArgs (PySem.W.kla_fn "<lambda>" q params body scope cl pm cv ctv) ⟨[], []⟩ = pure [])
    (hbody : ∀ (A : Around) (outer : List Env) (s : Shared) (H : Hp) (E : XK) (f c' : Addr), Room k (A.deeper (LamX.lamEnv X scope s.heap.objs.size f c')) → ME (LamX.lamCx X A outer s H E scope f c') cg (fun c d _ H' => E c d H') body fb)
    (htry : ∀ (cg2 : Cfg) (f : Addr) (s : Shared) (H : Hp) (E : XK) (call : Sto → R M), cg2.ex = cg.ex → cg2.cl = cg.cl → Room (k + 1) (X.A.deeper (envOfC x sg s.heap.objs.size g cdv)) →
      (∀ (W : WX) (pn : List (Addr × Obj)) (xe : Value → Shared → Prop) (p1 p2 : Pos), Takes ((lamZ X Ng x sg g cdv s H E).tr pn xe) W → ME ((lamZ X Ng x sg g cdv s H E).tr pn xe) cg2 W (.Call (.Name a p1) [] [] p2) (fAct f call)) →
      MSs (lamZ X Ng x sg g cdv s H E) cg2 (fun c d _ H' => E c d H') bg (bT f call))
    (hT : ∀ f call S, fnM Ng.length (bT f call) [.fn f] S = tr call S)
    (hdb : (x == ("__debug__" : Str)) = false := by decide) (hd : (a == ("__debug__" : Str)) = false := by decide) (hcd : (a == ("__classdict__" : Str)) = false := by decide) :
    ME X cg W (.Call (.Name x p) [.Lambda params body scope lpos] [] pos) (eLam tr fb) := by
  refine ⟨fun pins s st H Q I h => ?_⟩
  obtain ⟨ph, r, S, e0, so, ev, h⟩ := h
  refine wpAny_Call_Name_kw (ld_glob I hg hm ?_ hdb)
  refine PySem.W.callWith_K (h₀ := X.base) I.ok.mod.kin hk ?_ (by rfl) (by rfl)
  show wpAny _ _ (spliced ((false, eval (.Lambda params body scope lpos) X.env) :: backTo pos (starEach [] X.env))) _ _ s
  refine Calls.spliced_cons (LamX.lam_make2 I TB hcode hmT hu so.tabs.1 hdef (L.has I.ok) fun f c' pm' ctv H1 s' I1 eN T1 hf hfn hfr hco => ?_)
  refine Calls.spliced_nil ⟨I1.kIn, ?_⟩
  have so1 := so.ofN eN T1
  have ev1 := ev.mono (Ext.ofN r eN)
  have h1 := Post.mono (Ext.ofN r eN) h
  have rc : codeAny (model X.prog X.w) X.A (.call (.ref g) ⟨[.ref f], []⟩) (CR (L2.CX X.prog X.w) X.stack X.prog X.w H1 s' Q (fun c d H' => W c d st H')) s' := by
    refine LamX.run_ofS (N := Ng) (ps := [a]) (us := [.ref f]) (vs := [.ref f]) lk hcg Sg hr I1.env0 (hb s' [.ref f] I1.kIn rfl) (.cons rfl .nil) rfl fun hr' => ?_
    refine ⟨_, htry (cg.with_ c' (X.env.qual ++ "<lambda>") e0 st) f s' H1 _ (fun S => fb e0 S) rfl rfl hr' fun W pn xe p1 p2 tk2 => me_act I1 L hf hfn hfr (hbind _ _ _ _ _) tk2 hr' (fun A outer s H E hr2 => hbody A outer s H E f c' hr2) hNg hva hd hcd, ?_⟩
    refine body_of (n := 1) ⟨ph, r, S, [.fn f], rfl, so1.with_ hco ev1, .cons rfl .nil, ?_⟩
    rw [hT]
    exact Post.with_ h1
  refine wpAny_call (codeAny_mono rc fun res s2 hq => ?_)
  match res, hq with
  | .error e, hq => exact tk e s2 (XE.of_call I1 (fun _ _ _ z => z) hq)
  | .ok (.ret u), hq => exact I1.after hq
  | .ok .next, hq => exact hq.elim
  | .ok .brk, hq => exact hq.elim
  | .ok .cont, hq => exact hq.elim
end
end Mr

end
section
set_option maxRecDepth 100000
set_option autoImplicit false
namespace Mr
open PySem PySem.Spec L2 MrT
open PyProof.Rows hiding St
section
variable {X : Cx} {g : Cfg} {W : WX} {a b c : Expr} {fa fb fc : Env1 → Sto → R M} {pos : Pos}
/-! ### a < b < c -/
def eChain (o1 o2 : M → M → Sto → Option M) (fa fb fc : Env1 → Sto → R M) : Env1 → Sto → R M := fun e S => (fa e S).bind fun x S1 => (fb e S1).bind fun y S2 => (lift ((o1 x y S2).bind asB) S2).bind fun k S3 =>
  if k then (fc e S3).bind fun z S4 => lift (o2 y z S4) S4 else .ok (.d (.bool false)) S3
theorem tM_chain {ra rb : R2} {o1 o2 : M → M → Sto → Option M} (q1 : Snd2 X.K g ra o1) (q2 : Snd2 X.K g rb o2) (s : L2.St) (H : Hp) (Q : VK) (h : tM X.K g W (eChain o1 o2 fa fb fc) s H Q) : tChain ra rb (tM X.K g W fa) (tM X.K g W fb) (tM X.K g W fc) s H Q := by
  obtain ⟨ph, r, S, e, so, ev, h⟩ := h
  unfold tChain
  refine tG.bind so ev h fun m v S1 r1 H1 x1 so1 ev1 m1 h1 => ?_
  refine tG.bind so1 ev1 h1 fun m' v' S2 r2 H2 x2 so2 ev2 m2 h2' => ?_
  cases q : o1 m m' S2 with
  | none => rw [q] at h2'; exact h2'.elim
  | some z =>
    rw [q] at h2'
    refine q1 ph r2 S2 H2 m m' z v v' _ so2 (Mv.mono x2 m1) m2 q fun r3 H3 w x3 so3 m3 => ?_
    cases z with
    | d z =>
      cases z with
      | bool k =>
        cases m3
        refine ⟨k, rfl, ?_⟩
        have h3 := Post.mono x3 h2'
        cases k with
        | false => exact h3 r3 H3 _ (.refl _ _) so3 (.bl _)
        | true =>
          rw [if_pos rfl]
          refine tG.bind so3 (ev2.mono x3) h3 fun m4 v4 S4 r4 H4 x4 so4 ev4 m4' h4 => ?_
          cases q3 : o2 m' m4 S4 with
          | none => rw [q3] at h4; exact h4.elim
          | some z2 =>
            rw [q3] at h4
            exact q2 ph r4 S4 H4 m' m4 z2 v' v4 Q so4 (Mv.mono (x3.trans x4) m2) m4' q3 h4
      | _ => exact h2'.elim
    | _ => exact h2'.elim
theorem me_chain {op op' : CmpOp} {r1 r2 : R2} {o1 o2 : M → M → Sto → Option M} (ho : OpR X (compareOp op) r1) (ho' : OpR X (compareOp op') r2) (h1 : Snd2 X.K g r1 o1) (h2 : Snd2 X.K g r2 o2) (ha : ME X g W a fa) (hb : ME X g W b fb) (hc : ME X g W c fc)
    (hm : lastMarks [op, op'] [b, c] = false := by with_unfolding_all rfl) : ME X g W (.Compare a [op, op'] [b, c] pos) (eChain o1 o2 fa fb fc) := PE.of (pe_chain ho ho' ha hb hc hm) (tM_chain h1 h2)
/-- a test of a value that is True or False -/
theorem tB_test (s : L2.St) (H : Hp) (Q : Bool → Hp → Prop) (h : tMT X.K g W (tB fa) s H Q) : tTest (tM X.K g W fa) s H Q := by
  obtain ⟨ph, r, S, e, so, ev, h⟩ := h
  unfold tTest
  refine tG.bind so ev h fun m v S1 r1 H1 x1 so1 ev1 m1 h1 => ?_
  cases m with
  | d x =>
    cases x with
    | bool k =>
      cases m1
      exact ⟨k, rfl, h1 r1 H1 k (.refl _ _) so1 rfl⟩
    | _ => exact h1.elim
  | _ => exact h1.elim
theorem mt_chain {op op' : CmpOp} {r1 r2 : R2} {o1 o2 : M → M → Sto → Option M} (ho : OpR X (compareOp op) r1) (ho' : OpR X (compareOp op') r2) (h1 : Snd2 X.K g r1 o1) (h2 : Snd2 X.K g r2 o2) (ha : ME X g W a fa) (hb : ME X g W b fb) (hc : ME X g W c fc)
    (hm : lastMarks [op, op'] [b, c] = false := by with_unfolding_all rfl) : MT X g W (.Compare a [op, op'] [b, c] pos) (tB (eChain o1 o2 fa fb fc)) := by
  refine PT.of (pt_chain ho ho' ha hb hc hm) fun s H Q h => ?_
  obtain ⟨ph, r, S, e, so, ev, h⟩ := tB_test s H Q h
  exact tM_chain h1 h2 s H _ ⟨ph, r, S, e, so, ev, h⟩

/-! ### several and, or -/
theorem me_one {op : _} (ha : ME X g W a fa) : ME X g W (.BoolOp op [a] pos) fa := pe_one ha
theorem me_andc {rest : List Expr} (ha : ME X g W a fa) (hb : ME X g W (.BoolOp .And (b :: rest) pos) fb) : ME X g W (.BoolOp .And (a :: b :: rest) pos) (eAndM fa fb) := by
  refine PE.of (pe_and ha hb) fun s H Q h => ?_
  obtain ⟨ph, r, S, e, so, ev, h⟩ := h
  refine tB_ev so ev h fun k S1 r1 H1 x1 so1 ev1 h1 => ⟨k, rfl, ?_⟩
  cases k with
  | true => exact ⟨ph, r1, S1, e, so1, ev1, h1⟩
  | false => exact h1 r1 H1 _ (.refl _ _) so1 (.bl _)
theorem me_orc {rest : List Expr} (ha : ME X g W a fa) (hb : ME X g W (.BoolOp .Or (b :: rest) pos) fb) : ME X g W (.BoolOp .Or (a :: b :: rest) pos) (eOrM fa fb) := by
  refine PE.of (pe_or ha hb) fun s H Q h => ?_
  obtain ⟨ph, r, S, e, so, ev, h⟩ := h
  refine tB_ev so ev h fun k S1 r1 H1 x1 so1 ev1 h1 => ⟨k, rfl, ?_⟩
  cases k with
  | true => exact h1 r1 H1 _ (.refl _ _) so1 (.bl _)
  | false => exact ⟨ph, r1, S1, e, so1, ev1, h1⟩

/-! ### a, b = x, y -/
def sPar (i j : Nat) (fs : Env1 → Sto → R (List M)) : Env1 → Sto → Out := fun e S => (fs e S).toS e fun ms S1 => match ms with
  | [m1, m2] => .nx ((e.set i (some m1)).set j (some m2)) S1
  | _ => .bad
theorem ms_par (i j : Nat) {x y : Str} {fs : Env1 → Sto → R (List M)} {px py pt : Pos} {kt k2 : Nat} {pt2 : Pos} (hc : X.calm = true) (hN : X.N.Nodup) (ha : MA X g W [a, b] fs) (hi : X.N[i]? = some x := by rfl) (hj : X.N[j]? = some y := by rfl) (hij : i ≠ j := by decide)
    (hx : X.env.scope.names.lookup x = some .local := by rfl) (hy : X.env.scope.names.lookup y = some .local := by rfl)
    (hw : swappedStores [.Tuple [.Name x px, .Name y py] kt pt] (.Tuple [a, b] k2 pt2) X.env = pure (some [x, y]) := by rfl)
    (hs : swapsWithSole [.Tuple [.Name x px, .Name y py] kt pt] (.Tuple [a, b] k2 pt2) pos.line X.env = pure false := by rfl) :
    MS X g W (.Assign [.Tuple [.Name x px, .Name y py] kt pt] (.Tuple [a, b] k2 pt2) pos) (sPar i j fs) := by
  refine PS.of (ps_par hc hN hi hj hij hx hy ha hw hs) fun D s H h => ?_
  obtain ⟨ph, r, S, e, so, ev, h⟩ := h
  refine tG.bindS so ev h fun ms vs S1 r1 H1 x1 so1 ev1 m1 h1 => ?_
  cases m1 with
  | nil => exact h1.elim
  | cons p1 t =>
    cases t with
    | nil => exact h1.elim
    | cons p2 t =>
      cases t with
      | nil => exact ⟨_, _, rfl, h1 r1 H1 _ (.refl _ _) so1 ((ev1.set i p1).set j p2)⟩
      | cons => exact h1.elim

/-! ### == and != of texts, too -/
def opEqU (x y : M) (S : Sto) : Option M := match x, y with
  | .d (.str a), .d (.str b) => some (.d (.bool (decide (a = b))))
  | _, _ => opEq x y S
def opNeU (x y : M) (S : Sto) : Option M := match x, y with
  | .d (.str a), .d (.str b) => some (.d (.bool (!decide (a = b))))
  | _, _ => opNe x y S
abbrev rrEq (K : PySem.W.Frag) : R2 := fun x y H Q => rEq x y H Q ∨ rEqD K x y H Q
abbrev rrNe (K : PySem.W.Frag) : R2 := fun x y H Q => rNe x y H Q ∨ rNeD K x y H Q
theorem o_eq (hu : X.A.units + 64 < cLine) : OpR X (compareOp .Eq) (rrEq X.K) := op_eq.or (op_eqD hu)
theorem o_ne (hu : X.A.units + 64 < cLine) : OpR X (compareOp .NotEq) (rrNe X.K) := op_ne.or (op_neD hu)
theorem dec_strV {i j : Str} : decide (V.str i = V.str j) = decide (i = j) := by
  by_cases h : i = j
  · subst h; simp
  · rw [decide_eq_false h, decide_eq_false (fun z => h (V.str.inj z))]
theorem s_eqU {K : PySem.W.Frag} : Snd2 K g (rrEq K) opEqU := by
  intro ph r S H m1 m2 m v1 v2 Q so a1 a2 h k
  unfold opEqU at h
  split at h
  · cases h; cases a1; cases a2
    refine .inl ⟨rfl, ?_⟩
    rw [dec_strV]
    exact k r H _ (.refl _ _) so (.bl _)
  · exact .inr (s_eq ph r S H _ _ m v1 v2 Q so a1 a2 h k)
theorem s_neU {K : PySem.W.Frag} : Snd2 K g (rrNe K) opNeU := by
  intro ph r S H m1 m2 m v1 v2 Q so a1 a2 h k
  unfold opNeU at h
  split at h
  · cases h; cases a1; cases a2
    refine .inl ⟨rfl, ?_⟩
    rw [dec_strV]
    exact k r H _ (.refl _ _) so (.bl _)
  · exact .inr (s_ne ph r S H _ _ m v1 v2 Q so a1 a2 h k)
end
end Mr

end
section
set_option maxRecDepth 100000
set_option maxHeartbeats 2000000
set_option autoImplicit false
namespace Mr
open PySem PySem.Spec L2 MrT
open PyProof.Rows hiding St
/-! ### the end: the law's def, called with the script -/
theorem ints_dr {K : PySem.W.Frag} {B : List Addr} {H : Hp} : ∀ ns : List Int, DrAll K B H (ns.map V.int) (ns.map PyData.int)
  | [] => .nil
  | n :: ns => .cons (.int n) (ints_dr ns)
/-- the mirror of the law's def tells True of the script ns -/
def LawTrue (fm : List M → Sto → R M) (ns : List Int) : Prop := ∃ S', fm [.ro (ns.map .int)] [] = .ok (.d (.bool true)) S'
theorem law_start {K : PySem.W.Frag} {g : Cfg} {H : Hp} {a : Addr} {ns : List Int} {fm : List M → Sto → R M} (h : LawTrue fm ns) (hC : g.C = []) (hk : g.kp = []) (hT : ∀ p ∈ g.T, H p.1 = some (.tbl #[])) (hS : (∃ o, H a = some (.frz o (.lst (ns.map V.int)))) ∨ KL K a (ns.map V.int)) :
    spM K g 1 fm [.ref a] H (fun v _ => v = .bl true) fun _ _ _ => False := by
  obtain ⟨S', e⟩ := h
  refine ⟨[], [], [], [.ro (ns.map .int)], rfl, ⟨rfl, List.nodup_nil, fun _ h => by simp at h, fun _ h => by simp at h, fun n o h => by simp at h, ⟨fun p hp => .nil (hT p hp), fun p hp => by rw [hC] at hp; simp at hp⟩, fun p hp => by rw [hk] at hp; simp at hp⟩, .cons ⟨a, _, rfl, hS.imp (fun ⟨o, h⟩ => ⟨o, h, by simp⟩) id, ints_dr ns⟩ .nil, ?_⟩
  rw [e]
  intro r' H' v x so mv
  cases mv
  rfl
theorem law_callG {P : Program} {w : World} {K : PySem.W.Frag} {mg mb : Str → Option Value} {g : Cfg} {k : Nat} {fa a : Addr} {cs : List (Addr × Addr)} {fd : FuncData} {x : Str} {fm : List M → Sto → R M} {s1 : Shared} {vs : List Value} {ns : List Int}
    (KX : K.In s1.heap) (hns : s1.heap.Ns mainGlobals mg) (hb : s1.heap.Ns builtinsNs mb) (hbb : ∀ x : Str, x ≠ "__name__" → mb x = bootBuiltins x) (hlim : s1.heap.NoLimit) (hg : s1.gens = #[])
    (hT : ∀ p ∈ cs, s1.heap.get? p.2 = some { cls := .none, data := .fields #[] }) (nT : ∀ p ∈ cs, K.lookup p.2 = none) (hC : ∀ p ∈ cs, PySem.W.CodeHd s1.heap p.1 p.2)
    (hbm : ∃ (bm : Addr) (ob : Obj), mg "__builtins__" = some (.ref bm) ∧ bm ≠ builtinsNs ∧ s1.heap.get? bm = some ob ∧ ob.cls = .type "module" ∧ ob.dict = some builtinsNs ∧ ob.data = .plain)
    (ha : s1.heap.get? a = some { cls := .type "list", data := .seq vs.toArray }) (hi : IntsAre vs ns) (hl : ns.length ≤ sizeLine) (hr : Room k callerA)
    (F : ∀ base : Heap, K.In base → base.Ns mainGlobals mg → (∃ o, base.get? sysModules = some o) → (∀ p ∈ cs, LamX.TabB base mg p.1 p.2) → FnG true P w K mg base k fa fd [x] (spM K g 1 fm)) (hsys : ∃ mm, s1.heap.Ns sysModules mm) (hbind : ∀ (s : Shared) (u : Value), BindsTo s fd ⟨[u], []⟩ [(x, u)])
    (gC : g.C = []) (gk : g.kp = []) (gT : ∀ p ∈ g.T, ∃ q ∈ cs, q.2 = p.1) (hL : LawTrue fm ns) :
    codeAny (model P w) callerA (.call (.ref fa) ⟨[.ref a], []⟩) (fun r s' => r = .ok (.ret (.bool true)) ∧ OldK s1.heap s'.heap ∧ s'.os = s1.os ∧ AllBare s'.gens) s1 := by
  have rv := vals_ints hi
  have lenV := hi.length
  have isT : ∀ b : Addr, b ∈ cs.map (·.2) → s1.heap.get? b = some { cls := .none, data := .fields #[] } := fun b hb => by
    obtain ⟨p, hp, e⟩ := List.mem_map.mp hb
    rw [← e]
    exact hT p hp
  have aT : a ∉ cs.map (·.2) := fun z => by
    have q := isT a z
    rw [ha] at q
    have z2 : Data.seq vs.toArray _ = Data.fields #[] := congrArg Obj.data (Option.some.inj q)
    cases z2
  have memT : ∀ p ∈ cs, p.2 ∈ cs.map (·.2) := fun p hp => List.mem_map.mpr ⟨p, hp, rfl⟩
  have core : ∀ H : Hp, (∀ p ∈ cs, H p.2 = some (.tbl #[])) → (∀ b, H b = none ∨ b ∈ cs.map (·.2) ∨ ∃ o xs, H b = some (.frz o (.lst xs))) → ((∃ o, H a = some (.frz o (.lst (ns.map V.int)))) ∨ KL K a (ns.map V.int)) → HOk P w H s1.heap → (∀ b, H b ≠ none → b = a ∨ b ∈ cs.map (·.2)) → (H a ≠ none → K.lookup a = none) →
      codeAny (model P w) callerA (.call (.ref fa) ⟨[.ref a], []⟩) (fun r s' => r = .ok (.ret (.bool true)) ∧ OldK s1.heap s'.heap ∧ s'.os = s1.os ∧ AllBare s'.gens) s1 := by
    intro H hH hO hS hok hA hK
    have based : ∀ {b : Addr} {o : Obj}, s1.heap.get? b = some o → H b = none → (hidT s1.heap H).get? b = some o := fun e n => hidT_get e n
    have noD : ∀ {b : Addr} {o : Obj}, s1.heap.get? b = some o → (∀ vs n, o.data ≠ .seq vs n) → o.data ≠ .fields #[] → H b = none := fun {b o} e h1 h2 => by
      cases q : H b with
      | none => rfl
      | some u =>
        rcases hA b (by rw [q]; simp) with z | z
        · rw [z, ha] at e
          cases e
          exact (h1 _ _ rfl).elim
        · rw [isT b z] at e
          cases e
          exact (h2 rfl).elim
    have noA : ∀ {b : Addr} {o : Obj} {es : Array DictEntry} {ep : Nat}, s1.heap.get? b = some o → o.data = .dict es ep → H b = none := fun {b o es ep} e d => noD e (fun vs n z => by rw [d] at z; cases z) fun z => by rw [d] at z; cases z
    have nsK : ∀ {b : Addr} {m : Str → Option Value}, s1.heap.Ns b m → (hidT s1.heap H).Ns b m := fun {b m} ⟨o, es, ep, e, d, r⟩ => ⟨o, es, ep, based e (noA e d), d, r⟩
    have hKn : ∀ b o, K.lookup b = some o → H b = none := fun b o e => by
      cases q : H b with
      | none => rfl
      | some u =>
        rcases hA b (by rw [q]; simp) with z | z
        · rw [z] at e q
          rw [hK (by rw [q]; simp)] at e
          cases e
        · obtain ⟨p, hp, ep⟩ := List.mem_map.mp z
          rw [← ep, nT p hp] at e
          cases e
    have hKb : K.In (hidT s1.heap H) := fun b o e => based (KX b o e) (hKn b o e)
    have hM : L2.Mod K mg (hidT s1.heap H) := ⟨hKb, nsK hns, ⟨mb, nsK hb, hbb⟩, let ⟨mc, h1, h2⟩ := hlim; ⟨mc, nsK h1, h2⟩⟩
    have tbB : ∀ p ∈ cs, LamX.TabB (hidT s1.heap H) mg p.1 p.2 := fun p hp => by
      have hTp := hT p hp
      refine ⟨?_, ?_, fun z => ?_⟩
      · obtain ⟨o, us, file, tf, flags, tg, inF, text, tt, c1, c2, c3, c4, c5, c6, c7, c8, c9, hne⟩ := hC p hp
        refine ⟨o, us, file, tf, flags, tg, inF, text, tt, based c1 (noD c1 (fun vs n z => by rw [c3] at z; cases z) fun z => ?_), c2, c3, c4, c5, c6, c7, c8, c9, hne⟩
        rw [c3] at z
        cases z
        simp at c4
      · obtain ⟨bm, ob, b1, b2, b3, b4, b5, b6⟩ := hbm
        have nG : bm ≠ mainGlobals := fun q => by
          obtain ⟨o, es, ep, e, hd, _⟩ := hns
          rw [q, e] at b3
          cases b3
          rw [hd] at b6
          cases b6
        have nP : bm ≠ p.2 := fun q => by
          rw [q, hTp] at b3
          cases b3
          cases b6
        exact ⟨bm, ob, b1, b2, nG, nP, based b3 (noD b3 (fun vs n z => by rw [b6] at z; cases z) fun z => by rw [b6] at z; cases z), b4, b5, b6⟩
      · obtain ⟨o, es, ep, e, hd, _⟩ := hns
        rw [z, hTp] at e
        cases e
        cases hd
    have e0 : Env0 P w K mg (hidT s1.heap H) callerA [] s1 H := ⟨rfl, hM, fun b o e => of_hidT e, Nat.le_of_eq (hidT_size _ _), trivial, fun b hb => absurd (show b ∈ ([] : List Addr) from hb) (by simp), hok, .of_eq hg⟩
    have sys : ∃ o, (hidT s1.heap H).get? sysModules = some o := by
      obtain ⟨mm, hm⟩ := hsys
      obtain ⟨o, es, ep, e, _⟩ := nsK hm
      exact ⟨o, e⟩
    have sp := law_start (K := K) (g := g) (H := H) (a := a) hL gC gk (fun p hp => by
      obtain ⟨q, hq, e⟩ := gT p hp
      rw [← e]
      exact hH q hq) hS
    refine codeAny_mono ((F _ hKb (nsK hns) sys tbB).run callerA [] s1 H ⟨[.ref a], []⟩ [.ref a] [.ref a] _ _ hr (fun _ => rfl) e0 (hbind s1 (.ref a)) (.cons rfl .nil) sp) fun r s' h => ?_
    cases r with
    | error e =>
      obtain ⟨_, _, _, _, _, _, _, _, _, _, _, _, z⟩ := h
      exact z.elim
    | ok fl =>
      cases fl with
      | next => exact False.elim h
      | brk => exact False.elim h
      | cont => exact False.elim h
      | ret u =>
        obtain ⟨v, H', os, bare, un, hok2, ru, q⟩ := h
        have q : v = .bl true := q
        subst q
        obtain rfl : u = Value.bool true := ru
        have same : ∀ b o, b ∉ cs.map (·.2) → s1.heap.get? b = some o → s'.heap.get? b = some o := fun b o nb e => by
          cases q : H b with
          | none => exact un.keep b o e q (by intro z; exact absurd (show b ∈ ([] : List Addr) from z) (by simp)) (by simp)
          | some u =>
            rcases hO b with z | z | ⟨ob, xs, z⟩
            · rw [q] at z
              cases z
            · exact absurd z nb
            · obtain ⟨e1, _⟩ := hok b _ z
              obtain ⟨e2, _⟩ := hok2 b _ (un.frzs b ob _ z)
              rw [e] at e1
              cases e1
              exact e2
        have grew : ∀ p ∈ cs, ∃ more : Array Value, s'.heap.get? p.2 = some { cls := .none, data := .fields more } := fun p hp => by
          obtain ⟨more, z⟩ := un.tbls p.2 #[] (hH p hp)
          exact ⟨_, hok2 p.2 _ z⟩
        refine ⟨rfl, ⟨fun b o e => ?_, fun b o e => ?_⟩, os, bare⟩
        · by_cases hb : b ∈ cs.map (·.2)
          · obtain ⟨p, hp, ep⟩ := List.mem_map.mp hb
            obtain ⟨more, hm⟩ := grew p hp
            rw [← ep] at e ⊢
            rw [hT p hp] at e
            cases e
            exact .inr (.inl ⟨((hC p hp).tab (hT p hp)).isCodeTable, rfl, #[], more, rfl, by rw [Array.empty_append]; exact hm⟩)
          · exact .inl (same b o hb e)
        · by_cases hb : b ∈ cs.map (·.2)
          · obtain ⟨p, hp, ep⟩ := List.mem_map.mp hb
            obtain ⟨more, hm⟩ := grew p hp
            rw [← ep]
            exact ⟨_, hm⟩
          · exact ⟨o, same b o hb e⟩
  cases hk : K.lookup a with
  | some o =>
    have e := KX a o hk
    rw [ha] at e
    cases e
    refine core (fun b => if b ∈ cs.map (·.2) then some (.tbl #[]) else none) (fun p hp => if_pos (memT p hp)) (fun b => ?_) (.inr ⟨_, vs.toArray, _, hk, rfl, rfl, rfl, by rw [List.size_toArray, lenV]; exact hl, by simpa using rv⟩) (fun b u z => ?_) (fun b z => ?_) fun z => absurd (show (if a ∈ cs.map (·.2) then some (HO.tbl #[]) else none) = none from if_neg aT) z
    · by_cases hb : b ∈ cs.map (·.2)
      · exact .inr (.inl hb)
      · exact .inl (if_neg hb)
    · by_cases hb : b ∈ cs.map (·.2)
      · have z2 := (if_pos hb).symm.trans z
        cases z2
        exact isT b hb
      · have z2 := (if_neg hb).symm.trans z
        cases z2
    · by_cases hb : b ∈ cs.map (·.2)
      · exact .inr hb
      · exact absurd (if_neg hb) z
  | none =>
    refine core (fun b => if b = a then some (.frz { cls := .type "list", data := .seq vs.toArray } (.lst (ns.map V.int))) else if b ∈ cs.map (·.2) then some (.tbl #[]) else none) (fun p hp => (if_neg (show ¬ p.2 = a from fun z => aT (by rw [← z]; exact memT p hp))).trans (if_pos (memT p hp))) (fun b => ?_)
      (.inl ⟨{ cls := .type "list", data := .seq vs.toArray }, if_pos rfl⟩) (fun b u z => ?_) (fun b z => ?_) fun _ => hk
    · by_cases hb : b = a
      · exact .inr (.inr ⟨_, _, if_pos hb⟩)
      · by_cases hb2 : b ∈ cs.map (·.2)
        · exact .inr (.inl hb2)
        · exact .inl ((if_neg hb).trans (if_neg hb2))
    · by_cases hb : b = a
      · have z2 := (if_pos hb).symm.trans z
        cases z2
        rw [hb]
        exact ⟨ha, by rw [List.length_map]; exact hl, vs, _, rv, ha⟩
      · have z1 := (if_neg hb).symm.trans z
        by_cases hb2 : b ∈ cs.map (·.2)
        · have z2 := (if_pos hb2).symm.trans z1
          cases z2
          exact isT b hb2
        · have z2 := (if_neg hb2).symm.trans z1
          cases z2
    · by_cases hb : b = a
      · exact .inl hb
      · by_cases hb2 : b ∈ cs.map (·.2)
        · exact .inr hb2
        · exact absurd ((if_neg hb).trans (if_neg hb2)) z
/-- what is known of the law's def at the head's heap h -/
def LawAtG (l : PySem.W.OpenLaw) (w : World) (K : PySem.W.Frag) (k n : Nat) (x : Str) (mg : Str → Option Value) (fa : Addr) (h : Heap) : Prop :=
  ∃ (fd : FuncData) (cs : List (Addr × Addr)) (g : Cfg) (fm : List M → Sto → R M), (∀ p ∈ cs, h.get? p.2 = some { cls := .none, data := .fields #[] }) ∧ (∀ p ∈ cs, K.lookup p.2 = none) ∧ (∀ p ∈ cs, PySem.W.CodeHd h p.1 p.2) ∧ (∀ (s : Shared) (u : Value), BindsTo s fd ⟨[u], []⟩ [(x, u)]) ∧
    g.C = [] ∧ g.kp = [] ∧ (∀ p ∈ g.T, ∃ q ∈ cs, q.2 = p.1) ∧ (∀ ns : List Int, ns.length ≤ n → (∀ z ∈ ns, Builtin.Int.intBits z ≤ 1048576) → LawTrue fm ns) ∧
    ∀ base : Heap, K.In base → base.Ns mainGlobals mg → (∃ o, base.get? sysModules = some o) → (∀ p ∈ cs, LamX.TabB base mg p.1 p.2) → FnG true l.prog w K mg base k fa fd [x] (spM K g 1 fm)
theorem walk_G {l : PySem.W.OpenLaw} {n k : Nat} {q : Program} {loose : List Str} {XP : (Str → Option Value) → Heap → Prop} {YP : World → Heap → Prop} {d : DefRec} {K : Params → PySem.W.Frag} {x : Str}
    (hn : l.most = some n) (hn2 : n ≤ sizeLine) (hdf : d.params.defaults = []) (hr : Room k callerA) (hY : ∀ (w : World) (h : Heap), YP w h → (K w.params).In h) (him : importsNone q = true)
    (F : ∀ (w : World) (mg : Str → Option Value) (fa : Addr) (h : Heap), YP w h → (K w.params).In h → h.Ns mainGlobals mg → mg d.name = some (.ref fa) → LawAtG l w (K w.params) k n x mg fa h) :
    PySem.W.WalkO q loose XP YP l.row.toRowW d [] (fun f vs => PySem.call f vs) := by
  refine Att.attach_callB hn hdf fun w s0 s1 mg mb fa o pm cd doc a vs ns G Y ho hd hcd hmg hobj hints hlen hbits hg => ?_
  have KX := hY w _ Y
  obtain ⟨fd, cs, g, fm, hT, nT, C, hb, gC, gk, gT, hsp, hF⟩ := F w mg fa _ Y KX G.T.g hmg
  exact law_callG KX G.T.g G.T.b G.T.builtins G.T.nolimit hg hT nT C G.T.bmain hobj hints (Nat.le_trans hlen hn2) hr hF (let ⟨mm, hm, _⟩ := (G.T.seer him).mods; ⟨mm, hm⟩) hb gC gk gT (hsp ns hlen hbits)
end Mr

end
section
set_option maxRecDepth 100000
set_option autoImplicit false
namespace Mr
open PySem PySem.Spec L2 MrT
open PyProof.Rows hiding St
/-! ### a module's defs, packed -/
/-- what the written part and the heap behind it give -/
structure Md (w : World) (K : PySem.W.Frag) (mg : Str → Option Value) (base : Heap) (g : Cfg) (cl : Nat → Addr) : Prop where
  kin : K.In base
  ns : base.Ns mainGlobals mg
  sys : ∃ o, base.get? sysModules = some o
  gw : w = g.w
  ex : g.ex = none
  cls : g.cl = cl
section
variable {gd : Bool} {P : Program} {w : World} {K : PySem.W.Frag} {mg : Str → Option Value} {base : Heap} {g : Cfg} {k : Nat} {cl : Nat → Addr}
theorem Md.at_ (m : Md w K mg base g cl) {x : Str} {v : Value} (e : PySem.W.nsIn K mainGlobals x = some (some v)) : mg x = some v := PySem.W.mg_of m.kin m.ns e
theorem Md.no (m : Md w K mg base g cl) {x : Str} (e : PySem.W.nsIn K mainGlobals x = some none) : mg x = none := PySem.W.mg_none_of m.kin m.ns e
/-- the def x, at f, keeps what the mirror fm of n values tells -/
structure Dn (gd : Bool) (P : Program) (w : World) (K : PySem.W.Frag) (mg : Str → Option Value) (base : Heap) (g : Cfg) (k : Nat) (x : Str) (st : Stmt) (ps : List Str) (fm : List M → Sto → R M) : Prop where
  ex : ∃ (f : Addr) (fd : FuncData), FnG gd P w K mg base k f fd ps (spM K g ps.length fm) ∧ mg x = some (.ref f) ∧ PySem.W.keepIn K (.ref f) = true ∧ L2.Binds K fd ps [] ∧
    ∃ (kV doc pm : Value) (an : Option Addr) (cdv ct : Value), fd = PySem.W.fnOf x x (defArgs st) (defBody st) (defScope st) .none kV doc pm an cdv ct
theorem Dn.mono {j : Nat} {x : Str} {st : Stmt} {ps : List Str} {fm : List M → Sto → R M} (D : Dn gd P w K mg base g j x st ps fm) (h : j ≤ k) : Dn gd P w K mg base g k x st ps fm := by
  obtain ⟨f, fd, F, r⟩ := D.ex
  exact ⟨f, fd, F.mono h, r⟩
/-- a def by its body -/
theorem dn_mk {x : Str} {st : Stmt} {f : Addr} {fd : FuncData} {N ps : List Str} {body : Env1 → Sto → Out} (m : Md w K mg base g cl) (F : L2.Fun K x x st f fd) (a : PySem.W.nsIn K mainGlobals x = some (some (.ref f))) (S : FnScope N ps (defScope st))
    (hb : ∀ (kV doc pm : Value) (an : Option Addr) (cdv ct : Value) (us : List Value), us.length = ps.length → bindArgs (PySem.W.fnOf x x (defArgs st) (defBody st) (defScope st) .none kV doc pm an cdv ct) ⟨us, []⟩ = pure (ps.zip us))
    (hbody : ∀ (cdv : Value) (A : Around) (fr : List Env) (s : Shared) (H : Hp) (E : XK), Room k (A.deeper (envOfC x (defScope st) s.heap.objs.size f cdv)) → (gd = true → (A.deeper (envOfC x (defScope st) s.heap.objs.size f cdv)).guards = some []) →
      MSs (cxOf (L2.CX P w) P w K mg base N x (defScope st) f cdv A fr s H E) g (fun c d _ H' => E c d H') (defBody st) body) : Dn gd P w K mg base g (k + 1) x st ps (fnM N.length body) := by
  have mx := m.at_ a
  refine ⟨f, fd, fn_ok F S (spM_len rfl) fun cdv A fr s H vs Q E hr hG h => ⟨_, hbody cdv A fr s H E hr hG, body_of h⟩, mx, F.kp, F.binds hb, ?_⟩
  obtain ⟨oc, od, kV, doc, pm, an, cdv, ct, osl, e, _⟩ := F.ex
  exact ⟨kV, doc, pm, an, cdv, ct, e⟩
/-- .. where the code object is told -/
theorem dn_mkC {x : Str} {st : Stmt} {f c : Addr} {N ps : List Str} {body : Env1 → Sto → Out} {oc : Value} {od an : Option Addr} {osl : Array (Option Value)} {kV doc pm ct : Value} (m : Md w K mg base g cl)
    (lk : K.lookup f = some ⟨oc, od, .func (PySem.W.fnOf x x (defArgs st) (defBody st) (defScope st) .none kV doc pm an (.ref c) ct), osl⟩) (hcd : PySem.W.codeIn K (.ref c) x = true) (hk : PySem.W.keepIn K (.ref f) = true) (a : PySem.W.nsIn K mainGlobals x = some (some (.ref f))) (S : FnScope N ps (defScope st))
    (hb : ∀ (kV doc pm : Value) (an : Option Addr) (cdv ct : Value) (us : List Value), us.length = ps.length → bindArgs (PySem.W.fnOf x x (defArgs st) (defBody st) (defScope st) .none kV doc pm an cdv ct) ⟨us, []⟩ = pure (ps.zip us))
    (hbody : ∀ (A : Around) (fr : List Env) (s : Shared) (H : Hp) (E : XK), Room k (A.deeper (envOfC x (defScope st) s.heap.objs.size f (.ref c))) → (gd = true → (A.deeper (envOfC x (defScope st) s.heap.objs.size f (.ref c))).guards = some []) →
      MSs (cxOf (L2.CX P w) P w K mg base N x (defScope st) f (.ref c) A fr s H E) g (fun c d _ H' => E c d H') (defBody st) body) : Dn gd P w K mg base g (k + 1) x st ps (fnM N.length body) := by
  refine ⟨f, _, ⟨spM_len rfl, fun A fr s H args us vs Q E hr hG e0 hb2 r hsp => ?_⟩, m.at_ a, hk, .all (hb kV doc pm an (.ref c) ct), ⟨kV, doc, pm, an, .ref c, ct, rfl⟩⟩
  exact LamX.run_ofS lk hcd S hr e0 hb2 r (spM_len rfl _ _ _ _ hsp) fun hr' => ⟨_, hbody A fr s H E hr' (deeper_guards hG), body_of hsp⟩
/-- a def of which nothing is told -/
theorem dn_bad {x : Str} {st : Stmt} {f : Addr} {fd : FuncData} {ps : List Str} (m : Md w K mg base g cl) (F : L2.Fun K x x st f fd) (a : PySem.W.nsIn K mainGlobals x = some (some (.ref f)))
    (hb : ∀ (kV doc pm : Value) (an : Option Addr) (cdv ct : Value) (us : List Value), us.length = ps.length → bindArgs (PySem.W.fnOf x x (defArgs st) (defBody st) (defScope st) .none kV doc pm an cdv ct) ⟨us, []⟩ = pure (ps.zip us)) : Dn gd P w K mg base g k x st ps (fun _ _ => .bad) := by
  refine ⟨f, fd, ⟨spM_len rfl, fun A fr s H args us vs Q E hr hG e0 hb2 r hsp => ?_⟩, m.at_ a, F.kp, F.binds hb, ?_⟩
  · obtain ⟨_, _, _, _, _, _, _, z⟩ := hsp
    exact z.elim
  · obtain ⟨oc, od, kV, doc, pm, an, cdv, ct, osl, e, _⟩ := F.ex
    exact ⟨kV, doc, pm, an, cdv, ct, e⟩
end
section
variable {gd : Bool} {X : Cx} {g : Cfg} {W : WX} {pos p : Pos} {x : Str} {st : Stmt} {ps : List Str} {j k : Nat} {fm : List M → Sto → R M} {a : Expr} {es : List Expr} {fs : Env1 → Sto → R (List M)}
theorem me_callD (D : Dn gd X.prog X.w X.K X.mg X.base g j x st ps fm) (hr : Room k X.A) (hj : j ≤ k) (hG : gd = true → X.A.guards = some []) (tk : Takes X W) (ha : MA X g W (a :: es) fs) (hn : (a :: es).length = ps.length) (hl : ∀ e S ms S', fs e S = .ok ms S' → ms.length = (a :: es).length)
    (hg : Gl X x := by rfl) (hdb : (x == ("__debug__" : Str)) = false := by decide) (he : starEach (a :: es) X.env = (false, eval a X.env) :: starEach es X.env := by rfl) (hpl : (backTo pos (starEach es X.env)).any (·.1) = false := by rfl) :
    ME X g W (.Call (.Name x p) (a :: es) [] pos) (eCall fm fs) := by
  obtain ⟨f, fd, F, hm, hk, hb, _⟩ := D.ex
  exact me_call F (hr.mono hj) hG tk hm hk hb ha hn hl hg hdb he hpl
theorem me_callKD {kws : List Keyword} (ks : List Str) (perm : List Nat) {fk : Env1 → Sto → R (List M)} (D : Dn gd X.prog X.w X.K X.mg X.base g j x st ps fm) (hr : Room k X.A) (hj : j ≤ k) (hG : gd = true → X.A.guards = some []) (tk : Takes X W)
    (hb : ∀ (kV doc pm : Value) (an : Option Addr) (cdv ct : Value), KBind (PySem.W.fnOf x x (defArgs st) (defBody st) (defScope st) .none kV doc pm an cdv ct) ps ks 0 perm) (ha : MK X g W kws fk) (hn : perm.length = ps.length) (hl : ∀ e S ms S', fk e S = .ok ms S' → ms.length = ks.length)
    (hall : (backToKw pos (keywordEach kws X.env)).all (·.1.isSome) = true := by rfl) (hks : (backToKw pos (keywordEach kws X.env)).filterMap (·.1) = ks := by rfl)
    (hg : Gl X x := by rfl) (hdb : (x == ("__debug__" : Str)) = false := by decide) (hpl : ((backTo pos (starEach [] X.env)).any (·.1) || (backToKw pos (keywordEach kws X.env)).any (·.1.isNone)) = false := by rfl) :
    ME X g W (.Call (.Name x p) [] kws pos) (eCallK perm fm fk) := by
  obtain ⟨f, fd, F, hm, hk, _, kV, doc, pm, an, cdv, ct, rfl⟩ := D.ex
  exact me_callK F (hr.mono hj) hG tk hm hk (hb kV doc pm an cdv ct) ha hn hl hall hks hg hdb hpl
end
theorem kb_of1 {fd : FuncData} {ps : List Str} {k1 : Str} {perm : List Nat} (h : ∀ (s : Shared) (a : Value), BindsTo s fd ⟨[], [(k1, a)]⟩ (ps.zip (permL .none perm [a]))) : KBind fd ps [k1] 0 perm := by
  intro s us ws h1 h2
  cases us with
  | cons _ _ => simp at h1
  | nil =>
    cases ws with
    | nil => simp at h2
    | cons a ws =>
      cases ws with
      | nil => exact h s a
      | cons _ _ => simp at h2
theorem kb_of2 {fd : FuncData} {ps : List Str} {k1 k2 : Str} {perm : List Nat} (h : ∀ (s : Shared) (a b : Value), BindsTo s fd ⟨[], [(k1, a), (k2, b)]⟩ (ps.zip (permL .none perm [a, b]))) : KBind fd ps [k1, k2] 0 perm := by
  intro s us ws h1 h2
  cases us with
  | cons _ _ => simp at h1
  | nil =>
    cases ws with
    | nil => simp at h2
    | cons a ws =>
      cases ws with
      | nil => simp at h2
      | cons b ws =>
        cases ws with
        | nil => exact h s a b
        | cons _ _ => simp at h2
theorem kb_of3 {fd : FuncData} {ps : List Str} {k1 k2 k3 : Str} {perm : List Nat} (h : ∀ (s : Shared) (a b c : Value), BindsTo s fd ⟨[], [(k1, a), (k2, b), (k3, c)]⟩ (ps.zip (permL .none perm [a, b, c]))) : KBind fd ps [k1, k2, k3] 0 perm := by
  intro s us ws h1 h2
  cases us with
  | cons _ _ => simp at h1
  | nil =>
    cases ws with
    | nil => simp at h2
    | cons a ws =>
      cases ws with
      | nil => simp at h2
      | cons b ws =>
        cases ws with
        | nil => simp at h2
        | cons c ws =>
          cases ws with
          | nil => exact h s a b c
          | cons _ _ => simp at h2
end Mr

end
section
set_option maxRecDepth 100000
set_option autoImplicit false
namespace Mr
open PySem PySem.Spec L2 MrT
open PyProof.Rows hiding St
/-! ### suites that only tell -/
def Pure (f : Env1 → Sto → R M) : Prop := ∀ e S m S', f e S = .ok m S' → S' = S
def PureA (f : Env1 → Sto → R (List M)) : Prop := ∀ e S m S', f e S = .ok m S' → S' = S
theorem bind_ok {α β : Type} {x : R α} {k : α → Sto → R β} {b : β} {S' : Sto} (h : x.bind k = .ok b S') : ∃ a S1, x = .ok a S1 ∧ k a S1 = .ok b S' := by
  cases x with
  | ok a S1 => exact ⟨a, S1, rfl, h⟩
  | rz c x S => cases h
  | bad => cases h
theorem lift_ok {α : Type} {o : Option α} {S S' : Sto} {a : α} (h : lift o S = .ok a S') : o = some a ∧ S' = S := by
  cases o with
  | none => cases h
  | some b => cases h; exact ⟨rfl, rfl⟩
theorem pure_c (m : M) : Pure (eC m) := fun e S m' S' h => by cases h; rfl
theorem pure_v (i : Nat) : Pure (eV i) := fun e S m' S' h => by
  unfold eV at h
  split at h
  · cases h; rfl
  · cases h
theorem pure_nil : PureA aN := fun e S m' S' h => by cases h; rfl
theorem pure_cons {f : Env1 → Sto → R M} {fs : Env1 → Sto → R (List M)} (a : Pure f) (b : PureA fs) : PureA (aC f fs) := fun e S m' S' h => by
  obtain ⟨x, S1, h1, h⟩ := bind_ok h
  obtain ⟨y, S2, h2, h⟩ := bind_ok h
  cases h
  rw [b _ _ _ _ h2, a _ _ _ _ h1]
theorem pure_prim {op : List M → Sto → Option M} {fs : Env1 → Sto → R (List M)} (b : PureA fs) : Pure (ePrim op fs) := fun e S m' S' h => by
  obtain ⟨x, S1, h1, h⟩ := bind_ok h
  rw [(lift_ok h).2, b _ _ _ _ h1]
theorem pure_fld {n : Str} {f : Env1 → Sto → R M} (b : Pure f) : Pure (eFld n f) := fun e S m' S' h => by
  obtain ⟨x, S1, h1, h⟩ := bind_ok h
  rw [← b _ _ _ _ h1]
  split at h
  · split at h
    · cases h; rfl
    · cases h
  · cases h
theorem tup_ok {fs : Env1 → Sto → R (List M)} (b : PureA fs) {e : Env1} {S S' : Sto} {m : M} (h : eTup fs e S = .ok m S') : S' = S ∧ ∃ x, m = .d x := by
  obtain ⟨x, S1, h1, h⟩ := bind_ok h
  split at h
  · obtain ⟨q, rfl⟩ := lift_ok h
    obtain ⟨ds, _, rfl⟩ := Option.map_eq_some_iff.mp q
    exact ⟨b _ _ _ _ h1, _, rfl⟩
  · cases h
theorem pure_tup {fs : Env1 → Sto → R (List M)} (b : PureA fs) : Pure (eTup fs) := fun e S m' S' h => (tup_ok b h).1
theorem tells_tup {fs : Env1 → Sto → R (List M)} (b : PureA fs) : Tells (sRet (eTup fs)) := fun e S m S' h => by
  unfold sRet at h
  cases q : eTup fs e S with
  | ok m1 S1 =>
    rw [q] at h
    cases h
    obtain ⟨e1, x, rfl⟩ := tup_ok b q
    exact ⟨e1, trivial⟩
  | rz c x S1 => rw [q] at h; cases h
  | bad => rw [q] at h; cases h
/-- what an error class of one's own must say for its instances to be asked -/
theorem MrE.ErrT.xf {K : PySem.W.Frag} {mg : Str → Option Value} {name : Str} {C fI : Addr} (T : MrE.ErrT K mg name C fI) : XfC K C := ⟨T.ga, T.gg, T.exC, T.hdC⟩
end Mr

end
section
set_option maxRecDepth 100000
set_option autoImplicit false
namespace Mr
open PySem PySem.Spec L2 MrT
open PyProof.Rows hiding St
/-! ### more words: ^ and &, three at once, zip -/
def opXor : M → M → Sto → Option M := Mr.opI (fun _ _ => true) fun i j => .int (Builtin.bitXor i j)
def opBand : M → M → Sto → Option M := Mr.opI (fun _ _ => true) fun i j => .int (Builtin.bitAnd i j)
theorem s_xor {K : PySem.W.Frag} {g : Cfg} : Snd2 K g (rI0 fun i j => .int (Builtin.bitXor i j)) opXor := s_int0 fun _ _ _ _ _ => .int _
theorem s_band {K : PySem.W.Frag} {g : Cfg} : Snd2 K g (rI0 fun i j => .int (Builtin.bitAnd i j)) opBand := s_int0 fun _ _ _ _ _ => .int _
def sPar3 (i j l : Nat) (fs : Env1 → Sto → R (List M)) : Env1 → Sto → Out := fun e S => (fs e S).toS e fun ms S1 => match ms with
  | [m1, m2, m3] => .nx (((e.set i (some m1)).set j (some m2)).set l (some m3)) S1
  | _ => .bad
section
variable {X : Cx} {g : Cfg} {W : WX} {a b c : Expr} {fs : Env1 → Sto → R (List M)} {pos : Pos}
theorem ms_par3 (i j l : Nat) {x y z : Str} {px py pz pt : Pos} {kt k2 : Nat} {pt2 : Pos} (hc : X.calm = true) (hN : X.N.Nodup) (ha : MA X g W [a, b, c] fs) (hi : X.N[i]? = some x := by rfl) (hj : X.N[j]? = some y := by rfl) (hl : X.N[l]? = some z := by rfl) (hij : i ≠ j := by decide) (hil : i ≠ l := by decide) (hjl : j ≠ l := by decide)
    (hx : X.env.scope.names.lookup x = some .local := by rfl) (hy : X.env.scope.names.lookup y = some .local := by rfl) (hz : X.env.scope.names.lookup z = some .local := by rfl)
    (hw : swappedStores [.Tuple [.Name x px, .Name y py, .Name z pz] kt pt] (.Tuple [a, b, c] k2 pt2) X.env = pure (some [x, y, z]) := by rfl)
    (hs : swapsWithSole [.Tuple [.Name x px, .Name y py, .Name z pz] kt pt] (.Tuple [a, b, c] k2 pt2) pos.line X.env = pure false := by rfl) :
    MS X g W (.Assign [.Tuple [.Name x px, .Name y py, .Name z pz] kt pt] (.Tuple [a, b, c] k2 pt2) pos) (sPar3 i j l fs) := by
  refine PS.of (ps_par3 hc hN hi hj hl hij hil hjl hx hy hz ha hw hs) fun D s H h => ?_
  obtain ⟨ph, r, S, e, so, ev, h⟩ := h
  refine tG.bindS so ev h fun ms vs S1 r1 H1 x1 so1 ev1 m1 h1 => ?_
  cases m1 with
  | nil => exact h1.elim
  | cons p1 t =>
    cases t with
    | nil => exact h1.elim
    | cons p2 t =>
      cases t with
      | nil => exact h1.elim
      | cons p3 t =>
        cases t with
        | nil => exact ⟨_, _, _, rfl, h1 r1 H1 _ (.refl _ _) so1 (((ev1.set i p1).set j p2).set l p3)⟩
        | cons => exact h1.elim
/-- zip of two lists, as data -/
def zipM (xs ys : List PyData) : List M := (xs.zip ys).map fun p => .pr [p.1, p.2]
def zipO : List M → Option (List M)
  | [.d (.list xs), .d (.list ys)] => some (zipM xs ys)
  | [.d (.tuple xs), .d (.tuple ys)] => some (zipM xs ys)
  | _ => none
def iZipM (f : Env1 → Sto → R (List M)) : Env1 → Sto → R (List M) := fun e S => (f e S).bind fun ms S1 => lift (zipO ms) S1
theorem goes_z {K : PySem.W.Frag} {ph r : List Addr} {H : Hp} {a b : Addr} {va vb : List V} {xs ys : List PyData} (ea : H a = some (.lst va)) (na : a ∉ ph ++ r) (ta : DrAll K (ph ++ r) H va xs) (eb : H b = some (.lst vb)) (nb : b ∉ ph ++ r) (tb : DrAll K (ph ++ r) H vb ys) : PIt K g ph r H (zipM xs ys) (Itz K a b) := by
  intro ph' h1 h2 r' S' H' x so i
  have hB : ∀ b, b ∈ ph' ++ r → b ∈ ph ++ r ∨ H b = none := fun b hb => by
    rcases List.mem_append.mp hb with z | z
    · exact (h2 b z).imp (fun q => List.mem_append_left _ q) id
    · exact .inl (List.mem_append_right _ z)
  have out : ∀ {c : Addr} {vs : List V}, H c = some (.lst vs) → c ∉ ph ++ r → c ∉ ph' ++ r := fun {c vs} e n z => (hB c z).elim n fun q => by rw [e] at q; cases q
  obtain ⟨ea2, na2⟩ := x.tracked ea (out ea na) (fun _ z => by cases z)
  obtain ⟨eb2, nb2⟩ := x.tracked eb (out eb nb) (fun _ z => by cases z)
  have ta2 : DrAll K (ph' ++ r') H' va xs := DrAll.mono x (DrAll.more hB ta)
  have tb2 : DrAll K (ph' ++ r') H' vb ys := DrAll.mono x (DrAll.more hB tb)
  have sa : SqL K H' a va := .inl (.inl ea2)
  have sb : SqL K H' b vb := .inl (.inl eb2)
  refine ⟨fun m hm => ?_, fun h => ⟨va, vb, sa, sb, by
    have q : (zipM xs ys).length = min xs.length ys.length := by simp [zipM]
    have q1 := ta2.length
    have q2 := tb2.length
    rw [q] at h
    omega⟩⟩
  unfold zipM at hm
  rw [List.getElem?_map] at hm
  obtain ⟨p, hp, rfl⟩ := Option.map_eq_some_iff.mp hm
  obtain ⟨hx, hy⟩ := List.getElem?_zip_eq_some.mp hp
  obtain ⟨u, hu, du⟩ := ta2.get hx
  obtain ⟨w, hw, dw⟩ := tb2.get hy
  refine ⟨⟨va, vb, u, w, sa, sb, hu, hw⟩, fun y H2 hy2 => ?_⟩
  obtain ⟨T, y1, y2, rfl, hT, rfl, k1, k2⟩ := hy2
  have e1 : some y1 = some u := (k1 va sa).symm.trans hu
  have e2 : some y2 = some w := (k2 vb sb).symm.trans hw
  cases e1
  cases e2
  have ex : Ext r' H' r' (upd H' T (.tup [u, w])) := Ext.new hT
  exact ⟨ex, so.new hT, T, _, rfl, ⟨upd_same, so.fresh hT⟩, DrAll.mono ex (.cons du (.cons dw .nil))⟩
theorem goes_zT {K : PySem.W.Frag} {ph r : List Addr} {H : Hp} {a b : Addr} {xs ys : List PyData} (da : Dr K (ph ++ r) H (.ref a) (.tuple xs)) (db : Dr K (ph ++ r) H (.ref b) (.tuple ys)) : PIt K g ph r H (zipM xs ys) (RZ.ItzT K a b) := by
  intro ph' h1 h2 r' S' H' x so i
  obtain ⟨va, sa, ta2⟩ := sqT_ext (S' := S') da x h2
  obtain ⟨vb, sb, tb2⟩ := sqT_ext (S' := S') db x h2
  refine ⟨fun m hm => ?_, fun h => ⟨va, vb, sa, sb, by
    have q : (zipM xs ys).length = min xs.length ys.length := by simp [zipM]
    have q1 := ta2.length
    have q2 := tb2.length
    rw [q] at h
    omega⟩⟩
  unfold zipM at hm
  rw [List.getElem?_map] at hm
  obtain ⟨p, hp, rfl⟩ := Option.map_eq_some_iff.mp hm
  obtain ⟨hx, hy⟩ := List.getElem?_zip_eq_some.mp hp
  obtain ⟨u, hu, du⟩ := ta2.get hx
  obtain ⟨w, hw, dw⟩ := tb2.get hy
  refine ⟨⟨va, vb, u, w, sa, sb, hu, hw⟩, fun y H2 hy2 => ?_⟩
  obtain ⟨T, y1, y2, rfl, hT, rfl, k1, k2⟩ := hy2
  have e1 : some y1 = some u := (k1 va sa).symm.trans hu
  have e2 : some y2 = some w := (k2 vb sb).symm.trans hw
  cases e1
  cases e2
  have ex : Ext r' H' r' (upd H' T (.tup [u, w])) := Ext.new hT
  exact ⟨ex, so.new hT, T, _, rfl, ⟨upd_same, so.fresh hT⟩, DrAll.mono ex (.cons du (.cons dw .nil))⟩
theorem mi_zip {elts : List Expr} {kk : Nat} {tpos p : Pos} (hm : X.mg "zip" = none) (ha : MA X g W [a, b] fs) (hg : Gl X "zip" := by rfl) (he : starEach [a, b] X.env = (false, eval a X.env) :: starEach [b] X.env := by rfl) (hpl : (backTo pos (starEach [b] X.env)).any (·.1) = false := by rfl) : MI X g W (.Tuple elts kk tpos) (.Call (.Name "zip" p) [a, b] [] pos) (iZipM fs) := by
  refine PI.of (RZ.pi_zipA hg hm ha he hpl) fun s H Q h => ?_
  obtain ⟨ph, r, S, e, so, ev, h⟩ := h
  refine ⟨ph, r, S, e, so, ev, ?_⟩
  unfold iZipM at h
  cases q : fs e S with
  | rz c y S1 => rw [q] at h; exact h
  | bad => rw [q] at h; exact h
  | ok ms S1 =>
    rw [q] at h
    intro r1 H1 vs x1 so1 m1
    have h : Post PIt X.K g (fun c d H' => W c d s H') ph r H (lift (zipO ms) S1) Q := h
    unfold zipO at h
    split at h
    · cases m1 with
      | cons p1 t =>
        cases t with
        | cons p2 t =>
          cases t
          cases p1 with
          | lst ea na ta =>
            cases p2 with
            | lst eb nb tb => exact ⟨_, _, _, _, rfl, .inl ⟨.inl (.inl ea), .inl (.inl eb), h r1 H1 _ x1 so1 (goes_z ea na ta eb nb tb)⟩⟩
    · cases m1 with
      | @cons _ v1 _ _ p1 t =>
        cases t with
        | @cons _ v2 _ _ p2 t =>
          cases t
          have g1 : ∃ b, v1 = .ref b := by cases p1 <;> exact ⟨_, rfl⟩
          have g2 : ∃ b, v2 = .ref b := by cases p2 <;> exact ⟨_, rfl⟩
          obtain ⟨b1, rfl⟩ := g1
          obtain ⟨b2, rfl⟩ := g2
          obtain ⟨ys1, s1, _⟩ := Dr.toT p1
          obtain ⟨ys2, s2, _⟩ := Dr.toT p2
          exact ⟨b1, b2, ys1, ys2, rfl, .inr ⟨s1, s2, h r1 H1 _ x1 so1 (goes_zT p1 p2)⟩⟩
    · exact h.elim
/-- enumerate of a list, as data -/
def enumM (xs : List PyData) : List M := ((List.range xs.length).zip xs).map fun p => .pr [.int (p.1 : Int), p.2]
def iEnumM (f : Env1 → Sto → R (List M)) : Env1 → Sto → R (List M) := fun e S => (f e S).bind fun ms S1 => lift (match ms with
  | [.d (.list xs)] => some (enumM xs)
  | _ => none) S1
theorem goes_e {K : PySem.W.Frag} {ph r : List Addr} {H : Hp} {a : Addr} {va : List V} {xs : List PyData} (ea : H a = some (.lst va)) (na : a ∉ ph ++ r) (ta : DrAll K (ph ++ r) H va xs) : PIt K g ph r H (enumM xs) (Ite K a) := by
  intro ph' h1 h2 r' S' H' x so i
  have hB : ∀ b, b ∈ ph' ++ r → b ∈ ph ++ r ∨ H b = none := fun b hb => by
    rcases List.mem_append.mp hb with z | z
    · exact (h2 b z).imp (fun q => List.mem_append_left _ q) id
    · exact .inl (List.mem_append_right _ z)
  have out : a ∉ ph' ++ r := fun z => (hB a z).elim na fun q => by rw [ea] at q; cases q
  obtain ⟨ea2, na2⟩ := x.tracked ea out (fun _ z => by cases z)
  have ta2 : DrAll K (ph' ++ r') H' va xs := DrAll.mono x (DrAll.more hB ta)
  have sa : SqL K H' a va := .inl (.inl ea2)
  refine ⟨fun m hm => ?_, fun h => ⟨va, sa, by
    have q : (enumM xs).length = xs.length := by simp [enumM]
    rw [ta2.length, ← q]
    exact h⟩⟩
  unfold enumM at hm
  rw [List.getElem?_map] at hm
  obtain ⟨p, hp, rfl⟩ := Option.map_eq_some_iff.mp hm
  obtain ⟨hi, hx⟩ := List.getElem?_zip_eq_some.mp hp
  have hi2 : p.1 = i := by
    have q := List.getElem?_eq_some_iff.mp hi
    obtain ⟨q1, q2⟩ := q
    rw [List.getElem_range] at q2
    exact q2.symm
  obtain ⟨u, hu, du⟩ := ta2.get hx
  refine ⟨⟨va, u, sa, hu⟩, fun y H2 hy2 => ?_⟩
  obtain ⟨T, y1, rfl, hT, rfl, k1⟩ := hy2
  have e1 : some y1 = some u := (k1 va sa).symm.trans hu
  cases e1
  have ex : Ext r' H' r' (upd H' T (.tup [.int (i : Nat), u])) := Ext.new hT
  refine ⟨ex, so.new hT, T, _, rfl, ⟨upd_same, so.fresh hT⟩, DrAll.mono ex (.cons ?_ (.cons du .nil))⟩
  rw [hi2]
  exact .int _
theorem mi_enum {elts : List Expr} {kk : Nat} {tpos p : Pos} (hm : X.mg "enumerate" = none) (ha : MA X g W [a] fs) (hg : Gl X "enumerate" := by rfl) (he : starEach [a] X.env = [(false, eval a X.env)] := by rfl) : MI X g W (.Tuple elts kk tpos) (.Call (.Name "enumerate" p) [a] [] pos) (iEnumM fs) := by
  refine PI.of (pi_enum hg hm ha he) fun s H Q h => ?_
  obtain ⟨ph, r, S, e, so, ev, h⟩ := h
  refine ⟨ph, r, S, e, so, ev, ?_⟩
  unfold iEnumM at h
  cases q : fs e S with
  | rz c y S1 => rw [q] at h; exact h
  | bad => rw [q] at h; exact h
  | ok ms S1 =>
    rw [q] at h
    intro r1 H1 vs x1 so1 m1
    have h : Post PIt X.K g (fun c d H' => W c d s H') ph r H (lift (match (generalizing := false) ms with
      | [.d (.list xs)] => some (enumM xs)
      | _ => none) S1) Q := h
    split at h
    · cases m1 with
      | @cons _ v1 _ _ p1 t =>
        cases t
        cases p1 with
        | lst ea na ta => exact ⟨_, _, rfl, .inl (.inl ea), h r1 H1 _ x1 so1 (goes_e ea na ta)⟩
    · exact h.elim
/-- a, b, .. = e, e data -/
def sAsg (f : Env1 → Sto → R M) (ft : M → Env1 → Option Env1) : Env1 → Sto → Out := fun e S => (f e S).toS e fun m S1 => match ft m e with
  | some e2 => .nx e2 S1
  | none => .bad
theorem ms_asg {tg e1 : Expr} {f : Env1 → Sto → R M} {vs : List Nat} {ft : M → Env1 → Option Env1} (he : ME X g W e1 f) (hg : MG X g vs tg ft) (hs : swapsWithSole [tg] e1 pos.line X.env = pure false := by rfl) (hw : swappedStores [tg] e1 X.env = pure none := by rfl)
    (h1 : (assignEach [tg] X.env).map (·.2) = [assign tg X.env] := by rfl) : MS X g W (.Assign [tg] e1 pos) (sAsg f ft) := by
  refine PS.of (ps_asg he hg hs hw h1) fun D s H h => ?_
  obtain ⟨ph, r, S, e, so, ev, h⟩ := h
  refine tG.bindS so ev h fun m v S1 r1 H1 x1 so1 ev1 m1 h1 => ?_
  cases q : ft m e with
  | none => rw [q] at h1; exact h1.elim
  | some e2 =>
    rw [q] at h1
    exact ⟨ph, r1, S1, e, m, e2, so1, ev1, m1, q, fun r' H' s' x so' ev' _ => h1 r' H' s' x so' ev'⟩
end
end Mr

end
section
set_option maxRecDepth 100000
set_option autoImplicit false
namespace Mr
open PySem PySem.Spec L2 MrT
open PyProof.Rows hiding St

/-! ### what a def made is let go -/
/-- the objects ahead of n alone -/
def okCut (S0 S' : Sto) : Prop := S'.take S0.length = S0 ∨ (S'.take S0.length).all (oBelow S0.length) = true
/-- a list or a dict of data that the def made: data from now on -/
def frzD (S : Sto) : M → Option M
  | .loc k => match S[k]? with
    | some (.lst xs) => (dsOf xs).map fun ds => .d (.list ds)
    | some (.dct kvs) => (dsOf (kvs.map (·.2))).map fun ds => .d (.dict ((kvs.map fun p => keyD p.1).zip ds))
    | none => none
  | _ => none
noncomputable instance okCut.dec (S0 S' : Sto) : Decidable (okCut S0 S') := Classical.propDecidable _
noncomputable def cutR (S0 : Sto) : R M → R M
  | .ok m S' => if okCut S0 S' then (if below S0.length m then .ok m (S'.take S0.length) else match frzD S' m with
    | some m' => .ok m' (S'.take S0.length)
    | none => .bad) else .bad
  | .rz c x S' => if okCut S0 S' then .rz c x (S'.take S0.length) else .bad
  | .bad => .bad
theorem cutR_ok {S0 S' : Sto} {m : M} (hc : okCut S0 S') (hb : below S0.length m = true) : cutR S0 (.ok m S') = .ok m (S'.take S0.length) := by
  show (if okCut S0 S' then (if below S0.length m = true then R.ok m (S'.take S0.length) else match frzD S' m with
    | some m' => R.ok m' (S'.take S0.length)
    | none => R.bad) else R.bad) = _
  rw [if_pos hc, if_pos hb]
theorem cutR_frz {S0 S' : Sto} {m m' : M} (hc : okCut S0 S') (hb : below S0.length m = false) (q : frzD S' m = some m') : cutR S0 (.ok m S') = .ok m' (S'.take S0.length) := by
  show (if okCut S0 S' then (if below S0.length m = true then R.ok m (S'.take S0.length) else match frzD S' m with
    | some m' => R.ok m' (S'.take S0.length)
    | none => R.bad) else R.bad) = _
  rw [if_pos hc, hb, q]
  rfl
theorem cutR_none {S0 S' : Sto} {m : M} (hb : below S0.length m = false) (q : frzD S' m = none) : cutR S0 (.ok m S') = .bad := by
  show (if okCut S0 S' then (if below S0.length m = true then R.ok m (S'.take S0.length) else match frzD S' m with
    | some m' => R.ok m' (S'.take S0.length)
    | none => R.bad) else R.bad) = _
  rw [hb, q]
  split <;> rfl
theorem cutR_no {S0 S' : Sto} {m : M} (hc : ¬ okCut S0 S') : cutR S0 (.ok m S') = .bad := if_neg hc
theorem cutR_rz {S0 S' : Sto} {c : Nat} {x : Option (Str × PyData)} (hc : okCut S0 S') : cutR S0 (.rz c x S') = .rz c x (S'.take S0.length) := if_pos hc
theorem cutR_rzno {S0 S' : Sto} {c : Nat} {x : Option (Str × PyData)} (hc : ¬ okCut S0 S') : cutR S0 (.rz c x S') = .bad := if_neg hc
noncomputable def cutF (f : List M → Sto → R M) : List M → Sto → R M := fun ms S => cutR S (f ms S)
section
variable {K : PySem.W.Frag} {g : Cfg} {ph r l : List Addr} {H H' : Hp} {S S' : Sto}
theorem Mv.cut {m : M} {v : V} (h : Mv K g ph (r ++ l) H m v) (hb : ∀ k, m = .loc k → k < r.length) : Mv K g ph r H m v := by
  have hB : ∀ a, a ∈ ph ++ r → a ∈ ph ++ (r ++ l) := fun a ha => by
    rw [← List.append_assoc]
    exact List.mem_append_left _ ha
  cases m with
  | d x => exact Dr.less hB h
  | loc k =>
    obtain ⟨a, e, e2⟩ := h
    refine ⟨a, ?_, e2⟩
    rw [List.getElem?_append_left (hb k rfl)] at e
    exact e
  | ro xs =>
    obtain ⟨a, vs, e1, e, t⟩ := h
    refine ⟨a, vs, e1, e.imp (fun q => ?_) id, DrAll.less hB t⟩
    obtain ⟨o, e, n⟩ := q
    exact ⟨o, e, fun z => n (hB a z)⟩
  | pr xs =>
    obtain ⟨a, vs, e1, ⟨e, n⟩, t⟩ := h
    exact ⟨a, vs, e1, ⟨e, fun z => n (hB a z)⟩, DrAll.less hB t⟩
  | fn a => exact h
  | ty n => exact h
  | kdc a ks => exact h
  | exn c x =>
    obtain ⟨a, d, e1, e2, t⟩ := h
    refine ⟨a, d, e1, e2, ?_⟩
    cases x with
    | none => trivial
    | some p =>
      obtain ⟨f, y⟩ := p
      obtain ⟨dd, w, h1, e, n, t⟩ := t
      exact ⟨dd, w, h1, e, fun z => n (hB dd z), Dr.less hB t⟩
theorem Mv.loc_lt {m : M} {v : V} (h : Mv K g ph r H m v) (k : Nat) (e : m = .loc k) : k < r.length := by
  subst e
  obtain ⟨a, e, _⟩ := h
  exact (List.getElem?_eq_some_iff.mp e).1
theorem pair_both {α β : Type} {P Q : α → β → Prop} {T : α → Prop} {as : List α} {bs bs' : List β} (h : Paired P as bs) (h0 : Paired Q as bs') (w : ∀ a b b', P a b → Q a b' → T a) : ∀ a ∈ as, T a := by
  induction h generalizing bs' with
  | nil => intro a ha; cases ha
  | cons p t ih =>
    cases h0 with
    | cons q t0 =>
      intro a ha
      rcases List.mem_cons.mp ha with z | z
      · rw [z]; exact w _ _ _ p q
      · exact ih t0 a z
theorem pair_mem {α β : Type} {P Q : α → β → Prop} {as : List α} {bs : List β} (h : Paired P as bs) (w : ∀ a ∈ as, ∀ b, P a b → Q a b) : Paired Q as bs := by
  induction h with
  | nil => exact .nil
  | cons p t ih => exact .cons (w _ List.mem_cons_self _ p) (ih fun a ha => w a (List.mem_cons_of_mem _ ha))
def oLocs (n : Nat) : O → Prop
  | .lst xs => ∀ m ∈ xs, ∀ k, m = .loc k → k < n
  | .dct kvs => ∀ p ∈ kvs, ∀ k, p.2 = .loc k → k < n
theorem Ov.cut {o : O} {u : HO} (h : Ov K g ph (r ++ l) H o u) (hb : oLocs r.length o) : Ov K g ph r H o u := by
  cases o with
  | lst xs =>
    cases u with
    | lst vs => exact pair_mem h fun m hm v q => Mv.cut q (hb m hm)
    | _ => exact h
  | dct kvs =>
    cases u with
    | dK ws => exact pair_mem h fun p hp q z => ⟨z.1, Mv.cut z.2 (hb p hp)⟩
    | _ => exact h
theorem Ov.locs {o : O} {u : HO} (h : Ov K g ph r H o u) : oLocs r.length o := by
  cases o with
  | lst xs =>
    cases u with
    | lst vs =>
      intro m hm k e
      have h : Paired (Mv K g ph r H) xs vs := h
      exact pair_both (T := fun m => ∀ k, m = .loc k → k < r.length) h h (fun a b _ p _ => Mv.loc_lt p) m hm k e
    | _ => exact h.elim
  | dct kvs =>
    cases u with
    | dK ws =>
      intro m hm k e
      have h : Paired (fun (p : Key × M) (q : Key × V) => p.1 = q.1 ∧ Mv K g ph r H p.2 q.2) kvs ws := h
      exact pair_both (T := fun m => ∀ k, m.2 = .loc k → k < r.length) h h (fun a b _ p _ => Mv.loc_lt p.2) m hm k e
    | _ => exact h.elim
theorem oBelow_locs {n : Nat} {o : O} (h : oBelow n o = true) : oLocs n o := by
  have key : ∀ m : M, below n m = true → ∀ k, m = .loc k → k < n := fun m hm k e => by
    subst e
    exact of_decide_eq_true hm
  cases o with
  | lst xs => exact fun m hm k e => key m (List.all_eq_true.mp h m hm) k e
  | dct kvs => exact fun p hp k e => key p.2 (List.all_eq_true.mp h p hp) k e
/-- the store, cut -/
theorem So.cut {r' : List Addr} (s0 : So K g ph r S H) (x : Ext r H r' H') (s : So K g ph r' S' H') (hc : okCut S S') : So K g ph r (S'.take S.length) H' := by
  obtain ⟨l, rfl, hl⟩ := x.pre
  have hlen : S.length ≤ S'.length := by
    rw [← s0.len, ← s.len, List.length_append]
    omega
  have nd := s.nd
  refine ⟨by rw [List.length_take, Nat.min_eq_left hlen]; exact s0.len, s0.nd, fun a ha => fun z => s.dis a ha (List.mem_append_left _ z), s.there, fun n o e => ?_, s.tabs, fun p hp => (s0.kp p hp).mono ⟨x.keep, x.stay, [], by simp, by simp⟩⟩
  have hn : n < S.length := by
    have := (List.getElem?_eq_some_iff.mp e).1
    rw [List.length_take] at this
    omega
  have e' : S'[n]? = some o := by
    rw [List.getElem?_take_of_lt hn] at e
    exact e
  obtain ⟨a, u, e1, e2, e3⟩ := s.at_ n o e'
  have hr : n < r.length := by rw [s0.len]; exact hn
  refine ⟨a, u, by rw [List.getElem?_append_left hr] at e1; exact e1, e2, e3.cut ?_⟩
  rcases hc with hc | hc
  · rw [hc] at e
    obtain ⟨a0, u0, f1, f2, f3⟩ := s0.at_ n o e
    exact f3.locs
  · rw [s0.len]
    exact oBelow_locs (List.all_eq_true.mp hc o (List.mem_of_getElem? e))
theorem Ext.cut {r' : List Addr} (x : Ext r H r' H') : Ext r H r H' := ⟨x.keep, x.stay, [], by simp, by simp⟩
theorem Xv.cut {d : Option Addr} {x : Option (Str × PyData)} (h : Xv K (ph ++ (r ++ l)) H d x) : Xv K (ph ++ r) H d x := by
  have hB : ∀ a, a ∈ ph ++ r → a ∈ ph ++ (r ++ l) := fun a ha => by
    rw [← List.append_assoc]
    exact List.mem_append_left _ ha
  cases x with
  | none => trivial
  | some p =>
    obtain ⟨f, y⟩ := p
    obtain ⟨dd, w, h1, e, n, t⟩ := h
    exact ⟨dd, w, h1, e, fun z => n (hB dd z), Dr.less hB t⟩
theorem kvs_zip : ∀ {ks : List Key} {vs : List V}, ks.length = vs.length → ∀ ws : List (Key × V), ws.map (·.1) = ks → ws.map (·.2) = vs → ws = ks.zip vs
  | _, _, _, ws, rfl, rfl => (unzip_eq ws).symm
theorem frz_ok {r' : List Addr} {m m' : M} {v : V} (s0 : So K g ph r S H) (x : Ext r H r' H') (s : So K g ph r' S' H') (hb : below S.length m = false) (mv : Mv K g ph r' H' m v) (q : frzD S' m = some m') : Mv K g ph r H' m' v := by
  cases m with
  | loc k =>
    obtain ⟨a, e, rfl⟩ := mv
    obtain ⟨l, rfl, hl⟩ := x.pre
    have hk : r.length ≤ k := by
      have : ¬ k < S.length := of_decide_eq_false hb
      rw [s0.len]
      omega
    have nr : a ∉ ph ++ r := fun z => by
      rcases List.mem_append.mp z with z | z
      · exact s.dis a z (List.mem_of_getElem? e)
      · obtain ⟨i, hi, ei⟩ := List.getElem_of_mem z
        have h1 : (r ++ l)[i]? = some a := by rw [List.getElem?_append_left hi, List.getElem?_eq_getElem hi, ei]
        have := nodup_at s.nd h1 e
        omega
    have hB : ∀ b, b ∈ ph ++ r → b ∈ ph ++ (r ++ l) := fun b hb => by
      rw [← List.append_assoc]
      exact List.mem_append_left _ hb
    have q : (match S'[k]? with
      | some (.lst xs) => (dsOf xs).map fun ds => M.d (.list ds)
      | some (.dct kvs) => (dsOf (kvs.map (·.2))).map fun ds => M.d (.dict ((kvs.map fun p => keyD p.1).zip ds))
      | none => none) = some m' := q
    cases q2 : S'[k]? with
    | none => rw [q2] at q; cases q
    | some o =>
      rw [q2] at q
      obtain ⟨a', u, e1, e2, e3⟩ := s.at_ k o q2
      rw [e] at e1
      cases e1
      cases o with
      | lst xs =>
        simp only at q
        cases q3 : dsOf xs with
        | none => rw [q3] at q; cases q
        | some ds =>
          rw [q3] at q
          cases q
          cases u with
          | lst vs => exact Dr.lst e2 nr (DrAll.less hB (dsOf_rel e3 q3))
          | _ => exact e3.elim
      | dct kvs =>
        simp only at q
        cases q3 : dsOf (kvs.map (·.2)) with
        | none => rw [q3] at q; cases q
        | some ds =>
          rw [q3] at q
          cases q
          cases u with
          | dK ws =>
            have hp := kp_snd e3
            have t := DrAll.less hB (dsOf_rel hp.1 q3)
            have ew : ws = (kvs.map (·.1)).zip (ws.map (·.2)) := by
              rw [← hp.2]
              exact (unzip_eq ws).symm
            rw [ew] at e2
            have hl2 : (kvs.map (·.1)).length = (ws.map (·.2)).length := by
              rw [← hp.2, List.length_map, List.length_map]
            have z : Dr K (ph ++ r) H' (.ref a) (.dict (((kvs.map (·.1)).map keyD).zip ds)) := Dr.dct e2 nr hl2 t
            rw [List.map_map] at z
            exact z
          | _ => exact e3.elim
  | _ => cases q
theorem post_cut {E : XK} {o : R M} {Q : VK} (s0 : So K g ph r S H) (h : Post PV K g E ph r H (cutR S o) Q) : Post PV K g E ph r H o Q := by
  cases o with
  | ok m S' =>
    intro r' H' v x s mv
    by_cases hc : okCut S S'
    · have s2 := s0.cut x s hc
      obtain ⟨l, e, _⟩ := id x.pre
      cases hb : below S.length m with
      | true =>
        rw [cutR_ok hc hb] at h
        refine h r H' v x.cut s2 ?_
        subst e
        refine Mv.cut mv fun k ek => ?_
        subst ek
        rw [s0.len]
        exact of_decide_eq_true hb
      | false =>
        cases q : frzD S' m with
        | none => rw [cutR_none hb q] at h; exact h.elim
        | some m' =>
          rw [cutR_frz hc hb q] at h
          exact h r H' v x.cut s2 (frz_ok s0 x s hb mv q)
    · rw [cutR_no hc] at h
      exact h.elim
  | rz c z S' =>
    intro r' H' d x s q
    by_cases hc : okCut S S'
    · rw [cutR_rz hc] at h
      have s2 := s0.cut x s hc
      obtain ⟨l, e, _⟩ := id x.pre
      subst e
      exact h r H' d x.cut s2 q.cut
    · rw [cutR_rzno hc] at h
      exact h.elim
  | bad => exact h
theorem spM_cut {n : Nat} {f : List M → Sto → R M} {vs : List V} {Q : VK} {E : XK} (h : spM K g n (cutF f) vs H Q E) : spM K g n f vs H Q E := by
  obtain ⟨ph, r, S, ms, h1, so, mv, h⟩ := h
  exact ⟨ph, r, S, ms, h1, so, mv, post_cut so h⟩
end
theorem FnG.imp {gd : Bool} {P : Program} {w : World} {K : PySem.W.Frag} {mg : Str → Option Value} {base : Heap} {k : Nat} {f : Addr} {fd : FuncData} {ps : List Str} {sp sp' : Sp} (F : FnG gd P w K mg base k f fd ps sp) (h : ∀ vs H Q E, sp' vs H Q E → sp vs H Q E) : FnG gd P w K mg base k f fd ps sp' :=
  ⟨fun vs H Q E z => F.len vs H Q E (h _ _ _ _ z), fun A fr s H args us vs Q E hr hG e hb hv z => F.run A fr s H args us vs Q E hr hG e hb hv (h _ _ _ _ z)⟩
theorem Dn.cut {gd : Bool} {P : Program} {w : World} {K : PySem.W.Frag} {mg : Str → Option Value} {base : Heap} {g : Cfg} {k : Nat} {x : Str} {st : Stmt} {ps : List Str} {fm : List M → Sto → R M} (D : Dn gd P w K mg base g k x st ps fm) : Dn gd P w K mg base g k x st ps (cutF fm) := by
  obtain ⟨f, fd, F, r⟩ := D.ex
  exact ⟨f, fd, F.imp fun _ _ _ _ h => spM_cut h, r⟩
end Mr

end
section
set_option maxRecDepth 100000
set_option autoImplicit false
namespace Mr
open PySem PySem.Spec L2 MrT
open PyProof.Rows hiding St

/-! ### a list or a tuple of data, wherever it stands -/
/-- (is it a tuple, its items) -/
def seqM (m : M) (S : Sto) : Option (Bool × List PyData) := match m with
  | .d (.list xs) => some (false, xs)
  | .d (.tuple xs) => some (true, xs)
  | .ro xs => some (false, xs)
  | .loc n => match S[n]? with
    | some (.lst xs) => (dsOf xs).map fun ds => (false, ds)
    | _ => none
  | _ => none
def intsD : List PyData → Option (List Int)
  | [] => some []
  | .int i :: r => (intsD r).map (i :: ·)
  | _ :: _ => none
section
variable {K : PySem.W.Frag} {g : Cfg} {ph r : List Addr} {H : Hp} {S : Sto}
theorem seqM_ok {m : M} {v : V} {b : Bool} {ds : List PyData} (so : So K g ph r S H) (mv : Mv K g ph r H m v) (q : seqM m S = some (b, ds)) : ∃ p vs, v = .ref p ∧ (if b = true then SqT K H p vs else SqL K H p vs) ∧ DrAll K (ph ++ r) H vs ds := by
  cases m with
  | d x =>
    cases x with
    | list xs =>
      cases q
      cases mv with
      | lst e n t => exact ⟨_, _, rfl, .inl (.inl e), t⟩
    | tuple xs =>
      have q : (true, xs) = (b, ds) := Option.some.inj q
      obtain ⟨rfl, rfl⟩ := Prod.mk.inj q
      have mv : Dr K (ph ++ r) H v (.tuple xs) := mv
      have r1 : ∃ a, v = .ref a := by cases mv <;> exact ⟨_, rfl⟩
      obtain ⟨a, rfl⟩ := r1
      obtain ⟨ys, sq, t⟩ := Dr.toT mv
      exact ⟨_, _, rfl, sq, t⟩
    | _ => cases q
  | ro xs =>
    cases q
    obtain ⟨a, vs, rfl, e1, t1⟩ := mv
    exact ⟨_, _, rfl, e1.elim (fun ⟨o, e1, _⟩ => .inl (.inr ⟨o, e1⟩)) .inr, t1⟩
  | loc n =>
    obtain ⟨a, e1, rfl⟩ := mv
    have q : (match S[n]? with
      | some (.lst xs) => (dsOf xs).map fun ds => (false, ds)
      | _ => none) = some (b, ds) := q
    split at q
    · rename_i xs q0
      obtain ⟨ds', q2, q3⟩ := Option.map_eq_some_iff.mp q
      cases q3
      obtain ⟨a', w, h5, h6, h7⟩ := so.at_ _ _ q0
      rw [e1] at h5; cases h5
      cases w with
      | lst vs => exact ⟨_, _, rfl, .inl (.inl h6), dsOf_rel h7 q2⟩
      | _ => exact h7.elim
    · cases q
  | _ => cases q
theorem ints_v {B : List Addr} : ∀ {vs : List V} {ds : List PyData} {ns : List Int}, DrAll K B H vs ds → intsD ds = some ns → vs = ns.map V.int ∧ ds = ns.map PyData.int
  | _, _, ns, .nil, h => by cases h; exact ⟨rfl, rfl⟩
  | _, _, ns, .cons a t, h => by
    cases a with
    | int i =>
      rename_i vs ds
      have h : (intsD ds).map (i :: ·) = some ns := h
      cases q : intsD ds with
      | none => rw [q] at h; cases h
      | some l =>
        rw [q] at h
        cases h
        obtain ⟨e1, e2⟩ := ints_v t q
        subst e1 e2
        exact ⟨rfl, rfl⟩
    | _ => cases h
theorem intsD_ints (ns : List Int) : intsD (ns.map .int) = some ns := by
  induction ns with
  | nil => rfl
  | cons n ns ih => show (intsD (ns.map .int)).map (n :: ·) = _; rw [ih]; rfl
/-! ### sum, min, max of ints -/
def seqIs (m : M) (S : Sto) : Option (List Int) := match seqM m S with
  | some (false, ds) => intsD ds
  | _ => none
theorem seqIs_ok {m : M} {v : V} {ns : List Int} (so : So K g ph r S H) (mv : Mv K g ph r H m v) (q : seqIs m S = some ns) : ∃ p, v = .ref p ∧ SqL K H p (ns.map V.int) := by
  unfold seqIs at q
  split at q
  · rename_i ds q0
    obtain ⟨p, vs, rfl, h1, t⟩ := seqM_ok so mv q0
    obtain ⟨rfl, rfl⟩ := ints_v t q
    exact ⟨p, rfl, h1⟩
  · cases q
def pSum : List M → Sto → Option M
  | [m], S => (seqIs m S).map fun ns => .d (.int ns.sum)
  | _, _ => none
theorem s_sum : SndN K g (rSum K) pSum := by
  intro ph r S H ms m vs Q so a1 h k
  match ms, a1, h with
  | [m0], .cons b .nil, h =>
    obtain ⟨ns, q, rfl⟩ := Option.map_eq_some_iff.mp h
    obtain ⟨p, rfl, hs⟩ := seqIs_ok so b q
    exact ⟨p, ns, rfl, hs, k r H _ (.refl _ _) so (.int _)⟩
  | [], _, h => cases h
  | _ :: _ :: _, _, h => cases h
/-! ### str(i), abs -/
def pStrI : List M → Sto → Option M
  | [.d (.int i)], _ => if i.natAbs.log2 < 1920 then some (.d (.str (toString i))) else none
  | _, _ => none
theorem s_strI : SndN K g (fun xs H Q => ∃ i, xs = [.int i] ∧ i.natAbs.log2 < 1920 ∧ Q (.str (toString i)) H) pStrI := by
  intro ph r S H ms m vs Q so a1 h k
  unfold pStrI at h
  split at h
  · cases a1 with
    | cons b t =>
      cases t; cases b
      split at h
      · rename_i hz
        cases h
        exact ⟨_, rfl, hz, k r H _ (.refl _ _) so (.str _)⟩
      · cases h
  · cases h
def pAbs : List M → Sto → Option M
  | [.d (.int i)], _ => some (.d (.int (if i < 0 then -i else i)))
  | _, _ => none
theorem s_abs : SndN K g (fun xs H Q => ∃ i, xs = [.int i] ∧ Q (.int (if i < 0 then -i else i)) H) pAbs := by
  intro ph r S H ms m vs Q so a1 h k
  unfold pAbs at h
  split at h
  · cases a1 with
    | cons b t =>
      cases t; cases b; cases h
      exact ⟨_, rfl, k r H _ (.refl _ _) so (.int _)⟩
  · cases h
/-! ### x is True -/
def opIsB : M → M → Sto → Option M
  | .d (.bool a), .d (.bool b), _ => some (.d (.bool (decide (a = b))))
  | _, _, _ => none
theorem s_isB : Snd2 K g rIsB opIsB := by
  intro ph r S H m1 m2 m v1 v2 Q so a1 a2 h k
  unfold opIsB at h
  split at h
  · cases a1; cases a2; cases h
    exact ⟨_, _, rfl, rfl, k r H _ (.refl _ _) so (.bl _)⟩
  · cases h
end
/-! ### a text, a tuple, a list repeated -/
def rRepS : R2 := fun x y H Q => ∃ (a : Str) (k : Int), x = .str a ∧ y = .int k ∧ 2 ≤ k ∧ k ≤ 1000 ∧ a.length ≠ 0 ∧ a.length ≤ 1000 ∧ Q (.str ⟨(List.replicate k.toNat a.cps).foldl (· ++ ·) #[]⟩) H
theorem op_repS {X : Cx} : OpR X (binaryOp .Mult) rRepS := by
  intro pins s σ H x y v u Q I rx ry h
  obtain ⟨a, k, rfl, rfl, h1, h2, h3, h4, q⟩ := h
  obtain ⟨t, rfl⟩ := rx
  obtain ⟨t', rfl⟩ := ry
  have e1 : ¬ k < 1 := by omega
  have e2 : (k == 1 || a.length == 0) = false := by
    rw [Bool.or_eq_false_iff]
    exact ⟨by simp; omega, by simp; omega⟩
  have hl : a.length * k.toNat ≤ 1000 * 1000 := Nat.mul_le_mul h4 (by omega)
  refine PySem.P.mul_str ?_ (fun _ _ => ?_) (fun _ _ => ?_) ?_
  · rw [Bool.or_eq_false_iff]
    exact ⟨decide_eq_false (by omega), decide_eq_false (by omega)⟩
  · have h5 : (1000 : Int) ≤ (2 ^ 63 - 1) / k := (Int.le_ediv_iff_mul_le (by omega)).mpr (by omega)
    omega
  · unfold Builtin.Str.tooLong
    have : sizeLine = 16777216 := by decide
    exact decide_eq_false (by omega)
  · rw [if_neg e1, if_neg (by rw [e2]; exact Bool.false_ne_true)]
    refine ⟨?_, .str _, H, I.tok _, ⟨_, rfl⟩, q⟩
    show (List.foldl (fun x1 x2 => x1 ++ x2) #[] (List.replicate k.toNat a.cps)).size ≤ sizeLine
    have key : ∀ (n : Nat) (acc : Array Nat), (List.foldl (fun x1 x2 => x1 ++ x2) acc (List.replicate n a.cps)).size = acc.size + a.cps.size * n := by
      intro n
      induction n with
      | zero => intro acc; simp
      | succ n ih =>
        intro acc
        rw [List.replicate_succ, List.foldl_cons, ih, Array.size_append, Nat.mul_add]
        omega
    rw [key]
    have e3 : a.cps.size = a.length := rfl
    have : sizeLine = 16777216 := by decide
    rw [e3]
    simp
    omega
def opMulS : M → M → Sto → Option M := fun x y S => match x, y with
  | .d (.str a), .d (.int k) => if 2 ≤ k ∧ k ≤ 1000 ∧ a.length ≠ 0 ∧ a.length ≤ 1000 then some (.d (.str ⟨(List.replicate k.toNat a.cps).foldl (· ++ ·) #[]⟩)) else none
  | _, _ => opMul x y S
def rrMulS (K : PySem.W.Frag) : R2 := fun x y H Q => rRepS x y H Q ∨ rrMul K x y H Q
theorem o_mulS {X : Cx} : OpR X (binaryOp .Mult) (rrMulS X.K) := op_repS.or o_mul
theorem s_mulS {K : PySem.W.Frag} {g : Cfg} : Snd2 K g (rrMulS K) opMulS := by
  intro ph r S H m1 m2 m v1 v2 Q so a1 a2 h k
  unfold opMulS at h
  split at h
  · cases a1; cases a2
    split at h
    · rename_i hz
      cases h
      exact .inl ⟨_, _, rfl, rfl, hz.1, hz.2.1, hz.2.2.1, hz.2.2.2, k r H _ (.refl _ _) so (.str _)⟩
    · cases h
  · exact .inr (s_mul ph r S H m1 m2 m v1 v2 Q so a1 a2 h k)
/-! ### o.count(x), o.index(x) -/
def cntOk (ds : List PyData) (d : PyData) : Bool := PyData.plainAll ds && (d.plain && (decide (PyData.depthAll ds ≤ 50) || decide (d.depth ≤ 50)))
/-- a list (false), a tuple (true) -/
def kindM (m : M) (S : Sto) : Option Bool := match m with
  | .d (.list _) => some false
  | .d (.tuple _) => some true
  | .ro _ => some false
  | .loc n => if isL S n then some false else none
  | _ => none
def eMeth (op : M → M → Sto → Option M) (fo fa : Env1 → Sto → R M) : Env1 → Sto → R M := fun e S => (fo e S).bind fun o S1 => match kindM o S1 with
  | some _ => (fa e S1).bind fun x S2 => lift (op o x S2) S2
  | none => .bad
def rCntG (q : Bool) (K : PySem.W.Frag) : V → List V → Hp → VK → Prop := fun x xs H Q => ∃ (p : Addr) (y : V) (d : PyData) (ds : List PyData) (vs : List V) (B B' : List Addr), x = .ref p ∧ xs = [y] ∧ (if q = true then SqT K H p vs else SqL K H p vs) ∧ DrAll K B H vs ds ∧ Dr K B' H y d ∧ cntOk ds d = true ∧ Q (.int ((ds.countP fun z => PyData.eqv z d : Nat) : Int)) H
section
variable {X : Cx}
theorem mt_cntT (hu : X.A.units + 64 < cLine) (hS : ∃ o, X.base.get? sysModules = some o) : MtR X "tuple.count" (rCntG true X.K) := by
  intro pins s σ H x xs v us Q I rx rxs h
  obtain ⟨p, y, d, ds, vs, B, B', rfl, rfl, hs, ha, hd, hc, q⟩ := h
  cases rx
  obtain ⟨u, rfl, ru⟩ := rxs.one
  obtain ⟨o, ho⟩ := hS
  have hn := (I.bs _ _ ho).2
  unfold cntOk at hc
  rw [Bool.and_eq_true, Bool.and_eq_true, Bool.or_eq_true, decide_eq_true_eq, decide_eq_true_eq] at hc
  obtain ⟨c1, c2, c3⟩ := hc
  obtain ⟨its, rv, hl, hz⟩ := I.tuple hs
  obtain ⟨as, r1, _⟩ := DrAll.reads I hn ha rv
  obtain ⟨bs, r2, _⟩ := Dr.reads I hn hd ru
  refine SeqAt.count_tuple_data hl (by simpa using r1) r2 c1 c2 (by omega) ?_
  exact ⟨.int _, H, I.tok _, ⟨_, rfl⟩, q⟩
theorem mt_cntL (hu : X.A.units + 64 < cLine) (hS : ∃ o, X.base.get? sysModules = some o) : MtR X "list.count" (rCntG false X.K) := by
  intro pins s σ H x xs v us Q I rx rxs h
  obtain ⟨p, y, d, ds, vs, B, B', rfl, rfl, hs, ha, hd, hc, q⟩ := h
  cases rx
  obtain ⟨u, rfl, ru⟩ := rxs.one
  obtain ⟨o, ho⟩ := hS
  have hn := (I.bs _ _ ho).2
  unfold cntOk at hc
  rw [Bool.and_eq_true, Bool.and_eq_true, Bool.or_eq_true, decide_eq_true_eq, decide_eq_true_eq] at hc
  obtain ⟨c1, c2, c3⟩ := hc
  obtain ⟨its, rv, hl, hz⟩ := I.list hs
  obtain ⟨as, r1, _⟩ := DrAll.reads I hn ha rv
  obtain ⟨bs, r2, _⟩ := Dr.reads I hn hd ru
  refine SeqAt.count_list_data hl.isList (by simpa using r1) r2 c1 c2 (by omega) ?_
  exact ⟨.int _, H, I.tok _, ⟨_, rfl⟩, q⟩
end
section
variable {X : Cx} {g : Cfg} {W : WX} {o a : Expr} {fo fa : Env1 → Sto → R M}
/-- what such a method's rule asks of the mirror's op -/
def SndM (K : PySem.W.Frag) (g : Cfg) (rr : Bool → V → List V → Hp → VK → Prop) (op : M → M → Sto → Option M) : Prop := ∀ (ph r : List Addr) (S : Sto) (H : Hp) (m1 m2 m : M) (v1 v2 : V) (q : Bool) (Q : VK), So K g ph r S H → Mv K g ph r H m1 v1 → Mv K g ph r H m2 v2 → kindM m1 S = some q → op m1 m2 S = some m →
  (∀ r' H' v, Ext r H r' H' → So K g ph r' S H' → Mv K g ph r' H' m v → Q v H') → rr q v1 [v2] H Q
theorem kind_ty {K : PySem.W.Frag} {ph r : List Addr} {S : Sto} {H : Hp} {m : M} {v : V} {q : Bool} (so : So K g ph r S H) (mv : Mv K g ph r H m v) (h : kindM m S = some q) : (q = false ∧ tyV K "list" v H) ∨ (q = true ∧ isTy K v H) := by
  cases m with
  | d x =>
    cases x with
    | list xs =>
      cases h
      obtain ⟨p, vs, rfl, h1, t⟩ := seqM_ok so mv (show seqM (.d (.list xs)) S = some (false, xs) from rfl)
      exact .inl ⟨rfl, .inl ⟨rfl, vs, h1⟩⟩
    | tuple xs =>
      cases h
      exact .inr ⟨rfl, Dr.isTy mv⟩
    | _ => cases h
  | ro xs =>
    cases h
    obtain ⟨p, vs, rfl, h1, t⟩ := seqM_ok so mv (show seqM (.ro xs) S = some (false, xs) from rfl)
    exact .inl ⟨rfl, .inl ⟨rfl, vs, h1⟩⟩
  | loc n =>
    have h : (if isL S n then some false else none) = some q := h
    split at h
    · rename_i hl
      cases h
      exact .inl ⟨rfl, isL_ty so mv hl⟩
    · cases h
  | _ => cases h
/-- after more has been made the kind is the same -/
def kindOk (m : M) (S S2 : Sto) : Prop := ∀ q, kindM m S = some q → kindM m S2 = some q ∨ kindM m S2 = none
theorem kind_two {m : M} {S S2 : Sto} {q q2 : Bool} (h : kindM m S = some q) (h2 : kindM m S2 = some q2) : q = q2 := by
  cases m with
  | d x => cases x <;> first | (cases h; cases h2; rfl) | cases h
  | ro xs => cases h; cases h2; rfl
  | loc n =>
    have h : (if isL S n then some false else none) = some q := h
    have h2 : (if isL S2 n then some false else none) = some q2 := h2
    split at h
    · split at h2
      · cases h; cases h2; rfl
      · cases h2
    · cases h
  | _ => cases h
theorem me_meth {name : Str} {apos cpos : Pos} {idl idt : String} {rr : Bool → V → List V → Hp → VK → Prop} {op : M → M → Sto → Option M} (hop : SndM X.K g rr op) (hk : ∀ m1 m2 m S, op m1 m2 S = some m → (kindM m1 S).isSome = true)
    (sl : Slot "list" name idl) (tl : typeOf (.builtin idl) = pure (.type "method_descriptor")) (ml : MtR X idl (rr false))
    (st : Slot "tuple" name idt) (tt : typeOf (.builtin idt) = pure (.type "method_descriptor")) (mt : MtR X idt (rr true)) (ho : ME X g W o fo) (ha : ME X g W a fa)
    (hbase : attributeBase o name X.env (eval o X.env) = eval o X.env := by rfl)
    (hfew : ((backTo cpos (starEach (a :: []) X.env)).all (fun x => !x.1) && (backToKw cpos (keywordEach [] X.env)).all (fun x => x.1.isSome)
      && decide ((a :: []).length + ([] : List Keyword).length + (if ([] : List Keyword).isEmpty then 0 else 1) < 30)) = true := by rfl)
    (hline : (apos.endLine == cpos.line) = true := by rfl) (hst : starEach (a :: []) X.env = (false, eval a X.env) :: starEach [] X.env := by rfl) (hplain : (backTo cpos (starEach [] X.env)).any (·.1) = false := by rfl) :
    ME X g W (.Call (.Attribute o name apos) [a] [] cpos) (eMeth op fo fa) := by
  refine PE.of (pe_sqm sl tl ml st tt mt ho (pa_cons ha pa_nil hst) hbase hfew hline hst hplain) fun s H Q h => ?_
  obtain ⟨ph, r, S, e, so, ev, h⟩ := h
  refine tG.bind so ev h fun ob vo S1 r1 H1 x1 so1 ev1 m1 h1 => ?_
  cases q : kindM ob S1 with
  | none => rw [q] at h1; exact h1.elim
  | some b =>
    rw [q] at h1
    have go : ∀ b', b = b' → tM X.K g W fa s H1 (fun v H2 => rr b' vo [v] H2 Q) := fun b' eb => by
      subst eb
      refine tG.bind so1 ev1 h1 fun v vv S2 r2 H2 x2 so2 ev2 m2 h2 => ?_
      cases q2 : op ob v S2 with
      | none => rw [q2] at h2; exact h2.elim
      | some z =>
        rw [q2] at h2
        have k2 := hk _ _ _ _ q2
        obtain ⟨b2, hb2⟩ := Option.isSome_iff_exists.mp k2
        rw [← kind_two q hb2] at hb2
        exact hop ph r2 S2 H2 ob v z vo vv b Q so2 (Mv.mono x2 m1) m2 hb2 q2 h2
    rcases kind_ty so1 m1 q with ⟨eb, ty⟩ | ⟨eb, ty⟩
    · exact .inl ⟨ty, go false eb⟩
    · exact .inr ⟨ty, go true eb⟩
def opCnt : M → M → Sto → Option M := fun o x S => match seqM o S, dOf x with
  | some (_, ds), some d => if cntOk ds d then some (.d (.int ((ds.countP fun z => PyData.eqv z d : Nat) : Int))) else none
  | _, _ => none
theorem seq_kind {m : M} {S : Sto} {b : Bool} {ds : List PyData} (h : seqM m S = some (b, ds)) : kindM m S = some b := by
  cases m with
  | d x => cases x <;> first | (cases h; rfl) | cases h | (have h := Option.some.inj h; have h := (Prod.mk.inj h).1; rw [← h]; rfl)
  | ro xs => cases h; rfl
  | loc n =>
    have h : (match S[n]? with
      | some (.lst xs) => (dsOf xs).map fun ds => (false, ds)
      | _ => none) = some (b, ds) := h
    show (if isL S n then some false else none) = some b
    unfold isL
    split at h
    · rename_i xs q
      obtain ⟨ds', q2, q3⟩ := Option.map_eq_some_iff.mp h
      cases q3
      first | rfl | (rw [q]; rfl)
    · cases h
  | _ => cases h
theorem s_cnt : SndM X.K g (fun q => rCntG q X.K) opCnt := by
  intro ph r S H m1 m2 m v1 v2 q Q so a1 a2 hk h k
  unfold opCnt at h
  split at h
  · rename_i b ds d q1 q2
    split at h
    · rename_i hz
      cases h
      have e := seq_kind q1
      rw [hk] at e
      cases e
      obtain ⟨p, vs, rfl, h1, t⟩ := seqM_ok so a1 q1
      cases m2 with
      | d x =>
        cases q2
        exact ⟨p, v2, _, ds, vs, _, _, rfl, rfl, h1, t, a2, hz, k r H _ (.refl _ _) so (.int _)⟩
      | _ => cases q2
    · cases h
  · cases h
theorem k_cnt (m1 m2 m : M) (S : Sto) (h : opCnt m1 m2 S = some m) : (kindM m1 S).isSome = true := by
  unfold opCnt at h
  split at h
  · rename_i b ds d q1 q2
    rw [seq_kind q1]
    rfl
  · cases h
theorem me_count {apos cpos : Pos} (hu : X.A.units + 64 < cLine) (hS : ∃ o, X.base.get? sysModules = some o) (ho : ME X g W o fo) (ha : ME X g W a fa)
    (hbase : attributeBase o "count" X.env (eval o X.env) = eval o X.env := by rfl)
    (hfew : ((backTo cpos (starEach (a :: []) X.env)).all (fun x => !x.1) && (backToKw cpos (keywordEach [] X.env)).all (fun x => x.1.isSome)
      && decide ((a :: []).length + ([] : List Keyword).length + (if ([] : List Keyword).isEmpty then 0 else 1) < 30)) = true := by rfl)
    (hline : (apos.endLine == cpos.line) = true := by rfl) (hst : starEach (a :: []) X.env = (false, eval a X.env) :: starEach [] X.env := by rfl) (hplain : (backTo cpos (starEach [] X.env)).any (·.1) = false := by rfl) :
    ME X g W (.Call (.Attribute o "count" apos) [a] [] cpos) (eMeth opCnt fo fa) :=
  me_meth s_cnt k_cnt PySem.F.slot_list_count PySem.F.type_list_count (mt_cntL hu hS) PySem.F.slot_tuple_count PySem.F.type_tuple_count (mt_cntT hu hS) ho ha hbase hfew hline hst hplain
end
end Mr

end
section
set_option maxRecDepth 100000
set_option autoImplicit false
namespace Mr
open PySem PySem.Spec L2 MrT
open PyProof.Rows hiding St

/-! ### xs.extend(ys), xs.pop(i) -/
section
variable {X : Cx} {g : Cfg} {W : WX} {o a : Expr} {fo fa : Env1 → Sto → R M}
def eExt (fo fa : Env1 → Sto → R M) : Env1 → Sto → R M := fun e S => (fo e S).bind fun o S1 => match o with
  | .loc n => if isL S1 n then (fa e S1).bind fun v S2 => match S2[n]?, v with
    | some (.lst xs), .d (.list ds) => if xs.length + ds.length ≤ sizeLine then .ok (.d .none) (S2.set n (.lst (xs ++ ds.map .d))) else .bad
    | _, _ => .bad
    else .bad
  | _ => .bad
theorem me_ext {apos cpos : Pos} (ho : ME X g W o fo) (ha : ME X g W a fa)
    (hbase : attributeBase o "extend" X.env (eval o X.env) = eval o X.env := by rfl)
    (hfew : ((backTo cpos (starEach (a :: []) X.env)).all (fun x => !x.1) && (backToKw cpos (keywordEach [] X.env)).all (fun x => x.1.isSome) && decide ((a :: []).length + ([] : List Keyword).length + (if ([] : List Keyword).isEmpty then 0 else 1) < 30)) = true := by rfl)
    (hline : (apos.endLine == cpos.line) = true := by rfl) (hst : starEach (a :: []) X.env = (false, eval a X.env) :: starEach [] X.env := by rfl) (hplain : (backTo cpos (starEach [] X.env)).any (·.1) = false := by rfl) :
    ME X g W (.Call (.Attribute o "extend" apos) [a] [] cpos) (eExt fo fa) := by
  refine PE.of (pe_bm PySem.F.plainAttrs_list PySem.F.slot_list_extend PySem.F.type_list_extend mt_extend ho (pa_cons ha pa_nil hst) hbase hfew hline hst hplain) fun s H Q h => ?_
  obtain ⟨ph, r, S, e, so, ev, h⟩ := h
  refine tG.bind so ev h fun ob vo S1 r1 H1 x1 so1 ev1 m1 h1 => ?_
  cases ob with
  | loc n =>
    simp only at h1
    split at h1
    · rename_i hl
      refine ⟨isL_ty so1 m1 hl, ?_⟩
      refine tG.bind so1 ev1 h1 fun v vv S2 r2 H2 x2 so2 ev2 m2 h2 => ?_
      have mo := Mv.mono x2 m1
      cases q : S2[n]? with
      | none => rw [q] at h2; exact h2.elim
      | some x =>
        rw [q] at h2
        cases x with
        | dct kvs => exact h2.elim
        | lst xs =>
          cases v with
          | d z =>
            cases z with
            | list ds =>
              simp only at h2
              split at h2
              · rename_i hz
                obtain ⟨p, u, rfl, hr, hp, ov⟩ := own_at so2 mo q
                cases u with
                | lst vs =>
                  have kp : Paired (Mv X.K g ph r2 H2) xs vs := ov
                  cases m2 with
                  | @lst b zs _ hb nb t =>
                    refine ⟨p, b, vs, zs, rfl, rfl, hp, hb, by rw [← Paired.len' kp, t.length]; exact hz, ?_⟩
                    have pin : p ∈ r2 := List.mem_of_getElem? hr
                    refine h2 r2 _ _ (.put pin) (so2.put hr hp (fun _ z => by cases z) (fun _ z => by cases z) ?_) .non
                    exact Paired.append' kp (pairs_d rfl t)
                | _ => exact ov.elim
              · exact h2.elim
            | _ => exact h2.elim
          | _ => exact h2.elim
    · exact h1.elim
  | _ => exact h1.elim
def ePopAt (fo fa : Env1 → Sto → R M) : Env1 → Sto → R M := fun e S => (fo e S).bind fun o S1 => match o with
  | .loc n => if isL S1 n then (fa e S1).bind fun v S2 => match S2[n]?, asI v with
    | some (.lst xs), some i => if -(2 ^ 63) ≤ i ∧ i < 2 ^ 63 then match ixN xs.length i with
      | some k => match xs[k]? with
        | some y => .ok y (S2.set n (.lst (xs.eraseIdx k)))
        | none => .bad
      | none => .bad
      else .bad
    | _, _ => .bad
    else .bad
  | _ => .bad
theorem erase_pair {α β : Type} {P : α → β → Prop} : ∀ {xs : List α} {ys : List β}, Paired P xs ys → ∀ k, Paired P (xs.eraseIdx k) (ys.eraseIdx k)
  | _, _, .nil, _ => .nil
  | _, _, .cons _ t, 0 => t
  | _, _, .cons a t, k + 1 => .cons a (erase_pair t k)
theorem me_popAt {apos cpos : Pos} (ho : ME X g W o fo) (ha : ME X g W a fa)
    (hbase : attributeBase o "pop" X.env (eval o X.env) = eval o X.env := by rfl)
    (hfew : ((backTo cpos (starEach (a :: []) X.env)).all (fun x => !x.1) && (backToKw cpos (keywordEach [] X.env)).all (fun x => x.1.isSome) && decide ((a :: []).length + ([] : List Keyword).length + (if ([] : List Keyword).isEmpty then 0 else 1) < 30)) = true := by rfl)
    (hline : (apos.endLine == cpos.line) = true := by rfl) (hst : starEach (a :: []) X.env = (false, eval a X.env) :: starEach [] X.env := by rfl) (hplain : (backTo cpos (starEach [] X.env)).any (·.1) = false := by rfl) :
    ME X g W (.Call (.Attribute o "pop" apos) [a] [] cpos) (ePopAt fo fa) := by
  refine PE.of (pe_bm PySem.F.plainAttrs_list PySem.F.slot_list_pop PySem.F.type_list_pop mt_popAt ho (pa_cons ha pa_nil hst) hbase hfew hline hst hplain) fun s H Q h => ?_
  obtain ⟨ph, r, S, e, so, ev, h⟩ := h
  refine tG.bind so ev h fun ob vo S1 r1 H1 x1 so1 ev1 m1 h1 => ?_
  cases ob with
  | loc n =>
    simp only at h1
    split at h1
    · rename_i hl
      refine ⟨isL_ty so1 m1 hl, ?_⟩
      refine tG.bind so1 ev1 h1 fun v vv S2 r2 H2 x2 so2 ev2 m2 h2 => ?_
      have mo := Mv.mono x2 m1
      cases q : S2[n]? with
      | none => rw [q] at h2; exact h2.elim
      | some x =>
        rw [q] at h2
        cases x with
        | dct kvs => cases q3 : asI v <;> rw [q3] at h2 <;> exact h2.elim
        | lst xs =>
          cases q3 : asI v with
          | none => rw [q3] at h2; exact h2.elim
          | some i =>
            rw [q3] at h2
            simp only at h2
            split at h2
            · rename_i hz
              cases q4 : ixN xs.length i with
              | none => rw [q4] at h2; exact h2.elim
              | some k =>
                rw [q4] at h2
                simp only at h2
                cases q5 : xs[k]? with
                | none => rw [q5] at h2; exact h2.elim
                | some y =>
                  rw [q5] at h2
                  obtain ⟨p, u, rfl, hr, hp, ov⟩ := own_at so2 mo q
                  cases u with
                  | lst vs =>
                    have kp : Paired (Mv X.K g ph r2 H2) xs vs := ov
                    obtain ⟨y', hy, my⟩ := get_rel kp q5
                    have ei := asI_v m2 q3
                    subst ei
                    have lk : xs.length = vs.length := Paired.len' kp
                    refine ⟨p, vs, i, k, y', rfl, rfl, hp, hz.1, hz.2, by rw [← lk]; exact (ixN_seq q4).1, hy, ?_⟩
                    have pin : p ∈ r2 := List.mem_of_getElem? hr
                    exact h2 r2 _ _ (.put pin) (so2.put hr hp (fun _ z => by cases z) (fun _ z => by cases z) (show Ov X.K g ph r2 H2 (.lst (xs.eraseIdx k)) (.lst (vs.eraseIdx k)) from erase_pair kp k)) (my.mono (.put pin))
                  | _ => exact ov.elim
            · exact h2.elim
    · exact h1.elim
  | _ => exact h1.elim
end
/-! ### range(a, b), range(a, b, c) -/
section
variable {X : Cx} {g : Cfg} {W : WX} {tg a b c : Expr} {fs : Env1 → Sto → R (List M)} {p pos : Pos}
def iRng2 (f : Env1 → Sto → R (List M)) : Env1 → Sto → R (List M) := fun e S => (f e S).bind fun ms S1 => match ms with
  | [x, y] => match asI x, asI y with
    | some i, some j => if -(2 ^ 62) ≤ i ∧ i < 2 ^ 62 ∧ -(2 ^ 62) ≤ j ∧ j < 2 ^ 62 then .ok (rngL i (j - i).toNat) S1 else .bad
    | _, _ => .bad
  | _ => .bad
theorem mi_rng2 (hm : X.mg "range" = none) (ha : MA X g W [a, b] fs) (hg : Gl X "range" := by rfl) (hs : starEach [a, b] X.env = [(false, eval a X.env), (false, eval b X.env)] := by rfl) (hs2 : starEach [b] X.env = [(false, eval b X.env)] := by rfl) : MI X g W tg (.Call (.Name "range" p) [a, b] [] pos) (iRng2 fs) := by
  refine PI.of (L2.pi_range2 hg hm ha hs hs2) fun s H R h => ?_
  obtain ⟨ph, r, S, e, so, ev, h⟩ := h
  refine ⟨ph, r, S, e, so, ev, ?_⟩
  unfold iRng2 at h
  cases q : fs e S with
  | ok ms S1 =>
    rw [q] at h
    intro r1 H1 vs x1 so1 m1
    match ms, m1, h with
    | [x, y], .cons mx (.cons my .nil), h =>
      simp only [Mr.R.bind] at h
      cases q1 : asI x with
      | none => rw [q1] at h; exact h.elim
      | some i =>
        cases q2 : asI y with
        | none => rw [q1, q2] at h; exact h.elim
        | some j =>
          rw [q1, q2] at h
          simp only at h
          have e1 := asI_v mx q1
          have e2 := asI_v my q2
          subst e1 e2
          split at h
          · rename_i hz
            exact ⟨i, j, rfl, hz, h r1 H1 _ x1 so1 fun ph' _ _ => goes_rng i _⟩
          · exact h.elim
    | [], _, h => exact h.elim
    | [_], _, h => exact h.elim
    | _ :: _ :: _ :: _, _, h => exact h.elim
  | rz c y S1 => rw [q] at h; exact h
  | bad => rw [q] at h; exact h
def rngC (lo c : Int) (n : Nat) : List M := (List.range n).map fun (k : Nat) => M.d (.int (lo + (k : Int) * c))
def iRng3 (f : Env1 → Sto → R (List M)) : Env1 → Sto → R (List M) := fun e S => (f e S).bind fun ms S1 => match ms with
  | [x, y, z] => match asI x, asI y, asI z with
    | some i, some j, some c => if c ≠ 0 ∧ c.natAbs < 1073741824 ∧ Builtin.Range.small i j c = true then .ok (rngC i c (Builtin.Range.rangeSize i j c).toNat) S1 else .bad
    | _, _, _ => .bad
  | _ => .bad
theorem goes_rngC {K : PySem.W.Frag} {ph r : List Addr} {H : Hp} (lo c : Int) (n : Nat) : Goes K g ph r H (rngC lo c n) (Itc lo c n) := by
  intro r' S' H' x so i
  refine ⟨fun m hm => ?_, fun h => ?_⟩
  · unfold rngC at hm
    rw [List.getElem?_map] at hm
    obtain ⟨k, hk, rfl⟩ := Option.map_eq_some_iff.mp hm
    have q := List.getElem?_eq_some_iff.mp hk
    obtain ⟨q1, q2⟩ := q
    rw [List.getElem_range] at q2
    subst q2
    rw [List.length_range] at q1
    refine ⟨q1, fun y H2 hy => ?_⟩
    obtain ⟨rfl, rfl⟩ := hy
    exact ⟨.refl _ _, so, .int _⟩
  · unfold rngC at h
    rw [List.length_map, List.length_range] at h
    exact h
end
end Mr

end
section
set_option maxRecDepth 100000
set_option autoImplicit false
namespace Mr
open PySem PySem.Spec L2 MrT
open PyProof.Rows hiding St

/-! ### comprehensions, the new list owned -/
def toO : M → Sto → R M := fun m S => match m with
  | .d (.list xs) => .ok (.loc S.length) (S ++ [.lst (xs.map .d)])
  | _ => .bad
def eLcO (vs : List Nat) (fi : Env1 → Sto → R (List M)) (ft : M → Env1 → Option Env1) (tt : Env1 → Sto → R Bool) (fe : Env1 → Sto → R M) : Env1 → Sto → R M := fun e S => (fi e S).bind fun items S1 => (lcL ft tt fe items (wipeE e vs) S1 []).bind toO
section
variable {X : Cx} {g : Cfg} {W : WX} {pos : Pos}
theorem tLcO_of {own : List Nat} {fi : Env1 → Sto → R (List M)} {ft : M → Env1 → Option Env1} {ftt : Env1 → Sto → R Bool} {fe : Env1 → Sto → R M} {K : PySem.W.Frag} (s : L2.St) (H : Hp) (Q : VK) (h : tM K g W (eLcO own fi ft ftt fe) s H Q) :
    tLc (tMI K g W fi) (tMG K g own ft) (tMT K g W0 ftt) (tM K g W0 fe) own s H Q := by
  obtain ⟨ph, r, S, e, so, ev, h⟩ := h
  refine tG.bind so ev h fun items J S1 r1 H1 x1 so1 ev1 m1 h1 => ?_
  intro D hD
  have hm : ∀ a, a ∈ D :: ph → a ∈ ph ∨ H1 a = none := fun a ha => by
    rcases List.mem_cons.mp ha with z | z
    · rw [z]; exact .inr hD
    · exact .inl z
  have hl : ∀ a, a ∈ ph → a ∈ D :: ph := fun a ha => List.mem_cons_of_mem _ ha
  have G := m1 (D :: ph) hl hm
  have ev2 : Ev K g (D :: ph) r1 H1 (wipeE e own) (L2.wipe s own) := (ev1.more hm hl).wipe own
  refine ⟨fun i m H' => ∃ r' S' acc va, Ext r1 H1 r' H' ∧ So K g (D :: ph) r' S' H' ∧ H' D = some (.lst va) ∧ DrAll K ((D :: ph) ++ r') H' va acc ∧ i ≤ items.length ∧ m = items.length - i ∧
    Post PV K g (fun c d H' => W c d s H') ph r1 H1 ((lcL ft ftt fe (items.drop i) (wipeE e own) S' acc).bind toO) Q, ⟨items.length, r1, S1, [], [], Ext.new hD, so1.more hD, upd_same, .nil, Nat.zero_le _, rfl, h1⟩, ?_⟩
  rintro i m H' ⟨r', S', acc, va, x', so', eD, da, hi', rfl, h'⟩
  obtain ⟨G1, G2⟩ := G r' S' H' x' so' i
  by_cases hlt : i < items.length
  · have hd : items.drop i = items[i] :: items.drop (i + 1) := List.drop_eq_getElem_cons hlt
    rw [hd] at h'
    obtain ⟨g1, g2⟩ := G1 items[i] (List.getElem?_eq_getElem hlt)
    refine .inr ⟨g1, fun H2 => ∃ r2 S2 acc2 va2, Ext r1 H1 r2 H2 ∧ So K g (D :: ph) r2 S2 H2 ∧ H2 D = some (.lst va2) ∧ DrAll K ((D :: ph) ++ r2) H2 va2 acc2 ∧
      Post PV K g (fun c d H' => W c d s H') ph r1 H1 ((lcL ft ftt fe (items.drop (i + 1)) (wipeE e own) S2 acc2).bind toO) Q, fun H2 hN => ?_, fun x H2 hy => ?_⟩
    · obtain ⟨r2, S2, acc2, va2, y2, so2, e2, d2, h2⟩ := hN
      exact ⟨items.length - (i + 1), by omega, r2, S2, acc2, va2, y2, so2, e2, d2, hlt, rfl, h2⟩
    · obtain ⟨y, so2, mv⟩ := g2 x H2 hy
      unfold lcL at h'
      cases q : ft items[i] (wipeE e own) with
      | none => rw [q] at h'; exact h'.elim
      | some e2 =>
        rw [q] at h'
        dsimp only at h'
        refine ⟨D :: ph, r', S', wipeE e own, items[i], e2, so2, ev2.mono (x'.trans y), mv, q, fun r3 H3 s3 y3 so3 ev3 off => ⟨?_, ?_⟩⟩
        · exact off.wipe.trans ((wipe_off s own).wipe)
        · have keepD : ∀ {r r' : List Addr} {H H' : Hp} {S : Sto} {va : List V}, So K g (D :: ph) r S H → Ext r H r' H' → H D = some (.lst va) → H' D = some (.lst va) := fun so x e => x.keep D _ e (so.dis D List.mem_cons_self) (fun _ z => by cases z)
          have e3 := keepD so2 y3 (keepD so' y eD)
          have d3 : DrAll K ((D :: ph) ++ r3) H3 va acc := DrAll.mono y3 (DrAll.mono y da)
          have x3 := x'.trans (y.trans y3)
          refine ⟨D :: ph, r3, S', e2, so3, ev3, ?_⟩
          cases q2 : ftt e2 S' with
          | ok b S4 =>
            rw [q2] at h'
            intro r4 H4 b' y4 so4 eb
            cases eb
            have e4 := keepD so3 y4 e3
            have d4 : DrAll K ((D :: ph) ++ r4) H4 va acc := DrAll.mono y4 d3
            cases b with
            | false => exact ⟨r4, S4, acc, va, x3.trans y4, so4, e4, d4, h'⟩
            | true =>
              simp only [R.nox, R.bind, if_true] at h'
              rw [if_pos rfl]
              refine ⟨D :: ph, r4, S4, e2, so4, ev3.mono y4, ?_⟩
              cases q5 : fe e2 S4 with
              | ok m5 S5 =>
                rw [q5] at h'
                intro r5 H5 v5 y5 so5 m5'
                have e5 := keepD so4 y5 e4
                have d5 : DrAll K ((D :: ph) ++ r5) H5 va acc := DrAll.mono y5 d4
                cases m5 with
                | d y6 =>
                  dsimp only at h'
                  by_cases hz : acc.length < sizeLine
                  · rw [if_pos hz] at h'
                    have hin : D ∈ (D :: ph) ++ r5 := List.mem_append_left _ List.mem_cons_self
                    refine ⟨va, e5, by rw [d5.length]; exact hz, r5, S5, acc ++ [y6], va ++ [v5], (x3.trans (y4.trans y5)).over hD, so5.shut List.mem_cons_self e5 (fun _ z => by cases z) (fun _ z => by cases z), upd_same, ?_, h'⟩
                    exact (DrAll.shut hin d5).snoc (Dr.shut hin m5')
                  · rw [if_neg hz] at h'; exact h'.elim
                | _ => exact h'.elim
              | rz c x S => rw [q5] at h'; exact h'.elim
              | bad => rw [q5] at h'; exact h'.elim
          | rz c x S => rw [q2] at h'; exact h'.elim
          | bad => rw [q2] at h'; exact h'.elim
  · have e0 : items.drop i = [] := List.drop_of_length_le (by omega)
    rw [e0] at h'
    have kp : Paired (Mv K g (D :: ph) r' H') (acc.map .d) va := pairs_d rfl da
    have hDn : D ∉ ph := fun z => by
      obtain ⟨o, e, _⟩ := so1.there D z
      rw [hD] at e; cases e
    have eu : upd H' D (.lst va) = H' := by
      funext b
      unfold upd
      split
      · rename_i hb
        rw [hb, eD]
      · rfl
    have so2 : So K g ph (r' ++ [D]) (S' ++ [.lst (acc.map .d)]) (upd H' D (.lst va)) := so'.adopt hDn eD (fun _ z => by cases z) (fun _ z => by cases z) (by
      rw [eu]
      exact Paired.mapP kp fun _ _ z => Mv.adopt z)
    rw [eu] at so2
    have hrD : ∀ o, H1 D = some o → ∃ ps, o = HO.tbl ps := fun o z => by rw [hD] at z; cases z
    have x2 : Ext r1 H1 (r' ++ [D]) H' := by
      obtain ⟨l, e, hl2⟩ := x'.pre
      refine ⟨x'.keep, x'.stay, l ++ [D], by rw [e, List.append_assoc], fun b hb o ho => ?_⟩
      rcases List.mem_append.mp hb with z | z
      · exact hl2 b z o ho
      · rw [List.mem_singleton.mp z] at ho
        exact hrD o ho
    refine .inl ⟨G2 (by omega), h' _ H' (.ref D) x2 so2 ⟨D, ?_, rfl⟩⟩
    rw [List.getElem?_append_right (by rw [so'.len]; exact Nat.le_refl _), so'.len]
    simp
variable {elt tg iter : Expr} {ifs : List Expr} {scope : Scope} {own : List (Str × Nat)} {fi : Env1 → Sto → R (List M)} {ft : M → Env1 → Option Env1} {ftt : Env1 → Sto → R Bool} {fe : Env1 → Sto → R M}
theorem me_lcO (hc : X.calm = true) (hN : X.N.Nodup) (hi : MI X g W tg iter fi) (ok : BlkOk X.N X.env.scope scope own)
    (hg : ∀ (s : Shared) (H : Hp) (C : Addr) (cl : List (Str × Addr)) (fp : List Addr), MG (X.blk s H scope (compEnvC scope cl C X.env) fp) g (own.map (·.2)) tg ft) (ht : ∀ (s : Shared) (H : Hp) (C : Addr) (cl : List (Str × Addr)) (fp : List Addr), MTs (X.blk s H scope (compEnvC scope cl C X.env) fp) g W0 ifs ftt)
    (he : ∀ (s : Shared) (H : Hp) (C : Addr) (cl : List (Str × Addr)) (fp : List Addr), ME (X.blk s H scope (compEnvC scope cl C X.env) fp) g W0 elt fe) (hs : ∀ x, foldedSetIterable iter X.env x = pure x := by intro _; rfl) :
    ME X g W (.ListComp elt [⟨tg, iter, ifs, 0⟩] scope pos) (eLcO (own.map (·.2)) fi ft ftt fe) := PE.of (pe_lc hc hN hi ok hg ht he hs) tLcO_of
theorem ms_setLcO (i : Nat) {y : Str} {py spos : Pos} (hc : X.calm = true) (hN : X.N.Nodup) (hi : MI X g W tg iter fi) (ok : BlkOk X.N X.env.scope scope own)
    (hg : ∀ (s : Shared) (H : Hp) (C : Addr) (cl : List (Str × Addr)) (fp : List Addr), MG (X.blk s H scope (compEnvC scope cl C X.env) fp) g (own.map (·.2)) tg ft) (ht : ∀ (s : Shared) (H : Hp) (C : Addr) (cl : List (Str × Addr)) (fp : List Addr), MTs (X.blk s H scope (compEnvC scope cl C X.env) fp) g W0 ifs ftt)
    (he : ∀ (s : Shared) (H : Hp) (C : Addr) (cl : List (Str × Addr)) (fp : List Addr), ME (X.blk s H scope (compEnvC scope cl C X.env) fp) g W0 elt fe)
    (hsw : swapsWith (.ListComp elt [⟨tg, iter, ifs, 0⟩] scope pos) (some (.Name y py)) spos.line X.env = pure true) (hy : X.N[i]? = some y := by rfl) (hyl : X.env.scope.names.lookup y = some .local := by rfl) (hs : ∀ x, foldedSetIterable iter X.env x = pure x := by intro _; rfl) :
    MS X g W (.Assign [.Name y py] (.ListComp elt [⟨tg, iter, ifs, 0⟩] scope pos) spos) (sSet i (eLcO (own.map (·.2)) fi ft ftt fe)) := by
  refine PS.of (ps_setLc (g := tMG X.K g (own.map (·.2)) ft) (tt := tMT X.K g W0 ftt) (te := tM X.K g W0 fe) hc hN hy hyl hsw hi ok hg ht he hs) fun D s H h => ?_
  obtain ⟨ph, r, S, e, so, ev, h⟩ := h
  refine tLcO_of s H _ ?_
  exact tG.bindS so ev h fun m v S1 r1 H1 x1 so1 ev1 m1 h1 => h1 r1 H1 _ (.refl _ _) so1 (ev1.set i m1)
end
end Mr

end
section
set_option maxRecDepth 100000
set_option autoImplicit false
namespace Mr
open PySem PySem.Spec L2 MrT
open PyProof.Rows hiding St

/-! ### x in a written dict -/
def keyStr : Value → Option Str
  | .str s _ => some s
  | _ => none
theorem ns_find {z : Str} : ∀ {l : List DictEntry} {ks : List Str}, l.map (fun e => keyStr e.key) = ks.map some → (l.find? (·.key.isStr z)).isSome = ks.any (· == z) ∧ l.any (·.refKey) = false
  | [], [], _ => ⟨rfl, rfl⟩
  | [], _ :: _, h => by cases h
  | _ :: _, [], h => by cases h
  | e :: l, k :: ks, h => by
    have h := List.cons.inj h
    obtain ⟨h1, h2⟩ := ns_find (z := z) h.2
    have hk : ∃ t, e.key = .str k t := by
      have q : keyStr e.key = some k := h.1
      cases ek : e.key with
      | str s t =>
        rw [ek] at q
        cases q
        exact ⟨t, rfl⟩
      | _ => rw [ek] at q; cases q
    obtain ⟨t, ek⟩ := hk
    have e1 : e.key.isStr z = (k == z) := by rw [ek]; rfl
    have e2 : e.refKey = false := by unfold DictEntry.refKey; rw [ek]
    refine ⟨?_, by rw [List.any_cons, e2, h2]; rfl⟩
    rw [List.find?_cons, e1, List.any_cons]
    cases k == z with
    | true => rfl
    | false => rw [Bool.false_or]; exact h1
theorem ns_keys {K : PySem.W.Frag} {a : Addr} {es : Array DictEntry} {n : Nat} {ks : List Str} (h1 : K.lookup a = some ⟨.type "dict", none, .dict es n, #[]⟩) (h3 : es.toList.map (fun e => keyStr e.key) = ks.map some) (z : Str) : ∃ r, PySem.W.nsIn K a z = some r ∧ r.isSome = ks.any (· == z) := by
  obtain ⟨q1, q2⟩ := ns_find (z := z) h3
  unfold PySem.W.nsIn
  rw [h1]
  dsimp only
  cases q : es.toList.find? (·.key.isStr z) with
  | some e =>
    rw [q] at q1
    exact ⟨_, rfl, by rw [← q1]; rfl⟩
  | none =>
    rw [q] at q1
    rw [q2]
    exact ⟨_, rfl, by rw [← q1]; rfl⟩
def rInKd (K : PySem.W.Frag) (a : Addr) (neg : Bool) : R2 := fun x y H Q => ∃ (z : Str) (r : Option Value), x = .str z ∧ y = .ref a ∧ PySem.W.nsIn K a z = some r ∧ Q (.bl (if neg then !r.isSome else r.isSome)) H
theorem op_inKd {X : Cx} {a : Addr} (D : ∃ es n, KDict X.K X.w a es n) : OpR X (compareOp .In) (rInKd X.K a false) := by
  obtain ⟨es, n, D⟩ := D
  exact op_in_kd D
theorem op_notInKd {X : Cx} {a : Addr} (D : ∃ es n, KDict X.K X.w a es n) : OpR X (compareOp .NotIn) (rInKd X.K a true) := by
  obtain ⟨es, n, D⟩ := D
  exact op_notIn_kd D
def opInK (neg : Bool) (a : Addr) (ks : List Str) : M → M → Sto → Option M
  | .d (.str z), .kdc b _, _ => if b = a then some (.d (.bool (if neg then !ks.any (· == z) else ks.any (· == z)))) else none
  | _, _, _ => none
theorem s_inKd {K : PySem.W.Frag} {g : Cfg} {neg : Bool} {a : Addr} {ks : List Str} (kk : ∀ z, ∃ r, PySem.W.nsIn K a z = some r ∧ r.isSome = ks.any (· == z)) : Snd2 K g (rInKd K a neg) (opInK neg a ks) := by
  intro ph r S H m1 m2 m v1 v2 Q so a1 a2 h k
  unfold opInK at h
  split at h
  · rename_i z b l
    split at h
    · rename_i e
      subst e
      cases h
      cases a1
      obtain ⟨rfl, _⟩ := a2
      obtain ⟨r2, q1, q2⟩ := kk z
      refine ⟨z, r2, rfl, rfl, q1, ?_⟩
      rw [q2]
      exact k r H _ (.refl _ _) so (.bl _)
    · cases h
  · cases h

/-! ### new lists, owned -/
section
variable {K : PySem.W.Frag} {g : Cfg} {ph r : List Addr} {H : Hp} {S : Sto}
theorem new_own {Q : VK} {vs : List V} {ms : List M} (so : So K g ph r S H) (k : ∀ r' H' v, Ext r H r' H' → So K g ph r' (S ++ [.lst ms]) H' → Mv K g ph r' H' (.loc S.length) v → Q v H') (h : Paired (Mv K g ph r H) ms vs) : ∀ p, H p = none → Q (.ref p) (upd H p (.lst vs)) := fun p hp => by
  refine k (r ++ [p]) _ _ (.own hp) (so.own hp ?_) ⟨p, by rw [← so.len, List.getElem?_append_right (Nat.le_refl _)]; simp, rfl⟩
  exact Paired.mapP h fun _ _ => Mv.mono (g := g) (Ext.own hp)
/-- [..] * k -/
def opRepO : M → M → Sto → Option (List PyData)
  | .d (.list a), .d (.int k), _ => if -(2 ^ 63) ≤ k ∧ k < 2 ^ 63 ∧ a.length * k.toNat ≤ sizeLine then some (List.replicate k.toNat a).flatten else none
  | _, _, _ => none
def e2O (op : M → M → Sto → Option (List PyData)) (a b : Env1 → Sto → R M) : Env1 → Sto → R M := fun e S => (a e S).bind fun x S1 => (b e S1).bind fun y S2 => match op x y S2 with
  | some xs => .ok (.loc S2.length) (S2 ++ [.lst (xs.map .d)])
  | none => .bad
def Snd2O (K : PySem.W.Frag) (g : Cfg) (rr : R2) (op : M → M → Sto → Option (List PyData)) : Prop := ∀ (ph r : List Addr) (S : Sto) (H : Hp) (m1 m2 : M) (xs : List PyData) (v1 v2 : V) (Q : VK), So K g ph r S H → Mv K g ph r H m1 v1 → Mv K g ph r H m2 v2 → op m1 m2 S = some xs →
  (∀ r' H' v, Ext r H r' H' → So K g ph r' (S ++ [.lst (xs.map .d)]) H' → Mv K g ph r' H' (.loc S.length) v → Q v H') → rr v1 v2 H Q
theorem s_repO : Snd2O K g rRep opRepO := by
  intro ph r S H m1 m2 xs v1 v2 Q so a1 a2 h k
  unfold opRepO at h
  split at h
  · split at h
    · rename_i hz
      cases h
      cases a2
      cases a1 with
      | lst e n t => exact ⟨_, _, _, rfl, rfl, e, hz.1, hz.2.1, by rw [t.length]; exact hz.2.2, new_own so k (pairs_d rfl (t.rep _))⟩
    · cases h
  · cases h
/-- a + b -/
def opCatO : M → M → Sto → Option (List PyData)
  | .d (.list a), .d (.list b), _ => if a.length + b.length ≤ sizeLine then some (a ++ b) else none
  | _, _, _ => none
theorem s_catO : Snd2O K g rCat opCatO := by
  intro ph r S H m1 m2 xs v1 v2 Q so a1 a2 h k
  unfold opCatO at h
  split at h
  · split at h
    · rename_i hz
      cases h
      cases a1 with
      | lst e1 n1 t1 =>
        cases a2 with
        | lst e2 n2 t2 => exact ⟨_, _, _, _, rfl, rfl, e1, e2, by rw [t1.length, t2.length]; exact hz, new_own so k (pairs_d rfl (t1.append t2))⟩
    · cases h
  · cases h
/-- list(x) -/
def pListO : List M → Sto → Option (List PyData)
  | [m], S => (seqM m S).map (·.2)
  | _, _ => none
def ePrimO (op : List M → Sto → Option (List PyData)) (a : Env1 → Sto → R (List M)) : Env1 → Sto → R M := fun e S => (a e S).bind fun xs S1 => match op xs S1 with
  | some ys => .ok (.loc S1.length) (S1 ++ [.lst (ys.map .d)])
  | none => .bad
def SndNO (K : PySem.W.Frag) (g : Cfg) (rr : List V → Hp → VK → Prop) (op : List M → Sto → Option (List PyData)) : Prop := ∀ (ph r : List Addr) (S : Sto) (H : Hp) (ms : List M) (xs : List PyData) (vs : List V) (Q : VK), So K g ph r S H → Paired (Mv K g ph r H) ms vs → op ms S = some xs →
  (∀ r' H' v, Ext r H r' H' → So K g ph r' (S ++ [.lst (xs.map .d)]) H' → Mv K g ph r' H' (.loc S.length) v → Q v H') → rr vs H Q
abbrev rListOf (K : PySem.W.Frag) : List V → Hp → VK → Prop := fun xs H Q => ∃ p ys, xs = [.ref p] ∧ (SqL K H p ys ∨ SqT K H p ys) ∧ ∀ l, H l = none → Q (.ref l) (upd H l (.lst ys))
theorem s_listO : SndNO K g (rListOf K) pListO := by
  intro ph r S H ms xs vs Q so a1 h k
  match ms, a1, h with
  | [m], .cons b .nil, h =>
    obtain ⟨⟨q, ds⟩, q1, rfl⟩ := Option.map_eq_some_iff.mp h
    obtain ⟨p, us, rfl, hs, t⟩ := seqM_ok so b q1
    refine ⟨p, us, rfl, ?_, new_own so k (pairs_d rfl t)⟩
    cases q with
    | true => exact .inr hs
    | false => exact .inl hs
  | [], _, h => cases h
  | _ :: _ :: _, _, h => cases h
/-- list(x), data -/
def pListU : List M → Sto → Option M
  | [m], S => (seqM m S).map fun p => .d (.list p.2)
  | _, _ => none
theorem s_listU : SndN K g (rListOf K) pListU := by
  intro ph r S H ms m vs Q so a1 h k
  match ms, a1, h with
  | [m0], .cons b .nil, h =>
    obtain ⟨⟨q, ds⟩, q1, rfl⟩ := Option.map_eq_some_iff.mp h
    obtain ⟨p, us, rfl, hs, t⟩ := seqM_ok so b q1
    refine ⟨p, us, rfl, ?_, new_dr so k fun p hp n => dr_lst hp n t⟩
    cases q with
    | true => exact .inr hs
    | false => exact .inl hs
  | [], _, h => cases h
  | _ :: _ :: _, _, h => cases h
/-- repr, owned lists too -/
def pReprU : List M → Sto → Option M
  | [m], S => (asD m S).bind fun x => if reprable x then some (.d (.str x.shown)) else none
  | _, _ => none
theorem asD_dr {m : M} {v : V} {d : PyData} (so : So K g ph r S H) (mv : Mv K g ph r H m v) (q : asD m S = some d) : ∃ B, Dr K B H v d := by
  cases m with
  | d x => cases q; exact ⟨_, mv⟩
  | loc n =>
    obtain ⟨a, e1, rfl⟩ := mv
    have q : (match S[n]? with
      | some (.lst xs) => (dsOf xs).map PyData.list
      | _ => none) = some d := q
    split at q
    · rename_i xs q0
      obtain ⟨ds, q2, rfl⟩ := Option.map_eq_some_iff.mp q
      obtain ⟨a', w, h5, h6, h7⟩ := so.at_ _ _ q0
      rw [e1] at h5; cases h5
      cases w with
      | lst vs => exact ⟨[], .lst h6 (by simp) (DrAll.less (fun _ z => by cases z) (dsOf_rel h7 q2))⟩
      | _ => exact h7.elim
    · cases q
  | _ => cases q
theorem s_reprU : SndN K g (rRepr K) pReprU := by
  intro ph r S H ms m vs Q so a1 h k
  match ms, a1, h with
  | [m0], .cons b .nil, h =>
    have h : ((asD m0 S).bind fun x => if reprable x then some (M.d (.str x.shown)) else none) = some m := h
    obtain ⟨x, q1, q2⟩ := Option.bind_eq_some_iff.mp h
    split at q2
    · rename_i hz
      cases q2
      obtain ⟨B, dr⟩ := asD_dr so b q1
      exact ⟨_, _, B, rfl, dr, hz, k r H _ (.refl _ _) so (.str _)⟩
    · cases q2
  | [], _, h => cases h
  | _ :: _ :: _, _, h => cases h
end
section
variable {X : Cx} {g : Cfg} {W : WX} {a b : Expr} {fa fb : Env1 → Sto → R M} {es : List Expr} {fs : Env1 → Sto → R (List M)} {pos p : Pos} {x : Str}
theorem me_opO {o : Operator} {rr : R2} {op : M → M → Sto → Option (List PyData)} (ho : OpR X (binaryOp o) rr) (hs : Snd2O X.K g rr op) (ha : ME X g W a fa) (hb : ME X g W b fb) : ME X g W (.BinOp a o b pos) (e2O op fa fb) := PE.of (pe_op ho ha hb) fun s H Q h => by
  obtain ⟨ph, r, S, e, so, ev, h⟩ := h
  refine tG.bind so ev h fun m1 v1 S1 r1 H1 x1 so1 ev1 mv1 h1 => ?_
  refine tG.bind so1 ev1 h1 fun m2 v2 S2 r2 H2 x2 so2 ev2 mv2 h2 => ?_
  cases q : op m1 m2 S2 with
  | none => rw [q] at h2; exact h2.elim
  | some xs =>
    rw [q] at h2
    exact hs ph r2 S2 H2 m1 m2 xs v1 v2 Q so2 (Mv.mono x2 mv1) mv2 q h2
theorem me_callTO {T : String} {rr : List V → Hp → VK → Prop} {op : List M → Sto → Option (List PyData)} (hc : CallR X (.type T) rr) (hs : SndNO X.K g rr op) (hm : X.mg x = none) (hv : bootBuiltins x = some (.type T)) (ha : MA X g W (a :: es) fs) (hg : Gl X x := by rfl) (hn : x ≠ "__name__" := by decide) (hdb : (x == ("__debug__" : Str)) = false := by decide)
    (he : starEach (a :: es) X.env = (false, eval a X.env) :: starEach es X.env := by rfl) (hpl : (backTo pos (starEach es X.env)).any (·.1) = false := by rfl) : ME X g W (.Call (.Name x p) (a :: es) [] pos) (ePrimO op fs) := PE.of (pe_callTy hc hg hm hv ha hn hdb he hpl) fun s H Q h => by
  obtain ⟨ph, r, S, e, so, ev, h⟩ := h
  refine tG.bind so ev h fun ms vs S1 r1 H1 x1 so1 ev1 mv1 h1 => ?_
  cases q : op ms S1 with
  | none => rw [q] at h1; exact h1.elim
  | some xs =>
    rw [q] at h1
    exact hs ph r1 S1 H1 ms xs vs Q so1 mv1 q h1
/-- list(range(n)) -/
def rgD (a b : Int) : List PyData := (List.range (b - a).toNat).map fun (i : Nat) => PyData.int (a + (i : Int))
def okRg (a b : Int) : Bool := decide (-(2 ^ 62) ≤ a ∧ a < 2 ^ 62 ∧ -(2 ^ 62) ≤ b ∧ b < 2 ^ 62 ∧ (b - a).toNat ≤ 2 ^ 24)
theorem okRg_ok {a b : Int} (h : okRg a b = true) : RgOk a b := by
  unfold okRg at h
  have h := of_decide_eq_true h
  exact h
def eLRg (f : Env1 → Sto → R M) : Env1 → Sto → R M := fun e S => (f e S).bind fun m S1 => match asI m with
  | some j => if okRg 0 j then .ok (.d (.list (rgD 0 j))) S1 else .bad
  | none => .bad
def eLRgO (f : Env1 → Sto → R M) : Env1 → Sto → R M := fun e S => (f e S).bind fun m S1 => match asI m with
  | some j => if okRg 0 j then .ok (.loc S1.length) (S1 ++ [.lst ((rgD 0 j).map .d)]) else .bad
  | none => .bad
theorem rg_dr {K : PySem.W.Frag} {B : List Addr} {H : Hp} (a b : Int) : DrAll K B H (rgV a b) (rgD a b) := by
  unfold rgV rgD
  induction (List.range (b - a).toNat) with
  | nil => exact .nil
  | cons i l ih => exact .cons (.int _) ih
theorem me_lrg {p2 pos2 : Pos} (hc : X.calm = true) (hml : X.mg "list" = none) (hm : X.mg "range" = none) (ha : ME X g W a fa) (hgl : Gl X "list" := by rfl) (hg : Gl X "range" := by rfl) (na : starEach [a] X.env = (false, eval a X.env) :: starEach [] X.env := by rfl)
    (nb : starEach [.Call (.Name "range" p2) [a] [] pos2] X.env = (false, eval (.Call (.Name "range" p2) [a] [] pos2) X.env) :: starEach [] X.env := by rfl) : ME X g W (.Call (.Name "list" p) [.Call (.Name "range" p2) [a] [] pos2] [] pos) (eLRg fa) := PE.of (pe_listRg hc hgl hml (prg_1 hg hm ha na) nb) fun s H Q h => by
  obtain ⟨ph, r, S, e, so, ev, h⟩ := h
  refine tG.bind so ev h fun m v S1 r1 H1 x1 so1 ev1 mv1 h1 => ?_
  cases q : asI m with
  | none => rw [q] at h1; exact h1.elim
  | some j =>
    rw [q] at h1
    have ej := asI_v mv1 q
    subst ej
    simp only at h1
    split at h1
    · rename_i hz
      exact ⟨j, rfl, okRg_ok hz, new_dr so1 h1 fun p hp n => dr_lst hp n (rg_dr 0 j)⟩
    · exact h1.elim
theorem me_lrgO {p2 pos2 : Pos} (hc : X.calm = true) (hml : X.mg "list" = none) (hm : X.mg "range" = none) (ha : ME X g W a fa) (hgl : Gl X "list" := by rfl) (hg : Gl X "range" := by rfl) (na : starEach [a] X.env = (false, eval a X.env) :: starEach [] X.env := by rfl)
    (nb : starEach [.Call (.Name "range" p2) [a] [] pos2] X.env = (false, eval (.Call (.Name "range" p2) [a] [] pos2) X.env) :: starEach [] X.env := by rfl) : ME X g W (.Call (.Name "list" p) [.Call (.Name "range" p2) [a] [] pos2] [] pos) (eLRgO fa) := PE.of (pe_listRg hc hgl hml (prg_1 hg hm ha na) nb) fun s H Q h => by
  obtain ⟨ph, r, S, e, so, ev, h⟩ := h
  refine tG.bind so ev h fun m v S1 r1 H1 x1 so1 ev1 mv1 h1 => ?_
  cases q : asI m with
  | none => rw [q] at h1; exact h1.elim
  | some j =>
    rw [q] at h1
    have ej := asI_v mv1 q
    subst ej
    simp only at h1
    split at h1
    · rename_i hz
      exact ⟨j, rfl, okRg_ok hz, new_own so1 h1 (pairs_d rfl (rg_dr 0 j))⟩
    · exact h1.elim
variable {tg b c : Expr}
theorem mi_rng3 (hm : X.mg "range" = none) (ha : MA X g W [a, b, c] fs) (hg : Gl X "range" := by rfl) (hs : starEach [a, b, c] X.env = (false, eval a X.env) :: starEach [b, c] X.env := by rfl) (hpl : (backTo pos (starEach [b, c] X.env)).any (·.1) = false := by rfl) : MI X g W tg (.Call (.Name "range" p) [a, b, c] [] pos) (iRng3 fs) := by
  refine PI.of (L2.pi_range3 hg hm ha hs hpl) fun s H R h => ?_
  obtain ⟨ph, r, S, e, so, ev, h⟩ := h
  refine ⟨ph, r, S, e, so, ev, ?_⟩
  unfold iRng3 at h
  cases q : fs e S with
  | ok ms S1 =>
    rw [q] at h
    intro r1 H1 vs x1 so1 m1
    match ms, m1, h with
    | [x, y, z], .cons mx (.cons my (.cons mz .nil)), h =>
      simp only [Mr.R.bind] at h
      cases q1 : asI x with
      | none => rw [q1] at h; exact h.elim
      | some i =>
        cases q2 : asI y with
        | none => rw [q1, q2] at h; exact h.elim
        | some j =>
          cases q3 : asI z with
          | none => rw [q1, q2, q3] at h; exact h.elim
          | some k =>
            rw [q1, q2, q3] at h
            simp only at h
            have e1 := asI_v mx q1
            have e2 := asI_v my q2
            have e3 := asI_v mz q3
            subst e1 e2 e3
            split at h
            · rename_i hz
              have hn : (0 : Int) ≤ Builtin.Range.rangeSize i j k := by
                unfold Builtin.Range.rangeSize
                split
                · rename_i hk
                  split
                  · have := Int.ediv_nonneg (a := j - i - 1) (b := k) (by omega) (by omega)
                    omega
                  · omega
                · rename_i hk
                  split
                  · have := Int.ediv_nonneg (a := i - j - 1) (b := -k) (by omega) (by omega)
                    omega
                  · omega
              exact ⟨i, j, k, (Builtin.Range.rangeSize i j k).toNat, rfl, ⟨hz.1, hz.2.1, hz.2.2, (Int.toNat_of_nonneg hn).symm⟩, h r1 H1 _ x1 so1 fun ph' _ _ => goes_rngC i k _⟩
            · exact h.elim
    | [], _, h => exact h.elim
    | [_], _, h => exact h.elim
    | [_, _], _, h => exact h.elim
    | _ :: _ :: _ :: _ :: _, _, h => exact h.elim
  | rz c y S1 => rw [q] at h; exact h
  | bad => rw [q] at h; exact h
end
end Mr

end
section
set_option maxRecDepth 100000
set_option autoImplicit false
namespace Mr
open PySem PySem.Spec L2 MrT
open PyProof.Rows hiding St
/-! ### suites that only tell, by their parts -/
def PureT (f : Env1 → Sto → R Bool) : Prop := ∀ e S b S', f e S = .ok b S' → S' = S
/-- it tells data -/
def PureD (f : Env1 → Sto → R M) : Prop := ∀ e S m S', f e S = .ok m S' → S' = S ∧ ∃ x, m = .d x
def PureS (f : Env1 → Sto → Out) : Prop := ∀ e S, match f e S with
  | .nx _ S' => S' = S
  | .rt m S' => S' = S ∧ ∃ x, m = .d x
  | .bk _ S' => S' = S
  | .ct _ S' => S' = S
  | _ => True
theorem PureS.tells {f : Env1 → Sto → Out} (h : PureS f) : Tells f := fun e S m S' q => by
  have z := h e S
  rw [q] at z
  obtain ⟨z1, x, z2⟩ := z
  exact ⟨z1, by rw [z2]; trivial⟩
section
variable {a b c : Env1 → Sto → R M} {t u : Env1 → Sto → R Bool} {p q : Env1 → Sto → Out} {as : Env1 → Sto → R (List M)}
theorem pure_e1 {op : M → Sto → Option M} (h : Pure a) : Pure (e1 op a) := fun e S m S' z => by
  obtain ⟨x, S1, z1, z2⟩ := bind_ok z
  obtain ⟨_, rfl⟩ := lift_ok z2
  exact h _ _ _ _ z1
theorem pure_e2 {op : M → M → Sto → Option M} (h : Pure a) (k : Pure b) : Pure (e2 op a b) := fun e S m S' z => by
  obtain ⟨x, S1, z1, z2⟩ := bind_ok z
  obtain ⟨y, S2, z3, z4⟩ := bind_ok z2
  obtain ⟨_, rfl⟩ := lift_ok z4
  rw [k _ _ _ _ z3, h _ _ _ _ z1]
theorem pure_meth {op : M → M → Sto → Option M} (h : Pure a) (k : Pure b) : Pure (eMeth op a b) := fun e S m S' z => by
  obtain ⟨x, S1, z1, z2⟩ := bind_ok z
  cases qk : kindM x S1 with
  | none => rw [qk] at z2; cases z2
  | some d =>
    rw [qk] at z2
    obtain ⟨y, S2, z3, z4⟩ := bind_ok z2
    obtain ⟨_, rfl⟩ := lift_ok z4
    rw [k _ _ _ _ z3, h _ _ _ _ z1]
theorem pureT_b (h : Pure a) : PureT (tB a) := fun e S m S' z => by
  obtain ⟨x, S1, z1, z2⟩ := bind_ok z
  obtain ⟨_, rfl⟩ := lift_ok z2
  exact h _ _ _ _ z1
theorem pureT_not (h : PureT t) : PureT (tNotM t) := fun e S m S' z => by
  obtain ⟨x, S1, z1, z2⟩ := bind_ok z
  cases z2
  exact h _ _ _ _ z1
theorem pureT_and (h : PureT t) (k : PureT u) : PureT (tAndM t u) := fun e S m S' z => by
  obtain ⟨x, S1, z1, z2⟩ := bind_ok z
  have e1 := h _ _ _ _ z1
  subst e1
  cases x with
  | true => exact k _ _ _ _ z2
  | false => cases z2; rfl
theorem pureT_or (h : PureT t) (k : PureT u) : PureT (tOrM t u) := fun e S m S' z => by
  obtain ⟨x, S1, z1, z2⟩ := bind_ok z
  have e1 := h _ _ _ _ z1
  subst e1
  cases x with
  | false => exact k _ _ _ _ z2
  | true => cases z2; rfl
theorem pure_not (h : Pure a) : Pure (eNotM a) := fun e S m S' z => by
  obtain ⟨x, S1, z1, z2⟩ := bind_ok z
  cases z2
  exact pureT_b h _ _ _ _ z1
theorem pure_and (h : Pure a) (k : Pure b) : Pure (eAndM a b) := fun e S m S' z => by
  obtain ⟨x, S1, z1, z2⟩ := bind_ok z
  have e1 := pureT_b h _ _ _ _ z1
  subst e1
  cases x with
  | true => exact k _ _ _ _ z2
  | false => cases z2; rfl
theorem pure_or (h : Pure a) (k : Pure b) : Pure (eOrM a b) := fun e S m S' z => by
  obtain ⟨x, S1, z1, z2⟩ := bind_ok z
  have e1 := pureT_b h _ _ _ _ z1
  subst e1
  cases x with
  | false => exact k _ _ _ _ z2
  | true => cases z2; rfl
theorem pure_if (h : PureT t) (k : Pure a) (l : Pure b) : Pure (eIf t a b) := fun e S m S' z => by
  obtain ⟨x, S1, z1, z2⟩ := bind_ok z
  have e1 := h _ _ _ _ z1
  subst e1
  cases x with
  | true => exact k _ _ _ _ z2
  | false => exact l _ _ _ _ z2
theorem PureD.pure (h : PureD a) : Pure a := fun e S m S' z => (h e S m S' z).1
theorem dat_c (x : PyData) : PureD (eC (.d x)) := fun e S m S' z => by cases z; exact ⟨rfl, x, rfl⟩
theorem dat_tup (h : PureA as) : PureD (eTup as) := fun e S m S' z => tup_ok h z
theorem dat_fld {n : Str} (h : Pure a) : PureD (eFld n a) := fun e S m S' z => by
  obtain ⟨x, S1, z1, z2⟩ := bind_ok z
  have e1 := h _ _ _ _ z1
  subst e1
  cases x with
  | exn c y =>
    cases y with
    | none => cases z2
    | some y =>
      obtain ⟨fl, y⟩ := y
      have z2 : (if fl = n then R.ok (M.d y) S1 else R.bad) = R.ok m S' := z2
      split at z2
      · cases z2; exact ⟨rfl, _, rfl⟩
      · cases z2
  | _ => cases z2
theorem dat_if (h : PureT t) (k : PureD a) (l : PureD b) : PureD (eIf t a b) := fun e S m S' z => by
  obtain ⟨x, S1, z1, z2⟩ := bind_ok z
  have e1 := h _ _ _ _ z1
  subst e1
  cases x with
  | true => exact k _ _ _ _ z2
  | false => exact l _ _ _ _ z2
theorem pureS_nx : PureS sNx := fun e S => rfl
theorem pureS_ret (h : PureD a) : PureS (sRet a) := fun e S => by
  unfold sRet
  cases z : a e S with
  | ok m S1 =>
    obtain ⟨z1, x, z2⟩ := h _ _ _ _ z
    exact ⟨z1, x, z2⟩
  | rz c x S1 => trivial
  | bad => trivial
theorem pureS_set {i : Nat} (h : Pure a) : PureS (sSet i a) := fun e S => by
  unfold sSet
  cases z : a e S with
  | ok m S1 => exact h _ _ _ _ z
  | rz c x S1 => trivial
  | bad => trivial
theorem pureS_expr (h : Pure a) : PureS (sExpr a) := fun e S => by
  unfold sExpr
  cases z : a e S with
  | ok m S1 => exact h _ _ _ _ z
  | rz c x S1 => trivial
  | bad => trivial
theorem pureS_seq (h : PureS p) (k : PureS q) : PureS (sSeq p q) := fun e S => by
  have z := h e S
  unfold sSeq
  cases w : p e S with
  | nx e1 S1 =>
    rw [w] at z
    cases z
    exact k e1 S
  | rt m S1 => rw [w] at z; exact z
  | bk e1 S1 => rw [w] at z; exact z
  | ct e1 S1 => rw [w] at z; exact z
  | rz c x e1 S1 => trivial
  | bad => trivial
theorem pureS_if (h : PureT t) (k : PureS p) (l : PureS q) : PureS (sIf t p q) := fun e S => by
  unfold sIf
  cases z : t e S with
  | ok b S1 =>
    have e1 := h _ _ _ _ z
    subst e1
    cases b with
    | true => exact k e S1
    | false => exact l e S1
  | rz c x S1 => trivial
  | bad => trivial
end
end Mr

end
section
set_option maxRecDepth 100000
set_option autoImplicit false
namespace MrT
open PySem PySem.Spec L2 Mr
open PyProof.Rows hiding St
/-! ### the truth of any value -/
def truM : M → Sto → Option Bool
  | .d .none, _ => some false
  | .d (.bool b), _ => some b
  | .d (.int i), _ => some (i != 0)
  | .d (.str s), _ => if s.length ≤ sizeLine then some ((s.length : Int) != 0) else none
  | .d (.list xs), _ => some (!xs.isEmpty)
  | .d (.tuple xs), _ => some (!xs.isEmpty)
  | .loc n, S => match S[n]? with
    | some (.lst xs) => some (!xs.isEmpty)
    | some (.dct kvs) => some (!kvs.isEmpty)
    | _ => none
  | _, _ => none
theorem emp_dr {K : PySem.W.Frag} {B : List Addr} {H : Hp} {vs : List V} {ds : List PyData} (t : DrAll K B H vs ds) : (!ds.isEmpty) = !vs.isEmpty := by cases t <;> rfl
theorem emp_pd {α β : Type} {P : α → β → Prop} {as : List α} {bs : List β} (t : Paired P as bs) : (!as.isEmpty) = !bs.isEmpty := by cases t <;> rfl
section
variable {K : PySem.W.Frag} {g : Cfg} {ph r : List Addr} {H : Hp} {S : Sto}
theorem tru_of {m : M} {v : V} {b : Bool} (so : So K g ph r S H) (mv : Mv K g ph r H m v) (q : truM m S = some b) : TruV K v H b := by
  cases m with
  | d x =>
    cases x with
    | none => cases q; cases mv; exact rfl
    | bool c => cases q; cases mv; exact rfl
    | int i => cases q; cases mv; exact rfl
    | str s =>
      cases mv
      have q : (if s.length ≤ sizeLine then some ((s.length : Int) != 0) else none) = some b := q
      split at q
      · rename_i hz
        cases q
        exact ⟨hz, rfl⟩
      · cases q
    | list xs =>
      cases q
      cases mv with
      | lst e n t => exact .inl ⟨_, .inl (.inl e), emp_dr t⟩
    | tuple xs =>
      cases q
      have mv : Dr K (ph ++ r) H v (.tuple xs) := mv
      have r1 : ∃ a, v = .ref a := by cases mv <;> exact ⟨_, rfl⟩
      obtain ⟨a, rfl⟩ := r1
      obtain ⟨ys, sq, t⟩ := Dr.toT mv
      exact .inr (.inl ⟨_, sq, emp_dr t⟩)
    | _ => cases q
  | loc n =>
    obtain ⟨a, e1, rfl⟩ := mv
    have q : (match S[n]? with
      | some (.lst xs) => some (!xs.isEmpty)
      | some (.dct kvs) => some (!kvs.isEmpty)
      | _ => none) = some b := q
    split at q
    · rename_i xs q0
      cases q
      obtain ⟨a', w, h5, h6, h7⟩ := so.at_ _ _ q0
      rw [e1] at h5; cases h5
      cases w with
      | lst vs => exact .inl ⟨_, .inl (.inl h6), emp_pd (show Paired _ xs vs from h7)⟩
      | _ => exact h7.elim
    · rename_i xs q0
      cases q
      obtain ⟨a', w, h5, h6, h7⟩ := so.at_ _ _ q0
      rw [e1] at h5; cases h5
      cases w with
      | dK vs => exact .inr (.inr ⟨_, h6, emp_pd (show Paired _ xs vs from h7)⟩)
      | _ => exact h7.elim
    · cases q
  | _ => cases q
end
def tV (a : Env1 → Sto → R M) : Env1 → Sto → R Bool := fun e S => (a e S).bind fun x S1 => lift (truM x S1) S1
section
variable {X : Cx} {g : Cfg} {W : WX} {a : Expr} {fa : Env1 → Sto → R M}
theorem mt_tru (ha : ME X g W a fa) (he : ∀ whole, isTrue a X.env whole = (do let v ← whole; standAt a.pos; holding [v] (truthy v)) := by intro _; rfl) : MT X g W a (tV fa) := by
  refine PT.of (pt_truth ha he) fun s H Q h => ?_
  obtain ⟨ph, r, S, e, so, ev, h⟩ := h
  refine tG.bind so ev h fun m v S1 r1 H1 x1 so1 ev1 m1 h1 => ?_
  cases q : truM m S1 with
  | none => rw [q] at h1; exact h1.elim
  | some b =>
    rw [q] at h1
    exact ⟨b, tru_of so1 m1 q, h1 r1 H1 b (.refl _ _) so1 rfl⟩
end
theorem pureT_v {a : Env1 → Sto → R M} (h : Pure a) : PureT (tV a) := fun e S m S' z => by
  unfold tV at z
  cases q : a e S with
  | ok v S1 =>
    rw [q] at z
    have e1 := h e S v S1 q
    subst e1
    have z : lift (truM v S1) S1 = R.ok m S' := z
    cases q2 : truM v S1 with
    | none => rw [q2] at z; cases z
    | some b => rw [q2] at z; cases z; rfl
  | rz c x S1 => rw [q] at z; cases z
  | bad => rw [q] at z; cases z
end MrT

end
section
set_option maxRecDepth 100000
set_option maxHeartbeats 2000000
set_option autoImplicit false
/-! generator expressions over anything that PI serves; the elements may call defs -/
namespace GxM
open PySem PySem.Spec PyProof.Rows L2
/-- the element's context -/
abbrev gxCx (X : Cx) (A : Around) (s : Shared) (H : Hp) (cenv : Env) (fp : List Addr) : Cx :=
  { X with A := A, s_0 := s, H_0 := H, env := cenv, outer := X.stack, stack := cenv :: X.stack, ex := fp, fn := fun _ => false, calm := true, pn := [], xe := fun _ _ => False }
abbrev gEnv (X : Cx) (scope : Scope) (C : Addr) (code : Value) : Env := genEnv scope (cloFrom X.env.cells scope.names []) C code builtinsNs X.env
structure GxOk (N : List Str) (sc scope : Scope) (own : List (Str × Nat)) : Prop where
  blk : BlkOk N sc scope own
  cell : ∀ y ∈ scope.names, y.2 ≠ .cell
  dot : scope.names.lookup (".0" : Str) = some NameKind.local
  co : scope.isCoroutine = false
section
variable {X : Cx} {pins : List (Addr × Obj)} {σ : L2.St} {H : Hp} {s : Shared}
theorem gx_free {scope : Scope} {own : List (Str × Nat)} (I : Inv X pins σ H s) (G : GxOk X.N X.env.scope scope own) : ∀ y ∈ scope.names, y.2 = .free → ∃ c, X.env.cells.lookup y.1 = some c := fun y hy e => by
  rcases G.blk.free y hy e with k | k
  · exact I.ok.has _ (.inl k)
  · exact I.ok.has _ (.inr k)
theorem gx_start {A : Around} {scope : Scope} {own : List (Str × Nat)} {fp : List Addr} {code : Value} {h5 : Heap} {m : Str → Option Value} {g5 : Array GenState} {tk5 : Nat}
    (I : Inv X pins σ H s) (G : GxOk X.N X.env.scope scope own) (hN : X.N.Nodup) (hfp : ∀ b ∈ fp, FpOk X pins H b ∧ b < s.heap.objs.size) (hA : A.handled = none)
    (hfr : A.frames = some (gEnv X scope s.heap.objs.size code :: X.stack)) (hns : h5.Ns s.heap.objs.size m) (kp : ∀ b o, s.heap.get? b = some o → h5.get? b = some o) (hg : AllBare g5) :
    Inv (gxCx X A s H (gEnv X scope s.heap.objs.size code) fp) [] (wipe σ (own.map (·.2))) H { s with heap := h5, gens := g5, toks := tk5 } := by
  have ok := G.blk
  have hfree := gx_free I G
  have cm : ∀ {y c}, (cloFrom X.env.cells scope.names []).lookup y = some c → X.env.cells.lookup y = some c ∧ c < s.heap.objs.size := fun {y c} e => by
    rcases cloFrom_mem (PySem.mem_of_lookup e) with hm | ⟨h1, h2⟩
    · cases hm
    · obtain ⟨c1, hc⟩ := hfree _ h1 rfl
      have hc : X.env.cells.lookup y = some c1 := hc
      have e2 : c = c1 := by
        rw [h2, hc] <;> rfl
      rw [e2]
      obtain ⟨w, z⟩ := I.cell _ _ hc
      exact ⟨hc, z.lt⟩
  have look : ∀ {y}, scope.names.lookup y = some .free → ∃ c, (cloFrom X.env.cells scope.names []).lookup y = some c := fun {y} hl => by
    have hy : (y, NameKind.free) ∈ scope.names := PySem.mem_of_lookup hl
    exact mem_lookup (cloFrom_has (cells := X.env.cells) (acc := []) hy)
  have okB : (gxCx X A s H (gEnv X scope s.heap.objs.size code) fp).Ok := by
    refine ⟨I.ok.mod, ok.kind, I.ok.glob, rfl, Nat.le_refl _, fun y z c e1 e2 => I.ok.inj y z c (cm e1).1 (cm e2).1, fun y hy => ?_, fun y c z _ => ?_, fun _ => hA, hfr, .inr ⟨rfl, rfl⟩, fun b hb => ⟨?_, fun y c e z => ?_⟩, I.bs, Nat.le_trans I.ok.bsz I.sz, fun b o e hb => ?_, fun b hb z => ?_, I.stack, I.stkFree⟩
    · have hy : scope.names.lookup y = some .cell ∨ scope.names.lookup y = some .free := hy
      rcases hy with hy | hy
      · exact absurd rfl (G.cell _ (PySem.mem_of_lookup hy))
      · exact look hy
    · have z : false = true := z
      cases z
    · exact Nat.ne_of_lt (hfp b hb).2
    · have e : (cloFrom X.env.cells scope.names []).lookup y = some c := e
      exact (hfp b hb).1.2.2.2.2.1 y c (cm e).1 z
    · rcases (hfp b hb).1.2.2.2.1 with z | z
      · exact I.ok.noex b o e z
      · exact absurd (Nat.lt_of_lt_of_le (Heap.lt_size e) (Nat.le_trans I.ok.bsz z)) (Nat.lt_irrefl _)
    · rcases List.mem_cons.mp (I.stkSub b z) with z | z
      · exact (hfp b hb).1.2.1 z
      · exact (hfp b hb).1.2.2.1 z
  refine ⟨okB, rfl, hg, Un.kept kp, ⟨m, hns, fun i y av e1 e2 e3 => ?_⟩, fun y c e => ?_, I.hok.fresh (Nat.le_refl _), fun y c e => ?_, fun p hp => absurd (show p ∈ ([] : List (Addr × Obj)) ++ [] from hp) (by simp), I.hok.kept kp, by rw [wipe_length]; exact I.len⟩
  · obtain ⟨e2, hne⟩ := wipe_some e2
    have e3 : Vis scope y := e3
    have hfr : scope.names.lookup y = some .free := by
      have no : ∀ k, scope.names.lookup y = some k → ¬ (k = .local ∨ k = .cell) := fun k e hh => by
        rcases ok.own _ (PySem.mem_of_lookup e) hh with e' | e'
        · obtain ⟨p, hp, hpy⟩ := List.mem_map.mp e'
          have e3 := ok.ix p hp
          have : p.1 = y := hpy
          rw [this] at e3
          exact hne (List.mem_map.mpr ⟨p, hp, nodup_ix hN e3 e1⟩)
        · exact e' (List.mem_of_getElem? e1)
      rcases e3 with k | k | k
      · exact absurd (.inl rfl) (no _ k)
      · exact absurd (.inr rfl) (no _ k)
      · exact k
    obtain ⟨m1, hn, hl⟩ := I.loc
    have hvis : Vis X.env.scope y := (ok.free _ (PySem.mem_of_lookup hfr) rfl).elim (fun k => .inr (.inl k)) (fun k => .inr (.inr k))
    obtain ⟨w, r, q⟩ := hl i y av e1 e2 hvis
    obtain ⟨c, h2⟩ := look hfr
    refine ⟨w, r, .inr ⟨.inr hfr, c, h2, ?_⟩⟩
    have c1 := (cm h2).1
    rcases q with ⟨k, _⟩ | ⟨_, c', e', z⟩
    · have k : X.env.scope.names.lookup y = some .local := k
      rcases ok.free _ (PySem.mem_of_lookup hfr) rfl with k' | k' <;> rw [show X.env.scope.names.lookup y = _ from k'] at k <;> cases k
    · rw [c1] at e'; cases e'
      exact z.keeps kp
  · have e : (cloFrom X.env.cells scope.names []).lookup y = some c := e
    obtain ⟨w, z⟩ := I.cell y c (cm e).1
    exact ⟨w, z.keeps kp⟩
  · have e : (cloFrom X.env.cells scope.names []).lookup y = some c := e
    exact I.freeC y c (cm e).1
end
/-- while the generator sleeps its consumer changes its own objects alone -/
structure SimA (adr : List Addr) (cp' : List (Addr × Obj)) (s s'' : Shared) : Prop where
  os : s''.os = s.os
  bare : AllBare s''.gens
  keep : ∀ b o, b ∉ adr → s.heap.get? b = some o → s''.heap.get? b = some o
  pin : ∀ p ∈ cp', s''.heap.get? p.1 = some p.2 ∧ ∀ v, p.2.data ≠ .cell v
section
variable {X : Cx} {σ : L2.St} {H : Hp} {s s'' : Shared} {cp cp' : List (Addr × Obj)}
theorem inv_sim (I : Inv X cp σ H s) (hpn : X.pn = []) (hy : ∀ p ∈ cp, X.s_0.heap.objs.size ≤ p.1) (ha : cp'.map (·.1) = cp.map (·.1)) (S : SimA (cp.map (·.1)) cp' s s'') : Inv X cp' σ H s'' := by
  have pin := fun p (hp : p ∈ cp) => I.pin p (List.mem_append_right _ hp)
  have I0 : Inv X [] σ H s := I.pins_of fun p hp => absurd hp (by simp)
  have at_ : ∀ b, b ∈ cp.map (·.1) → ∃ p ∈ cp, p.1 = b := fun b hb => by
    obtain ⟨p, hp, e⟩ := List.mem_map.mp hb
    exact ⟨p, hp, e⟩
  have nH : ∀ b u, H b = some u → b ∉ cp.map (·.1) := fun b u e hb => by
    obtain ⟨p, hp, rfl⟩ := at_ b hb
    rw [(pin p hp).2.1] at e
    cases e
  have nL : X.env.locals ∉ cp.map (·.1) := fun hb => by
    obtain ⟨p, hp, e⟩ := at_ _ hb
    exact (pin p hp).2.2.1 e
  obtain ⟨hh, g, d, t, o⟩ := s''
  have ho : o = s.os := S.os
  subst ho
  have J : Inv X [] σ H { s with heap := hh, gens := g, drawn := d, toks := t } := by
    refine I0.step (g' := g) (t' := t) (d' := d) (ch := cp.map (·.1)) (fun b hb => ?_)
      (fun b ob _ _ hc q _ => S.keep b ob hc q) (fun b ob _ _ hc q _ => ⟨ob.slots, S.keep b ob hc q⟩) (fun _ _ _ _ n => n) (fun b ob hc q => ⟨ob, S.keep b ob hc q⟩)
      (fun _ _ q => q) (fun _ _ _ q => q) (fun b ps q => ⟨#[], by rw [q]; simp⟩) (fun m hm => ?_) (fun b u q => ?_) S.bare
    · obtain ⟨p, hp, rfl⟩ := at_ b hb
      refine ⟨.inr (hy p hp), (pin p hp).2.2.1, fun x c e z => ?_, fun q hq => ?_⟩
      · obtain ⟨v, ob, h1, h2⟩ := I.cell x c e
        rw [z, (pin p hp).1] at h1
        cases h1
        exact (pin p hp).2.2.2.2 v h2
      · rw [hpn] at hq
        exact absurd hq (by simp)
    · obtain ⟨ob, es, ep, ho, r⟩ := hm
      exact ⟨ob, es, ep, S.keep _ ob nL ho, r⟩
    · refine (I0.hok b u q).stay (fun c v hc y => S.keep c v ?_ y) (fun _ y => y) fun _ _ y => y
      rcases hc with y | y
      · rw [y]; exact nH b u q
      · exact nH c _ y
  refine J.pins_of fun p hp => ?_
  have hm : p.1 ∈ cp.map (·.1) := by rw [← ha]; exact List.mem_map.mpr ⟨p, hp, rfl⟩
  obtain ⟨q, hq, e⟩ := at_ _ hm
  obtain ⟨_, q2, q3, q4, _⟩ := pin q hq
  rw [e] at q2 q3 q4
  exact ⟨(S.pin p hp).1, q2, q3, q4, (S.pin p hp).2⟩
/-- a new object of the consumer's is pinned -/
theorem inv_pin {a : Addr} {o : Obj} (I : Inv X cp σ H s) (ha : s.heap.objs.size ≤ a) (hk : ∀ b u, s.heap.get? b = some u → s''.heap.get? b = some u) (ho : s''.heap.get? a = some o) (hd : ∀ v, o.data ≠ .cell v) (os : s''.os = s.os) (hb : AllBare s''.gens) : Inv X ((a, o) :: cp) σ H s'' := by
  obtain ⟨hh, g, d, t, os'⟩ := s''
  have e : os' = s.os := os
  subst e
  have hk : ∀ b u, s.heap.get? b = some u → hh.get? b = some u := hk
  have J : Inv X cp σ H { s with heap := hh, gens := g, drawn := d, toks := t } := by
    refine I.step (g' := g) (t' := t) (d' := d) (ch := []) (fun b hb => absurd hb (by simp))
      (fun b ob _ _ hc q _ => hk b ob q) (fun b ob _ _ hc q _ => ⟨ob.slots, hk b ob q⟩) (fun _ _ _ _ n => n) (fun b ob hc q => ⟨ob, hk b ob q⟩)
      (fun _ _ q => q) (fun _ _ _ q => q) (fun b ps q => ⟨#[], by rw [q]; simp⟩) (fun m hm => ?_) (I.hok.kept hk) hb
    obtain ⟨ob, es, ep, ho, r⟩ := hm
    exact ⟨ob, es, ep, hk _ ob ho, r⟩
  refine J.pins_of fun p hp => ?_
  rcases List.mem_cons.mp hp with z | z
  · rw [z]
    exact ⟨ho, I.hok.fresh ha, Nat.ne_of_gt (Nat.lt_of_lt_of_le I.lt ha), I.nofs ha, hd⟩
  · exact J.pin p (List.mem_append_right _ z)
theorem inv_gens {g : Array GenState} {t : Nat} {d : Drawn} (I : Inv X cp σ H s) (hb : AllBare g) : Inv X cp σ H { s with gens := g, toks := t, drawn := d } :=
  I.step (h' := s.heap) (g' := g) (t' := t) (d' := d) (ch := []) (fun b hb => absurd hb (by simp))
      (fun b ob _ _ hc q _ => q) (fun b ob _ _ hc q _ => ⟨ob.slots, q⟩) (fun _ _ _ _ n => n) (fun b ob hc q => ⟨ob, q⟩)
      (fun _ _ q => q) (fun _ _ _ q => q) (fun b ps q => ⟨#[], by rw [q]; simp⟩) (fun m hm => hm) I.hok hb
end
end GxM

end
section
set_option maxRecDepth 100000
set_option maxHeartbeats 2000000
set_option autoImplicit false
namespace GxM
open PySem PySem.Spec PyProof.Rows L2 GenW
/-- what is fixed while a generator expression runs; X: its own context -/
structure Gd where
  X : Cx
  elt : Expr
  tg : Expr
  iter : Expr
  scope : Scope
  pos : Pos
  it : Addr
  fp : List Addr
  tn : Nat → Heap → Prop
  J : It
  g : TG
  te : TE
  vs : List Nat
  σ : L2.St
  L : Nat
  W : Nat → Hp → Prop
  Fin : Hp → Prop
  Con : Nat → V → (Hp → Prop) → Hp → Prop
abbrev Gd.code (G : Gd) : Code := .compLoop (.GeneratorExp G.elt [⟨G.tg, G.iter, [], 0⟩] G.scope G.pos) 0 (.ref G.it) .none G.X.env
abbrev Gd.start (G : Gd) : Code := .compStart (.GeneratorExp G.elt [⟨G.tg, G.iter, [], 0⟩] G.scope G.pos) 0 (.ref G.it) .none G.X.env
def Gd.Held (G : Gd) (adr : List Addr) (cp : List (Addr × Obj)) (H : Hp) (s₀ s : Shared) : Prop :=
  cp.map (·.1) = adr ∧ (∀ p ∈ cp, s₀.heap.get? p.1 = some p.2) ∧ Inv G.X cp (wipe G.σ G.vs) H s
def Gd.Y (G : Gd) (adr : List Addr) : Protocol := fun n s₀ v s₁ kap =>
  ∃ i y cp H, n + i = G.L ∧ i < G.L ∧ RelV y v ∧ G.Held adr cp H s₀ s₁ ∧ G.Con i y (G.W (i + 1)) H ∧ ∀ cp' s'', G.W (i + 1) H → cp'.map (·.1) = adr → SimA adr cp' s₁ s'' → kap (.send .none) s''
def Gd.P (G : Gd) (adr : List Addr) : Nat → Shared → Shared → Prop := fun n s₀ s₁ => n = 1 ∧ ∃ cp H, G.Held adr cp H s₀ s₁ ∧ G.Fin H
abbrev Gd.R (G : Gd) (adr : List Addr) : GenEnd := fun n s₀ r s₁ => r = .ok .next ∧ G.P adr n s₀ s₁
/-- what is asked of it -/
structure Gd.Ok (G : Gd) (A : Around) : Prop where
  A_ : G.X.A = A.over G.code []
  hd : A.handled = none
  calm : G.X.calm = true
  pn : G.X.pn = []
  xe : G.X.xe = fun _ _ => False
  ex : G.X.ex = G.fp
  lt : ∀ b ∈ G.fp, b < G.X.s_0.heap.objs.size
  T : Turn G.X.prog G.X.w G.X.K G.tg G.J G.fp G.it G.tn
  pg : PG G.X G.tg G.g
  pe : PE G.X G.elt G.te
  co : G.X.env.scope.isCoroutine = false
  turn : ∀ i H, G.W i H → (i = G.L → G.J.stop i H ∧ G.Fin H) ∧ (i < G.L → G.J.go i H ∧ ∀ x H', G.J.yld i H x H' → G.g x (wipe G.σ G.vs) H' fun σ2 H2 => wipe σ2 G.vs = wipe G.σ G.vs ∧ G.te σ2 H2 fun y H3 => G.Con i y (G.W (i + 1)) H3)
section
variable {G : Gd} {A : Around} {adr : List Addr}
theorem Gd.stat (h : G.Ok A) {cp : List (Addr × Obj)} {σ' : L2.St} {H' : Hp} {s' : Shared} (hz : ∀ p ∈ cp, G.X.s_0.heap.objs.size ≤ p.1) (I : Inv G.X cp σ' H' s') (hn : ∀ b ∈ G.fp, H' b = none) : ∀ b ∈ G.fp, FpOk G.X cp H' b := fun b hb => by
  have hx : b ∈ G.X.ex := by rw [h.ex]; exact hb
  refine ⟨hn b hb, (I.ok.exf b hx).1, I.ok.exfs b hx, .inl hx, fun x c e => (I.ok.exf b hx).2 x c e, fun p hp z => ?_⟩
  rw [h.pn] at hp
  have hp : p ∈ cp := by simpa using hp
  have h1 := hz p hp
  have h2 := h.lt b hb
  rw [z] at h1
  exact Nat.lt_irrefl _ (Nat.lt_of_lt_of_le h2 h1)
theorem seg_gx (h : G.Ok A) (hz : ∀ a ∈ adr, G.X.s_0.heap.objs.size ≤ a) : ∀ (k i : Nat) (s₀ s : Shared) (H : Hp) (cp : List (Addr × Obj)), i + k = G.L → G.Held adr cp H s₀ s → G.tn i s.heap → (∀ b ∈ G.fp, H b = none) → G.W i H →
    Seg (model G.X.prog G.X.w) A (G.R adr) (G.Y adr) (k + 1) s₀ G.code ((model G.X.prog G.X.w).den G.code) [] s := by
  have hzp : ∀ {cp : List (Addr × Obj)}, cp.map (·.1) = adr → ∀ p ∈ cp, G.X.s_0.heap.objs.size ≤ p.1 := fun {cp} e p hp => hz p.1 (by rw [← e]; exact List.mem_map.mpr ⟨p, hp, rfl⟩)
  have hzf : ∀ b ∈ G.fp, b ∉ adr := fun b hb hm => Nat.lt_irrefl _ (Nat.lt_of_lt_of_le (h.lt b hb) (hz b hm))
  have xeF : ∀ {α : Type} {t : Sem α} {Q Q' : α → Shared → Prop} {M : Model} {A : Around} {E : Value → Shared → Prop} {s : Shared}, wpAny M A t Q G.X.xe s → (∀ a s, Q a s → Q' a s) → wpAny M A t Q' E s := fun a b => by
    rw [h.xe] at a
    exact thnF a b
  intro k
  induction k with
  | zero =>
    intro i s₀ s H cp hi hH st nf w
    obtain ⟨stop, fin⟩ := (h.turn i H w).1 (by omega)
    obtain ⟨e1, e2, I⟩ := hH
    show Seg _ A _ _ _ s₀ _ ((compTurn (.GeneratorExp G.elt [⟨G.tg, G.iter, [], 0⟩] G.scope G.pos) 0 (.ref G.it) .none G.X.env).onRaise (leaving G.X.env)) [] s
    rw [compTurn_gen, Sem.onRaise_eq_wrap]
    refine seg_bind_wrap (wpAny_standAt ?_)
    have td := h.T.done G.X rfl rfl rfl h.calm i cp s _ H (fun _ _ => False) I (Gd.stat h (hzp e1) I nf) st stop
    rw [h.A_] at td
    refine seg_bind_wrap (thnF td fun r s6 ⟨hr, I6⟩ => ?_)
    subst hr
    exact seg_end (.ok .next) ⟨rfl, rfl, cp, H, ⟨e1, e2, I6⟩, fin⟩
  | succ k ih =>
    intro i s₀ s H cp hi hH st nf w
    obtain ⟨go, step⟩ := (h.turn i H w).2 (by omega)
    obtain ⟨e1, e2, I⟩ := hH
    show Seg _ A _ _ _ s₀ _ ((compTurn (.GeneratorExp G.elt [⟨G.tg, G.iter, [], 0⟩] G.scope G.pos) 0 (.ref G.it) .none G.X.env).onRaise (leaving G.X.env)) [] s
    rw [compTurn_gen, Sem.onRaise_eq_wrap]
    refine seg_bind_wrap (wpAny_standAt ?_)
    have ti := h.T.item G.X rfl rfl rfl h.calm i cp s _ H (fun _ _ => False) I (Gd.stat h (hzp e1) I nf) st go
    rw [h.A_] at ti
    refine seg_bind_wrap (thnF ti fun r s6 ⟨u, hr, h6⟩ => ?_)
    subst hr
    refine seg_bind_wrap (thnF h6 fun _ s7 ⟨x, H7, I7, r7, y7, st7, n7⟩ => ?_)
    have I7' := I7.pinned (Gd.stat h (hzp e1) I7 n7) (h.T.obj _ _ st7)
    have pgr := h.pg.run _ s7 _ H7 x u _ I7' r7 (step x H7 y7)
    rw [h.A_] at pgr
    refine seg_bind_wrap (xeF pgr fun _ s8 ⟨σ8, H8, I8, hw8, q8⟩ => ?_)
    refine seg_bind_wrap (wpAny_tests_nil ?_)
    have hy : ∀ v, yieldOut G.X.env v = yieldValue v := fun v => by simp only [yieldOut, h.co, Bool.false_eq_true, if_false]
    simp only [if_true, hy]
    rw [Sem.bind_eq_wrap', Sem.bind_eq_wrap', Sem.wrap_wrap, Sem.wrap_wrap]
    have per := h.pe.run _ s8 σ8 H8 _ I8 q8
    rw [h.A_] at per
    refine seg_wrap (xeF per fun z s10 ⟨yv, H10, I10, r10, con⟩ => ?_)
    have pin' : ∀ b ∈ G.fp, ∀ o, s7.heap.get? b = some o → s10.heap.get? b = some o ∧ H10 b = none := fun b hb o e =>
      let z := I10.pin (b, o) (List.mem_append_right _ (List.mem_append_right _ (mem_pinsAt hb e)))
      ⟨z.1, z.2.1⟩
    have hl : (wipe G.σ G.vs).length = σ8.length := by rw [← hw8, wipe_length]
    have I11 : Inv G.X cp (wipe G.σ G.vs) H10 s10 := (I10.unpinned (pins := cp)).weak hl fun j v e => by
      rw [← hw8] at e
      exact (wipe_some e).1
    have st10 : G.tn (i + 1) s10.heap := h.T.keep _ _ _ st7 fun b hb o e => (pin' b hb o e).1
    have nf10 : ∀ b ∈ G.fp, H10 b = none := fun b hb => by
      obtain ⟨o, e, _⟩ := h.T.obj _ _ st7 b hb
      exact (pin' b hb o e).2
    refine seg_at (seg_yield rfl rfl rfl ⟨i, yv, cp, H10, by omega, by omega, r10, ⟨e1, e2, I11⟩, con, fun cp' s'' w' ea sim => ?_⟩)
    have ea' : cp'.map (·.1) = cp.map (·.1) := ea.trans e1.symm
    have J := inv_sim I11 h.pn (hzp e1) ea' (by rw [e1]; exact sim)
    refine seg_again rfl (ih (i + 1) s'' s'' H10 cp' (by omega) ⟨ea, fun p hp => (sim.pin p hp).1, J⟩ (h.T.keep _ _ _ st10 fun b hb o e => sim.keep b o (hzf b hb) e) nf10 w')
theorem seg_gx0 (h : G.Ok A) (hz : ∀ a ∈ adr, G.X.s_0.heap.objs.size ≤ a) (s₀ s : Shared) (H : Hp) (cp : List (Addr × Obj)) (hH : G.Held adr cp H s₀ s) (st : G.tn 0 s.heap) (nf : ∀ b ∈ G.fp, H b = none) (w : G.W 0 H) :
    Seg (model G.X.prog G.X.w) A (G.R adr) (G.Y adr) (G.L + 1) s₀ G.start ((model G.X.prog G.X.w).den G.start) [] s := by
  have loop := seg_gx h hz G.L 0 s₀ s H cp (Nat.zero_add _) hH st nf w
  show Seg _ A _ _ _ s₀ _ ((compStart (.GeneratorExp G.elt [⟨G.tg, G.iter, [], 0⟩] G.scope G.pos) 0 (.ref G.it) .none G.X.env).onRaise (leaving G.X.env)) [] s
  unfold compStart
  rw [Sem.onRaise_eq_wrap]
  show Seg _ A _ _ _ s₀ _ ((ask >>= _).wrap _ _ _ _) [] s
  refine seg_bind_wrap (wpAny_askSetting ?_)
  split
  · exact seg_again rfl loop
  · refine seg_bind_wrap (wpAny_rule ?_)
    show Seg _ A _ _ _ s₀ _ ((standAt G.iter.pos >>= _).wrap _ _ _ _) [] s
    exact seg_bind_wrap (wpAny_standAt (seg_bind_wrap (h.T.self _ 0 s _ _ st (seg_again rfl loop))))
end
/-- asleep behind i items, in the state s -/
structure Gd.Sleeps (G : Gd) (A : Around) (adr : List Addr) (a : Addr) (gi : Nat) (i : Nat) (cp : List (Addr × Obj)) (H : Hp) (s : Shared) : Prop where
  le : i ≤ G.L
  gen : ∃ gs, s.gens[gi]? = some gs ∧ ∀ cp' s'', cp'.map (·.1) = adr → SimA adr cp' s s'' → gs.Goes (model G.X.prog G.X.w) A (G.R adr) (G.Y adr) (G.L - i + 1) (.send .none) s''
  inv : Inv G.X cp (wipe G.σ G.vs) H s
  adr : cp.map (·.1) = adr
  at_ : ∃ o, (a, o) ∈ cp ∧ ∃ nm qn, o.cls = .type "generator" ∧ o.data = .fields #[.int gi 0, nm, qn] ∧ o.slots = #[]
theorem Gd.Sleeps.isGen {G : Gd} {A : Around} {adr : List Addr} {a : Addr} {gi i : Nat} {cp : List (Addr × Obj)} {H : Hp} {s : Shared} (S : G.Sleeps A adr a gi i cp H s) : s.heap.IsGen a gi := by
  obtain ⟨o, hm, nm, qn, h1, h2, h3⟩ := S.at_
  exact ⟨o, nm, qn, (S.inv.pin (a, o) (List.mem_append_right _ hm)).1, h1, h2, h3⟩
theorem simA_set {adr : List Addr} {cp : List (Addr × Obj)} {s : Shared} {gi : Nat} {x : GenState} (hb : AllBare s.gens) (hx : x.bare = true) (hp : ∀ p ∈ cp, s.heap.get? p.1 = some p.2 ∧ ∀ v, p.2.data ≠ .cell v) : SimA adr cp s (s.setGen gi x) :=
  ⟨rfl, allBare_setGen hb hx, fun _ _ _ e => e, hp⟩
/-- the next item, or none -/
theorem gx_next {G : Gd} {A : Around} {adr : List Addr} {a : Addr} {gi i : Nat} {cp : List (Addr × Obj)} {H : Hp} {s : Shared} {Q : Option Value → Shared → Prop} {E : Value → Shared → Prop} (hh : A.handled = none) (hroom : A.depth < recursionLimit) (S : G.Sleeps A.in1 adr a gi i cp H s)
    (hY : ∀ v s₁ y H₁, i < G.L → RelV y v → (G.Con i y (G.W (i + 1)) H₁) → Inv G.X cp (wipe G.σ G.vs) H₁ s₁ → (G.W (i + 1) H₁ → G.Sleeps A.in1 adr a gi (i + 1) cp H₁ s₁) → Q (some v) s₁)
    (hP : ∀ s₁ H₁, i = G.L → Inv G.X cp (wipe G.σ G.vs) H₁ s₁ → G.Fin H₁ → Q none s₁) :
    wpAny (model G.X.prog G.X.w) A (pyNext (.ref a)) Q E s := by
  obtain ⟨gs, hgs, hgo⟩ := S.gen
  have pin : ∀ p ∈ cp, s.heap.get? p.1 = some p.2 ∧ ∀ v, p.2.data ≠ .cell v := fun p hp => let z := S.inv.pin p (List.mem_append_right _ hp); ⟨z.1, z.2.2.2.2⟩
  have same : ∀ {cp1 : List (Addr × Obj)}, cp1.map (·.1) = adr → (∀ p ∈ cp1, (s.setGen gi .running).heap.get? p.1 = some p.2) → cp1 = cp := fun {cp1} e h => by
    have e2 := e.trans S.adr.symm
    clear S hY hP hgo e
    have pin1 : ∀ p ∈ cp, s.heap.get? p.1 = some p.2 := fun p hp => (pin p hp).1
    clear pin
    induction cp1 generalizing cp with
    | nil =>
      cases cp with
      | nil => rfl
      | cons _ _ => simp at e2
    | cons p ps ih =>
      cases cp with
      | nil => simp at e2
      | cons q qs =>
        simp only [List.map_cons, List.cons.injEq] at e2
        have h1 : s.heap.get? p.1 = some p.2 := h p List.mem_cons_self
        have h2 := pin1 q List.mem_cons_self
        rw [e2.1, h2] at h1
        have e3 : p = q := Prod.ext e2.1 (Option.some.inj h1).symm
        rw [e3, ih (fun p hp => h p (List.mem_cons_of_mem _ hp)) e2.2 fun p hp => pin1 p (List.mem_cons_of_mem _ hp)]
  have hgl : gi < s.gens.size := (Array.getElem?_eq_some_iff.mp hgs).1
  refine wpAny_gsz (n := gi + 1) hgl (wpAny_pyNext_genexpQ (P := G.P adr) hh S.inv.nolimit hroom S.isGen hgs (hgo cp _ S.adr (simA_set S.inv.bare rfl pin)) (fun v s₁ gs' hb hv => ?_) (fun s₁ hp h' hk => ?_))
  · intro hsz
    have hsz1 : gi < s₁.gens.size := by
      have q : (s₁.setGen gi gs').gens.size = s₁.gens.size := setGen_size _ _ _
      have hsz' : gi + 1 ≤ (s₁.setGen gi gs').gens.size := hsz
      omega
    obtain ⟨j, y, cp1, H1, ej, lj, r1, ⟨c1, c2, I1⟩, con, kap⟩ := hv
    obtain rfl := same c1 c2
    obtain ⟨m, hm⟩ : ∃ m, G.L - i = m + 1 := ⟨G.L - i - 1, by have := S.le; omega⟩
    rw [hm] at ej kap
    have hj : j = i := by have := S.le; omega
    subst hj
    have I2 := inv_gens (t := s₁.toks) (d := s₁.drawn) I1 (allBare_setGen (g := gi) (x := gs') I1.bare hb)
    refine hY v _ y H1 lj r1 con I2 fun w => ⟨lj, ⟨gs', setGen_at hsz1, fun cp' s'' ea sim => ?_⟩, I2, c1, S.at_⟩
    have e : G.L - (j + 1) + 1 = m + 1 := by omega
    rw [e]
    exact kap cp' s'' w ea ⟨sim.os, sim.bare, sim.keep, sim.pin⟩
  · intro hsz
    obtain ⟨h0, cp1, H1, ⟨c1, c2, I1⟩, fin⟩ := hp
    obtain rfl := same c1 c2
    have I2 := inv_gens (t := s₁.toks) (d := s₁.drawn) I1 (allBare_setGen (g := gi) (x := .finished) I1.bare rfl)
    exact hP _ H1 (by have := S.le; omega) (I2.kept hk) fin
end GxM

end
section
set_option maxRecDepth 100000
set_option maxHeartbeats 2000000
set_option autoImplicit false
namespace GxM
open PySem PySem.Spec PyProof.Rows L2 GenW
theorem gx_sleep0 {G : Gd} {A : Around} {adr : List Addr} {a : Addr} {gi : Nat} {cp : List (Addr × Obj)} {H : Hp} {s : Shared} (h : G.Ok A) (hz : ∀ b ∈ adr, G.X.s_0.heap.objs.size ≤ b) (hg : s.gens[gi]? = some (.fresh G.start)) (I : Inv G.X cp (wipe G.σ G.vs) H s) (ea : cp.map (·.1) = adr)
    (st : G.tn 0 s.heap) (nf : ∀ b ∈ G.fp, H b = none) (w : G.W 0 H) (ho : ∃ o, (a, o) ∈ cp ∧ ∃ nm qn, o.cls = .type "generator" ∧ o.data = .fields #[.int gi 0, nm, qn] ∧ o.slots = #[]) : G.Sleeps A adr a gi 0 cp H s := by
  have hzp : ∀ p ∈ cp, G.X.s_0.heap.objs.size ≤ p.1 := fun p hp => hz p.1 (by rw [← ea]; exact List.mem_map.mpr ⟨p, hp, rfl⟩)
  have hzf : ∀ b ∈ G.fp, b ∉ adr := fun b hb hm => Nat.lt_irrefl _ (Nat.lt_of_lt_of_le (h.lt b hb) (hz b hm))
  refine ⟨Nat.zero_le _, ⟨_, hg, fun cp' s'' ea' sim => ⟨rfl, ?_⟩⟩, I, ea, ho⟩
  rw [Nat.sub_zero]
  exact seg_gx0 h hz s'' s'' H cp' ⟨ea', fun p hp => (sim.pin p hp).1, inv_sim I h.pn hzp (ea'.trans ea.symm) (by rw [ea]; exact sim)⟩ (h.T.keep _ _ _ st fun b hb o e => sim.keep b o (hzf b hb) e) nf w
/-! ### the consumers -/
def conAll (Qf : Hp → Prop) : Nat → V → (Hp → Prop) → Hp → Prop := fun _ y N H => ∃ b, y = .bl b ∧ if b = true then N H else Qf H
def conAny (Qt : Hp → Prop) : Nat → V → (Hp → Prop) → Hp → Prop := fun _ y N H => ∃ b, y = .bl b ∧ if b = true then Qt H else N H
def conSum (val : Nat → Int) : Nat → V → (Hp → Prop) → Hp → Prop := fun i y N H => y = .int (val i) ∧ N H
section
variable {G : Gd} {A : Around} {adr : List Addr} {a : Addr} {gi : Nat} {R : Result → Shared → Prop}
theorem all_loop {Qf : Hp → Prop} (hA : A.handled = none) (hd : A.depth < recursionLimit) (hC : G.Con = conAll Qf) (h1 : ∀ cp H s, Inv G.X cp (wipe G.σ G.vs) H s → G.Fin H → R (.ok (.ret (.bool true))) s) (h0 : ∀ cp H s, Inv G.X cp (wipe G.σ G.vs) H s → Qf H → R (.ok (.ret (.bool false))) s) :
    ∀ (k i : Nat) (cp : List (Addr × Obj)) (H : Hp) (s : Shared), G.L - i = k → G.Sleeps A.in1.in1 adr a gi i cp H s → codeAny (model G.X.prog G.X.w) A (.builtin "all.loop" ⟨[.ref a], []⟩) R s := by
  intro k
  induction k with
  | zero =>
    intro i cp H s hk S
    refine codeAny_builtin F.entry_all_loop ?_
    rw [Around.under_plainId F.plain_all_loop _]
    show wpAny _ A.in1 (pyNext (.ref a) >>= _) _ _ s
    refine wpAny_bind (gx_next (A := A.in1) hA hd S (fun v s₁ y H₁ hi _ _ _ _ => absurd hi (by omega)) fun s₁ H₁ _ I fin => ?_)
    exact wpAny_bind (wpAny_rule (wpAny_pure (h1 _ _ _ I fin)))
  | succ k ih =>
    intro i cp H s hk S
    refine codeAny_builtin F.entry_all_loop ?_
    rw [Around.under_plainId F.plain_all_loop _]
    show wpAny _ A.in1 (pyNext (.ref a) >>= _) _ _ s
    refine wpAny_bind (gx_next (A := A.in1) hA hd S (fun v s₁ y H₁ hi ry con I nx => ?_) fun s₁ H₁ e _ _ => absurd e (by omega))
    rw [hC] at con
    obtain ⟨b, rfl, con⟩ := con
    obtain rfl : v = Value.bool b := ry
    refine wpAny_bind (wpAny_holding (wpAny_truthy_bool ?_))
    refine wpAny_bind (wpAny_letGo ?_)
    cases b with
    | true =>
      simp only [if_true] at con ⊢
      exact wpAny_pure ⟨plainId_quiet F.plain_all_loop _, ih (i + 1) cp H₁ s₁ (by omega) (nx con)⟩
    | false =>
      simp only [Bool.false_eq_true, if_false] at con ⊢
      exact wpAny_bind (wpAny_rule (wpAny_pure (h0 _ _ _ I con)))
theorem any_loop {Qt : Hp → Prop} (hA : A.handled = none) (hd : A.depth < recursionLimit) (hC : G.Con = conAny Qt) (h1 : ∀ cp H s, Inv G.X cp (wipe G.σ G.vs) H s → G.Fin H → R (.ok (.ret (.bool false))) s) (h0 : ∀ cp H s, Inv G.X cp (wipe G.σ G.vs) H s → Qt H → R (.ok (.ret (.bool true))) s) :
    ∀ (k i : Nat) (cp : List (Addr × Obj)) (H : Hp) (s : Shared), G.L - i = k → G.Sleeps A.in1.in1 adr a gi i cp H s → codeAny (model G.X.prog G.X.w) A (.builtin "any.loop" ⟨[.ref a], []⟩) R s := by
  intro k
  induction k with
  | zero =>
    intro i cp H s hk S
    refine codeAny_builtin F.entry_any_loop ?_
    rw [Around.under_plainId F.plain_any_loop _]
    show wpAny _ A.in1 (pyNext (.ref a) >>= _) _ _ s
    refine wpAny_bind (gx_next (A := A.in1) hA hd S (fun v s₁ y H₁ hi _ _ _ _ => absurd hi (by omega)) fun s₁ H₁ _ I fin => ?_)
    exact wpAny_bind (wpAny_rule (wpAny_pure (h1 _ _ _ I fin)))
  | succ k ih =>
    intro i cp H s hk S
    refine codeAny_builtin F.entry_any_loop ?_
    rw [Around.under_plainId F.plain_any_loop _]
    show wpAny _ A.in1 (pyNext (.ref a) >>= _) _ _ s
    refine wpAny_bind (gx_next (A := A.in1) hA hd S (fun v s₁ y H₁ hi ry con I nx => ?_) fun s₁ H₁ e _ _ => absurd e (by omega))
    rw [hC] at con
    obtain ⟨b, rfl, con⟩ := con
    obtain rfl : v = Value.bool b := ry
    refine wpAny_bind (wpAny_holding (wpAny_truthy_bool ?_))
    refine wpAny_bind (wpAny_letGo ?_)
    cases b with
    | false =>
      simp only [Bool.false_eq_true, if_false] at con ⊢
      exact wpAny_pure ⟨plainId_quiet F.plain_any_loop _, ih (i + 1) cp H₁ s₁ (by omega) (nx con)⟩
    | true =>
      simp only [if_true] at con ⊢
      exact wpAny_bind (wpAny_rule (wpAny_pure (h0 _ _ _ I con)))
/-- the sum's own list at S -/
abbrev sumObj (t : Int) (k : Tok) (c : Nat) : Obj := { cls := .type "list", dict := none, data := .seq #[.int t k] c, slots := #[] }
theorem sum_loop {val : Nat → Int} {S : Addr} {go : Obj} (hpn : G.X.pn = []) (hzS : G.X.s_0.heap.objs.size ≤ S) (hza : G.X.s_0.heap.objs.size ≤ a) (hA : A.handled = none) (hd : A.depth < recursionLimit) (hC : G.Con = conSum val) (hS : S ≠ a) (hR : ∀ cp H s t, Inv G.X cp (wipe G.σ G.vs) H s → G.Fin H → R (.ok (.ret (.int (preSum val G.L) t))) s) :
    ∀ (k i : Nat) (H : Hp) (s : Shared) (tA : Tok) (c : Nat) (st : Int), (st = 0 ∨ st = 2) → G.L - i = k → G.Sleeps A.in1.in1 [S, a] a gi i [(S, sumObj (preSum val i) tA c), (a, go)] H s → codeAny (model G.X.prog G.X.w) A (.builtin "sum.loop" ⟨[.ref a, .ref S, rawInt st, rawInt 0], []⟩) R s := by
  intro k
  induction k with
  | zero =>
    intro i H s tA c st hst2 hk Z
    have hSs := (Z.inv.pin (S, sumObj (preSum val i) tA c) (List.mem_append_right _ List.mem_cons_self)).1
    refine codeAny_builtin F.entry_sum_loop ?_
    rw [Around.under_plainId F.plain_sum_loop _]
    show wpAny _ A.in1 (seqItems? (.ref S) >>= _) _ _ s
    refine wpAny_bind (wpAny_seqItems hSs rfl ?_)
    show wpAny _ A.in1 (tryCatch (pyNext (.ref a)) _ >>= _) _ _ s
    refine wpAny_bind (wpAny_tryCatch (gx_next (A := A.in1) hA hd Z (fun v s₁ y H₁ hi _ _ _ _ => absurd hi (by omega)) fun s₁ H₁ e I fin => ?_))
    rw [e]
    exact wpAny_pure (hR _ _ _ _ I fin)
  | succ k ih =>
    intro i H s tA c st hst2 hk Z
    have hSs := (Z.inv.pin (S, sumObj (preSum val i) tA c) (List.mem_append_right _ List.mem_cons_self)).1
    refine codeAny_builtin F.entry_sum_loop ?_
    rw [Around.under_plainId F.plain_sum_loop _]
    show wpAny _ A.in1 (seqItems? (.ref S) >>= _) _ _ s
    refine wpAny_bind (wpAny_seqItems hSs rfl ?_)
    show wpAny _ A.in1 (tryCatch (pyNext (.ref a)) _ >>= _) _ _ s
    refine wpAny_bind (wpAny_tryCatch (gx_next (A := A.in1) hA hd Z (fun v s' y H₁ hi ry con I nx => ?_) fun s₁ H₁ e _ _ => absurd e (by omega)))
    rw [hC] at con
    obtain ⟨rfl, con⟩ := con
    obtain ⟨t, rfl⟩ := ry
    have Z' := nx con
    have hS' := (I.pin (S, sumObj (preSum val i) tA c) (List.mem_append_right _ List.mem_cons_self)).1
    have hga := (I.pin (a, go) (List.mem_append_right _ (List.mem_cons_of_mem _ List.mem_cons_self)))
    -- the list is written, the generator sleeps on
    have again : ∀ (s2 : Shared) (t2 : Tok) (c2 : Nat), s2.os = s'.os → s2.gens = s'.gens → (∀ b o, b ≠ S → s'.heap.get? b = some o → s2.heap.get? b = some o) → s2.heap.get? S = some (sumObj (preSum val i + val i) t2 c2) →
        G.Sleeps A.in1.in1 [S, a] a gi (i + 1) [(S, sumObj (preSum val (i + 1)) t2 c2), (a, go)] H₁ s2 := fun s2 t2 c2 ho hg hk2 hs2 => by
      have sim : SimA [S, a] [(S, sumObj (preSum val (i + 1)) t2 c2), (a, go)] s' s2 := ⟨ho, by rw [hg]; exact I.bare, fun b o hb e => hk2 b o (fun z => hb (by rw [z]; exact List.mem_cons_self)) e, fun p hp => by
        rcases List.mem_cons.mp hp with z | z
        · rw [z]; exact ⟨hs2, fun v q => by cases q⟩
        · rw [List.mem_singleton.mp z]
          exact ⟨hk2 a _ (Ne.symm hS) hga.1, hga.2.2.2.2⟩⟩
      obtain ⟨gs, hgs, hgo⟩ := Z'.gen
      refine ⟨Z'.le, ⟨gs, by rw [hg]; exact hgs, fun cp' s'' ea sm => hgo cp' s'' ea ⟨sm.os.trans ho, sm.bare, fun b o hb e => sm.keep b o hb (sim.keep b o hb e), sm.pin⟩⟩, ?_, rfl, ?_⟩
      · refine inv_sim I hpn (fun p hp => ?_) rfl sim
        rcases List.mem_cons.mp hp with z | z
        · rw [z]; exact hzS
        · rw [List.mem_singleton.mp z]; exact hza
      · obtain ⟨o, hm, r⟩ := Z'.at_
        rcases List.mem_cons.mp hm with z | z
        · cases z; exact absurd rfl hS
        · exact ⟨o, List.mem_cons_of_mem _ z, r⟩
    rcases hst2 with rfl | rfl
    · show wpAny _ A.in1 (if (_ : Bool) = true then (mkInt (preSum val i + val i) >>= _) else _) _ _ _
      split
      · refine wpAny_bind (wpAny_mkInt ?_)
        show wpAny _ A.in1 (updateSeq S (fun _ => #[.int (preSum val i + val i) s'.toks]) >>= _) _ _ _
        refine wpAny_bind ?_
        refine wpAny_updateSeq hS' rfl (wpAny_pure ⟨plainId_quiet F.plain_sum_loop _, ih (i + 1) H₁ _ _ _ 0 (.inl rfl) (by omega) (again _ _ _ rfl rfl (fun b o hb e => ?_) (Heap.get?_update_self _ hS' rfl))⟩)
        exact (Heap.get?_update_other _ _ (Ne.symm hb)).trans e
      · refine wpAny_bind (wpAny_rule ?_)
        refine wpAny_bind (wpAny_attempt (wpAny_holding (wpAny_add_int ?_)))
        show wpAny _ A.in1 (updateSeq S (fun _ => #[.int (preSum val i + val i) s'.toks]) >>= _) _ _ _
        refine wpAny_bind (wpAny_updateSeq hS' rfl ?_)
        have hS₂ := Heap.get?_update_self (Obj.mapSeq fun _ => #[Value.int (preSum val i + val i) s'.toks]) hS' rfl
        refine wpAny_bind (wpAny_letGo ?_)
        refine wpAny_bind (wpAny_updateSeq hS₂ rfl (wpAny_pure ⟨plainId_quiet F.plain_sum_loop _, ih (i + 1) H₁ _ _ _ 2 (.inr rfl) (by omega) (again _ _ _ rfl rfl (fun b o hb e => ?_) (Heap.get?_update_self _ hS₂ rfl))⟩))
        exact (Heap.get?_update_other _ _ (Ne.symm hb)).trans ((Heap.get?_update_other _ _ (Ne.symm hb)).trans e)
    · show wpAny _ A.in1 ((holding [Value.int (val i) t] (binaryOp .Add (.int (preSum val i) tA) (.int (val i) t))).attempt >>= _) _ _ _
      refine wpAny_bind (wpAny_attempt (wpAny_holding (wpAny_add_int ?_)))
      show wpAny _ A.in1 (updateSeq S (fun _ => #[.int (preSum val i + val i) s'.toks]) >>= _) _ _ _
      refine wpAny_bind (wpAny_updateSeq hS' rfl ?_)
      have hS₂ := Heap.get?_update_self (Obj.mapSeq fun _ => #[Value.int (preSum val i + val i) s'.toks]) hS' rfl
      refine wpAny_bind (wpAny_letGo ?_)
      refine wpAny_bind (wpAny_updateSeq hS₂ rfl (wpAny_pure ⟨plainId_quiet F.plain_sum_loop _, ih (i + 1) H₁ _ _ _ 2 (.inr rfl) (by omega) (again _ _ _ rfl rfl (fun b o hb e => ?_) (Heap.get?_update_self _ hS₂ rfl))⟩))
      exact (Heap.get?_update_other _ _ (Ne.symm hb)).trans ((Heap.get?_update_other _ _ (Ne.symm hb)).trans e)
end
end GxM

end
section
set_option maxRecDepth 100000
set_option maxHeartbeats 2000000
set_option autoImplicit false
namespace GxM
open PySem PySem.Spec PyProof.Rows L2 GenW
theorem over_loop_eq {A : Around} {elt tg iter : Expr} {scope : Scope} {pos : Pos} {it acc : Value} {env : Env} : A.over (.compLoop (.GeneratorExp elt [⟨tg, iter, [], 0⟩] scope pos) 0 it acc env) [] = A.deeper env := by
  obtain ⟨h, d, fr, gs, u⟩ := A
  cases fr <;> cases gs <;> rfl
def tGx {Z : Type} (T : List (Addr × Str)) (wi : TI) (g : TG) (te : TE) (vs : List Nat) (Fin : Z → Nat → Hp → Prop) (Con : Z → Nat → V → (Hp → Prop) → Hp → Prop) : L2.St → Hp → Prop := fun σ H => wi σ H fun J H1 => LamX.Tabs T H1 ∧ ∀ H2, LamX.ExtN H1 H2 → LamX.Tabs T H2 →
  ∃ (z : Z) (L : Nat) (W : Nat → Hp → Prop), W 0 H2 ∧ ∀ i H, W i H → (i = L → J.stop i H ∧ Fin z L H) ∧ (i < L → J.go i H ∧ ∀ x H', J.yld i H x H' → g x (wipe σ vs) H' fun σ2 H2 => wipe σ2 vs = wipe σ vs ∧ te σ2 H2 fun y H3 => Con z i y (W (i + 1)) H3)
section
variable {X : Cx} {pins : List (Addr × Obj)} {σ : L2.St} {H : Hp} {s : Shared}
theorem gx_make {Z : Type} {T : List (Addr × Str)} {c P : Addr} {elt tg iter : Expr} {scope : Scope} {own : List (Str × Nat)} {gpos : Pos} {wi : TI} {g : TG} {te : TE} {k : Nat} {Fin : Z → Nat → Hp → Prop} {Con : Z → Nat → V → (Hp → Prop) → Hp → Prop} {Q' : Value → Shared → Prop}
    (hr : Room (k + 1) X.A) (TB : LamX.TabB X.base X.mg c P) (hcode : X.env.code = .ref c) (hmT : (P, X.env.qual ++ "<genexpr>") ∈ T) (hu : ∀ p ∈ T, p.1 = P → p.2 = X.env.qual ++ "<genexpr>") (G : GxOk X.N X.env.scope scope own) (hN : X.N.Nodup) (hi : PI X tg iter wi)
    (hgt : ∀ (s : Shared) (H : Hp) (C : Addr) (code : Value) (fp : List Addr), PG (gxCx X (X.A.in1.in1.deeper (gEnv X scope C code)) s H (gEnv X scope C code) fp) tg g)
    (he : ∀ (s : Shared) (H : Hp) (C : Addr) (code : Value) (fp : List Addr), Room k (X.A.in1.in1.deeper (gEnv X scope C code)) → (X.A.in1.in1.deeper (gEnv X scope C code)).guards = X.A.guards → PE (gxCx X (X.A.in1.in1.deeper (gEnv X scope C code)) s H (gEnv X scope C code) fp) elt te)
    (hs : ∀ x, genFold iter X.env x = pure x) (I : Inv X pins σ H s) (h : tGx T wi g te (own.map (·.2)) Fin Con σ H)
    (hQ : ∀ (G : Gd) (z : Z) (a : Addr) (gi : Nat) (s5 : Shared) (H2 : Hp) (go : Obj), G.Ok X.A.in1.in1 → G.X.prog = X.prog → G.X.w = X.w → G.Fin = Fin z G.L → G.Con = Con z → (∀ cp σ' H' s', Inv G.X cp σ' H' s' → Inv X pins σ H' s') →
      s5.gens[gi]? = some (.fresh G.start) → G.tn 0 s5.heap → (∀ b ∈ G.fp, H2 b = none) → G.W 0 H2 → G.X.s_0.heap.objs.size ≤ a → a < s5.heap.objs.size → Inv G.X [(a, go)] (wipe G.σ G.vs) H2 s5 → (∃ nm qn, go.cls = .type "generator" ∧ go.data = .fields #[.int gi 0, nm, qn] ∧ go.slots = #[]) → Q' (.ref a) s5) :
    wpAny (model X.prog X.w) X.A (eval (.GeneratorExp elt [⟨tg, iter, [], 0⟩] scope gpos) X.env) Q' X.xe s := by
  have hfree := gx_free I G
  refine wpAny_GeneratorExp_make G.co (closure_ok hfree) G.cell G.dot G.blk.kind (by have := hr.dp; omega) (thn (hi.run pins s σ H _ I h) fun xv s1 hx => thn hx fun itv s2 h2 => ?_) hs
  obtain ⟨it, fp, tn, J, H1, e, I2, T0, st2, f2, tb, q⟩ := h2
  subst e
  refine ⟨I2.nolimit, ?_⟩
  obtain ⟨ps, hP, ht, ha⟩ := tb _ hmT
  have hP' : s2.heap.get? P = some { cls := .none, data := .fields ps } := I2.hok P _ hP
  have cd := TB.code.keeps I2.bk
  have cont : ∀ (code : Value) (H2 : Hp) (s3 : Shared), Inv X pins σ H2 s3 → LamX.ExtN H1 H2 → LamX.Tabs T H2 → (∀ b o, b ≠ P → s2.heap.get? b = some o → s3.heap.get? b = some o) → (∀ b ∈ fp, H2 b = none) →
      wpAny (model X.prog X.w) X.A (builtinsFor X.env.globals X.env.builtins) (fun bi s₄ => ∀ h', h'.Ns s₄.heap.objs.size (fun y => if y = (".0" : Str) then some (.ref it) else none) → Heap.SameBut s₄.heap.objs.size (s₄.heap.push { cls := .type "frame", data := .dict #[] }) h' →
          Q' (.ref h'.objs.size) { s₄ with
            gens := s₄.gens.push (.fresh (.compStart (.GeneratorExp elt [⟨tg, iter, [], 0⟩] scope gpos) 0 (.ref it) .none (genEnv scope (cloFrom X.env.cells scope.names []) s₄.heap.objs.size code bi X.env))),
            toks := s₄.toks + 1 + 1 + 1,
            heap := h'.push { cls := .type "generator", data := .fields #[.int s₄.gens.size 0, .str "<genexpr>" (s₄.toks + 1), .str (X.env.qual ++ "<genexpr>") (s₄.toks + 1 + 1)] } }) X.xe s3 := by
    intro code H2 s3 I3 eN tb2 keep nf
    obtain ⟨bm, ob, e1, e2, e3, e4, e5, e6, e7, e8⟩ := TB.bm
    refine wpAny_builtinsFor (m := X.mg) (by rw [I3.ok.glob]; exact I3.mod.glob.keeps I3.bk) e1 e2 (I3.bk _ _ e5) e6 e7 e8 ?_
    intro h' hn' hs'
    obtain ⟨z, L, W, w0, turn⟩ := q H2 eN tb2
    have nP : ∀ b ∈ fp, b ≠ P := fun b hb z => by
      have := (f2 b hb).1
      rw [z, hP] at this
      cases this
    have lt2 : ∀ b ∈ fp, b < s2.heap.objs.size := fun b hb => by
      obtain ⟨o, e, _⟩ := T0.obj _ _ st2 b hb
      exact Heap.lt_size e
    have lt3 : ∀ b ∈ fp, b < s3.heap.objs.size := fun b hb => by
      obtain ⟨o, e, _⟩ := T0.obj _ _ st2 b hb
      exact Heap.lt_size (keep b o (nP b hb) e)
    have f3 : ∀ b ∈ fp, FpOk X pins H2 b := fun b hb => ⟨nf b hb, (f2 b hb).2⟩
    have sz : h'.objs.size = s3.heap.objs.size + 1 := by rw [hs'.1, Heap.size_push]
    have kp : ∀ b o, s3.heap.get? b = some o → h'.get? b = some o := fun b o e => hs'.extBut b o (Nat.ne_of_lt (Heap.lt_size e)) (Heap.get?_push_of_some _ e)
    have hb5 : AllBare (s3.gens.push (.fresh (.compStart (.GeneratorExp elt [⟨tg, iter, [], 0⟩] scope gpos) 0 (.ref it) .none (gEnv X scope s3.heap.objs.size code)))) := I3.bare.push rfl
    have hA : (X.A.in1.in1.deeper (gEnv X scope s3.heap.objs.size code)).handled = none := hr.hd
    have hfr : (X.A.in1.in1.deeper (gEnv X scope s3.heap.objs.size code)).frames = some (gEnv X scope s3.heap.objs.size code :: X.stack) := Around.frames_deeper I3.ok.frames
    have rm : Room k (X.A.in1.in1.deeper (gEnv X scope s3.heap.objs.size code)) := ⟨hA, by have := hr.dp; show X.A.depth + 1 + 3 * k + 5 < _; omega, by have := hr.un; show X.A.units + 1 + 1 + 3 + 16 * k + 200 < _; omega⟩
    have I4 := gx_start (A := X.A.in1.in1.deeper (gEnv X scope s3.heap.objs.size code)) (code := code) (g5 := s3.gens.push (.fresh (.compStart (.GeneratorExp elt [⟨tg, iter, [], 0⟩] scope gpos) 0 (.ref it) .none (gEnv X scope s3.heap.objs.size code)))) (tk5 := s3.toks + 1 + 1 + 1) I3 G hN (fun b hb => ⟨f3 b hb, lt3 b hb⟩) hA hfr hn' kp hb5
    have I5 := inv_pin (s'' := { s3 with gens := s3.gens.push (.fresh (.compStart (.GeneratorExp elt [⟨tg, iter, [], 0⟩] scope gpos) 0 (.ref it) .none (gEnv X scope s3.heap.objs.size code))), toks := s3.toks + 1 + 1 + 1, heap := h'.push { cls := .type "generator", data := .fields #[.int s3.gens.size 0, .str "<genexpr>" (s3.toks + 1), .str (X.env.qual ++ "<genexpr>") (s3.toks + 1 + 1)] } }) (a := h'.objs.size) (o := { cls := .type "generator", data := .fields #[.int s3.gens.size 0, .str "<genexpr>" (s3.toks + 1), .str (X.env.qual ++ "<genexpr>") (s3.toks + 1 + 1)] }) I4 (Nat.le_refl _) (fun b u e => Heap.get?_push_of_some _ e) (Heap.get?_push_size _ rfl) (fun v q => by cases q) rfl hb5
    refine hQ { X := gxCx X (X.A.in1.in1.deeper (gEnv X scope s3.heap.objs.size code)) s3 H2 (gEnv X scope s3.heap.objs.size code) fp, elt := elt, tg := tg, iter := iter, scope := scope, pos := gpos, it := it, fp := fp, tn := tn, J := J, g := g, te := te, vs := own.map (·.2), σ := σ, L := L, W := W, Fin := Fin z L, Con := Con z } z h'.objs.size s3.gens.size _ H2 _ ?_ rfl rfl rfl rfl ?_ (Array.getElem?_push_size ..) ?_ nf w0 ?_ ?_ I5 ⟨_, _, rfl, rfl, rfl⟩
    · exact ⟨over_loop_eq.symm, hr.hd, rfl, rfl, rfl, rfl, lt3, T0, hgt _ _ _ _ _, he _ _ _ _ _ rm rfl, G.co, turn⟩
    · exact fun cp σ' H' s' I6 => I3.call' (ch := fp) I6.os I6.base I6.hok I6.bare fun b hb => ⟨(f3 b hb).2.2.2.1, (f3 b hb).2.1, (f3 b hb).2.2.2.2.1, (f3 b hb).2.2.2.2.2⟩
    · exact T0.keep _ _ _ st2 fun b hb o e => Heap.get?_push_of_some _ (kp b o (keep b o (nP b hb) e))
    · show s3.heap.objs.size ≤ h'.objs.size
      omega
    · rw [Heap.size_push]
      exact Nat.lt_succ_self _
  cases hf : codeAmong gpos ps.toList with
  | none =>
    refine wpAny_genexprCodeX hcode (cd.code hP' ht) (cd.tab hP') hf fun c' h' tk hx hge hlt hco' hrec htab' _ => ?_
    obtain ⟨c2, oc, vs, t, e2, hoc, hd, hv⟩ := hrec
    cases e2
    have nC : H1 c' = none := I2.hok.fresh hge
    have I3 := LamX.inv_table (t' := tk) (more := #[rawInt gpos.line, rawInt gpos.col, .ref c']) (h' := h') I2 hP (fun b o hb e => hx b o hb e) htab'.2 hge ⟨oc, vs, t, hoc, hd, hv⟩
    have hE : LamX.ExtN H1 (upd (upd H1 P (.tbl (ps ++ #[rawInt gpos.line, rawInt gpos.col, .ref c']))) c' (LamX.CodeO c' (X.env.qual ++ "<genexpr>"))) := fun b o e n => by
      rw [upd_ne (ne_of_none e nC), upd_ne (fun z => n ps (Option.some.inj (e.symm.trans (by rw [z]; exact hP))))]
      exact e
    have eL : (ps ++ #[rawInt gpos.line, rawInt gpos.col, .ref c']).toList = ps.toList ++ [rawInt gpos.line, rawInt gpos.col, .ref c'] := by simp
    refine cont _ _ _ I3 hE (fun p hp => ?_) (fun b o hb e => hx b o hb e) fun b hb => ?_
    · by_cases hb : p.1 = P
      · rw [hu p hp hb, hb]
        refine ⟨_, by rw [upd_ne (ne_of_none hP nC), upd_same], by rw [eL]; exact PySem.TriplesOk_snoc _ _ _ _ ht, fun p' cv hcv => ?_⟩
        rw [eL] at hcv
        rcases LamX.among_app _ ht hcv with z | z
        · obtain ⟨c0, e1, e2⟩ := ha p' cv z
          exact ⟨c0, e1, hE _ _ e2 LamX.codeO_ne⟩
        · exact ⟨c', z, upd_same⟩
      · obtain ⟨ps', a1, a2, a3⟩ := tb p hp
        refine ⟨ps', by rw [upd_ne (ne_of_none a1 nC), upd_ne hb]; exact a1, a2, fun p' cv hcv => ?_⟩
        obtain ⟨c0, e1, e2⟩ := a3 p' cv hcv
        exact ⟨c0, e1, hE _ _ e2 LamX.codeO_ne⟩
    · have h1 := (f2 b hb).1
      have h2 : b ≠ P := fun z => by rw [z, hP] at h1; cases h1
      have h3 : b ≠ c' := fun z => by
        obtain ⟨o, e, _⟩ := T0.obj _ _ st2 b hb
        rw [z] at e
        exact Nat.lt_irrefl _ (Nat.lt_of_lt_of_le (Heap.lt_size e) hge)
      rw [upd_ne h3, upd_ne h2]
      exact h1
  | some cv =>
    refine wpAny_genexprCode_hit hcode (cd.code hP' ht) hf ?_
    exact cont cv H1 s2 I2 (LamX.ExtN.refl H1) tb (fun _ _ _ e => e) fun b hb => (f2 b hb).1
end
end GxM

end
section
set_option maxRecDepth 100000
set_option maxHeartbeats 2000000
set_option autoImplicit false
namespace GxM
open PySem PySem.Spec PyProof.Rows L2 GenW

def tAllG (T : List (Addr × Str)) (wi : TI) (g : TG) (te : TE) (vs : List Nat) : TE := fun σ H Q => tGx (Z := Unit) T wi g te vs (fun _ _ H => Q (.bl true) H) (fun _ => conAll fun H => Q (.bl false) H) σ H
def tAnyG (T : List (Addr × Str)) (wi : TI) (g : TG) (te : TE) (vs : List Nat) : TE := fun σ H Q => tGx (Z := Unit) T wi g te vs (fun _ _ H => Q (.bl false) H) (fun _ => conAny fun H => Q (.bl true) H) σ H
def tSumG (T : List (Addr × Str)) (wi : TI) (g : TG) (te : TE) (vs : List Nat) : TE := fun σ H Q => tGx (Z := Nat → Int) T wi g te vs (fun val L H => Q (.int (preSum val L)) H) (fun val => conSum val) σ H

theorem pe_allG {X : Cx} {T : List (Addr × Str)} {c P : Addr} {elt tg iter : Expr} {scope : Scope} {own : List (Str × Nat)} {gpos p pos : Pos} {wi : TI} {g : TG} {te : TE} {k : Nat}
    (hr : Room (k + 1) X.A) (hm : X.mg "all" = none) (TB : LamX.TabB X.base X.mg c P) (hcode : X.env.code = .ref c) (hmT : (P, X.env.qual ++ "<genexpr>") ∈ T) (hu : ∀ p ∈ T, p.1 = P → p.2 = X.env.qual ++ "<genexpr>") (G : GxOk X.N X.env.scope scope own) (hN : X.N.Nodup) (hi : PI X tg iter wi)
    (hgt : ∀ (s : Shared) (H : Hp) (C : Addr) (code : Value) (fp : List Addr), PG (gxCx X (X.A.in1.in1.deeper (gEnv X scope C code)) s H (gEnv X scope C code) fp) tg g)
    (he : ∀ (s : Shared) (H : Hp) (C : Addr) (code : Value) (fp : List Addr), Room k (X.A.in1.in1.deeper (gEnv X scope C code)) → (X.A.in1.in1.deeper (gEnv X scope C code)).guards = X.A.guards → PE (gxCx X (X.A.in1.in1.deeper (gEnv X scope C code)) s H (gEnv X scope C code) fp) elt te)
    (hg : Gl X "all" := by rfl) (hb : bootBuiltins "all" = some (.builtin "all") := by rfl) (hs : ∀ x, genFold iter X.env x = pure x := by intro _; rfl)
    (hst : starEach [.GeneratorExp elt [⟨tg, iter, [], 0⟩] scope gpos] X.env = (false, eval (.GeneratorExp elt [⟨tg, iter, [], 0⟩] scope gpos) X.env) :: starEach [] X.env := by rfl) :
    PE X (.Call (.Name "all" p) [.GeneratorExp elt [⟨tg, iter, [], 0⟩] scope gpos] [] pos) (tAllG T wi g te (own.map (·.2))) := by
  refine ⟨fun pins s σ H Q I h => ?_⟩
  refine wpAny_Call_Name_kw (ld_blt I hg hm hb ?_)
  refine PyProof.Rows.callWith_builtin1 ?_ hst (by rfl)
  rw [hst]
  show wpAny _ _ (spliced ((false, eval (.GeneratorExp elt [⟨tg, iter, [], 0⟩] scope gpos) X.env) :: backTo pos (starEach [] X.env))) _ _ s
  refine Calls.spliced_cons (gx_make hr TB hcode hmT hu G hN hi hgt he hs I h fun G z a gi s5 H2 go ok ep ew eF eC back hgn st nf w za la I5 hgo => ?_)
  refine Calls.spliced_nil ?_
  have isg : s5.heap.IsGen a gi := by
    obtain ⟨nm, qn, h1, h2, h3⟩ := hgo
    exact ⟨go, nm, qn, (I5.pin (a, go) (List.mem_append_right _ List.mem_cons_self)).1, h1, h2, h3⟩
  refine call_function_tree F.kind_all F.plain_all F.entry_all (F.args_all1 _) ?_
  unfold Builtin.«all»
  refine wpAny_bind (m := oneArg "all" _) (wpAny_pure ?_)
  refine wpAny_bind (wpAny_pyIter_gen isg ?_)
  have S := gx_sleep0 (adr := [a]) ok (fun b hb => by rw [List.mem_singleton.mp hb]; exact za) hgn I5 rfl st nf w ⟨go, List.mem_cons_self, hgo⟩
  have L := all_loop (R := fun r s' => ∃ u, r = .ok (.ret u) ∧ EP X pins σ Q u s') (Qf := fun H => Q (.bl false) H) hr.hd (by have := hr.dp; omega) eC (fun cp H s J f => ⟨_, rfl, .bl true, H, back _ _ _ _ J, rfl, by rw [eF] at f; exact f⟩) (fun cp H s J f => ⟨_, rfl, .bl false, H, back _ _ _ _ J, rfl, f⟩) G.L 0 _ _ _ rfl S
  rw [ep, ew] at L
  refine wpAny_pure ⟨plainId_quiet F.plain_all_loop _, codeAny_mono L fun r s' hq => ?_⟩
  obtain ⟨u, rfl, hq⟩ := hq
  exact hq

theorem pe_anyG {X : Cx} {T : List (Addr × Str)} {c P : Addr} {elt tg iter : Expr} {scope : Scope} {own : List (Str × Nat)} {gpos p pos : Pos} {wi : TI} {g : TG} {te : TE} {k : Nat}
    (hr : Room (k + 1) X.A) (hm : X.mg "any" = none) (TB : LamX.TabB X.base X.mg c P) (hcode : X.env.code = .ref c) (hmT : (P, X.env.qual ++ "<genexpr>") ∈ T) (hu : ∀ p ∈ T, p.1 = P → p.2 = X.env.qual ++ "<genexpr>") (G : GxOk X.N X.env.scope scope own) (hN : X.N.Nodup) (hi : PI X tg iter wi)
    (hgt : ∀ (s : Shared) (H : Hp) (C : Addr) (code : Value) (fp : List Addr), PG (gxCx X (X.A.in1.in1.deeper (gEnv X scope C code)) s H (gEnv X scope C code) fp) tg g)
    (he : ∀ (s : Shared) (H : Hp) (C : Addr) (code : Value) (fp : List Addr), Room k (X.A.in1.in1.deeper (gEnv X scope C code)) → (X.A.in1.in1.deeper (gEnv X scope C code)).guards = X.A.guards → PE (gxCx X (X.A.in1.in1.deeper (gEnv X scope C code)) s H (gEnv X scope C code) fp) elt te)
    (hg : Gl X "any" := by rfl) (hb : bootBuiltins "any" = some (.builtin "any") := by rfl) (hs : ∀ x, genFold iter X.env x = pure x := by intro _; rfl)
    (hst : starEach [.GeneratorExp elt [⟨tg, iter, [], 0⟩] scope gpos] X.env = (false, eval (.GeneratorExp elt [⟨tg, iter, [], 0⟩] scope gpos) X.env) :: starEach [] X.env := by rfl) :
    PE X (.Call (.Name "any" p) [.GeneratorExp elt [⟨tg, iter, [], 0⟩] scope gpos] [] pos) (tAnyG T wi g te (own.map (·.2))) := by
  refine ⟨fun pins s σ H Q I h => ?_⟩
  refine wpAny_Call_Name_kw (ld_blt I hg hm hb ?_)
  refine PyProof.Rows.callWith_builtin1 ?_ hst (by rfl)
  rw [hst]
  show wpAny _ _ (spliced ((false, eval (.GeneratorExp elt [⟨tg, iter, [], 0⟩] scope gpos) X.env) :: backTo pos (starEach [] X.env))) _ _ s
  refine Calls.spliced_cons (gx_make hr TB hcode hmT hu G hN hi hgt he hs I h fun G z a gi s5 H2 go ok ep ew eF eC back hgn st nf w za la I5 hgo => ?_)
  refine Calls.spliced_nil ?_
  have isg : s5.heap.IsGen a gi := by
    obtain ⟨nm, qn, h1, h2, h3⟩ := hgo
    exact ⟨go, nm, qn, (I5.pin (a, go) (List.mem_append_right _ List.mem_cons_self)).1, h1, h2, h3⟩
  refine call_function_tree F.kind_any F.plain_any F.entry_any (F.args_any1 _) ?_
  unfold Builtin.«any»
  refine wpAny_bind (m := oneArg "any" _) (wpAny_pure ?_)
  refine wpAny_bind (wpAny_pyIter_gen isg ?_)
  have S := gx_sleep0 (adr := [a]) ok (fun b hb => by rw [List.mem_singleton.mp hb]; exact za) hgn I5 rfl st nf w ⟨go, List.mem_cons_self, hgo⟩
  have L := any_loop (R := fun r s' => ∃ u, r = .ok (.ret u) ∧ EP X pins σ Q u s') (Qt := fun H => Q (.bl true) H) hr.hd (by have := hr.dp; omega) eC (fun cp H s J f => ⟨_, rfl, .bl false, H, back _ _ _ _ J, rfl, by rw [eF] at f; exact f⟩) (fun cp H s J f => ⟨_, rfl, .bl true, H, back _ _ _ _ J, rfl, f⟩) G.L 0 _ _ _ rfl S
  rw [ep, ew] at L
  refine wpAny_pure ⟨plainId_quiet F.plain_any_loop _, codeAny_mono L fun r s' hq => ?_⟩
  obtain ⟨u, rfl, hq⟩ := hq
  exact hq

theorem pe_sumG {X : Cx} {T : List (Addr × Str)} {c P : Addr} {elt tg iter : Expr} {scope : Scope} {own : List (Str × Nat)} {gpos p pos : Pos} {wi : TI} {g : TG} {te : TE} {k : Nat}
    (hr : Room (k + 1) X.A) (hm : X.mg "sum" = none) (TB : LamX.TabB X.base X.mg c P) (hcode : X.env.code = .ref c) (hmT : (P, X.env.qual ++ "<genexpr>") ∈ T) (hu : ∀ p ∈ T, p.1 = P → p.2 = X.env.qual ++ "<genexpr>") (G : GxOk X.N X.env.scope scope own) (hN : X.N.Nodup) (hi : PI X tg iter wi)
    (hgt : ∀ (s : Shared) (H : Hp) (C : Addr) (code : Value) (fp : List Addr), PG (gxCx X (X.A.in1.in1.deeper (gEnv X scope C code)) s H (gEnv X scope C code) fp) tg g)
    (he : ∀ (s : Shared) (H : Hp) (C : Addr) (code : Value) (fp : List Addr), Room k (X.A.in1.in1.deeper (gEnv X scope C code)) → (X.A.in1.in1.deeper (gEnv X scope C code)).guards = X.A.guards → PE (gxCx X (X.A.in1.in1.deeper (gEnv X scope C code)) s H (gEnv X scope C code) fp) elt te)
    (hg : Gl X "sum" := by rfl) (hb : bootBuiltins "sum" = some (.builtin "sum") := by rfl) (hs : ∀ x, genFold iter X.env x = pure x := by intro _; rfl)
    (hst : starEach [.GeneratorExp elt [⟨tg, iter, [], 0⟩] scope gpos] X.env = (false, eval (.GeneratorExp elt [⟨tg, iter, [], 0⟩] scope gpos) X.env) :: starEach [] X.env := by rfl) :
    PE X (.Call (.Name "sum" p) [.GeneratorExp elt [⟨tg, iter, [], 0⟩] scope gpos] [] pos) (tSumG T wi g te (own.map (·.2))) := by
  refine ⟨fun pins s σ H Q I h => ?_⟩
  refine wpAny_Call_Name_kw (ld_blt I hg hm hb ?_)
  refine PyProof.Rows.callWith_builtin1 ?_ hst (by rfl)
  rw [hst]
  show wpAny _ _ (spliced ((false, eval (.GeneratorExp elt [⟨tg, iter, [], 0⟩] scope gpos) X.env) :: backTo pos (starEach [] X.env))) _ _ s
  refine Calls.spliced_cons (gx_make hr TB hcode hmT hu G hN hi hgt he hs I h fun G z a gi s5 H2 go ok ep ew eF eC back hgn st nf w za la I5 hgo => ?_)
  refine Calls.spliced_nil ?_
  have isg : s5.heap.IsGen a gi := by
    obtain ⟨nm, qn, h1, h2, h3⟩ := hgo
    exact ⟨go, nm, qn, (I5.pin (a, go) (List.mem_append_right _ List.mem_cons_self)).1, h1, h2, h3⟩
  refine call_function_tree F.kind_sum F.plain_sum F.entry_sum (F.args_sum1 _) ?_
  unfold Builtin.«sum»
  simp only [List.length_cons, List.length_nil]
  rw [if_neg (by decide)]
  refine wpAny_bind (wpAny_of_eq (show Builtin.Builtins.bindParams "sum" ["start"] 0 { } = pure [none] from rfl) ?_)
  refine wpAny_bind (wpAny_pyIter_gen isg ?_)
  refine wpAny_bind (wpAny_mkInt ?_)
  refine wpAny_bind (wpAny_pure ?_)
  simp only [List.forIn_cons, List.forIn_nil]
  refine wpAny_bind (wpAny_bind (wpAny_bind (wpAny_isInstance (T := "int") (b := false) (typeIs_int _ _ _) PySem.sub_int_str ?_)))
  simp only [Bool.false_eq_true, if_false]
  refine wpAny_pure (wpAny_bind (wpAny_bind (wpAny_isInstance (T := "int") (b := false) (typeIs_int _ _ _) PySem.sub_int_bytes ?_)))
  simp only [Bool.false_eq_true, if_false]
  refine wpAny_pure (wpAny_bind (wpAny_bind (wpAny_isInstance (T := "int") (b := false) (typeIs_int _ _ _) PySem.sub_int_bytearray ?_)))
  simp only [Bool.false_eq_true, if_false]
  refine wpAny_pure (wpAny_pure ?_)
  refine wpAny_bind (wpAny_newObj_type ?_)
  have aS : s5.heap.objs.size ≠ a := Nat.ne_of_gt la
  have hz : ∀ b ∈ [s5.heap.objs.size, a], G.X.s_0.heap.objs.size ≤ b := fun b hb => by
    rcases List.mem_cons.mp hb with z | z
    · rw [z]; exact Nat.le_trans za (Nat.le_of_lt la)
    · rw [List.mem_singleton.mp z]; exact za
  have I6 := inv_pin (s'' := { s5 with heap := s5.heap.push { cls := .type "list", dict := none, data := .seq #[.int 0 s5.toks] 0, slots := #[] }, toks := s5.toks + 1 }) (a := s5.heap.objs.size) (o := sumObj (preSum z 0) s5.toks 0) I5 (Nat.le_refl _) (fun b u e => Heap.get?_push_of_some _ e) (Heap.get?_push_size _ rfl) (fun v q => by cases q) rfl I5.bare
  have S := gx_sleep0 (s := { s5 with heap := s5.heap.push { cls := .type "list", dict := none, data := .seq #[.int 0 s5.toks] 0, slots := #[] }, toks := s5.toks + 1 }) (adr := [s5.heap.objs.size, a]) (cp := [(s5.heap.objs.size, sumObj (preSum z 0) s5.toks 0), (a, go)]) ok hz hgn I6 rfl (ok.T.keep _ _ _ st fun b _ o e => Heap.get?_push_of_some _ e) nf w ⟨go, List.mem_cons_of_mem _ List.mem_cons_self, hgo⟩
  have L := sum_loop (R := fun r s' => ∃ u, r = .ok (.ret u) ∧ EP X pins σ Q u s') (val := z) ok.pn (hz _ List.mem_cons_self) za hr.hd (by have := hr.dp; omega) eC aS (fun cp H s t J f => ⟨_, rfl, .int (preSum z G.L), H, back _ _ _ _ J, ⟨_, rfl⟩, by rw [eF] at f; exact f⟩) G.L 0 _ _ _ _ 0 (.inl rfl) rfl S
  rw [ep, ew] at L
  refine wpAny_pure ⟨plainId_quiet F.plain_sum_loop _, codeAny_mono L fun r s' hq => ?_⟩
  obtain ⟨u, rfl, hq⟩ := hq
  exact hq
end GxM

end
section
set_option maxRecDepth 100000
set_option maxHeartbeats 2000000
set_option autoImplicit false
/-! generator expressions on mirrors -/
namespace Mr
open PySem PySem.Spec L2 MrT GxM
open PyProof.Rows hiding St
def allL (ft : M → Env1 → Option Env1) (fe : Env1 → Sto → R M) : List M → Env1 → Sto → R M
  | [], _, S => .ok (.d (.bool true)) S
  | x :: xs, e, S => match ft x e with
    | none => .bad
    | some e1 => (fe e1 S).nox.bind fun m S1 => match m with
      | .d (.bool b) => if b then allL ft fe xs e S1 else .ok (.d (.bool false)) S1
      | _ => .bad
def anyL (ft : M → Env1 → Option Env1) (fe : Env1 → Sto → R M) : List M → Env1 → Sto → R M
  | [], _, S => .ok (.d (.bool false)) S
  | x :: xs, e, S => match ft x e with
    | none => .bad
    | some e1 => (fe e1 S).nox.bind fun m S1 => match m with
      | .d (.bool b) => if b then .ok (.d (.bool true)) S1 else anyL ft fe xs e S1
      | _ => .bad
def sumL (ft : M → Env1 → Option Env1) (fe : Env1 → Sto → R M) : List M → Env1 → Sto → Int → R M
  | [], _, S, acc => .ok (.d (.int acc)) S
  | x :: xs, e, S, acc => match ft x e with
    | none => .bad
    | some e1 => (fe e1 S).nox.bind fun m S1 => match m with
      | .d (.int i) => sumL ft fe xs e S1 (acc + i)
      | _ => .bad
def sumV (ft : M → Env1 → Option Env1) (fe : Env1 → Sto → R M) : List M → Env1 → Sto → List Int
  | [], _, _ => []
  | x :: xs, e, S => match ft x e with
    | none => []
    | some e1 => match fe e1 S with
      | .ok (.d (.int i)) S1 => i :: sumV ft fe xs e S1
      | _ => []
theorem sumV_cons (ft : M → Env1 → Option Env1) (fe : Env1 → Sto → R M) (x : M) (xs : List M) (e : Env1) (S : Sto) : sumV ft fe (x :: xs) e S = match ft x e with
    | none => []
    | some e1 => match fe e1 S with
      | .ok (.d (.int i)) S1 => i :: sumV ft fe xs e S1
      | _ => [] := rfl
def eGx (loop : (M → Env1 → Option Env1) → (Env1 → Sto → R M) → List M → Env1 → Sto → R M) (vs : List Nat) (fi : Env1 → Sto → R (List M)) (ft : M → Env1 → Option Env1) (fe : Env1 → Sto → R M) : Env1 → Sto → R M := fun e S => (fi e S).bind fun items S1 => loop ft fe items (wipeE e vs) S1
abbrev eAllG := eGx allL
abbrev eAnyG := eGx anyL
abbrev eSumG := eGx fun ft fe items e S => sumL ft fe items e S 0
section
variable {X : Cx} {g : Cfg} {W : WX} {pos : Pos}
theorem tAllG_of {own : List Nat} {fi : Env1 → Sto → R (List M)} {ft : M → Env1 → Option Env1} {fe : Env1 → Sto → R M} {K : PySem.W.Frag} (s : L2.St) (H : Hp) (Q : VK) (h : tM K g W (eAllG own fi ft fe) s H Q) :
    tAllG g.T (tMI K g W fi) (tMG K g own ft) (tM K g W0 fe) own s H Q := by
  obtain ⟨ph, r, S, e, so, ev, h⟩ := h
  refine tG.bind so ev h fun items J S1 r1 H1 x1 so1 ev1 m1 h1 => ⟨so1.tabs.1, fun H2 eN tb2 => ?_⟩
  have so2 := so1.ofN eN tb2
  have ev2 : Ev K g ph r1 H2 (wipeE e own) (L2.wipe s own) := (ev1.mono (Ext.ofN r1 eN)).wipe own
  have G := (m1 ph (fun _ h => h) (fun _ h => .inl h)).mono (Ext.ofN r1 eN)
  refine ⟨(), items.length, fun i H' => ∃ r' S', Ext r1 H2 r' H' ∧ So K g ph r' S' H' ∧ i ≤ items.length ∧ Post PV K g (fun c d H' => W c d s H') ph r1 H2 (allL ft fe (items.drop i) (wipeE e own) S') Q, ⟨r1, S1, .refl _ _, so2, Nat.zero_le _, Post.mono (Ext.ofN r1 eN) h1⟩, ?_⟩
  rintro i H' ⟨r', S', x', so', hi', h'⟩
  obtain ⟨G1, G2⟩ := G r' S' H' x' so' i
  refine ⟨fun ei => ?_, fun hlt => ?_⟩
  · have e0 : items.drop i = [] := List.drop_of_length_le (by omega)
    rw [e0] at h'
    exact ⟨G2 (by omega), h' r' H' (.bl true) x' so' (.bl true)⟩
  · have hd : items.drop i = items[i] :: items.drop (i + 1) := List.drop_eq_getElem_cons hlt
    rw [hd] at h'
    obtain ⟨g1, g2⟩ := G1 items[i] (List.getElem?_eq_getElem hlt)
    refine ⟨g1, fun x H3 hy => ?_⟩
    obtain ⟨y, so3, mv⟩ := g2 x H3 hy
    unfold allL at h'
    cases q : ft items[i] (wipeE e own) with
    | none => rw [q] at h'; exact h'.elim
    | some e2 =>
      rw [q] at h'
      dsimp only at h'
      refine ⟨ph, r', S', wipeE e own, items[i], e2, so3, ev2.mono (x'.trans y), mv, q, fun r4 H4 s4 y4 so4 ev4 off => ⟨off.wipe.trans ((wipe_off s own).wipe), ph, r4, S', e2, so4, ev4, ?_⟩⟩
      have x4 := x'.trans (y.trans y4)
      cases q5 : fe e2 S' with
      | ok m5 S5 =>
        rw [q5] at h'
        intro r5 H5 v5 y5 so5 m5'
        cases m5 with
        | d d5 =>
          cases d5 with
          | bool b =>
            cases m5'
            refine ⟨b, rfl, ?_⟩
            cases b with
            | true => exact ⟨r5, S5, x4.trans y5, so5, hlt, h'⟩
            | false => exact h' r5 H5 (.bl false) (x4.trans y5) so5 (.bl false)
          | _ => exact h'.elim
        | _ => exact h'.elim
      | rz c x S => rw [q5] at h'; exact h'.elim
      | bad => rw [q5] at h'; exact h'.elim
theorem tAnyG_of {own : List Nat} {fi : Env1 → Sto → R (List M)} {ft : M → Env1 → Option Env1} {fe : Env1 → Sto → R M} {K : PySem.W.Frag} (s : L2.St) (H : Hp) (Q : VK) (h : tM K g W (eAnyG own fi ft fe) s H Q) :
    tAnyG g.T (tMI K g W fi) (tMG K g own ft) (tM K g W0 fe) own s H Q := by
  obtain ⟨ph, r, S, e, so, ev, h⟩ := h
  refine tG.bind so ev h fun items J S1 r1 H1 x1 so1 ev1 m1 h1 => ⟨so1.tabs.1, fun H2 eN tb2 => ?_⟩
  have so2 := so1.ofN eN tb2
  have ev2 : Ev K g ph r1 H2 (wipeE e own) (L2.wipe s own) := (ev1.mono (Ext.ofN r1 eN)).wipe own
  have G := (m1 ph (fun _ h => h) (fun _ h => .inl h)).mono (Ext.ofN r1 eN)
  refine ⟨(), items.length, fun i H' => ∃ r' S', Ext r1 H2 r' H' ∧ So K g ph r' S' H' ∧ i ≤ items.length ∧ Post PV K g (fun c d H' => W c d s H') ph r1 H2 (anyL ft fe (items.drop i) (wipeE e own) S') Q, ⟨r1, S1, .refl _ _, so2, Nat.zero_le _, Post.mono (Ext.ofN r1 eN) h1⟩, ?_⟩
  rintro i H' ⟨r', S', x', so', hi', h'⟩
  obtain ⟨G1, G2⟩ := G r' S' H' x' so' i
  refine ⟨fun ei => ?_, fun hlt => ?_⟩
  · have e0 : items.drop i = [] := List.drop_of_length_le (by omega)
    rw [e0] at h'
    exact ⟨G2 (by omega), h' r' H' (.bl false) x' so' (.bl false)⟩
  · have hd : items.drop i = items[i] :: items.drop (i + 1) := List.drop_eq_getElem_cons hlt
    rw [hd] at h'
    obtain ⟨g1, g2⟩ := G1 items[i] (List.getElem?_eq_getElem hlt)
    refine ⟨g1, fun x H3 hy => ?_⟩
    obtain ⟨y, so3, mv⟩ := g2 x H3 hy
    unfold anyL at h'
    cases q : ft items[i] (wipeE e own) with
    | none => rw [q] at h'; exact h'.elim
    | some e2 =>
      rw [q] at h'
      dsimp only at h'
      refine ⟨ph, r', S', wipeE e own, items[i], e2, so3, ev2.mono (x'.trans y), mv, q, fun r4 H4 s4 y4 so4 ev4 off => ⟨off.wipe.trans ((wipe_off s own).wipe), ph, r4, S', e2, so4, ev4, ?_⟩⟩
      have x4 := x'.trans (y.trans y4)
      cases q5 : fe e2 S' with
      | ok m5 S5 =>
        rw [q5] at h'
        intro r5 H5 v5 y5 so5 m5'
        cases m5 with
        | d d5 =>
          cases d5 with
          | bool b =>
            cases m5'
            refine ⟨b, rfl, ?_⟩
            cases b with
            | false => exact ⟨r5, S5, x4.trans y5, so5, hlt, h'⟩
            | true => exact h' r5 H5 (.bl true) (x4.trans y5) so5 (.bl true)
          | _ => exact h'.elim
        | _ => exact h'.elim
      | rz c x S => rw [q5] at h'; exact h'.elim
      | bad => rw [q5] at h'; exact h'.elim
theorem tSumG_of {own : List Nat} {fi : Env1 → Sto → R (List M)} {ft : M → Env1 → Option Env1} {fe : Env1 → Sto → R M} {K : PySem.W.Frag} (s : L2.St) (H : Hp) (Q : VK) (h : tM K g W (eSumG own fi ft fe) s H Q) :
    tSumG g.T (tMI K g W fi) (tMG K g own ft) (tM K g W0 fe) own s H Q := by
  obtain ⟨ph, r, S, e, so, ev, h⟩ := h
  refine tG.bind so ev h fun items J S1 r1 H1 x1 so1 ev1 m1 h1 => ⟨so1.tabs.1, fun H2 eN tb2 => ?_⟩
  have so2 := so1.ofN eN tb2
  have ev2 : Ev K g ph r1 H2 (wipeE e own) (L2.wipe s own) := (ev1.mono (Ext.ofN r1 eN)).wipe own
  have G := (m1 ph (fun _ h => h) (fun _ h => .inl h)).mono (Ext.ofN r1 eN)
  refine ⟨fun j => ((sumV ft fe items (wipeE e own) S1)[j]?).getD 0, items.length, fun i H' => ∃ r' S', Ext r1 H2 r' H' ∧ So K g ph r' S' H' ∧ i ≤ items.length ∧ (sumV ft fe items (wipeE e own) S1).drop i = sumV ft fe (items.drop i) (wipeE e own) S' ∧
    Post PV K g (fun c d H' => W c d s H') ph r1 H2 (sumL ft fe (items.drop i) (wipeE e own) S' (preSum (fun j => ((sumV ft fe items (wipeE e own) S1)[j]?).getD 0) i)) Q, ⟨r1, S1, .refl _ _, so2, Nat.zero_le _, by simp, Post.mono (Ext.ofN r1 eN) h1⟩, ?_⟩
  rintro i H' ⟨r', S', x', so', hi', hv, h'⟩
  obtain ⟨G1, G2⟩ := G r' S' H' x' so' i
  refine ⟨fun ei => ?_, fun hlt => ?_⟩
  · have e0 : items.drop i = [] := List.drop_of_length_le (by omega)
    rw [e0] at h'
    refine ⟨G2 (by omega), ?_⟩
    rw [← ei]
    exact h' r' H' (.int _) x' so' (.int _)
  · have hd : items.drop i = items[i] :: items.drop (i + 1) := List.drop_eq_getElem_cons hlt
    rw [hd] at h' hv
    obtain ⟨g1, g2⟩ := G1 items[i] (List.getElem?_eq_getElem hlt)
    refine ⟨g1, fun x H3 hy => ?_⟩
    obtain ⟨y, so3, mv⟩ := g2 x H3 hy
    unfold sumL at h'
    rw [sumV_cons] at hv
    cases q : ft items[i] (wipeE e own) with
    | none => rw [q] at h'; exact h'.elim
    | some e2 =>
      rw [q] at h' hv
      dsimp only at h' hv
      refine ⟨ph, r', S', wipeE e own, items[i], e2, so3, ev2.mono (x'.trans y), mv, q, fun r4 H4 s4 y4 so4 ev4 off => ⟨off.wipe.trans ((wipe_off s own).wipe), ph, r4, S', e2, so4, ev4, ?_⟩⟩
      have x4 := x'.trans (y.trans y4)
      cases q5 : fe e2 S' with
      | ok m5 S5 =>
        rw [q5] at h' hv
        intro r5 H5 v5 y5 so5 m5'
        cases m5 with
        | d d5 =>
          cases d5 with
          | int j =>
            cases m5'
            dsimp only at hv
            have hj : (sumV ft fe items (wipeE e own) S1)[i]? = some j := by
              have := congrArg (fun l : List Int => l[0]?) hv
              simpa using this
            have hv2 : (sumV ft fe items (wipeE e own) S1).drop (i + 1) = sumV ft fe (items.drop (i + 1)) (wipeE e own) S5 := by
              have := congrArg (fun l : List Int => l.drop 1) hv
              simpa using this
            refine ⟨by show V.int j = V.int (((sumV ft fe items (wipeE e own) S1)[i]?).getD 0); rw [hj]; rfl, r5, S5, x4.trans y5, so5, hlt, hv2, ?_⟩
            have e9 : preSum (fun j => ((sumV ft fe items (wipeE e own) S1)[j]?).getD 0) (i + 1) = preSum (fun j => ((sumV ft fe items (wipeE e own) S1)[j]?).getD 0) i + j := by
              show _ + ((sumV ft fe items (wipeE e own) S1)[i]?).getD 0 = _
              rw [hj]
              rfl
            rw [e9]
            exact h'
          | _ => exact h'.elim
        | _ => exact h'.elim
      | rz c x S => rw [q5] at h'; exact h'.elim
      | bad => rw [q5] at h'; exact h'.elim
variable {c P : Addr} {elt tg iter : Expr} {scope : Scope} {own : List (Str × Nat)} {gpos p : Pos} {k : Nat} {fi : Env1 → Sto → R (List M)} {ft : M → Env1 → Option Env1} {fe : Env1 → Sto → R M}
theorem me_allG (hr : Room (k + 1) X.A) (hm : X.mg "all" = none) (TB : LamX.TabB X.base X.mg c P) (hcode : X.env.code = .ref c) (hmT : (P, X.env.qual ++ "<genexpr>") ∈ g.T) (hu : ∀ p ∈ g.T, p.1 = P → p.2 = X.env.qual ++ "<genexpr>") (G : GxOk X.N X.env.scope scope own) (hN : X.N.Nodup) (hi : MI X g W tg iter fi)
    (hgt : ∀ (s : Shared) (H : Hp) (C : Addr) (code : Value) (fp : List Addr), MG (gxCx X (X.A.in1.in1.deeper (gEnv X scope C code)) s H (gEnv X scope C code) fp) g (own.map (·.2)) tg ft)
    (he : ∀ (s : Shared) (H : Hp) (C : Addr) (code : Value) (fp : List Addr), Room k (X.A.in1.in1.deeper (gEnv X scope C code)) → (X.A.in1.in1.deeper (gEnv X scope C code)).guards = X.A.guards → ME (gxCx X (X.A.in1.in1.deeper (gEnv X scope C code)) s H (gEnv X scope C code) fp) g W0 elt fe)
    (hg : Gl X "all" := by rfl) (hb : bootBuiltins "all" = some (.builtin "all") := by rfl) (hs : ∀ x, genFold iter X.env x = pure x := by intro _; rfl)
    (hst : starEach [.GeneratorExp elt [⟨tg, iter, [], 0⟩] scope gpos] X.env = (false, eval (.GeneratorExp elt [⟨tg, iter, [], 0⟩] scope gpos) X.env) :: starEach [] X.env := by rfl) :
    ME X g W (.Call (.Name "all" p) [.GeneratorExp elt [⟨tg, iter, [], 0⟩] scope gpos] [] pos) (eAllG (own.map (·.2)) fi ft fe) := PE.of (pe_allG hr hm TB hcode hmT hu G hN hi hgt he hg hb hs hst) tAllG_of
theorem me_anyG (hr : Room (k + 1) X.A) (hm : X.mg "any" = none) (TB : LamX.TabB X.base X.mg c P) (hcode : X.env.code = .ref c) (hmT : (P, X.env.qual ++ "<genexpr>") ∈ g.T) (hu : ∀ p ∈ g.T, p.1 = P → p.2 = X.env.qual ++ "<genexpr>") (G : GxOk X.N X.env.scope scope own) (hN : X.N.Nodup) (hi : MI X g W tg iter fi)
    (hgt : ∀ (s : Shared) (H : Hp) (C : Addr) (code : Value) (fp : List Addr), MG (gxCx X (X.A.in1.in1.deeper (gEnv X scope C code)) s H (gEnv X scope C code) fp) g (own.map (·.2)) tg ft)
    (he : ∀ (s : Shared) (H : Hp) (C : Addr) (code : Value) (fp : List Addr), Room k (X.A.in1.in1.deeper (gEnv X scope C code)) → (X.A.in1.in1.deeper (gEnv X scope C code)).guards = X.A.guards → ME (gxCx X (X.A.in1.in1.deeper (gEnv X scope C code)) s H (gEnv X scope C code) fp) g W0 elt fe)
    (hg : Gl X "any" := by rfl) (hb : bootBuiltins "any" = some (.builtin "any") := by rfl) (hs : ∀ x, genFold iter X.env x = pure x := by intro _; rfl)
    (hst : starEach [.GeneratorExp elt [⟨tg, iter, [], 0⟩] scope gpos] X.env = (false, eval (.GeneratorExp elt [⟨tg, iter, [], 0⟩] scope gpos) X.env) :: starEach [] X.env := by rfl) :
    ME X g W (.Call (.Name "any" p) [.GeneratorExp elt [⟨tg, iter, [], 0⟩] scope gpos] [] pos) (eAnyG (own.map (·.2)) fi ft fe) := PE.of (pe_anyG hr hm TB hcode hmT hu G hN hi hgt he hg hb hs hst) tAnyG_of
theorem me_sumG (hr : Room (k + 1) X.A) (hm : X.mg "sum" = none) (TB : LamX.TabB X.base X.mg c P) (hcode : X.env.code = .ref c) (hmT : (P, X.env.qual ++ "<genexpr>") ∈ g.T) (hu : ∀ p ∈ g.T, p.1 = P → p.2 = X.env.qual ++ "<genexpr>") (G : GxOk X.N X.env.scope scope own) (hN : X.N.Nodup) (hi : MI X g W tg iter fi)
    (hgt : ∀ (s : Shared) (H : Hp) (C : Addr) (code : Value) (fp : List Addr), MG (gxCx X (X.A.in1.in1.deeper (gEnv X scope C code)) s H (gEnv X scope C code) fp) g (own.map (·.2)) tg ft)
    (he : ∀ (s : Shared) (H : Hp) (C : Addr) (code : Value) (fp : List Addr), Room k (X.A.in1.in1.deeper (gEnv X scope C code)) → (X.A.in1.in1.deeper (gEnv X scope C code)).guards = X.A.guards → ME (gxCx X (X.A.in1.in1.deeper (gEnv X scope C code)) s H (gEnv X scope C code) fp) g W0 elt fe)
    (hg : Gl X "sum" := by rfl) (hb : bootBuiltins "sum" = some (.builtin "sum") := by rfl) (hs : ∀ x, genFold iter X.env x = pure x := by intro _; rfl)
    (hst : starEach [.GeneratorExp elt [⟨tg, iter, [], 0⟩] scope gpos] X.env = (false, eval (.GeneratorExp elt [⟨tg, iter, [], 0⟩] scope gpos) X.env) :: starEach [] X.env := by rfl) :
    ME X g W (.Call (.Name "sum" p) [.GeneratorExp elt [⟨tg, iter, [], 0⟩] scope gpos] [] pos) (eSumG (own.map (·.2)) fi ft fe) := PE.of (pe_sumG hr hm TB hcode hmT hu G hN hi hgt he hg hb hs hst) tSumG_of
end
end Mr

end
section
set_option maxRecDepth 100000
set_option maxHeartbeats 2000000
set_option autoImplicit false
/-! xs[i] op= e, xs[i] = v for owned lists -/
namespace Mr
open PySem PySem.Spec L2 MrT GxM
open PyProof.Rows hiding St
/-- xs[i], by values, i not negative -/
def rGetL (K : PySem.W.Frag) : V → V → Hp → VK → Prop := fun x y H Q => ∃ p xs i v, x = .ref p ∧ y = .int i ∧ SqL K H p xs ∧ 0 ≤ i ∧ atI xs i = some v ∧ Q v H
theorem get_list {X : Cx} : PGet X (rGetL X.K) := by
  intro pins s σ H x y v u Q I rx ry h
  obtain ⟨p, xs, i, z, rfl, rfl, hq, h0, he, q⟩ := h
  cases rx
  obtain ⟨t, rfl⟩ := ry
  obtain ⟨its, r, pl, hz⟩ := I.list hq
  obtain ⟨j, h1, h2, h3, h4, h5⟩ := atI_get he
  obtain ⟨w, ew, rw'⟩ := r.get h2
  have hl := r.length
  have hn := line63
  have hj : i.toNat = j := by
    rw [seqIndex_of h0 h5] at h1
    exact Option.some.inj h1
  exact wpAny_getItem_list pl.isList h0 (by omega) (by rw [hj]; simpa using ew) ⟨z, H, I, rw', q⟩
/-- xs[i] op= e -/
def sAugL (f : Int → Int → Int) (fo fi fv : Env1 → Sto → R M) : Env1 → Sto → Out := fun e S => (fo e S).toS e fun o S1 => (fi e S1).toS e fun i S2 => match o, i with
  | .loc n, .d (.int k) => match S2[n]? with
    | some (.lst xs) => match (if 0 ≤ k then atI xs k else none) with
      | some (.d (.int a)) => (fv e S2).toS e fun v S3 => match v, S3[n]? with
        | .d (.int b), some (.lst ys) => match ixN ys.length k with
          | some j => .nx e (S3.set n (.lst (ys.set j (.d (.int (f a b))))))
          | none => .bad
        | _, _ => .bad
      | _ => .bad
    | _ => .bad
  | _, _ => .bad
/-- xs[i] = e -/
def sPutL (fo fi fv : Env1 → Sto → R M) : Env1 → Sto → Out := fun e S => (fv e S).toS e fun v S1 => (fo e S1).toS e fun o S2 => (fi e S2).toS e fun i S3 => match o, i with
  | .loc n, .d (.int k) => match S3[n]? with
    | some (.lst ys) => match ixN ys.length k with
      | some j => .nx e (S3.set n (.lst (ys.set j v)))
      | none => .bad
    | _ => .bad
  | _, _ => .bad
theorem set_pair {α β : Type} {P : α → β → Prop} {a : α} {b : β} (h : P a b) : ∀ {xs : List α} {ys : List β} (j : Nat), Paired P xs ys → Paired P (xs.set j a) (ys.set j b)
  | _, _, _, .nil => .nil
  | _, _, 0, .cons _ t => .cons h t
  | _, _, j + 1, .cons x t => .cons x (set_pair h j t)
section
variable {X : Cx} {g : Cfg} {W : WX} {pos p' : Pos} {o i a : Expr} {fo fi fv : Env1 → Sto → R M}
theorem own_lst {K : PySem.W.Frag} {ph r : List Addr} {S : Sto} {H : Hp} {n : Nat} {xs : List M} {v : V} (so : So K g ph r S H) (mv : Mv K g ph r H (.loc n) v) (q : S[n]? = some (.lst xs)) : ∃ p vs, v = .ref p ∧ r[n]? = some p ∧ H p = some (.lst vs) ∧ Paired (Mv K g ph r H) xs vs := by
  obtain ⟨p, u, e, hr, hp, ov⟩ := own_at so mv q
  cases u with
  | lst vs => exact ⟨p, vs, e, hr, hp, ov⟩
  | _ => exact ov.elim
theorem Paired.len2 {α β : Type} {P : α → β → Prop} {xs : List α} {ys : List β} (h : Paired P xs ys) : xs.length = ys.length := Paired.len' h
theorem ms_augL {op : Operator} {f : Int → Int → Int} (hop : PIp X op (ipI f)) (ho : ME X g W o fo) (hi : ME X g W i fi) (hv : ME X g W a fv)
    (ha : ∀ ov iv new, augStore i ov iv new = (do holding [new, ov, iv] (setItem ov iv new); release [new, ov, iv] []; pure .next) := by intros; rfl) : MS X g W (.AugAssign (.Subscript o i p') op a pos) (sAugL f fo fi fv) := by
  refine PS.of (ps_augS ho hi get_list hv hop set_list ha) fun D s H h => ?_
  obtain ⟨ph, r, S, e, so, ev, h⟩ := h
  refine tG.bindS so ev h fun ob vo S1 r1 H1 x1 so1 ev1 m1 h1 => ?_
  refine tG.bindS so1 ev1 h1 fun k vk S2 r2 H2 x2 so2 ev2 m2 h2 => ?_
  cases ob with
  | loc n =>
    cases k with
    | d dk =>
      cases dk with
      | int k =>
        cases m2
        dsimp only at h2
        cases q : S2[n]? with
        | none => rw [q] at h2; exact h2.elim
        | some x =>
          rw [q] at h2
          cases x with
          | lst xs =>
            dsimp only at h2
            obtain ⟨p, vs, rfl, hr, hp, pr⟩ := own_lst so2 (Mv.mono x2 m1) q
            by_cases h0 : 0 ≤ k
            · rw [if_pos h0] at h2
              cases q3 : atI xs k with
              | none => rw [q3] at h2; exact h2.elim
              | some m3 =>
                rw [q3] at h2
                cases m3 with
                | d d3 =>
                  cases d3 with
                  | int a =>
                    dsimp only at h2
                    obtain ⟨v3, e3, mv3⟩ := at_rel pr q3
                    cases mv3
                    refine ⟨p, vs, k, .int a, rfl, rfl, .inl (.inl hp), h0, e3, ?_⟩
                    refine tG.bindS so2 ev2 h2 fun b vb S3 r3 H3 x3 so3 ev3 m4 h3 => ?_
                    cases b with
                    | d d4 =>
                      cases d4 with
                      | int b =>
                        cases m4
                        refine ⟨a, b, rfl, rfl, ?_⟩
                        cases q4 : S3[n]? with
                        | none => rw [q4] at h3; exact h3.elim
                        | some y =>
                          rw [q4] at h3
                          cases y with
                          | lst ys =>
                            dsimp only at h3
                            obtain ⟨p2, ws, e4, hr4, hp4, pr4⟩ := own_lst so3 (Mv.mono x3 (Mv.mono x2 m1)) q4
                            cases e4
                            cases q5 : ixN ys.length k with
                            | none => rw [q5] at h3; exact h3.elim
                            | some j =>
                              rw [q5] at h3
                              refine ⟨p, ws, k, j, rfl, rfl, hp4, by rw [← Paired.len' pr4]; exact q5, ?_⟩
                              have so5 := so3.put (x := .lst (ys.set j (.d (.int (f a b))))) (o' := .lst (ws.set j (.int (f a b)))) hr4 hp4 (fun _ z => by cases z) (fun _ z => by cases z) (set_pair (.int _) j pr4)
                              exact h3 r3 _ s (.put (List.mem_of_getElem? hr4)) so5 (ev3.mono (.put (List.mem_of_getElem? hr4)))
                          | dct _ => exact h3.elim
                      | _ => exact h3.elim
                    | _ => exact h3.elim
                  | _ => exact h2.elim
                | _ => exact h2.elim
            · rw [if_neg h0] at h2; exact h2.elim
          | dct _ => exact h2.elim
      | _ => exact h2.elim
    | _ => exact h2.elim
  | _ => exact h2.elim
theorem ms_putL (ho : ME X g W o fo) (hi : ME X g W i fi) (hv : ME X g W a fv) (hs : swapsWithSole [.Subscript o i p'] a pos.line X.env = pure false := by rfl) (hw : swappedStores [.Subscript o i p'] a X.env = pure none := by rfl)
    (h1 : (assignEach [.Subscript o i p'] X.env).map (·.2) = [assign (.Subscript o i p') X.env] := by rfl)
    (ha : ∀ u, assign (.Subscript o i p') X.env u = (do let ov ← holding [u] (eval o X.env); let iv ← holding [u, ov] (eval i X.env); standAt p'; holding [u, ov, iv] (setItem ov iv u); release [u, ov, iv] []) := by intro _; rfl) : MS X g W (.Assign [.Subscript o i p'] a pos) (sPutL fo fi fv) := by
  refine PS.of (ps_asg hv (pg_sub ho hi set_list ha) hs hw h1) fun D s H h => ?_
  obtain ⟨ph, r, S, e, so, ev, h⟩ := h
  refine tG.bindS so ev h fun v vv S1 r1 H1 x1 so1 ev1 m1 h1 => ?_
  refine tG.bindS so1 ev1 h1 fun ob vo S2 r2 H2 x2 so2 ev2 m2 h2 => ?_
  refine tG.bindS so2 ev2 h2 fun k vk S3 r3 H3 x3 so3 ev3 m3 h3 => ?_
  cases ob with
  | loc n =>
    cases k with
    | d dk =>
      cases dk with
      | int k =>
        cases m3
        dsimp only at h3
        cases q : S3[n]? with
        | none => rw [q] at h3; exact h3.elim
        | some x =>
          rw [q] at h3
          cases x with
          | lst ys =>
            dsimp only at h3
            obtain ⟨p, vs, rfl, hr, hp, pr⟩ := own_lst so3 (Mv.mono x3 m2) q
            cases q5 : ixN ys.length k with
            | none => rw [q5] at h3; exact h3.elim
            | some j =>
              rw [q5] at h3
              refine ⟨p, vs, k, j, rfl, rfl, hp, by rw [← Paired.len' pr]; exact q5, ?_⟩
              have so5 := so3.put (x := .lst (ys.set j v)) (o' := .lst (vs.set j vv)) hr hp (fun _ z => by cases z) (fun _ z => by cases z) (Paired.mapP (set_pair (Mv.mono (x2.trans x3) m1) j pr) fun _ _ z => z)
              exact h3 r3 _ s (.put (List.mem_of_getElem? hr)) so5 (ev3.mono (.put (List.mem_of_getElem? hr)))
          | dct _ => exact h3.elim
      | _ => exact h3.elim
    | _ => exact h3.elim
  | _ => exact h3.elim
end
end Mr

end
section
set_option maxRecDepth 100000
set_option maxHeartbeats 1000000
set_option autoImplicit false
namespace Mr
open PySem PySem.Spec L2 MrT
open PyProof.Rows hiding St
/-! ### enumerate and zip over lists, tuples and texts, in any mix -/
inductive Kd
  | lst (a : Addr)
  | tup (a : Addr)
  | txt (x : Str) (t : Tok)
namespace Kd
def u : Kd → Value
  | .lst a => .ref a
  | .tup a => .ref a
  | .txt x t => .str x t
def v : Kd → V
  | .lst a => .ref a
  | .tup a => .ref a
  | .txt x _ => .str x
def o : Kd → Obj
  | .lst a => { cls := .type "list_iterator", data := .fields #[.ref a, .int 0 0] }
  | .tup a => { cls := .type "tuple_iterator", data := .fields #[.ref a, .int 0 0] }
  | .txt x t => { cls := .type (strIterType x), data := .fields #[.str x t, .int 0 0] }
def held (its : Array Value) : Kd → Heap → Prop
  | .lst a => fun h => h.IsList a its
  | .tup a => fun h => h.IsTuple a its
  | .txt _ _ => fun _ => True
def fp : Kd → List Addr
  | .lst a => [a]
  | .tup a => [a]
  | .txt _ _ => []
def st (it : Addr) (i : Nat) (h : Heap) : Kd → Prop
  | .lst a => h.IsListIter it a i
  | .tup a => h.IsTupleIter it a i
  | .txt x t => h.IsStrIter it (strIterType x) x t i
def n (its : Array Value) : Kd → Nat
  | .lst _ => its.size
  | .tup _ => its.size
  | .txt x _ => x.cps.size
def P (its : Array Value) (i : Nat) (v : Value) : Kd → Prop
  | .lst _ => its[i]? = some v
  | .tup _ => its[i]? = some v
  | .txt x _ => ∃ c w, x.cps[i]? = some c ∧ v = .str ⟨#[c]⟩ w
def sq (K : PySem.W.Frag) (H : Hp) (xs : List V) : Kd → Prop
  | .lst a => SqL K H a xs
  | .tup a => SqT K H a xs
  | .txt x _ => xs = x.cps.toList.map fun c => .str ⟨#[c]⟩
variable (k : Kd)
theorem begins (its : Array Value) : Begins k.u k.o (k.held its) := by
  cases k with
  | lst a => exact begins_list a its
  | tup a => exact begins_tuple a its
  | txt x t => exact begins_text x t
theorem st0 {it : Addr} {h : Heap} (e : h.get? it = some k.o) : k.st it 0 h := by
  cases k with
  | lst a => exact ⟨_, e, rfl, rfl⟩
  | tup a => exact ⟨_, e, rfl, rfl⟩
  | txt x t => exact ⟨_, e, rfl, rfl⟩
theorem st_at {it : Addr} {i : Nat} {h h' : Heap} (s : k.st it i h) (e : ∀ o, h.get? it = some o → h'.get? it = some o) : k.st it i h' := by
  cases k with
  | lst a => exact s.at e
  | tup a => exact s.at e
  | txt x t => exact let ⟨o, ho, r⟩ := s; ⟨o, e o ho, r⟩
theorem st_obj {it : Addr} {i : Nat} {h : Heap} (s : k.st it i h) : ∃ o, h.get? it = some o ∧ ∀ v, o.data ≠ .cell v := by
  cases k with
  | lst a => exact let ⟨o, ho, _, d⟩ := s; ⟨o, ho, fun v q => by rw [d] at q; cases q⟩
  | tup a => exact let ⟨o, ho, _, d⟩ := s; ⟨o, ho, fun v q => by rw [d] at q; cases q⟩
  | txt x t => exact let ⟨o, ho, _, d⟩ := s; ⟨o, ho, fun v q => by rw [d] at q; cases q⟩
theorem draws {prog : Program} {w : World} {A : Around} (hh : A.handled = none) (it : Addr) (hne : it ∉ k.fp) (its : Array Value) :
    Draws prog w A it (it :: k.fp) (k.n its) (fun i v => k.P its i v) (fun i h => k.st it i h ∧ k.held its h) := by
  cases k with
  | lst a => exact Draws.list hh it a (fun e => hne (by rw [e]; exact List.mem_cons_self ..)) its
  | tup a => exact Draws.tuple hh it a (fun e => hne (by rw [e]; exact List.mem_cons_self ..)) its
  | txt x t =>
    have D : Draws prog w A it [it] _ _ _ := Draws.text hh it x t
    exact ⟨fun i h s => D.live i h s.1, fun i h h' s q => ⟨D.frame i h h' s.1 q, trivial⟩, fun i s Q E hi s1 hQ => D.item i s Q E hi s1.1 fun y h' tk p s2 sb => hQ y h' tk p ⟨s2, trivial⟩ sb, fun s Q E s1 hE => D.done s Q E s1.1 hE⟩
theorem drawsEnd {prog : Program} {w : World} {A : Around} (hh : A.handled = none) (it : Addr) (its : Array Value) (i : Nat) (hi : k.n its ≤ i) :
    Draws prog w A it (it :: k.fp) i (fun i v => k.P its i v) (fun j h => j = i ∧ k.st it j h ∧ k.held its h) where
  live := fun j h s => let ⟨o, ho, _⟩ := k.st_obj s.2.1; ⟨o, ho⟩
  frame := fun j h h' s q => by
    refine ⟨s.1, k.st_at s.2.1 fun o e => q it (by simp) o e, ?_⟩
    cases k with
    | lst a => exact s.2.2.at fun o e => q a (by simp [fp]) o e
    | tup a => exact s.2.2.at fun o e => q a (by simp [fp]) o e
    | txt x t => trivial
  item := fun j s Q E hj s1 hQ => by
    obtain ⟨rfl, _⟩ := s1
    exact (Nat.lt_irrefl _ hj).elim
  done := fun s Q E s1 hE => by
    cases k with
    | lst a => exact wpAny_nextOf_list_end hh s1.2.1 s1.2.2 (Array.getElem?_eq_none hi) hE
    | tup a => exact wpAny_nextOf_tuple_end hh s1.2.1 s1.2.2 (Array.getElem?_eq_none hi) hE
    | txt x t =>
      have si : s.heap.IsStrIter it (strIterType x) x t i := s1.2.1
      have no : x.cps[i]? = none := Array.getElem?_eq_none hi
      cases ha : x.cps.all (· < 128)
      · simp only [strIterType, ha, Bool.false_eq_true, if_false] at si
        exact wpAny_nextOf_wide_end hh si no hE
      · simp only [strIterType, ha, if_true] at si
        exact wpAny_nextOf_ascii_end hh si no hE
theorem drawsAt {prog : Program} {w : World} {A : Around} {h : Heap} (hh : A.handled = none) {it : Addr} (hne : it ∉ k.fp) {its : Array Value} {i : Nat} (s : k.st it i h) (hl : k.held its h) :
    ∃ n P St, Draws prog w A it (it :: k.fp) n P St ∧ St i h ∧ i ≤ n ∧ (k.n its ≤ i → n = i) := by
  by_cases q : k.n its ≤ i
  · exact ⟨i, _, _, k.drawsEnd hh it its i q, ⟨rfl, s, hl⟩, Nat.le_refl _, fun _ => rfl⟩
  · exact ⟨k.n its, _, _, k.draws hh it hne its, ⟨s, hl⟩, by omega, fun z => (q z).elim⟩
variable {X : Cx} {pins : List (Addr × Obj)} {σ : L2.St} {H : Hp} {s : Shared}
theorem held_of (I : Inv X pins σ H s) {xs : List V} (q : k.sq X.K H xs) : ∃ its, k.held its s.heap ∧ k.n its = xs.length ∧ (∀ b ∈ k.fp, b < s.heap.objs.size) ∧ ∀ i u, k.P its i u → ∃ x, xs[i]? = some x ∧ RelV x u := by
  cases k with
  | lst a =>
    obtain ⟨its, rv, p, hz⟩ := I.list q
    refine ⟨its.toArray, p.isList, by rw [rv.length]; exact List.size_toArray .., fun b hb => ?_, fun i u pu => ?_⟩
    · rw [List.mem_singleton.mp hb]; exact p.lt
    · have pu : its[i]? = some u := by simpa [P] using pu
      have hi : i < xs.length := by rw [rv.length]; exact (List.getElem?_eq_some_iff.mp pu).1
      obtain ⟨u2, hu, ru⟩ := rv.get (List.getElem?_eq_getElem hi)
      rw [pu] at hu
      cases hu
      exact ⟨_, List.getElem?_eq_getElem hi, ru⟩
  | tup a =>
    obtain ⟨its, rv, p, hz⟩ := I.tuple q
    obtain ⟨o1, ho1, _⟩ := id p
    refine ⟨its.toArray, p, by rw [rv.length]; exact List.size_toArray .., fun b hb => ?_, fun i u pu => ?_⟩
    · rw [List.mem_singleton.mp hb]; exact Heap.lt_size ho1
    · have pu : its[i]? = some u := by simpa [P] using pu
      have hi : i < xs.length := by rw [rv.length]; exact (List.getElem?_eq_some_iff.mp pu).1
      obtain ⟨u2, hu, ru⟩ := rv.get (List.getElem?_eq_getElem hi)
      rw [pu] at hu
      cases hu
      exact ⟨_, List.getElem?_eq_getElem hi, ru⟩
  | txt x t =>
    have q : xs = x.cps.toList.map fun c => .str ⟨#[c]⟩ := q
    subst q
    refine ⟨#[], trivial, by simp [n], fun b hb => (nomatch hb), fun i u pu => ?_⟩
    obtain ⟨c, w, hc, rfl⟩ := pu
    refine ⟨.str ⟨#[c]⟩, ?_, ⟨_, rfl⟩⟩
    rw [List.getElem?_map, Array.getElem?_toList, hc]
    rfl
theorem inj (I : Inv X pins σ H s) {xs ys : List V} (p : k.sq X.K H xs) (q : k.sq X.K H ys) : xs = ys := by
  cases k with
  | lst a => exact I.list_inj p q
  | tup a => exact I.tuple_inj p q
  | txt x t => exact Eq.trans p (Eq.symm q)
end Kd

/-- a value that enumerate and zip go through -/
def Sd (K : PySem.W.Frag) (H : Hp) (v : V) (kd : Tok → Kd) : Prop := (∀ u, RelV v u → ∃ t, u = (kd t).u) ∧ ∀ t, ∃ xs, (kd t).sq K H xs
/-! #### enumerate -/
theorem meets_enumB1 {v : Value} {o : Obj} {H : Heap → Prop} (B : Begins v o H) :
    Meets (Builtin.«enumerate.__new__» ⟨[.type "enumerate", v], []⟩) (fun _ R s => H s.heap ∧
      R (.ok (.ret (.ref (s.heap.push o).objs.size))) { s with heap := (s.heap.push o).push { cls := .type "enumerate", data := .fields #[.none, .bool false, .ref s.heap.objs.size, rawInt 0, .none, .none] } }) :=
  .of_wp fun prog w A R s h => by
    obtain ⟨hp, g, d, tk, os⟩ := s; obtain ⟨h1, h⟩ := h
    have hsub := sub_enumerate
    have q1 : ∀ {A' : Around} {E : Value → Shared → Prop} {Q : Value → Shared → Prop}, Q (.ref hp.objs.size) ⟨hp.push o, g, d, tk, os⟩ → wpAny (model prog w) A' (pyIter v) Q E ⟨hp, g, d, tk, os⟩ :=
      fun q => B.iter prog w _ _ ⟨hp, g, d, tk, os⟩ _ h1 q
    wp_walk using q1
    refine wpAny_stack_any fun st => wpAny_pure ?_
    split
    · rename_i c _ _ _ _ _
      cases (c == Value.type "enumerate")
      · wp_walk using q1
        exact ⟨_, rfl, h⟩
      · wp_walk using q1
        exact ⟨_, rfl, h⟩
    · wp_walk using q1
      exact ⟨_, rfl, h⟩
theorem enum_begins1 {prog : Program} {w : World} {A : Around} {E : Value → Shared → Prop} {s : Shared} {v : Value} {o : Obj} {H : Heap → Prop} {Q : Value → Shared → Prop} (B : Begins v o H) (h1 : H s.heap)
    (h : ∀ h', IsEnum h' (s.heap.objs.size + 1) s.heap.objs.size 0 .none → h'.get? s.heap.objs.size = some o → h'.objs.size = s.heap.objs.size + 2 →
      (∀ b o, s.heap.get? b = some o → h'.get? b = some o) → Q (.ref (s.heap.objs.size + 1)) { s with heap := h' }) :
    wpAny (model prog w) A (call (.type "enumerate") [v]) Q E s := by
  refine callType_new F.called_enumerate (by decide) (F.typeCall_enumerate_1 _) (F.newCall_enumerate_1 _) (fun obj => F.args_object_init_2 obj _) F.entry_enumerate_new
    (meets_enumB1 B) ⟨h1, ?_⟩
  have hz : (s.heap.push o).objs.size = s.heap.objs.size + 1 := Heap.size_push ..
  show _ ∧ _
  rw [hz]
  have he : IsEnum ((s.heap.push o).push { cls := .type "enumerate", data := .fields #[.none, .bool false, .ref s.heap.objs.size, rawInt 0, .none, .none] }) (s.heap.objs.size + 1) s.heap.objs.size 0 .none := by
    have := Heap.get?_push_size (s.heap.push o) (o := { cls := .type "enumerate", data := .fields #[.none, .bool false, .ref s.heap.objs.size, rawInt 0, .none, .none] }) rfl
    rw [hz] at this; exact this
  refine ⟨⟨_, he, rfl⟩, h _ he (Heap.get?_push_of_some _ (Heap.get?_push_size _ B.free)) (by rw [Heap.size_push, hz]) fun b o x => Heap.get?_push_of_some _ (Heap.get?_push_of_some _ x)⟩

def ItE (K : PySem.W.Frag) (k : Kd) : It :=
  ⟨fun i H => ∃ (xs : List V) (x : V), k.sq K H xs ∧ xs[i]? = some x, fun i H v H' => ∃ T x, v = .ref T ∧ H T = none ∧ H' = upd H T (.tup [.int (i : Nat), x]) ∧ ∀ xs, k.sq K H xs → xs[i]? = some x, fun i H => ∃ xs : List V, k.sq K H xs ∧ xs.length ≤ i⟩
theorem turn_E {P : Program} {w : World} {K : PySem.W.Frag} {elts : List Expr} {kk : Nat} {tpos : Pos} (k : Kd) {e it : Addr} (hne : e ≠ it) (hei : it ∉ k.fp) (hef : e ∉ k.fp) :
    Turn P w K (.Tuple elts kk tpos) (ItE K k) [e, it] e (fun i h => (∃ old, IsEnum h e it ((i : Nat) : Int) old) ∧ k.st it i h) where
  mem := by simp
  obj := fun i h st b hb => by
    obtain ⟨⟨old, he⟩, hi⟩ := st
    have e' : b = e ∨ b = it := by simpa using hb
    rcases e' with z | z
    · rw [z]; exact ⟨_, he, fun v q => nomatch q⟩
    · rw [z]; exact k.st_obj hi
  keep := fun i h h' st k' => let ⟨⟨old, he⟩, hi⟩ := st; ⟨⟨old, k' e (by simp) _ he⟩, k.st_at hi fun o q => k' it (by simp) o q⟩
  item := by
    intro X hP hw hK hc i pins s σ H E I hf st hg
    subst hP hw hK
    obtain ⟨⟨old, he⟩, hit⟩ := st
    obtain ⟨xs, x, hq, hx⟩ := hg
    obtain ⟨its, hl, hn, _, rel⟩ := k.held_of I hq
    have hel : e < s.heap.objs.size := Heap.lt_size he
    have hil : it < s.heap.objs.size := by obtain ⟨_, q, _⟩ := k.st_obj hit; exact Heap.lt_size q
    have hlt : i < k.n its := by rw [hn]; exact (List.getElem?_eq_some_iff.mp hx).1
    have hh : X.A.in1.handled = none := I.ok.hd hc
    refine wpAny_pyNext_enum_itemD (k.draws hh it hei its) he ⟨hit, hl⟩ hlt hne (by
      intro z
      rcases List.mem_cons.mp z with z | z
      · exact hne z
      · exact hef z) fun u h' tk pu ho hit' hT hsz hk => ?_
    obtain ⟨x', hx', ru⟩ := rel i u pu
    have e1 : some x' = some x := hx'.symm.trans hx
    cases e1
    refine ⟨_, rfl, wpAny_letOwnedTupleGo_enum (s := { s with heap := h', toks := tk + 1 }) ho fun h'' he' sb => ?_⟩
    have hT2 : h''.get? s.heap.objs.size = some { cls := .type "tuple", data := .seq #[.int i tk, u] } := (sb.2 _ (Nat.ne_of_gt hel)).trans hT
    have new : ObjOk X.prog X.w (upd H s.heap.objs.size (.tup [.int (i : Nat), x])) h'' s.heap.objs.size (.tup [.int (i : Nat), x]) :=
      ⟨by show 2 ≤ sizeLine; decide, [.int i tk, u], .cons ⟨_, rfl⟩ (.cons ru .nil), ⟨_, hT2, rfl, _, rfl⟩⟩
    have I1 : Inv X pins σ (upd H s.heap.objs.size (.tup [.int (i : Nat), x])) { s with heap := h'', toks := tk + 1 } :=
      I.turnedNew (ch := [e, it]) (fun b ob hb q => (sb.2 b (fun z => hb (by simp [z]))).trans (hk b ob (fun z => hb (by simp [z])) (fun z => hb (by simp [z])) q)) hf (Nat.le_refl _) new
    refine ⟨.ref s.heap.objs.size, _, I1, rfl, ⟨_, x, rfl, I.hok.fresh (Nat.le_refl _), rfl, fun ys hy => by rw [k.inj I hy hq]; exact hx⟩, ⟨⟨u, ?_⟩, k.st_at hit'.1 fun o q => (sb.2 it (Ne.symm hne)).trans q⟩, fun b hb => ?_⟩
    · have e1 : ((i + 1 : Nat) : Int) = (i : Int) + 1 := by omega
      rw [e1]; exact he'
    · have hb' : b < s.heap.objs.size := by
        have e' : b = e ∨ b = it := by simpa using hb
        rcases e' with z | z
        · rw [z]; exact hel
        · rw [z]; exact hil
      rw [upd_ne (Nat.ne_of_lt hb')]
      exact (hf b hb).1
  done := by
    intro X hP hw hK hc i pins s σ H E I hf st hg
    subst hP hw hK
    obtain ⟨⟨old, he⟩, hit⟩ := st
    obtain ⟨xs, hq, hx⟩ := hg
    obtain ⟨its, hl, hn, _, rel⟩ := k.held_of I hq
    obtain ⟨f0, f1, f2, f3, f4, f5⟩ := hf it (by simp)
    have hh : X.A.in1.handled = none := I.ok.hd hc
    exact wpAny_pyNext_enum_endD (k.drawsEnd hh it its i (by rw [hn]; exact hx)) he ⟨rfl, hit, hl⟩ fun h' eb => ⟨rfl, I.turned (t' := s.toks) (fun b o hb q => eb b o hb q) f0 f1 f3 f4 f5⟩
  self := fun A i s Q E st h => let ⟨⟨_, he⟩, _⟩ := st; wpAny_pyIter_enum he h
def iEnumK (K : PySem.W.Frag) (ta : TA) : TI := fun σ H R => ta σ H fun vs H1 => ∃ v xs kd, vs = v :: xs ∧ xs = [] ∧ Sd K H1 v kd ∧ ∀ t, R (ItE K (kd t)) H1
theorem pi_enumK {X : Cx} {e : Expr} {ta : TA} {p pos tpos : Pos} {elts : List Expr} {kk : Nat} (hg : Gl X "enumerate") (hm : X.mg "enumerate" = none) (ha : PA X [e] ta) (hs : starEach [e] X.env = [(false, eval e X.env)] := by rfl) :
    PI X (.Tuple elts kk tpos) (.Call (.Name "enumerate" p) [e] [] pos) (iEnumK X.K ta) := by
  refine ⟨fun pins s σ H R I h => ?_⟩
  refine Call_ (ld_blt I hg hm boot_enumerate (PyProof.Rows.callWith_type1 (thn (ha.run pos pins s σ H _ I h) fun us s1 ⟨vs, H1, I1, r1, q1⟩ => ?_) hs rfl))
  obtain ⟨v, _, kd, ex, rfl, ⟨hu, hsq⟩, q⟩ := q1
  subst ex
  cases r1 with
  | cons r rr =>
    cases rr
    obtain ⟨t, rfl⟩ := hu _ r
    obtain ⟨xs, hq⟩ := hsq t
    obtain ⟨its, hl, hn, hlt, rel⟩ := (kd t).held_of I1 hq
    refine enum_begins1 ((kd t).begins its) hl fun h' he hit hsz hk => wpAny_pyIter_enum he ?_
    have I2 : Inv X pins σ H1 { s1 with heap := h' } := I1.kept (t' := s1.toks) hk
    refine ⟨s1.heap.objs.size + 1, [s1.heap.objs.size + 1, s1.heap.objs.size], _, _, H1, rfl, I2, turn_E (kd t) (Nat.succ_ne_self _) (fun z => Nat.lt_irrefl _ (hlt _ z)) (fun z => Nat.lt_irrefl _ (Nat.lt_of_succ_lt (hlt _ z))), ⟨⟨.none, he⟩, (kd t).st0 hit⟩, fun b hb => ?_, q t⟩
    have e' : b = s1.heap.objs.size + 1 ∨ b = s1.heap.objs.size := by simpa using hb
    have hle : s1.heap.objs.size ≤ b := by
      rcases e' with z | z
      · rw [z]; exact Nat.le_add_right _ _
      · rw [z]; exact Nat.le_refl _
    exact I1.fpOk hle (I1.hok.fresh hle)
/-! #### zip of two, of three -/
def ItZ2 (K : PySem.W.Frag) (a b : Kd) : It :=
  ⟨fun i H => ∃ (xs ys : List V) (x y : V), a.sq K H xs ∧ b.sq K H ys ∧ xs[i]? = some x ∧ ys[i]? = some y,
    fun i H v H' => ∃ T x y, v = .ref T ∧ H T = none ∧ H' = upd H T (.tup [x, y]) ∧ (∀ xs, a.sq K H xs → xs[i]? = some x) ∧ ∀ ys, b.sq K H ys → ys[i]? = some y,
    fun i H => ∃ xs ys : List V, a.sq K H xs ∧ b.sq K H ys ∧ (xs.length ≤ i ∨ ys.length ≤ i)⟩
theorem turn_Z2 {P : Program} {w : World} {K : PySem.W.Frag} {elts : List Expr} {kk : Nat} {tpos : Pos} (a b : Kd) {z TI TO i1 i2 : Addr} (D : ZipSep2 z TI TO i1 i2 (i1 :: a.fp) (i2 :: b.fp)) (na : i1 ∉ a.fp) (nb : i2 ∉ b.fp) :
    Turn P w K (.Tuple elts kk tpos) (ItZ2 K a b) [z, TI, TO, i1, i2] z (fun i h => IsZip h z TI TO .none ∧ IsTupOf2 h TI (.ref i1) (.ref i2) ∧ (∃ x y, IsTupOf2 h TO x y) ∧ a.st i1 i h ∧ b.st i2 i h) where
  mem := by simp
  obj := fun i h st c hc => by
    obtain ⟨hz, hTI, ⟨x, y, hTO⟩, h1, h2⟩ := st
    have e' : c = z ∨ c = TI ∨ c = TO ∨ c = i1 ∨ c = i2 := by simpa using hc
    rcases e' with q | q | q | q | q
    · rw [q]; exact ⟨_, hz, fun v q => nomatch q⟩
    · rw [q]; exact ⟨_, hTI, fun v q => nomatch q⟩
    · rw [q]; exact ⟨_, hTO, fun v q => nomatch q⟩
    · rw [q]; exact a.st_obj h1
    · rw [q]; exact b.st_obj h2
  keep := fun i h h' st k => by
    obtain ⟨hz, hTI, ⟨x, y, hTO⟩, h1, h2⟩ := st
    exact ⟨k z (by simp) _ hz, k TI (by simp) _ hTI, ⟨x, y, k TO (by simp) _ hTO⟩, a.st_at h1 fun o q => k i1 (by simp) o q, b.st_at h2 fun o q => k i2 (by simp) o q⟩
  item := by
    intro X hP hw hK hc i pins s σ H E I hf st hg
    subst hP hw hK
    obtain ⟨hz, hTI, ⟨x0, y0, hTO⟩, h1, h2⟩ := st
    obtain ⟨xs, ys, x, y, hqx, hqy, hx, hy⟩ := hg
    obtain ⟨itx, hl1, hn1, _, rel1⟩ := a.held_of I hqx
    obtain ⟨ity, hl2, hn2, _, rel2⟩ := b.held_of I hqy
    have hh : X.A.in1.handled = none := I.ok.hd hc
    have hzl : z < s.heap.objs.size := Heap.lt_size hz
    have hlt1 : i < a.n itx := by rw [hn1]; exact (List.getElem?_eq_some_iff.mp hx).1
    have hlt2 : i < b.n ity := by rw [hn2]; exact (List.getElem?_eq_some_iff.mp hy).1
    refine wpAny_pyNext_zipD2_item D (a.draws hh i1 na itx) (b.draws hh i2 nb ity) hz hTI hTO ⟨h1, hl1⟩ ⟨h2, hl2⟩ hlt1 hlt2 fun u u2 h' tk pu pu2 z' TO' h1' h2' hT hsz hk => ?_
    obtain ⟨x', hx', ru⟩ := rel1 i u pu
    have e1 : some x' = some x := hx'.symm.trans hx
    cases e1
    obtain ⟨y', hy', ru2⟩ := rel2 i u2 pu2
    have e2 : some y' = some y := hy'.symm.trans hy
    cases e2
    refine ⟨_, rfl, wpAny_letOwnedTupleGo_zip (s := { s with heap := h', toks := tk }) z' fun h'' z'' sb => ?_⟩
    have hT2 : h''.get? s.heap.objs.size = some { cls := .type "tuple", data := .seq #[u, u2] } := (sb.2 _ (Nat.ne_of_gt hzl)).trans hT
    have new : ObjOk X.prog X.w (upd H s.heap.objs.size (.tup [x, y])) h'' s.heap.objs.size (.tup [x, y]) :=
      ⟨by show 2 ≤ sizeLine; decide, [u, u2], .cons ru (.cons ru2 .nil), ⟨_, hT2, rfl, _, rfl⟩⟩
    have I1 : Inv X pins σ (upd H s.heap.objs.size (.tup [x, y])) { s with heap := h'', toks := tk } :=
      I.turnedNew (t' := tk) (ch := [z, TI, TO, i1, i2]) (fun c o hb q => (sb.2 c (fun q' => hb (by simp [q']))).trans (hk c o (fun q' => hb (by simp [q'])) (fun q' => hb (by simp [q'])) (fun q' => hb (by simp [q'])) (fun q' => hb (by simp [q'])) q)) hf (Nat.le_refl _) new
    have TIi : ∀ c, c ∈ [z, TO, i1, i2] → TI ≠ c := fun c hc => by
      have e' : c = z ∨ c = TO ∨ c = i1 ∨ c = i2 := by simpa using hc
      rcases e' with q | q | q | q
      · rw [q]; exact D.TIz
      · rw [q]; exact D.TITO
      · rw [q]; exact D.TIi1
      · rw [q]; exact D.TIi2
    refine ⟨.ref s.heap.objs.size, _, I1, rfl, ⟨_, x, y, rfl, I.hok.fresh (Nat.le_refl _), rfl, fun l hl => by rw [a.inj I hl hqx]; exact hx, fun l hl => by rw [b.inj I hl hqy]; exact hy⟩, ⟨z'', ?_, ⟨u, u2, ?_⟩, ?_, ?_⟩, fun c hcm => ?_⟩
    · exact (sb.2 _ D.TIz).trans (hk _ _ D.TIz D.TITO D.TIi1 D.TIi2 hTI)
    · exact (sb.2 _ D.TOz).trans TO'
    · exact a.st_at h1'.1 fun o q => (sb.2 _ (Ne.symm D.zi1)).trans q
    · exact b.st_at h2'.1 fun o q => (sb.2 _ (Ne.symm D.zi2)).trans q
    · have hlt : c < s.heap.objs.size := by
        have e' : c = z ∨ c = TI ∨ c = TO ∨ c = i1 ∨ c = i2 := by simpa using hcm
        rcases e' with q | q | q | q | q
        · rw [q]; exact hzl
        · rw [q]; exact Heap.lt_size hTI
        · rw [q]; exact Heap.lt_size hTO
        · rw [q]; obtain ⟨_, e1, _⟩ := a.st_obj h1; exact Heap.lt_size e1
        · rw [q]; obtain ⟨_, e2, _⟩ := b.st_obj h2; exact Heap.lt_size e2
      rw [upd_ne (Nat.ne_of_lt hlt)]
      exact (hf c hcm).1
  done := by
    intro X hP hw hK hc i pins s σ H E I hf st hg
    subst hP hw hK
    obtain ⟨hz, hTI, ⟨x0, y0, hTO⟩, h1, h2⟩ := st
    obtain ⟨xs, ys, hqx, hqy, hend⟩ := hg
    obtain ⟨itx, hl1, hn1, _, rel1⟩ := a.held_of I hqx
    obtain ⟨ity, hl2, hn2, _, rel2⟩ := b.held_of I hqy
    have hh : X.A.in1.handled = none := I.ok.hd hc
    obtain ⟨n1, P1, St1, D1, s1, le1, en1⟩ := a.drawsAt (prog := X.prog) (w := X.w) hh na h1 hl1
    obtain ⟨n2, P2, St2, D2, s2, le2, en2⟩ := b.drawsAt (prog := X.prog) (w := X.w) hh nb h2 hl2
    have he : i = n1 ∨ i = n2 := by
      rcases hend with q | q
      · exact .inl (en1 (by rw [hn1]; exact q)).symm
      · exact .inr (en2 (by rw [hn2]; exact q)).symm
    exact wpAny_pyNext_zipD2_end D D1 D2 hz hTI hTO s1 s2 le1 le2 he fun h' tk hk => ⟨rfl, I.turnedL (t' := tk) (ch := [z, TI, TO, i1, i2]) (fun c o hb q =>
      hk c o (fun q' => hb (by simp [q'])) (fun q' => hb (by simp [q'])) (fun q' => hb (by simp [q'])) (fun q' => hb (by simp [q'])) q) hf⟩
  self := fun A i s Q E st h => wpAny_pyIter_zip st.1 h
def iZip2K (K : PySem.W.Frag) (ta : TA) : TI := fun σ H R => ta σ H fun vs H1 => ∃ v1 v2 xs k1 k2, vs = v1 :: v2 :: xs ∧ xs = [] ∧ Sd K H1 v1 k1 ∧ Sd K H1 v2 k2 ∧ ∀ t t2, R (ItZ2 K (k1 t) (k2 t2)) H1
theorem pi_zip2K {X : Cx} {e e2 : Expr} {ta : TA} {p pos tpos : Pos} {elts : List Expr} {kk : Nat} (hg : Gl X "zip") (hm : X.mg "zip" = none) (ha : PA X [e, e2] ta)
    (hs : starEach [e, e2] X.env = (false, eval e X.env) :: starEach [e2] X.env := by rfl) (hpl : (backTo pos (starEach [e2] X.env)).any (·.1) = false := by rfl) :
    PI X (.Tuple elts kk tpos) (.Call (.Name "zip" p) [e, e2] [] pos) (iZip2K X.K ta) := by
  refine ⟨fun pins s σ H R I h => ?_⟩
  refine Call_ (ld_blt I hg hm PyProof.Rows.boot_zip (PyProof.Rows.callWith_type1 (thn (ha.run pos pins s σ H _ I h) fun us s1 ⟨vs, H1, I1, r1, q1⟩ => ?_) hs hpl))
  obtain ⟨v1, v2, _, k1, k2, ex, rfl, ⟨ra, sa⟩, ⟨rb, sb⟩, q⟩ := q1
  subst ex
  cases r1 with
  | cons r rr =>
    cases rr with
    | cons r' rr =>
      cases rr
      obtain ⟨t, rfl⟩ := ra _ r
      obtain ⟨t2, rfl⟩ := rb _ r'
      obtain ⟨_, hqx⟩ := sa t
      obtain ⟨itx, hl1, hn1, ha1, _⟩ := (k1 t).held_of I1 hqx
      obtain ⟨_, hqy⟩ := sb t2
      obtain ⟨ity, hl2, hn2, hb1, _⟩ := (k2 t2).held_of I1 hqy
      refine zip_begins2 ((k1 t).begins itx) ((k2 t2).begins ity) hl1 hl2 fun h' hz hTI hTO h1 h2 hsz hk => wpAny_pyIter_zip hz ?_
      have I2 : Inv X pins σ H1 { s1 with heap := h' } := I1.kept (t' := s1.toks) hk
      refine ⟨s1.heap.objs.size + 4, [s1.heap.objs.size + 4, s1.heap.objs.size + 2, s1.heap.objs.size + 3, s1.heap.objs.size, s1.heap.objs.size + 1], _, _, H1, rfl, I2, turn_Z2 _ _ (zip_sep2 ha1 hb1) (fun z => Nat.lt_irrefl _ (ha1 _ z)) (fun z => Nat.lt_irrefl _ (Nat.lt_of_succ_lt (hb1 _ z))), ⟨hz, hTI, ⟨_, _, hTO⟩, (k1 t).st0 h1, (k2 t2).st0 h2⟩, fun c hcm => ?_, q t t2⟩
      have e' : c = s1.heap.objs.size + 4 ∨ c = s1.heap.objs.size + 2 ∨ c = s1.heap.objs.size + 3 ∨ c = s1.heap.objs.size ∨ c = s1.heap.objs.size + 1 := by simpa using hcm
      have hle : s1.heap.objs.size ≤ c := by
        rcases e' with z | z | z | z | z
        · rw [z]; exact Nat.le_add_right _ _
        · rw [z]; exact Nat.le_add_right _ _
        · rw [z]; exact Nat.le_add_right _ _
        · rw [z]; exact Nat.le_refl _
        · rw [z]; exact Nat.le_add_right _ _
      exact I1.fpOk hle (I1.hok.fresh hle)
def ItZ3 (K : PySem.W.Frag) (a b c : Kd) : It :=
  ⟨fun i H => ∃ (xs ys zs : List V) (x y z : V), a.sq K H xs ∧ b.sq K H ys ∧ c.sq K H zs ∧ xs[i]? = some x ∧ ys[i]? = some y ∧ zs[i]? = some z,
    fun i H v H' => ∃ T x y z, v = .ref T ∧ H T = none ∧ H' = upd H T (.tup [x, y, z]) ∧ (∀ xs, a.sq K H xs → xs[i]? = some x) ∧ (∀ ys, b.sq K H ys → ys[i]? = some y) ∧ ∀ zs, c.sq K H zs → zs[i]? = some z,
    fun i H => ∃ xs ys zs : List V, a.sq K H xs ∧ b.sq K H ys ∧ c.sq K H zs ∧ (xs.length ≤ i ∨ ys.length ≤ i ∨ zs.length ≤ i)⟩
theorem turn_Z3 {P : Program} {w : World} {K : PySem.W.Frag} {elts : List Expr} {kk : Nat} {tpos : Pos} (a b d : Kd) {z TI TO i1 i2 i3 : Addr} (D : ZipSep3 z TI TO i1 i2 i3 (i1 :: a.fp) (i2 :: b.fp) (i3 :: d.fp)) (na : i1 ∉ a.fp) (nb : i2 ∉ b.fp) (nd : i3 ∉ d.fp) :
    Turn P w K (.Tuple elts kk tpos) (ItZ3 K a b d) [z, TI, TO, i1, i2, i3] z (fun i h => IsZip h z TI TO .none ∧ IsTupOf3 h TI (.ref i1) (.ref i2) (.ref i3) ∧ (∃ x y t, IsTupOf3 h TO x y t) ∧ a.st i1 i h ∧ b.st i2 i h ∧ d.st i3 i h) where
  mem := by simp
  obj := fun i h st c hc => by
    obtain ⟨hz, hTI, ⟨x, y, t, hTO⟩, h1, h2, h3⟩ := st
    have e' : c = z ∨ c = TI ∨ c = TO ∨ c = i1 ∨ c = i2 ∨ c = i3 := by simpa using hc
    rcases e' with q | q | q | q | q | q
    · rw [q]; exact ⟨_, hz, fun v q => nomatch q⟩
    · rw [q]; exact ⟨_, hTI, fun v q => nomatch q⟩
    · rw [q]; exact ⟨_, hTO, fun v q => nomatch q⟩
    · rw [q]; exact a.st_obj h1
    · rw [q]; exact b.st_obj h2
    · rw [q]; exact d.st_obj h3
  keep := fun i h h' st k => by
    obtain ⟨hz, hTI, ⟨x, y, t, hTO⟩, h1, h2, h3⟩ := st
    exact ⟨k z (by simp) _ hz, k TI (by simp) _ hTI, ⟨x, y, t, k TO (by simp) _ hTO⟩, a.st_at h1 fun o q => k i1 (by simp) o q, b.st_at h2 fun o q => k i2 (by simp) o q, d.st_at h3 fun o q => k i3 (by simp) o q⟩
  item := by
    intro X hP hw hK hc i pins s σ H E I hf st hg
    subst hP hw hK
    obtain ⟨hz, hTI, ⟨x0, y0, t0, hTO⟩, h1, h2, h3⟩ := st
    obtain ⟨xs, ys, ts, x, y, t, hqx, hqy, hqt, hx, hy, ht⟩ := hg
    obtain ⟨itx, hl1, hn1, _, rel1⟩ := a.held_of I hqx
    obtain ⟨ity, hl2, hn2, _, rel2⟩ := b.held_of I hqy
    obtain ⟨itt, hl3, hn3, _, rel3⟩ := d.held_of I hqt
    have hh : X.A.in1.handled = none := I.ok.hd hc
    have hzl : z < s.heap.objs.size := Heap.lt_size hz
    have hlt1 : i < a.n itx := by rw [hn1]; exact (List.getElem?_eq_some_iff.mp hx).1
    have hlt2 : i < b.n ity := by rw [hn2]; exact (List.getElem?_eq_some_iff.mp hy).1
    have hlt3 : i < d.n itt := by rw [hn3]; exact (List.getElem?_eq_some_iff.mp ht).1
    refine wpAny_pyNext_zipD3_item D (a.draws hh i1 na itx) (b.draws hh i2 nb ity) (d.draws hh i3 nd itt) hz hTI hTO ⟨h1, hl1⟩ ⟨h2, hl2⟩ ⟨h3, hl3⟩ hlt1 hlt2 hlt3 fun u u2 u3 h' tk pu pu2 pu3 z' TO' h1' h2' h3' hT hsz hk => ?_
    obtain ⟨x', hx', ru⟩ := rel1 i u pu
    have e1 : some x' = some x := hx'.symm.trans hx
    cases e1
    obtain ⟨y', hy', ru2⟩ := rel2 i u2 pu2
    have e2 : some y' = some y := hy'.symm.trans hy
    cases e2
    obtain ⟨t', ht', ru3⟩ := rel3 i u3 pu3
    have e3 : some t' = some t := ht'.symm.trans ht
    cases e3
    refine ⟨_, rfl, wpAny_letOwnedTupleGo_zip (s := { s with heap := h', toks := tk }) z' fun h'' z'' sb => ?_⟩
    have hT2 : h''.get? s.heap.objs.size = some { cls := .type "tuple", data := .seq #[u, u2, u3] } := (sb.2 _ (Nat.ne_of_gt hzl)).trans hT
    have new : ObjOk X.prog X.w (upd H s.heap.objs.size (.tup [x, y, t])) h'' s.heap.objs.size (.tup [x, y, t]) :=
      ⟨by show 3 ≤ sizeLine; decide, [u, u2, u3], .cons ru (.cons ru2 (.cons ru3 .nil)), ⟨_, hT2, rfl, _, rfl⟩⟩
    have I1 : Inv X pins σ (upd H s.heap.objs.size (.tup [x, y, t])) { s with heap := h'', toks := tk } :=
      I.turnedNew (t' := tk) (ch := [z, TI, TO, i1, i2, i3]) (fun c o hb q => (sb.2 c (fun q' => hb (by simp [q']))).trans (hk c o (fun q' => hb (by simp [q'])) (fun q' => hb (by simp [q'])) (fun q' => hb (by simp [q'])) (fun q' => hb (by simp [q'])) (fun q' => hb (by simp [q'])) q)) hf (Nat.le_refl _) new
    refine ⟨.ref s.heap.objs.size, _, I1, rfl, ⟨_, x, y, t, rfl, I.hok.fresh (Nat.le_refl _), rfl, fun l hl => by rw [a.inj I hl hqx]; exact hx, fun l hl => by rw [b.inj I hl hqy]; exact hy, fun l hl => by rw [d.inj I hl hqt]; exact ht⟩, ⟨z'', ?_, ⟨u, u2, u3, ?_⟩, ?_, ?_, ?_⟩, fun c hcm => ?_⟩
    · exact (sb.2 _ D.TIz).trans (hk _ _ D.TIz D.TITO D.TIi1 D.TIi2 D.TIi3 hTI)
    · exact (sb.2 _ D.TOz).trans TO'
    · exact a.st_at h1'.1 fun o q => (sb.2 _ (Ne.symm D.zi1)).trans q
    · exact b.st_at h2'.1 fun o q => (sb.2 _ (Ne.symm D.zi2)).trans q
    · exact d.st_at h3'.1 fun o q => (sb.2 _ (Ne.symm D.zi3)).trans q
    · have hlt : c < s.heap.objs.size := by
        have e' : c = z ∨ c = TI ∨ c = TO ∨ c = i1 ∨ c = i2 ∨ c = i3 := by simpa using hcm
        rcases e' with q | q | q | q | q | q
        · rw [q]; exact hzl
        · rw [q]; exact Heap.lt_size hTI
        · rw [q]; exact Heap.lt_size hTO
        · rw [q]; obtain ⟨_, e1, _⟩ := a.st_obj h1; exact Heap.lt_size e1
        · rw [q]; obtain ⟨_, e2, _⟩ := b.st_obj h2; exact Heap.lt_size e2
        · rw [q]; obtain ⟨_, e3, _⟩ := d.st_obj h3; exact Heap.lt_size e3
      rw [upd_ne (Nat.ne_of_lt hlt)]
      exact (hf c hcm).1
  done := by
    intro X hP hw hK hc i pins s σ H E I hf st hg
    subst hP hw hK
    obtain ⟨hz, hTI, ⟨x0, y0, t0, hTO⟩, h1, h2, h3⟩ := st
    obtain ⟨xs, ys, ts, hqx, hqy, hqt, hend⟩ := hg
    obtain ⟨itx, hl1, hn1, _, rel1⟩ := a.held_of I hqx
    obtain ⟨ity, hl2, hn2, _, rel2⟩ := b.held_of I hqy
    obtain ⟨itt, hl3, hn3, _, rel3⟩ := d.held_of I hqt
    have hh : X.A.in1.handled = none := I.ok.hd hc
    obtain ⟨n1, P1, St1, D1, s1, le1, en1⟩ := a.drawsAt (prog := X.prog) (w := X.w) hh na h1 hl1
    obtain ⟨n2, P2, St2, D2, s2, le2, en2⟩ := b.drawsAt (prog := X.prog) (w := X.w) hh nb h2 hl2
    obtain ⟨n3, P3, St3, D3, s3, le3, en3⟩ := d.drawsAt (prog := X.prog) (w := X.w) hh nd h3 hl3
    have he : i = n1 ∨ i = n2 ∨ i = n3 := by
      rcases hend with q | q | q
      · exact .inl (en1 (by rw [hn1]; exact q)).symm
      · exact .inr (.inl (en2 (by rw [hn2]; exact q)).symm)
      · exact .inr (.inr (en3 (by rw [hn3]; exact q)).symm)
    exact wpAny_pyNext_zipD3_end D D1 D2 D3 hz hTI hTO s1 s2 s3 le1 le2 le3 he fun h' tk hk => ⟨rfl, I.turnedL (t' := tk) (ch := [z, TI, TO, i1, i2, i3]) (fun c o hb q =>
      hk c o (fun q' => hb (by simp [q'])) (fun q' => hb (by simp [q'])) (fun q' => hb (by simp [q'])) (fun q' => hb (by simp [q'])) (fun q' => hb (by simp [q'])) q) hf⟩
  self := fun A i s Q E st h => wpAny_pyIter_zip st.1 h
def iZip3K (K : PySem.W.Frag) (ta : TA) : TI := fun σ H R => ta σ H fun vs H1 => ∃ v1 v2 v3 xs k1 k2 k3, vs = v1 :: v2 :: v3 :: xs ∧ xs = [] ∧ Sd K H1 v1 k1 ∧ Sd K H1 v2 k2 ∧ Sd K H1 v3 k3 ∧ ∀ t t2 t3, R (ItZ3 K (k1 t) (k2 t2) (k3 t3)) H1
theorem pi_zip3K {X : Cx} {e e2 e3 : Expr} {ta : TA} {p pos tpos : Pos} {elts : List Expr} {kk : Nat} (hg : Gl X "zip") (hm : X.mg "zip" = none) (ha : PA X [e, e2, e3] ta)
    (hs : starEach [e, e2, e3] X.env = (false, eval e X.env) :: starEach [e2, e3] X.env := by rfl) (hpl : (backTo pos (starEach [e2, e3] X.env)).any (·.1) = false := by rfl) :
    PI X (.Tuple elts kk tpos) (.Call (.Name "zip" p) [e, e2, e3] [] pos) (iZip3K X.K ta) := by
  refine ⟨fun pins s σ H R I h => ?_⟩
  refine Call_ (ld_blt I hg hm PyProof.Rows.boot_zip (PyProof.Rows.callWith_type1 (thn (ha.run pos pins s σ H _ I h) fun us s1 ⟨vs, H1, I1, r1, q1⟩ => ?_) hs hpl))
  obtain ⟨v1, v2, v3, _, k1, k2, k3, ex, rfl, ⟨ra, sa⟩, ⟨rb, sb⟩, ⟨rd, sd⟩, q⟩ := q1
  subst ex
  cases r1 with
  | cons r rr =>
    cases rr with
    | cons r' rr =>
      cases rr with
      | cons r'' rr =>
        cases rr
        obtain ⟨t, rfl⟩ := ra _ r
        obtain ⟨t2, rfl⟩ := rb _ r'
        obtain ⟨t3, rfl⟩ := rd _ r''
        obtain ⟨_, hqx⟩ := sa t
        obtain ⟨itx, hl1, hn1, ha1, _⟩ := (k1 t).held_of I1 hqx
        obtain ⟨_, hqy⟩ := sb t2
        obtain ⟨ity, hl2, hn2, hb1, _⟩ := (k2 t2).held_of I1 hqy
        obtain ⟨_, hqt⟩ := sd t3
        obtain ⟨itt, hl3, hn3, hd1, _⟩ := (k3 t3).held_of I1 hqt
        refine zip_begins3 ((k1 t).begins itx) ((k2 t2).begins ity) ((k3 t3).begins itt) hl1 hl2 hl3 fun h' hz hTI hTO h1 h2 h3 hsz hk => wpAny_pyIter_zip hz ?_
        have I2 : Inv X pins σ H1 { s1 with heap := h' } := I1.kept (t' := s1.toks) hk
        refine ⟨s1.heap.objs.size + 5, [s1.heap.objs.size + 5, s1.heap.objs.size + 3, s1.heap.objs.size + 4, s1.heap.objs.size, s1.heap.objs.size + 1, s1.heap.objs.size + 2], _, _, H1, rfl, I2, turn_Z3 _ _ _ (zip_sep3 ha1 hb1 hd1) (fun z => Nat.lt_irrefl _ (ha1 _ z)) (fun z => Nat.lt_irrefl _ (Nat.lt_of_succ_lt (hb1 _ z))) (fun z => Nat.lt_irrefl _ (Nat.lt_of_succ_lt (Nat.lt_of_succ_lt (hd1 _ z)))), ⟨hz, hTI, ⟨_, _, _, hTO⟩, (k1 t).st0 h1, (k2 t2).st0 h2, (k3 t3).st0 h3⟩, fun c hcm => ?_, q t t2 t3⟩
        have e' : c = s1.heap.objs.size + 5 ∨ c = s1.heap.objs.size + 3 ∨ c = s1.heap.objs.size + 4 ∨ c = s1.heap.objs.size ∨ c = s1.heap.objs.size + 1 ∨ c = s1.heap.objs.size + 2 := by simpa using hcm
        have hle : s1.heap.objs.size ≤ c := by
          rcases e' with z | z | z | z | z | z
          · rw [z]; exact Nat.le_add_right _ _
          · rw [z]; exact Nat.le_add_right _ _
          · rw [z]; exact Nat.le_add_right _ _
          · rw [z]; exact Nat.le_refl _
          · rw [z]; exact Nat.le_add_right _ _
          · rw [z]; exact Nat.le_add_right _ _
        exact I1.fpOk hle (I1.hok.fresh hle)
/-! #### mirrors -/
def srcD : PyData → Option (List PyData)
  | .list xs => some xs
  | .tuple xs => some xs
  | .str x => some (x.cps.toList.map fun c => .str ⟨#[c]⟩)
  | _ => none
theorem src_ext {K : PySem.W.Frag} {ph r : List Addr} {H : Hp} {v : V} {d : PyData} {ds : List PyData} (m : Dr K (ph ++ r) H v d) (q : srcD d = some ds) : ∃ kd : Tok → Kd, (∀ u, RelV v u → ∃ t, u = (kd t).u) ∧
    ∀ ph' r' H', (∀ b, b ∈ ph' → b ∈ ph ∨ H b = none) → Ext r H r' H' → ∀ t, ∃ xs, (kd t).sq K H' xs ∧ DrAll K (ph' ++ r') H' xs ds := by
  cases m with
  | @lst a va _ ea na ta =>
    cases q
    refine ⟨fun _ => .lst a, fun u ru => ⟨0, ru⟩, fun ph' r' H' h2 x t => ?_⟩
    have hB : ∀ b, b ∈ ph' ++ r → b ∈ ph ++ r ∨ H b = none := fun b hb => by
      rcases List.mem_append.mp hb with z | z
      · exact (h2 b z).imp (fun q => List.mem_append_left _ q) id
      · exact .inl (List.mem_append_right _ z)
    have out : a ∉ ph' ++ r := fun z => (hB a z).elim na fun q => by rw [ea] at q; cases q
    obtain ⟨ea2, na2⟩ := x.tracked ea out (fun _ z => by cases z)
    exact ⟨va, .inl (.inl ea2), DrAll.mono x (DrAll.more hB ta)⟩
  | @tup a _ _ ea na ta =>
    cases q
    refine ⟨fun _ => .tup a, fun u ru => ⟨0, ru⟩, fun ph' r' H' h2 x t => ?_⟩
    exact sqT_ext (S' := []) (.tup ea na ta) x h2
  | @tupK a _ _ _ _ _ h1 h2' h3 h4 h5 h6 h7 =>
    cases q
    refine ⟨fun _ => .tup a, fun u ru => ⟨0, ru⟩, fun ph' r' H' h2 x t => ?_⟩
    exact sqT_ext (S' := []) (.tupK h1 h2' h3 h4 h5 h6 h7) x h2
  | str x =>
    cases q
    refine ⟨fun t => .txt x t, fun u ru => ru, fun ph' r' H' h2 _ t => ⟨_, rfl, ?_⟩⟩
    generalize x.cps.toList = l
    induction l with
    | nil => exact .nil
    | cons c l ih => exact .cons (.str _) ih
  | _ => cases q
section
variable {X : Cx} {g : Cfg} {W : WX} {a b c : Expr} {fs : Env1 → Sto → R (List M)} {pos : Pos}
theorem goes_E {K : PySem.W.Frag} {g : Cfg} {ph r : List Addr} {H : Hp} {k : Kd} {xs : List PyData}
    (h : ∀ ph' r' H', (∀ b, b ∈ ph' → b ∈ ph ∨ H b = none) → Ext r H r' H' → ∃ vs, k.sq K H' vs ∧ DrAll K (ph' ++ r') H' vs xs) : PIt K g ph r H (enumM xs) (ItE K k) := by
  intro ph' h1 h2 r' S' H' x so i
  obtain ⟨va, sa, ta2⟩ := h ph' r' H' h2 x
  refine ⟨fun m hm => ?_, fun h => ⟨va, sa, by
    have q : (enumM xs).length = xs.length := by simp [enumM]
    rw [ta2.length, ← q]
    exact h⟩⟩
  unfold enumM at hm
  rw [List.getElem?_map] at hm
  obtain ⟨p, hp, rfl⟩ := Option.map_eq_some_iff.mp hm
  obtain ⟨hi, hx⟩ := List.getElem?_zip_eq_some.mp hp
  have hi2 : p.1 = i := by
    have q := List.getElem?_eq_some_iff.mp hi
    obtain ⟨q1, q2⟩ := q
    rw [List.getElem_range] at q2
    exact q2.symm
  obtain ⟨u, hu, du⟩ := ta2.get hx
  refine ⟨⟨va, u, sa, hu⟩, fun y H2 hy2 => ?_⟩
  obtain ⟨T, y1, rfl, hT, rfl, k1⟩ := hy2
  have e1 : some y1 = some u := (k1 va sa).symm.trans hu
  cases e1
  have ex : Ext r' H' r' (upd H' T (.tup [.int (i : Nat), u])) := Ext.new hT
  refine ⟨ex, so.new hT, T, _, rfl, ⟨upd_same, so.fresh hT⟩, DrAll.mono ex (.cons ?_ (.cons du .nil))⟩
  rw [hi2]
  exact .int _
def enumO : List M → Option (List M)
  | [.d d] => (srcD d).map enumM
  | _ => none
def iEnumA (f : Env1 → Sto → R (List M)) : Env1 → Sto → R (List M) := fun e S => (f e S).bind fun ms S1 => lift (enumO ms) S1
theorem mi_enumA {elts : List Expr} {kk : Nat} {tpos p : Pos} (hm : X.mg "enumerate" = none) (ha : MA X g W [a] fs) (hg : Gl X "enumerate" := by rfl) (he : starEach [a] X.env = [(false, eval a X.env)] := by rfl) : MI X g W (.Tuple elts kk tpos) (.Call (.Name "enumerate" p) [a] [] pos) (iEnumA fs) := by
  refine PI.of (pi_enumK hg hm ha he) fun s H Q h => ?_
  obtain ⟨ph, r, S, e, so, ev, h⟩ := h
  refine ⟨ph, r, S, e, so, ev, ?_⟩
  unfold iEnumA at h
  cases q : fs e S with
  | rz c y S1 => rw [q] at h; exact h
  | bad => rw [q] at h; exact h
  | ok ms S1 =>
    rw [q] at h
    intro r1 H1 vs x1 so1 m1
    replace h : Post PIt X.K g (fun c d H' => W c d s H') ph r H (lift (enumO ms) S1) Q := h
    unfold enumO at h
    split at h
    · rename_i d
      cases m1 with
      | cons p1 t =>
        cases t
        cases qd : srcD d with
        | none => rw [qd] at h; exact h.elim
        | some ds =>
          rw [qd] at h
          obtain ⟨kd, rel, ex⟩ := src_ext p1 qd
          refine ⟨_, _, kd, rfl, rfl, ⟨rel, fun t => ?_⟩, fun t => h r1 H1 _ x1 so1 (goes_E fun ph' r' H' h2 x => ex ph' r' H' h2 x t)⟩
          obtain ⟨xs, hx, _⟩ := ex ph r1 H1 (fun b hb => .inl hb) (.refl _ _) t
          exact ⟨xs, hx⟩
    · exact h.elim
theorem goes_Z2 {K : PySem.W.Frag} {g : Cfg} {ph r : List Addr} {H : Hp} {a b : Kd} {xs ys : List PyData}
    (h : ∀ ph' r' H', (∀ b, b ∈ ph' → b ∈ ph ∨ H b = none) → Ext r H r' H' → ∃ vs, a.sq K H' vs ∧ DrAll K (ph' ++ r') H' vs xs)
    (h' : ∀ ph' r' H', (∀ b, b ∈ ph' → b ∈ ph ∨ H b = none) → Ext r H r' H' → ∃ vs, b.sq K H' vs ∧ DrAll K (ph' ++ r') H' vs ys) : PIt K g ph r H (zipM xs ys) (ItZ2 K a b) := by
  intro ph' h1 h2 r' S' H' x so i
  obtain ⟨va, sa, ta2⟩ := h ph' r' H' h2 x
  obtain ⟨vb, sb, tb2⟩ := h' ph' r' H' h2 x
  refine ⟨fun m hm => ?_, fun h => ⟨va, vb, sa, sb, by
    have q : (zipM xs ys).length = min xs.length ys.length := by simp [zipM]
    have q1 := ta2.length
    have q2 := tb2.length
    rw [q] at h
    omega⟩⟩
  unfold zipM at hm
  rw [List.getElem?_map] at hm
  obtain ⟨p, hp, rfl⟩ := Option.map_eq_some_iff.mp hm
  obtain ⟨hx, hy⟩ := List.getElem?_zip_eq_some.mp hp
  obtain ⟨u, hu, du⟩ := ta2.get hx
  obtain ⟨w, hw, dw⟩ := tb2.get hy
  refine ⟨⟨va, vb, u, w, sa, sb, hu, hw⟩, fun y H2 hy2 => ?_⟩
  obtain ⟨T, y1, y2, rfl, hT, rfl, k1, k2⟩ := hy2
  have e1 : some y1 = some u := (k1 va sa).symm.trans hu
  have e2 : some y2 = some w := (k2 vb sb).symm.trans hw
  cases e1
  cases e2
  have ex : Ext r' H' r' (upd H' T (.tup [u, w])) := Ext.new hT
  exact ⟨ex, so.new hT, T, _, rfl, ⟨upd_same, so.fresh hT⟩, DrAll.mono ex (.cons du (.cons dw .nil))⟩
def zipA2 : List M → Option (List M)
  | [.d d, .d d2] => match srcD d, srcD d2 with
    | some xs, some ys => some (zipM xs ys)
    | _, _ => none
  | _ => none
def iZipA2 (f : Env1 → Sto → R (List M)) : Env1 → Sto → R (List M) := fun e S => (f e S).bind fun ms S1 => lift (zipA2 ms) S1
theorem mi_zipA2 {elts : List Expr} {kk : Nat} {tpos p : Pos} (hm : X.mg "zip" = none) (ha : MA X g W [a, b] fs) (hg : Gl X "zip" := by rfl) (he : starEach [a, b] X.env = (false, eval a X.env) :: starEach [b] X.env := by rfl) (hpl : (backTo pos (starEach [b] X.env)).any (·.1) = false := by rfl) : MI X g W (.Tuple elts kk tpos) (.Call (.Name "zip" p) [a, b] [] pos) (iZipA2 fs) := by
  refine PI.of (pi_zip2K hg hm ha he hpl) fun s H Q h => ?_
  obtain ⟨ph, r, S, e, so, ev, h⟩ := h
  refine ⟨ph, r, S, e, so, ev, ?_⟩
  unfold iZipA2 at h
  cases q : fs e S with
  | rz c y S1 => rw [q] at h; exact h
  | bad => rw [q] at h; exact h
  | ok ms S1 =>
    rw [q] at h
    intro r1 H1 vs x1 so1 m1
    replace h : Post PIt X.K g (fun c d H' => W c d s H') ph r H (lift (zipA2 ms) S1) Q := h
    unfold zipA2 at h
    split at h
    · rename_i d d2
      cases m1 with
      | cons p1 t =>
        cases t with
        | cons p2 t =>
          cases t
          cases qd : srcD d with
          | none => rw [qd] at h; exact h.elim
          | some xs =>
            cases qe : srcD d2 with
            | none => rw [qd, qe] at h; exact h.elim
            | some ys =>
              rw [qd, qe] at h
              obtain ⟨k1, rel1, ex1⟩ := src_ext p1 qd
              obtain ⟨k2, rel2, ex2⟩ := src_ext p2 qe
              refine ⟨_, _, _, k1, k2, rfl, rfl, ⟨rel1, fun t => ?_⟩, ⟨rel2, fun t => ?_⟩, fun t t2 => h r1 H1 _ x1 so1 (goes_Z2 (fun ph' r' H' h2 x => ex1 ph' r' H' h2 x t) fun ph' r' H' h2 x => ex2 ph' r' H' h2 x t2)⟩
              · obtain ⟨xs, hx, _⟩ := ex1 ph r1 H1 (fun b hb => .inl hb) (.refl _ _) t
                exact ⟨xs, hx⟩
              · obtain ⟨xs, hx, _⟩ := ex2 ph r1 H1 (fun b hb => .inl hb) (.refl _ _) t
                exact ⟨xs, hx⟩
    · exact h.elim
def zip3M (xs ys zs : List PyData) : List M := (xs.zip (ys.zip zs)).map fun p => .pr [p.1, p.2.1, p.2.2]
theorem goes_Z3 {K : PySem.W.Frag} {g : Cfg} {ph r : List Addr} {H : Hp} {a b c : Kd} {xs ys zs : List PyData}
    (h : ∀ ph' r' H', (∀ b, b ∈ ph' → b ∈ ph ∨ H b = none) → Ext r H r' H' → ∃ vs, a.sq K H' vs ∧ DrAll K (ph' ++ r') H' vs xs)
    (h' : ∀ ph' r' H', (∀ b, b ∈ ph' → b ∈ ph ∨ H b = none) → Ext r H r' H' → ∃ vs, b.sq K H' vs ∧ DrAll K (ph' ++ r') H' vs ys)
    (h'' : ∀ ph' r' H', (∀ b, b ∈ ph' → b ∈ ph ∨ H b = none) → Ext r H r' H' → ∃ vs, c.sq K H' vs ∧ DrAll K (ph' ++ r') H' vs zs) : PIt K g ph r H (zip3M xs ys zs) (ItZ3 K a b c) := by
  intro ph' h1 h2 r' S' H' x so i
  obtain ⟨va, sa, ta2⟩ := h ph' r' H' h2 x
  obtain ⟨vb, sb, tb2⟩ := h' ph' r' H' h2 x
  obtain ⟨vc, sc, tc2⟩ := h'' ph' r' H' h2 x
  refine ⟨fun m hm => ?_, fun h => ⟨va, vb, vc, sa, sb, sc, by
    have q : (zip3M xs ys zs).length = min xs.length (min ys.length zs.length) := by simp [zip3M]
    have q1 := ta2.length
    have q2 := tb2.length
    have q3 := tc2.length
    rw [q] at h
    omega⟩⟩
  unfold zip3M at hm
  rw [List.getElem?_map] at hm
  obtain ⟨p, hp, rfl⟩ := Option.map_eq_some_iff.mp hm
  obtain ⟨hx, hyz⟩ := List.getElem?_zip_eq_some.mp hp
  obtain ⟨hy, hz⟩ := List.getElem?_zip_eq_some.mp hyz
  obtain ⟨u, hu, du⟩ := ta2.get hx
  obtain ⟨w, hw, dw⟩ := tb2.get hy
  obtain ⟨o, ho, do'⟩ := tc2.get hz
  refine ⟨⟨va, vb, vc, u, w, o, sa, sb, sc, hu, hw, ho⟩, fun y H2 hy2 => ?_⟩
  obtain ⟨T, y1, y2, y3, rfl, hT, rfl, k1, k2, k3⟩ := hy2
  have e1 : some y1 = some u := (k1 va sa).symm.trans hu
  have e2 : some y2 = some w := (k2 vb sb).symm.trans hw
  have e3 : some y3 = some o := (k3 vc sc).symm.trans ho
  cases e1
  cases e2
  cases e3
  have ex : Ext r' H' r' (upd H' T (.tup [u, w, o])) := Ext.new hT
  exact ⟨ex, so.new hT, T, _, rfl, ⟨upd_same, so.fresh hT⟩, DrAll.mono ex (.cons du (.cons dw (.cons do' .nil)))⟩
def zipA3 : List M → Option (List M)
  | [.d d, .d d2, .d d3] => match srcD d, srcD d2, srcD d3 with
    | some xs, some ys, some zs => some (zip3M xs ys zs)
    | _, _, _ => none
  | _ => none
def iZipA3 (f : Env1 → Sto → R (List M)) : Env1 → Sto → R (List M) := fun e S => (f e S).bind fun ms S1 => lift (zipA3 ms) S1
theorem mi_zipA3 {elts : List Expr} {kk : Nat} {tpos p : Pos} (hm : X.mg "zip" = none) (ha : MA X g W [a, b, c] fs) (hg : Gl X "zip" := by rfl) (he : starEach [a, b, c] X.env = (false, eval a X.env) :: starEach [b, c] X.env := by rfl) (hpl : (backTo pos (starEach [b, c] X.env)).any (·.1) = false := by rfl) : MI X g W (.Tuple elts kk tpos) (.Call (.Name "zip" p) [a, b, c] [] pos) (iZipA3 fs) := by
  refine PI.of (pi_zip3K hg hm ha he hpl) fun s H Q h => ?_
  obtain ⟨ph, r, S, e, so, ev, h⟩ := h
  refine ⟨ph, r, S, e, so, ev, ?_⟩
  unfold iZipA3 at h
  cases q : fs e S with
  | rz c y S1 => rw [q] at h; exact h
  | bad => rw [q] at h; exact h
  | ok ms S1 =>
    rw [q] at h
    intro r1 H1 vs x1 so1 m1
    replace h : Post PIt X.K g (fun c d H' => W c d s H') ph r H (lift (zipA3 ms) S1) Q := h
    unfold zipA3 at h
    split at h
    · rename_i d d2 d3
      cases m1 with
      | cons p1 t =>
        cases t with
        | cons p2 t =>
          cases t with
          | cons p3 t =>
            cases t
            cases qd : srcD d with
            | none => rw [qd] at h; exact h.elim
            | some xs =>
              cases qe : srcD d2 with
              | none => rw [qd, qe] at h; exact h.elim
              | some ys =>
                cases qf : srcD d3 with
                | none => rw [qd, qe, qf] at h; exact h.elim
                | some zs =>
                  rw [qd, qe, qf] at h
                  obtain ⟨k1, rel1, ex1⟩ := src_ext p1 qd
                  obtain ⟨k2, rel2, ex2⟩ := src_ext p2 qe
                  obtain ⟨k3, rel3, ex3⟩ := src_ext p3 qf
                  refine ⟨_, _, _, _, k1, k2, k3, rfl, rfl, ⟨rel1, fun t => ?_⟩, ⟨rel2, fun t => ?_⟩, ⟨rel3, fun t => ?_⟩, fun t t2 t3 => h r1 H1 _ x1 so1 (goes_Z3 (fun ph' r' H' h2 x => ex1 ph' r' H' h2 x t) (fun ph' r' H' h2 x => ex2 ph' r' H' h2 x t2) fun ph' r' H' h2 x => ex3 ph' r' H' h2 x t3)⟩
                  · obtain ⟨xs, hx, _⟩ := ex1 ph r1 H1 (fun b hb => .inl hb) (.refl _ _) t
                    exact ⟨xs, hx⟩
                  · obtain ⟨xs, hx, _⟩ := ex2 ph r1 H1 (fun b hb => .inl hb) (.refl _ _) t
                    exact ⟨xs, hx⟩
                  · obtain ⟨xs, hx, _⟩ := ex3 ph r1 H1 (fun b hb => .inl hb) (.refl _ _) t
                    exact ⟨xs, hx⟩
    · exact h.elim
end
end Mr

end
section
set_option maxRecDepth 100000
set_option maxHeartbeats 2000000
set_option autoImplicit false
namespace Mr
open PySem PySem.Spec L2 MrT
open PyProof.Rows hiding St
/-! ### zip of any number of sources: zip(*rows), its tuples kept by a name -/
abbrev IsZ (h : Heap) (z TI TO : Addr) (f0 : Value) (f1 : Bool) : Prop :=
  h.get? z = some { cls := .type "zip", dict := none, data := .fields #[f0, .bool f1, .bool false, .ref TI, .ref TO], slots := #[] }
abbrev IsT (h : Heap) (T : Addr) (vs : List Value) : Prop := h.get? T = some { cls := .type "tuple", data := .seq vs.toArray }
abbrev Src := Addr × Kd × Array Value
def At (i : Nat) (h : Heap) (p : Src) : Prop := p.2.1.st p.1 i h ∧ p.2.1.held p.2.2 h
theorem Kd.held_at {k : Kd} {its : Array Value} {h h' : Heap} (x : k.held its h) (e : ∀ b ∈ k.fp, ∀ o, h.get? b = some o → h'.get? b = some o) : k.held its h' := by
  cases k with
  | lst a => exact x.at fun o q => e a (by simp [Kd.fp]) o q
  | tup a => exact x.at fun o q => e a (by simp [Kd.fp]) o q
  | txt x t => trivial
theorem At.over {i : Nat} {h h' : Heap} {p : Src} (x : At i h p) (e : ∀ b, (b = p.1 ∨ b ∈ p.2.1.fp) → ∀ o, h.get? b = some o → h'.get? b = some o) : At i h' p :=
  ⟨p.2.1.st_at x.1 fun o q => e _ (.inl rfl) o q, Kd.held_at x.2 fun b hb o q => e b (.inr hb) o q⟩
theorem At.sb {i : Nat} {h h' : Heap} {p : Src} {c : Addr} (x : At i h p) (e : Heap.SameBut c h h') (h1 : c ≠ p.1) (h2 : c ∉ p.2.1.fp) : At i h' p :=
  x.over fun b hb o q => e.extBut b o (by
    rcases hb with z | z
    · rw [z]; exact Ne.symm h1
    · exact fun w => h2 (w ▸ z)) q
structure Ap (z TI TO : Addr) (S : List Src) : Prop where
  TIz : TI ≠ z
  TOz : TO ≠ z
  TITO : TI ≠ TO
  src : ∀ p ∈ S, TI ≠ p.1 ∧ z ≠ p.1 ∧ TO ≠ p.1 ∧ z ∉ p.2.1.fp ∧ TO ∉ p.2.1.fp ∧ p.1 ∉ p.2.1.fp
  pair : S.Pairwise fun p q => p.1 ≠ q.1 ∧ p.1 ∉ q.2.1.fp ∧ q.1 ∉ p.2.1.fp
section
variable {prog : Program} {w : World} {A : Around} {E : Value → Shared → Prop} {s : Shared} {z TI TO : Addr}
theorem next_src {p : Src} {i : Nat} {Q : Value → Shared → Prop} (hh : A.handled = none) (hp : p.1 ∉ p.2.1.fp) (x : At i s.heap p) (hi : i < p.2.1.n p.2.2)
    (hQ : ∀ u h' tk, p.2.1.P p.2.2 i u → At (i + 1) h' p → Heap.SameBut p.1 s.heap h' → Q u { s with heap := h', toks := tk }) : wpAny (model prog w) A (Builtin.SmallTypes.nextOf (.ref p.1)) Q E s :=
  (p.2.1.draws hh p.1 hp p.2.2).item i s Q E hi x fun u h' tk pu st sb => hQ u h' tk pu st sb
theorem next_end {p : Src} {i : Nat} {Q : Value → Shared → Prop} (hh : A.handled = none) (x : At i s.heap p) (hi : p.2.1.n p.2.2 ≤ i)
    (hE : ∀ h' e, Heap.ExtBut p.1 s.heap h' → (∃ o, h'.get? e = some o ∧ o.cls = .type "StopIteration") → E (.ref e) { s with heap := h' }) : wpAny (model prog w) A (Builtin.SmallTypes.nextOf (.ref p.1)) Q E s :=
  (p.2.1.drawsEnd hh p.1 p.2.2 i hi).done s Q E ⟨rfl, x.1, x.2⟩ hE
theorem isFree_any {f0 : Value} {f1 : Bool} {Q : Bool → Shared → Prop} (hz : IsZ s.heap z TI TO f0 f1) (hf : f0 = .none ∨ ∃ T : Nat, f0 = rawInt T) (h1 : Q true s)
    (h2 : ∀ h', IsZ h' z TI TO f0 true → Heap.SameBut z s.heap h' → Q false { s with heap := h' }) : wpAny (model prog w) A (Builtin.SmallTypes.ownedTupleIsFree (.ref z)) Q E s := by
  unfold Builtin.SmallTypes.ownedTupleIsFree
  refine wpAny_bind (wpAny_field hz rfl (x := f0) rfl ?_)
  rcases hf with rfl | ⟨T, rfl⟩
  · exact wpAny_pure h1
  · show wpAny _ _ (loadIfAlive ((T : Int).toNat) >>= _) _ _ _
    rw [Int.toNat_natCast]
    have al : ∀ {Q : Option Obj → Shared → Prop}, Q (s.heap.get? T) s → wpAny (model prog w) A (loadIfAlive T) Q E s := fun h => fun _ _ _ => h
    refine wpAny_bind (al ?_)
    cases s.heap.get? T with
    | none => exact wpAny_pure h1
    | some o =>
      simp only [Option.isNone_some, Bool.false_eq_true, if_false]
      refine wpAny_bind (wpAny_field hz rfl (x := .bool f1) rfl ?_)
      cases f1 with
      | true =>
        rw [if_neg (show ¬ ((Value.bool true != Value.bool true) = true) from Bool.false_ne_true)]
        exact wpAny_pure (h2 s.heap hz (Heap.SameBut.refl _ _))
      | false =>
        rw [if_pos (show (Value.bool false != Value.bool true) = true from rfl)]
        exact wpAny_bind (wpAny_setField_rec hz (by simp) fun h₁ hz₁ hs₁ => wpAny_pure (h2 h₁ hz₁ hs₁))
/-- what has been kept of the heap at the start -/
def Kept (z TO : Addr) (S : List Src) (h h' : Heap) : Prop := h'.objs.size = h.objs.size ∧ ∀ c o, c ≠ z → c ≠ TO → (∀ p ∈ S, c ≠ p.1) → h.get? c = some o → h'.get? c = some o
theorem mid_pair {R : Src → Src → Prop} {S1 S2 : List Src} {p : Src} (h : (S1 ++ p :: S2).Pairwise R) : (∀ q ∈ S1, R q p) ∧ ∀ q ∈ S2, R p q := by
  obtain ⟨_, h2, h3⟩ := List.pairwise_append.mp h
  exact ⟨fun q hq => h3 q hq p List.mem_cons_self, (List.pairwise_cons.mp h2).1⟩
theorem zipN_item {S : List Src} {i : Nat} {f1 : Bool} {f0 : Value} {vs0 : List Value} {Q : Value → Shared → Prop} (hh : A.handled = none) (D : Ap z TI TO S) (hz : IsZ s.heap z TI TO f0 f1) (hf : f0 = .none ∨ ∃ T : Nat, f0 = rawInt T) (hTI : IsT s.heap TI (S.map fun p => .ref p.1)) (hTO : IsT s.heap TO vs0) (hv : vs0.length = S.length) (hl : S.length ≤ 1000) (h0 : S ≠ [])
    (hS : ∀ p ∈ S, At i s.heap p ∧ i < p.2.1.n p.2.2)
    (hQ : ∀ xs vs h' tk f0 f1, Paired (fun (p : Src) u => p.2.1.P p.2.2 i u) S xs → IsZ h' z TI TO f0 f1 → (f0 = .none ∨ ∃ T : Nat, f0 = rawInt T) → IsT h' TO vs → vs.length = S.length → (∀ p ∈ S, At (i + 1) h' p) → IsT h' s.heap.objs.size xs → h'.objs.size = s.heap.objs.size + 1 →
      (∀ c o, c ≠ z → c ≠ TO → (∀ p ∈ S, c ≠ p.1) → s.heap.get? c = some o → h'.get? c = some o) → Q (.ref s.heap.objs.size) { s with heap := h', toks := tk }) :
    wpAny (model prog w) A (Builtin.«zip.__next__» ⟨[.ref z], []⟩) (fun fin s' => ∃ v, fin = .done (.ret v) ∧ Q v s') E s := by
  obtain ⟨hp, g, d, tk0, os⟩ := s
  have sl : sizeLine = 16777216 := by decide
  show wpAny _ _ (field (.ref z) 2 >>= _) _ _ _
  refine wpAny_bind (wpAny_field hz rfl (x := .bool false) rfl ?_)
  show wpAny _ _ (field (.ref z) 3 >>= _) _ _ _
  refine wpAny_bind (wpAny_field hz rfl (x := .ref TI) rfl ?_)
  refine wpAny_bind (wpAny_seqItems hTI rfl ?_)
  have ne : ((S.map fun p => (Value.ref p.1)).toArray.isEmpty) = false := by
    cases S with
    | nil => exact absurd rfl h0
    | cons a b => rfl
  simp only [ne, Bool.false_eq_true, if_false]
  show wpAny _ _ (Builtin.SmallTypes.ownedTupleIsFree (.ref z) >>= _) _ _ _
  refine wpAny_bind (isFree_any hz hf ?_ fun hA hzA hsA => ?_)
  · simp only [if_true]
    refine wpAny_bind (wpAny_rule ?_)
    refine wpAny_bind (wpAny_field hz rfl (x := .ref TO) rfl ?_)
    refine wpAny_bind (wpAny_setField_rec hz (by simp) fun g0 hz0 hs0 => ?_)
    replace hz0 : IsZ g0 z TI TO .ellipsis f1 := hz0
    replace hs0 : Heap.SameBut z hp g0 := hs0
    refine wpAny_bind ?_
    refine wpAny_forIn_list _ (fun rest b s' => b = ⟨none, ⟨⟩⟩ ∧ ∃ (h' : Heap) (tk : Tok) (S1 S2 : List Src) (xs vs : List Value), s' = ⟨h', g, d, tk, os⟩ ∧ S = S1 ++ S2 ∧ rest = (S2.map fun p => (Value.ref p.1)).zipIdx S1.length ∧ Paired (fun (p : Src) u => p.2.1.P p.2.2 i u) S1 xs ∧ vs.length = S.length ∧ vs.take S1.length = xs ∧ IsZ h' z TI TO .ellipsis f1 ∧ IsT h' TO vs ∧ (∀ p ∈ S1, At (i + 1) h' p) ∧ (∀ p ∈ S2, At i h' p) ∧ Kept z TO S hp h') _ ?_ ?_ _ _ ⟨rfl, g0, tk0, [], S, [], vs0, rfl, rfl, rfl, .nil, hv, rfl, hz0, hs0.extBut _ _ D.TOz hTO, by simp, fun p hp' => (hS p hp').1.sb hs0 (D.src p hp').2.1 (D.src p hp').2.2.2.1, hs0.1, fun c o c1 _ _ e => hs0.extBut _ _ c1 e⟩
    · intro x rest b s' hI
      obtain ⟨rfl, h', tk, S1, S2, xs, vs, rfl, hS12, hr, pr, hvl, hvt, hzz, hT, a1, a2, ke⟩ := hI
      cases S2 with
      | nil => cases hr
      | cons p S2 =>
        rw [List.map_cons, List.zipIdx_cons] at hr
        obtain ⟨rfl, rfl⟩ := List.cons.inj hr
        have hpS : p ∈ S := by rw [hS12]; exact List.mem_append_right _ List.mem_cons_self
        have hpw := D.pair
        rw [hS12] at hpw
        obtain ⟨m1, m2⟩ := mid_pair hpw
        obtain ⟨d1, d2, d3, d4, d5, d6⟩ := D.src p hpS
        refine wpAny_bind (wpAny_onRaise ?_)
        show wpAny _ _ (Builtin.SmallTypes.nextOf (.ref p.1) >>= _) _ _ ⟨h', g, d, tk, os⟩
        refine wpAny_bind (next_src (s := ⟨h', g, d, tk, os⟩) hh d6 (a2 p List.mem_cons_self) (hS p hpS).2 fun u h2 tk2 pu st sb => wpAny_pure ?_)
        replace sb : Heap.SameBut p.1 h' h2 := sb
        have hT2 : IsT h2 TO vs := sb.extBut _ _ d3 hT
        refine wpAny_bind (wpAny_seqItems (s := ⟨h2, g, d, tk2, os⟩) hT2 rfl ?_)
        refine wpAny_bind (wpAny_updateSeq (s := ⟨h2, g, d, tk2, os⟩) hT2 rfl ?_ (by rw [List.size_toArray]; omega) (by rw [Array.size_setIfInBounds, List.size_toArray]; omega))
        refine wpAny_bind (wpAny_letGo (wpAny_pure ?_))
        have hT3 : IsT (h2.update TO (Obj.mapSeq (·.setIfInBounds S1.length u))) TO (vs.set S1.length u) := by
          show Heap.get? _ _ = _
          rw [Heap.get?_update_self _ hT2 rfl]
          simp [Obj.mapSeq]
        have sb2 : Heap.SameBut TO h2 (h2.update TO (Obj.mapSeq (·.setIfInBounds S1.length u))) := Heap.SameBut.update ..
        generalize h2.update TO (Obj.mapSeq (·.setIfInBounds S1.length u)) = h3 at hT3 sb2 ⊢
        have lt : S1.length < vs.length := by rw [hvl, hS12]; simp
        refine ⟨rfl, h3, tk2, S1 ++ [p], S2, xs ++ [u], vs.set S1.length u, rfl, by rw [hS12]; simp, by simp, Mr.Paired.append' pr (.cons pu .nil), by simpa using hvl, ?_, ?_, hT3, ?_, ?_, ?_⟩
        · rw [List.length_append, List.length_singleton, List.take_add_one, List.take_set, hvt.symm.symm, List.getElem?_set_self lt]
          rw [← hvt]
          congr 1
          exact List.set_eq_of_length_le (by rw [List.length_take]; exact Nat.min_le_left _ _)
        · exact sb2.extBut _ _ D.TOz.symm (sb.extBut _ _ d2 hzz)
        · intro q hq
          rcases List.mem_append.mp hq with hq | hq
          · have hqS : q ∈ S := by rw [hS12]; exact List.mem_append_left _ hq
            obtain ⟨_, _, e3, _, e5, _⟩ := D.src q hqS
            exact ((a1 q hq).sb sb (Ne.symm (m1 q hq).1) (m1 q hq).2.2).sb sb2 e3 e5
          · rw [List.mem_singleton.mp hq]
            exact st.sb sb2 d3 d5
        · intro q hq
          have hqS : q ∈ S := by rw [hS12]; exact List.mem_append_right _ (List.mem_cons_of_mem _ hq)
          obtain ⟨_, _, e3, _, e5, _⟩ := D.src q hqS
          exact ((a2 q (List.mem_cons_of_mem _ hq)).sb sb (m2 q hq).1 (m2 q hq).2.1).sb sb2 e3 e5
        · exact ⟨by rw [sb2.1, sb.1, ke.1], fun c o c1 c2 c3 e => sb2.extBut _ _ c2 (sb.extBut _ _ (c3 p hpS) (ke.2 c o c1 c2 c3 e))⟩
    · intro b s' hI
      obtain ⟨rfl, h', tk, S1, S2, xs, vs, rfl, hS12, hr, pr, hvl, hvt, hzz, hT, a1, a2, ke⟩ := hI
      have e2 : S2 = [] := by
        cases S2 with
        | nil => rfl
        | cons p S2 => rw [List.map_cons, List.zipIdx_cons] at hr; cases hr
      subst e2
      rw [List.append_nil] at hS12
      subst hS12
      have evs : vs = xs := by rw [← hvt, List.take_of_length_le (by omega)]
      subst evs
      refine wpAny_bind (wpAny_seqItems (s := ⟨h', g, d, tk, os⟩) hT rfl ?_)
      refine wpAny_bind (wpAny_newTuple ?_ (by simp; omega))
      have hzl : z < h'.objs.size := Heap.lt_size hzz
      show wpAny _ _ (Builtin.SmallTypes.ownedTupleHandOut (.ref z) (.ref h'.objs.size) >>= _) _ _ ⟨h'.push { cls := .type "tuple", data := .seq vs.toArray.toList.toArray }, g, d, tk, os⟩
      rw [show vs.toArray.toList.toArray = vs.toArray by simp]
      refine wpAny_bind ?_
      unfold Builtin.SmallTypes.ownedTupleHandOut
      have hz6 : IsZ (h'.push { cls := .type "tuple", data := .seq vs.toArray }) z TI TO .ellipsis f1 := Heap.get?_push_of_some _ hzz
      refine wpAny_bind (wpAny_setField_rec hz6 (by simp) fun h7 hz7 hs7 => ?_)
      replace hz7 : IsZ h7 z TI TO (rawInt h'.objs.size) f1 := hz7
      refine wpAny_setField_rec hz7 (by simp) fun h8 hz8 hs8 => ?_
      replace hz8 : IsZ h8 z TI TO (rawInt h'.objs.size) false := hz8
      replace hs7 : Heap.SameBut z (h'.push { cls := .type "tuple", data := .seq vs.toArray }) h7 := hs7
      replace hs8 : Heap.SameBut z h7 h8 := hs8
      have up : ∀ c o, c ≠ z → h'.get? c = some o → h8.get? c = some o := fun c o c1 e => hs8.extBut _ _ c1 (hs7.extBut _ _ c1 (Heap.get?_push_of_some _ e))
      have hT8 : IsT h8 h'.objs.size vs := hs8.extBut _ _ (Nat.ne_of_gt hzl) (hs7.extBut _ _ (Nat.ne_of_gt hzl) (Heap.get?_push_size _ rfl))
      have hs9 : h8.objs.size = h'.objs.size + 1 := by rw [hs8.1, hs7.1, Heap.size_push]
      have esz : h'.objs.size = hp.objs.size := ke.1
      rw [esz] at hT8 hs9 hz8
      refine wpAny_pure ⟨_, rfl, ?_⟩
      show Q (.ref h'.objs.size) ⟨h8, g, d, tk, os⟩
      rw [esz]
      exact hQ vs vs h8 tk _ _ pr hz8 (.inr ⟨_, rfl⟩) (up _ _ D.TOz hT) hvl (fun p hp' => (a1 p hp').over fun b hb o e => up b o (by
        obtain ⟨_, e2, _, e4, _, _⟩ := D.src p hp'
        rcases hb with w' | w'
        · rw [w']; exact Ne.symm e2
        · exact fun q => e4 (q ▸ w')) e) hT8 hs9 fun c o c1 c2 c3 e => up c o c1 (ke.2 c o c1 c2 c3 e)
  · replace hzA : IsZ hA z TI TO f0 true := hzA
    replace hsA : Heap.SameBut z hp hA := hsA
    simp only [Bool.false_eq_true, if_false]
    refine wpAny_bind ?_
    rw [← Array.forIn_toList]
    refine wpAny_forIn_list _ (fun rest b s' => ∃ (h' : Heap) (tk : Tok) (S1 S2 : List Src) (xs : List Value), s' = ⟨h', g, d, tk, os⟩ ∧ b = ⟨none, xs.toArray⟩ ∧ S = S1 ++ S2 ∧ rest = S2.map (fun p => (Value.ref p.1)) ∧ Paired (fun (p : Src) u => p.2.1.P p.2.2 i u) S1 xs ∧ IsZ h' z TI TO f0 true ∧ IsT h' TO vs0 ∧ (∀ p ∈ S1, At (i + 1) h' p) ∧ (∀ p ∈ S2, At i h' p) ∧ Kept z TO S hp h') _ ?_ ?_ _ _ ⟨hA, tk0, [], S, [], rfl, rfl, rfl, by simp, .nil, hzA, hsA.extBut _ _ D.TOz hTO, by simp, fun p hp' => (hS p hp').1.sb hsA (D.src p hp').2.1 (D.src p hp').2.2.2.1, hsA.1, fun c o c1 _ _ e => hsA.extBut _ _ c1 e⟩
    · intro x rest b s' hI
      obtain ⟨h', tk, S1, S2, xs, rfl, rfl, hS12, hr, pr, hzz, hT, a1, a2, ke⟩ := hI
      cases S2 with
      | nil => cases hr
      | cons p S2 =>
        rw [List.map_cons] at hr
        obtain ⟨rfl, rfl⟩ := List.cons.inj hr
        have hpS : p ∈ S := by rw [hS12]; exact List.mem_append_right _ List.mem_cons_self
        have hpw := D.pair
        rw [hS12] at hpw
        obtain ⟨m1, m2⟩ := mid_pair hpw
        obtain ⟨d1, d2, d3, d4, d5, d6⟩ := D.src p hpS
        refine wpAny_bind (wpAny_holding ?_)
        show wpAny _ _ (Builtin.SmallTypes.nextOf (.ref p.1) >>= _) _ _ ⟨h', g, d, tk, os⟩
        refine wpAny_bind (next_src (s := ⟨h', g, d, tk, os⟩) hh d6 (a2 p List.mem_cons_self) (hS p hpS).2 fun u h2 tk2 pu st sb => wpAny_pure ?_)
        replace sb : Heap.SameBut p.1 h' h2 := sb
        refine wpAny_pure ?_
        refine ⟨h2, tk2, S1 ++ [p], S2, xs ++ [u], rfl, by simp, by rw [hS12]; simp, rfl, Mr.Paired.append' pr (.cons pu .nil), sb.extBut _ _ d2 hzz, sb.extBut _ _ d3 hT, ?_, ?_, ?_⟩
        · intro q hq
          rcases List.mem_append.mp hq with hq | hq
          · exact (a1 q hq).sb sb (Ne.symm (m1 q hq).1) (m1 q hq).2.2
          · rw [List.mem_singleton.mp hq]
            exact st
        · intro q hq
          exact (a2 q (List.mem_cons_of_mem _ hq)).sb sb (m2 q hq).1 (m2 q hq).2.1
        · exact ⟨by rw [sb.1, ke.1], fun c o c1 c2 c3 e => sb.extBut _ _ (c3 p hpS) (ke.2 c o c1 c2 c3 e)⟩
    · intro b s' hI
      obtain ⟨h', tk, S1, S2, xs, rfl, rfl, hS12, hr, pr, hzz, hT, a1, a2, ke⟩ := hI
      have e2 : S2 = [] := by
        cases S2 with
        | nil => rfl
        | cons p S2 => rw [List.map_cons] at hr; cases hr
      subst e2
      rw [List.append_nil] at hS12
      subst hS12
      have xl : xs.length = S.length := (Mr.Paired.len' pr).symm
      show wpAny _ _ (newTuple xs.toArray.toList >>= _) _ _ ⟨h', g, d, tk, os⟩
      refine wpAny_bind (wpAny_newTuple ?_ (by simp; omega))
      rw [show xs.toArray.toList.toArray = xs.toArray by simp]
      have hzl : z < h'.objs.size := Heap.lt_size hzz
      have up : ∀ c o, h'.get? c = some o → (h'.push { cls := .type "tuple", data := .seq xs.toArray }).get? c = some o := fun c o e => Heap.get?_push_of_some _ e
      have hT8 : IsT (h'.push { cls := .type "tuple", data := .seq xs.toArray }) h'.objs.size xs := Heap.get?_push_size _ rfl
      have hs9 : (h'.push { cls := .type "tuple", data := .seq xs.toArray }).objs.size = h'.objs.size + 1 := Heap.size_push ..
      have esz : h'.objs.size = hp.objs.size := ke.1
      refine wpAny_pure ⟨_, rfl, ?_⟩
      show Q (.ref h'.objs.size) ⟨h'.push { cls := .type "tuple", data := .seq xs.toArray }, g, d, tk, os⟩
      rw [esz] at hT8 hs9 ⊢
      exact hQ xs vs0 _ tk _ _ pr (up _ _ hzz) hf (up _ _ hT) hv (fun p hp' => (a1 p hp').over fun b _ o e => up b o e) hT8 hs9 fun c o c1 c2 c3 e => up c o (ke.2 c o c1 c2 c3 e)
theorem zipN_end {S : List Src} {i : Nat} {f1 : Bool} {f0 : Value} {vs0 : List Value} {Q : Fin → Shared → Prop} (hh : A.handled = none) (D : Ap z TI TO S) (hz : IsZ s.heap z TI TO f0 f1) (hf : f0 = .none ∨ ∃ T : Nat, f0 = rawInt T) (hTI : IsT s.heap TI (S.map fun p => .ref p.1)) (hTO : IsT s.heap TO vs0) (hv : vs0.length = S.length) (hl : S.length ≤ 1000) (h0 : S ≠ [])
    (hS : ∀ p ∈ S, At i s.heap p) (he : ∃ p ∈ S, p.2.1.n p.2.2 ≤ i)
    (hE : ∀ h' tk e, (∀ c o, c ≠ z → c ≠ TO → (∀ p ∈ S, c ≠ p.1) → s.heap.get? c = some o → h'.get? c = some o) → (∃ o, h'.get? e = some o ∧ o.cls = .type "StopIteration") → E (.ref e) { s with heap := h', toks := tk }) :
    wpAny (model prog w) A (Builtin.«zip.__next__» ⟨[.ref z], []⟩) Q E s := by
  obtain ⟨hp, g, d, tk0, os⟩ := s
  have sl : sizeLine = 16777216 := by decide
  show wpAny _ _ (field (.ref z) 2 >>= _) _ _ _
  refine wpAny_bind (wpAny_field hz rfl (x := .bool false) rfl ?_)
  show wpAny _ _ (field (.ref z) 3 >>= _) _ _ _
  refine wpAny_bind (wpAny_field hz rfl (x := .ref TI) rfl ?_)
  refine wpAny_bind (wpAny_seqItems hTI rfl ?_)
  have ne : ((S.map fun p => (Value.ref p.1)).toArray.isEmpty) = false := by
    cases S with
    | nil => exact absurd rfl h0
    | cons a b => rfl
  simp only [ne, Bool.false_eq_true, if_false]
  show wpAny _ _ (Builtin.SmallTypes.ownedTupleIsFree (.ref z) >>= _) _ _ _
  refine wpAny_bind (isFree_any hz hf ?_ fun hA hzA hsA => ?_)
  · simp only [if_true]
    refine wpAny_bind (wpAny_rule ?_)
    refine wpAny_bind (wpAny_field hz rfl (x := .ref TO) rfl ?_)
    refine wpAny_bind (wpAny_setField_rec hz (by simp) fun g0 hz0 hs0 => ?_)
    replace hz0 : IsZ g0 z TI TO .ellipsis f1 := hz0
    replace hs0 : Heap.SameBut z hp g0 := hs0
    refine wpAny_bind ?_
    refine wpAny_forIn_list _ (fun rest b s' => b = ⟨none, ⟨⟩⟩ ∧ ∃ (h' : Heap) (tk : Tok) (S1 S2 : List Src) (vs : List Value), s' = ⟨h', g, d, tk, os⟩ ∧ S = S1 ++ S2 ∧ rest = (S2.map fun p => (Value.ref p.1)).zipIdx S1.length ∧ vs.length = S.length ∧ IsZ h' z TI TO .ellipsis f1 ∧ IsT h' TO vs ∧ (∀ p ∈ S2, At i h' p) ∧ (∃ p ∈ S2, p.2.1.n p.2.2 ≤ i) ∧ Kept z TO S hp h') _ ?_ ?_ _ _ ⟨rfl, g0, tk0, [], S, vs0, rfl, rfl, rfl, hv, hz0, hs0.extBut _ _ D.TOz hTO, fun p hp' => (hS p hp').sb hs0 (D.src p hp').2.1 (D.src p hp').2.2.2.1, he, hs0.1, fun c o c1 _ _ e => hs0.extBut _ _ c1 e⟩
    · intro x rest b s' hI
      obtain ⟨rfl, h', tk, S1, S2, vs, rfl, hS12, hr, hvl, hzz, hT, a2, he, ke⟩ := hI
      cases S2 with
      | nil => cases hr
      | cons p S2 =>
        rw [List.map_cons, List.zipIdx_cons] at hr
        obtain ⟨rfl, rfl⟩ := List.cons.inj hr
        have hpS : p ∈ S := by rw [hS12]; exact List.mem_append_right _ List.mem_cons_self
        have hpw := D.pair
        rw [hS12] at hpw
        obtain ⟨m1, m2⟩ := mid_pair hpw
        obtain ⟨d1, d2, d3, d4, d5, d6⟩ := D.src p hpS
        refine wpAny_bind (wpAny_onRaise ?_)
        show wpAny _ _ (Builtin.SmallTypes.nextOf (.ref p.1) >>= _) _ _ ⟨h', g, d, tk, os⟩
        by_cases hi : p.2.1.n p.2.2 ≤ i
        · refine wpAny_bind (next_end (s := ⟨h', g, d, tk, os⟩) hh (a2 p List.mem_cons_self) hi fun h2 e hb hx => ?_)
          replace hb : Heap.ExtBut p.1 h' h2 := hb
          obtain ⟨oe, hoe, hce⟩ := hx
          replace hoe : h2.get? e = some oe := hoe
          have hz2 : IsZ h2 z TI TO .ellipsis f1 := hb _ _ d2 hzz
          have hez : e ≠ z := fun x => by subst x; rw [hz2] at hoe; cases hoe; simp at hce
          refine wpAny_setField_rec (s := ⟨h2, g, d, tk, os⟩) hz2 (by simp) fun h3 _ hs3 => ?_
          replace hs3 : Heap.SameBut z h2 h3 := hs3
          exact hE h3 tk e (fun c o c1 c2 c3 x => hs3.extBut _ _ c1 (hb _ _ (c3 p hpS) (ke.2 c o c1 c2 c3 x))) ⟨oe, hs3.extBut _ _ hez hoe, hce⟩
        refine wpAny_bind (next_src (s := ⟨h', g, d, tk, os⟩) hh d6 (a2 p List.mem_cons_self) (by omega) fun u h2 tk2 pu st sb => wpAny_pure ?_)
        replace sb : Heap.SameBut p.1 h' h2 := sb
        have hT2 : IsT h2 TO vs := sb.extBut _ _ d3 hT
        refine wpAny_bind (wpAny_seqItems (s := ⟨h2, g, d, tk2, os⟩) hT2 rfl ?_)
        refine wpAny_bind (wpAny_updateSeq (s := ⟨h2, g, d, tk2, os⟩) hT2 rfl ?_ (by rw [List.size_toArray]; omega) (by rw [Array.size_setIfInBounds, List.size_toArray]; omega))
        refine wpAny_bind (wpAny_letGo (wpAny_pure ?_))
        have hT3 : IsT (h2.update TO (Obj.mapSeq (·.setIfInBounds S1.length u))) TO (vs.set S1.length u) := by
          show Heap.get? _ _ = _
          rw [Heap.get?_update_self _ hT2 rfl]
          simp [Obj.mapSeq]
        have sb2 : Heap.SameBut TO h2 (h2.update TO (Obj.mapSeq (·.setIfInBounds S1.length u))) := Heap.SameBut.update ..
        generalize h2.update TO (Obj.mapSeq (·.setIfInBounds S1.length u)) = h3 at hT3 sb2 ⊢
        refine ⟨rfl, h3, tk2, S1 ++ [p], S2, vs.set S1.length u, rfl, by rw [hS12]; simp, by simp, by simpa using hvl, sb2.extBut _ _ D.TOz.symm (sb.extBut _ _ d2 hzz), hT3, ?_, ?_, ?_⟩
        · intro q hq
          have hqS : q ∈ S := by rw [hS12]; exact List.mem_append_right _ (List.mem_cons_of_mem _ hq)
          obtain ⟨_, _, e3, _, e5, _⟩ := D.src q hqS
          exact ((a2 q (List.mem_cons_of_mem _ hq)).sb sb (m2 q hq).1 (m2 q hq).2.1).sb sb2 e3 e5
        · obtain ⟨q, hq, hn⟩ := he
          rcases List.mem_cons.mp hq with rfl | hq
          · exact absurd hn hi
          · exact ⟨q, hq, hn⟩
        · exact ⟨by rw [sb2.1, sb.1, ke.1], fun c o c1 c2 c3 e => sb2.extBut _ _ c2 (sb.extBut _ _ (c3 p hpS) (ke.2 c o c1 c2 c3 e))⟩
    · intro b s' hI
      obtain ⟨rfl, h', tk, S1, S2, vs, rfl, hS12, hr, hvl, hzz, hT, a2, ⟨p, hp', _⟩, ke⟩ := hI
      cases S2 with
      | nil => simp at hp'
      | cons p S2 => rw [List.map_cons, List.zipIdx_cons] at hr; cases hr
  · replace hzA : IsZ hA z TI TO f0 true := hzA
    replace hsA : Heap.SameBut z hp hA := hsA
    simp only [Bool.false_eq_true, if_false]
    refine wpAny_bind ?_
    rw [← Array.forIn_toList]
    refine wpAny_forIn_list _ (fun rest b s' => ∃ (h' : Heap) (tk : Tok) (S1 S2 : List Src) (xs : List Value), s' = ⟨h', g, d, tk, os⟩ ∧ b = ⟨none, xs.toArray⟩ ∧ S = S1 ++ S2 ∧ rest = S2.map (fun p => (Value.ref p.1)) ∧ (∀ p ∈ S2, At i h' p) ∧ (∃ p ∈ S2, p.2.1.n p.2.2 ≤ i) ∧ Kept z TO S hp h') _ ?_ ?_ _ _ ⟨hA, tk0, [], S, [], rfl, rfl, rfl, by simp, fun p hp' => (hS p hp').sb hsA (D.src p hp').2.1 (D.src p hp').2.2.2.1, he, hsA.1, fun c o c1 _ _ e => hsA.extBut _ _ c1 e⟩
    · intro x rest b s' hI
      obtain ⟨h', tk, S1, S2, xs, rfl, rfl, hS12, hr, a2, he, ke⟩ := hI
      cases S2 with
      | nil => cases hr
      | cons p S2 =>
        rw [List.map_cons] at hr
        obtain ⟨rfl, rfl⟩ := List.cons.inj hr
        have hpS : p ∈ S := by rw [hS12]; exact List.mem_append_right _ List.mem_cons_self
        have hpw := D.pair
        rw [hS12] at hpw
        obtain ⟨m1, m2⟩ := mid_pair hpw
        obtain ⟨d1, d2, d3, d4, d5, d6⟩ := D.src p hpS
        refine wpAny_bind (wpAny_holding ?_)
        show wpAny _ _ (Builtin.SmallTypes.nextOf (.ref p.1) >>= _) _ _ ⟨h', g, d, tk, os⟩
        by_cases hi : p.2.1.n p.2.2 ≤ i
        · refine wpAny_bind (next_end (s := ⟨h', g, d, tk, os⟩) hh (a2 p List.mem_cons_self) hi fun h2 e hb hx => ?_)
          replace hb : Heap.ExtBut p.1 h' h2 := hb
          exact hE h2 tk e (fun c o c1 c2 c3 x => hb _ _ (c3 p hpS) (ke.2 c o c1 c2 c3 x)) hx
        refine wpAny_bind (next_src (s := ⟨h', g, d, tk, os⟩) hh d6 (a2 p List.mem_cons_self) (by omega) fun u h2 tk2 pu st sb => wpAny_pure ?_)
        replace sb : Heap.SameBut p.1 h' h2 := sb
        refine wpAny_pure ?_
        refine ⟨h2, tk2, S1 ++ [p], S2, xs ++ [u], rfl, by simp, by rw [hS12]; simp, rfl, ?_, ?_, ?_⟩
        · intro q hq
          exact (a2 q (List.mem_cons_of_mem _ hq)).sb sb (m2 q hq).1 (m2 q hq).2.1
        · obtain ⟨q, hq, hn⟩ := he
          rcases List.mem_cons.mp hq with rfl | hq
          · exact absurd hn hi
          · exact ⟨q, hq, hn⟩
        · exact ⟨by rw [sb.1, ke.1], fun c o c1 c2 c3 e => sb.extBut _ _ (c3 p hpS) (ke.2 c o c1 c2 c3 e)⟩
    · intro b s' hI
      obtain ⟨h', tk, S1, S2, xs, rfl, rfl, hS12, hr, a2, ⟨p, hp', _⟩, ke⟩ := hI
      cases S2 with
      | nil => simp at hp'
      | cons p S2 => rw [List.map_cons] at hr; cases hr
theorem pyNext_zipN_item {S : List Src} {i : Nat} {f1 : Bool} {f0 : Value} {vs0 : List Value} {Q : Option Value → Shared → Prop} (hh : A.in1.handled = none) (D : Ap z TI TO S) (hz : IsZ s.heap z TI TO f0 f1) (hf : f0 = .none ∨ ∃ T : Nat, f0 = rawInt T) (hTI : IsT s.heap TI (S.map fun p => .ref p.1)) (hTO : IsT s.heap TO vs0) (hv : vs0.length = S.length) (hl : S.length ≤ 1000) (h0 : S ≠ [])
    (hS : ∀ p ∈ S, At i s.heap p ∧ i < p.2.1.n p.2.2)
    (hQ : ∀ xs vs h' tk f0 f1, Paired (fun (p : Src) u => p.2.1.P p.2.2 i u) S xs → IsZ h' z TI TO f0 f1 → (f0 = .none ∨ ∃ T : Nat, f0 = rawInt T) → IsT h' TO vs → vs.length = S.length → (∀ p ∈ S, At (i + 1) h' p) → IsT h' s.heap.objs.size xs → h'.objs.size = s.heap.objs.size + 1 →
      (∀ c o, c ≠ z → c ≠ TO → (∀ p ∈ S, c ≠ p.1) → s.heap.get? c = some o → h'.get? c = some o) → Q (some (.ref s.heap.objs.size)) { s with heap := h', toks := tk }) :
    wpAny (model prog w) A (pyNext (.ref z)) Q E s := by
  have hT : s.TypeIs (.ref z) "zip" := ⟨_, hz, rfl⟩
  unfold pyNext
  exact wpAny_bind (wpAny_attempt (wpAny_callSpecial?_slot (name := Str.ofString "__next__") hT F.slot_zip_next
    (wpAny_call_entry F.slot_zip_next hT F.entry_zip_next
      (zipN_item hh D hz hf hTI hTO hv hl h0 hS fun xs vs h' tk f0 f1 q1 q2 q3 q4 q5 q6 q7 q8 q9 => wpAny_pure (hQ xs vs h' tk f0 f1 q1 q2 q3 q4 q5 q6 q7 q8 q9)) (F.args_zip_next_1 _))))
theorem pyNext_zipN_end {S : List Src} {i : Nat} {f1 : Bool} {f0 : Value} {vs0 : List Value} {Q : Option Value → Shared → Prop} (hh : A.in1.handled = none) (D : Ap z TI TO S) (hz : IsZ s.heap z TI TO f0 f1) (hf : f0 = .none ∨ ∃ T : Nat, f0 = rawInt T) (hTI : IsT s.heap TI (S.map fun p => .ref p.1)) (hTO : IsT s.heap TO vs0) (hv : vs0.length = S.length) (hl : S.length ≤ 1000) (h0 : S ≠ [])
    (hS : ∀ p ∈ S, At i s.heap p) (he : ∃ p ∈ S, p.2.1.n p.2.2 ≤ i)
    (hQ : ∀ h' tk, (∀ c o, c ≠ z → c ≠ TO → (∀ p ∈ S, c ≠ p.1) → s.heap.get? c = some o → h'.get? c = some o) → Q none { s with heap := h', toks := tk }) : wpAny (model prog w) A (pyNext (.ref z)) Q E s := by
  have hT : s.TypeIs (.ref z) "zip" := ⟨_, hz, rfl⟩
  unfold pyNext
  refine wpAny_bind (wpAny_attempt (wpAny_callSpecial?_slot (name := Str.ofString "__next__") hT F.slot_zip_next
    (wpAny_call_entry F.slot_zip_next hT F.entry_zip_next (zipN_end hh D hz hf hTI hTO hv hl h0 hS he fun h' tk e hk hx => ?_) (F.args_zip_next_1 _))))
  obtain ⟨o, ho, hc⟩ := hx
  refine wpAny_bind (wpAny_isInstance (T := "StopIteration") (b := true) ⟨o, ho, hc⟩ isSubtype_stop ?_)
  exact wpAny_pure (hQ _ _ hk)
end
end Mr

end
section
set_option maxRecDepth 100000
set_option maxHeartbeats 2000000
set_option autoImplicit false
namespace Mr
open PySem PySem.Spec L2 MrT
open PyProof.Rows hiding St
/-! ### zip(*rows) begins -/
theorem zn_type (vs : List Value) : checkTypeCall "zip" ⟨vs, []⟩ = pure () := by kernel_rfl
theorem zn_new (v : Value) (vs : List Value) : checkBuiltinCall "zip.__new__" ⟨.type "zip" :: v :: vs, []⟩ = pure () := by kernel_rfl
theorem zn_init (o : Value) (vs : List Value) : argsOk "object.__init__" ⟨o :: vs, []⟩ := by unfold argsOk; kernel_rfl
def pushL (h : Heap) (os : List Obj) : Heap := os.foldl Heap.push h
theorem pushL_size : ∀ (os : List Obj) (h : Heap), (pushL h os).objs.size = h.objs.size + os.length
  | [], h => rfl
  | o :: os, h => by
    show (pushL (h.push o) os).objs.size = _
    rw [pushL_size os, Heap.size_push, List.length_cons]
    omega
theorem pushL_old : ∀ (os : List Obj) (h : Heap) (b : Addr) (o : Obj), h.get? b = some o → (pushL h os).get? b = some o
  | [], _, _, _, e => e
  | p :: os, h, b, o, e => pushL_old os (h.push p) b o (Heap.get?_push_of_some _ e)
theorem pushL_new : ∀ (os : List Obj) (h : Heap), (∀ o ∈ os, o.isFreed = false) → ∀ j o, os[j]? = some o → (pushL h os).get? (h.objs.size + j) = some o
  | [], _, _, j, o, e => by simp at e
  | p :: os, h, hf, 0, o, e => by
    have : p = o := by simpa using e
    subst this
    exact pushL_old os (h.push p) _ _ (Heap.get?_push_size _ (hf p List.mem_cons_self))
  | p :: os, h, hf, j + 1, o, e => by
    have ih := pushL_new os (h.push p) (fun q hq => hf q (List.mem_cons_of_mem _ hq)) j o (by simpa using e)
    rw [Heap.size_push] at ih
    show (pushL (h.push p) os).get? _ = _
    rw [show h.objs.size + (j + 1) = h.objs.size + 1 + j by omega]
    exact ih
theorem pushL_app (h : Heap) (a : List Obj) (o : Obj) : pushL h (a ++ [o]) = (pushL h a).push o := by
  unfold pushL
  rw [List.foldl_append]
  rfl
def refsL (n k : Nat) : List Value := (List.range k).map fun j => Value.ref (n + j)
theorem refsL_succ (n k : Nat) : refsL n (k + 1) = refsL n k ++ [.ref (n + k)] := by
  unfold refsL
  rw [List.range_succ, List.map_append]
  rfl
theorem iterAll_ok {prog : Program} {w : World} {A : Around} {E : Value → Shared → Prop} {s : Shared} {Q : List Value → Shared → Prop} {ks : List Kd} (h : ∀ k ∈ ks, ∃ its, k.held its s.heap)
    (hQ : Q (refsL s.heap.objs.size ks.length) { s with heap := pushL s.heap (ks.map Kd.o) }) : wpAny (model prog w) A (Builtin.SmallTypes.iterAll (ks.map Kd.u)) Q E s := by
  obtain ⟨hp, g, d, tk, os⟩ := s
  unfold Builtin.SmallTypes.iterAll
  refine wpAny_bind ?_
  refine wpAny_forIn_list _ (fun rest b s' => ∃ L1 L2 : List Kd, ks = L1 ++ L2 ∧ rest = L2.map Kd.u ∧ b = (refsL hp.objs.size L1.length).toArray ∧ s' = ⟨pushL hp (L1.map Kd.o), g, d, tk, os⟩) _ ?_ ?_ _ _ ⟨[], ks, rfl, rfl, rfl, rfl⟩
  · intro x rest b s' hI
    obtain ⟨L1, L2, e, hr, rfl, rfl⟩ := hI
    cases L2 with
    | nil => cases hr
    | cons k L2 =>
      rw [List.map_cons] at hr
      obtain ⟨rfl, rfl⟩ := List.cons.inj hr
      obtain ⟨its, hk⟩ := h k (by rw [e]; exact List.mem_append_right _ List.mem_cons_self)
      have B := k.begins its
      refine wpAny_bind (wpAny_holding (B.iter prog w _ _ ⟨pushL hp (L1.map Kd.o), g, d, tk, os⟩ _ (B.keeps _ _ hk fun b o q => pushL_old _ _ _ _ q) ?_))
      refine wpAny_pure ⟨L1 ++ [k], L2, by rw [e]; simp, rfl, ?_, ?_⟩
      · rw [List.length_append, List.length_singleton, refsL_succ]
        show ((refsL hp.objs.size L1.length).toArray.push (.ref (pushL hp (L1.map Kd.o)).objs.size)) = _
        rw [pushL_size, List.length_map]
        simp
      · rw [List.map_append, List.map_singleton, pushL_app]
  · intro b s' hI
    obtain ⟨L1, L2, e, hr, rfl, rfl⟩ := hI
    have e2 : L2 = [] := by
      cases L2 with
      | nil => rfl
      | cons k L2 => cases hr
    subst e2
    rw [List.append_nil] at e
    subst e
    exact wpAny_pure (by simpa using hQ)
abbrev znT (h : Heap) (ks : List Kd) : Heap := (pushL h (ks.map Kd.o)).push { cls := .type "tuple", data := .seq (refsL h.objs.size ks.length).toArray }
abbrev znO (h : Heap) (ks : List Kd) : Heap := (znT h ks).push { cls := .type "tuple", data := .seq ((refsL h.objs.size ks.length).map fun _ => Value.none).toArray }
abbrev znZ (h : Heap) (ks : List Kd) : Heap := (znO h ks).push { cls := .type "zip", data := .fields #[.none, .bool false, .bool false, .ref (pushL h (ks.map Kd.o)).objs.size, .ref (znT h ks).objs.size] }
theorem meets_zipN {k : Kd} {ks : List Kd} (hl : (k :: ks).length ≤ 1000) : Meets (Builtin.«zip.__new__» ⟨.type "zip" :: (k :: ks).map Kd.u, []⟩) (fun _ R s => (∀ q ∈ k :: ks, ∃ its, q.held its s.heap) ∧
      R (.ok (.ret (.ref (znO s.heap (k :: ks)).objs.size))) { s with heap := znZ s.heap (k :: ks) }) :=
  .of_wp fun prog w A R s h => by
    obtain ⟨hp, g, d, tk, os⟩ := s; obtain ⟨h1, h⟩ := h
    have sl : sizeLine = 16777216 := by decide
    have hsub := sub_zip
    have q1 : ∀ {A' : Around} {E : Value → Shared → Prop} {Q : List Value → Shared → Prop}, Q (refsL hp.objs.size (k :: ks).length) ⟨pushL hp ((k :: ks).map Kd.o), g, d, tk, os⟩ → wpAny (model prog w) A' (Builtin.SmallTypes.iterAll ((k :: ks).map Kd.u)) Q E ⟨hp, g, d, tk, os⟩ :=
      fun q => iterAll_ok (s := ⟨hp, g, d, tk, os⟩) h1 q
    generalize hus : (k :: ks).map Kd.u = us at q1 ⊢
    wp_walk using q1
    have hsz : ¬ (refsL hp.objs.size (k :: ks).length).toArray.size > sizeLine := by
      rw [List.size_toArray]
      unfold refsL
      rw [List.length_map, List.length_range]
      omega
    rw [if_neg hsz]
    refine wpAny_newObjAsIs_type ?_
    refine wpAny_bind (wpAny_newTuple ?_ (by unfold refsL; rw [List.length_map, List.length_map, List.length_range]; omega))
    refine wpAny_bind ?_
    unfold Builtin.SmallTypes.newRecord
    dsimp only
    refine wpAny_newObj_type ?_ (by unfold sizeOk; show 5 ≤ sizeLine + 2; omega)
    exact wpAny_pure ⟨_, rfl, h⟩
theorem zip_beginsN {prog : Program} {w : World} {A : Around} {E : Value → Shared → Prop} {s : Shared} {k : Kd} {ks : List Kd} {Q : Value → Shared → Prop} (hl : (k :: ks).length ≤ 1000) (h1 : ∀ q ∈ k :: ks, ∃ its, q.held its s.heap)
    (hQ : ∀ h', IsZ h' (s.heap.objs.size + (k :: ks).length + 2) (s.heap.objs.size + (k :: ks).length) (s.heap.objs.size + (k :: ks).length + 1) .none false → IsT h' (s.heap.objs.size + (k :: ks).length) (refsL s.heap.objs.size (k :: ks).length) → IsT h' (s.heap.objs.size + (k :: ks).length + 1) (List.replicate (k :: ks).length .none) →
      (∀ j q, (k :: ks)[j]? = some q → h'.get? (s.heap.objs.size + j) = some q.o) → h'.objs.size = s.heap.objs.size + (k :: ks).length + 3 → (∀ c o, s.heap.get? c = some o → h'.get? c = some o) → Q (.ref (s.heap.objs.size + (k :: ks).length + 2)) { s with heap := h' }) :
    wpAny (model prog w) A (call (.type "zip") ((k :: ks).map Kd.u)) Q E s := by
  refine callType_new F.called_zip (by decide) (zn_type _) (zn_new _ _) (fun obj => zn_init obj _) F.entry_zip_new (meets_zipN hl) ⟨h1, ?_⟩
  generalize hks : k :: ks = L at *
  have z1 : (pushL s.heap (L.map Kd.o)).objs.size = s.heap.objs.size + L.length := by rw [pushL_size, List.length_map]
  have z2 : (znT s.heap L).objs.size = s.heap.objs.size + L.length + 1 := by rw [Heap.size_push, z1]
  have z3 : (znO s.heap L).objs.size = s.heap.objs.size + L.length + 2 := by rw [Heap.size_push, z2]
  have z4 : (znZ s.heap L).objs.size = s.heap.objs.size + L.length + 3 := by rw [Heap.size_push, z3]
  have gZ : (znZ s.heap L).get? (znO s.heap L).objs.size = some { cls := .type "zip", data := .fields #[.none, .bool false, .bool false, .ref (pushL s.heap (L.map Kd.o)).objs.size, .ref (znT s.heap L).objs.size] } := Heap.get?_push_size _ rfl
  have gO : (znZ s.heap L).get? (znT s.heap L).objs.size = some { cls := .type "tuple", data := .seq ((refsL s.heap.objs.size L.length).map fun _ => Value.none).toArray } := Heap.get?_push_of_some _ (Heap.get?_push_size _ rfl)
  have gT : (znZ s.heap L).get? (pushL s.heap (L.map Kd.o)).objs.size = some { cls := .type "tuple", data := .seq (refsL s.heap.objs.size L.length).toArray } := Heap.get?_push_of_some _ (Heap.get?_push_of_some _ (Heap.get?_push_size _ rfl))
  have er : (refsL s.heap.objs.size L.length).map (fun _ => Value.none) = List.replicate L.length .none := by
    unfold refsL
    rw [List.map_map]
    apply List.ext_getElem
    · simp
    · intro i h1 h2
      simp
  rw [er] at gO
  rw [z3, z2, z1] at gZ
  rw [z2] at gO
  rw [z1] at gT
  have up : ∀ c o, (pushL s.heap (L.map Kd.o)).get? c = some o → (znZ s.heap L).get? c = some o := fun c o e => Heap.get?_push_of_some _ (Heap.get?_push_of_some _ (Heap.get?_push_of_some _ e))
  show _ ∧ _
  rw [z3]
  refine ⟨⟨_, gZ, rfl⟩, hQ _ gZ gT gO (fun j q hj => up _ _ (pushL_new (L.map Kd.o) s.heap (fun o ho => ?_) j q.o (by rw [List.getElem?_map, hj]; rfl))) z4 fun c o e => up _ _ (pushL_old _ _ _ _ e)⟩
  obtain ⟨q, _, rfl⟩ := List.mem_map.mp ho
  exact (q.begins #[]).free
/-! ### the turn, by a name -/
def ItN (K : PySem.W.Frag) (ks : List Kd) : It :=
  ⟨fun i H => ∃ (xss : List (List V)) (xs : List V), Paired (fun (k : Kd) ys => k.sq K H ys) ks xss ∧ Paired (fun (ys : List V) x => ys[i]? = some x) xss xs,
    fun i H v H' => ∃ T xs o, v = .ref T ∧ H T = none ∧ o.dict = none ∧ H' = upd H T (.frz o (.tup xs)) ∧ ∀ xss, Paired (fun (k : Kd) ys => k.sq K H ys) ks xss → Paired (fun (ys : List V) x => ys[i]? = some x) xss xs,
    fun i H => ∃ (xss : List (List V)), Paired (fun (k : Kd) ys => k.sq K H ys) ks xss ∧ ∃ ys ∈ xss, ys.length ≤ i⟩
theorem letGo_name {prog : Program} {w : World} {A : Around} {E : Value → Shared → Prop} {s : Shared} {x : Str} {p : Pos} {it v : Value} {Q : Unit → Shared → Prop} (h : Q () s) : wpAny (model prog w) A (letOwnedTupleGo (.Name x p) it v) Q E s := wpAny_pure h
theorem sq_inj {X : Cx} {pins : List (Addr × Obj)} {σ : L2.St} {H : Hp} {s : Shared} (I : Inv X pins σ H s) : ∀ {ks : List Kd} {a b : List (List V)}, Paired (fun (k : Kd) ys => k.sq X.K H ys) ks a → Paired (fun (k : Kd) ys => k.sq X.K H ys) ks b → a = b
  | [], _, _, .nil, .nil => rfl
  | k :: _, _, _, .cons p t, .cons q u => by rw [k.inj I p q, sq_inj I t u]
/-- the sources as they stand -/
theorem srcs_of {X : Cx} {pins : List (Addr × Obj)} {σ : L2.St} {H : Hp} {s : Shared} (I : Inv X pins σ H s) : ∀ {ks : List Kd} {xss : List (List V)} (N : Nat), Paired (fun (k : Kd) ys => k.sq X.K H ys) ks xss →
    ∃ S : List Src, S.map (fun p => p.1) = List.range' N ks.length ∧ S.map (fun p => p.2.1) = ks ∧ (∀ p ∈ S, p.2.1.held p.2.2 s.heap) ∧ Paired (fun (p : Src) (ys : List V) => p.2.1.n p.2.2 = ys.length ∧ ∀ i u, p.2.1.P p.2.2 i u → ∃ x, ys[i]? = some x ∧ RelV x u) S xss
  | [], _, N, .nil => ⟨[], rfl, rfl, by simp, .nil⟩
  | k :: ks, ys :: _, N, .cons p t => by
    obtain ⟨S, e1, e2, e3, e4⟩ := srcs_of I (N + 1) t
    obtain ⟨its, hl, hn, _, rel⟩ := k.held_of I p
    refine ⟨(N, k, its) :: S, ?_, by rw [List.map_cons, e2], fun q hq => ?_, .cons ⟨hn, rel⟩ e4⟩
    · rw [List.map_cons, e1, List.length_cons, List.range'_succ]
    · rcases List.mem_cons.mp hq with rfl | hq
      · exact hl
      · exact e3 q hq
theorem src_ap {N n : Nat} {S : List Src} (e1 : S.map (fun p => p.1) = List.range' N n) (hf : ∀ p ∈ S, ∀ b ∈ p.2.1.fp, b < N) : Ap (N + n + 2) (N + n) (N + n + 1) S where
  TIz := show (N + n : Nat) ≠ N + n + 2 by omega
  TOz := show (N + n + 1 : Nat) ≠ N + n + 2 by omega
  TITO := show (N + n : Nat) ≠ N + n + 1 by omega
  src := fun p hp => by
    have h1 : p.1 ∈ List.range' N n := by rw [← e1]; exact List.mem_map.mpr ⟨p, hp, rfl⟩
    obtain ⟨q1, q2⟩ := List.mem_range'_1.mp h1
    have lt := hf p hp
    refine ⟨fun z => ?_, fun z => ?_, fun z => ?_, fun z => ?_, fun z => ?_, fun z => ?_⟩
    · have z' : (N + n : Nat) = p.1 := z
      omega
    · have z' : (N + n + 2 : Nat) = p.1 := z
      omega
    · have z' : (N + n + 1 : Nat) = p.1 := z
      omega
    · have z' : (N + n + 2 : Nat) < N := lt _ z
      omega
    · have z' : (N + n + 1 : Nat) < N := lt _ z
      omega
    · exact absurd (lt _ z) (Nat.not_lt.mpr q1)
  pair := by
    have h1 : (S.map (fun p => p.1)).Pairwise (· ≠ ·) := by rw [e1]; exact List.nodup_range'
    have h2 := List.pairwise_map.mp h1
    refine List.Pairwise.imp_of_mem ?_ h2
    intro p q hp hq ne
    have m1 : p.1 ∈ List.range' N n := by rw [← e1]; exact List.mem_map.mpr ⟨p, hp, rfl⟩
    have m2 : q.1 ∈ List.range' N n := by rw [← e1]; exact List.mem_map.mpr ⟨q, hq, rfl⟩
    have q1 := (List.mem_range'_1.mp m1).1
    have q2 := (List.mem_range'_1.mp m2).1
    refine ⟨ne, fun z => ?_, fun z => ?_⟩
    · exact absurd (hf q hq _ z) (Nat.not_lt.mpr q1)
    · exact absurd (hf p hp _ z) (Nat.not_lt.mpr q2)
theorem vals_of {i : Nat} : ∀ {S : List Src} {xss : List (List V)} {us : List Value} {xv : List V}, Paired (fun (p : Src) u => p.2.1.P p.2.2 i u) S us → Paired (fun (p : Src) (ys : List V) => p.2.1.n p.2.2 = ys.length ∧ ∀ i u, p.2.1.P p.2.2 i u → ∃ x, ys[i]? = some x ∧ RelV x u) S xss → Paired (fun (ys : List V) x => ys[i]? = some x) xss xv → Vals xv us
  | [], _, _, _, .nil, .nil, .nil => .nil
  | _ :: _, _, _, _, .cons p t, .cons q t2, .cons r t3 => by
    obtain ⟨x, hx, rx⟩ := q.2 _ _ p
    have e : some x = some _ := hx.symm.trans r
    cases e
    exact .cons rx (vals_of t t2 t3)
theorem src_lt {i : Nat} : ∀ {S : List Src} {xss : List (List V)} {xv : List V}, Paired (fun (p : Src) (ys : List V) => p.2.1.n p.2.2 = ys.length ∧ ∀ i u, p.2.1.P p.2.2 i u → ∃ x, ys[i]? = some x ∧ RelV x u) S xss → Paired (fun (ys : List V) x => ys[i]? = some x) xss xv → ∀ p ∈ S, i < p.2.1.n p.2.2
  | [], _, _, .nil, .nil => by simp
  | p :: _, _, _, .cons q t, .cons r t2 => fun s hs => by
    rcases List.mem_cons.mp hs with rfl | hs
    · rw [q.1]; exact (List.getElem?_eq_some_iff.mp r).1
    · exact src_lt t t2 s hs
theorem src_end {i : Nat} : ∀ {S : List Src} {xss : List (List V)}, Paired (fun (p : Src) (ys : List V) => p.2.1.n p.2.2 = ys.length ∧ ∀ i u, p.2.1.P p.2.2 i u → ∃ x, ys[i]? = some x ∧ RelV x u) S xss → (∃ ys ∈ xss, ys.length ≤ i) → ∃ p ∈ S, p.2.1.n p.2.2 ≤ i
  | [], _, .nil, ⟨ys, h, _⟩ => by simp at h
  | p :: _, _, .cons q t, ⟨ys, h, hl⟩ => by
    rcases List.mem_cons.mp h with rfl | h
    · exact ⟨p, List.mem_cons_self, by rw [q.1]; exact hl⟩
    · obtain ⟨s, hs, e⟩ := src_end t ⟨ys, h, hl⟩
      exact ⟨s, List.mem_cons_of_mem _ hs, e⟩
theorem refsL_map {N n : Nat} {S : List Src} (e1 : S.map (fun p => p.1) = List.range' N n) : S.map (fun p => (Value.ref p.1)) = refsL N n := by
  have e : S.map (fun p => (Value.ref p.1)) = (S.map (fun p => p.1)).map Value.ref := by rw [List.map_map]; rfl
  rw [e, e1, List.range'_eq_map_range, List.map_map]
  rfl
theorem src_st {N i : Nat} {h : Heap} : ∀ {S : List Src} {ks : List Kd} {n : Nat}, S.map (fun p => p.1) = List.range' N n → S.map (fun p => p.2.1) = ks → (∀ (j : Nat) (k : Kd), ks[j]? = some k → k.st (N + j) i h) → ∀ p ∈ S, p.2.1.st p.1 i h := fun {S ks n} e1 e2 hs p hp => by
  obtain ⟨j, hj, e⟩ := List.mem_iff_getElem.mp hp
  have a : (S.map fun p => p.1)[j]? = some p.1 := by rw [List.getElem?_map, List.getElem?_eq_getElem hj, e]; rfl
  have b : ks[j]? = some p.2.1 := by rw [← e2, List.getElem?_map, List.getElem?_eq_getElem hj, e]; rfl
  rw [e1] at a
  have hn : j < n := by
    have := (List.getElem?_eq_some_iff.mp a).1
    simpa using this
  rw [List.getElem?_range' hn] at a
  have c : N + 1 * j = p.1 := by simpa using a
  have d := hs j _ b
  have c2 : N + j = p.1 := by rw [← c, Nat.one_mul]
  rw [c2] at d
  exact d
theorem st_src {N i : Nat} {h : Heap} {S : List Src} {ks : List Kd} {n : Nat} (e1 : S.map (fun p => p.1) = List.range' N n) (e2 : S.map (fun p => p.2.1) = ks) (hs : ∀ p ∈ S, At i h p) : ∀ (j : Nat) (k : Kd), ks[j]? = some k → k.st (N + j) i h := fun j k hk => by
  subst e2
  rw [List.getElem?_map] at hk
  obtain ⟨p, hp, rfl⟩ := Option.map_eq_some_iff.mp hk
  have a : (S.map fun p => p.1)[j]? = some p.1 := by rw [List.getElem?_map, hp]; rfl
  rw [e1] at a
  have hj : j < n := by
    have := (List.getElem?_eq_some_iff.mp a).1
    simpa using this
  rw [List.getElem?_range' hj] at a
  have c : N + 1 * j = p.1 := by simpa using a
  have c2 : N + j = p.1 := by rw [← c, Nat.one_mul]
  rw [c2]
  exact (hs p (List.mem_of_getElem? hp)).1
def tnN (ks : List Kd) (N : Nat) (i : Nat) (h : Heap) : Prop :=
  (∃ f0 f1, IsZ h (N + ks.length + 2) (N + ks.length) (N + ks.length + 1) f0 f1 ∧ (f0 = .none ∨ ∃ T : Nat, f0 = rawInt T)) ∧ IsT h (N + ks.length) (refsL N ks.length) ∧ (∃ vs, IsT h (N + ks.length + 1) vs ∧ vs.length = ks.length) ∧ ∀ (j : Nat) (k : Kd), ks[j]? = some k → k.st (N + j) i h
def fpN (ks : List Kd) (N : Nat) : List Addr := (N + ks.length + 2) :: (N + ks.length) :: (N + ks.length + 1) :: List.range' N ks.length
theorem fp_it {ks : List Kd} {N j : Nat} (h : j < ks.length) : (N + j : Nat) ∈ fpN ks N := by
  unfold fpN
  refine List.mem_cons_of_mem _ (List.mem_cons_of_mem _ (List.mem_cons_of_mem _ ?_))
  exact List.mem_range'_1.mpr ⟨Nat.le_add_right _ _, Nat.add_lt_add_left h _⟩
theorem fp_cases {ks : List Kd} {N : Nat} {b : Addr} (h : b ∈ fpN ks N) : b = N + ks.length + 2 ∨ b = N + ks.length ∨ b = N + ks.length + 1 ∨ ∃ j, j < ks.length ∧ b = N + j := by
  unfold fpN at h
  rcases List.mem_cons.mp h with h | h
  · exact .inl h
  rcases List.mem_cons.mp h with h | h
  · exact .inr (.inl h)
  rcases List.mem_cons.mp h with h | h
  · exact .inr (.inr (.inl h))
  · obtain ⟨h1, h2⟩ := List.mem_range'_1.mp h
    have a1 : (N : Nat) ≤ b := h1
    have a2 : (b : Nat) < N + ks.length := h2
    refine .inr (.inr (.inr ⟨(b : Nat) - N, ?_, ?_⟩))
    · exact (Nat.sub_lt_iff_lt_add a1).mpr (by rw [Nat.add_comm]; exact a2)
    · exact (Nat.add_sub_cancel' a1).symm
theorem src_len {N n : Nat} {S : List Src} (e1 : S.map (fun p => p.1) = List.range' N n) : S.length = n := by
  have := congrArg List.length e1
  simpa using this
theorem turn_N {P : Program} {w : World} {K : PySem.W.Frag} {x : Str} {tp : Pos} {ks : List Kd} {N : Nat} (h0 : ks ≠ []) (hn : ks.length ≤ 1000) (hf : ∀ k ∈ ks, ∀ b ∈ k.fp, b < N) : Turn P w K (.Name x tp) (ItN K ks) (fpN ks N) (N + ks.length + 2) (tnN ks N) where
  mem := by unfold fpN; exact List.mem_cons_self
  obj := fun i h st b hb => by
    obtain ⟨⟨f0, f1, hz, _⟩, hTI, ⟨vs, hTO, _⟩, hs⟩ := st
    rcases fp_cases hb with rfl | rfl | rfl | ⟨j, hj, rfl⟩
    · exact ⟨_, hz, fun v q => nomatch q⟩
    · exact ⟨_, hTI, fun v q => nomatch q⟩
    · exact ⟨_, hTO, fun v q => nomatch q⟩
    · exact (ks[j]).st_obj (hs j _ (List.getElem?_eq_getElem hj))
  keep := fun i h h' st k => by
    obtain ⟨⟨f0, f1, hz, h1⟩, hTI, ⟨vs, hTO, hv⟩, hs⟩ := st
    refine ⟨⟨f0, f1, k _ (by unfold fpN; simp) _ hz, h1⟩, k _ (by unfold fpN; simp) _ hTI, ⟨vs, k _ (by unfold fpN; simp) _ hTO, hv⟩, fun j q hq => ?_⟩
    have hj := (List.getElem?_eq_some_iff.mp hq).1
    exact q.st_at (hs j q hq) fun o e => k _ (fp_it hj) o e
  item := by
    intro X hP hw hK hc i pins s σ H E I hfp st hg
    subst hP hw hK
    obtain ⟨⟨f0, f1, hz, hf0⟩, hTI, ⟨vs, hTO, hv⟩, hs⟩ := st
    obtain ⟨xss, xv, hsq, hx⟩ := hg
    obtain ⟨S, e1, e2, e3, e4⟩ := srcs_of I N hsq
    have sl := src_len e1
    have D := src_ap e1 (fun p hp b hb => hf p.2.1 (by rw [← e2]; exact List.mem_map.mpr ⟨p, hp, rfl⟩) b hb)
    have hh : X.A.in1.handled = none := I.ok.hd hc
    have hS : ∀ p ∈ S, At i s.heap p := fun p hp => ⟨src_st e1 e2 hs p hp, e3 p hp⟩
    have lt := src_lt e4 hx
    have hS0 : S ≠ [] := fun z => by rw [z] at sl; exact h0 (List.length_eq_zero_iff.mp sl.symm)
    refine pyNext_zipN_item hh D hz hf0 (by rw [refsL_map e1]; exact hTI) hTO (by rw [hv, sl]) (by omega) hS0 (fun p hp => ⟨hS p hp, lt p hp⟩) fun us vs' h' tk f0' f1' q1 q2 q3 q4 q5 q6 q7 q8 q9 => ?_
    have rv := vals_of q1 e4 hx
    refine ⟨_, rfl, letGo_name ?_⟩
    have hul : us.length = S.length := (Mr.Paired.len' q1).symm
    have line : sizeLine = 16777216 := by decide
    have new : ObjOk X.prog X.w (upd H s.heap.objs.size (.frz { cls := .type "tuple", data := .seq us.toArray } (.tup xv))) h' s.heap.objs.size (.frz { cls := .type "tuple", data := .seq us.toArray } (.tup xv)) :=
      ⟨q7, by show xv.length ≤ sizeLine; rw [rv.length]; omega, us, rv, ⟨_, q7, rfl, _, rfl⟩⟩
    have kp : ∀ c o, c ∉ fpN ks N → s.heap.get? c = some o → h'.get? c = some o := fun c o hb e => q9 c o (fun z => hb (by rw [z]; unfold fpN; simp)) (fun z => hb (by rw [z]; unfold fpN; simp)) (fun p hp z => hb (by
      have m : p.1 ∈ List.range' N ks.length := by rw [← e1]; exact List.mem_map.mpr ⟨p, hp, rfl⟩
      rw [z]
      unfold fpN
      exact List.mem_cons_of_mem _ (List.mem_cons_of_mem _ (List.mem_cons_of_mem _ m)))) e
    have I1 : Inv X pins σ (upd H s.heap.objs.size (.frz { cls := .type "tuple", data := .seq us.toArray } (.tup xv))) { s with heap := h', toks := tk } := I.turnedNew (t' := tk) (ch := fpN ks N) kp hfp (Nat.le_refl _) new
    refine ⟨.ref s.heap.objs.size, _, I1, rfl, ⟨_, xv, { cls := .type "tuple", data := .seq us.toArray }, rfl, I.hok.fresh (Nat.le_refl _), rfl, rfl, fun xss' hp' => by rw [sq_inj I hp' hsq]; exact hx⟩, ⟨⟨f0', f1', q2, q3⟩, ?_, ⟨vs', q4, by rw [q5, sl]⟩, st_src e1 e2 q6⟩, fun c hcm => ?_⟩
    · exact q9 _ _ D.TIz D.TITO (fun p hp => (D.src p hp).1) hTI
    · have hlt : c < s.heap.objs.size := by
        rcases fp_cases hcm with rfl | rfl | rfl | ⟨j, hj, rfl⟩
        · exact Heap.lt_size hz
        · exact Heap.lt_size hTI
        · exact Heap.lt_size hTO
        · obtain ⟨_, q, _⟩ := (ks[j]).st_obj (hs j _ (List.getElem?_eq_getElem hj)); exact Heap.lt_size q
      rw [upd_ne (Nat.ne_of_lt hlt)]
      exact (hfp c hcm).1
  done := by
    intro X hP hw hK hc i pins s σ H E I hfp st hg
    subst hP hw hK
    obtain ⟨⟨f0, f1, hz, hf0⟩, hTI, ⟨vs, hTO, hv⟩, hs⟩ := st
    obtain ⟨xss, hsq, hend⟩ := hg
    obtain ⟨S, e1, e2, e3, e4⟩ := srcs_of I N hsq
    have sl := src_len e1
    have D := src_ap e1 (fun p hp b hb => hf p.2.1 (by rw [← e2]; exact List.mem_map.mpr ⟨p, hp, rfl⟩) b hb)
    have hh : X.A.in1.handled = none := I.ok.hd hc
    have hS : ∀ p ∈ S, At i s.heap p := fun p hp => ⟨src_st e1 e2 hs p hp, e3 p hp⟩
    have hS0 : S ≠ [] := fun z => by rw [z] at sl; exact h0 (List.length_eq_zero_iff.mp sl.symm)
    refine pyNext_zipN_end hh D hz hf0 (by rw [refsL_map e1]; exact hTI) hTO (by rw [hv, sl]) (by omega) hS0 hS (src_end e4 hend) fun h' tk hk => ⟨rfl, I.turnedL (t' := tk) (ch := fpN ks N) (fun c o hb e => hk c o (fun z => hb (by rw [z]; unfold fpN; simp)) (fun z => hb (by rw [z]; unfold fpN; simp)) (fun p hp z => hb (by
      have m : p.1 ∈ List.range' N ks.length := by rw [← e1]; exact List.mem_map.mpr ⟨p, hp, rfl⟩
      rw [z]
      unfold fpN
      exact List.mem_cons_of_mem _ (List.mem_cons_of_mem _ (List.mem_cons_of_mem _ m)))) e) hfp⟩
  self := fun A i s Q E st h => by
    obtain ⟨⟨f0, f1, hz, _⟩, _⟩ := st
    have hT : s.TypeIs (.ref (N + ks.length + 2)) "zip" := ⟨_, hz, rfl⟩
    refine wpAny_pyIter_slot hT F.slot_zip_iter (wpAny_call_entry F.slot_zip_iter hT F.entry_zip_iter ?_ (F.args_zip_iter_1 _))
    show wpAny _ _ (ret (.ref (N + ks.length + 2))) _ _ s
    exact wpAny_pure ⟨_, rfl, "zip", _, hT, F.slot_zip_next.lookup, h⟩
/-! ### for x in zip(*rows) -/
def iZipN (K : PySem.W.Frag) (te : TE) : TI := fun σ H R => te σ H fun v H1 => ∃ (a : Addr) (xs : List V) (ks : List Kd), v = .ref a ∧ (SqT K H1 a xs ∨ SqL K H1 a xs) ∧ ks ≠ [] ∧ ks.length ≤ 1000 ∧ Paired (fun (x : V) (k : Kd) => (∀ u, RelV x u → u = k.u) ∧ ∃ ys, k.sq K H1 ys) xs ks ∧ R (ItN K ks) H1
theorem us_of : ∀ {xs : List V} {ks : List Kd} {us : List Value} {P : Kd → Prop}, Paired (fun (x : V) (k : Kd) => (∀ u, RelV x u → u = k.u) ∧ P k) xs ks → Vals xs us → us = ks.map Kd.u ∧ ∀ k ∈ ks, P k
  | [], _, _, _, .nil, .nil => ⟨rfl, by simp⟩
  | _ :: _, k :: ks, _, _, .cons p t, .cons r v => by
    obtain ⟨e, h⟩ := us_of t v
    refine ⟨by rw [List.map_cons, e, p.1 _ r], fun q hq => ?_⟩
    rcases List.mem_cons.mp hq with rfl | hq
    · exact p.2
    · exact h q hq
theorem pi_zipS {X : Cx} {e : Expr} {te : TE} {x : Str} {tp p sp pos : Pos} (hg : Gl X "zip") (hm : X.mg "zip" = none) (he : PE X e te) (hst : starEach [.Starred e sp] X.env = [(true, eval e X.env)] := by rfl) :
    PI X (.Name x tp) (.Call (.Name "zip" p) [.Starred e sp] [] pos) (iZipN X.K te) := by
  refine ⟨fun pins s σ H R I h => ?_⟩
  refine Call_ (ld_blt I hg hm PyProof.Rows.boot_zip ?_)
  rw [hst]
  refine PySem.W.ks_call (P := fun _ => True) rfl (fun h _ => ⟨.machine, .inr (.inl rfl), .of_pure rfl⟩) (PySem.W.ks_lone (thn (he.run pins s σ H _ I h) fun v s1 ⟨y, H1, I1, ry, a, xs, ks, ey, hx, h0, hn, hk, q⟩ => ?_))
  subst ey
  obtain rfl : v = Value.ref a := ry
  refine StX.star_any I1 hx fun us s2 I2 rv => ⟨trivial, ?_⟩
  obtain ⟨rfl, hsq⟩ := us_of hk rv
  show wpAny _ _ (call (.type "zip") (ks.map Kd.u)) _ _ _
  have held : ∀ k ∈ ks, ∃ its, k.held its s2.heap := fun k hk' => by
    obtain ⟨ys, hys⟩ := hsq k hk'
    obtain ⟨its, hl, _⟩ := k.held_of I2 hys
    exact ⟨its, hl⟩
  have flt : ∀ k ∈ ks, ∀ b ∈ k.fp, b < s2.heap.objs.size := fun k hk' => by
    obtain ⟨ys, hys⟩ := hsq k hk'
    obtain ⟨its, _, _, hf, _⟩ := k.held_of I2 hys
    exact hf
  cases ks with
  | nil => exact absurd rfl h0
  | cons k ks =>
    refine zip_beginsN hn held fun h' hz hTI hTO hit hsz hkp => ?_
    have I3 : Inv X pins σ H1 { s2 with heap := h' } := I2.kept (t' := s2.toks) hkp
    have T := turn_N (P := X.prog) (w := X.w) (K := X.K) (x := x) (tp := tp) h0 hn flt
    have st : tnN (k :: ks) s2.heap.objs.size 0 h' := ⟨⟨_, _, hz, .inl rfl⟩, hTI, ⟨_, hTO, by simp⟩, fun j q hq => q.st0 (hit j q hq)⟩
    refine T.self X.A 0 { s2 with heap := h' } _ _ st ?_
    refine ⟨s2.heap.objs.size + (k :: ks).length + 2, fpN (k :: ks) s2.heap.objs.size, _, _, H1, rfl, I3, T, st, fun c hcm => ?_, q⟩
    have hle : s2.heap.objs.size ≤ c := by
      rcases fp_cases hcm with rfl | rfl | rfl | ⟨j, hj, rfl⟩
      · exact Nat.le_trans (Nat.le_add_right _ _) (Nat.le_add_right _ _)
      · exact Nat.le_add_right _ _
      · exact Nat.le_trans (Nat.le_add_right _ _) (Nat.le_add_right _ _)
      · exact Nat.le_add_right _ _
    exact I2.fpOk hle (I2.hok.fresh hle)
/-! ### the mirror -/
def rowD : PyData → Option (List PyData)
  | .list xs => some xs
  | .tuple xs => some xs
  | _ => none
def rowsD : List PyData → Option (List (List PyData))
  | [] => some []
  | d :: ds => (rowD d).bind fun r => (rowsD ds).map (r :: ·)
def minL : List (List PyData) → Nat
  | [] => 0
  | [r] => r.length
  | r :: rs => min r.length (minL rs)
def colsM (rows : List (List PyData)) : List M := (List.range (minL rows)).map fun i => .d (.tuple (rows.map fun r => r.getD i .none))
theorem minL_le : ∀ {rows : List (List PyData)} {r : List PyData}, r ∈ rows → minL rows ≤ r.length
  | [a], r, h => by rw [List.mem_singleton.mp h]; exact Nat.le_refl _
  | a :: b :: rs, r, h => by
    rcases List.mem_cons.mp h with rfl | h
    · exact Nat.min_le_left _ _
    · exact Nat.le_trans (Nat.min_le_right _ _) (minL_le h)
theorem minL_eq : ∀ {rows : List (List PyData)}, rows ≠ [] → ∃ r ∈ rows, r.length = minL rows
  | [a], _ => ⟨a, by simp, rfl⟩
  | a :: b :: rs, _ => by
    obtain ⟨r, hr, e⟩ := minL_eq (rows := b :: rs) (by simp)
    by_cases h : a.length ≤ minL (b :: rs)
    · exact ⟨a, List.mem_cons_self, (Nat.min_eq_left h).symm⟩
    · exact ⟨r, List.mem_cons_of_mem _ hr, e.trans (Nat.min_eq_right (by omega)).symm⟩
theorem row_ext {K : PySem.W.Frag} {ph r : List Addr} {H : Hp} {v : V} {d : PyData} {ds : List PyData} (m : Dr K (ph ++ r) H v d) (q : rowD d = some ds) : ∃ k : Kd, (∀ u, RelV v u → u = k.u) ∧
    ∀ ph' r' H', (∀ b, b ∈ ph' → b ∈ ph ∨ H b = none) → Ext r H r' H' → ∃ xs, k.sq K H' xs ∧ DrAll K (ph' ++ r') H' xs ds := by
  cases m with
  | @lst a va _ ea na ta =>
    cases q
    refine ⟨.lst a, fun u ru => ru, fun ph' r' H' h2 x => ?_⟩
    have hB : ∀ b, b ∈ ph' ++ r → b ∈ ph ++ r ∨ H b = none := fun b hb => by
      rcases List.mem_append.mp hb with z | z
      · exact (h2 b z).imp (fun q => List.mem_append_left _ q) id
      · exact .inl (List.mem_append_right _ z)
    have out : a ∉ ph' ++ r := fun z => (hB a z).elim na fun q => by rw [ea] at q; cases q
    obtain ⟨ea2, na2⟩ := x.tracked ea out (fun _ z => by cases z)
    exact ⟨va, .inl (.inl ea2), DrAll.mono x (DrAll.more hB ta)⟩
  | @tup a _ _ ea na ta =>
    cases q
    exact ⟨.tup a, fun u ru => ru, fun ph' r' H' h2 x => sqT_ext (S' := []) (.tup ea na ta) x h2⟩
  | @tupK a _ _ _ _ _ h1 h2' h3 h4 h5 h6 h7 =>
    cases q
    exact ⟨.tup a, fun u ru => ru, fun ph' r' H' h2 x => sqT_ext (S' := []) (.tupK h1 h2' h3 h4 h5 h6 h7) x h2⟩
  | _ => cases q
theorem rows_ext {K : PySem.W.Frag} {ph r : List Addr} {H : Hp} : ∀ {xs : List V} {ds : List PyData} {rows : List (List PyData)}, DrAll K (ph ++ r) H xs ds → rowsD ds = some rows → ∃ ks : List Kd, Paired (fun (x : V) (k : Kd) => ∀ u, RelV x u → u = k.u) xs ks ∧ ks.length = rows.length ∧
    ∀ ph' r' H', (∀ b, b ∈ ph' → b ∈ ph ∨ H b = none) → Ext r H r' H' → ∃ xss, Paired (fun (k : Kd) ys => k.sq K H' ys) ks xss ∧ Paired (fun ys row => DrAll K (ph' ++ r') H' ys row) xss rows
  | _, _, _, .nil, q => by
    cases q
    exact ⟨[], .nil, rfl, fun _ _ _ _ _ => ⟨[], .nil, .nil⟩⟩
  | _, d :: ds, rows, .cons m t, q => by
    have q : (rowD d).bind (fun r => (rowsD ds).map (r :: ·)) = some rows := q
    cases q1 : rowD d with
    | none => rw [q1] at q; cases q
    | some row =>
      rw [q1] at q
      obtain ⟨rest, q2, rfl⟩ := Option.map_eq_some_iff.mp q
      obtain ⟨k, e1, x1⟩ := row_ext m q1
      obtain ⟨ks, e2, l2, x2⟩ := rows_ext t q2
      refine ⟨k :: ks, .cons e1 e2, by simp [l2], fun ph' r' H' h2 x => ?_⟩
      obtain ⟨ys, a1, a2⟩ := x1 ph' r' H' h2 x
      obtain ⟨xss, b1, b2⟩ := x2 ph' r' H' h2 x
      exact ⟨ys :: xss, .cons a1 b1, .cons a2 b2⟩
theorem col_of {K : PySem.W.Frag} {B : List Addr} {H : Hp} {i : Nat} : ∀ {xss : List (List V)} {rows : List (List PyData)}, Paired (fun ys row => DrAll K B H ys row) xss rows → (∀ r ∈ rows, i < r.length) → ∃ xv, Paired (fun (ys : List V) x => ys[i]? = some x) xss xv ∧ DrAll K B H xv (rows.map fun r => r.getD i .none)
  | [], _, .nil, _ => ⟨[], .nil, .nil⟩
  | ys :: _, row :: _, .cons p t, h => by
    obtain ⟨xv, a, b⟩ := col_of t fun r hr => h r (List.mem_cons_of_mem _ hr)
    have hi := h row List.mem_cons_self
    have e : row[i]? = some (row.getD i .none) := by
      rw [List.getD_eq_getElem?_getD, List.getElem?_eq_getElem hi]
      rfl
    obtain ⟨x, hx, dx⟩ := p.get e
    exact ⟨x :: xv, .cons hx a, .cons dx b⟩
theorem at_inj {i : Nat} : ∀ {xss : List (List V)} {a b : List V}, Paired (fun (ys : List V) x => ys[i]? = some x) xss a → Paired (fun (ys : List V) x => ys[i]? = some x) xss b → a = b
  | [], _, _, .nil, .nil => rfl
  | _ :: _, _, _, .cons p t, .cons q u => by
    have e : some _ = some _ := p.symm.trans q
    cases e
    rw [at_inj t u]
theorem rows_len {K : PySem.W.Frag} {B : List Addr} {H : Hp} : ∀ {xss : List (List V)} {rows : List (List PyData)}, Paired (fun ys row => DrAll K B H ys row) xss rows → ∀ r ∈ rows, ∃ ys ∈ xss, ys.length = r.length
  | [], _, .nil, _, h => by simp at h
  | ys :: _, row :: _, .cons p t, r, h => by
    rcases List.mem_cons.mp h with rfl | h
    · exact ⟨ys, List.mem_cons_self, p.length⟩
    · obtain ⟨zs, hz, e⟩ := rows_len t r h
      exact ⟨zs, List.mem_cons_of_mem _ hz, e⟩
theorem goes_N {K : PySem.W.Frag} {g : Cfg} {ph r : List Addr} {H : Hp} {ks : List Kd} {rows : List (List PyData)} (h0 : rows ≠ [])
    (h : ∀ ph' r' H', (∀ b, b ∈ ph' → b ∈ ph ∨ H b = none) → Ext r H r' H' → ∃ xss, Paired (fun (k : Kd) ys => k.sq K H' ys) ks xss ∧ Paired (fun ys row => DrAll K (ph' ++ r') H' ys row) xss rows) : PIt K g ph r H (colsM rows) (ItN K ks) := by
  intro ph' h1 h2 r' S' H' x so i
  obtain ⟨xss, hsq, hdr⟩ := h ph' r' H' h2 x
  refine ⟨fun m hm => ?_, fun hl => ?_⟩
  · unfold colsM at hm
    rw [List.getElem?_map] at hm
    obtain ⟨j, hj, rfl⟩ := Option.map_eq_some_iff.mp hm
    have hlt : i < minL rows := by
      have := (List.getElem?_eq_some_iff.mp hj).1
      simpa using this
    rw [List.getElem?_range hlt] at hj
    cases hj
    obtain ⟨xv, hx, dv⟩ := col_of hdr fun r hr => Nat.lt_of_lt_of_le hlt (minL_le hr)
    refine ⟨⟨xss, xv, hsq, hx⟩, fun y H2 hy => ?_⟩
    obtain ⟨T, xv2, o, rfl, hT, hd, rfl, k1⟩ := hy
    have e := at_inj (k1 xss hsq) hx
    subst e
    have ex : Ext r' H' r' (upd H' T (.frz o (.tup xv2))) := Ext.new hT
    exact ⟨ex, so.new hT, .tup (TupF.new hd) (so.fresh hT) (DrAll.mono ex dv)⟩
  · obtain ⟨row, hr, e⟩ := minL_eq h0
    obtain ⟨ys, hy, e2⟩ := rows_len hdr row hr
    refine ⟨xss, hsq, ys, hy, ?_⟩
    have : (colsM rows).length = minL rows := by simp [colsM]
    omega
def zipNO : M → Option (List M)
  | .d (.tuple ds) => (rowsD ds).bind fun rows => if rows ≠ [] ∧ rows.length ≤ 1000 then some (colsM rows) else none
  | .d (.list ds) => (rowsD ds).bind fun rows => if rows ≠ [] ∧ rows.length ≤ 1000 then some (colsM rows) else none
  | _ => none
def iZipS (f : Env1 → Sto → R M) : Env1 → Sto → R (List M) := fun e S => (f e S).bind fun m S1 => lift (zipNO m) S1
theorem mi_zipS {X : Cx} {g : Cfg} {W : WX} {a : Expr} {fa : Env1 → Sto → R M} {x : Str} {tp p sp pos : Pos} (hm : X.mg "zip" = none) (ha : ME X g W a fa) (hg : Gl X "zip" := by rfl) (hst : starEach [.Starred a sp] X.env = [(true, eval a X.env)] := by rfl) :
    MI X g W (.Name x tp) (.Call (.Name "zip" p) [.Starred a sp] [] pos) (iZipS fa) := by
  refine PI.of (pi_zipS hg hm ha hst) fun s H Q h => ?_
  obtain ⟨ph, r, S, e, so, ev, h⟩ := h
  refine ⟨ph, r, S, e, so, ev, ?_⟩
  unfold iZipS at h
  cases q : fa e S with
  | rz c y S1 => rw [q] at h; exact h
  | bad => rw [q] at h; exact h
  | ok m S1 =>
    rw [q] at h
    intro r1 H1 v x1 so1 m1
    replace h : Post PIt X.K g (fun c d H' => W c d s H') ph r H (lift (zipNO m) S1) Q := h
    have fin : ∀ (xs : List V) (a : Addr) (ds : List PyData) (rows : List (List PyData)), v = .ref a → (SqT X.K H1 a xs ∨ SqL X.K H1 a xs) → DrAll X.K (ph ++ r1) H1 xs ds → rowsD ds = some rows → rows ≠ [] → rows.length ≤ 1000 → Post PIt X.K g (fun c d H' => W c d s H') ph r H (.ok (colsM rows) S1) Q →
        ∃ (a : Addr) (xs : List V) (ks : List Kd), v = .ref a ∧ (SqT X.K H1 a xs ∨ SqL X.K H1 a xs) ∧ ks ≠ [] ∧ ks.length ≤ 1000 ∧ Paired (fun (x : V) (k : Kd) => (∀ u, RelV x u → u = k.u) ∧ ∃ ys, k.sq X.K H1 ys) xs ks ∧ Q (ItN X.K ks) H1 := fun xs a ds rows ev' hs ht qr h0 hl h => by
      obtain ⟨ks, e1, l1, x2⟩ := rows_ext ht qr
      obtain ⟨xss, sq1, _⟩ := x2 ph r1 H1 (fun b hb => .inl hb) (.refl _ _)
      have both : ∀ {xs : List V} {ks : List Kd} {xss : List (List V)}, Paired (fun (x : V) (k : Kd) => ∀ u, RelV x u → u = k.u) xs ks → Paired (fun (k : Kd) ys => k.sq X.K H1 ys) ks xss → Paired (fun (x : V) (k : Kd) => (∀ u, RelV x u → u = k.u) ∧ ∃ ys, k.sq X.K H1 ys) xs ks := fun {xs ks xss} p => by
        induction p generalizing xss with
        | nil => intro _; exact .nil
        | cons a t ih => intro q; cases q with | cons b u => exact .cons ⟨a, _, b⟩ (ih u)
      exact ⟨a, xs, ks, ev', hs, fun z => h0 (by rw [z] at l1; exact List.length_eq_zero_iff.mp l1.symm), by rw [l1]; exact hl, both e1 sq1, h r1 H1 _ x1 so1 (goes_N h0 x2)⟩
    unfold zipNO at h
    split at h
    · rename_i ds
      cases qr : rowsD ds with
      | none => rw [qr] at h; exact h.elim
      | some rows =>
        rw [qr] at h
        replace h : Post PIt X.K g (fun c d H' => W c d s H') ph r H (lift (if rows ≠ [] ∧ rows.length ≤ 1000 then some (colsM rows) else none) S1) Q := h
        split at h
        · rename_i hc
          have e : ∃ b, v = .ref b := by cases m1 <;> exact ⟨_, rfl⟩
          obtain ⟨b, rfl⟩ := e
          obtain ⟨ys, s1, t1⟩ := Dr.toT m1
          exact fin ys b ds rows rfl (.inl s1) t1 qr hc.1 hc.2 h
        · exact h.elim
    · rename_i ds
      cases qr : rowsD ds with
      | none => rw [qr] at h; exact h.elim
      | some rows =>
        rw [qr] at h
        replace h : Post PIt X.K g (fun c d H' => W c d s H') ph r H (lift (if rows ≠ [] ∧ rows.length ≤ 1000 then some (colsM rows) else none) S1) Q := h
        split at h
        · rename_i hc
          cases m1 with
          | lst ea na ta => exact fin _ _ ds rows rfl (.inr (.inl (.inl ea))) ta qr hc.1 hc.2 h
        · exact h.elim
    · exact h.elim
end Mr

end
section
set_option maxRecDepth 100000
set_option maxHeartbeats 2000000
set_option autoImplicit false
namespace Mr
open PySem PySem.Spec L2 MrT
open PyProof.Rows hiding St
/-! ### xs[::-1], xs a tuple -/
section
variable {prog : Program} {w : World} {A : Around} {E : Value → Shared → Prop} {s : Shared}
theorem sliceApplied_rev {sl : Addr} {vl vu vs : Value} {n : Nat} {Q : Int × Int × Nat → Shared → Prop} (hs : s.heap.IsSliceOf sl vl vu vs) (pl : IsPart vl none) (pu : IsPart vu none) (ps : IsPart vs (some (-1)))
    (h : Q ((n : Int) - 1, -1, n) s) : wpAny (model prog w) A (Builtin.Slice.sliceApplied (.ref sl) (pure (n : Int))) Q E s := by
  obtain ⟨os, hos, hcs, hds⟩ := id hs
  unfold Builtin.Slice.sliceApplied Builtin.Slice.sliceFields
  refine wpAny_bind (wpAny_bind (wpAny_field hos hds (x := vl) rfl (wpAny_bind (wpAny_field hos hds (x := vu) rfl (wpAny_bind (wpAny_field hos hds (x := vs) rfl (wpAny_pure ?_)))))))
  refine wpAny_bind (HT.slicePart_ ps ?_)
  show wpAny _ _ (if ((-1 : Int) == 0) = true then _ else _) _ _ s
  rw [if_neg (by decide)]
  refine wpAny_bind (HT.slicePart_ pl (wpAny_bind (HT.slicePart_ pu (wpAny_bind (wpAny_pure ?_)))))
  show wpAny _ _ (pure ((Builtin.Slice.sliceAdjust none none (-1) (n : Int)).1, (-1 : Int), Builtin.Slice.slicePlaces (Builtin.Slice.sliceAdjust none none (-1) (n : Int)).1 (Builtin.Slice.sliceAdjust none none (-1) (n : Int)).2 (-1))) _ _ s
  have e1 : Builtin.Slice.sliceAdjust none none (-1) (n : Int) = ((n : Int) - 1, -1) := by
    unfold Builtin.Slice.sliceAdjust
    simp
  have e2 : Builtin.Slice.slicePlaces ((n : Int) - 1) (-1) (-1) = n := by
    unfold Builtin.Slice.slicePlaces
    simp
    omega
  rw [e1, e2]
  exact wpAny_pure h
theorem fm_congr {α β : Type} {f g : α → Option β} : ∀ {l : List α}, (∀ a ∈ l, f a = g a) → l.filterMap f = l.filterMap g
  | [], _ => rfl
  | a :: l, h => by
    rw [List.filterMap_cons, List.filterMap_cons, h a List.mem_cons_self, fm_congr fun b hb => h b (List.mem_cons_of_mem _ hb)]
theorem fm_all : ∀ ys : List Value, (List.range ys.length).filterMap (fun k => ys[k]?) = ys
  | [] => rfl
  | a :: l => by
    rw [List.length_cons, List.range_succ_eq_map, List.filterMap_cons]
    show a :: _ = _
    rw [List.filterMap_map]
    have := fm_all l
    exact congrArg (a :: ·) this
theorem pick_rev (xs : List Value) : (List.range xs.length).filterMap (fun (k : Nat) => xs.toArray[(((xs.length : Nat) : Int) - 1 + (k : Int) * (-1)).toNat]?) = xs.reverse := by
  have e : ∀ k ∈ List.range xs.length, xs.toArray[(((xs.length : Nat) : Int) - 1 + (k : Int) * (-1)).toNat]? = xs.reverse[k]? := fun k hk => by
    have hk := List.mem_range.mp hk
    have e2 : (((xs.length : Nat) : Int) - 1 + (k : Int) * (-1)).toNat = xs.length - 1 - k := by omega
    rw [e2, List.getElem?_toArray, List.getElem?_reverse hk]
  rw [fm_congr e]
  have := fm_all xs.reverse
  rw [List.length_reverse] at this
  exact this
theorem getItem_tuple_rev {t sl : Addr} {its : List Value} {vl vu vs : Value} {Q : Value → Shared → Prop} (ht : IsTup s.heap t its.toArray) (hs : s.heap.IsSliceOf sl vl vu vs) (pl : IsPart vl none) (pu : IsPart vu none) (ps : IsPart vs (some (-1)))
    (h : Q (.ref s.heap.objs.size) { s with heap := s.heap.push { cls := .type "tuple", data := .seq its.reverse.toArray } })
    (hsz : its.length ≤ sizeLine) : wpAny (model prog w) A (getItem (.ref t) (.ref sl)) Q E s := by
  have htake : sizeOk (.seq its.reverse.toArray) := by
    show its.reverse.toArray.size ≤ sizeLine
    rw [List.size_toArray, List.length_reverse]
    exact hsz
  obtain ⟨os, hos, hcs, hds⟩ := id hs
  have hTs : s.TypeIs (.ref sl) "slice" := ⟨os, hos, hcs⟩
  unfold getItem
  try with_reducible refine wpAny_holding ?_
  first | refine wpAny_bind (wpAny_pure ?_) | skip
  refine wpAny_bind (wpAny_sequenceKey ht.typeIs (by decide) ?_)
  refine wpAny_bind (wpAny_callSpecial?_slot (name := Str.ofString "__getitem__") ht.typeIs PyProof.Rows.slot_tuple_getitem
    (wpAny_call_entry PyProof.Rows.slot_tuple_getitem ht.typeIs entry_tuple_getitem ?_ (args_tuple_getitem _ _)))
  show wpAny _ _ (Builtin.Tuple.tupleItemsOf (.ref t) >>= _) _ _ s
  refine wpAny_bind (tupleItemsOf_ ht ?_)
  refine wpAny_bind (wpAny_typeOf hTs ?_)
  rw [if_pos (by decide)]
  rw [List.size_toArray]
  refine wpAny_bind (sliceApplied_rev hs pl pu ps ?_)
  have hno : ¬ (((((its.length : Nat) : Int) - 1) == 0 && (-1 : Int) == 1 && its.length == its.length) = true) := by
    intro q
    simp at q
  show wpAny _ _ (if ((((its.length : Nat) : Int) - 1) == 0 && (-1 : Int) == 1 && its.length == its.length) = true then _ else _) _ _ s
  rw [if_neg hno, pick_rev]
  first
    | exact wpAny_bind (m := Builtin.Tuple.tupleExact _) (wpAny_newObj_type (wpAny_pure ⟨_, rfl, wpAny_pure h⟩) htake)
    | exact wpAny_bind (m := Builtin.Tuple.tupleExact _) (wpAny_newObj_type (wpAny_bind (wpAny_pure (wpAny_pure ⟨_, rfl, wpAny_pure h⟩))) htake)
    | exact wpAny_bind (wpAny_bind (m := Builtin.Tuple.tupleExact _) (wpAny_newObj_type (wpAny_pure (wpAny_pure ⟨_, rfl, wpAny_pure h⟩)) htake))
    | exact wpAny_bind (wpAny_bind (m := Builtin.Tuple.tupleExact _) (wpAny_newObj_type (wpAny_pure ⟨_, rfl, wpAny_pure h⟩) htake))
end
section
variable {X : Cx} {g : Cfg} {W : WX} {a : Expr} {fa : Env1 → Sto → R M} {pos : Pos}
def tRevT (K : PySem.W.Frag) (te : TE) : TE := fun σ H Q => te σ H fun x H1 => ∃ a xs, x = .ref a ∧ SqT K H1 a xs ∧ NewT Q H1 xs.reverse
theorem pe_revT {e : Expr} {te : TE} {k : Nat} {p1 p2 p3 pos : Pos} (he : PE X e te) : PE X (.Subscript e (.Slice none none (some (.UnaryOp .USub (.Constant (.int 1) k p1) p2)) p3) pos) (tRevT X.K te) := by
  refine ⟨fun pins s σ H Q I h => ?_⟩
  refine Subscript_ (thn (he.run pins s σ H _ I h) fun v s1 ⟨x, H1, I1, r1, q1⟩ => ?_)
  obtain ⟨a, xs, ex, hx, q⟩ := q1
  subst ex
  cases r1
  have hst : PO X (some (.UnaryOp .USub (.Constant (.int 1) k p1) p2)) (tPart (tUn (rU fun i => .int (-i)) (tC (.int 1)))) := po_some (pe_un un_neg pe_int)
  refine wpAny_Slice (thn (po_none.run pins s1 σ H1 (fun o H2 => o = none ∧ H2 = H1) I1 ⟨rfl, rfl⟩) fun vl s2 ⟨l, H2, I2, pl, el, e2⟩ => ?_)
  subst el e2
  refine thn (po_none.run pins s2 σ H2 (fun o H3 => o = none ∧ H3 = H2) I2 ⟨rfl, rfl⟩) fun vu s3 ⟨u, H3, I3, pu, eu, e3⟩ => ?_
  subst eu e3
  refine thn (hst.run pins s3 σ H3 (fun o H4 => o = some (-1) ∧ H4 = H3) I3 ⟨1, rfl, -1, rfl, rfl, rfl⟩) fun vs s4 ⟨o, H4, I4, ps, eo, e4⟩ => ?_
  subst eo e4
  have I5 : Inv X pins σ H4 { s4 with heap := s4.heap.push { cls := .type "slice", data := .fields #[vl, vu, vs] } } := I4.kept (t' := s4.toks) fun b ob q => Heap.get?_push_of_some _ q
  obtain ⟨its, r, ht, hz⟩ := I5.tuple hx
  show wpAny (model X.prog X.w) X.A (subscriptTail e (.Slice none none (some (.UnaryOp .USub (.Constant (.int 1) k p1) p2)) p3) (.ref a) (.ref s4.heap.objs.size)) (EP X pins σ Q) X.xe { s4 with heap := s4.heap.push { cls := .type "slice", data := .fields #[vl, vu, vs] } }
  refine tail_any (ops := [.ref a, .ref s4.heap.objs.size]) ht.typeIs (PyProof.Rows.slot_tuple_getitem.lookup) ?_ (by with_unfolding_all rfl)
  refine getItem_tuple_rev ht (Heap.IsSliceOf.new _ vl vu vs) pl pu ps ?_ (by rw [← r.length]; exact hz)
  exact laid_tup (t := s4.toks) I5 (fun _ _ e => e) r.reverse (by rw [List.length_reverse]; exact hz) q (Nat.le_refl _)
/-- xs[::-1] of a list or a tuple that is data -/
def opRevU : M → Sto → Option M
  | .d (.list xs), _ => some (.d (.list xs.reverse))
  | .d (.tuple xs), _ => some (.d (.tuple xs.reverse))
  | _, _ => none
theorem me_revU {k : Nat} {p1 p2 p3 : Pos} (he : ME X g W a fa) : ME X g W (.Subscript a (.Slice none none (some (.UnaryOp .USub (.Constant (.int 1) k p1) p2)) p3) pos) (e1 opRevU fa) := by
  refine ⟨fun pins sh s H Q I h => ?_⟩
  obtain ⟨ph, r, S, e, so, ev, h⟩ := h
  unfold e1 at h
  have other : (∀ m S1, fa e S = .ok m S1 → False) → wpAny (model X.prog X.w) X.A (eval (.Subscript a (.Slice none none (some (.UnaryOp .USub (.Constant (.int 1) k p1) p2)) p3) pos) X.env) (EP X pins s Q) X.xe sh := fun no => by
    refine (pe_revL he).run pins sh s H Q I ?_
    refine ⟨ph, r, S, e, so, ev, ?_⟩
    cases q : fa e S with
    | ok m S1 => exact (no m S1 q).elim
    | rz c y S1 => rw [q] at h; exact h
    | bad => rw [q] at h; exact h
  cases q : fa e S with
  | rz c y S1 => exact other fun m S1 z => by rw [q] at z; cases z
  | bad => exact other fun m S1 z => by rw [q] at z; cases z
  | ok m S1 =>
    rw [q] at h
    cases m with
    | d x =>
      cases x with
      | list xs =>
        refine (pe_revL he).run pins sh s H Q I ⟨ph, r, S, e, so, ev, ?_⟩
        rw [q]
        intro r1 H1 v x1 so1 m1
        cases m1 with
        | lst e1 n1 t1 => exact ⟨_, _, rfl, .inl (.inl e1), new_dr so1 (fun r' H' v x' so' m' => h r' H' v (x1.trans x') so' m') fun p hp n => dr_lst hp n t1.rev⟩
      | tuple xs =>
        refine (pe_revT he).run pins sh s H Q I ⟨ph, r, S, e, so, ev, ?_⟩
        rw [q]
        intro r1 H1 v x1 so1 m1
        have r2 : ∃ b, v = .ref b := by cases m1 <;> exact ⟨_, rfl⟩
        obtain ⟨b, rfl⟩ := r2
        obtain ⟨ys, s1, t1⟩ := Dr.toT m1
        exact ⟨_, _, rfl, s1, new_tup so1 (fun r' H' v x' so' m' => h r' H' v (x1.trans x') so' m') t1.rev⟩
      | _ => exact h.elim
    | _ => exact h.elim
end
end Mr

end
section
set_option maxRecDepth 100000
set_option maxHeartbeats 4000000
set_option autoImplicit false
namespace Mr
open PySem PySem.Spec L2 MrT
open PyProof.Rows hiding St
/-! ### a tuple times any number -/
theorem tup_mul_same (l : Addr) (items : Array Value) (n : Nat) (dd : Option Addr) (sl : Array (Option Value)) (x : Int) (u : Tok) (c0 : (decide (x < -(2 ^ 63)) || decide (x ≥ 2 ^ 63)) = false) (c1 : (items.isEmpty || x == 1) = true) :
    Meets (Builtin.«tuple.__mul__» ⟨[.ref l, .int x u], []⟩) (fun _ R s => s.heap.get? l = some { cls := .type "tuple", dict := dd, data := .seq items n, slots := sl } ∧ R (.ok (.ret (Value.ref l))) s) :=
  .of_wp fun prog w A R s h => by
    obtain ⟨hp, g, d, tk, os⟩ := s
    obtain ⟨hl, h⟩ := h
    have f1 := AutoSeq1.idx_int
    wp_walk using wpAny_loadPart' hl
    repeat (first
      | (refine wpAny_ite_false (decide_eq_false (by rw [c0]; exact Bool.false_ne_true)) ?_; wp_walk using wpAny_loadPart' hl)
      | (refine wpAny_ite_true (decide_eq_true (by rw [c1])) ?_; wp_walk using wpAny_loadPart' hl))
    exact ⟨_, rfl, h⟩
theorem tup_mul_none (l : Addr) (items : Array Value) (n : Nat) (dd : Option Addr) (sl : Array (Option Value)) (x : Int) (u : Tok) (c0 : (decide (x < -(2 ^ 63)) || decide (x ≥ 2 ^ 63)) = false) (c1 : (items.isEmpty || x == 1) = false) (c2 : (decide (x ≤ 0) || items.isEmpty) = true) :
    Meets (Builtin.«tuple.__mul__» ⟨[.ref l, .int x u], []⟩) (fun _ R s => s.heap.get? l = some { cls := .type "tuple", dict := dd, data := .seq items n, slots := sl } ∧
      R (.ok (.ret (Value.ref s.heap.objs.size))) { s with heap := s.heap.push { cls := Value.type "tuple", data := Data.seq #[] }, toks := s.toks }) :=
  .of_wp fun prog w A R s h => by
    obtain ⟨hp, g, d, tk, os⟩ := s
    obtain ⟨hl, h⟩ := h
    have f1 := AutoSeq1.idx_int
    wp_walk using wpAny_loadPart' hl
    repeat (first
      | (refine wpAny_ite_false (decide_eq_false (by rw [c0]; exact Bool.false_ne_true)) ?_; wp_walk using wpAny_loadPart' hl)
      | (refine wpAny_ite_false (decide_eq_false (by rw [c1]; exact Bool.false_ne_true)) ?_; wp_walk using wpAny_loadPart' hl)
      | (refine wpAny_ite_true (decide_eq_true (by rw [c2])) ?_; wp_walk using wpAny_loadPart' hl))
    exact ⟨_, rfl, h⟩
def rRep1 (K : PySem.W.Frag) : R2 := fun x y H Q => ∃ l k xs, x = .ref l ∧ y = .int k ∧ SqT K H l xs ∧ -1000 ≤ k ∧ k ≤ 1 ∧ ((k = 1 ∨ xs = []) → Q (.ref l) H) ∧ (¬ (k = 1 ∨ xs = []) → NewT Q H [])
theorem op_rep1 {X : Cx} : OpR X (binaryOp .Mult) (rRep1 X.K) := by
  intro pins s σ H x y v u Q I rx ry h
  obtain ⟨l, k, xs, rfl, rfl, hT, h1, h2, q1, q2⟩ := h
  cases rx
  obtain ⟨t, rfl⟩ := ry
  obtain ⟨its, r, ⟨⟨cls, dd, data, sl⟩, ho, hc, n, hd⟩, hs⟩ := I.tuple hT
  simp only at hc hd
  subst hc hd
  have hle : its.length = xs.length := r.length.symm
  have ie : its.toArray.isEmpty = true ↔ xs = [] := by
    cases its with
    | nil =>
      have : xs = [] := List.eq_nil_of_length_eq_zero hle.symm
      simp [this]
    | cons a b =>
      have : xs ≠ [] := fun e => by rw [e] at hle; simp at hle
      simp [this]
  have c0 : (decide (k < -(2 ^ 63)) || decide (k ≥ 2 ^ 63)) = false := by
    rw [decide_eq_false (by omega), decide_eq_false (by omega)] <;> rfl
  have go : ∀ (V : Value) (h' : Heap), Meets (Builtin.«tuple.__mul__» ⟨[.ref l, .int k t], []⟩) (fun _ R s => s.heap.get? l = some { cls := .type "tuple", dict := dd, data := .seq its.toArray n, slots := sl } ∧ R (.ok (.ret V)) { s with heap := h', toks := s.toks }) → True := fun _ _ _ => trivial
  by_cases hk : k = 1 ∨ xs = []
  · have c1 : (its.toArray.isEmpty || k == 1) = true := by
      rcases hk with rfl | e
      · simp
      · rw [ie.mpr e]; rfl
    refine wpAny_binaryOp_repeat_ref (T := "tuple") (U := "int") (by decide) ⟨_, ho, rfl⟩ (fun s' => typeIs_int s' k t) noFill_tuple_mul F.fills_int_mul F.slot_int_rmul repeat_tuple F.slot_int_index.lookup
      (call_meets F.slot_int_rmul (typeIs_int s k t) F.entry_int_rmul (F.args_int_rmul_2 _ _) (int_rmul_tuple k t l its.toArray n dd sl)
        ⟨ho, rfl, ⟨_, ho, rfl⟩, call_meets F.slot_tuple_mul ⟨_, ho, rfl⟩ F.entry_tuple_mul (F.args_tuple_mul_2 _ _) (tup_mul_same l its.toArray n dd sl k t c0 c1) ⟨ho, ?_⟩⟩)
    exact ⟨.ref l, H, I, rfl, q1 hk⟩
  · have c1 : (its.toArray.isEmpty || k == 1) = false := by
      have a1 : its.toArray.isEmpty = false := by
        cases e : its.toArray.isEmpty with
        | false => rfl
        | true => exact absurd (.inr (ie.mp e)) hk
      rw [a1, Bool.false_or]
      exact beq_eq_false_iff_ne.mpr fun z => hk (.inl z)
    have c2 : (decide (k ≤ 0) || its.toArray.isEmpty) = true := by
      rw [decide_eq_true (show k ≤ 0 from by
        have : k ≠ 1 := fun z => hk (.inl z)
        omega)]
      rfl
    refine wpAny_binaryOp_repeat_ref (T := "tuple") (U := "int") (by decide) ⟨_, ho, rfl⟩ (fun s' => typeIs_int s' k t) noFill_tuple_mul F.fills_int_mul F.slot_int_rmul repeat_tuple F.slot_int_index.lookup
      (call_meets F.slot_int_rmul (typeIs_int s k t) F.entry_int_rmul (F.args_int_rmul_2 _ _) (int_rmul_tuple k t l its.toArray n dd sl)
        ⟨ho, rfl, ⟨_, ho, rfl⟩, call_meets F.slot_tuple_mul ⟨_, ho, rfl⟩ F.entry_tuple_mul (F.args_tuple_mul_2 _ _) (tup_mul_none l its.toArray n dd sl k t c0 c1 c2) ⟨ho, ?_⟩⟩)
    exact laid_tup (its := []) (t := s.toks) I (fun _ _ e => e) .nil (Nat.zero_le _) (q2 hk) (Nat.le_refl _)
def opMulT : M → M → Sto → Option M := fun x y S => match x, y with
  | .d (.tuple a), .d (.int k) => if k ≤ 1 then (if -1000 ≤ k then some (.d (.tuple (if k = 1 ∨ a = [] then a else []))) else none) else opMulS x y S
  | _, _ => opMulS x y S
def rrMulT (K : PySem.W.Frag) : R2 := fun x y H Q => rRep1 K x y H Q ∨ rrMulS K x y H Q
theorem o_mulT {X : Cx} : OpR X (binaryOp .Mult) (rrMulT X.K) := op_rep1.or o_mulS
theorem s_mulT {K : PySem.W.Frag} {g : Cfg} : Snd2 K g (rrMulT K) opMulT := by
  intro ph r S H m1 m2 m v1 v2 Q so a1 a2 h k
  unfold opMulT at h
  split at h
  · rename_i ds kk
    split at h
    · rename_i hk
      split at h
      · rename_i hlo
        cases h
        have r1 : ∃ a, v1 = .ref a := by cases a1 <;> exact ⟨_, rfl⟩
        obtain ⟨a, rfl⟩ := r1
        obtain ⟨xs, h1, t1⟩ := Dr.toT a1
        cases a2
        have ne : xs = [] ↔ ds = [] := by cases t1 <;> simp
        refine .inl ⟨_, _, _, rfl, rfl, h1, hlo, hk, fun z => ?_, fun z => ?_⟩
        · have e : (if kk = 1 ∨ ds = [] then ds else []) = ds := if_pos (z.imp id ne.mp)
          rw [e] at k
          exact k r H _ (.refl _ _) so a1
        · have e : (if kk = 1 ∨ ds = [] then ds else []) = [] := if_neg fun w => z (w.imp id ne.mpr)
          rw [e] at k
          exact new_tup so k .nil
      · cases h
    · exact .inr (s_mulS ph r S H _ _ m v1 v2 Q so a1 a2 h k)
  · exact .inr (s_mulS ph r S H _ _ m v1 v2 Q so a1 a2 h k)
end Mr

end
section
set_option maxRecDepth 100000
set_option maxHeartbeats 4000000
set_option autoImplicit false
namespace Mr
open PySem PySem.Spec L2 MrT
open PyProof.Rows hiding St
/-! ### numbers of many digits, times each other -/
def opMulW : M → M → Sto → Option M := fun x y S => match x, y with
  | .d (.int i), .d (.int j) => if i.natAbs.log2 + j.natAbs.log2 < 1000000 then some (.d (.int (i * j))) else opMulS (.d (.int i)) (.d (.int j)) S
  | _, _ => opMulT x y S
def rrMulW (K : PySem.W.Frag) : R2 := fun x y H Q => rI CMulW (fun i j => .int (i * j)) x y H Q ∨ rrMulT K x y H Q
theorem o_mulW {X : Cx} : OpR X (binaryOp .Mult) (rrMulW X.K) := op_mulW.or o_mulT
theorem s_mulW {K : PySem.W.Frag} {g : Cfg} : Snd2 K g (rrMulW K) opMulW := by
  intro ph r S H m1 m2 m v1 v2 Q so a1 a2 h k
  unfold opMulW at h
  split at h
  · rename_i i j
    split at h
    · rename_i hc
      cases h
      cases a1
      cases a2
      exact .inl ⟨_, _, rfl, rfl, hc, k r H _ (.refl _ _) so (.int _)⟩
    · exact .inr (.inr (s_mulS ph r S H _ _ m v1 v2 Q so a1 a2 h k))
  · exact .inr (s_mulT ph r S H _ _ m v1 v2 Q so a1 a2 h k)
end Mr

end
section
set_option maxRecDepth 100000
set_option maxHeartbeats 4000000
set_option autoImplicit false
namespace Mr
open PySem PySem.Spec L2 MrT
open PyProof.Rows hiding St
/-! ### walking what may change: a reader tells the item at i as the store stands (none: bad; some none: the end) -/
abbrev Rd := Nat → Sto → Option (Option M)
def forR (ft : M → Env1 → Option Env1) (fb : Env1 → Sto → Out) (rd : Rd) : Nat → Nat → Env1 → Sto → Out
  | 0, _, _, _ => .bad
  | n + 1, i, e, S => match rd i S with
    | none => .bad
    | some none => .nx e S
    | some (some x) => match ft x e with
      | none => .bad
      | some e1 => match fb e1 S with
        | .nx e2 S2 => forR ft fb rd n (i + 1) e2 S2
        | .ct e2 S2 => forR ft fb rd n (i + 1) e2 S2
        | .bk e2 S2 => .nx e2 S2
        | o => o
def sForR (fi : Env1 → Sto → R Rd) (ft : M → Env1 → Option Env1) (fb : Env1 → Sto → Out) : Env1 → Sto → Out := fun e S => (fi e S).toS e fun rd S1 => forR ft fb rd 1000000 0 e S1
def lcR (ft : M → Env1 → Option Env1) (tt : Env1 → Sto → R Bool) (fe : Env1 → Sto → R M) (rd : Rd) : Nat → Nat → Env1 → Sto → List PyData → R M
  | 0, _, _, _, _ => .bad
  | n + 1, i, e, S, acc => match rd i S with
    | none => .bad
    | some none => .ok (.d (.list acc)) S
    | some (some x) => match ft x e with
      | none => .bad
      | some e1 => (tt e1 S).nox.bind fun b S1 => if b then (fe e1 S1).nox.bind (fun m S2 => match m with
        | .d y => if acc.length < sizeLine then lcR ft tt fe rd n (i + 1) e S2 (acc ++ [y]) else .bad
        | _ => .bad) else lcR ft tt fe rd n (i + 1) e S1 acc
def eLcR (vs : List Nat) (fi : Env1 → Sto → R Rd) (ft : M → Env1 → Option Env1) (tt : Env1 → Sto → R Bool) (fe : Env1 → Sto → R M) : Env1 → Sto → R M := fun e S => (fi e S).bind fun rd S1 => lcR ft tt fe rd 1000000 0 (wipeE e vs) S1 []
def GoR (K : PySem.W.Frag) (g : Cfg) (ph r' : List Addr) (H' : Hp) (S' : Sto) (J : It) (i : Nat) : Option (Option M) → Prop
  | none => True
  | some none => J.stop i H'
  | some (some m) => J.go i H' ∧ ∀ x H'', J.yld i H' x H'' → Ext r' H' r' H'' ∧ So K g ph r' S' H'' ∧ Mv K g ph r' H'' m x
def GoesR (K : PySem.W.Frag) (g : Cfg) (ph r : List Addr) (H : Hp) (rd : Rd) (J : It) : Prop := ∀ r' S' H', Ext r H r' H' → So K g ph r' S' H' → ∀ i, GoR K g ph r' H' S' J i (rd i S')
abbrev PItR : Rel Rd It := fun K g ph r H rd J => ∀ ph' : List Addr, (∀ a, a ∈ ph → a ∈ ph') → (∀ a, a ∈ ph' → a ∈ ph ∨ H a = none) → GoesR K g ph' r H rd J
abbrev tMIR (K : PySem.W.Frag) (g : Cfg) (W : WX) (f : Env1 → Sto → R Rd) : TI := fun s H Q => tG PItR K g W f s H Q
abbrev MIR (X : Cx) (g : Cfg) (W : WX) (tg it : Expr) (f : Env1 → Sto → R Rd) : Prop := PI X tg it (tMIR X.K g W f)
section
variable {X : Cx} {g : Cfg} {W : WX} {pos : Pos} {vs : List Nat}
theorem ms_forR {tg it : Expr} {body : List Stmt} {fi : Env1 → Sto → R Rd} {ft : M → Env1 → Option Env1} {fbody : Env1 → Sto → Out} (hp : PassesOwn (model X.prog X.w) X.A X.env X.xe) (hc : X.calm = true) (hi : MIR X g W tg it fi) (hg : MG X g vs tg ft) (hb : MSs X g W body fbody)
    (hs : ∀ x, foldedSetIterable it X.env x = pure x := by intro _; rfl) : MS X g W (.For tg it body [] pos) (sForR fi ft fbody) := by
  refine PS.of (ps_for hp hc hi hg hb hs) fun D s H h => ?_
  obtain ⟨ph, r, S, e, so, ev, h⟩ := h
  refine tG.bindS so ev h fun rd J S1 r1 H1 x1 so1 ev1 m1 h1 => ?_
  have G := m1 ph (fun _ z => z) (fun _ z => .inl z)
  refine ⟨fun i m s' H' => ∃ r' S' e', Ext r1 H1 r' H' ∧ So X.K g ph r' S' H' ∧ Ev X.K g ph r' H' e' s' ∧ PostS X.K g W ph r' s' H' (forR ft fbody rd m i e' S') D, ⟨1000000, r1, S1, e, .refl _ _, so1, ev1, h1⟩, ?_⟩
  rintro i m s' H' ⟨r', S', e', x', so', ev', h'⟩
  have Gi := G r' S' H' x' so' i
  cases m with
  | zero => exact h'.elim
  | succ m =>
    unfold forR at h'
    cases q : rd i S' with
    | none => rw [q] at h'; exact h'.elim
    | some o =>
      rw [q] at h' Gi
      cases o with
      | none => exact .inl ⟨Gi, h' r' H' s' (.refl _ _) so' ev'⟩
      | some item =>
        obtain ⟨g1, g2⟩ := Gi
        refine .inr ⟨g1, fun s2 H2 => ∃ r2 S2 e2, Ext r1 H1 r2 H2 ∧ So X.K g ph r2 S2 H2 ∧ Ev X.K g ph r2 H2 e2 s2 ∧ PostS X.K g W ph r2 s2 H2 (forR ft fbody rd m (i + 1) e2 S2) D, fun s2 H2 hN => ?_, fun x H2 hy => ?_⟩
        · obtain ⟨r2, S2, e2, y2, so2, ev2, h2⟩ := hN
          exact ⟨m, Nat.lt_succ_self _, r2, S2, e2, y2, so2, ev2, h2⟩
        · obtain ⟨y, so2, mv⟩ := g2 x H2 hy
          dsimp only at h'
          cases q : ft item e' with
          | none => rw [q] at h'; exact h'.elim
          | some e2 =>
            rw [q] at h'
            refine ⟨ph, r', S', e', item, e2, so2, ev'.mono y, mv, q, fun r3 H3 s3 y3 so3 ev3 _ => ?_⟩
            refine ⟨ph, r3, S', e2, so3, ev3, ?_⟩
            have x3 : Ext r1 H1 r3 H3 := x'.trans (y.trans y3)
            have h' := PostS.mono (s' := s3) (y.trans y3) h'
            dsimp only at h'
            cases q2 : fbody e2 S' with
            | nx e4 S4 => rw [q2] at h'; exact fun r5 H5 s5 y5 so5 ev5 => ⟨r5, S4, e4, x3.trans y5, so5, ev5, PostS.mono y5 h'⟩
            | ct e4 S4 => rw [q2] at h'; exact fun r5 H5 s5 y5 so5 ev5 => ⟨r5, S4, e4, x3.trans y5, so5, ev5, PostS.mono y5 h'⟩
            | bk e4 S4 => rw [q2] at h'; exact fun r5 H5 s5 y5 so5 ev5 => h' r5 H5 s5 y5 so5 ev5
            | rt m4 S4 => rw [q2] at h'; exact h'
            | rz c4 x4 e4 S4 => rw [q2] at h'; exact h'
            | bad => rw [q2] at h'; exact h'.elim
theorem tLcR_of {own : List Nat} {fi : Env1 → Sto → R Rd} {ft : M → Env1 → Option Env1} {ftt : Env1 → Sto → R Bool} {fe : Env1 → Sto → R M} {K : PySem.W.Frag} (s : L2.St) (H : Hp) (Q : VK) (h : tM K g W (eLcR own fi ft ftt fe) s H Q) :
    tLc (tMIR K g W fi) (tMG K g own ft) (tMT K g W0 ftt) (tM K g W0 fe) own s H Q := by
  obtain ⟨ph, r, S, e, so, ev, h⟩ := h
  refine tG.bind so ev h fun rd J S1 r1 H1 x1 so1 ev1 m1 h1 => ?_
  intro D hD
  have hm : ∀ a, a ∈ D :: ph → a ∈ ph ∨ H1 a = none := fun a ha => by
    rcases List.mem_cons.mp ha with z | z
    · rw [z]; exact .inr hD
    · exact .inl z
  have hl : ∀ a, a ∈ ph → a ∈ D :: ph := fun a ha => List.mem_cons_of_mem _ ha
  have G := m1 (D :: ph) hl hm
  have ev2 : Ev K g (D :: ph) r1 H1 (wipeE e own) (L2.wipe s own) := (ev1.more hm hl).wipe own
  refine ⟨fun i m H' => ∃ r' S' acc va, Ext r1 H1 r' H' ∧ So K g (D :: ph) r' S' H' ∧ H' D = some (.lst va) ∧ DrAll K ((D :: ph) ++ r') H' va acc ∧
    Post PV K g (fun c d H' => W c d s H') ph r1 H1 (lcR ft ftt fe rd m i (wipeE e own) S' acc) Q, ⟨1000000, r1, S1, [], [], Ext.new hD, so1.more hD, upd_same, .nil, h1⟩, ?_⟩
  rintro i m H' ⟨r', S', acc, va, x', so', eD, da, h'⟩
  have Gi := G r' S' H' x' so' i
  cases m with
  | zero => exact h'.elim
  | succ m =>
    unfold lcR at h'
    cases q0 : rd i S' with
    | none => rw [q0] at h'; exact h'.elim
    | some o =>
      rw [q0] at h' Gi
      cases o with
      | none =>
        dsimp only at h'
        refine .inl ⟨Gi, h' r' H' (.ref D) x' (so'.less hl) ?_⟩
        have hDn : D ∉ ph ++ r' := fun z => by
          rcases List.mem_append.mp z with z | z
          · obtain ⟨o, e, _⟩ := so1.there D z
            rw [hD] at e; cases e
          · exact so'.dis D List.mem_cons_self z
        refine .lst eD hDn (DrAll.less (fun a ha => ?_) da)
        rcases List.mem_append.mp ha with z | z
        · exact List.mem_append_left _ (hl a z)
        · exact List.mem_append_right _ z
      | some item =>
        obtain ⟨g1, g2⟩ := Gi
        refine .inr ⟨g1, fun H2 => ∃ r2 S2 acc2 va2, Ext r1 H1 r2 H2 ∧ So K g (D :: ph) r2 S2 H2 ∧ H2 D = some (.lst va2) ∧ DrAll K ((D :: ph) ++ r2) H2 va2 acc2 ∧
          Post PV K g (fun c d H' => W c d s H') ph r1 H1 (lcR ft ftt fe rd m (i + 1) (wipeE e own) S2 acc2) Q, fun H2 hN => ?_, fun x H2 hy => ?_⟩
        · obtain ⟨r2, S2, acc2, va2, y2, so2, e2, d2, h2⟩ := hN
          exact ⟨m, Nat.lt_succ_self _, r2, S2, acc2, va2, y2, so2, e2, d2, h2⟩
        · obtain ⟨y, so2, mv⟩ := g2 x H2 hy
          dsimp only at h'
          cases q : ft item (wipeE e own) with
          | none => rw [q] at h'; exact h'.elim
          | some e2 =>
            rw [q] at h'
            dsimp only at h'
            refine ⟨D :: ph, r', S', wipeE e own, item, e2, so2, ev2.mono (x'.trans y), mv, q, fun r3 H3 s3 y3 so3 ev3 off => ⟨?_, ?_⟩⟩
            · exact off.wipe.trans ((wipe_off s own).wipe)
            · have keepD : ∀ {r r' : List Addr} {H H' : Hp} {S : Sto} {va : List V}, So K g (D :: ph) r S H → Ext r H r' H' → H D = some (.lst va) → H' D = some (.lst va) := fun so x e => x.keep D _ e (so.dis D List.mem_cons_self) (fun _ z => by cases z)
              have e3 := keepD so2 y3 (keepD so' y eD)
              have d3 : DrAll K ((D :: ph) ++ r3) H3 va acc := DrAll.mono y3 (DrAll.mono y da)
              have x3 := x'.trans (y.trans y3)
              refine ⟨D :: ph, r3, S', e2, so3, ev3, ?_⟩
              cases q2 : ftt e2 S' with
              | ok b S4 =>
                rw [q2] at h'
                intro r4 H4 b' y4 so4 eb
                cases eb
                have e4 := keepD so3 y4 e3
                have d4 : DrAll K ((D :: ph) ++ r4) H4 va acc := DrAll.mono y4 d3
                cases b with
                | false => exact ⟨r4, S4, acc, va, x3.trans y4, so4, e4, d4, h'⟩
                | true =>
                  simp only [R.nox, R.bind, if_true] at h'
                  rw [if_pos rfl]
                  refine ⟨D :: ph, r4, S4, e2, so4, ev3.mono y4, ?_⟩
                  cases q5 : fe e2 S4 with
                  | ok m5 S5 =>
                    rw [q5] at h'
                    intro r5 H5 v5 y5 so5 m5'
                    have e5 := keepD so4 y5 e4
                    have d5 : DrAll K ((D :: ph) ++ r5) H5 va acc := DrAll.mono y5 d4
                    cases m5 with
                    | d y6 =>
                      dsimp only at h'
                      by_cases hz : acc.length < sizeLine
                      · rw [if_pos hz] at h'
                        have hin : D ∈ (D :: ph) ++ r5 := List.mem_append_left _ List.mem_cons_self
                        refine ⟨va, e5, by rw [d5.length]; exact hz, r5, S5, acc ++ [y6], va ++ [v5], (x3.trans (y4.trans y5)).over hD, so5.shut List.mem_cons_self e5 (fun _ z => by cases z) (fun _ z => by cases z), upd_same, ?_, h'⟩
                        exact (DrAll.shut hin d5).snoc (Dr.shut hin m5')
                      · rw [if_neg hz] at h'; exact h'.elim
                    | _ => exact h'.elim
                  | rz c x S => rw [q5] at h'; exact h'.elim
                  | bad => rw [q5] at h'; exact h'.elim
              | rz c x S => rw [q2] at h'; exact h'.elim
              | bad => rw [q2] at h'; exact h'.elim
variable {elt tg iter : Expr} {ifs : List Expr} {scope : Scope} {own : List (Str × Nat)} {fi : Env1 → Sto → R Rd} {ft : M → Env1 → Option Env1} {ftt : Env1 → Sto → R Bool} {fe : Env1 → Sto → R M}
theorem me_lcR (hc : X.calm = true) (hN : X.N.Nodup) (hi : MIR X g W tg iter fi) (ok : BlkOk X.N X.env.scope scope own)
    (hg : ∀ (s : Shared) (H : Hp) (C : Addr) (cl : List (Str × Addr)) (fp : List Addr), MG (X.blk s H scope (compEnvC scope cl C X.env) fp) g (own.map (·.2)) tg ft) (ht : ∀ (s : Shared) (H : Hp) (C : Addr) (cl : List (Str × Addr)) (fp : List Addr), MTs (X.blk s H scope (compEnvC scope cl C X.env) fp) g W0 ifs ftt)
    (he : ∀ (s : Shared) (H : Hp) (C : Addr) (cl : List (Str × Addr)) (fp : List Addr), ME (X.blk s H scope (compEnvC scope cl C X.env) fp) g W0 elt fe) (hs : ∀ x, foldedSetIterable iter X.env x = pure x := by intro _; rfl) :
    ME X g W (.ListComp elt [⟨tg, iter, ifs, 0⟩] scope pos) (eLcR (own.map (·.2)) fi ft ftt fe) := PE.of (pe_lc hc hN hi ok hg ht he hs) tLcR_of
theorem ms_setLcR (i : Nat) {y : Str} {py spos : Pos} (hc : X.calm = true) (hN : X.N.Nodup) (hi : MIR X g W tg iter fi) (ok : BlkOk X.N X.env.scope scope own)
    (hg : ∀ (s : Shared) (H : Hp) (C : Addr) (cl : List (Str × Addr)) (fp : List Addr), MG (X.blk s H scope (compEnvC scope cl C X.env) fp) g (own.map (·.2)) tg ft) (ht : ∀ (s : Shared) (H : Hp) (C : Addr) (cl : List (Str × Addr)) (fp : List Addr), MTs (X.blk s H scope (compEnvC scope cl C X.env) fp) g W0 ifs ftt)
    (he : ∀ (s : Shared) (H : Hp) (C : Addr) (cl : List (Str × Addr)) (fp : List Addr), ME (X.blk s H scope (compEnvC scope cl C X.env) fp) g W0 elt fe)
    (hsw : swapsWith (.ListComp elt [⟨tg, iter, ifs, 0⟩] scope pos) (some (.Name y py)) spos.line X.env = pure true) (hy : X.N[i]? = some y := by rfl) (hyl : X.env.scope.names.lookup y = some .local := by rfl) (hs : ∀ x, foldedSetIterable iter X.env x = pure x := by intro _; rfl) :
    MS X g W (.Assign [.Name y py] (.ListComp elt [⟨tg, iter, ifs, 0⟩] scope pos) spos) (sSet i (eLcR (own.map (·.2)) fi ft ftt fe)) := by
  refine PS.of (ps_setLc (g := tMG X.K g (own.map (·.2)) ft) (tt := tMT X.K g W0 ftt) (te := tM X.K g W0 fe) hc hN hy hyl hsw hi ok hg ht he hs) fun D s H h => ?_
  obtain ⟨ph, r, S, e, so, ev, h⟩ := h
  refine tLcR_of s H _ ?_
  exact tG.bindS so ev h fun m v S1 r1 H1 x1 so1 ev1 m1 h1 => h1 r1 H1 _ (.refl _ _) so1 (ev1.set i m1)
end
/-! #### what is walked -/
def rdO (n : Nat) : Rd := fun i S => match S[n]? with
  | some (.lst ms) => some ms[i]?
  | _ => none
def rdD (ms : List M) : Rd := fun i _ => some ms[i]?
def srcR : M → Sto → Option Rd
  | .loc n, S => match S[n]? with
    | some (.lst _) => some (rdO n)
    | _ => none
  | .d d, _ => (srcD d).map fun xs => rdD (xs.map .d)
  | _, _ => none
/-- what the reader tells is what lies there -/
def Told (K : PySem.W.Frag) (g : Cfg) (ph r : List Addr) (H : Hp) (vs : List V) (i : Nat) : Option M → Prop
  | none => vs.length ≤ i
  | some m => ∃ v, vs[i]? = some v ∧ Mv K g ph r H m v
def SrcOk (K : PySem.W.Frag) (g : Cfg) (ph r : List Addr) (H : Hp) (rd : Rd) (kd : Tok → Kd) : Prop := ∀ ph' r' S' H', (∀ b, b ∈ ph' → b ∈ ph ∨ H b = none) → Ext r H r' H' → So K g ph' r' S' H' → ∀ t i o, rd i S' = some o → ∃ vs, (kd t).sq K H' vs ∧ Told K g ph' r' H' vs i o
theorem Paired.get' {α β : Type} {P : α → β → Prop} : ∀ {as : List α} {bs : List β} {i : Nat} {a : α}, Paired P as bs → as[i]? = some a → ∃ b, bs[i]? = some b ∧ P a b
  | _, _, i, a, .nil, h => by simp at h
  | x :: _, y :: _, 0, a, .cons p t, h => by
    have e : x = a := by simpa using h
    subst e
    exact ⟨y, rfl, p⟩
  | _, _, i + 1, a, .cons p t, h => Paired.get' (i := i) t (by simpa using h)
theorem told_pair {K : PySem.W.Frag} {g : Cfg} {ph r : List Addr} {H : Hp} {ms : List M} {vs : List V} (h : Paired (Mv K g ph r H) ms vs) (i : Nat) : Told K g ph r H vs i ms[i]? := by
  cases q : ms[i]? with
  | none =>
    show vs.length ≤ i
    rw [← Mr.Paired.len' h]
    exact List.getElem?_eq_none_iff.mp q
  | some m => exact Paired.get' h q
theorem srcR_ok {K : PySem.W.Frag} {g : Cfg} {ph r : List Addr} {S : Sto} {H : Hp} {m : M} {v : V} {rd : Rd} (so : So K g ph r S H) (mv : Mv K g ph r H m v) (q : srcR m S = some rd) : ∃ kd : Tok → Kd, Sd K H v kd ∧ SrcOk K g ph r H rd kd := by
  cases m with
  | loc n =>
    obtain ⟨a, e, rfl⟩ := mv
    have q : (match S[n]? with
      | some (.lst _) => some (rdO n)
      | _ => none) = some rd := q
    split at q
    rotate_left
    · cases q
    rename_i ms0 hm0
    cases q
    have first : ∃ vs, SqL K H a vs := by
      obtain ⟨b, u, e1, e2, ov⟩ := so.at_ n _ hm0
      rw [e] at e1
      cases e1
      cases u with
      | lst vs => exact ⟨vs, .inl (.inl e2)⟩
      | _ => exact ov.elim
    refine ⟨fun _ => .lst a, ⟨fun u ru => ⟨0, ru⟩, fun _ => first⟩, fun ph' r' S' H' h2 x so' t i o ho => ?_⟩
    unfold rdO at ho
    split at ho
    · rename_i ms hm
      cases ho
      obtain ⟨b, u, e1, e2, ov⟩ := so'.at_ n _ hm
      obtain ⟨l, rfl, _⟩ := x.pre
      have e3 : (r ++ l)[n]? = some a := by rw [List.getElem?_append_left (List.getElem?_eq_some_iff.mp e).1]; exact e
      rw [e3] at e1
      cases e1
      cases u with
      | lst vs => exact ⟨vs, .inl (.inl e2), told_pair ov i⟩
      | _ => exact ov.elim
    · cases ho
  | d d =>
    obtain ⟨xs, q1, rfl⟩ := Option.map_eq_some_iff.mp q
    obtain ⟨kd, rel, ex⟩ := src_ext mv q1
    refine ⟨kd, ⟨rel, fun t => (ex ph r H (fun b hb => .inl hb) (.refl _ _) t).imp fun _ z => z.1⟩, fun ph' r' S' H' h2 x so' t i o ho => ?_⟩
    obtain ⟨vs, hs, hd⟩ := ex ph' r' H' h2 x t
    unfold rdD at ho
    cases ho
    exact ⟨vs, hs, told_pair (pairs_d rfl hd) i⟩
  | _ => cases q
def rdE (rd : Rd) : Rd := fun i S => match rd i S with
  | some (some (.d x)) => some (some (.pr [.int (i : Int), x]))
  | some none => some none
  | _ => none
def rdZ2 (r1 r2 : Rd) : Rd := fun i S => match r1 i S, r2 i S with
  | some (some (.d x)), some (some (.d y)) => some (some (.pr [x, y]))
  | some none, some _ => some none
  | some (some _), some none => some none
  | _, _ => none
section
variable {K : PySem.W.Frag} {g : Cfg} {ph r : List Addr} {H : Hp}
theorem goesR_E {rd : Rd} {kd : Tok → Kd} (h : SrcOk K g ph r H rd kd) (t : Tok) : PItR K g ph r H (rdE rd) (ItE K (kd t)) := by
  intro ph' h1 h2 r' S' H' x so i
  unfold rdE
  cases q : rd i S' with
  | none => trivial
  | some o =>
    obtain ⟨vs, hs, ht⟩ := h ph' r' S' H' h2 x so t i o q
    cases o with
    | none => exact ⟨vs, hs, ht⟩
    | some m =>
      cases m with
      | d d =>
        obtain ⟨u, hu, du⟩ := ht
        refine ⟨⟨vs, u, hs, hu⟩, fun y H2 hy => ?_⟩
        obtain ⟨T, y1, rfl, hT, rfl, k1⟩ := hy
        have e1 : some y1 = some u := (k1 vs hs).symm.trans hu
        cases e1
        have ex : Ext r' H' r' (upd H' T (.tup [.int (i : Nat), u])) := Ext.new hT
        exact ⟨ex, so.new hT, T, _, rfl, ⟨upd_same, so.fresh hT⟩, DrAll.mono ex (.cons (.int _) (.cons du .nil))⟩
      | _ => trivial
theorem goesR_Z2 {ra rb : Rd} {ka kb : Tok → Kd} (h : SrcOk K g ph r H ra ka) (h' : SrcOk K g ph r H rb kb) (t t2 : Tok) : PItR K g ph r H (rdZ2 ra rb) (ItZ2 K (ka t) (kb t2)) := by
  intro ph' h1 h2 r' S' H' x so i
  unfold rdZ2
  cases q : ra i S' with
  | none => trivial
  | some o =>
    cases q2 : rb i S' with
    | none => cases o with
      | none => trivial
      | some m => cases m <;> trivial
    | some o2 =>
      obtain ⟨va, sa, ta⟩ := h ph' r' S' H' h2 x so t i o q
      obtain ⟨vb, sb, tb⟩ := h' ph' r' S' H' h2 x so t2 i o2 q2
      cases o with
      | none => exact ⟨va, vb, sa, sb, .inl ta⟩
      | some m =>
        cases o2 with
        | none => cases m <;> exact ⟨va, vb, sa, sb, .inr tb⟩
        | some m2 =>
          cases m with
          | d d =>
            cases m2 with
            | d d2 =>
              obtain ⟨u, hu, du⟩ := ta
              obtain ⟨w, hw, dw⟩ := tb
              refine ⟨⟨va, vb, u, w, sa, sb, hu, hw⟩, fun y H2 hy => ?_⟩
              obtain ⟨T, y1, y2, rfl, hT, rfl, k1, k2⟩ := hy
              have e1 : some y1 = some u := (k1 va sa).symm.trans hu
              have e2 : some y2 = some w := (k2 vb sb).symm.trans hw
              cases e1
              cases e2
              have ex : Ext r' H' r' (upd H' T (.tup [u, w])) := Ext.new hT
              exact ⟨ex, so.new hT, T, _, rfl, ⟨upd_same, so.fresh hT⟩, DrAll.mono ex (.cons du (.cons dw .nil))⟩
            | _ => trivial
          | _ => cases m2 <;> trivial
end
section
variable {X : Cx} {g : Cfg} {W : WX} {a b : Expr} {fs : Env1 → Sto → R (List M)} {fa : Env1 → Sto → R M} {pos : Pos}
def enumRO : List M → Sto → Option Rd
  | [m], S => (srcR m S).map rdE
  | _, _ => none
def iEnumR (f : Env1 → Sto → R (List M)) : Env1 → Sto → R Rd := fun e S => (f e S).bind fun ms S1 => lift (enumRO ms S1) S1
theorem mi_enumR {elts : List Expr} {kk : Nat} {tpos p : Pos} (hm : X.mg "enumerate" = none) (ha : MA X g W [a] fs) (hg : Gl X "enumerate" := by rfl) (he : starEach [a] X.env = [(false, eval a X.env)] := by rfl) : MIR X g W (.Tuple elts kk tpos) (.Call (.Name "enumerate" p) [a] [] pos) (iEnumR fs) := by
  refine PI.of (pi_enumK hg hm ha he) fun s H Q h => ?_
  obtain ⟨ph, r, S, e, so, ev, h⟩ := h
  refine ⟨ph, r, S, e, so, ev, ?_⟩
  unfold iEnumR at h
  cases q : fs e S with
  | rz c y S1 => rw [q] at h; exact h
  | bad => rw [q] at h; exact h
  | ok ms S1 =>
    rw [q] at h
    intro r1 H1 vs x1 so1 m1
    replace h : Post PItR X.K g (fun c d H' => W c d s H') ph r H (lift (enumRO ms S1) S1) Q := h
    unfold enumRO at h
    split at h
    · rename_i m
      cases m1 with
      | cons p1 t =>
        cases t
        cases qd : srcR m S1 with
        | none => rw [qd] at h; exact h.elim
        | some rd =>
          rw [qd] at h
          obtain ⟨kd, sd, ok⟩ := srcR_ok so1 p1 qd
          exact ⟨_, _, kd, rfl, rfl, sd, fun t => h r1 H1 _ x1 so1 (goesR_E ok t)⟩
    · exact h.elim
def zipRO : List M → Sto → Option Rd
  | [m, m2], S => match srcR m S, srcR m2 S with
    | some r1, some r2 => some (rdZ2 r1 r2)
    | _, _ => none
  | _, _ => none
def iZipR2 (f : Env1 → Sto → R (List M)) : Env1 → Sto → R Rd := fun e S => (f e S).bind fun ms S1 => lift (zipRO ms S1) S1
theorem mi_zipR2 {elts : List Expr} {kk : Nat} {tpos p : Pos} (hm : X.mg "zip" = none) (ha : MA X g W [a, b] fs) (hg : Gl X "zip" := by rfl) (he : starEach [a, b] X.env = (false, eval a X.env) :: starEach [b] X.env := by rfl) (hpl : (backTo pos (starEach [b] X.env)).any (·.1) = false := by rfl) : MIR X g W (.Tuple elts kk tpos) (.Call (.Name "zip" p) [a, b] [] pos) (iZipR2 fs) := by
  refine PI.of (pi_zip2K hg hm ha he hpl) fun s H Q h => ?_
  obtain ⟨ph, r, S, e, so, ev, h⟩ := h
  refine ⟨ph, r, S, e, so, ev, ?_⟩
  unfold iZipR2 at h
  cases q : fs e S with
  | rz c y S1 => rw [q] at h; exact h
  | bad => rw [q] at h; exact h
  | ok ms S1 =>
    rw [q] at h
    intro r1 H1 vs x1 so1 m1
    replace h : Post PItR X.K g (fun c d H' => W c d s H') ph r H (lift (zipRO ms S1) S1) Q := h
    unfold zipRO at h
    split at h
    · rename_i m m2
      cases m1 with
      | cons p1 t =>
        cases t with
        | cons p2 t =>
          cases t
          cases qd : srcR m S1 with
          | none => rw [qd] at h; exact h.elim
          | some rd =>
            cases qe : srcR m2 S1 with
            | none => rw [qd, qe] at h; exact h.elim
            | some rd2 =>
              rw [qd, qe] at h
              obtain ⟨k1, sd1, ok1⟩ := srcR_ok so1 p1 qd
              obtain ⟨k2, sd2, ok2⟩ := srcR_ok so1 p2 qe
              exact ⟨_, _, _, k1, k2, rfl, rfl, sd1, sd2, fun t t2 => h r1 H1 _ x1 so1 (goesR_Z2 ok1 ok2 t t2)⟩
    · exact h.elim
/-- for x in xs, xs a list that a def owns -/
def iSeqR (f : Env1 → Sto → R M) : Env1 → Sto → R Rd := fun e S => (f e S).bind fun m S1 => match m with
  | .loc n => lift (srcR (.loc n) S1) S1
  | _ => .bad
theorem mi_seqR {tg : Expr} (ha : ME X g W a fa) : MIR X g W tg a (iSeqR fa) := by
  refine PI.of (pi_list ha) fun s H Q h => ?_
  obtain ⟨ph, r, S, e, so, ev, h⟩ := h
  refine ⟨ph, r, S, e, so, ev, ?_⟩
  unfold iSeqR at h
  cases q : fa e S with
  | rz c y S1 => rw [q] at h; exact h
  | bad => rw [q] at h; exact h
  | ok m S1 =>
    rw [q] at h
    intro r1 H1 v x1 so1 m1
    cases m with
    | loc n =>
      replace h : Post PItR X.K g (fun c d H' => W c d s H') ph r H (lift (srcR (.loc n) S1) S1) Q := h
      cases qd : srcR (.loc n) S1 with
      | none => rw [qd] at h; exact h.elim
      | some rd =>
        rw [qd] at h
        have qd2 : (match S1[n]? with
          | some (.lst _) => some (rdO n)
          | _ => none) = some rd := qd
        split at qd2
        rotate_left
        · cases qd2
        rename_i ms0 hm0
        cases qd2
        obtain ⟨a', e1, rfl⟩ := m1
        have at_of : ∀ {ph' r' : List Addr} {S' : Sto} {H' : Hp} {ms : List M}, Ext r1 H1 r' H' → So X.K g ph' r' S' H' → S'[n]? = some (.lst ms) → ∃ vs, H' a' = some (.lst vs) ∧ Paired (Mv X.K g ph' r' H') ms vs := fun {ph' r' S' H' ms} x so' hm => by
          obtain ⟨b, u, e2, e3, ov⟩ := so'.at_ n _ hm
          obtain ⟨l, rfl, _⟩ := x.pre
          have e4 : (r1 ++ l)[n]? = some a' := by rw [List.getElem?_append_left (List.getElem?_eq_some_iff.mp e1).1]; exact e1
          rw [e4] at e2
          cases e2
          cases u with
          | lst vs => exact ⟨vs, e3, ov⟩
          | _ => exact ov.elim
        obtain ⟨vs0, hv0, _⟩ := at_of (.refl _ _) so1 hm0
        refine ⟨a', rfl, ⟨vs0, .inl (.inl hv0)⟩, h r1 H1 _ x1 so1 ?_⟩
        intro ph' h1 h2 r' S' H' x so' i
        unfold rdO
        cases hm : S'[n]? with
        | none => trivial
        | some o =>
          cases o with
          | dct _ => trivial
          | lst ms =>
            obtain ⟨vs, hv, pr⟩ := at_of x so' hm
            have sq : SqL X.K H' a' vs := .inl (.inl hv)
            have tp := told_pair pr i
            show GoR X.K g ph' r' H' S' (Itl X.K a') i (some ms[i]?)
            cases qi : ms[i]? with
            | none =>
              rw [qi] at tp
              exact ⟨vs, sq, tp⟩
            | some m =>
              rw [qi] at tp
              obtain ⟨v, hv2, mv⟩ := tp
              refine ⟨⟨vs, v, sq, hv2⟩, fun y H2 hy => ?_⟩
              obtain ⟨rfl, hy⟩ := hy
              have ey : some y = some v := (hy vs sq).symm.trans hv2
              cases ey
              exact ⟨.refl _ _, so', mv⟩
    | _ => exact h.elim
end
end Mr

end
section
open PySem PySem.W PyProof.Rows
local macro_rules | `(tactic| o_head ($h $k $a $e)) => `(tactic| o_head (PySem.W.kmHook $k $a $e [93]))
set_option maxRecDepth 100000 in
set_option maxHeartbeats 0 in
open_top hd59 for PySem.Challenge.rw_ownpartners_k59_told_products_by_their_v
end
section
set_option maxRecDepth 100000
set_option maxHeartbeats 0
namespace K59
open PySem PySem.Spec L2 Mr MrT
open PyProof.Rows hiding St
abbrev PP : Program := PySem.Challenge.rw_ownpartners_k59_told_products_by_their_v.prog
abbrev topS (i : Nat) : Stmt := PP.main.body.getD i (.Pass ⟨0, 0, 0, 0⟩)
theorem look_cons {k : Str} {d : PyData} {l : List (Str × PyData)} {z : Str} {x : PyData} (h : List.lookup z ((k, d) :: l) = some x) : (z = k ∧ d = x) ∨ List.lookup z l = some x := by
  by_cases q : z = k
  · subst q
    simp [List.lookup] at h
    exact .inl ⟨rfl, h⟩
  · have q1 : (z == k) = false := by simpa using q
    simp [List.lookup, q1] at h
    exact .inr h
theorem n_all {w : World} : PySem.W.nsIn (hd59.heap_39 w.params) mainGlobals "all" = some none := by k_is
theorem n_bool {w : World} : PySem.W.nsIn (hd59.heap_39 w.params) mainGlobals "bool" = some none := by k_is
theorem n_enumerate {w : World} : PySem.W.nsIn (hd59.heap_39 w.params) mainGlobals "enumerate" = some none := by k_is
theorem n_int {w : World} : PySem.W.nsIn (hd59.heap_39 w.params) mainGlobals "int" = some none := by k_is
theorem n_isinstance {w : World} : PySem.W.nsIn (hd59.heap_39 w.params) mainGlobals "isinstance" = some none := by k_is
theorem n_len {w : World} : PySem.W.nsIn (hd59.heap_39 w.params) mainGlobals "len" = some none := by k_is
theorem n_list {w : World} : PySem.W.nsIn (hd59.heap_39 w.params) mainGlobals "list" = some none := by k_is
theorem n_max {w : World} : PySem.W.nsIn (hd59.heap_39 w.params) mainGlobals "max" = some none := by k_is
theorem n_range {w : World} : PySem.W.nsIn (hd59.heap_39 w.params) mainGlobals "range" = some none := by k_is
theorem n_repr {w : World} : PySem.W.nsIn (hd59.heap_39 w.params) mainGlobals "repr" = some none := by k_is
theorem n_str {w : World} : PySem.W.nsIn (hd59.heap_39 w.params) mainGlobals "str" = some none := by k_is
theorem n_sum {w : World} : PySem.W.nsIn (hd59.heap_39 w.params) mainGlobals "sum" = some none := by k_is
theorem n_tuple {w : World} : PySem.W.nsIn (hd59.heap_39 w.params) mainGlobals "tuple" = some none := by k_is
theorem n_zip {w : World} : PySem.W.nsIn (hd59.heap_39 w.params) mainGlobals "zip" = some none := by k_is
theorem g_BadCounts {w : World} : PySem.W.nsIn (hd59.heap_39 w.params) mainGlobals "BadCounts" = some (some (.ref 63)) := by k_is
theorem g_BadFamily {w : World} : PySem.W.nsIn (hd59.heap_39 w.params) mainGlobals "BadFamily" = some (some (.ref 82)) := by k_is
theorem g_BadLength {w : World} : PySem.W.nsIn (hd59.heap_39 w.params) mainGlobals "BadLength" = some (some (.ref 44)) := by k_is
theorem g_FIRST_SUMS {w : World} : PySem.W.nsIn (hd59.heap_39 w.params) mainGlobals "FIRST_SUMS" = some (some (.ref 128)) := by k_is
theorem g_GAPS {w : World} : PySem.W.nsIn (hd59.heap_39 w.params) mainGlobals "GAPS" = some (some (.ref 138)) := by k_is
theorem g_MOST_DEGREE {w : World} : PySem.W.nsIn (hd59.heap_39 w.params) mainGlobals "MOST_DEGREE" = some (some (.int 48 286)) := by k_is
theorem g_SECOND_SUMS {w : World} : PySem.W.nsIn (hd59.heap_39 w.params) mainGlobals "SECOND_SUMS" = some (some (.ref 133)) := by k_is
theorem g_STEPS {w : World} : PySem.W.nsIn (hd59.heap_39 w.params) mainGlobals "STEPS" = some (some (.ref 106)) := by k_is
abbrev s_is_integer : Stmt := topS 7
theorem sc_is_integer : FnScope ["thing"] ["thing"] (defScope s_is_integer) := ⟨rfl, rfl, rfl, by decide +kernel, rfl, by decide +kernel, by decide +kernel⟩
theorem d_is_integer {w : World} : ∃ fd, L2.Fun (hd59.heap_39 w.params) "is_integer" "is_integer" s_is_integer 91 fd := ⟨_, fun_mk (by k_is) (by k_is) (by k_is)⟩
theorem a_is_integer {w : World} : PySem.W.nsIn (hd59.heap_39 w.params) mainGlobals "is_integer" = some (some (.ref 91)) := by k_is
abbrev s_is_integer_tuple : Stmt := topS 8
theorem sc_is_integer_tuple : FnScope ["many", "thing", "number"] ["many", "thing"] (defScope s_is_integer_tuple) := ⟨rfl, rfl, rfl, by decide +kernel, rfl, by decide +kernel, by decide +kernel⟩
theorem d_is_integer_tuple {w : World} : ∃ fd, L2.Fun (hd59.heap_39 w.params) "is_integer_tuple" "is_integer_tuple" s_is_integer_tuple 98 fd := ⟨_, fun_mk (by k_is) (by k_is) (by k_is)⟩
theorem a_is_integer_tuple {w : World} : PySem.W.nsIn (hd59.heap_39 w.params) mainGlobals "is_integer_tuple" = some (some (.ref 98)) := by k_is
abbrev s_check_integers : Stmt := topS 9
theorem sc_check_integers : FnScope ["many", "thing"] ["many", "thing"] (defScope s_check_integers) := ⟨rfl, rfl, rfl, by decide +kernel, rfl, by decide +kernel, by decide +kernel⟩
theorem d_check_integers {w : World} : ∃ fd, L2.Fun (hd59.heap_39 w.params) "check_integers" "check_integers" s_check_integers 105 fd := ⟨_, fun_mk (by k_is) (by k_is) (by k_is)⟩
theorem a_check_integers {w : World} : PySem.W.nsIn (hd59.heap_39 w.params) mainGlobals "check_integers" = some (some (.ref 105)) := by k_is
abbrev s_check_family : Stmt := topS 12
theorem sc_check_family : FnScope ["thing"] ["thing"] (defScope s_check_family) := ⟨rfl, rfl, rfl, by decide +kernel, rfl, by decide +kernel, by decide +kernel⟩
theorem d_check_family {w : World} : ∃ fd, L2.Fun (hd59.heap_39 w.params) "check_family" "check_family" s_check_family 113 fd := ⟨_, fun_mk (by k_is) (by k_is) (by k_is)⟩
theorem a_check_family {w : World} : PySem.W.nsIn (hd59.heap_39 w.params) mainGlobals "check_family" = some (some (.ref 113)) := by k_is
abbrev s_check_counted_family : Stmt := topS 13
theorem sc_check_counted_family : FnScope ["thing"] ["thing"] (defScope s_check_counted_family) := ⟨rfl, rfl, rfl, by decide +kernel, rfl, by decide +kernel, by decide +kernel⟩
theorem d_check_counted_family {w : World} : ∃ fd, L2.Fun (hd59.heap_39 w.params) "check_counted_family" "check_counted_family" s_check_counted_family 120 fd := ⟨_, fun_mk (by k_is) (by k_is) (by k_is)⟩
theorem a_check_counted_family {w : World} : PySem.W.nsIn (hd59.heap_39 w.params) mainGlobals "check_counted_family" = some (some (.ref 120)) := by k_is
abbrev s_are_there : Stmt := topS 14
theorem sc_are_there : FnScope ["family", "n"] ["family", "n"] (defScope s_are_there) := ⟨rfl, rfl, rfl, by decide +kernel, rfl, by decide +kernel, by decide +kernel⟩
theorem d_are_there {w : World} : ∃ fd, L2.Fun (hd59.heap_39 w.params) "are_there" "are_there" s_are_there 127 fd := ⟨_, fun_mk (by k_is) (by k_is) (by k_is)⟩
theorem a_are_there {w : World} : PySem.W.nsIn (hd59.heap_39 w.params) mainGlobals "are_there" = some (some (.ref 127)) := by k_is
abbrev s_check_family_length : Stmt := topS 19
theorem sc_check_family_length : FnScope ["family", "n"] ["family", "n"] (defScope s_check_family_length) := ⟨rfl, rfl, rfl, by decide +kernel, rfl, by decide +kernel, by decide +kernel⟩
theorem d_check_family_length {w : World} : ∃ fd, L2.Fun (hd59.heap_39 w.params) "check_family_length" "check_family_length" s_check_family_length 145 fd := ⟨_, fun_mk (by k_is) (by k_is) (by k_is)⟩
theorem a_check_family_length {w : World} : PySem.W.nsIn (hd59.heap_39 w.params) mainGlobals "check_family_length" = some (some (.ref 145)) := by k_is
abbrev s_multiplied : Stmt := topS 20
theorem sc_multiplied : FnScope ["one", "other", "found", "j", "k"] ["one", "other"] (defScope s_multiplied) := ⟨rfl, rfl, rfl, by decide +kernel, rfl, by decide +kernel, by decide +kernel⟩
theorem d_multiplied {w : World} : ∃ fd, L2.Fun (hd59.heap_39 w.params) "multiplied" "multiplied" s_multiplied 152 fd := ⟨_, fun_mk (by k_is) (by k_is) (by k_is)⟩
theorem a_multiplied {w : World} : PySem.W.nsIn (hd59.heap_39 w.params) mainGlobals "multiplied" = some (some (.ref 152)) := by k_is
abbrev s_products_of : Stmt := topS 21
theorem sc_products_of : FnScope ["family", "n", "found", "power", "first", "second", "product"] ["family", "n"] (defScope s_products_of) := ⟨rfl, rfl, rfl, by decide +kernel, rfl, by decide +kernel, by decide +kernel⟩
theorem d_products_of {w : World} : ∃ fd, L2.Fun (hd59.heap_39 w.params) "products_of" "products_of" s_products_of 159 fd := ⟨_, fun_mk (by k_is) (by k_is) (by k_is)⟩
theorem a_products_of {w : World} : PySem.W.nsIn (hd59.heap_39 w.params) mainGlobals "products_of" = some (some (.ref 159)) := by k_is
abbrev s_summed : Stmt := topS 22
theorem sc_summed : FnScope ["products", "multiples", "line", "one", "number"] ["products", "multiples"] (defScope s_summed) := ⟨rfl, rfl, rfl, by decide +kernel, rfl, by decide +kernel, by decide +kernel⟩
theorem d_summed {w : World} : ∃ fd, L2.Fun (hd59.heap_39 w.params) "summed" "summed" s_summed 164 fd := ⟨_, fun_mk (by k_is) (by k_is) (by k_is)⟩
theorem a_summed {w : World} : PySem.W.nsIn (hd59.heap_39 w.params) mainGlobals "summed" = some (some (.ref 164)) := by k_is
abbrev s_multiples_for : Stmt := topS 23
theorem sc_multiples_for : FnScope ["family", "products", "firsts", "multiples", "b", "at", "ahead", "one", "product"] ["family", "products", "firsts"] (defScope s_multiples_for) := ⟨rfl, rfl, rfl, by decide +kernel, rfl, by decide +kernel, by decide +kernel⟩
theorem d_multiples_for {w : World} : ∃ fd, L2.Fun (hd59.heap_39 w.params) "multiples_for" "multiples_for" s_multiples_for 169 fd := ⟨_, fun_mk (by k_is) (by k_is) (by k_is)⟩
theorem a_multiples_for {w : World} : PySem.W.nsIn (hd59.heap_39 w.params) mainGlobals "multiples_for" = some (some (.ref 169)) := by k_is
abbrev s_told_products : Stmt := topS 24
theorem sc_told_products : FnScope ["family", "n"] ["family", "n"] (defScope s_told_products) := ⟨rfl, rfl, rfl, by decide +kernel, rfl, by decide +kernel, by decide +kernel⟩
theorem d_told_products {w : World} : ∃ fd, L2.Fun (hd59.heap_39 w.params) "told_products" "told_products" s_told_products 176 fd := ⟨_, fun_mk (by k_is) (by k_is) (by k_is)⟩
theorem a_told_products {w : World} : PySem.W.nsIn (hd59.heap_39 w.params) mainGlobals "told_products" = some (some (.ref 176)) := by k_is
abbrev s_numbers_from : Stmt := topS 25
theorem sc_numbers_from : FnScope ["family", "n", "firsts", "products"] ["family", "n", "firsts"] (defScope s_numbers_from) := ⟨rfl, rfl, rfl, by decide +kernel, rfl, by decide +kernel, by decide +kernel⟩
theorem d_numbers_from {w : World} : ∃ fd, L2.Fun (hd59.heap_39 w.params) "numbers_from" "numbers_from" s_numbers_from 183 fd := ⟨_, fun_mk (by k_is) (by k_is) (by k_is)⟩
theorem a_numbers_from {w : World} : PySem.W.nsIn (hd59.heap_39 w.params) mainGlobals "numbers_from" = some (some (.ref 183)) := by k_is
abbrev s_products_number : Stmt := topS 26
theorem sc_products_number : FnScope ["family", "n"] ["family", "n"] (defScope s_products_number) := ⟨rfl, rfl, rfl, by decide +kernel, rfl, by decide +kernel, by decide +kernel⟩
theorem d_products_number {w : World} : ∃ fd, L2.Fun (hd59.heap_39 w.params) "products_number" "products_number" s_products_number 190 fd := ⟨_, fun_mk (by k_is) (by k_is) (by k_is)⟩
theorem a_products_number {w : World} : PySem.W.nsIn (hd59.heap_39 w.params) mainGlobals "products_number" = some (some (.ref 190)) := by k_is
abbrev s_counts_from : Stmt := topS 27
theorem sc_counts_from : FnScope ["family", "n", "firsts"] ["family", "n", "firsts"] (defScope s_counts_from) := ⟨rfl, rfl, rfl, by decide +kernel, rfl, by decide +kernel, by decide +kernel⟩
theorem d_counts_from {w : World} : ∃ fd, L2.Fun (hd59.heap_39 w.params) "counts_from" "counts_from" s_counts_from 197 fd := ⟨_, fun_mk (by k_is) (by k_is) (by k_is)⟩
theorem a_counts_from {w : World} : PySem.W.nsIn (hd59.heap_39 w.params) mainGlobals "counts_from" = some (some (.ref 197)) := by k_is
abbrev s_least_bound : Stmt := topS 28
theorem sc_least_bound : FnScope ["family", "n"] ["family", "n"] (defScope s_least_bound) := ⟨rfl, rfl, rfl, by decide +kernel, rfl, by decide +kernel, by decide +kernel⟩
theorem d_least_bound {w : World} : ∃ fd, L2.Fun (hd59.heap_39 w.params) "least_bound" "least_bound" s_least_bound 204 fd := ⟨_, fun_mk (by k_is) (by k_is) (by k_is)⟩
theorem a_least_bound {w : World} : PySem.W.nsIn (hd59.heap_39 w.params) mainGlobals "least_bound" = some (some (.ref 204)) := by k_is
abbrev s_extreme_counts : Stmt := topS 29
theorem sc_extreme_counts : FnScope ["family", "n"] ["family", "n"] (defScope s_extreme_counts) := ⟨rfl, rfl, rfl, by decide +kernel, rfl, by decide +kernel, by decide +kernel⟩
theorem d_extreme_counts {w : World} : ∃ fd, L2.Fun (hd59.heap_39 w.params) "extreme_counts" "extreme_counts" s_extreme_counts 211 fd := ⟨_, fun_mk (by k_is) (by k_is) (by k_is)⟩
theorem a_extreme_counts {w : World} : PySem.W.nsIn (hd59.heap_39 w.params) mainGlobals "extreme_counts" = some (some (.ref 211)) := by k_is
abbrev s__law_deck : Stmt := topS 31
theorem sc__law_deck : FnScope ["_law_script", "_law_mixed", "_law_cell"] ["_law_script"] (defScope s__law_deck) := ⟨rfl, rfl, rfl, by decide +kernel, rfl, by decide +kernel, by decide +kernel⟩
theorem d__law_deck {w : World} : ∃ fd, L2.Fun (hd59.heap_39 w.params) "_law_deck" "_law_deck" s__law_deck 218 fd := ⟨_, fun_mk (by k_is) (by k_is) (by k_is)⟩
theorem a__law_deck {w : World} : PySem.W.nsIn (hd59.heap_39 w.params) mainGlobals "_law_deck" = some (some (.ref 218)) := by k_is
abbrev s__law_draw : Stmt := topS 32
theorem sc__law_draw : FnScope ["_law_deck_here", "_law_many", "_law_figure", "_law_cell"] ["_law_deck_here", "_law_many"] (defScope s__law_draw) := ⟨rfl, rfl, rfl, by decide +kernel, rfl, by decide +kernel, by decide +kernel⟩
theorem d__law_draw {w : World} : ∃ fd, L2.Fun (hd59.heap_39 w.params) "_law_draw" "_law_draw" s__law_draw 225 fd := ⟨_, fun_mk (by k_is) (by k_is) (by k_is)⟩
theorem a__law_draw {w : World} : PySem.W.nsIn (hd59.heap_39 w.params) mainGlobals "_law_draw" = some (some (.ref 225)) := by k_is
abbrev s__law_pick : Stmt := topS 33
theorem sc__law_pick : FnScope ["_law_deck_here", "_law_some"] ["_law_deck_here", "_law_some"] (defScope s__law_pick) := ⟨rfl, rfl, rfl, by decide +kernel, rfl, by decide +kernel, by decide +kernel⟩
theorem d__law_pick {w : World} : ∃ fd, L2.Fun (hd59.heap_39 w.params) "_law_pick" "_law_pick" s__law_pick 232 fd := ⟨_, fun_mk (by k_is) (by k_is) (by k_is)⟩
theorem a__law_pick {w : World} : PySem.W.nsIn (hd59.heap_39 w.params) mainGlobals "_law_pick" = some (some (.ref 232)) := by k_is
abbrev s__law_same : Stmt := topS 34
theorem sc__law_same : FnScope ["_law_told", "_law_due"] ["_law_told", "_law_due"] (defScope s__law_same) := ⟨rfl, rfl, rfl, by decide +kernel, rfl, by decide +kernel, by decide +kernel⟩
theorem d__law_same {w : World} : ∃ fd, L2.Fun (hd59.heap_39 w.params) "_law_same" "_law_same" s__law_same 239 fd := ⟨_, fun_mk (by k_is) (by k_is) (by k_is)⟩
theorem a__law_same {w : World} : PySem.W.nsIn (hd59.heap_39 w.params) mainGlobals "_law_same" = some (some (.ref 239)) := by k_is
abbrev s__law_facts : Stmt := topS 35
theorem sc__law_facts : FnScope ["_law_family"] ["_law_family"] (defScope s__law_facts) := ⟨rfl, rfl, rfl, by decide +kernel, rfl, by decide +kernel, by decide +kernel⟩
theorem d__law_facts {w : World} : ∃ fd, L2.Fun (hd59.heap_39 w.params) "_law_facts" "_law_facts" s__law_facts 246 fd := ⟨_, fun_mk (by k_is) (by k_is) (by k_is)⟩
theorem a__law_facts {w : World} : PySem.W.nsIn (hd59.heap_39 w.params) mainGlobals "_law_facts" = some (some (.ref 246)) := by k_is
abbrev s__law_power : Stmt := topS 36
theorem sc__law_power : FnScope ["_law_number", "_law_many", "_law_found", "_law_turn"] ["_law_number", "_law_many"] (defScope s__law_power) := ⟨rfl, rfl, rfl, by decide +kernel, rfl, by decide +kernel, by decide +kernel⟩
theorem d__law_power {w : World} : ∃ fd, L2.Fun (hd59.heap_39 w.params) "_law_power" "_law_power" s__law_power 253 fd := ⟨_, fun_mk (by k_is) (by k_is) (by k_is)⟩
theorem a__law_power {w : World} : PySem.W.nsIn (hd59.heap_39 w.params) mainGlobals "_law_power" = some (some (.ref 253)) := by k_is
abbrev s__law_values : Stmt := topS 37
theorem sc__law_values : FnScope ["_law_family", "_law_y", "_law_fourth", "_law_cube"] ["_law_family", "_law_y"] (defScope s__law_values) := ⟨rfl, rfl, rfl, by decide +kernel, rfl, by decide +kernel, by decide +kernel⟩
theorem d__law_values {w : World} : ∃ fd, L2.Fun (hd59.heap_39 w.params) "_law_values" "_law_values" s__law_values 260 fd := ⟨_, fun_mk (by k_is) (by k_is) (by k_is)⟩
theorem a__law_values {w : World} : PySem.W.nsIn (hd59.heap_39 w.params) mainGlobals "_law_values" = some (some (.ref 260)) := by k_is
abbrev s__law_at : Stmt := topS 38
theorem sc__law_at : FnScope ["_law_numbers", "_law_y", "_law_found", "_law_number"] ["_law_numbers", "_law_y"] (defScope s__law_at) := ⟨rfl, rfl, rfl, by decide +kernel, rfl, by decide +kernel, by decide +kernel⟩
theorem d__law_at {w : World} : ∃ fd, L2.Fun (hd59.heap_39 w.params) "_law_at" "_law_at" s__law_at 267 fd := ⟨_, fun_mk (by k_is) (by k_is) (by k_is)⟩
theorem a__law_at {w : World} : PySem.W.nsIn (hd59.heap_39 w.params) mainGlobals "_law_at" = some (some (.ref 267)) := by k_is
abbrev s__law_are_integers : Stmt := topS 39
theorem sc__law_are_integers : FnScope ["_law_thing", "_law_many", "_law_x"] ["_law_thing", "_law_many"] (defScope s__law_are_integers) := ⟨rfl, rfl, rfl, by decide +kernel, rfl, by decide +kernel, by decide +kernel⟩
theorem d__law_are_integers {w : World} : ∃ fd, L2.Fun (hd59.heap_39 w.params) "_law_are_integers" "_law_are_integers" s__law_are_integers 272 fd := ⟨_, fun_mk (by k_is) (by k_is) (by k_is)⟩
theorem a__law_are_integers {w : World} : PySem.W.nsIn (hd59.heap_39 w.params) mainGlobals "_law_are_integers" = some (some (.ref 272)) := by k_is
abbrev s__law_are_products : Stmt := topS 40
theorem sc__law_are_products : FnScope ["_law_family", "_law_n", "_law_told", "_law_values_here", "_law_low", "_law_high", "_law_gap", "_law_b", "_law_row", "_law_y", "_law_one", "_law_other"] ["_law_family", "_law_n", "_law_told"] (defScope s__law_are_products) := ⟨rfl, rfl, rfl, by decide +kernel, rfl, by decide +kernel, by decide +kernel⟩
theorem d__law_are_products {w : World} : ∃ fd, L2.Fun (hd59.heap_39 w.params) "_law_are_products" "_law_are_products" s__law_are_products 277 fd := ⟨_, fun_mk (by k_is) (by k_is) (by k_is)⟩
theorem a__law_are_products {w : World} : PySem.W.nsIn (hd59.heap_39 w.params) mainGlobals "_law_are_products" = some (some (.ref 277)) := by k_is
abbrev s__law_product : Stmt := topS 41
theorem sc__law_product : FnScope ["_law_one", "_law_other", "_law_found", "_law_at_here", "_law_x", "_law_place", "_law_y"] ["_law_one", "_law_other"] (defScope s__law_product) := ⟨rfl, rfl, rfl, by decide +kernel, rfl, by decide +kernel, by decide +kernel⟩
theorem d__law_product {w : World} : ∃ fd, L2.Fun (hd59.heap_39 w.params) "_law_product" "_law_product" s__law_product 284 fd := ⟨_, fun_mk (by k_is) (by k_is) (by k_is)⟩
theorem a__law_product {w : World} : PySem.W.nsIn (hd59.heap_39 w.params) mainGlobals "_law_product" = some (some (.ref 284)) := by k_is
abbrev s__law_are_bounds_right : Stmt := topS 42
theorem sc__law_are_bounds_right : FnScope ["_law_family", "_law_n", "_law_many", "_law_due"] ["_law_family", "_law_n"] (defScope s__law_are_bounds_right) := ⟨rfl, rfl, rfl, by decide +kernel, rfl, by decide +kernel, by decide +kernel⟩
theorem d__law_are_bounds_right {w : World} : ∃ fd, L2.Fun (hd59.heap_39 w.params) "_law_are_bounds_right" "_law_are_bounds_right" s__law_are_bounds_right 291 fd := ⟨_, fun_mk (by k_is) (by k_is) (by k_is)⟩
theorem a__law_are_bounds_right {w : World} : PySem.W.nsIn (hd59.heap_39 w.params) mainGlobals "_law_are_bounds_right" = some (some (.ref 291)) := by k_is
abbrev s__law_are_firsts_right : Stmt := topS 43
theorem sc__law_are_firsts_right : FnScope ["_law_deck_here", "_law_family", "_law_n", "_law_one", "_law_other", "_law_both", "_law_gap", "_law_many", "_law_factor", "_law_size", "_law_near", "_law_far", "_law_at_here", "_law_x", "_law_y"] ["_law_deck_here", "_law_family", "_law_n"] (defScope s__law_are_firsts_right) := ⟨rfl, rfl, rfl, by decide +kernel, rfl, by decide +kernel, by decide +kernel⟩
theorem d__law_are_firsts_right {w : World} : ∃ fd, L2.Fun (hd59.heap_39 w.params) "_law_are_firsts_right" "_law_are_firsts_right" s__law_are_firsts_right 296 fd := ⟨_, fun_mk (by k_is) (by k_is) (by k_is)⟩
theorem a__law_are_firsts_right {w : World} : PySem.W.nsIn (hd59.heap_39 w.params) mainGlobals "_law_are_firsts_right" = some (some (.ref 296)) := by k_is
abbrev s_law : Stmt := topS 44
theorem sc_law : FnScope ["_law_script", "_law_deck_here", "_law_family", "_law_step", "_law_all_steps", "_law_many", "_law_part", "_law_n", "_law_m", "_law_told", "_law_more", "_law_both", "_law_at_here", "_law_spot"] ["_law_script"] (defScope s_law) := ⟨rfl, rfl, rfl, by decide +kernel, rfl, by decide +kernel, by decide +kernel⟩
theorem d_law {w : World} : ∃ fd, L2.Fun (hd59.heap_39 w.params) "law" "law" s_law 303 fd := ⟨_, fun_mk (by k_is) (by k_is) (by k_is)⟩
theorem a_law {w : World} : PySem.W.nsIn (hd59.heap_39 w.params) mainGlobals "law" = some (some (.ref 303)) := by k_is
theorem hd_is_integer_tuple {w : World} : PySem.W.codeHdIn (hd59.heap_39 w.params) 97 93 = true := by rfl
theorem lk_is_integer_tuple {w : World} : ∃ (oc : Value) (od : Option Addr) (osl : Array (Option Value)) (kV doc pm : Value) (an : Option Addr) (ct : Value), (hd59.heap_39 w.params).lookup 98 = some ⟨oc, od, .func (PySem.W.fnOf "is_integer_tuple" "is_integer_tuple" (defArgs s_is_integer_tuple) (defBody s_is_integer_tuple) (defScope s_is_integer_tuple) .none kV doc pm an (.ref 97) ct), osl⟩ := ⟨_, _, _, _, _, _, _, _, by k_is⟩
theorem cd_is_integer_tuple {w : World} : PySem.W.codeIn (hd59.heap_39 w.params) (.ref 97) "is_integer_tuple" = true := by k_is
theorem kp_is_integer_tuple {w : World} : PySem.W.keepIn (hd59.heap_39 w.params) (.ref 98) = true := by k_is
def csK : List (Addr × Addr) := [(97, 93)]
def TK : List (Addr × Str) := [(93, ("is_integer_tuple" : Str) ++ ".<locals>." ++ "<genexpr>")]
theorem tk_is_integer_tuple : ∀ p ∈ TK, p.1 = 93 → p.2 = ("is_integer_tuple" : Str) ++ ".<locals>." ++ "<genexpr>" := by decide +kernel
def clf : Nat → Addr
  | 0 => 24
  | 1 => 44
  | 2 => 63
  | 3 => 82
  | _ => 0
/-- what the written part, the heap behind it and the tables give -/
structure Mt (w : World) (mg : Str → Option Value) (base : Heap) (g : Cfg) : Prop where
  md : Md w (hd59.heap_39 w.params) mg base g clf
  tb : ∀ p ∈ csK, LamX.TabB base mg p.1 p.2
  gt : g.T = TK
theorem et_BadLength {w : World} {mg : Str → Option Value} {base : Heap} {g : Cfg} (m : Md w (hd59.heap_39 w.params) mg base g clf) : MrE.ErrT (hd59.heap_39 w.params) mg "BadLength" (g.cl 1) 41 := by
  have e : g.cl 1 = 44 := by rw [m.cls]; rfl
  rw [e]
  exact { gC := m.at_ g_BadLength, cls := ⟨_, _, _, _, _, _, _, _, _, _, _, _, _, _, _, by k_is, by decide +kernel⟩, sa := by k_is, ga := by k_is, gg := by k_is, noN := by k_is, iC := by k_is, tC := by k_is, kC := by k_is, exC := by k_is, tyC := by k_is, hdC := by k_is, fn := ⟨_, _, _, _, _, _, _, _, _, _, _, _, _, _, _, by k_is, by k_is⟩ }
theorem et_BadCounts {w : World} {mg : Str → Option Value} {base : Heap} {g : Cfg} (m : Md w (hd59.heap_39 w.params) mg base g clf) : MrE.ErrT (hd59.heap_39 w.params) mg "BadCounts" (g.cl 2) 60 := by
  have e : g.cl 2 = 63 := by rw [m.cls]; rfl
  rw [e]
  exact { gC := m.at_ g_BadCounts, cls := ⟨_, _, _, _, _, _, _, _, _, _, _, _, _, _, _, by k_is, by decide +kernel⟩, sa := by k_is, ga := by k_is, gg := by k_is, noN := by k_is, iC := by k_is, tC := by k_is, kC := by k_is, exC := by k_is, tyC := by k_is, hdC := by k_is, fn := ⟨_, _, _, _, _, _, _, _, _, _, _, _, _, _, _, by k_is, by k_is⟩ }
theorem et_BadFamily {w : World} {mg : Str → Option Value} {base : Heap} {g : Cfg} (m : Md w (hd59.heap_39 w.params) mg base g clf) : MrE.ErrT (hd59.heap_39 w.params) mg "BadFamily" (g.cl 3) 79 := by
  have e : g.cl 3 = 82 := by rw [m.cls]; rfl
  rw [e]
  exact { gC := m.at_ g_BadFamily, cls := ⟨_, _, _, _, _, _, _, _, _, _, _, _, _, _, _, by k_is, by decide +kernel⟩, sa := by k_is, ga := by k_is, gg := by k_is, noN := by k_is, iC := by k_is, tC := by k_is, kC := by k_is, exC := by k_is, tyC := by k_is, hdC := by k_is, fn := ⟨_, _, _, _, _, _, _, _, _, _, _, _, _, _, _, by k_is, by k_is⟩ }
def ks_106 : List Str := ["two", "fourfold", "three", "four", "ring"]
theorem kd_106 {w : World} : ∃ (es : Array DictEntry) (n : Nat), (hd59.heap_39 w.params).lookup 106 = some ⟨.type "dict", none, .dict es n, #[]⟩ ∧ PySem.W.KeysLit w.params es.toList ∧ es.toList.map (fun e => keyStr e.key) = ks_106.map some := by
  have h : ∃ o, (hd59.heap_39 w.params).lookup 106 = some o ∧ ∃ (es : Array DictEntry) (n : Nat), o = ⟨.type "dict", none, .dict es n, #[]⟩ ∧ PySem.W.KeysLit w.params es.toList ∧ es.toList.map (fun e => keyStr e.key) = ks_106.map some := by
    refine' ⟨_, ?a, ?b⟩
    case a => rfl
    case b => exact ⟨_, _, rfl, ⟨⟨_, _, rfl, rfl⟩, ⟨⟨_, _, rfl, rfl⟩, ⟨⟨_, _, rfl, rfl⟩, ⟨⟨_, _, rfl, rfl⟩, ⟨⟨_, _, rfl, rfl⟩, trivial⟩⟩⟩⟩⟩, rfl⟩
  obtain ⟨o, h1, es, n, rfl, h2, h3⟩ := h
  exact ⟨es, n, h1, h2, h3⟩
theorem kD_106 {w : World} : ∃ es n, KDict (hd59.heap_39 w.params) w 106 es n := by
  obtain ⟨es, n, h1, h2, h3⟩ := kd_106 (w := w)
  exact ⟨es, n, h1, h2, by decide⟩
theorem kk_106 {w : World} (z : Str) : ∃ r, PySem.W.nsIn (hd59.heap_39 w.params) 106 z = some r ∧ r.isSome = ks_106.any (· == z) := by
  obtain ⟨es, n, h1, h2, h3⟩ := kd_106 (w := w)
  exact ns_keys h1 h3 z
def c_STEPS : M := .kdc 106 [("two", .int 2), ("fourfold", .int 8), ("three", .int 4), ("four", .int 2), ("ring", .int 1)]
theorem rc_STEPS {w : World} {g : Cfg} (hw : w = g.w) (ph r : List Addr) (H : Hp) : Mv (hd59.heap_39 w.params) g ph r H c_STEPS (.ref 106) := by
  subst hw
  obtain ⟨es, n, h1, h2, _⟩ := kd_106 (w := g.w)
  refine ⟨rfl, fun z x q => ?_⟩
  rcases look_cons q with ⟨rfl, rfl⟩ | q
  · exact ⟨.int 2, ⟨es, n, Value.int 2 314, h1, h2, by k_is, ⟨_, rfl⟩⟩, fun B H => (.int _)⟩
  rcases look_cons q with ⟨rfl, rfl⟩ | q
  · exact ⟨.int 8, ⟨es, n, Value.int 8 316, h1, h2, by k_is, ⟨_, rfl⟩⟩, fun B H => (.int _)⟩
  rcases look_cons q with ⟨rfl, rfl⟩ | q
  · exact ⟨.int 4, ⟨es, n, Value.int 4 318, h1, h2, by k_is, ⟨_, rfl⟩⟩, fun B H => (.int _)⟩
  rcases look_cons q with ⟨rfl, rfl⟩ | q
  · exact ⟨.int 2, ⟨es, n, Value.int 2 320, h1, h2, by k_is, ⟨_, rfl⟩⟩, fun B H => (.int _)⟩
  rcases look_cons q with ⟨rfl, rfl⟩ | q
  · exact ⟨.int 1, ⟨es, n, Value.int 1 322, h1, h2, by k_is, ⟨_, rfl⟩⟩, fun B H => (.int _)⟩
  cases q
def c_MOST_DEGREE : M := .d (.int 48)
theorem rd_134 {w : World} {B : List Addr} {H : Hp} : Dr (hd59.heap_39 w.params) B H (.ref 134) (.tuple [.int 0, .int 0, .int 1, .int 0, .int (-2), .int 0, .int 1, .int 0, .int 0]) := .tupK (xs := [.int 0, .int 0, .int 1, .int 0, .int (-2), .int 0, .int 1, .int 0, .int 0]) (by k_is) rfl rfl rfl (by decide) (.cons ⟨_, rfl⟩ (.cons ⟨_, rfl⟩ (.cons ⟨_, rfl⟩ (.cons ⟨_, rfl⟩ (.cons ⟨_, rfl⟩ (.cons ⟨_, rfl⟩ (.cons ⟨_, rfl⟩ (.cons ⟨_, rfl⟩ (.cons ⟨_, rfl⟩ (.nil)))))))))) (.cons (.int _) (.cons (.int _) (.cons (.int _) (.cons (.int _) (.cons (.int _) (.cons (.int _) (.cons (.int _) (.cons (.int _) (.cons (.int _) (.nil))))))))))
theorem rd_135 {w : World} {B : List Addr} {H : Hp} : Dr (hd59.heap_39 w.params) B H (.ref 135) (.tuple [.int 0, .int 0, .int 0, .int 0, .int 1, .int 0, .int 0, .int 0, .int (-4), .int 0, .int 0, .int 0, .int 6, .int 0, .int 0, .int 0, .int (-4), .int 0, .int 0, .int 0, .int 1, .int 0, .int 0, .int 0, .int 0]) := .tupK (xs := [.int 0, .int 0, .int 0, .int 0, .int 1, .int 0, .int 0, .int 0, .int (-4), .int 0, .int 0, .int 0, .int 6, .int 0, .int 0, .int 0, .int (-4), .int 0, .int 0, .int 0, .int 1, .int 0, .int 0, .int 0, .int 0]) (by k_is) rfl rfl rfl (by decide) (.cons ⟨_, rfl⟩ (.cons ⟨_, rfl⟩ (.cons ⟨_, rfl⟩ (.cons ⟨_, rfl⟩ (.cons ⟨_, rfl⟩ (.cons ⟨_, rfl⟩ (.cons ⟨_, rfl⟩ (.cons ⟨_, rfl⟩ (.cons ⟨_, rfl⟩ (.cons ⟨_, rfl⟩ (.cons ⟨_, rfl⟩ (.cons ⟨_, rfl⟩ (.cons ⟨_, rfl⟩ (.cons ⟨_, rfl⟩ (.cons ⟨_, rfl⟩ (.cons ⟨_, rfl⟩ (.cons ⟨_, rfl⟩ (.cons ⟨_, rfl⟩ (.cons ⟨_, rfl⟩ (.cons ⟨_, rfl⟩ (.cons ⟨_, rfl⟩ (.cons ⟨_, rfl⟩ (.cons ⟨_, rfl⟩ (.cons ⟨_, rfl⟩ (.cons ⟨_, rfl⟩ (.nil)))))))))))))))))))))))))) (.cons (.int _) (.cons (.int _) (.cons (.int _) (.cons (.int _) (.cons (.int _) (.cons (.int _) (.cons (.int _) (.cons (.int _) (.cons (.int _) (.cons (.int _) (.cons (.int _) (.cons (.int _) (.cons (.int _) (.cons (.int _) (.cons (.int _) (.cons (.int _) (.cons (.int _) (.cons (.int _) (.cons (.int _) (.cons (.int _) (.cons (.int _) (.cons (.int _) (.cons (.int _) (.cons (.int _) (.cons (.int _) (.nil))))))))))))))))))))))))))
theorem rd_136 {w : World} {B : List Addr} {H : Hp} : Dr (hd59.heap_39 w.params) B H (.ref 136) (.tuple [.int 0, .int 0, .int 0, .int 1, .int 0, .int 0, .int (-3), .int 0, .int 0, .int 3, .int 0, .int 0, .int (-1)]) := .tupK (xs := [.int 0, .int 0, .int 0, .int 1, .int 0, .int 0, .int (-3), .int 0, .int 0, .int 3, .int 0, .int 0, .int (-1)]) (by k_is) rfl rfl rfl (by decide) (.cons ⟨_, rfl⟩ (.cons ⟨_, rfl⟩ (.cons ⟨_, rfl⟩ (.cons ⟨_, rfl⟩ (.cons ⟨_, rfl⟩ (.cons ⟨_, rfl⟩ (.cons ⟨_, rfl⟩ (.cons ⟨_, rfl⟩ (.cons ⟨_, rfl⟩ (.cons ⟨_, rfl⟩ (.cons ⟨_, rfl⟩ (.cons ⟨_, rfl⟩ (.cons ⟨_, rfl⟩ (.nil)))))))))))))) (.cons (.int _) (.cons (.int _) (.cons (.int _) (.cons (.int _) (.cons (.int _) (.cons (.int _) (.cons (.int _) (.cons (.int _) (.cons (.int _) (.cons (.int _) (.cons (.int _) (.cons (.int _) (.cons (.int _) (.nil))))))))))))))
theorem rd_137 {w : World} {B : List Addr} {H : Hp} : Dr (hd59.heap_39 w.params) B H (.ref 137) (.tuple [.int 0, .int 0, .int 1, .int 0, .int (-2), .int 0, .int 1]) := .tupK (xs := [.int 0, .int 0, .int 1, .int 0, .int (-2), .int 0, .int 1]) (by k_is) rfl rfl rfl (by decide) (.cons ⟨_, rfl⟩ (.cons ⟨_, rfl⟩ (.cons ⟨_, rfl⟩ (.cons ⟨_, rfl⟩ (.cons ⟨_, rfl⟩ (.cons ⟨_, rfl⟩ (.cons ⟨_, rfl⟩ (.nil)))))))) (.cons (.int _) (.cons (.int _) (.cons (.int _) (.cons (.int _) (.cons (.int _) (.cons (.int _) (.cons (.int _) (.nil))))))))
def ks_133 : List Str := ["two", "fourfold", "three", "four"]
theorem kd_133 {w : World} : ∃ (es : Array DictEntry) (n : Nat), (hd59.heap_39 w.params).lookup 133 = some ⟨.type "dict", none, .dict es n, #[]⟩ ∧ PySem.W.KeysLit w.params es.toList ∧ es.toList.map (fun e => keyStr e.key) = ks_133.map some := by
  have h : ∃ o, (hd59.heap_39 w.params).lookup 133 = some o ∧ ∃ (es : Array DictEntry) (n : Nat), o = ⟨.type "dict", none, .dict es n, #[]⟩ ∧ PySem.W.KeysLit w.params es.toList ∧ es.toList.map (fun e => keyStr e.key) = ks_133.map some := by
    refine' ⟨_, ?a, ?b⟩
    case a => rfl
    case b => exact ⟨_, _, rfl, ⟨⟨_, _, rfl, rfl⟩, ⟨⟨_, _, rfl, rfl⟩, ⟨⟨_, _, rfl, rfl⟩, ⟨⟨_, _, rfl, rfl⟩, trivial⟩⟩⟩⟩, rfl⟩
  obtain ⟨o, h1, es, n, rfl, h2, h3⟩ := h
  exact ⟨es, n, h1, h2, h3⟩
theorem kD_133 {w : World} : ∃ es n, KDict (hd59.heap_39 w.params) w 133 es n := by
  obtain ⟨es, n, h1, h2, h3⟩ := kd_133 (w := w)
  exact ⟨es, n, h1, h2, by decide⟩
theorem kk_133 {w : World} (z : Str) : ∃ r, PySem.W.nsIn (hd59.heap_39 w.params) 133 z = some r ∧ r.isSome = ks_133.any (· == z) := by
  obtain ⟨es, n, h1, h2, h3⟩ := kd_133 (w := w)
  exact ns_keys h1 h3 z
def c_SECOND_SUMS : M := .kdc 133 [("two", .tuple [.int 0, .int 0, .int 1, .int 0, .int (-2), .int 0, .int 1, .int 0, .int 0]), ("fourfold", .tuple [.int 0, .int 0, .int 0, .int 0, .int 1, .int 0, .int 0, .int 0, .int (-4), .int 0, .int 0, .int 0, .int 6, .int 0, .int 0, .int 0, .int (-4), .int 0, .int 0, .int 0, .int 1, .int 0, .int 0, .int 0, .int 0]), ("three", .tuple [.int 0, .int 0, .int 0, .int 1, .int 0, .int 0, .int (-3), .int 0, .int 0, .int 3, .int 0, .int 0, .int (-1)]), ("four", .tuple [.int 0, .int 0, .int 1, .int 0, .int (-2), .int 0, .int 1])]
theorem rc_SECOND_SUMS {w : World} {g : Cfg} (hw : w = g.w) (ph r : List Addr) (H : Hp) : Mv (hd59.heap_39 w.params) g ph r H c_SECOND_SUMS (.ref 133) := by
  subst hw
  obtain ⟨es, n, h1, h2, _⟩ := kd_133 (w := g.w)
  refine ⟨rfl, fun z x q => ?_⟩
  rcases look_cons q with ⟨rfl, rfl⟩ | q
  · exact ⟨.ref 134, ⟨es, n, Value.ref 134, h1, h2, by k_is, rfl⟩, fun B H => rd_134⟩
  rcases look_cons q with ⟨rfl, rfl⟩ | q
  · exact ⟨.ref 135, ⟨es, n, Value.ref 135, h1, h2, by k_is, rfl⟩, fun B H => rd_135⟩
  rcases look_cons q with ⟨rfl, rfl⟩ | q
  · exact ⟨.ref 136, ⟨es, n, Value.ref 136, h1, h2, by k_is, rfl⟩, fun B H => rd_136⟩
  rcases look_cons q with ⟨rfl, rfl⟩ | q
  · exact ⟨.ref 137, ⟨es, n, Value.ref 137, h1, h2, by k_is, rfl⟩, fun B H => rd_137⟩
  cases q
theorem rd_129 {w : World} {B : List Addr} {H : Hp} : Dr (hd59.heap_39 w.params) B H (.ref 129) (.tuple [.int 1, .int 0, .int 1]) := .tupK (xs := [.int 1, .int 0, .int 1]) (by k_is) rfl rfl rfl (by decide) (.cons ⟨_, rfl⟩ (.cons ⟨_, rfl⟩ (.cons ⟨_, rfl⟩ (.nil)))) (.cons (.int _) (.cons (.int _) (.cons (.int _) (.nil))))
theorem rd_130 {w : World} {B : List Addr} {H : Hp} : Dr (hd59.heap_39 w.params) B H (.ref 130) (.tuple [.int 1, .int 0, .int 0, .int 0, .int 14, .int 0, .int 0, .int 0, .int 1]) := .tupK (xs := [.int 1, .int 0, .int 0, .int 0, .int 14, .int 0, .int 0, .int 0, .int 1]) (by k_is) rfl rfl rfl (by decide) (.cons ⟨_, rfl⟩ (.cons ⟨_, rfl⟩ (.cons ⟨_, rfl⟩ (.cons ⟨_, rfl⟩ (.cons ⟨_, rfl⟩ (.cons ⟨_, rfl⟩ (.cons ⟨_, rfl⟩ (.cons ⟨_, rfl⟩ (.cons ⟨_, rfl⟩ (.nil)))))))))) (.cons (.int _) (.cons (.int _) (.cons (.int _) (.cons (.int _) (.cons (.int _) (.cons (.int _) (.cons (.int _) (.cons (.int _) (.cons (.int _) (.nil))))))))))
theorem rd_131 {w : World} {B : List Addr} {H : Hp} : Dr (hd59.heap_39 w.params) B H (.ref 131) (.tuple [.int 1, .int 0, .int 0, .int 8, .int 0]) := .tupK (xs := [.int 1, .int 0, .int 0, .int 8, .int 0]) (by k_is) rfl rfl rfl (by decide) (.cons ⟨_, rfl⟩ (.cons ⟨_, rfl⟩ (.cons ⟨_, rfl⟩ (.cons ⟨_, rfl⟩ (.cons ⟨_, rfl⟩ (.nil)))))) (.cons (.int _) (.cons (.int _) (.cons (.int _) (.cons (.int _) (.cons (.int _) (.nil))))))
theorem rd_132 {w : World} {B : List Addr} {H : Hp} : Dr (hd59.heap_39 w.params) B H (.ref 132) (.tuple [.int 1, .int 0, .int 3]) := .tupK (xs := [.int 1, .int 0, .int 3]) (by k_is) rfl rfl rfl (by decide) (.cons ⟨_, rfl⟩ (.cons ⟨_, rfl⟩ (.cons ⟨_, rfl⟩ (.nil)))) (.cons (.int _) (.cons (.int _) (.cons (.int _) (.nil))))
def ks_128 : List Str := ["two", "fourfold", "three", "four"]
theorem kd_128 {w : World} : ∃ (es : Array DictEntry) (n : Nat), (hd59.heap_39 w.params).lookup 128 = some ⟨.type "dict", none, .dict es n, #[]⟩ ∧ PySem.W.KeysLit w.params es.toList ∧ es.toList.map (fun e => keyStr e.key) = ks_128.map some := by
  have h : ∃ o, (hd59.heap_39 w.params).lookup 128 = some o ∧ ∃ (es : Array DictEntry) (n : Nat), o = ⟨.type "dict", none, .dict es n, #[]⟩ ∧ PySem.W.KeysLit w.params es.toList ∧ es.toList.map (fun e => keyStr e.key) = ks_128.map some := by
    refine' ⟨_, ?a, ?b⟩
    case a => rfl
    case b => exact ⟨_, _, rfl, ⟨⟨_, _, rfl, rfl⟩, ⟨⟨_, _, rfl, rfl⟩, ⟨⟨_, _, rfl, rfl⟩, ⟨⟨_, _, rfl, rfl⟩, trivial⟩⟩⟩⟩, rfl⟩
  obtain ⟨o, h1, es, n, rfl, h2, h3⟩ := h
  exact ⟨es, n, h1, h2, h3⟩
theorem kD_128 {w : World} : ∃ es n, KDict (hd59.heap_39 w.params) w 128 es n := by
  obtain ⟨es, n, h1, h2, h3⟩ := kd_128 (w := w)
  exact ⟨es, n, h1, h2, by decide⟩
theorem kk_128 {w : World} (z : Str) : ∃ r, PySem.W.nsIn (hd59.heap_39 w.params) 128 z = some r ∧ r.isSome = ks_128.any (· == z) := by
  obtain ⟨es, n, h1, h2, h3⟩ := kd_128 (w := w)
  exact ns_keys h1 h3 z
def c_FIRST_SUMS : M := .kdc 128 [("two", .tuple [.int 1, .int 0, .int 1]), ("fourfold", .tuple [.int 1, .int 0, .int 0, .int 0, .int 14, .int 0, .int 0, .int 0, .int 1]), ("three", .tuple [.int 1, .int 0, .int 0, .int 8, .int 0]), ("four", .tuple [.int 1, .int 0, .int 3])]
theorem rc_FIRST_SUMS {w : World} {g : Cfg} (hw : w = g.w) (ph r : List Addr) (H : Hp) : Mv (hd59.heap_39 w.params) g ph r H c_FIRST_SUMS (.ref 128) := by
  subst hw
  obtain ⟨es, n, h1, h2, _⟩ := kd_128 (w := g.w)
  refine ⟨rfl, fun z x q => ?_⟩
  rcases look_cons q with ⟨rfl, rfl⟩ | q
  · exact ⟨.ref 129, ⟨es, n, Value.ref 129, h1, h2, by k_is, rfl⟩, fun B H => rd_129⟩
  rcases look_cons q with ⟨rfl, rfl⟩ | q
  · exact ⟨.ref 130, ⟨es, n, Value.ref 130, h1, h2, by k_is, rfl⟩, fun B H => rd_130⟩
  rcases look_cons q with ⟨rfl, rfl⟩ | q
  · exact ⟨.ref 131, ⟨es, n, Value.ref 131, h1, h2, by k_is, rfl⟩, fun B H => rd_131⟩
  rcases look_cons q with ⟨rfl, rfl⟩ | q
  · exact ⟨.ref 132, ⟨es, n, Value.ref 132, h1, h2, by k_is, rfl⟩, fun B H => rd_132⟩
  cases q
def ks_138 : List Str := ["two", "fourfold", "three", "four"]
theorem kd_138 {w : World} : ∃ (es : Array DictEntry) (n : Nat), (hd59.heap_39 w.params).lookup 138 = some ⟨.type "dict", none, .dict es n, #[]⟩ ∧ PySem.W.KeysLit w.params es.toList ∧ es.toList.map (fun e => keyStr e.key) = ks_138.map some := by
  have h : ∃ o, (hd59.heap_39 w.params).lookup 138 = some o ∧ ∃ (es : Array DictEntry) (n : Nat), o = ⟨.type "dict", none, .dict es n, #[]⟩ ∧ PySem.W.KeysLit w.params es.toList ∧ es.toList.map (fun e => keyStr e.key) = ks_138.map some := by
    refine' ⟨_, ?a, ?b⟩
    case a => rfl
    case b => exact ⟨_, _, rfl, ⟨⟨_, _, rfl, rfl⟩, ⟨⟨_, _, rfl, rfl⟩, ⟨⟨_, _, rfl, rfl⟩, ⟨⟨_, _, rfl, rfl⟩, trivial⟩⟩⟩⟩, rfl⟩
  obtain ⟨o, h1, es, n, rfl, h2, h3⟩ := h
  exact ⟨es, n, h1, h2, h3⟩
theorem kD_138 {w : World} : ∃ es n, KDict (hd59.heap_39 w.params) w 138 es n := by
  obtain ⟨es, n, h1, h2, h3⟩ := kd_138 (w := w)
  exact ⟨es, n, h1, h2, by decide⟩
theorem kk_138 {w : World} (z : Str) : ∃ r, PySem.W.nsIn (hd59.heap_39 w.params) 138 z = some r ∧ r.isSome = ks_138.any (· == z) := by
  obtain ⟨es, n, h1, h2, h3⟩ := kd_138 (w := w)
  exact ns_keys h1 h3 z
def c_GAPS : M := .kdc 138 [("two", .int 2), ("fourfold", .int 4), ("three", .int 3), ("four", .int 2)]
theorem rc_GAPS {w : World} {g : Cfg} (hw : w = g.w) (ph r : List Addr) (H : Hp) : Mv (hd59.heap_39 w.params) g ph r H c_GAPS (.ref 138) := by
  subst hw
  obtain ⟨es, n, h1, h2, _⟩ := kd_138 (w := g.w)
  refine ⟨rfl, fun z x q => ?_⟩
  rcases look_cons q with ⟨rfl, rfl⟩ | q
  · exact ⟨.int 2, ⟨es, n, Value.int 2 452, h1, h2, by k_is, ⟨_, rfl⟩⟩, fun B H => (.int _)⟩
  rcases look_cons q with ⟨rfl, rfl⟩ | q
  · exact ⟨.int 4, ⟨es, n, Value.int 4 454, h1, h2, by k_is, ⟨_, rfl⟩⟩, fun B H => (.int _)⟩
  rcases look_cons q with ⟨rfl, rfl⟩ | q
  · exact ⟨.int 3, ⟨es, n, Value.int 3 456, h1, h2, by k_is, ⟨_, rfl⟩⟩, fun B H => (.int _)⟩
  rcases look_cons q with ⟨rfl, rfl⟩ | q
  · exact ⟨.int 2, ⟨es, n, Value.int 2 458, h1, h2, by k_is, ⟨_, rfl⟩⟩, fun B H => (.int _)⟩
  cases q
end K59

end
section
set_option maxRecDepth 100000
set_option maxHeartbeats 0
namespace K59
open PySem PySem.Spec L2 Mr MrT
open PyProof.Rows hiding St
noncomputable section
def m_is_integer : Env1 → Sto → Out :=
  (sRet (eAndM (ePrim pIsi (aC (eV 0) (aC (eC (.ty "int")) aN))) (eNotM (ePrim pIsi (aC (eV 0) (aC (eC (.ty "bool")) aN))))))
def f_is_integer : List M → Sto → R M := fnM 1 m_is_integer
theorem ok_is_integer {w : World} {mg : Str → Option Value} {base : Heap} {g : Cfg} (mt : Mt w mg base g) : Dn false PP w (hd59.heap_39 w.params) mg base g 1 "is_integer" s_is_integer ["thing"] f_is_integer := by
  have m := mt.md
  obtain ⟨fd, F⟩ := d_is_integer (w := w)
  refine dn_mk m F a_is_integer sc_is_integer (fun _ _ _ _ _ _ us hl => match us, hl with | [_], _ => rfl) fun cdv A fr s H E hr hG => ?_
  exact (mss_one (ms_ret (me_andc (me_callB call_isi s_isi (m.no n_isinstance) rfl (ma_cons (me_var 0) (ma_cons (me_ty "int" (m.no n_int) rfl) ma_nil))) (me_one (me_not (me_callB call_isi s_isi (m.no n_isinstance) rfl (ma_cons (me_var 0) (ma_cons (me_ty "bool" (m.no n_bool) rfl) ma_nil))))))))
def el_is_integer_tuple_1 : Env1 → Sto → R M :=
  (eCall f_is_integer (aC (eV 2) aN))
def m_is_integer_tuple : Env1 → Sto → Out :=
  (sRet (eAndM (ePrim pIsi (aC (eV 1) (aC (eC (.ty "tuple")) aN))) (eAndM (e2 opEqU (ePrim pLen (aC (eV 1) aN)) (eV 0)) (eAllG [2] (iSeq (eV 1)) (tgN 2) el_is_integer_tuple_1))))
def f_is_integer_tuple : List M → Sto → R M := fnM 3 m_is_integer_tuple
theorem ok_is_integer_tuple {w : World} {mg : Str → Option Value} {base : Heap} {g : Cfg} (mt : Mt w mg base g) : Dn false PP w (hd59.heap_39 w.params) mg base g 3 "is_integer_tuple" s_is_integer_tuple ["many", "thing"] f_is_integer_tuple := by
  have m := mt.md
  obtain ⟨oc, od, osl, kV, doc, pm, an, ct, lk⟩ := lk_is_integer_tuple (w := w)
  refine dn_mkC m lk cd_is_integer_tuple kp_is_integer_tuple a_is_integer_tuple sc_is_integer_tuple (fun _ _ _ _ _ _ us hl => match us, hl with | [_, _], _ => rfl) fun A fr s H E hr hG => ?_
  exact (mss_one (ms_ret (me_andc (me_callB call_isi s_isi (m.no n_isinstance) rfl (ma_cons (me_var 1) (ma_cons (me_ty "tuple" (m.no n_tuple) rfl) ma_nil))) (me_andc (me_cmp (o_eq (hr.units :)) s_eqU (me_callB call_len s_len (m.no n_len) rfl (ma_cons (me_var 1) ma_nil)) (me_var 0)) (me_one (me_allG (own := [("number", 2)]) hr (m.no n_all) (mt.tb (97, 93) (by decide)) rfl (by rw [mt.gt]; first | exact List.mem_cons_self | decide +kernel) (by rw [mt.gt]; exact tk_is_integer_tuple) ⟨⟨rfl, by decide +kernel, (by dsimp only [cxOf, envOfC, GxM.gEnv, genEnv, PySem.W.envX, relabel, Env.kindOf]; first | decide +kernel | ((repeat refine List.forall_mem_cons.mpr ⟨fun hk => by first | exact absurd hk (by decide) | exact .inl rfl | exact .inr rfl | exact .inl (by decide +kernel) | exact .inr (by decide +kernel), ?_⟩); exact fun _ h => absurd h (by simp))), (by dsimp only [cxOf, envOfC, GxM.gEnv, genEnv, PySem.W.envX, relabel, Env.kindOf]; first | decide +kernel | ((repeat refine List.forall_mem_cons.mpr ⟨fun hk => by first | exact absurd hk (by decide) | exact .inl rfl | exact .inr rfl | exact .inl (by decide +kernel) | exact .inr (by decide +kernel), ?_⟩); exact fun _ h => absurd h (by simp))), (by dsimp only [cxOf, envOfC, GxM.gEnv, genEnv, PySem.W.envX, relabel, Env.kindOf]; first | decide +kernel | ((repeat refine List.forall_mem_cons.mpr ⟨fun hk => by first | exact absurd hk (by decide) | exact .inl rfl | exact .inr rfl | exact .inl (by decide +kernel) | exact .inr (by decide +kernel), ?_⟩); exact fun _ h => absurd h (by simp)))⟩, by decide +kernel, rfl, rfl⟩ sc_is_integer_tuple.nd (mi_seq (me_var 1)) (fun s H C code fp => (mg_name (vs := [2]) 2 sc_is_integer_tuple.nd)) (fun s H C code fp hr hGe => (me_callD (ok_is_integer mt) hr (by omega) (fun z => nomatch z) LamX.takes0 (ma_cons (me_var 2) ma_nil) rfl (aC_len aN_len)))))))))
def m_check_integers : Env1 → Sto → Out :=
  (sIf (tNotM (tB (eCall f_is_integer_tuple (aC (eV 0) (aC (eV 1) aN))))) (sRaise 2 "thing" (eV 1)) sNx)
def f_check_integers : List M → Sto → R M := fnM 2 m_check_integers
theorem ok_check_integers {w : World} {mg : Str → Option Value} {base : Heap} {g : Cfg} (mt : Mt w mg base g) : Dn false PP w (hd59.heap_39 w.params) mg base g 4 "check_integers" s_check_integers ["many", "thing"] f_check_integers := by
  have m := mt.md
  obtain ⟨fd, F⟩ := d_check_integers (w := w)
  refine dn_mk m F a_check_integers sc_check_integers (fun _ _ _ _ _ _ us hl => match us, hl with | [_, _], _ => rfl) fun cdv A fr s H E hr hG => ?_
  exact (mss_one (ms_if (mt_not (mt_val (me_callD (ok_is_integer_tuple mt) hr (by omega) (fun z => nomatch z) (takes_of rfl rfl rfl rfl) (ma_cons (me_var 0) (ma_cons (me_var 1) ma_nil)) rfl (aC_len (aC_len aN_len))))) (mss_one (ms_raise rfl (takes_of rfl rfl rfl rfl) (et_BadCounts m) hr (me_var 1))) mss_nil))
def m_check_family : Env1 → Sto → Out :=
  (sIf (tOrM (tNotM (tB (ePrim pIsi (aC (eV 0) (aC (eC (.ty "str")) aN))))) (tB (e2 (opInK true 106 ks_106) (eV 0) (eC c_STEPS)))) (sRaise 3 "thing" (eV 0)) sNx)
def f_check_family : List M → Sto → R M := fnM 1 m_check_family
theorem ok_check_family {w : World} {mg : Str → Option Value} {base : Heap} {g : Cfg} (mt : Mt w mg base g) : Dn false PP w (hd59.heap_39 w.params) mg base g 1 "check_family" s_check_family ["thing"] f_check_family := by
  have m := mt.md
  obtain ⟨fd, F⟩ := d_check_family (w := w)
  refine dn_mk m F a_check_family sc_check_family (fun _ _ _ _ _ _ us hl => match us, hl with | [_], _ => rfl) fun cdv A fr s H E hr hG => ?_
  exact (mss_one (ms_if (PW.pt (mw_or (mt_not (mt_val (me_callB call_isi s_isi (m.no n_isinstance) rfl (ma_cons (me_var 0) (ma_cons (me_ty "str" (m.no n_str) rfl) ma_nil))))) (mw_or1 (mt_cmp (op_notInKd kD_106) (s_inKd (neg := true) kk_106) (me_var 0) (me_glob (v := .ref 106) rfl (m.at_ g_STEPS) rfl (rc_STEPS m.gw)))))) (mss_one (ms_raise rfl (takes_of rfl rfl rfl rfl) (et_BadFamily m) hr (me_var 0))) mss_nil))
def m_check_counted_family : Env1 → Sto → Out :=
  (sSeq (sExpr (eCall f_check_family (aC (eV 0) aN)))
    (sIf (tB (e2 opEqU (eV 0) (eC (.d (.str "ring"))))) (sRaise 3 "thing" (eV 0)) sNx))
def f_check_counted_family : List M → Sto → R M := fnM 1 m_check_counted_family
theorem ok_check_counted_family {w : World} {mg : Str → Option Value} {base : Heap} {g : Cfg} (mt : Mt w mg base g) : Dn false PP w (hd59.heap_39 w.params) mg base g 2 "check_counted_family" s_check_counted_family ["thing"] f_check_counted_family := by
  have m := mt.md
  obtain ⟨fd, F⟩ := d_check_counted_family (w := w)
  refine dn_mk m F a_check_counted_family sc_check_counted_family (fun _ _ _ _ _ _ us hl => match us, hl with | [_], _ => rfl) fun cdv A fr s H E hr hG => ?_
  exact (mss_cons (ms_expr (me_callD (ok_check_family mt) hr (by omega) (fun z => nomatch z) (takes_of rfl rfl rfl rfl) (ma_cons (me_var 0) ma_nil) rfl (aC_len aN_len)))
    (mss_one (ms_if (mt_cmp (o_eq (hr.units :)) s_eqU (me_var 0) me_str) (mss_one (ms_raise rfl (takes_of rfl rfl rfl rfl) (et_BadFamily m) hr (me_var 0))) mss_nil)))
def m_are_there : Env1 → Sto → Out :=
  (sRet (e2 opEqU (e2 opMod (eV 1) (e2 opIx (eC c_STEPS) (eV 0))) (eC (.d (.int 0)))))
def f_are_there : List M → Sto → R M := fnM 2 m_are_there
theorem ok_are_there {w : World} {mg : Str → Option Value} {base : Heap} {g : Cfg} (mt : Mt w mg base g) : Dn false PP w (hd59.heap_39 w.params) mg base g 1 "are_there" s_are_there ["family", "n"] f_are_there := by
  have m := mt.md
  obtain ⟨fd, F⟩ := d_are_there (w := w)
  refine dn_mk m F a_are_there sc_are_there (fun _ _ _ _ _ _ us hl => match us, hl with | [_, _], _ => rfl) fun cdv A fr s H E hr hG => ?_
  exact (mss_one (ms_ret (me_cmp (o_eq (hr.units :)) s_eqU (me_op op_modN s_mod (me_var 1) (me_ix (hu_of hr :) m.gw (me_glob (v := .ref 106) rfl (m.at_ g_STEPS) rfl (rc_STEPS m.gw)) (me_var 0))) me_int)))
def m_check_family_length : Env1 → Sto → Out :=
  (sSeq (sExpr (eCall f_check_counted_family (aC (eV 0) aN)))
    (sIf (tOrM (tNotM (tB (eCall f_is_integer (aC (eV 1) aN)))) (tOrM (tNotM (tB (eChain opLe opLe (eC (.d (.int 1))) (eV 1) (eC c_MOST_DEGREE)))) (tNotM (tB (eCall f_are_there (aC (eV 0) (aC (eV 1) aN))))))) (sRaise 1 "thing" (eV 1)) sNx))
def f_check_family_length : List M → Sto → R M := fnM 2 m_check_family_length
theorem ok_check_family_length {w : World} {mg : Str → Option Value} {base : Heap} {g : Cfg} (mt : Mt w mg base g) : Dn false PP w (hd59.heap_39 w.params) mg base g 3 "check_family_length" s_check_family_length ["family", "n"] f_check_family_length := by
  have m := mt.md
  obtain ⟨fd, F⟩ := d_check_family_length (w := w)
  refine dn_mk m F a_check_family_length sc_check_family_length (fun _ _ _ _ _ _ us hl => match us, hl with | [_, _], _ => rfl) fun cdv A fr s H E hr hG => ?_
  exact (mss_cons (ms_expr (me_callD (ok_check_counted_family mt) hr (by omega) (fun z => nomatch z) (takes_of rfl rfl rfl rfl) (ma_cons (me_var 0) ma_nil) rfl (aC_len aN_len)))
    (mss_one (ms_if (PW.pt (mw_or (mt_not (mt_val (me_callD (ok_is_integer mt) hr (by omega) (fun z => nomatch z) (takes_of rfl rfl rfl rfl) (ma_cons (me_var 1) ma_nil) rfl (aC_len aN_len)))) (mw_or (mt_not (mt_chain op_le op_le s_le s_le me_int (me_var 1) (me_glob (v := .int (48)) rfl (m.at_ g_MOST_DEGREE) ⟨_, rfl⟩ fun _ _ _ => .int _))) (mw_or1 (mt_not (mt_val (me_callD (ok_are_there mt) hr (by omega) (fun z => nomatch z) (takes_of rfl rfl rfl rfl) (ma_cons (me_var 0) (ma_cons (me_var 1) ma_nil)) rfl (aC_len (aC_len aN_len))))))))) (mss_one (ms_raise rfl (takes_of rfl rfl rfl rfl) (et_BadLength m) hr (me_var 1))) mss_nil)))
def b_multiplied_1 : Env1 → Sto → Out :=
  (sAugL (fun i j => i + j) (eV 2) (e2 opAdd (eV 3) (eV 4)) (e2 opMulW (e2 opIx (eV 0) (eV 3)) (e2 opIx (eV 1) (eV 4))))
def b_multiplied_2 : Env1 → Sto → Out :=
  (sFor (iRng (aC (ePrim pLen (aC (eV 1) aN)) aN)) (tgN 4) b_multiplied_1)
def m_multiplied : Env1 → Sto → Out :=
  (sSeq (sSet 2 (e2O opRepO (eLst (aC (eC (.d (.int 0))) aN)) (e2 opSub (e2 opAdd (ePrim pLen (aC (eV 0) aN)) (ePrim pLen (aC (eV 1) aN))) (eC (.d (.int 1))))))
    (sSeq (sFor (iRng (aC (ePrim pLen (aC (eV 0) aN)) aN)) (tgN 3) b_multiplied_2)
    (sRet (ePrim pTuple (aC (eV 2) aN)))))
def f_multiplied : List M → Sto → R M := cutF (fnM 5 m_multiplied)
theorem ok_multiplied {w : World} {mg : Str → Option Value} {base : Heap} {g : Cfg} (mt : Mt w mg base g) : Dn false PP w (hd59.heap_39 w.params) mg base g 1 "multiplied" s_multiplied ["one", "other"] f_multiplied := by
  have m := mt.md
  obtain ⟨fd, F⟩ := d_multiplied (w := w)
  refine Dn.cut (dn_mk m F a_multiplied sc_multiplied (fun _ _ _ _ _ _ us hl => match us, hl with | [_, _], _ => rfl) fun cdv A fr s H E hr hG => ?_)
  exact (mss_cons (ms_set 2 sc_multiplied.nd (me_opO op_rep s_repO (me_lst (ma_cons me_int ma_nil)) (me_op op_sub s_sub (me_op o_add s_add (me_callB call_len s_len (m.no n_len) rfl (ma_cons (me_var 0) ma_nil)) (me_callB call_len s_len (m.no n_len) rfl (ma_cons (me_var 1) ma_nil))) me_int)))
    (mss_cons (ms_for (passes_of rfl) rfl (mi_rng1 (m.no n_range) (ma_cons (me_callB call_len s_len (m.no n_len) rfl (ma_cons (me_var 0) ma_nil)) ma_nil) rfl rfl (aC_len aN_len)) (mg_name (vs := [3]) 3 sc_multiplied.nd) (mss_one (ms_for (passes_of rfl) rfl (mi_rng1 (m.no n_range) (ma_cons (me_callB call_len s_len (m.no n_len) rfl (ma_cons (me_var 1) ma_nil)) ma_nil) rfl rfl (aC_len aN_len)) (mg_name (vs := [4]) 4 sc_multiplied.nd) (mss_one (ms_augL ip_add (me_var 2) (me_op o_add s_add (me_var 3) (me_var 4)) (me_op o_mulW s_mulW (me_ix (hu_of hr :) m.gw (me_var 0) (me_var 3)) (me_ix (hu_of hr :) m.gw (me_var 1) (me_var 4))))))))
    (mss_one (ms_ret (me_callT call_tuple_ofF s_tuple (m.no n_tuple) rfl (ma_cons (me_var 2) ma_nil))))))
def b_products_of_1 : Env1 → Sto → Out :=
  (sSet 6 (eCall f_multiplied (aC (eV 6) (aC (eV 4) aN))))
def b_products_of_2 : Env1 → Sto → Out :=
  (sSeq (sSet 6 (eV 3))
    (sSeq (sWhile (fun _ _ => 1000) (tB (e2 opLt (e2 opSub (ePrim pLen (aC (eV 6) aN)) (eC (.d (.int 1)))) (eV 1))) b_products_of_1)
    (sSeq (sExpr (eApp (eV 2) (eV 6)))
    (sSet 3 (eCall f_multiplied (aC (eV 3) (aC (eV 5) aN)))))))
def m_products_of : Env1 → Sto → Out :=
  (sSeq (sPar 4 5 (aC (e2 opIx (eC c_FIRST_SUMS) (eV 0)) (aC (e2 opIx (eC c_SECOND_SUMS) (eV 0)) aN)))
    (sSeq (sSet 2 (eLstO aN))
    (sSeq (sSet 3 (eTup (aC (eC (.d (.int 1))) aN)))
    (sSeq (sWhile (fun _ _ => 1000) (tB (e2 opLe (e2 opSub (ePrim pLen (aC (eV 3) aN)) (eC (.d (.int 1)))) (eV 1))) b_products_of_2)
    (sRet (ePrim pTuple (aC (eV 2) aN)))))))
def f_products_of : List M → Sto → R M := cutF (fnM 7 m_products_of)
theorem ok_products_of {w : World} {mg : Str → Option Value} {base : Heap} {g : Cfg} (mt : Mt w mg base g) : Dn false PP w (hd59.heap_39 w.params) mg base g 2 "products_of" s_products_of ["family", "n"] f_products_of := by
  have m := mt.md
  obtain ⟨fd, F⟩ := d_products_of (w := w)
  refine Dn.cut (dn_mk m F a_products_of sc_products_of (fun _ _ _ _ _ _ us hl => match us, hl with | [_, _], _ => rfl) fun cdv A fr s H E hr hG => ?_)
  exact (mss_cons (ms_par 4 5 rfl sc_products_of.nd (ma_cons (me_ix (hu_of hr :) m.gw (me_glob (v := .ref 128) rfl (m.at_ g_FIRST_SUMS) rfl (rc_FIRST_SUMS m.gw)) (me_var 0)) (ma_cons (me_ix (hu_of hr :) m.gw (me_glob (v := .ref 133) rfl (m.at_ g_SECOND_SUMS) rfl (rc_SECOND_SUMS m.gw)) (me_var 0)) ma_nil)))
    (mss_cons (ms_set 2 sc_products_of.nd (me_lstO ma_nil))
    (mss_cons (ms_set 3 sc_products_of.nd (me_tup (ma_cons me_int ma_nil)))
    (mss_cons (ms_while (passes_of rfl) (mt_cmp op_le s_le (me_op op_sub s_sub (me_callB call_len s_len (m.no n_len) rfl (ma_cons (me_var 3) ma_nil)) me_int) (me_var 1)) (mss_cons (ms_set 6 sc_products_of.nd (me_var 3))
    (mss_cons (ms_while (passes_of rfl) (mt_cmp op_lt s_lt (me_op op_sub s_sub (me_callB call_len s_len (m.no n_len) rfl (ma_cons (me_var 6) ma_nil)) me_int) (me_var 1)) (mss_one (ms_set 6 sc_products_of.nd (me_callD (ok_multiplied mt) hr (by omega) (fun z => nomatch z) (takes_of rfl rfl rfl rfl) (ma_cons (me_var 6) (ma_cons (me_var 4) ma_nil)) rfl (aC_len (aC_len aN_len))))))
    (mss_cons (ms_expr (me_app (me_var 2) (me_var 6)))
    (mss_one (ms_set 3 sc_products_of.nd (me_callD (ok_multiplied mt) hr (by omega) (fun z => nomatch z) (takes_of rfl rfl rfl rfl) (ma_cons (me_var 3) (ma_cons (me_var 5) ma_nil)) rfl (aC_len (aC_len aN_len)))))))))
    (mss_one (ms_ret (me_callT call_tuple_ofF s_tuple (m.no n_tuple) rfl (ma_cons (me_var 2) ma_nil))))))))
def el_summed_1 : Env1 → Sto → R M :=
  (e2 opMulW (eV 3) (eV 4))
def el_summed_2 : Env1 → Sto → R M :=
  (ePrim pSum (aC (eLc [3, 4] (iZipA2 (aC (eV 1) (aC (eV 2) aN))) (tgTup [(tgN 3), (tgN 4)]) tYesM el_summed_1) aN))
def m_summed : Env1 → Sto → Out :=
  (sRet (ePrim pTuple (aC (eLc [2] (iZipS (eV 0)) (tgN 2) tYesM el_summed_2) aN)))
def f_summed : List M → Sto → R M := fnM 5 m_summed
theorem ok_summed {w : World} {mg : Str → Option Value} {base : Heap} {g : Cfg} (mt : Mt w mg base g) : Dn false PP w (hd59.heap_39 w.params) mg base g 1 "summed" s_summed ["products", "multiples"] f_summed := by
  have m := mt.md
  obtain ⟨fd, F⟩ := d_summed (w := w)
  refine dn_mk m F a_summed sc_summed (fun _ _ _ _ _ _ us hl => match us, hl with | [_, _], _ => rfl) fun cdv A fr s H E hr hG => ?_
  exact (mss_one (ms_ret (me_callT call_tuple_ofF s_tuple (m.no n_tuple) rfl (ma_cons (me_lc (own := [("line", 2)]) rfl sc_summed.nd (mi_zipS (m.no n_zip) (me_var 0)) ⟨rfl, by decide +kernel, (by dsimp only [cxOf, envOfC, compEnvC, PySem.W.envX, relabel, Env.kindOf]; first | decide +kernel | ((repeat refine List.forall_mem_cons.mpr ⟨fun hk => by first | exact absurd hk (by decide) | exact .inl rfl | exact .inr rfl | exact .inl (by decide +kernel) | exact .inr (by decide +kernel), ?_⟩); exact fun _ h => absurd h (by simp))), (by dsimp only [cxOf, envOfC, compEnvC, PySem.W.envX, relabel, Env.kindOf]; first | decide +kernel | ((repeat refine List.forall_mem_cons.mpr ⟨fun hk => by first | exact absurd hk (by decide) | exact .inl rfl | exact .inr rfl | exact .inl (by decide +kernel) | exact .inr (by decide +kernel), ?_⟩); exact fun _ h => absurd h (by simp))), (by dsimp only [cxOf, envOfC, compEnvC, PySem.W.envX, relabel, Env.kindOf]; first | decide +kernel | ((repeat refine List.forall_mem_cons.mpr ⟨fun hk => by first | exact absurd hk (by decide) | exact .inl rfl | exact .inr rfl | exact .inl (by decide +kernel) | exact .inr (by decide +kernel), ?_⟩); exact fun _ h => absurd h (by simp)))⟩ (fun s H C cl fp => (mg_name (vs := [2]) 2 sc_summed.nd)) (fun s H C cl fp => mts_nil) (fun s H C cl fp => (me_callB (cr_sum rfl) s_sum (m.no n_sum) rfl (ma_cons (me_lc (own := [("one", 3), ("number", 4)]) rfl sc_summed.nd (mi_zipA2 (m.no n_zip) (ma_cons (me_var 1) (ma_cons (me_var 2) ma_nil))) ⟨rfl, by decide +kernel, (by dsimp only [cxOf, envOfC, compEnvC, PySem.W.envX, relabel, Env.kindOf]; first | decide +kernel | ((repeat refine List.forall_mem_cons.mpr ⟨fun hk => by first | exact absurd hk (by decide) | exact .inl rfl | exact .inr rfl | exact .inl (by decide +kernel) | exact .inr (by decide +kernel), ?_⟩); exact fun _ h => absurd h (by simp))), (by dsimp only [cxOf, envOfC, compEnvC, PySem.W.envX, relabel, Env.kindOf]; first | decide +kernel | ((repeat refine List.forall_mem_cons.mpr ⟨fun hk => by first | exact absurd hk (by decide) | exact .inl rfl | exact .inr rfl | exact .inl (by decide +kernel) | exact .inr (by decide +kernel), ?_⟩); exact fun _ h => absurd h (by simp))), (by dsimp only [cxOf, envOfC, compEnvC, PySem.W.envX, relabel, Env.kindOf]; first | decide +kernel | ((repeat refine List.forall_mem_cons.mpr ⟨fun hk => by first | exact absurd hk (by decide) | exact .inl rfl | exact .inr rfl | exact .inl (by decide +kernel) | exact .inr (by decide +kernel), ?_⟩); exact fun _ h => absurd h (by simp)))⟩ (fun s H C cl fp => (mg_tup rfl (mgs_cons (mg_name (vs := [3, 4]) 3 sc_summed.nd) (mgs_cons (mg_name (vs := [3, 4]) 4 sc_summed.nd) mgs_nil)))) (fun s H C cl fp => mts_nil) (fun s H C cl fp => (me_op o_mulW s_mulW (me_var 3) (me_var 4)))) ma_nil)))) ma_nil))))
def el_multiples_for_1 : Env1 → Sto → R M :=
  (e2 opMulW (eV 7) (e2 opIx (eV 8) (eV 5)))
def b_multiples_for_2 : Env1 → Sto → Out :=
  (sSeq (sSet 5 (e2 opMulW (e2 opIx (eC c_GAPS) (eV 0)) (eV 4)))
    (sSeq (sSet 6 (ePrim pSum (aC (eLcR [7, 8] (iZipR2 (aC (eV 3) (aC (eV 1) aN))) (tgTup [(tgN 7), (tgN 8)]) tYesM el_multiples_for_1) aN)))
    (sExpr (eApp (eV 3) (e2 opSub (e2 opIx (eV 2) (eV 4)) (eV 6))))))
def m_multiples_for : Env1 → Sto → Out :=
  (sSeq (sSet 3 (eLstO aN))
    (sSeq (sFor (iRng (aC (ePrim pLen (aC (eV 1) aN)) aN)) (tgN 4) b_multiples_for_2)
    (sRet (ePrim pTuple (aC (eV 3) aN)))))
def f_multiples_for : List M → Sto → R M := cutF (fnM 9 m_multiples_for)
theorem ok_multiples_for {w : World} {mg : Str → Option Value} {base : Heap} {g : Cfg} (mt : Mt w mg base g) : Dn false PP w (hd59.heap_39 w.params) mg base g 1 "multiples_for" s_multiples_for ["family", "products", "firsts"] f_multiples_for := by
  have m := mt.md
  obtain ⟨fd, F⟩ := d_multiples_for (w := w)
  refine Dn.cut (dn_mk m F a_multiples_for sc_multiples_for (fun _ _ _ _ _ _ us hl => match us, hl with | [_, _, _], _ => rfl) fun cdv A fr s H E hr hG => ?_)
  exact (mss_cons (ms_set 3 sc_multiples_for.nd (me_lstO ma_nil))
    (mss_cons (ms_for (passes_of rfl) rfl (mi_rng1 (m.no n_range) (ma_cons (me_callB call_len s_len (m.no n_len) rfl (ma_cons (me_var 1) ma_nil)) ma_nil) rfl rfl (aC_len aN_len)) (mg_name (vs := [4]) 4 sc_multiples_for.nd) (mss_cons (ms_set 5 sc_multiples_for.nd (me_op o_mulW s_mulW (me_ix (hu_of hr :) m.gw (me_glob (v := .ref 138) rfl (m.at_ g_GAPS) rfl (rc_GAPS m.gw)) (me_var 0)) (me_var 4)))
    (mss_cons (ms_set 6 sc_multiples_for.nd (me_callB (cr_sum rfl) s_sum (m.no n_sum) rfl (ma_cons (me_lcR (own := [("one", 7), ("product", 8)]) rfl sc_multiples_for.nd (mi_zipR2 (m.no n_zip) (ma_cons (me_var 3) (ma_cons (me_var 1) ma_nil))) ⟨rfl, by decide +kernel, (by dsimp only [cxOf, envOfC, compEnvC, PySem.W.envX, relabel, Env.kindOf]; first | decide +kernel | ((repeat refine List.forall_mem_cons.mpr ⟨fun hk => by first | exact absurd hk (by decide) | exact .inl rfl | exact .inr rfl | exact .inl (by decide +kernel) | exact .inr (by decide +kernel), ?_⟩); exact fun _ h => absurd h (by simp))), (by dsimp only [cxOf, envOfC, compEnvC, PySem.W.envX, relabel, Env.kindOf]; first | decide +kernel | ((repeat refine List.forall_mem_cons.mpr ⟨fun hk => by first | exact absurd hk (by decide) | exact .inl rfl | exact .inr rfl | exact .inl (by decide +kernel) | exact .inr (by decide +kernel), ?_⟩); exact fun _ h => absurd h (by simp))), (by dsimp only [cxOf, envOfC, compEnvC, PySem.W.envX, relabel, Env.kindOf]; first | decide +kernel | ((repeat refine List.forall_mem_cons.mpr ⟨fun hk => by first | exact absurd hk (by decide) | exact .inl rfl | exact .inr rfl | exact .inl (by decide +kernel) | exact .inr (by decide +kernel), ?_⟩); exact fun _ h => absurd h (by simp)))⟩ (fun s H C cl fp => (mg_tup rfl (mgs_cons (mg_name (vs := [7, 8]) 7 sc_multiples_for.nd) (mgs_cons (mg_name (vs := [7, 8]) 8 sc_multiples_for.nd) mgs_nil)))) (fun s H C cl fp => mts_nil) (fun s H C cl fp => (me_op o_mulW s_mulW (me_var 7) (me_ix (hu_of hr :) m.gw (me_var 8) (me_var 5))))) ma_nil)))
    (mss_one (ms_expr (me_app (me_var 3) (me_op op_sub s_sub (me_ix (hu_of hr :) m.gw (me_var 2) (me_var 4)) (me_var 6))))))))
    (mss_one (ms_ret (me_callT call_tuple_ofF s_tuple (m.no n_tuple) rfl (ma_cons (me_var 3) ma_nil))))))
def m_told_products : Env1 → Sto → Out :=
  (sSeq (sExpr (eCall f_check_family_length (aC (eV 0) (aC (eV 1) aN))))
    (sRet (eCall f_products_of (aC (eV 0) (aC (eV 1) aN)))))
def f_told_products : List M → Sto → R M := fnM 2 m_told_products
theorem ok_told_products {w : World} {mg : Str → Option Value} {base : Heap} {g : Cfg} (mt : Mt w mg base g) : Dn false PP w (hd59.heap_39 w.params) mg base g 4 "told_products" s_told_products ["family", "n"] f_told_products := by
  have m := mt.md
  obtain ⟨fd, F⟩ := d_told_products (w := w)
  refine dn_mk m F a_told_products sc_told_products (fun _ _ _ _ _ _ us hl => match us, hl with | [_, _], _ => rfl) fun cdv A fr s H E hr hG => ?_
  exact (mss_cons (ms_expr (me_callD (ok_check_family_length mt) hr (by omega) (fun z => nomatch z) (takes_of rfl rfl rfl rfl) (ma_cons (me_var 0) (ma_cons (me_var 1) ma_nil)) rfl (aC_len (aC_len aN_len))))
    (mss_one (ms_ret (me_callD (ok_products_of mt) hr (by omega) (fun z => nomatch z) (takes_of rfl rfl rfl rfl) (ma_cons (me_var 0) (ma_cons (me_var 1) ma_nil)) rfl (aC_len (aC_len aN_len))))))
def m_numbers_from : Env1 → Sto → Out :=
  (sSeq (sSet 3 (eCall f_products_of (aC (eV 0) (aC (eV 1) aN))))
    (sRet (eCall f_summed (aC (eV 3) (aC (eCall f_multiples_for (aC (eV 0) (aC (eV 3) (aC (eV 2) aN)))) aN)))))
def f_numbers_from : List M → Sto → R M := fnM 4 m_numbers_from
theorem ok_numbers_from {w : World} {mg : Str → Option Value} {base : Heap} {g : Cfg} (mt : Mt w mg base g) : Dn false PP w (hd59.heap_39 w.params) mg base g 3 "numbers_from" s_numbers_from ["family", "n", "firsts"] f_numbers_from := by
  have m := mt.md
  obtain ⟨fd, F⟩ := d_numbers_from (w := w)
  refine dn_mk m F a_numbers_from sc_numbers_from (fun _ _ _ _ _ _ us hl => match us, hl with | [_, _, _], _ => rfl) fun cdv A fr s H E hr hG => ?_
  exact (mss_cons (ms_set 3 sc_numbers_from.nd (me_callD (ok_products_of mt) hr (by omega) (fun z => nomatch z) (takes_of rfl rfl rfl rfl) (ma_cons (me_var 0) (ma_cons (me_var 1) ma_nil)) rfl (aC_len (aC_len aN_len))))
    (mss_one (ms_ret (me_callD (ok_summed mt) hr (by omega) (fun z => nomatch z) (takes_of rfl rfl rfl rfl) (ma_cons (me_var 3) (ma_cons (me_callD (ok_multiples_for mt) hr (by omega) (fun z => nomatch z) (takes_of rfl rfl rfl rfl) (ma_cons (me_var 0) (ma_cons (me_var 3) (ma_cons (me_var 2) ma_nil))) rfl (aC_len (aC_len (aC_len aN_len)))) ma_nil)) rfl (aC_len (aC_len aN_len))))))
def m_products_number : Env1 → Sto → Out :=
  (sRet (e2 opAdd (e2 opFdiv (eV 1) (e2 opSub (ePrim pLen (aC (e2 opIx (eC c_SECOND_SUMS) (eV 0)) aN)) (eC (.d (.int 1))))) (eC (.d (.int 1)))))
def f_products_number : List M → Sto → R M := fnM 2 m_products_number
theorem ok_products_number {w : World} {mg : Str → Option Value} {base : Heap} {g : Cfg} (mt : Mt w mg base g) : Dn false PP w (hd59.heap_39 w.params) mg base g 1 "products_number" s_products_number ["family", "n"] f_products_number := by
  have m := mt.md
  obtain ⟨fd, F⟩ := d_products_number (w := w)
  refine dn_mk m F a_products_number sc_products_number (fun _ _ _ _ _ _ us hl => match us, hl with | [_, _], _ => rfl) fun cdv A fr s H E hr hG => ?_
  exact (mss_one (ms_ret (me_op o_add s_add (me_op op_fdivN s_fdiv (me_var 1) (me_op op_sub s_sub (me_callB call_len s_len (m.no n_len) rfl (ma_cons (me_ix (hu_of hr :) m.gw (me_glob (v := .ref 133) rfl (m.at_ g_SECOND_SUMS) rfl (rc_SECOND_SUMS m.gw)) (me_var 0)) ma_nil)) me_int)) me_int)))
def m_counts_from : Env1 → Sto → Out :=
  (sSeq (sExpr (eCall f_check_family_length (aC (eV 0) (aC (eV 1) aN))))
    (sSeq (sExpr (eCall f_check_integers (aC (eCall f_products_number (aC (eV 0) (aC (eV 1) aN))) (aC (eV 2) aN))))
    (sRet (eCall f_numbers_from (aC (eV 0) (aC (eV 1) (aC (eV 2) aN)))))))
def f_counts_from : List M → Sto → R M := fnM 3 m_counts_from
theorem ok_counts_from {w : World} {mg : Str → Option Value} {base : Heap} {g : Cfg} (mt : Mt w mg base g) : Dn false PP w (hd59.heap_39 w.params) mg base g 5 "counts_from" s_counts_from ["family", "n", "firsts"] f_counts_from := by
  have m := mt.md
  obtain ⟨fd, F⟩ := d_counts_from (w := w)
  refine dn_mk m F a_counts_from sc_counts_from (fun _ _ _ _ _ _ us hl => match us, hl with | [_, _, _], _ => rfl) fun cdv A fr s H E hr hG => ?_
  exact (mss_cons (ms_expr (me_callD (ok_check_family_length mt) hr (by omega) (fun z => nomatch z) (takes_of rfl rfl rfl rfl) (ma_cons (me_var 0) (ma_cons (me_var 1) ma_nil)) rfl (aC_len (aC_len aN_len))))
    (mss_cons (ms_expr (me_callD (ok_check_integers mt) hr (by omega) (fun z => nomatch z) (takes_of rfl rfl rfl rfl) (ma_cons (me_callD (ok_products_number mt) hr (by omega) (fun z => nomatch z) (takes_of rfl rfl rfl rfl) (ma_cons (me_var 0) (ma_cons (me_var 1) ma_nil)) rfl (aC_len (aC_len aN_len))) (ma_cons (me_var 2) ma_nil)) rfl (aC_len (aC_len aN_len))))
    (mss_one (ms_ret (me_callD (ok_numbers_from mt) hr (by omega) (fun z => nomatch z) (takes_of rfl rfl rfl rfl) (ma_cons (me_var 0) (ma_cons (me_var 1) (ma_cons (me_var 2) ma_nil))) rfl (aC_len (aC_len (aC_len aN_len))))))))
def m_least_bound : Env1 → Sto → Out :=
  (sSeq (sExpr (eCall f_check_family_length (aC (eV 0) (aC (eV 1) aN))))
    (sRet (e2 opMulW (e2 opIx (eC c_GAPS) (eV 0)) (eCall f_products_number (aC (eV 0) (aC (eV 1) aN))))))
def f_least_bound : List M → Sto → R M := fnM 2 m_least_bound
theorem ok_least_bound {w : World} {mg : Str → Option Value} {base : Heap} {g : Cfg} (mt : Mt w mg base g) : Dn false PP w (hd59.heap_39 w.params) mg base g 4 "least_bound" s_least_bound ["family", "n"] f_least_bound := by
  have m := mt.md
  obtain ⟨fd, F⟩ := d_least_bound (w := w)
  refine dn_mk m F a_least_bound sc_least_bound (fun _ _ _ _ _ _ us hl => match us, hl with | [_, _], _ => rfl) fun cdv A fr s H E hr hG => ?_
  exact (mss_cons (ms_expr (me_callD (ok_check_family_length mt) hr (by omega) (fun z => nomatch z) (takes_of rfl rfl rfl rfl) (ma_cons (me_var 0) (ma_cons (me_var 1) ma_nil)) rfl (aC_len (aC_len aN_len))))
    (mss_one (ms_ret (me_op o_mulW s_mulW (me_ix (hu_of hr :) m.gw (me_glob (v := .ref 138) rfl (m.at_ g_GAPS) rfl (rc_GAPS m.gw)) (me_var 0)) (me_callD (ok_products_number mt) hr (by omega) (fun z => nomatch z) (takes_of rfl rfl rfl rfl) (ma_cons (me_var 0) (ma_cons (me_var 1) ma_nil)) rfl (aC_len (aC_len aN_len)))))))
def m_extreme_counts : Env1 → Sto → Out :=
  (sSeq (sExpr (eCall f_check_family_length (aC (eV 0) (aC (eV 1) aN))))
    (sRet (eCall f_numbers_from (aC (eV 0) (aC (eV 1) (aC (e2 opAdd (eTup (aC (eC (.d (.int 1))) aN)) (e2 opMulW (eTup (aC (eC (.d (.int 0))) aN)) (e2 opSub (eCall f_products_number (aC (eV 0) (aC (eV 1) aN))) (eC (.d (.int 1)))))) aN))))))
def f_extreme_counts : List M → Sto → R M := fnM 2 m_extreme_counts
theorem ok_extreme_counts {w : World} {mg : Str → Option Value} {base : Heap} {g : Cfg} (mt : Mt w mg base g) : Dn false PP w (hd59.heap_39 w.params) mg base g 4 "extreme_counts" s_extreme_counts ["family", "n"] f_extreme_counts := by
  have m := mt.md
  obtain ⟨fd, F⟩ := d_extreme_counts (w := w)
  refine dn_mk m F a_extreme_counts sc_extreme_counts (fun _ _ _ _ _ _ us hl => match us, hl with | [_, _], _ => rfl) fun cdv A fr s H E hr hG => ?_
  exact (mss_cons (ms_expr (me_callD (ok_check_family_length mt) hr (by omega) (fun z => nomatch z) (takes_of rfl rfl rfl rfl) (ma_cons (me_var 0) (ma_cons (me_var 1) ma_nil)) rfl (aC_len (aC_len aN_len))))
    (mss_one (ms_ret (me_callD (ok_numbers_from mt) hr (by omega) (fun z => nomatch z) (takes_of rfl rfl rfl rfl) (ma_cons (me_var 0) (ma_cons (me_var 1) (ma_cons (me_op o_add s_add (me_tup (ma_cons me_int ma_nil)) (me_op o_mulW s_mulW (me_tup (ma_cons me_int ma_nil)) (me_op op_sub s_sub (me_callD (ok_products_number mt) hr (by omega) (fun z => nomatch z) (takes_of rfl rfl rfl rfl) (ma_cons (me_var 0) (ma_cons (me_var 1) ma_nil)) rfl (aC_len (aC_len aN_len))) me_int))) ma_nil))) rfl (aC_len (aC_len (aC_len aN_len)))))))
def b__law_deck_1 : Env1 → Sto → Out :=
  (sSet 1 (e2 opMod (ePrim pInt (aC (e2 opAdd (e2 opAdd (e2 opMulW (eV 1) (eC (.d (.int 69621)))) (e2 opMod (ePrim pInt (aC (eV 2) aN)) (eC (.d (.int 2147483563))))) (eC (.d (.int 51)))) aN)) (eC (.d (.int 2147483629)))))
def m__law_deck : Env1 → Sto → Out :=
  (sSeq (sSet 1 (eC (.d (.int 10885059))))
    (sSeq (sFor (iSeq (eSl (eV 0) oN (oS (eC (.d (.int 63)))))) (tgN 2) b__law_deck_1)
    (sRet (eDicO (((eC (.d (.str "left"))), (eRevO (ePrim pListU (aC (eSl (eV 0) oN (oS (eC (.d (.int 63))))) aN)))) :: (((eC (.d (.str "mixed"))), (eV 1)) :: (((eC (.d (.str "draws"))), (eC (.d (.int 0)))) :: [])))))))
def f__law_deck : List M → Sto → R M := fnM 3 m__law_deck
theorem ok__law_deck {w : World} {mg : Str → Option Value} {base : Heap} {g : Cfg} (mt : Mt w mg base g) : Dn true PP w (hd59.heap_39 w.params) mg base g 1 "_law_deck" s__law_deck ["_law_script"] f__law_deck := by
  have m := mt.md
  obtain ⟨fd, F⟩ := d__law_deck (w := w)
  refine dn_mk m F a__law_deck sc__law_deck (fun _ _ _ _ _ _ us hl => match us, hl with | [_], _ => rfl) fun cdv A fr s H E hr hG => ?_
  exact (mss_cons (ms_set 1 sc__law_deck.nd me_int)
    (mss_cons (ms_for (passes_of rfl) rfl (mi_seq (me_sl (me_var 0) mo_none (mo_some me_int))) (mg_name (vs := [2]) 2 sc__law_deck.nd) (mss_one (ms_set 1 sc__law_deck.nd (me_op op_modN s_mod (me_callT call_int1 s_pint (m.no n_int) rfl (ma_cons (me_op o_add s_add (me_op o_add s_add (me_op o_mulW s_mulW (me_var 1) me_int) (me_op op_modN s_mod (me_callT call_int1 s_pint (m.no n_int) rfl (ma_cons (me_var 2) ma_nil)) me_int)) me_int) ma_nil)) me_int))))
    (mss_one (ms_ret (me_dicO (mp_cons me_str (me_revO (me_callT call_list_of s_listU (m.no n_list) rfl (ma_cons (me_sl (me_var 0) mo_none (mo_some me_int)) ma_nil))) (mp_cons me_str (me_var 1) (mp_cons me_str me_int mp_nil))))))))
def m__law_draw : Env1 → Sto → Out :=
  (sSeq (sPut (eV 0) (eC (.d (.str "draws"))) (e2 opAdd (e2 opIx (eV 0) (eC (.d (.str "draws")))) (eC (.d (.int 1)))))
    (sSeq (sIf (tB (e2 opNeU (e2 opIx (eV 0) (eC (.d (.str "left")))) (eLst aN))) (sSeq (sSet 3 (ePop (e2 opIx (eV 0) (eC (.d (.str "left"))))))
    (sSeq (sIf (tB (e2 opGe (eV 3) (e2 opPow (eC (.d (.int 10))) (eC (.d (.int 18)))))) (sSeq (sExpr (eApp (e2 opIx (eV 0) (eC (.d (.str "left")))) (e2 opFdiv (eV 3) (ePrim pMax2 (aC (eC (.d (.int 2))) (aC (eV 1) aN))))))
    (sRet (e2 opMod (ePrim pInt (aC (eV 3) aN)) (eV 1)))) sNx)
    (sPut (eV 0) (eC (.d (.str "mixed"))) (e2 opMod (ePrim pInt (aC (e2 opAdd (e2 opAdd (e2 opMulW (e2 opIx (eV 0) (eC (.d (.str "mixed")))) (eC (.d (.int 48271)))) (e2 opMod (ePrim pInt (aC (eV 3) aN)) (eC (.d (.int 2147483629))))) (eC (.d (.int 9)))) aN)) (eC (.d (.int 2147483647))))))) sNx)
    (sSeq (sSet 2 (e2 opMod (ePrim pInt (aC (e2 opAdd (e2 opIx (eV 0) (eC (.d (.str "mixed")))) (e2 opMulW (eC (.d (.int 44497))) (e2 opIx (eV 0) (eC (.d (.str "draws")))))) aN)) (eC (.d (.int 2147483587)))))
    (sSeq (sSet 2 (e2 opMod (ePrim pInt (aC (e2 opAdd (e2 opAdd (e2 opMulW (eV 2) (eV 2)) (e2 opMulW (eC (.d (.int 40014))) (e2 opIx (eV 0) (eC (.d (.str "draws")))))) (eC (.d (.int 21)))) aN)) (eC (.d (.int 2147483563)))))
    (sSeq (sSet 2 (e2 opMod (ePrim pInt (aC (e2 opAdd (e2 opMulW (eV 2) (eC (.d (.int 39373)))) (eC (.d (.int 8)))) aN)) (eC (.d (.int 2147483647)))))
    (sRet (e2 opMod (ePrim pInt (aC (e2 opFdiv (eV 2) (eC (.d (.int 64)))) aN)) (eV 1))))))))
def f__law_draw : List M → Sto → R M := fnM 4 m__law_draw
theorem ok__law_draw {w : World} {mg : Str → Option Value} {base : Heap} {g : Cfg} (mt : Mt w mg base g) : Dn true PP w (hd59.heap_39 w.params) mg base g 1 "_law_draw" s__law_draw ["_law_deck_here", "_law_many"] f__law_draw := by
  have m := mt.md
  obtain ⟨fd, F⟩ := d__law_draw (w := w)
  refine dn_mk m F a__law_draw sc__law_draw (fun _ _ _ _ _ _ us hl => match us, hl with | [_, _], _ => rfl) fun cdv A fr s H E hr hG => ?_
  exact (mss_cons (ms_put (hu_of hr :) (me_var 0) me_str (me_op o_add s_add (me_ix (hu_of hr :) m.gw (me_var 0) me_str) me_int))
    (mss_cons (ms_if (mt_cmp (o_ne (hr.units :)) s_neU (me_ix (hu_of hr :) m.gw (me_var 0) me_str) (me_lst ma_nil)) (mss_cons (ms_set 3 sc__law_draw.nd (me_pop (me_ix (hu_of hr :) m.gw (me_var 0) me_str)))
    (mss_cons (ms_if (mt_cmp op_ge s_ge (me_var 3) (me_op op_pow s_pow me_int me_int)) (mss_cons (ms_expr (me_app (me_ix (hu_of hr :) m.gw (me_var 0) me_str) (me_op op_fdivN s_fdiv (me_var 3) (me_callB (call_max2 rfl) s_max2 (m.no n_max) rfl (ma_cons me_int (ma_cons (me_var 1) ma_nil))))))
    (mss_one (ms_ret (me_op op_modN s_mod (me_callT call_int1 s_pint (m.no n_int) rfl (ma_cons (me_var 3) ma_nil)) (me_var 1))))) mss_nil)
    (mss_one (ms_put (hu_of hr :) (me_var 0) me_str (me_op op_modN s_mod (me_callT call_int1 s_pint (m.no n_int) rfl (ma_cons (me_op o_add s_add (me_op o_add s_add (me_op o_mulW s_mulW (me_ix (hu_of hr :) m.gw (me_var 0) me_str) me_int) (me_op op_modN s_mod (me_callT call_int1 s_pint (m.no n_int) rfl (ma_cons (me_var 3) ma_nil)) me_int)) me_int) ma_nil)) me_int))))) mss_nil)
    (mss_cons (ms_set 2 sc__law_draw.nd (me_op op_modN s_mod (me_callT call_int1 s_pint (m.no n_int) rfl (ma_cons (me_op o_add s_add (me_ix (hu_of hr :) m.gw (me_var 0) me_str) (me_op o_mulW s_mulW me_int (me_ix (hu_of hr :) m.gw (me_var 0) me_str))) ma_nil)) me_int))
    (mss_cons (ms_set 2 sc__law_draw.nd (me_op op_modN s_mod (me_callT call_int1 s_pint (m.no n_int) rfl (ma_cons (me_op o_add s_add (me_op o_add s_add (me_op o_mulW s_mulW (me_var 2) (me_var 2)) (me_op o_mulW s_mulW me_int (me_ix (hu_of hr :) m.gw (me_var 0) me_str))) me_int) ma_nil)) me_int))
    (mss_cons (ms_set 2 sc__law_draw.nd (me_op op_modN s_mod (me_callT call_int1 s_pint (m.no n_int) rfl (ma_cons (me_op o_add s_add (me_op o_mulW s_mulW (me_var 2) me_int) me_int) ma_nil)) me_int))
    (mss_one (ms_ret (me_op op_modN s_mod (me_callT call_int1 s_pint (m.no n_int) rfl (ma_cons (me_op op_fdivN s_fdiv (me_var 2) me_int) ma_nil)) (me_var 1)))))))))
def m__law_pick : Env1 → Sto → Out :=
  (sRet (e2 opIx (eV 1) (eCall f__law_draw (aC (eV 0) (aC (ePrim pLen (aC (eV 1) aN)) aN)))))
def f__law_pick : List M → Sto → R M := fnM 2 m__law_pick
theorem ok__law_pick {w : World} {mg : Str → Option Value} {base : Heap} {g : Cfg} (mt : Mt w mg base g) : Dn true PP w (hd59.heap_39 w.params) mg base g 2 "_law_pick" s__law_pick ["_law_deck_here", "_law_some"] f__law_pick := by
  have m := mt.md
  obtain ⟨fd, F⟩ := d__law_pick (w := w)
  refine dn_mk m F a__law_pick sc__law_pick (fun _ _ _ _ _ _ us hl => match us, hl with | [_, _], _ => rfl) fun cdv A fr s H E hr hG => ?_
  exact (mss_one (ms_ret (me_ix (hu_of hr :) m.gw (me_var 1) (me_callD (ok__law_draw mt) hr (by omega) hG (takes_of rfl rfl rfl rfl) (ma_cons (me_var 0) (ma_cons (me_callB call_len s_len (m.no n_len) rfl (ma_cons (me_var 1) ma_nil)) ma_nil)) rfl (aC_len (aC_len aN_len))))))
def m__law_same : Env1 → Sto → Out :=
  (sRet (e2 opEqU (ePrim pReprU (aC (eV 0) aN)) (ePrim pReprU (aC (eV 1) aN))))
def f__law_same : List M → Sto → R M := fnM 2 m__law_same
theorem ok__law_same {w : World} {mg : Str → Option Value} {base : Heap} {g : Cfg} (mt : Mt w mg base g) : Dn true PP w (hd59.heap_39 w.params) mg base g 1 "_law_same" s__law_same ["_law_told", "_law_due"] f__law_same := by
  have m := mt.md
  obtain ⟨fd, F⟩ := d__law_same (w := w)
  refine dn_mk m F a__law_same sc__law_same (fun _ _ _ _ _ _ us hl => match us, hl with | [_, _], _ => rfl) fun cdv A fr s H E hr hG => ?_
  exact (mss_one (ms_ret (me_cmp (o_eq (hr.units :)) s_eqU (me_callB (call_repr_d hr (hG rfl) m.sys) s_reprU (m.no n_repr) rfl (ma_cons (me_var 0) ma_nil)) (me_callB (call_repr_d hr (hG rfl) m.sys) s_reprU (m.no n_repr) rfl (ma_cons (me_var 1) ma_nil)))))
def m__law_facts : Env1 → Sto → Out :=
  (sRet (e2 opIx (eDic (((eC (.d (.str "two"))), (eTup (aC (eC (.d (.int 2))) (aC (eC (.d (.int 8))) (aC (eC (.d (.int 2))) aN))))) :: (((eC (.d (.str "fourfold"))), (eTup (aC (eC (.d (.int 8))) (aC (eC (.d (.int 24))) (aC (eC (.d (.int 4))) aN))))) :: (((eC (.d (.str "three"))), (eTup (aC (eC (.d (.int 4))) (aC (eC (.d (.int 12))) (aC (eC (.d (.int 3))) aN))))) :: (((eC (.d (.str "four"))), (eTup (aC (eC (.d (.int 2))) (aC (eC (.d (.int 6))) (aC (eC (.d (.int 2))) aN))))) :: []))))) (eV 0)))
def f__law_facts : List M → Sto → R M := fnM 1 m__law_facts
theorem ok__law_facts {w : World} {mg : Str → Option Value} {base : Heap} {g : Cfg} (mt : Mt w mg base g) : Dn true PP w (hd59.heap_39 w.params) mg base g 1 "_law_facts" s__law_facts ["_law_family"] f__law_facts := by
  have m := mt.md
  obtain ⟨fd, F⟩ := d__law_facts (w := w)
  refine dn_mk m F a__law_facts sc__law_facts (fun _ _ _ _ _ _ us hl => match us, hl with | [_], _ => rfl) fun cdv A fr s H E hr hG => ?_
  exact (mss_one (ms_ret (me_ix (hu_of hr :) m.gw (me_dic (mp_cons me_str (me_tup (ma_cons me_int (ma_cons me_int (ma_cons me_int ma_nil)))) (mp_cons me_str (me_tup (ma_cons me_int (ma_cons me_int (ma_cons me_int ma_nil)))) (mp_cons me_str (me_tup (ma_cons me_int (ma_cons me_int (ma_cons me_int ma_nil)))) (mp_cons me_str (me_tup (ma_cons me_int (ma_cons me_int (ma_cons me_int ma_nil)))) mp_nil))))) (me_var 0))))
def b__law_power_1 : Env1 → Sto → Out :=
  (sSet 2 (e2 opMulW (eV 2) (eV 0)))
def m__law_power : Env1 → Sto → Out :=
  (sSeq (sSet 2 (eC (.d (.int 1))))
    (sSeq (sFor (iRng (aC (eV 1) aN)) (tgN 3) b__law_power_1)
    (sRet (eV 2))))
def f__law_power : List M → Sto → R M := fnM 4 m__law_power
theorem ok__law_power {w : World} {mg : Str → Option Value} {base : Heap} {g : Cfg} (mt : Mt w mg base g) : Dn true PP w (hd59.heap_39 w.params) mg base g 1 "_law_power" s__law_power ["_law_number", "_law_many"] f__law_power := by
  have m := mt.md
  obtain ⟨fd, F⟩ := d__law_power (w := w)
  refine dn_mk m F a__law_power sc__law_power (fun _ _ _ _ _ _ us hl => match us, hl with | [_, _], _ => rfl) fun cdv A fr s H E hr hG => ?_
  exact (mss_cons (ms_set 2 sc__law_power.nd me_int)
    (mss_cons (ms_for (passes_of rfl) rfl (mi_rng1 (m.no n_range) (ma_cons (me_var 1) ma_nil) rfl rfl (aC_len aN_len)) (mg_name (vs := [3]) 3 sc__law_power.nd) (mss_one (ms_set 2 sc__law_power.nd (me_op o_mulW s_mulW (me_var 2) (me_var 0)))))
    (mss_one (ms_ret (me_var 2)))))
def m__law_values : Env1 → Sto → Out :=
  (sSeq (sIf (tB (e2 opEqU (eV 0) (eC (.d (.str "two"))))) (sRet (eTup (aC (e2 opAdd (eC (.d (.int 1))) (e2 opMulW (eV 1) (eV 1))) (aC (e2 opMulW (e2 opMulW (e2 opMulW (eV 1) (eV 1)) (e2 opSub (eC (.d (.int 1))) (e2 opMulW (eV 1) (eV 1)))) (e2 opSub (eC (.d (.int 1))) (e2 opMulW (eV 1) (eV 1)))) aN)))) sNx)
    (sSeq (sIf (tB (e2 opEqU (eV 0) (eC (.d (.str "three"))))) (sSeq (sSet 3 (e2 opMulW (e2 opMulW (eV 1) (eV 1)) (eV 1)))
    (sRet (eTup (aC (e2 opAdd (eC (.d (.int 1))) (e2 opMulW (eC (.d (.int 8))) (eV 3))) (aC (e2 opMulW (e2 opMulW (e2 opMulW (eV 3) (e2 opSub (eC (.d (.int 1))) (eV 3))) (e2 opSub (eC (.d (.int 1))) (eV 3))) (e2 opSub (eC (.d (.int 1))) (eV 3))) aN))))) sNx)
    (sSeq (sIf (tB (e2 opEqU (eV 0) (eC (.d (.str "four"))))) (sRet (eTup (aC (e2 opAdd (eC (.d (.int 1))) (e2 opMulW (e2 opMulW (eC (.d (.int 3))) (eV 1)) (eV 1))) (aC (e2 opMulW (e2 opMulW (e2 opMulW (eV 1) (eV 1)) (e2 opSub (eC (.d (.int 1))) (e2 opMulW (eV 1) (eV 1)))) (e2 opSub (eC (.d (.int 1))) (e2 opMulW (eV 1) (eV 1)))) aN)))) sNx)
    (sSeq (sSet 2 (e2 opMulW (e2 opMulW (e2 opMulW (eV 1) (eV 1)) (eV 1)) (eV 1)))
    (sRet (eTup (aC (e2 opAdd (e2 opAdd (eC (.d (.int 1))) (e2 opMulW (eC (.d (.int 14))) (eV 2))) (e2 opMulW (eV 2) (eV 2))) (aC (e2 opMulW (eV 2) (eCall f__law_power (aC (e2 opSub (eC (.d (.int 1))) (eV 2)) (aC (eC (.d (.int 4))) aN)))) aN))))))))
def f__law_values : List M → Sto → R M := fnM 4 m__law_values
theorem ok__law_values {w : World} {mg : Str → Option Value} {base : Heap} {g : Cfg} (mt : Mt w mg base g) : Dn true PP w (hd59.heap_39 w.params) mg base g 2 "_law_values" s__law_values ["_law_family", "_law_y"] f__law_values := by
  have m := mt.md
  obtain ⟨fd, F⟩ := d__law_values (w := w)
  refine dn_mk m F a__law_values sc__law_values (fun _ _ _ _ _ _ us hl => match us, hl with | [_, _], _ => rfl) fun cdv A fr s H E hr hG => ?_
  exact (mss_cons (ms_if (mt_cmp (o_eq (hr.units :)) s_eqU (me_var 0) me_str) (mss_one (ms_ret (me_tup (ma_cons (me_op o_add s_add me_int (me_op o_mulW s_mulW (me_var 1) (me_var 1))) (ma_cons (me_op o_mulW s_mulW (me_op o_mulW s_mulW (me_op o_mulW s_mulW (me_var 1) (me_var 1)) (me_op op_sub s_sub me_int (me_op o_mulW s_mulW (me_var 1) (me_var 1)))) (me_op op_sub s_sub me_int (me_op o_mulW s_mulW (me_var 1) (me_var 1)))) ma_nil))))) mss_nil)
    (mss_cons (ms_if (mt_cmp (o_eq (hr.units :)) s_eqU (me_var 0) me_str) (mss_cons (ms_set 3 sc__law_values.nd (me_op o_mulW s_mulW (me_op o_mulW s_mulW (me_var 1) (me_var 1)) (me_var 1)))
    (mss_one (ms_ret (me_tup (ma_cons (me_op o_add s_add me_int (me_op o_mulW s_mulW me_int (me_var 3))) (ma_cons (me_op o_mulW s_mulW (me_op o_mulW s_mulW (me_op o_mulW s_mulW (me_var 3) (me_op op_sub s_sub me_int (me_var 3))) (me_op op_sub s_sub me_int (me_var 3))) (me_op op_sub s_sub me_int (me_var 3))) ma_nil)))))) mss_nil)
    (mss_cons (ms_if (mt_cmp (o_eq (hr.units :)) s_eqU (me_var 0) me_str) (mss_one (ms_ret (me_tup (ma_cons (me_op o_add s_add me_int (me_op o_mulW s_mulW (me_op o_mulW s_mulW me_int (me_var 1)) (me_var 1))) (ma_cons (me_op o_mulW s_mulW (me_op o_mulW s_mulW (me_op o_mulW s_mulW (me_var 1) (me_var 1)) (me_op op_sub s_sub me_int (me_op o_mulW s_mulW (me_var 1) (me_var 1)))) (me_op op_sub s_sub me_int (me_op o_mulW s_mulW (me_var 1) (me_var 1)))) ma_nil))))) mss_nil)
    (mss_cons (ms_set 2 sc__law_values.nd (me_op o_mulW s_mulW (me_op o_mulW s_mulW (me_op o_mulW s_mulW (me_var 1) (me_var 1)) (me_var 1)) (me_var 1)))
    (mss_one (ms_ret (me_tup (ma_cons (me_op o_add s_add (me_op o_add s_add me_int (me_op o_mulW s_mulW me_int (me_var 2))) (me_op o_mulW s_mulW (me_var 2) (me_var 2))) (ma_cons (me_op o_mulW s_mulW (me_var 2) (me_callD (ok__law_power mt) hr (by omega) hG (takes_of rfl rfl rfl rfl) (ma_cons (me_op op_sub s_sub me_int (me_var 2)) (ma_cons me_int ma_nil)) rfl (aC_len (aC_len aN_len)))) ma_nil)))))))))
def b__law_at_1 : Env1 → Sto → Out :=
  (sSet 2 (e2 opAdd (e2 opMulW (eV 2) (eV 1)) (eV 3)))
def m__law_at : Env1 → Sto → Out :=
  (sSeq (sSet 2 (eC (.d (.int 0))))
    (sSeq (sFor (iSeq (e1 opRevU (eV 0))) (tgN 3) b__law_at_1)
    (sRet (eV 2))))
def f__law_at : List M → Sto → R M := fnM 4 m__law_at
theorem ok__law_at {w : World} {mg : Str → Option Value} {base : Heap} {g : Cfg} (mt : Mt w mg base g) : Dn true PP w (hd59.heap_39 w.params) mg base g 1 "_law_at" s__law_at ["_law_numbers", "_law_y"] f__law_at := by
  have m := mt.md
  obtain ⟨fd, F⟩ := d__law_at (w := w)
  refine dn_mk m F a__law_at sc__law_at (fun _ _ _ _ _ _ us hl => match us, hl with | [_, _], _ => rfl) fun cdv A fr s H E hr hG => ?_
  exact (mss_cons (ms_set 2 sc__law_at.nd me_int)
    (mss_cons (ms_for (passes_of rfl) rfl (mi_seq (me_revU (me_var 0))) (mg_name (vs := [3]) 3 sc__law_at.nd) (mss_one (ms_set 2 sc__law_at.nd (me_op o_add s_add (me_op o_mulW s_mulW (me_var 2) (me_var 1)) (me_var 3)))))
    (mss_one (ms_ret (me_var 2)))))
def if__law_are_integers_1 : Env1 → Sto → R Bool :=
  (tOrM (tNotM (tB (ePrim pIsi (aC (eV 2) (aC (eC (.ty "int")) aN))))) (tB (ePrim pIsi (aC (eV 2) (aC (eC (.ty "bool")) aN)))))
def el__law_are_integers_2 : Env1 → Sto → R M :=
  (eC (.d (.int 1)))
def m__law_are_integers : Env1 → Sto → Out :=
  (sSeq (sIf (tOrM (tNotM (tB (ePrim pIsi (aC (eV 0) (aC (eC (.ty "tuple")) aN))))) (tB (e2 opNeU (ePrim pLen (aC (eV 0) aN)) (eV 1)))) (sRet (eC (.d (.bool false)))) sNx)
    (sRet (e2 opEqU (eLc [2] (iSeq (eV 0)) (tgN 2) if__law_are_integers_1 el__law_are_integers_2) (eLst aN))))
def f__law_are_integers : List M → Sto → R M := fnM 3 m__law_are_integers
theorem ok__law_are_integers {w : World} {mg : Str → Option Value} {base : Heap} {g : Cfg} (mt : Mt w mg base g) : Dn true PP w (hd59.heap_39 w.params) mg base g 1 "_law_are_integers" s__law_are_integers ["_law_thing", "_law_many"] f__law_are_integers := by
  have m := mt.md
  obtain ⟨fd, F⟩ := d__law_are_integers (w := w)
  refine dn_mk m F a__law_are_integers sc__law_are_integers (fun _ _ _ _ _ _ us hl => match us, hl with | [_, _], _ => rfl) fun cdv A fr s H E hr hG => ?_
  exact (mss_cons (ms_if (PW.pt (mw_or (mt_not (mt_val (me_callB call_isi s_isi (m.no n_isinstance) rfl (ma_cons (me_var 0) (ma_cons (me_ty "tuple" (m.no n_tuple) rfl) ma_nil))))) (mw_or1 (mt_cmp (o_ne (hr.units :)) s_neU (me_callB call_len s_len (m.no n_len) rfl (ma_cons (me_var 0) ma_nil)) (me_var 1))))) (mss_one (ms_ret me_bl)) mss_nil)
    (mss_one (ms_ret (me_cmp (o_eq (hr.units :)) s_eqU (me_lc (own := [("_law_x", 2)]) rfl sc__law_are_integers.nd (mi_seq (me_var 0)) ⟨rfl, by decide +kernel, (by dsimp only [cxOf, envOfC, compEnvC, PySem.W.envX, relabel, Env.kindOf]; first | decide +kernel | ((repeat refine List.forall_mem_cons.mpr ⟨fun hk => by first | exact absurd hk (by decide) | exact .inl rfl | exact .inr rfl | exact .inl (by decide +kernel) | exact .inr (by decide +kernel), ?_⟩); exact fun _ h => absurd h (by simp))), (by dsimp only [cxOf, envOfC, compEnvC, PySem.W.envX, relabel, Env.kindOf]; first | decide +kernel | ((repeat refine List.forall_mem_cons.mpr ⟨fun hk => by first | exact absurd hk (by decide) | exact .inl rfl | exact .inr rfl | exact .inl (by decide +kernel) | exact .inr (by decide +kernel), ?_⟩); exact fun _ h => absurd h (by simp))), (by dsimp only [cxOf, envOfC, compEnvC, PySem.W.envX, relabel, Env.kindOf]; first | decide +kernel | ((repeat refine List.forall_mem_cons.mpr ⟨fun hk => by first | exact absurd hk (by decide) | exact .inl rfl | exact .inr rfl | exact .inl (by decide +kernel) | exact .inr (by decide +kernel), ?_⟩); exact fun _ h => absurd h (by simp)))⟩ (fun s H C cl fp => (mg_name (vs := [2]) 2 sc__law_are_integers.nd)) (fun s H C cl fp => (mts_one (PW.pt (mw_or (mt_not (mt_val (me_callB call_isi s_isi (m.no n_isinstance) rfl (ma_cons (me_var 2) (ma_cons (me_ty "int" (m.no n_int) rfl) ma_nil))))) (mw_or1 (mt_val (me_callB call_isi s_isi (m.no n_isinstance) rfl (ma_cons (me_var 2) (ma_cons (me_ty "bool" (m.no n_bool) rfl) ma_nil))))))))) (fun s H C cl fp => me_int)) (me_lst ma_nil)))))
def b__law_are_products_1 : Env1 → Sto → Out :=
  (sIf (tB (e2 opNeU (eCall f__law_at (aC (eV 8) (aC (eV 9) aN))) (e2 opMulW (eCall f__law_power (aC (eV 10) (aC (e2 opFdiv (e2 opSub (eV 1) (e2 opMulW (eV 7) (eV 5))) (eV 4)) aN))) (eCall f__law_power (aC (eV 11) (aC (eV 7) aN)))))) (sRet (eC (.d (.bool false)))) sNx)
def b__law_are_products_2 : Env1 → Sto → Out :=
  (sSeq (sIf (tNotM (tB (eCall f__law_are_integers (aC (eV 8) (aC (e2 opAdd (eV 1) (eC (.d (.int 1)))) aN))))) (sRet (eC (.d (.bool false)))) sNx)
    (sFor (iSeq (eV 3)) (tgTup [(tgN 9), (tgTup [(tgN 10), (tgN 11)])]) b__law_are_products_1))
def el__law_are_products_3 : Env1 → Sto → R M :=
  (eTup (aC (eV 9) (aC (eCall f__law_values (aC (eV 0) (aC (eV 9) aN))) aN)))
def m__law_are_products : Env1 → Sto → Out :=
  (sSeq (sAsg (eCall f__law_facts (aC (eV 0) aN)) (tgTup [(tgN 4), (tgN 5), (tgN 6)]))
    (sSeq (sIf (tOrM (tNotM (tB (ePrim pIsi (aC (eV 2) (aC (eC (.ty "tuple")) aN))))) (tB (e2 opNeU (ePrim pLen (aC (eV 2) aN)) (e2 opAdd (e2 opFdiv (eV 1) (eV 5)) (eC (.d (.int 1))))))) (sRet (eC (.d (.bool false)))) sNx)
    (sSeq (sSet 3 (eLc [9] (iRng2 (aC (e2 opSub (eC (.d (.int 0))) (e2 opFdiv (eV 1) (eC (.d (.int 2))))) (aC (e2 opAdd (e2 opSub (eV 1) (e2 opFdiv (eV 1) (eC (.d (.int 2))))) (eC (.d (.int 1)))) aN))) (tgN 9) tYesM el__law_are_products_3))
    (sSeq (sFor (iEnumA (aC (eV 2) aN)) (tgTup [(tgN 7), (tgN 8)]) b__law_are_products_2)
    (sRet (eC (.d (.bool true))))))))
def f__law_are_products : List M → Sto → R M := fnM 12 m__law_are_products
theorem ok__law_are_products {w : World} {mg : Str → Option Value} {base : Heap} {g : Cfg} (mt : Mt w mg base g) : Dn true PP w (hd59.heap_39 w.params) mg base g 3 "_law_are_products" s__law_are_products ["_law_family", "_law_n", "_law_told"] f__law_are_products := by
  have m := mt.md
  obtain ⟨fd, F⟩ := d__law_are_products (w := w)
  refine dn_mk m F a__law_are_products sc__law_are_products (fun _ _ _ _ _ _ us hl => match us, hl with | [_, _, _], _ => rfl) fun cdv A fr s H E hr hG => ?_
  exact (mss_cons (ms_asg (me_callD (ok__law_facts mt) hr (by omega) hG (takes_of rfl rfl rfl rfl) (ma_cons (me_var 0) ma_nil) rfl (aC_len aN_len)) (mg_tup rfl (mgs_cons (mg_name (vs := [4, 5, 6]) 4 sc__law_are_products.nd) (mgs_cons (mg_name (vs := [4, 5, 6]) 5 sc__law_are_products.nd) (mgs_cons (mg_name (vs := [4, 5, 6]) 6 sc__law_are_products.nd) mgs_nil)))))
    (mss_cons (ms_if (PW.pt (mw_or (mt_not (mt_val (me_callB call_isi s_isi (m.no n_isinstance) rfl (ma_cons (me_var 2) (ma_cons (me_ty "tuple" (m.no n_tuple) rfl) ma_nil))))) (mw_or1 (mt_cmp (o_ne (hr.units :)) s_neU (me_callB call_len s_len (m.no n_len) rfl (ma_cons (me_var 2) ma_nil)) (me_op o_add s_add (me_op op_fdivN s_fdiv (me_var 1) (me_var 5)) me_int))))) (mss_one (ms_ret me_bl)) mss_nil)
    (mss_cons (ms_setLc 3 (own := [("_law_y", 9)]) rfl sc__law_are_products.nd (mi_rng2 (m.no n_range) (ma_cons (me_op op_sub s_sub me_int (me_op op_fdivN s_fdiv (me_var 1) me_int)) (ma_cons (me_op o_add s_add (me_op op_sub s_sub (me_var 1) (me_op op_fdivN s_fdiv (me_var 1) me_int)) me_int) ma_nil))) ⟨rfl, by decide +kernel, (by dsimp only [cxOf, envOfC, compEnvC, PySem.W.envX, relabel, Env.kindOf]; first | decide +kernel | ((repeat refine List.forall_mem_cons.mpr ⟨fun hk => by first | exact absurd hk (by decide) | exact .inl rfl | exact .inr rfl | exact .inl (by decide +kernel) | exact .inr (by decide +kernel), ?_⟩); exact fun _ h => absurd h (by simp))), (by dsimp only [cxOf, envOfC, compEnvC, PySem.W.envX, relabel, Env.kindOf]; first | decide +kernel | ((repeat refine List.forall_mem_cons.mpr ⟨fun hk => by first | exact absurd hk (by decide) | exact .inl rfl | exact .inr rfl | exact .inl (by decide +kernel) | exact .inr (by decide +kernel), ?_⟩); exact fun _ h => absurd h (by simp))), (by dsimp only [cxOf, envOfC, compEnvC, PySem.W.envX, relabel, Env.kindOf]; first | decide +kernel | ((repeat refine List.forall_mem_cons.mpr ⟨fun hk => by first | exact absurd hk (by decide) | exact .inl rfl | exact .inr rfl | exact .inl (by decide +kernel) | exact .inr (by decide +kernel), ?_⟩); exact fun _ h => absurd h (by simp)))⟩ (fun s H C cl fp => (mg_name (vs := [9]) 9 sc__law_are_products.nd)) (fun s H C cl fp => mts_nil) (fun s H C cl fp => (me_tup (ma_cons (me_var 9) (ma_cons (me_callD (ok__law_values mt) hr (by omega) hG LamX.takes0 (ma_cons (me_var 0) (ma_cons (me_var 9) ma_nil)) rfl (aC_len (aC_len aN_len))) ma_nil)))) rfl)
    (mss_cons (ms_for (passes_of rfl) rfl (mi_enumA (m.no n_enumerate) (ma_cons (me_var 2) ma_nil)) (mg_tup rfl (mgs_cons (mg_name (vs := [7, 8]) 7 sc__law_are_products.nd) (mgs_cons (mg_name (vs := [7, 8]) 8 sc__law_are_products.nd) mgs_nil))) (mss_cons (ms_if (mt_not (mt_val (me_callD (ok__law_are_integers mt) hr (by omega) hG (takes_of rfl rfl rfl rfl) (ma_cons (me_var 8) (ma_cons (me_op o_add s_add (me_var 1) me_int) ma_nil)) rfl (aC_len (aC_len aN_len))))) (mss_one (ms_ret me_bl)) mss_nil)
    (mss_one (ms_for (passes_of rfl) rfl (mi_seq (me_var 3)) (mg_tup rfl (mgs_cons (mg_name (vs := [9, 10, 11]) 9 sc__law_are_products.nd) (mgs_cons (mg_tup rfl (mgs_cons (mg_name (vs := [9, 10, 11]) 10 sc__law_are_products.nd) (mgs_cons (mg_name (vs := [9, 10, 11]) 11 sc__law_are_products.nd) mgs_nil))) mgs_nil))) (mss_one (ms_if (mt_cmp (o_ne (hr.units :)) s_neU (me_callD (ok__law_at mt) hr (by omega) hG (takes_of rfl rfl rfl rfl) (ma_cons (me_var 8) (ma_cons (me_var 9) ma_nil)) rfl (aC_len (aC_len aN_len))) (me_op o_mulW s_mulW (me_callD (ok__law_power mt) hr (by omega) hG (takes_of rfl rfl rfl rfl) (ma_cons (me_var 10) (ma_cons (me_op op_fdivN s_fdiv (me_op op_sub s_sub (me_var 1) (me_op o_mulW s_mulW (me_var 7) (me_var 5))) (me_var 4)) ma_nil)) rfl (aC_len (aC_len aN_len))) (me_callD (ok__law_power mt) hr (by omega) hG (takes_of rfl rfl rfl rfl) (ma_cons (me_var 11) (ma_cons (me_var 7) ma_nil)) rfl (aC_len (aC_len aN_len))))) (mss_one (ms_ret me_bl)) mss_nil))))))
    (mss_one (ms_ret me_bl))))))
def b__law_product_1 : Env1 → Sto → Out :=
  (sPutL (eV 2) (e2 opAdd (eV 3) (eV 5)) (e2 opAdd (e2 opIx (eV 2) (e2 opAdd (eV 3) (eV 5))) (e2 opMulW (eV 4) (eV 6))))
def b__law_product_2 : Env1 → Sto → Out :=
  (sIf (tB (e2 opNeU (eV 4) (eC (.d (.int 0))))) (sFor (iEnumA (aC (eV 1) aN)) (tgTup [(tgN 5), (tgN 6)]) b__law_product_1) sNx)
def m__law_product : Env1 → Sto → Out :=
  (sSeq (sSet 2 (e2O opRepO (eLst (aC (eC (.d (.int 0))) aN)) (e2 opSub (e2 opAdd (ePrim pLen (aC (eV 0) aN)) (ePrim pLen (aC (eV 1) aN))) (eC (.d (.int 1))))))
    (sSeq (sFor (iEnumA (aC (eV 0) aN)) (tgTup [(tgN 3), (tgN 4)]) b__law_product_2)
    (sRet (ePrim pTuple (aC (eV 2) aN)))))
def f__law_product : List M → Sto → R M := cutF (fnM 7 m__law_product)
theorem ok__law_product {w : World} {mg : Str → Option Value} {base : Heap} {g : Cfg} (mt : Mt w mg base g) : Dn true PP w (hd59.heap_39 w.params) mg base g 1 "_law_product" s__law_product ["_law_one", "_law_other"] f__law_product := by
  have m := mt.md
  obtain ⟨fd, F⟩ := d__law_product (w := w)
  refine Dn.cut (dn_mk m F a__law_product sc__law_product (fun _ _ _ _ _ _ us hl => match us, hl with | [_, _], _ => rfl) fun cdv A fr s H E hr hG => ?_)
  exact (mss_cons (ms_set 2 sc__law_product.nd (me_opO op_rep s_repO (me_lst (ma_cons me_int ma_nil)) (me_op op_sub s_sub (me_op o_add s_add (me_callB call_len s_len (m.no n_len) rfl (ma_cons (me_var 0) ma_nil)) (me_callB call_len s_len (m.no n_len) rfl (ma_cons (me_var 1) ma_nil))) me_int)))
    (mss_cons (ms_for (passes_of rfl) rfl (mi_enumA (m.no n_enumerate) (ma_cons (me_var 0) ma_nil)) (mg_tup rfl (mgs_cons (mg_name (vs := [3, 4]) 3 sc__law_product.nd) (mgs_cons (mg_name (vs := [3, 4]) 4 sc__law_product.nd) mgs_nil))) (mss_one (ms_if (mt_cmp (o_ne (hr.units :)) s_neU (me_var 4) me_int) (mss_one (ms_for (passes_of rfl) rfl (mi_enumA (m.no n_enumerate) (ma_cons (me_var 1) ma_nil)) (mg_tup rfl (mgs_cons (mg_name (vs := [5, 6]) 5 sc__law_product.nd) (mgs_cons (mg_name (vs := [5, 6]) 6 sc__law_product.nd) mgs_nil))) (mss_one (ms_putL (me_var 2) (me_op o_add s_add (me_var 3) (me_var 5)) (me_op o_add s_add (me_ix (hu_of hr :) m.gw (me_var 2) (me_op o_add s_add (me_var 3) (me_var 5))) (me_op o_mulW s_mulW (me_var 4) (me_var 6))))))) mss_nil)))
    (mss_one (ms_ret (me_callT call_tuple_ofF s_tuple (m.no n_tuple) rfl (ma_cons (me_var 2) ma_nil))))))
def m__law_are_bounds_right : Env1 → Sto → Out :=
  (sSeq (sSet 2 (e2 opFdiv (eV 1) (e2 opIx (eCall f__law_facts (aC (eV 0) aN)) (eC (.d (.int 1))))))
    (sSeq (sSet 3 (e2 opIx (eDic (((eC (.d (.str "two"))), (e2 opAdd (eC (.d (.int 2))) (e2 opMulW (eC (.d (.int 2))) (eV 2)))) :: (((eC (.d (.str "fourfold"))), (e2 opAdd (eC (.d (.int 4))) (e2 opMulW (eC (.d (.int 4))) (eV 2)))) :: (((eC (.d (.str "three"))), (e2 opAdd (eC (.d (.int 3))) (e2 opMulW (eC (.d (.int 3))) (eV 2)))) :: (((eC (.d (.str "four"))), (e2 opAdd (eC (.d (.int 2))) (e2 opMulW (eC (.d (.int 2))) (eV 2)))) :: []))))) (eV 0)))
    (sSeq (sIf (tOrM (tNotM (tB (eCall f__law_same (aC (eCall f_least_bound (aC (eV 0) (aC (eV 1) aN))) (aC (eV 3) aN))))) (tNotM (tB (eCall f__law_same (aC (eCallK [1, 0] f_least_bound (aC (eV 1) (aC (eV 0) aN))) (aC (eV 3) aN)))))) (sRet (eC (.d (.bool false)))) sNx)
    (sRet (eCall f__law_same (aC (eCallK [1, 0] f_extreme_counts (aC (eV 1) (aC (eV 0) aN))) (aC (eCall f_counts_from (aC (eV 0) (aC (eV 1) (aC (e2 opAdd (eTup (aC (eC (.d (.int 1))) aN)) (e2 opMulW (eTup (aC (eC (.d (.int 0))) aN)) (eV 2))) aN)))) aN)))))))
def f__law_are_bounds_right : List M → Sto → R M := fnM 4 m__law_are_bounds_right
theorem ok__law_are_bounds_right {w : World} {mg : Str → Option Value} {base : Heap} {g : Cfg} (mt : Mt w mg base g) : Dn true PP w (hd59.heap_39 w.params) mg base g 6 "_law_are_bounds_right" s__law_are_bounds_right ["_law_family", "_law_n"] f__law_are_bounds_right := by
  have m := mt.md
  obtain ⟨fd, F⟩ := d__law_are_bounds_right (w := w)
  refine dn_mk m F a__law_are_bounds_right sc__law_are_bounds_right (fun _ _ _ _ _ _ us hl => match us, hl with | [_, _], _ => rfl) fun cdv A fr s H E hr hG => ?_
  exact (mss_cons (ms_set 2 sc__law_are_bounds_right.nd (me_op op_fdivN s_fdiv (me_var 1) (me_ix (hu_of hr :) m.gw (me_callD (ok__law_facts mt) hr (by omega) hG (takes_of rfl rfl rfl rfl) (ma_cons (me_var 0) ma_nil) rfl (aC_len aN_len)) me_int)))
    (mss_cons (ms_set 3 sc__law_are_bounds_right.nd (me_ix (hu_of hr :) m.gw (me_dic (mp_cons me_str (me_op o_add s_add me_int (me_op o_mulW s_mulW me_int (me_var 2))) (mp_cons me_str (me_op o_add s_add me_int (me_op o_mulW s_mulW me_int (me_var 2))) (mp_cons me_str (me_op o_add s_add me_int (me_op o_mulW s_mulW me_int (me_var 2))) (mp_cons me_str (me_op o_add s_add me_int (me_op o_mulW s_mulW me_int (me_var 2))) mp_nil))))) (me_var 0)))
    (mss_cons (ms_if (PW.pt (mw_or (mt_not (mt_val (me_callD (ok__law_same mt) hr (by omega) hG (takes_of rfl rfl rfl rfl) (ma_cons (me_callD (ok_least_bound mt) hr (by omega) (fun z => nomatch z) (takes_of rfl rfl rfl rfl) (ma_cons (me_var 0) (ma_cons (me_var 1) ma_nil)) rfl (aC_len (aC_len aN_len))) (ma_cons (me_var 3) ma_nil)) rfl (aC_len (aC_len aN_len))))) (mw_or1 (mt_not (mt_val (me_callD (ok__law_same mt) hr (by omega) hG (takes_of rfl rfl rfl rfl) (ma_cons (me_callKD ["n", "family"] [1, 0] (ok_least_bound mt) hr (by omega) (fun z => nomatch z) (takes_of rfl rfl rfl rfl) (fun _ _ _ _ _ _ => kb_of2 fun _ _ _ => .of_eq rfl) (mk_cons (me_var 1) (mk_cons (me_var 0) mk_nil)) rfl (aC_len (aC_len aN_len))) (ma_cons (me_var 3) ma_nil)) rfl (aC_len (aC_len aN_len)))))))) (mss_one (ms_ret me_bl)) mss_nil)
    (mss_one (ms_ret (me_callD (ok__law_same mt) hr (by omega) hG (takes_of rfl rfl rfl rfl) (ma_cons (me_callKD ["n", "family"] [1, 0] (ok_extreme_counts mt) hr (by omega) (fun z => nomatch z) (takes_of rfl rfl rfl rfl) (fun _ _ _ _ _ _ => kb_of2 fun _ _ _ => .of_eq rfl) (mk_cons (me_var 1) (mk_cons (me_var 0) mk_nil)) rfl (aC_len (aC_len aN_len))) (ma_cons (me_callD (ok_counts_from mt) hr (by omega) (fun z => nomatch z) (takes_of rfl rfl rfl rfl) (ma_cons (me_var 0) (ma_cons (me_var 1) (ma_cons (me_op o_add s_add (me_tup (ma_cons me_int ma_nil)) (me_op o_mulW s_mulW (me_tup (ma_cons me_int ma_nil)) (me_var 2))) ma_nil))) rfl (aC_len (aC_len (aC_len aN_len)))) ma_nil)) rfl (aC_len (aC_len aN_len))))))))
def el__law_are_firsts_right_1 : Env1 → Sto → R M :=
  (e2 opIx (eV 10) (e2 opMulW (eV 6) (eV 12)))
def el__law_are_firsts_right_2 : Env1 → Sto → R M :=
  (e2 opAdd (e2 opMulW (eV 8) (eV 13)) (eV 14))
def el__law_are_firsts_right_3 : Env1 → Sto → R M :=
  (e2 opAdd (e2 opMulW (eV 8) (eV 13)) (eV 14))
def el__law_are_firsts_right_4 : Env1 → Sto → R M :=
  (e2 opSub (eCall f__law_draw (aC (eV 0) (aC (e2 opAdd (e2 opMulW (eC (.d (.int 2))) (eV 9)) (eC (.d (.int 1)))) aN))) (eV 9))
def el__law_are_firsts_right_5 : Env1 → Sto → R M :=
  (e2 opSub (eCall f__law_draw (aC (eV 0) (aC (e2 opAdd (e2 opMulW (eC (.d (.int 2))) (eV 9)) (eC (.d (.int 1)))) aN))) (eV 9))
def m__law_are_firsts_right : Env1 → Sto → Out :=
  (sSeq (sAsg (eTup (aC (e2 opIx (eCall f__law_facts (aC (eV 1) aN)) (eC (.d (.int 2)))) (aC (e2 opAdd (e2 opFdiv (eV 2) (e2 opIx (eCall f__law_facts (aC (eV 1) aN)) (eC (.d (.int 1))))) (eC (.d (.int 1)))) aN))) (tgTup [(tgN 6), (tgN 7)]))
    (sSeq (sAsg (eTup (aC (e2 opSub (eCall f__law_draw (aC (eV 0) (aC (eC (.d (.int 2001))) aN))) (eC (.d (.int 1000)))) (aC (eCall f__law_pick (aC (eV 0) (aC (eLst (aC (eC (.d (.int 3))) (aC (eC (.d (.int 100))) (aC (eC (.d (.int 1000003))) aN)))) aN))) aN))) (tgTup [(tgN 8), (tgN 9)]))
    (sSeq (sSet 3 (ePrim pTuple (aC (eLc [12] (iRng (aC (eV 7) aN)) (tgN 12) tYesM el__law_are_firsts_right_5) aN)))
    (sSeq (sSet 4 (ePrim pTuple (aC (eLc [12] (iRng (aC (eV 7) aN)) (tgN 12) tYesM el__law_are_firsts_right_4) aN)))
    (sSeq (sSet 5 (ePrim pTuple (aC (eLc [13, 14] (iZipA2 (aC (eV 3) (aC (eV 4) aN))) (tgTup [(tgN 13), (tgN 14)]) tYesM el__law_are_firsts_right_3) aN)))
    (sSeq (sAsg (eTup (aC (eCall f_counts_from (aC (eV 1) (aC (eV 2) (aC (eV 3) aN)))) (aC (eCallK [2, 1, 0] f_counts_from (aC (eV 4) (aC (eV 2) (aC (eV 1) aN)))) aN))) (tgTup [(tgN 10), (tgN 11)]))
    (sSeq (sIf (tOrM (tNotM (tB (eCall f__law_are_integers (aC (eV 10) (aC (e2 opAdd (eV 2) (eC (.d (.int 1)))) aN))))) (tNotM (tB (eCall f__law_are_integers (aC (eV 11) (aC (e2 opAdd (eV 2) (eC (.d (.int 1)))) aN)))))) (sRet (eC (.d (.bool false)))) sNx)
    (sSeq (sIf (tNotM (tB (eCall f__law_same (aC (eCall f_counts_from (aC (eV 1) (aC (eV 2) (aC (eV 5) aN)))) (aC (ePrim pTuple (aC (eLc [13, 14] (iZipA2 (aC (eV 10) (aC (eV 11) aN))) (tgTup [(tgN 13), (tgN 14)]) tYesM el__law_are_firsts_right_2) aN)) aN))))) (sRet (eC (.d (.bool false)))) sNx)
    (sRet (eCall f__law_same (aC (ePrim pTuple (aC (eLc [12] (iRng (aC (eV 7) aN)) (tgN 12) tYesM el__law_are_firsts_right_1) aN)) (aC (eV 3) aN))))))))))))
def f__law_are_firsts_right : List M → Sto → R M := fnM 15 m__law_are_firsts_right
theorem ok__law_are_firsts_right {w : World} {mg : Str → Option Value} {base : Heap} {g : Cfg} (mt : Mt w mg base g) : Dn true PP w (hd59.heap_39 w.params) mg base g 6 "_law_are_firsts_right" s__law_are_firsts_right ["_law_deck_here", "_law_family", "_law_n"] f__law_are_firsts_right := by
  have m := mt.md
  obtain ⟨fd, F⟩ := d__law_are_firsts_right (w := w)
  refine dn_mk m F a__law_are_firsts_right sc__law_are_firsts_right (fun _ _ _ _ _ _ us hl => match us, hl with | [_, _, _], _ => rfl) fun cdv A fr s H E hr hG => ?_
  exact (mss_cons (ms_asg (me_tup (ma_cons (me_ix (hu_of hr :) m.gw (me_callD (ok__law_facts mt) hr (by omega) hG (takes_of rfl rfl rfl rfl) (ma_cons (me_var 1) ma_nil) rfl (aC_len aN_len)) me_int) (ma_cons (me_op o_add s_add (me_op op_fdivN s_fdiv (me_var 2) (me_ix (hu_of hr :) m.gw (me_callD (ok__law_facts mt) hr (by omega) hG (takes_of rfl rfl rfl rfl) (ma_cons (me_var 1) ma_nil) rfl (aC_len aN_len)) me_int)) me_int) ma_nil))) (mg_tup rfl (mgs_cons (mg_name (vs := [6, 7]) 6 sc__law_are_firsts_right.nd) (mgs_cons (mg_name (vs := [6, 7]) 7 sc__law_are_firsts_right.nd) mgs_nil))))
    (mss_cons (ms_asg (me_tup (ma_cons (me_op op_sub s_sub (me_callD (ok__law_draw mt) hr (by omega) hG (takes_of rfl rfl rfl rfl) (ma_cons (me_var 0) (ma_cons me_int ma_nil)) rfl (aC_len (aC_len aN_len))) me_int) (ma_cons (me_callD (ok__law_pick mt) hr (by omega) hG (takes_of rfl rfl rfl rfl) (ma_cons (me_var 0) (ma_cons (me_lst (ma_cons me_int (ma_cons me_int (ma_cons me_int ma_nil)))) ma_nil)) rfl (aC_len (aC_len aN_len))) ma_nil))) (mg_tup rfl (mgs_cons (mg_name (vs := [8, 9]) 8 sc__law_are_firsts_right.nd) (mgs_cons (mg_name (vs := [8, 9]) 9 sc__law_are_firsts_right.nd) mgs_nil))))
    (mss_cons (ms_set 3 sc__law_are_firsts_right.nd (me_callT call_tuple_ofF s_tuple (m.no n_tuple) rfl (ma_cons (me_lc (own := [("_law_at_here", 12)]) rfl sc__law_are_firsts_right.nd (mi_rng1 (m.no n_range) (ma_cons (me_var 7) ma_nil) rfl rfl (aC_len aN_len)) ⟨rfl, by decide +kernel, (by dsimp only [cxOf, envOfC, compEnvC, PySem.W.envX, relabel, Env.kindOf]; first | decide +kernel | ((repeat refine List.forall_mem_cons.mpr ⟨fun hk => by first | exact absurd hk (by decide) | exact .inl rfl | exact .inr rfl | exact .inl (by decide +kernel) | exact .inr (by decide +kernel), ?_⟩); exact fun _ h => absurd h (by simp))), (by dsimp only [cxOf, envOfC, compEnvC, PySem.W.envX, relabel, Env.kindOf]; first | decide +kernel | ((repeat refine List.forall_mem_cons.mpr ⟨fun hk => by first | exact absurd hk (by decide) | exact .inl rfl | exact .inr rfl | exact .inl (by decide +kernel) | exact .inr (by decide +kernel), ?_⟩); exact fun _ h => absurd h (by simp))), (by dsimp only [cxOf, envOfC, compEnvC, PySem.W.envX, relabel, Env.kindOf]; first | decide +kernel | ((repeat refine List.forall_mem_cons.mpr ⟨fun hk => by first | exact absurd hk (by decide) | exact .inl rfl | exact .inr rfl | exact .inl (by decide +kernel) | exact .inr (by decide +kernel), ?_⟩); exact fun _ h => absurd h (by simp)))⟩ (fun s H C cl fp => (mg_name (vs := [12]) 12 sc__law_are_firsts_right.nd)) (fun s H C cl fp => mts_nil) (fun s H C cl fp => (me_op op_sub s_sub (me_callD (ok__law_draw mt) hr (by omega) hG LamX.takes0 (ma_cons (me_var 0) (ma_cons (me_op o_add s_add (me_op o_mulW s_mulW me_int (me_var 9)) me_int) ma_nil)) rfl (aC_len (aC_len aN_len))) (me_var 9)))) ma_nil)))
    (mss_cons (ms_set 4 sc__law_are_firsts_right.nd (me_callT call_tuple_ofF s_tuple (m.no n_tuple) rfl (ma_cons (me_lc (own := [("_law_at_here", 12)]) rfl sc__law_are_firsts_right.nd (mi_rng1 (m.no n_range) (ma_cons (me_var 7) ma_nil) rfl rfl (aC_len aN_len)) ⟨rfl, by decide +kernel, (by dsimp only [cxOf, envOfC, compEnvC, PySem.W.envX, relabel, Env.kindOf]; first | decide +kernel | ((repeat refine List.forall_mem_cons.mpr ⟨fun hk => by first | exact absurd hk (by decide) | exact .inl rfl | exact .inr rfl | exact .inl (by decide +kernel) | exact .inr (by decide +kernel), ?_⟩); exact fun _ h => absurd h (by simp))), (by dsimp only [cxOf, envOfC, compEnvC, PySem.W.envX, relabel, Env.kindOf]; first | decide +kernel | ((repeat refine List.forall_mem_cons.mpr ⟨fun hk => by first | exact absurd hk (by decide) | exact .inl rfl | exact .inr rfl | exact .inl (by decide +kernel) | exact .inr (by decide +kernel), ?_⟩); exact fun _ h => absurd h (by simp))), (by dsimp only [cxOf, envOfC, compEnvC, PySem.W.envX, relabel, Env.kindOf]; first | decide +kernel | ((repeat refine List.forall_mem_cons.mpr ⟨fun hk => by first | exact absurd hk (by decide) | exact .inl rfl | exact .inr rfl | exact .inl (by decide +kernel) | exact .inr (by decide +kernel), ?_⟩); exact fun _ h => absurd h (by simp)))⟩ (fun s H C cl fp => (mg_name (vs := [12]) 12 sc__law_are_firsts_right.nd)) (fun s H C cl fp => mts_nil) (fun s H C cl fp => (me_op op_sub s_sub (me_callD (ok__law_draw mt) hr (by omega) hG LamX.takes0 (ma_cons (me_var 0) (ma_cons (me_op o_add s_add (me_op o_mulW s_mulW me_int (me_var 9)) me_int) ma_nil)) rfl (aC_len (aC_len aN_len))) (me_var 9)))) ma_nil)))
    (mss_cons (ms_set 5 sc__law_are_firsts_right.nd (me_callT call_tuple_ofF s_tuple (m.no n_tuple) rfl (ma_cons (me_lc (own := [("_law_x", 13), ("_law_y", 14)]) rfl sc__law_are_firsts_right.nd (mi_zipA2 (m.no n_zip) (ma_cons (me_var 3) (ma_cons (me_var 4) ma_nil))) ⟨rfl, by decide +kernel, (by dsimp only [cxOf, envOfC, compEnvC, PySem.W.envX, relabel, Env.kindOf]; first | decide +kernel | ((repeat refine List.forall_mem_cons.mpr ⟨fun hk => by first | exact absurd hk (by decide) | exact .inl rfl | exact .inr rfl | exact .inl (by decide +kernel) | exact .inr (by decide +kernel), ?_⟩); exact fun _ h => absurd h (by simp))), (by dsimp only [cxOf, envOfC, compEnvC, PySem.W.envX, relabel, Env.kindOf]; first | decide +kernel | ((repeat refine List.forall_mem_cons.mpr ⟨fun hk => by first | exact absurd hk (by decide) | exact .inl rfl | exact .inr rfl | exact .inl (by decide +kernel) | exact .inr (by decide +kernel), ?_⟩); exact fun _ h => absurd h (by simp))), (by dsimp only [cxOf, envOfC, compEnvC, PySem.W.envX, relabel, Env.kindOf]; first | decide +kernel | ((repeat refine List.forall_mem_cons.mpr ⟨fun hk => by first | exact absurd hk (by decide) | exact .inl rfl | exact .inr rfl | exact .inl (by decide +kernel) | exact .inr (by decide +kernel), ?_⟩); exact fun _ h => absurd h (by simp)))⟩ (fun s H C cl fp => (mg_tup rfl (mgs_cons (mg_name (vs := [13, 14]) 13 sc__law_are_firsts_right.nd) (mgs_cons (mg_name (vs := [13, 14]) 14 sc__law_are_firsts_right.nd) mgs_nil)))) (fun s H C cl fp => mts_nil) (fun s H C cl fp => (me_op o_add s_add (me_op o_mulW s_mulW (me_var 8) (me_var 13)) (me_var 14)))) ma_nil)))
    (mss_cons (ms_asg (me_tup (ma_cons (me_callD (ok_counts_from mt) hr (by omega) (fun z => nomatch z) (takes_of rfl rfl rfl rfl) (ma_cons (me_var 1) (ma_cons (me_var 2) (ma_cons (me_var 3) ma_nil))) rfl (aC_len (aC_len (aC_len aN_len)))) (ma_cons (me_callKD ["firsts", "n", "family"] [2, 1, 0] (ok_counts_from mt) hr (by omega) (fun z => nomatch z) (takes_of rfl rfl rfl rfl) (fun _ _ _ _ _ _ => kb_of3 fun _ _ _ _ => .of_eq rfl) (mk_cons (me_var 4) (mk_cons (me_var 2) (mk_cons (me_var 1) mk_nil))) rfl (aC_len (aC_len (aC_len aN_len)))) ma_nil))) (mg_tup rfl (mgs_cons (mg_name (vs := [10, 11]) 10 sc__law_are_firsts_right.nd) (mgs_cons (mg_name (vs := [10, 11]) 11 sc__law_are_firsts_right.nd) mgs_nil))))
    (mss_cons (ms_if (PW.pt (mw_or (mt_not (mt_val (me_callD (ok__law_are_integers mt) hr (by omega) hG (takes_of rfl rfl rfl rfl) (ma_cons (me_var 10) (ma_cons (me_op o_add s_add (me_var 2) me_int) ma_nil)) rfl (aC_len (aC_len aN_len))))) (mw_or1 (mt_not (mt_val (me_callD (ok__law_are_integers mt) hr (by omega) hG (takes_of rfl rfl rfl rfl) (ma_cons (me_var 11) (ma_cons (me_op o_add s_add (me_var 2) me_int) ma_nil)) rfl (aC_len (aC_len aN_len)))))))) (mss_one (ms_ret me_bl)) mss_nil)
    (mss_cons (ms_if (mt_not (mt_val (me_callD (ok__law_same mt) hr (by omega) hG (takes_of rfl rfl rfl rfl) (ma_cons (me_callD (ok_counts_from mt) hr (by omega) (fun z => nomatch z) (takes_of rfl rfl rfl rfl) (ma_cons (me_var 1) (ma_cons (me_var 2) (ma_cons (me_var 5) ma_nil))) rfl (aC_len (aC_len (aC_len aN_len)))) (ma_cons (me_callT call_tuple_ofF s_tuple (m.no n_tuple) rfl (ma_cons (me_lc (own := [("_law_x", 13), ("_law_y", 14)]) rfl sc__law_are_firsts_right.nd (mi_zipA2 (m.no n_zip) (ma_cons (me_var 10) (ma_cons (me_var 11) ma_nil))) ⟨rfl, by decide +kernel, (by dsimp only [cxOf, envOfC, compEnvC, PySem.W.envX, relabel, Env.kindOf]; first | decide +kernel | ((repeat refine List.forall_mem_cons.mpr ⟨fun hk => by first | exact absurd hk (by decide) | exact .inl rfl | exact .inr rfl | exact .inl (by decide +kernel) | exact .inr (by decide +kernel), ?_⟩); exact fun _ h => absurd h (by simp))), (by dsimp only [cxOf, envOfC, compEnvC, PySem.W.envX, relabel, Env.kindOf]; first | decide +kernel | ((repeat refine List.forall_mem_cons.mpr ⟨fun hk => by first | exact absurd hk (by decide) | exact .inl rfl | exact .inr rfl | exact .inl (by decide +kernel) | exact .inr (by decide +kernel), ?_⟩); exact fun _ h => absurd h (by simp))), (by dsimp only [cxOf, envOfC, compEnvC, PySem.W.envX, relabel, Env.kindOf]; first | decide +kernel | ((repeat refine List.forall_mem_cons.mpr ⟨fun hk => by first | exact absurd hk (by decide) | exact .inl rfl | exact .inr rfl | exact .inl (by decide +kernel) | exact .inr (by decide +kernel), ?_⟩); exact fun _ h => absurd h (by simp)))⟩ (fun s H C cl fp => (mg_tup rfl (mgs_cons (mg_name (vs := [13, 14]) 13 sc__law_are_firsts_right.nd) (mgs_cons (mg_name (vs := [13, 14]) 14 sc__law_are_firsts_right.nd) mgs_nil)))) (fun s H C cl fp => mts_nil) (fun s H C cl fp => (me_op o_add s_add (me_op o_mulW s_mulW (me_var 8) (me_var 13)) (me_var 14)))) ma_nil)) ma_nil)) rfl (aC_len (aC_len aN_len))))) (mss_one (ms_ret me_bl)) mss_nil)
    (mss_one (ms_ret (me_callD (ok__law_same mt) hr (by omega) hG (takes_of rfl rfl rfl rfl) (ma_cons (me_callT call_tuple_ofF s_tuple (m.no n_tuple) rfl (ma_cons (me_lc (own := [("_law_at_here", 12)]) rfl sc__law_are_firsts_right.nd (mi_rng1 (m.no n_range) (ma_cons (me_var 7) ma_nil) rfl rfl (aC_len aN_len)) ⟨rfl, by decide +kernel, (by dsimp only [cxOf, envOfC, compEnvC, PySem.W.envX, relabel, Env.kindOf]; first | decide +kernel | ((repeat refine List.forall_mem_cons.mpr ⟨fun hk => by first | exact absurd hk (by decide) | exact .inl rfl | exact .inr rfl | exact .inl (by decide +kernel) | exact .inr (by decide +kernel), ?_⟩); exact fun _ h => absurd h (by simp))), (by dsimp only [cxOf, envOfC, compEnvC, PySem.W.envX, relabel, Env.kindOf]; first | decide +kernel | ((repeat refine List.forall_mem_cons.mpr ⟨fun hk => by first | exact absurd hk (by decide) | exact .inl rfl | exact .inr rfl | exact .inl (by decide +kernel) | exact .inr (by decide +kernel), ?_⟩); exact fun _ h => absurd h (by simp))), (by dsimp only [cxOf, envOfC, compEnvC, PySem.W.envX, relabel, Env.kindOf]; first | decide +kernel | ((repeat refine List.forall_mem_cons.mpr ⟨fun hk => by first | exact absurd hk (by decide) | exact .inl rfl | exact .inr rfl | exact .inl (by decide +kernel) | exact .inr (by decide +kernel), ?_⟩); exact fun _ h => absurd h (by simp)))⟩ (fun s H C cl fp => (mg_name (vs := [12]) 12 sc__law_are_firsts_right.nd)) (fun s H C cl fp => mts_nil) (fun s H C cl fp => (me_ix (hu_of hr :) m.gw (me_var 10) (me_op o_mulW s_mulW (me_var 6) (me_var 12))))) ma_nil)) (ma_cons (me_var 3) ma_nil)) rfl (aC_len (aC_len aN_len)))))))))))))
def m_law : Env1 → Sto → Out :=
  (sSeq (sSet 1 (eCall f__law_deck (aC (eV 0) aN)))
    (sSeq (sSet 2 (eCall f__law_pick (aC (eV 1) (aC (eLst (aC (eC (.d (.str "two"))) (aC (eC (.d (.str "three"))) (aC (eC (.d (.str "four"))) (aC (eC (.d (.str "fourfold"))) aN))))) aN))))
    (sSeq (sSet 3 (e2 opIx (eDic (((eC (.d (.str "two"))), (eC (.d (.int 2)))) :: (((eC (.d (.str "fourfold"))), (eC (.d (.int 8)))) :: (((eC (.d (.str "three"))), (eC (.d (.int 4)))) :: (((eC (.d (.str "four"))), (eC (.d (.int 2)))) :: []))))) (eV 2)))
    (sSeq (sSet 4 (e2 opFdiv (eC (.d (.int 48))) (eV 3)))
    (sSeq (sSet 5 (e2 opAdd (eC (.d (.int 2))) (eCall f__law_draw (aC (eV 1) (aC (e2 opSub (eV 4) (eC (.d (.int 1)))) aN)))))
    (sSeq (sSet 6 (e2 opAdd (eC (.d (.int 1))) (eCall f__law_draw (aC (eV 1) (aC (e2 opSub (eV 5) (eC (.d (.int 1)))) aN)))))
    (sSeq (sPar 7 8 (aC (e2 opMulW (eV 3) (eV 6)) (aC (e2 opMulW (eV 3) (e2 opSub (eV 5) (eV 6))) aN)))
    (sSeq (sIf (tOrM (tNotM (tB (eCall f__law_are_bounds_right (aC (eV 2) (aC (eV 7) aN))))) (tNotM (tB (eCall f__law_are_bounds_right (aC (eV 2) (aC (e2 opAdd (eV 7) (eV 8)) aN)))))) (sRet (eC (.d (.bool false)))) sNx)
    (sSeq (sIf (tNotM (tB (eCall f__law_are_firsts_right (aC (eV 1) (aC (eV 2) (aC (eV 7) aN)))))) (sRet (eC (.d (.bool false)))) sNx)
    (sSeq (sPar3 9 10 11 (aC (eCall f_told_products (aC (eV 2) (aC (eV 7) aN))) (aC (eCallK [0, 1] f_told_products (aC (eV 2) (aC (eV 8) aN))) (aC (eCall f_told_products (aC (eV 2) (aC (e2 opAdd (eV 7) (eV 8)) aN))) aN))))
    (sSeq (sIf (tOrM (tNotM (tB (eCall f__law_are_products (aC (eV 2) (aC (eV 7) (aC (eV 9) aN)))))) (tNotM (tB (eCall f__law_are_products (aC (eV 2) (aC (e2 opAdd (eV 7) (eV 8)) (aC (eV 11) aN))))))) (sRet (eC (.d (.bool false)))) sNx)
    (sSeq (sPar 12 13 (aC (eCall f__law_draw (aC (eV 1) (aC (ePrim pLen (aC (eV 9) aN)) aN))) (aC (eCall f__law_draw (aC (eV 1) (aC (ePrim pLen (aC (eV 10) aN)) aN))) aN)))
    (sRet (eCall f__law_same (aC (e2 opIx (eV 11) (e2 opAdd (eV 12) (eV 13))) (aC (eCall f__law_product (aC (e2 opIx (eV 9) (eV 12)) (aC (e2 opIx (eV 10) (eV 13)) aN))) aN))))))))))))))))
def f_law : List M → Sto → R M := fnM 14 m_law
theorem fn_law {w : World} {mg : Str → Option Value} {base : Heap} {g : Cfg} (mt : Mt w mg base g) {fd : FuncData} (F : L2.Fun (hd59.heap_39 w.params) "law" "law" s_law 303 fd) :
    FnG true PP w (hd59.heap_39 w.params) mg base 7 303 fd ["_law_script"] (spM (hd59.heap_39 w.params) g 1 f_law) := by
  have m := mt.md
  refine fn_ok F sc_law (spM_len rfl) fun cdv A fr s H vs Q E hr hG h => ⟨_, ?_, body_of h⟩
  exact (mss_cons (ms_set 1 sc_law.nd (me_callD (ok__law_deck mt) hr (by omega) hG (takes_of rfl rfl rfl rfl) (ma_cons (me_var 0) ma_nil) rfl (aC_len aN_len)))
    (mss_cons (ms_set 2 sc_law.nd (me_callD (ok__law_pick mt) hr (by omega) hG (takes_of rfl rfl rfl rfl) (ma_cons (me_var 1) (ma_cons (me_lst (ma_cons me_str (ma_cons me_str (ma_cons me_str (ma_cons me_str ma_nil))))) ma_nil)) rfl (aC_len (aC_len aN_len))))
    (mss_cons (ms_set 3 sc_law.nd (me_ix (hu_of hr :) m.gw (me_dic (mp_cons me_str me_int (mp_cons me_str me_int (mp_cons me_str me_int (mp_cons me_str me_int mp_nil))))) (me_var 2)))
    (mss_cons (ms_set 4 sc_law.nd (me_op op_fdivN s_fdiv me_int (me_var 3)))
    (mss_cons (ms_set 5 sc_law.nd (me_op o_add s_add me_int (me_callD (ok__law_draw mt) hr (by omega) hG (takes_of rfl rfl rfl rfl) (ma_cons (me_var 1) (ma_cons (me_op op_sub s_sub (me_var 4) me_int) ma_nil)) rfl (aC_len (aC_len aN_len)))))
    (mss_cons (ms_set 6 sc_law.nd (me_op o_add s_add me_int (me_callD (ok__law_draw mt) hr (by omega) hG (takes_of rfl rfl rfl rfl) (ma_cons (me_var 1) (ma_cons (me_op op_sub s_sub (me_var 5) me_int) ma_nil)) rfl (aC_len (aC_len aN_len)))))
    (mss_cons (ms_par 7 8 rfl sc_law.nd (ma_cons (me_op o_mulW s_mulW (me_var 3) (me_var 6)) (ma_cons (me_op o_mulW s_mulW (me_var 3) (me_op op_sub s_sub (me_var 5) (me_var 6))) ma_nil)))
    (mss_cons (ms_if (PW.pt (mw_or (mt_not (mt_val (me_callD (ok__law_are_bounds_right mt) hr (by omega) hG (takes_of rfl rfl rfl rfl) (ma_cons (me_var 2) (ma_cons (me_var 7) ma_nil)) rfl (aC_len (aC_len aN_len))))) (mw_or1 (mt_not (mt_val (me_callD (ok__law_are_bounds_right mt) hr (by omega) hG (takes_of rfl rfl rfl rfl) (ma_cons (me_var 2) (ma_cons (me_op o_add s_add (me_var 7) (me_var 8)) ma_nil)) rfl (aC_len (aC_len aN_len)))))))) (mss_one (ms_ret me_bl)) mss_nil)
    (mss_cons (ms_if (mt_not (mt_val (me_callD (ok__law_are_firsts_right mt) hr (by omega) hG (takes_of rfl rfl rfl rfl) (ma_cons (me_var 1) (ma_cons (me_var 2) (ma_cons (me_var 7) ma_nil))) rfl (aC_len (aC_len (aC_len aN_len)))))) (mss_one (ms_ret me_bl)) mss_nil)
    (mss_cons (ms_par3 9 10 11 rfl sc_law.nd (ma_cons (me_callD (ok_told_products mt) hr (by omega) (fun z => nomatch z) (takes_of rfl rfl rfl rfl) (ma_cons (me_var 2) (ma_cons (me_var 7) ma_nil)) rfl (aC_len (aC_len aN_len))) (ma_cons (me_callKD ["family", "n"] [0, 1] (ok_told_products mt) hr (by omega) (fun z => nomatch z) (takes_of rfl rfl rfl rfl) (fun _ _ _ _ _ _ => kb_of2 fun _ _ _ => .of_eq rfl) (mk_cons (me_var 2) (mk_cons (me_var 8) mk_nil)) rfl (aC_len (aC_len aN_len))) (ma_cons (me_callD (ok_told_products mt) hr (by omega) (fun z => nomatch z) (takes_of rfl rfl rfl rfl) (ma_cons (me_var 2) (ma_cons (me_op o_add s_add (me_var 7) (me_var 8)) ma_nil)) rfl (aC_len (aC_len aN_len))) ma_nil))))
    (mss_cons (ms_if (PW.pt (mw_or (mt_not (mt_val (me_callD (ok__law_are_products mt) hr (by omega) hG (takes_of rfl rfl rfl rfl) (ma_cons (me_var 2) (ma_cons (me_var 7) (ma_cons (me_var 9) ma_nil))) rfl (aC_len (aC_len (aC_len aN_len)))))) (mw_or1 (mt_not (mt_val (me_callD (ok__law_are_products mt) hr (by omega) hG (takes_of rfl rfl rfl rfl) (ma_cons (me_var 2) (ma_cons (me_op o_add s_add (me_var 7) (me_var 8)) (ma_cons (me_var 11) ma_nil))) rfl (aC_len (aC_len (aC_len aN_len))))))))) (mss_one (ms_ret me_bl)) mss_nil)
    (mss_cons (ms_par 12 13 rfl sc_law.nd (ma_cons (me_callD (ok__law_draw mt) hr (by omega) hG (takes_of rfl rfl rfl rfl) (ma_cons (me_var 1) (ma_cons (me_callB call_len s_len (m.no n_len) rfl (ma_cons (me_var 9) ma_nil)) ma_nil)) rfl (aC_len (aC_len aN_len))) (ma_cons (me_callD (ok__law_draw mt) hr (by omega) hG (takes_of rfl rfl rfl rfl) (ma_cons (me_var 1) (ma_cons (me_callB call_len s_len (m.no n_len) rfl (ma_cons (me_var 10) ma_nil)) ma_nil)) rfl (aC_len (aC_len aN_len))) ma_nil)))
    (mss_one (ms_ret (me_callD (ok__law_same mt) hr (by omega) hG (takes_of rfl rfl rfl rfl) (ma_cons (me_ix (hu_of hr :) m.gw (me_var 11) (me_op o_add s_add (me_var 12) (me_var 13))) (ma_cons (me_callD (ok__law_product mt) hr (by omega) hG (takes_of rfl rfl rfl rfl) (ma_cons (me_ix (hu_of hr :) m.gw (me_var 9) (me_var 12)) (ma_cons (me_ix (hu_of hr :) m.gw (me_var 10) (me_var 13)) ma_nil)) rfl (aC_len (aC_len aN_len))) ma_nil)) rfl (aC_len (aC_len aN_len)))))))))))))))))
end
end K59

end
section
set_option maxRecDepth 100000
set_option maxHeartbeats 0
namespace K59
open PySem PySem.Spec L2 Mr MrT
theorem cs_hd {w : World} : ∀ p ∈ csK, PySem.W.codeHdIn (hd59.heap_39 w.params) p.1 p.2 = true := by
  intro p hp
  simp only [csK, List.mem_cons, List.not_mem_nil, or_false] at hp
  rcases hp with rfl
  · exact hd_is_integer_tuple
theorem cs_no {w : World} : ∀ p ∈ csK, (hd59.heap_39 w.params).lookup p.2 = none := by
  intro p hp
  simp only [csK, List.mem_cons, List.not_mem_nil, or_false] at hp
  rcases hp with rfl
  · rfl
theorem cs_tk : ∀ p ∈ TK, ∃ q ∈ csK, q.2 = p.1 := by decide +kernel
end K59
open PySem PySem.W PyProof.Rows
theorem k59_of (hL : ∀ ns : List Int, ns.length ≤ 63 → (∀ z ∈ ns, Builtin.Int.intBits z ≤ 1048576) → Mr.LawTrue K59.f_law ns) : PySem.Challenge.rw_ownpartners_k59_told_products_by_their_v.Holds := hd59 (by
  k_fill
  refine Mr.walk_G (l := PySem.Challenge.rw_ownpartners_k59_told_products_by_their_v) (n := 63) (k := 7) (x := "_law_script") (K := hd59.heap_39) rfl (by decide) rfl ⟨rfl, by decide, by decide⟩ (fun w h Y => km_in_of Y) (by rfl) (fun w mg fa h Y KX hns hmg => ?_)
  have KT := km_tabs_of Y
  obtain ⟨fd, F⟩ := K59.d_law (w := w)
  have ef : fa = 303 := by
    have q := hmg.symm.trans (PySem.W.mg_of KX hns K59.a_law)
    cases q
    rfl
  subst ef
  obtain ⟨oc, od, kV, doc, pm, an, cdv, ct, osl, rfl, lk, hcd⟩ := F.ex
  exact ⟨_, K59.csK, { w := w, T := K59.TK, cl := K59.clf }, K59.f_law, fun p hp => KT p.2 (by revert hp; revert p; decide +kernel), K59.cs_no, fun p hp => codeHd_of_K KX (K59.cs_hd p hp), fun s u => .of_eq rfl, rfl, rfl, K59.cs_tk, hL, fun base hK hN hS hT => K59.fn_law ⟨⟨hK, hN, hS, rfl, rfl, rfl⟩, hT, rfl⟩ F⟩)

end
section
set_option maxRecDepth 100000
set_option maxHeartbeats 1000000
namespace MrT
open PySem PySem.Spec L2 Mr
open PyProof.Rows hiding St
/-! ### evaluation, law-independent -/
theorem dsOf_ints (cs : List Int) : dsOf (cs.map fun i => M.d (.int i)) = some (cs.map PyData.int) := by
  induction cs with
  | nil => rfl
  | cons c cs ih => simp [dsOf, dOf, ih]
theorem shaped_ints (cs : List Int) : SeqAt.shaped (.list (cs.map PyData.int)) = true := by
  have h : PyData.canLayAll0 (cs.map PyData.int) = true := by
    induction cs with
    | nil => rfl
    | cons c cs ih => simp [PyData.canLayAll0, PyData.canLay0, ih]
  have h2 : ∀ cs : List Int, PyData.depthAll (cs.map PyData.int) ≤ 1 := by
    intro cs
    induction cs with
    | nil => decide
    | cons c cs ih => simp [PyData.depthAll, PyData.depth] at ih ⊢; omega
  have h3 := h2 cs
  simp [SeqAt.shaped, PyData.canLay0, h, PyData.depth]
  omega
theorem neNil_ints {cs : List Int} {n : Nat} {S : Sto} (h : S[n]? = some (.lst (cs.map fun i => .d (.int i)))) : opNeU (.loc n) (.d (.list [])) S = some (.d (.bool (decide (cs ≠ [])))) := by
  have a : asD (.loc n) S = some (.list (cs.map PyData.int)) := by simp [asD, h, dsOf_ints]
  have e : opNeU (.loc n) (.d (.list [])) S = opEqG true (.loc n) (.d (.list [])) S := rfl
  rw [e]
  unfold opEqG
  rw [a]
  have b : asD (.d (.list [])) S = some (.list []) := rfl
  rw [b]
  have s := shaped_ints cs
  have s0 : SeqAt.shaped (.list []) = true := shaped_ints []
  simp [s, s0]
  cases cs with
  | nil => simp [PyData.eqv, PyData.eqvAll]
  | cons c cs => simp [PyData.eqv, PyData.eqvAll]
theorem mulK (i j : Int) (h : (-(2 ^ 64) < i ∧ i < 2 ^ 64) ∨ (-(2 ^ 64) < j ∧ j < 2 ^ 64)) (S : Sto) : opMul (.d (.int i)) (.d (.int j)) S = some (.d (.int (i * j))) := by
  have c : cMul i j = true := by
    unfold cMul
    simp only [Bool.or_eq_true, Bool.and_eq_true, decide_eq_true_eq]
    exact h
  show (if cMul i j then some (M.d (.int (i * j))) else none) = _
  rw [c]
  rfl
theorem mulS (i j : Int) (S : Sto) : opMulS (.d (.int i)) (.d (.int j)) S = opMul (.d (.int i)) (.d (.int j)) S := rfl
theorem mulSK (i j : Int) (h : (-(2 ^ 64) < i ∧ i < 2 ^ 64) ∨ (-(2 ^ 64) < j ∧ j < 2 ^ 64)) (S : Sto) : opMulS (.d (.int i)) (.d (.int j)) S = some (.d (.int (i * j))) := (mulS i j S).trans (mulK i j h S)
theorem addI (i j : Int) (S : Sto) : opAdd (.d (.int i)) (.d (.int j)) S = some (.d (.int (i + j))) := rfl
theorem subI (i j : Int) (S : Sto) : opSub (.d (.int i)) (.d (.int j)) S = some (.d (.int (i - j))) := rfl
theorem modI (i j : Int) (h : j ≠ 0) (S : Sto) : opMod (.d (.int i)) (.d (.int j)) S = some (.d (.int (i.fmod j))) := by
  show (if decide (j ≠ 0) then some (M.d (.int (i.fmod j))) else none) = _
  rw [decide_eq_true h]
  rfl
theorem divI (i j : Int) (h : j ≠ 0) (h2 : j.natAbs < 1073741824) (S : Sto) : opFdiv (.d (.int i)) (.d (.int j)) S = some (.d (.int (i.fdiv j))) := by
  show (if cDiv i j then some (M.d (.int (i.fdiv j))) else none) = _
  have c : cDiv i j = true := by
    unfold cDiv
    rw [decide_eq_true h, decide_eq_true h2]
    rfl
  rw [c]
  rfl
theorem geI (i j : Int) (S : Sto) : opGe (.d (.int i)) (.d (.int j)) S = some (.d (.bool (decide (j ≤ i)))) := rfl
theorem leI (i j : Int) (S : Sto) : opLe (.d (.int i)) (.d (.int j)) S = some (.d (.bool (decide (i ≤ j)))) := rfl
theorem ltI (i j : Int) (S : Sto) : opLt (.d (.int i)) (.d (.int j)) S = some (.d (.bool (decide (i < j)))) := rfl
theorem gtI (i j : Int) (S : Sto) : opGt (.d (.int i)) (.d (.int j)) S = some (.d (.bool (decide (j < i)))) := rfl
theorem eqI (i j : Int) (S : Sto) : opEqU (.d (.int i)) (.d (.int j)) S = some (.d (.bool (decide (i = j)))) := by
  have e : opEqU (.d (.int i)) (.d (.int j)) S = some (.d (.bool (PyData.eqv (.int i) (.int j)))) := rfl
  rw [e]
  by_cases h : i = j <;> simp [PyData.eqv, h]
theorem intI (i : Int) (S : Sto) : pInt [.d (.int i)] S = some (.d (.int i)) := rfl
theorem maxI (i j : Int) (S : Sto) : pMax2 [.d (.int i), .d (.int j)] S = some (.d (.int (if j > i then j else i))) := rfl
theorem pow18 (S : Sto) : opPow (.d (.int 10)) (.d (.int 18)) S = some (.d (.int 1000000000000000000)) := rfl
theorem fmod_in (x n : Int) (h : 0 < n) : 0 ≤ x.fmod n ∧ x.fmod n < n := ⟨Int.fmod_nonneg_of_pos _ h, Int.fmod_lt_of_pos _ h⟩
theorem ev0 (m : M) (r : Env1) (S : Sto) : eV 0 (some m :: r) S = .ok m S := rfl
theorem evS (n : Nat) (a : Option M) (r : Env1) (S : Sto) : eV (n + 1) (a :: r) S = eV n r S := rfl
theorem ev1 (a : Option M) (m : M) (r : Env1) (S : Sto) : eV 1 (a :: some m :: r) S = .ok m S := rfl
theorem ev2 (a b : Option M) (m : M) (r : Env1) (S : Sto) : eV 2 (a :: b :: some m :: r) S = .ok m S := rfl
theorem ev3 (a b c : Option M) (m : M) (r : Env1) (S : Sto) : eV 3 (a :: b :: c :: some m :: r) S = .ok m S := rfl
theorem ev4 (a b c d : Option M) (m : M) (r : Env1) (S : Sto) : eV 4 (a :: b :: c :: d :: some m :: r) S = .ok m S := rfl
theorem seq_nx {a b : Env1 → Sto → Out} {e e2 : Env1} {S S2 : Sto} (h : a e S = .nx e2 S2) : sSeq a b e S = b e2 S2 := by
  unfold sSeq
  rw [h]
  rfl
theorem seq_rt {a b : Env1 → Sto → Out} {e : Env1} {S S2 : Sto} {m : M} (h : a e S = .rt m S2) : sSeq a b e S = .rt m S2 := by
  unfold sSeq
  rw [h]
  rfl
theorem if_t {t : Env1 → Sto → R Bool} {a b : Env1 → Sto → Out} {e : Env1} {S S2 : Sto} (h : t e S = .ok true S2) : sIf t a b e S = a e S2 := by
  unfold sIf
  rw [h]
  rfl
theorem if_f {t : Env1 → Sto → R Bool} {a b : Env1 → Sto → Out} {e : Env1} {S S2 : Sto} (h : t e S = .ok false S2) : sIf t a b e S = b e S2 := by
  unfold sIf
  rw [h]
  rfl
theorem if_fn {t : Env1 → Sto → R Bool} {a : Env1 → Sto → Out} {e : Env1} {S S2 : Sto} (h : t e S = .ok false S2) : sIf t a sNx e S = .nx e S2 := if_f h
theorem eif_t {t : Env1 → Sto → R Bool} {a b : Env1 → Sto → R M} {e : Env1} {S S2 : Sto} (h : t e S = .ok true S2) : eIf t a b e S = a e S2 := by
  unfold eIf
  rw [h]
  rfl
theorem eif_f {t : Env1 → Sto → R Bool} {a b : Env1 → Sto → R M} {e : Env1} {S S2 : Sto} (h : t e S = .ok false S2) : eIf t a b e S = b e S2 := by
  unfold eIf
  rw [h]
  rfl
theorem set_v {i : Nat} {f : Env1 → Sto → R M} {e : Env1} {S S2 : Sto} {m : M} (h : f e S = .ok m S2) : sSet i f e S = .nx (e.set i (some m)) S2 := by
  unfold sSet
  rw [h]
  rfl
theorem expr_v {f : Env1 → Sto → R M} {e : Env1} {S S2 : Sto} {m : M} (h : f e S = .ok m S2) : sExpr f e S = .nx e S2 := by
  unfold sExpr
  rw [h]
  rfl
theorem ret_v {f : Env1 → Sto → R M} {e : Env1} {S S2 : Sto} {m : M} (h : f e S = .ok m S2) : sRet f e S = .rt m S2 := by
  unfold sRet
  rw [h]
  rfl
theorem a_nil {e : Env1} {S : Sto} : aN e S = .ok [] S := rfl
theorem a_cons {f : Env1 → Sto → R M} {fs : Env1 → Sto → R (List M)} {e : Env1} {S S1 S2 : Sto} {m : M} {ms : List M} (h : f e S = .ok m S1) (t : fs e S1 = .ok ms S2) : aC f fs e S = .ok (m :: ms) S2 := by
  unfold aC
  rw [h]
  show (R.bind (fs e S1) _) = _
  rw [t]
  rfl
theorem c_call {f : List M → Sto → R M} {fs : Env1 → Sto → R (List M)} {e : Env1} {S S1 : Sto} {ms : List M} (h : fs e S = .ok ms S1) : eCall f fs e S = f ms S1 := by
  unfold eCall
  rw [h]
  rfl
theorem p_call {op : List M → Sto → Option M} {fs : Env1 → Sto → R (List M)} {e : Env1} {S S1 : Sto} {ms : List M} {m : M} (h : fs e S = .ok ms S1) (q : op ms S1 = some m) : ePrim op fs e S = .ok m S1 := by
  unfold ePrim
  rw [h]
  show lift (op ms S1) S1 = _
  rw [q]
  rfl
theorem v_op {op : M → M → Sto → Option M} {f k : Env1 → Sto → R M} {e : Env1} {S S1 S2 : Sto} {a b m : M} (h : f e S = .ok a S1) (t : k e S1 = .ok b S2) (q : op a b S2 = some m) : e2 op f k e S = .ok m S2 := by
  unfold e2
  rw [h]
  show (R.bind (k e S1) _) = _
  rw [t]
  show lift (op a b S2) S2 = _
  rw [q]
  rfl
theorem tB_v {f : Env1 → Sto → R M} {e : Env1} {S S1 : Sto} {c : Bool} (h : f e S = .ok (.d (.bool c)) S1) : Mr.tB f e S = .ok c S1 := by
  unfold Mr.tB
  rw [h]
  rfl
theorem t_op {op : M → M → Sto → Option M} {f k : Env1 → Sto → R M} {e : Env1} {S S1 S2 : Sto} {a b : M} {c : Bool} (h : f e S = .ok a S1) (t : k e S1 = .ok b S2) (q : op a b S2 = some (.d (.bool c))) : Mr.tB (e2 op f k) e S = .ok c S2 := tB_v (v_op h t q)
theorem c_v {m : M} {e : Env1} {S : Sto} : eC m e S = .ok m S := rfl
theorem v_at {i : Nat} {m : M} {e : Env1} {S : Sto} (h : e[i]? = some (some m)) : eV i e S = .ok m S := by
  unfold eV
  rw [h]
/-- what can be shown -/
structure Good (n b : Nat) (d : PyData) : Prop where
  sh : d.showable = true
  lv : d.leavesShort 80 = true
  dp : d.depth ≤ n
  bk : d.bulk ≤ b
theorem Good.mono {n b n2 b2 : Nat} {d : PyData} (g : Good n b d) (h1 : n ≤ n2) (h2 : b ≤ b2) : Good n2 b2 d := ⟨g.sh, g.lv, Nat.le_trans g.dp h1, Nat.le_trans g.bk h2⟩
theorem good_all {n b : Nat} : ∀ {xs : List PyData}, (∀ x ∈ xs, Good n b x) → PyData.showableAll xs = true ∧ PyData.leavesShortAll 80 xs = true ∧ PyData.depthAll xs ≤ n ∧ PyData.bulkAll xs ≤ (b + 1) * xs.length
  | [], _ => ⟨rfl, rfl, by simp [PyData.depthAll], by simp [PyData.bulkAll]⟩
  | x :: xs, h => by
    have hx := h x List.mem_cons_self
    obtain ⟨a1, a2, a3, a4⟩ := good_all (xs := xs) fun y hy => h y (List.mem_cons_of_mem _ hy)
    refine ⟨by simp [PyData.showableAll, hx.sh, a1], by simp [PyData.leavesShortAll, hx.lv, a2], ?_, ?_⟩
    · simp only [PyData.depthAll]
      exact Nat.max_le.mpr ⟨hx.dp, a3⟩
    · simp only [PyData.bulkAll, List.length_cons, Nat.mul_add, Nat.mul_one]
      have := hx.bk
      omega
theorem good_list {n b : Nat} {xs : List PyData} (h : ∀ x ∈ xs, Good n b x) {m : Nat} (hm : xs.length ≤ m) : Good (n + 1) ((b + 1) * m) (.list xs) := by
  obtain ⟨a1, a2, a3, a4⟩ := good_all h
  exact ⟨by simpa [PyData.showable] using a1, by simpa [PyData.leavesShort] using a2, by simp only [PyData.depth]; omega, by simp only [PyData.bulk]; exact Nat.le_trans a4 (Nat.mul_le_mul_left _ hm)⟩
theorem good_tuple {n b : Nat} {xs : List PyData} (h : ∀ x ∈ xs, Good n b x) {m : Nat} (hm : xs.length ≤ m) : Good (n + 1) ((b + 1) * m) (.tuple xs) := by
  obtain ⟨a1, a2, a3, a4⟩ := good_all h
  exact ⟨by simpa [PyData.showable] using a1, by simpa [PyData.leavesShort] using a2, by simp only [PyData.depth]; omega, by simp only [PyData.bulk]; exact Nat.le_trans a4 (Nat.mul_le_mul_left _ hm)⟩
theorem good_rep {n b : Nat} {d : PyData} (g : Good n b d) (hn : n ≤ 50) (hb : b ≤ 100000) : reprable d = true := by
  unfold reprable
  rw [g.sh, decide_eq_true (Nat.le_trans g.dp hn)]
  have h := PyData.shown_le_bulk 80 (by decide) d g.lv
  have h2 := g.bk
  rw [decide_eq_true (show d.shown.length ≤ sizeLine by
    have : sizeLine = 16777216 := by decide
    omega)]
  rfl
def goodB (n b : Nat) (d : PyData) : Bool := d.showable && (d.leavesShort 80 && (decide (d.depth ≤ n) && decide (d.bulk ≤ b)))
theorem good_b {n b : Nat} {d : PyData} (h : goodB n b d = true) : Good n b d := by
  unfold goodB at h
  simp only [Bool.and_eq_true, decide_eq_true_eq] at h
  exact ⟨h.1, h.2.1, h.2.2.1, h.2.2.2⟩
theorem goodAll_b {n b : Nat} {xs : List PyData} (h : (xs.all (goodB n b)) = true) : ∀ x ∈ xs, Good n b x := fun x hx => good_b (List.all_eq_true.mp h x hx)
theorem len_l (xs : List PyData) (S : Sto) : pLen [.d (.list xs)] S = some (.d (.int xs.length)) := rfl
theorem len_t (xs : List PyData) (S : Sto) : pLen [.d (.tuple xs)] S = some (.d (.int xs.length)) := rfl
theorem at_ok {xs : List PyData} {r : Int} (h1 : 0 ≤ r) (h2 : r < xs.length) : ∃ x ∈ xs, atI xs r = some x := by
  have h : r.toNat < xs.length := by omega
  refine ⟨xs[r.toNat], List.getElem_mem h, ?_⟩
  simp [atI, ixN, h1, h2, List.getElem?_eq_getElem h]
theorem rng_map (k : Nat) : rngL 0 k = ((List.range k).map fun (j : Nat) => (0 + (j : Int))).map fun i => M.d (.int i) := by
  unfold rngL
  rw [List.map_map]
  rfl
theorem for_inv {I : Env1 → Sto → Prop} {ft : M → Env1 → Option Env1} {fb : Env1 → Sto → Out} : ∀ (items : List M), (∀ m ∈ items, ∀ e S, I e S → ∃ e1 e2 S2, ft m e = some e1 ∧ fb e1 S = .nx e2 S2 ∧ I e2 S2) → ∀ e S, I e S → ∃ e2 S2, forL ft fb items e S = .nx e2 S2 ∧ I e2 S2
  | [], _, e, S, h => ⟨e, S, rfl, h⟩
  | m :: ms, hb, e, S, h => by
    obtain ⟨e1, e2, S2, a, b, c⟩ := hb m List.mem_cons_self e S h
    obtain ⟨e3, S3, d, i⟩ := for_inv ms (fun m hm => hb m (List.mem_cons_of_mem _ hm)) e2 S2 c
    refine ⟨e3, S3, ?_, i⟩
    unfold forL
    rw [a]
    show (match fb e1 S with
      | .nx e2 S2 => forL ft fb ms e2 S2
      | .ct e2 S2 => forL ft fb ms e2 S2
      | .bk e2 S2 => .nx e2 S2
      | o => o) = _
    rw [b]
    exact d
theorem for_v {fi : Env1 → Sto → R (List M)} {ft : M → Env1 → Option Env1} {fb : Env1 → Sto → Out} {e : Env1} {S S1 : Sto} {items : List M} (h : fi e S = .ok items S1) : sFor fi ft fb e S = forL ft fb items e S1 := by
  unfold sFor
  rw [h]
  rfl
theorem key_ne {a b : Str} (h : (a == b) = false) : (a = b) = False := eq_false fun e => by rw [e, beq_self_eq_true] at h; cases h
theorem cut_map {α β : Type} (f : α → β) (xs : List α) (lo hi : Option Int) : Mr.cutD (xs.map f) lo hi = (Mr.cutD xs lo hi).map f := by
  unfold Mr.cutD
  simp [List.map_take, List.map_drop]
theorem cut_len {α : Type} (xs : List α) (lo hi : Option Int) : (Mr.cutD xs lo hi).length ≤ xs.length := by
  unfold Mr.cutD
  simp only [List.length_take, List.length_drop]
  omega
theorem sl_ok (ns : List Int) (r : Env1) (S : Sto) : eSl (eV 0) oN (oS (eC (.d (.int 63)))) (some (.ro (ns.map .int)) :: r) S = .ok (.d (.list ((Mr.cutD ns none (some 63)).map .int))) S := by
  rw [← cut_map]
  rfl
theorem dp_cons {fk fv : Env1 → Sto → R M} {r : Prs} {e : Env1} {S S1 S2 S3 : Sto} {k v : M} {kk : Key} {kvs : List (Key × M)} (h1 : fk e S = .ok k S1) (h2 : fv e S1 = .ok v S2) (h3 : keyM k = some kk) (h4 : dPairs r e S2 = .ok kvs S3) : dPairs ((fk, fv) :: r) e S = .ok ((kk, v) :: kvs) S3 := by
  unfold dPairs
  simp only [R.bind, h1, h2, h3, h4]
theorem ix_l {xs : List PyData} {r : Int} {x : PyData} {S : Sto} (q : atI xs r = some x) : opIx (.d (.list xs)) (.d (.int r)) S = some (.d x) := by
  simp only [opIx, asI, q, Option.map, Option.bind]
theorem ix_t {xs : List PyData} {r : Int} {x : PyData} {S : Sto} (q : atI xs r = some x) : opIx (.d (.tuple xs)) (.d (.int r)) S = some (.d x) := by
  simp only [opIx, asI, q, Option.map, Option.bind]
theorem not_t {t : Env1 → Sto → R Bool} {e : Env1} {S S2 : Sto} {c : Bool} (h : t e S = .ok c S2) : tNotM t e S = .ok (!c) S2 := by
  unfold tNotM
  rw [h]
  rfl
theorem par2 {i j : Nat} {f k : Env1 → Sto → R M} {e : Env1} {S S1 S2 : Sto} {a b : M} (h : f e S = .ok a S1) (h2 : k e S1 = .ok b S2) : sPar i j (aC f (aC k aN)) e S = .nx ((e.set i (some a)).set j (some b)) S2 := by
  unfold sPar
  rw [a_cons h (a_cons h2 a_nil)]
  rfl
end MrT

end
section
set_option maxRecDepth 100000
set_option maxHeartbeats 1000000
set_option autoImplicit false
namespace MrT
open PySem PySem.Spec L2 Mr
open PyProof.Rows hiding St
/-! ### whole numbers, lists of them, and loops over them -/
abbrev iI (i : Int) : M := .d (.int i)
abbrev lI (xs : List Int) : M := .d (.list (xs.map PyData.int))
abbrev tI (xs : List Int) : M := .d (.tuple (xs.map PyData.int))
theorem shown_int_len {i : Int} {k : Nat} (hk : 1 ≤ k) (h : i.natAbs < 10 ^ k) : (PyData.shown (.int i)).length ≤ k + 1 := by
  have e := int_text_length_le10 (k := k) hk h
  show (Str.ofString (toString i)).length ≤ k + 1
  rw [PySem.ofString_length]
  exact e
theorem lcL_map {α : Type} {ft : M → Env1 → Option Env1} {fe : Env1 → Sto → R M} (mk : α → M) (res : α → PyData) (e : Env1) (S : Sto) : ∀ (items : List α) (acc : List PyData), (∀ a ∈ items, ∃ e1, ft (mk a) e = some e1 ∧ fe e1 S = .ok (.d (res a)) S) → items.length + acc.length ≤ 1000000 →
    lcL ft tYesM fe (items.map mk) e S acc = .ok (.d (.list (acc ++ items.map res))) S
  | [], acc, _, _ => by simp [lcL]
  | a :: items, acc, h, hz => by
    have ih := lcL_map (ft := ft) (fe := fe) mk res e S items (acc ++ [res a]) (fun b hb => h b (List.mem_cons_of_mem _ hb)) (by simp at hz ⊢; omega)
    obtain ⟨e1, h1, h2⟩ := h a List.mem_cons_self
    have hs : acc.length < sizeLine := by
      have : sizeLine = 16777216 := by decide
      simp at hz
      omega
    simp only [List.map_cons, lcL, h1, tYesM, R.nox, R.bind, if_true, h2, hs]
    rw [ih]
    simp
theorem lc_map {α : Type} {vs : List Nat} {fi : Env1 → Sto → R (List M)} {ft : M → Env1 → Option Env1} {fe : Env1 → Sto → R M} {e : Env1} {S : Sto} {items : List α} (mk : α → M) (res : α → PyData) (hi : fi e S = .ok (items.map mk) S) (h : ∀ a ∈ items, ∃ e1, ft (mk a) (wipeE e vs) = some e1 ∧ fe e1 S = .ok (.d (res a)) S) (hz : items.length ≤ 1000000) :
    eLc vs fi ft tYesM fe e S = .ok (.d (.list (items.map res))) S := by
  unfold eLc
  rw [hi]
  have q := lcL_map mk res (wipeE e vs) S items [] h (by simpa using hz)
  rw [List.nil_append] at q
  exact q
theorem zipM_ints (xs ys : List Int) : zipM (xs.map .int) (ys.map .int) = (xs.zip ys).map fun p => M.pr [.int p.1, .int p.2] := by
  unfold zipM
  rw [List.zip_map, List.map_map]
  rfl
theorem zip_len_le (xs ys : List Int) : (xs.zip ys).length ≤ xs.length := by
  rw [List.length_zip]
  exact Nat.min_le_left _ _
/-- [el for i, j in zip(xs, ys)] -/
theorem lc_zip {vs : List Nat} {fi : Env1 → Sto → R (List M)} {i j : Nat} {fe : Env1 → Sto → R M} {e : Env1} {S : Sto} {xs ys : List Int} (g : Int → Int → Int) (hi : fi e S = .ok (zipM (xs.map .int) (ys.map .int)) S)
    (h : ∀ p ∈ xs.zip ys, fe (((wipeE e vs).set i (some (iI p.1))).set j (some (iI p.2))) S = .ok (iI (g p.1 p.2)) S) (hz : xs.length ≤ 1000000) :
    eLc vs fi (tgTup [tgN i, tgN j]) tYesM fe e S = .ok (lI (List.zipWith g xs ys)) S := by
  rw [zipM_ints] at hi
  have q := lc_map (vs := vs) (ft := tgTup [tgN i, tgN j]) (fe := fe) (fun p : Int × Int => M.pr [.int p.1, .int p.2]) (fun p => .int (g p.1 p.2)) hi (fun p hp => ⟨_, rfl, h p hp⟩) (Nat.le_trans (zip_len_le xs ys) hz)
  rw [q]
  have e1 : (xs.zip ys).map (fun p => PyData.int (g p.1 p.2)) = (List.zipWith g xs ys).map .int := by
    rw [← List.zipWith_map_left] <;> simp [List.zip, List.map_zipWith]
  rw [e1]
theorem zip_v {fs : Env1 → Sto → R (List M)} {e : Env1} {S S1 : Sto} {a b : PyData} {xs ys : List PyData} (h : fs e S = .ok [.d a, .d b] S1) (ha : srcD a = some xs) (hb : srcD b = some ys) : iZipA2 fs e S = .ok (zipM xs ys) S1 := by
  unfold iZipA2
  rw [h]
  have q : zipA2 [.d a, .d b] = some (zipM xs ys) := by
    show (match srcD a, srcD b with
      | some xs, some ys => some (zipM xs ys)
      | _, _ => none) = _
    rw [ha, hb]
  show lift (zipA2 [.d a, .d b]) S1 = _
  rw [q]
  rfl
theorem enum_v {fs : Env1 → Sto → R (List M)} {e : Env1} {S S1 : Sto} {a : PyData} {xs : List PyData} (h : fs e S = .ok [.d a] S1) (ha : srcD a = some xs) : iEnumA fs e S = .ok (enumM xs) S1 := by
  unfold iEnumA
  rw [h]
  have q : enumO [.d a] = some (enumM xs) := by
    show (srcD a).map enumM = _
    rw [ha]
    rfl
  show lift (enumO [.d a]) S1 = _
  rw [q]
  rfl
theorem rng_v {fs : Env1 → Sto → R (List M)} {e : Env1} {S S1 : Sto} {j : Int} (h : fs e S = .ok [iI j] S1) (h1 : -1000000000 ≤ j) (h2 : j ≤ 1000000000) : iRng fs e S = .ok ((List.range j.toNat).map fun (k : Nat) => iI (k : Int)) S1 := by
  unfold iRng
  rw [h]
  show (if -(2 ^ 62) ≤ j ∧ j < 2 ^ 62 then R.ok (rngL 0 j.toNat) S1 else .bad) = _
  rw [if_pos ⟨by omega, by omega⟩]
  unfold rngL
  simp
theorem rng_n {fs : Env1 → Sto → R (List M)} {e : Env1} {S S1 : Sto} {n : Nat} (h : fs e S = .ok [iI n] S1) (hn : n ≤ 1000000000) : iRng fs e S = .ok ((List.range n).map fun (k : Nat) => iI (k : Int)) S1 := rng_v (j := n) h (by omega) (by omega)
theorem rng3_v {fs : Env1 → Sto → R (List M)} {e : Env1} {S S1 : Sto} {i j c : Int} {n : Nat} (h : fs e S = .ok [iI i, iI j, iI c] S1) (hc : c ≠ 0 ∧ c.natAbs < 1073741824 ∧ Builtin.Range.small i j c = true) (hn : Builtin.Range.rangeSize i j c = n) : Mr.iRng3 fs e S = .ok ((List.range n).map fun (k : Nat) => iI (i + (k : Int) * c)) S1 := by
  unfold Mr.iRng3
  rw [h]
  show (if c ≠ 0 ∧ c.natAbs < 1073741824 ∧ Builtin.Range.small i j c = true then R.ok (rngC i c (Builtin.Range.rangeSize i j c).toNat) S1 else .bad) = _
  rw [if_pos hc, hn]
  rfl
theorem for_fold {α σ : Type} {ft : M → Env1 → Option Env1} {fb : Env1 → Sto → Out} (mk : α → M) (step : σ → α → σ) (I : σ → Env1 → Sto → Prop) : ∀ (items : List α), (∀ a ∈ items, ∀ s e S, I s e S → ∃ e1 e2 S2, ft (mk a) e = some e1 ∧ fb e1 S = .nx e2 S2 ∧ I (step s a) e2 S2) → ∀ s e S, I s e S →
    ∃ e2 S2, forL ft fb (items.map mk) e S = .nx e2 S2 ∧ I (items.foldl step s) e2 S2
  | [], _, s, e, S, h => ⟨e, S, rfl, h⟩
  | a :: items, hb, s, e, S, h => by
    obtain ⟨e1, e2, S2, p, b, c⟩ := hb a List.mem_cons_self s e S h
    obtain ⟨e3, S3, d, i⟩ := for_fold mk step I items (fun m hm => hb m (List.mem_cons_of_mem _ hm)) (step s a) e2 S2 c
    refine ⟨e3, S3, ?_, i⟩
    rw [List.map_cons]
    unfold forL
    rw [p]
    show (match fb e1 S with
      | .nx e2 S2 => forL ft fb (items.map mk) e2 S2
      | .ct e2 S2 => forL ft fb (items.map mk) e2 S2
      | .bk e2 S2 => .nx e2 S2
      | o => o) = _
    rw [b]
    exact d
/-- a loop that goes on while c -/
def loopN {σ : Type} (c : σ → Bool) (step : σ → σ) : Nat → σ → Option σ
  | 0, _ => none
  | n + 1, s => if c s then loopN c step n (step s) else some s
theorem while_fold {σ : Type} {ft : Env1 → Sto → R Bool} {fb : Env1 → Sto → Out} (c : σ → Bool) (step : σ → σ) (I : σ → Env1 → Sto → Prop) (ht : ∀ s e S, I s e S → ft e S = .ok (c s) S) (hb : ∀ s e S, I s e S → c s = true → ∃ e2 S2, fb e S = .nx e2 S2 ∧ I (step s) e2 S2) :
    ∀ (n : Nat) (s s2 : σ) (e : Env1) (S : Sto), I s e S → loopN c step n s = some s2 → ∃ e2 S2, whileL ft fb n e S = .nx e2 S2 ∧ I s2 e2 S2
  | 0, _, _, _, _, _, h => by cases h
  | n + 1, s, s2, e, S, i, h => by
    unfold whileL
    rw [ht s e S i]
    unfold loopN at h
    cases q : c s with
    | false =>
      rw [q] at h
      cases h
      exact ⟨e, S, rfl, i⟩
    | true =>
      rw [q] at h
      obtain ⟨e2, S2, b, i2⟩ := hb s e S i q
      obtain ⟨e3, S3, w, i3⟩ := while_fold c step I ht hb n (step s) s2 e2 S2 i2 h
      refine ⟨e3, S3, ?_, i3⟩
      show (match fb e S with
        | .nx e2 S2 => whileL ft fb n e2 S2
        | .ct e2 S2 => whileL ft fb n e2 S2
        | .bk e2 S2 => .nx e2 S2
        | o => o) = _
      rw [b]
      exact w
theorem repr_v {f : Env1 → Sto → R M} {e : Env1} {S S1 : Sto} {x : PyData} (h : f e S = .ok (.d x) S1) (g : reprable x = true) : ePrim pReprU (aC f aN) e S = .ok (.d (.str x.shown)) S1 := p_call (a_cons h a_nil) (by
  show (if reprable x then some (M.d (.str x.shown)) else none) = _
  rw [if_pos g])
theorem eqS (a : Str) (S : Sto) : opEqU (.d (.str a)) (.d (.str a)) S = some (.d (.bool true)) := by
  show some (M.d (.bool (decide (a = a)))) = _
  rw [decide_eq_true rfl]
/-- ints within 10^79 -/
def Sm (i : Int) : Prop := i.natAbs < 10 ^ 79
theorem good_int {i : Int} (h : Sm i) : Good 0 0 (.int i) := by
  refine ⟨?_, ?_, by simp [PyData.depth], by simp [PyData.bulk]⟩
  · simp only [PyData.showable, decide_eq_true_eq]
    have q : (10 : Nat) ^ 79 ≤ 2 ^ 1920 := Nat.le_trans (m := 2 ^ 320) (Nat.le_trans (Nat.pow_le_pow_left (by decide : 10 ≤ 2 ^ 4) 79) (by rw [← Nat.pow_mul]; exact Nat.pow_le_pow_right (by decide) (by decide))) (Nat.pow_le_pow_right (by decide) (by decide))
    exact log2_small (Nat.lt_of_lt_of_le h q)
  · simp only [PyData.leavesShort, decide_eq_true_eq]
    exact shown_int_len (k := 79) (by decide) h
theorem rep_tI {xs : List Int} (h : ∀ x ∈ xs, Sm x) (hl : xs.length ≤ 10000) : reprable (.tuple (xs.map .int)) = true := by
  refine good_rep (good_tuple (n := 0) (b := 0) (m := 10000) (fun x hx => ?_) (by simpa using hl)) (by decide) (by decide)
  obtain ⟨i, hi, rfl⟩ := List.mem_map.mp hx
  exact good_int (h i hi)
theorem rep_lI {xs : List Int} (h : ∀ x ∈ xs, Sm x) (hl : xs.length ≤ 10000) : reprable (.list (xs.map .int)) = true := by
  refine good_rep (good_list (n := 0) (b := 0) (m := 10000) (fun x hx => ?_) (by simpa using hl)) (by decide) (by decide)
  obtain ⟨i, hi, rfl⟩ := List.mem_map.mp hx
  exact good_int (h i hi)
theorem addL (xs ys : List Int) (S : Sto) (h : xs.length + ys.length ≤ 1000000) : opAdd (lI xs) (lI ys) S = some (lI (xs ++ ys)) := by
  have q : sizeLine = 16777216 := by decide
  show (if (xs.map PyData.int).length + (ys.map PyData.int).length ≤ sizeLine then some (M.d (.list (xs.map .int ++ ys.map .int))) else none) = _
  rw [if_pos (by simp only [List.length_map]; omega)]
  show _ = some (M.d (.list ((xs ++ ys).map .int)))
  rw [List.map_append]
theorem eI {i : Int} {e : Env1} {S : Sto} : eC (iI i) e S = .ok (iI i) S := rfl
theorem lst1 {f : Env1 → Sto → R M} {e : Env1} {S S1 : Sto} {i : Int} (h : f e S = .ok (iI i) S1) : eLst (aC f aN) e S = .ok (lI [i]) S1 := by
  unfold eLst
  rw [a_cons h a_nil]
  rfl
theorem tup_l (xs : List PyData) (S : Sto) : pTuple [.d (.list xs)] S = some (.d (.tuple xs)) := rfl
theorem tup_t (xs : List PyData) (S : Sto) : pTuple [.d (.tuple xs)] S = some (.d (.tuple xs)) := rfl
theorem lst_l (xs : List PyData) (S : Sto) : pListU [.d (.list xs)] S = some (.d (.list xs)) := rfl
theorem lst_t (xs : List PyData) (S : Sto) : pListU [.d (.tuple xs)] S = some (.d (.list xs)) := rfl
theorem neg_v {f : Env1 → Sto → R M} {e : Env1} {S S1 : Sto} {i : Int} (h : f e S = .ok (iI i) S1) : e1 opNeg f e S = .ok (iI (-i)) S1 := by
  unfold e1
  rw [h]
  rfl
theorem seq_l {f : Env1 → Sto → R M} {e : Env1} {S S1 : Sto} {xs : List PyData} (h : f e S = .ok (.d (.list xs)) S1) : iSeq f e S = .ok (xs.map .d) S1 := by
  unfold iSeq
  rw [h]
  rfl
theorem seq_t {f : Env1 → Sto → R M} {e : Env1} {S S1 : Sto} {xs : List PyData} (h : f e S = .ok (.d (.tuple xs)) S1) : iSeq f e S = .ok (xs.map .d) S1 := by
  unfold iSeq
  rw [h]
  rfl
theorem call_v {f : List M → Sto → R M} {fs : Env1 → Sto → R (List M)} {e : Env1} {S S1 S2 : Sto} {ms : List M} {m : M} (h : fs e S = .ok ms S1) (q : f ms S1 = .ok m S2) : eCall f fs e S = .ok m S2 := (c_call h).trans q
theorem eif_v {t : Env1 → Sto → R Bool} {a b : Env1 → Sto → R M} {e : Env1} {S S1 S2 : Sto} {c : Bool} {m : M} (h : t e S = .ok c S1) (q : (if c then a e S1 else b e S1) = .ok m S2) : eIf t a b e S = .ok m S2 := by
  unfold eIf
  rw [h]
  exact q
theorem tV_i {f : Env1 → Sto → R M} {e : Env1} {S S1 : Sto} {i : Int} (h : f e S = .ok (iI i) S1) : tV f e S = .ok (i != 0) S1 := by
  unfold tV
  rw [h]
  rfl
theorem ixI {xs : List Int} {i : Int} {j : Nat} {x : Int} (S : Sto) (hi : i = j) (h : xs[j]? = some x) : opIx (tI xs) (iI i) S = some (iI x) := by
  subst hi
  have hj : j < xs.length := (List.getElem?_eq_some_iff.mp h).1
  refine ix_t ?_
  rw [List.getElem?_eq_getElem hj] at h
  cases h
  simp [atI, ixN, hj]
theorem ixL {xs : List Int} {i : Int} {j : Nat} {x : Int} (S : Sto) (hi : i = j) (h : xs[j]? = some x) : opIx (lI xs) (iI i) S = some (iI x) := by
  subst hi
  have hj : j < xs.length := (List.getElem?_eq_some_iff.mp h).1
  refine ix_l ?_
  rw [List.getElem?_eq_getElem hj] at h
  cases h
  simp [atI, ixN, hj]
theorem ans_rt {o : Out} {m : M} {S : Sto} (h : o = .rt m S) : ansOf o = .ok m S := by
  rw [h]
  rfl
/-! ### more loops, and what is let go -/
theorem for_foldR {α σ : Type} {ft : M → Env1 → Option Env1} {fb : Env1 → Sto → Out} (mk : α → M) (step : σ → α → σ) (I : List α → σ → Env1 → Sto → Prop) (hb : ∀ a rest s e S, I (a :: rest) s e S → ∃ e1 e2 S2, ft (mk a) e = some e1 ∧ fb e1 S = .nx e2 S2 ∧ I rest (step s a) e2 S2) : ∀ (items : List α) s e S, I items s e S →
    ∃ e2 S2, forL ft fb (items.map mk) e S = .nx e2 S2 ∧ I [] (items.foldl step s) e2 S2
  | [], s, e, S, h => ⟨e, S, rfl, h⟩
  | a :: items, s, e, S, h => by
    obtain ⟨e1, e2, S2, p, b, c⟩ := hb a items s e S h
    obtain ⟨e3, S3, d, i⟩ := for_foldR mk step I hb items (step s a) e2 S2 c
    refine ⟨e3, S3, ?_, i⟩
    rw [List.map_cons]
    unfold forL
    rw [p]
    show (match fb e1 S with
      | .nx e2 S2 => forL ft fb (items.map mk) e2 S2
      | .ct e2 S2 => forL ft fb (items.map mk) e2 S2
      | .bk e2 S2 => .nx e2 S2
      | o => o) = _
    rw [b]
    exact d
/-- a comprehension whose elements draw: P what each element is, I what stays of the store -/
theorem lcL_draw {α : Type} {ft : M → Env1 → Option Env1} {fe : Env1 → Sto → R M} (mk : α → M) (P : α → PyData → Prop) (I : Sto → Prop) (e : Env1) : ∀ (items : List α) (acc : List PyData) (S : Sto), (∀ a ∈ items, ∀ S, I S → ∃ e1 x S2, ft (mk a) e = some e1 ∧ fe e1 S = .ok (.d x) S2 ∧ P a x ∧ I S2) → I S → items.length + acc.length ≤ 1000000 →
    ∃ xs S2, lcL ft tYesM fe (items.map mk) e S acc = .ok (.d (.list (acc ++ xs))) S2 ∧ Paired P items xs ∧ I S2
  | [], acc, S, _, hI, _ => ⟨[], S, by simp [lcL], .nil, hI⟩
  | a :: items, acc, S, h, hI, hz => by
    obtain ⟨e1, x, S1, h1, h2, p, hI1⟩ := h a List.mem_cons_self S hI
    obtain ⟨xs, S2, q, pr, hI2⟩ := lcL_draw (ft := ft) (fe := fe) mk P I e items (acc ++ [x]) S1 (fun b hb => h b (List.mem_cons_of_mem _ hb)) hI1 (by simp at hz ⊢; omega)
    refine ⟨x :: xs, S2, ?_, .cons p pr, hI2⟩
    have hs : acc.length < sizeLine := by
      have : sizeLine = 16777216 := by decide
      simp at hz
      omega
    simp only [List.map_cons, lcL, h1, tYesM, R.nox, R.bind, if_true, h2, hs]
    rw [q]
    simp
theorem lc_draw {α : Type} {vs : List Nat} {fi : Env1 → Sto → R (List M)} {ft : M → Env1 → Option Env1} {fe : Env1 → Sto → R M} {e : Env1} {S S1 : Sto} {items : List α} (mk : α → M) (P : α → PyData → Prop) (I : Sto → Prop) (hi : fi e S = .ok (items.map mk) S1) (h : ∀ a ∈ items, ∀ S, I S → ∃ e1 x S2, ft (mk a) (wipeE e vs) = some e1 ∧ fe e1 S = .ok (.d x) S2 ∧ P a x ∧ I S2) (hI : I S1) (hz : items.length ≤ 1000000) :
    ∃ xs S2, eLc vs fi ft tYesM fe e S = .ok (.d (.list xs)) S2 ∧ Paired P items xs ∧ I S2 := by
  obtain ⟨xs, S2, q, pr, hI2⟩ := lcL_draw (ft := ft) (fe := fe) mk P I (wipeE e vs) items [] S1 h hI (by simpa using hz)
  refine ⟨xs, S2, ?_, pr, hI2⟩
  unfold eLc
  rw [hi]
  exact q
theorem allL_t {ft : M → Env1 → Option Env1} {fe : Env1 → Sto → R M} (e : Env1) (S : Sto) : ∀ (items : List M), (∀ m ∈ items, ∃ e1, ft m e = some e1 ∧ fe e1 S = .ok (.d (.bool true)) S) → allL ft fe items e S = .ok (.d (.bool true)) S
  | [], _ => rfl
  | m :: items, h => by
    obtain ⟨e1, a, b⟩ := h m List.mem_cons_self
    have ih := allL_t (ft := ft) (fe := fe) e S items fun x hx => h x (List.mem_cons_of_mem _ hx)
    simp only [allL, a, R.nox, b, R.bind, if_true, ih]
theorem all_t {vs : List Nat} {fi : Env1 → Sto → R (List M)} {ft : M → Env1 → Option Env1} {fe : Env1 → Sto → R M} {e : Env1} {S S1 : Sto} {items : List M} (hi : fi e S = .ok items S1) (h : ∀ m ∈ items, ∃ e1, ft m (wipeE e vs) = some e1 ∧ fe e1 S1 = .ok (.d (.bool true)) S1) : eAllG vs fi ft fe e S = .ok (.d (.bool true)) S1 := by
  show (fi e S).bind _ = _
  rw [hi]
  exact allL_t (wipeE e vs) S1 items h
theorem neI (i j : Int) (S : Sto) : opNeU (.d (.int i)) (.d (.int j)) S = some (.d (.bool (!decide (i = j)))) := by
  have e : opNeU (.d (.int i)) (.d (.int j)) S = some (.d (.bool (!PyData.eqv (.int i) (.int j)))) := rfl
  rw [e]
  by_cases h : i = j <;> simp [PyData.eqv, h]
theorem rep0 (i : Int) : ∀ n : Nat, (List.replicate n [PyData.int i]).flatten = (List.replicate n i).map .int
  | 0 => rfl
  | n + 1 => by rw [List.replicate_succ, List.flatten_cons, rep0 i n]; rfl
theorem mulL (i : Int) {k : Int} {n : Nat} (S : Sto) (hk : k = n) (hn : n ≤ 1000000) : opMulS (lI [i]) (iI k) S = some (lI (List.replicate n i)) := by
  subst hk
  have e : opMulS (lI [i]) (iI n) S = if -(2 ^ 63) ≤ (n : Int) ∧ (n : Int) < 2 ^ 63 ∧ [PyData.int i].length * (n : Int).toNat ≤ sizeLine then some (.d (.list (List.replicate (n : Int).toNat [PyData.int i]).flatten)) else none := rfl
  have q : sizeLine = 16777216 := by decide
  rw [e, if_pos ⟨by omega, by omega, by simp; omega⟩, Int.toNat_natCast, rep0]
theorem mulLO (i : Int) {k : Int} {n : Nat} (S : Sto) (hk : k = n) (hn : n ≤ 1000000) : opRepO (lI [i]) (iI k) S = some ((List.replicate n i).map .int) := by
  subst hk
  have e : opRepO (lI [i]) (iI n) S = if -(2 ^ 63) ≤ (n : Int) ∧ (n : Int) < 2 ^ 63 ∧ [PyData.int i].length * (n : Int).toNat ≤ sizeLine then some (List.replicate (n : Int).toNat [PyData.int i]).flatten else none := rfl
  have q : sizeLine = 16777216 := by decide
  rw [e, if_pos ⟨by omega, by omega, by simp; omega⟩, Int.toNat_natCast, rep0]
theorem chain_v {o1 o2 : M → M → Sto → Option M} {fa fb fc : Env1 → Sto → R M} {e : Env1} {S S1 S2 S3 : Sto} {x y z m : M} (h1 : fa e S = .ok x S1) (h2 : fb e S1 = .ok y S2) (h3 : o1 x y S2 = some (.d (.bool true))) (h4 : fc e S2 = .ok z S3) (h5 : o2 y z S3 = some m) : eChain o1 o2 fa fb fc e S = .ok m S3 := by
  unfold eChain
  rw [h1]
  show (R.bind (fb e S1) _) = _
  rw [h2]
  show (R.bind (lift ((o1 x y S2).bind asB) S2) _) = _
  rw [h3]
  show (R.bind (fc e S2) _) = _
  rw [h4]
  show lift (o2 y z S3) S3 = _
  rw [h5]
  rfl
theorem or_ff {t u : Env1 → Sto → R Bool} {e : Env1} {S S1 S2 : Sto} {c : Bool} (h : t e S = .ok false S1) (k : u e S1 = .ok c S2) : tOrM t u e S = .ok c S2 := by
  unfold tOrM
  rw [h]
  exact k
theorem or_tt {t u : Env1 → Sto → R Bool} {e : Env1} {S S1 : Sto} (h : t e S = .ok true S1) : tOrM t u e S = .ok true S1 := by
  unfold tOrM
  rw [h]
  rfl
theorem and_tt {a b : Env1 → Sto → R M} {e : Env1} {S S1 S2 : Sto} {m : M} (h : a e S = .ok (.d (.bool true)) S1) (k : b e S1 = .ok m S2) : eAndM a b e S = .ok m S2 := by
  unfold eAndM Mr.tB
  rw [h]
  exact k
theorem enot_v {a : Env1 → Sto → R M} {e : Env1} {S S1 : Sto} {c : Bool} (h : a e S = .ok (.d (.bool c)) S1) : eNotM a e S = .ok (.d (.bool (!c))) S1 := by
  unfold eNotM Mr.tB
  rw [h]
  rfl
theorem at_end (S T : Sto) (o : O) : (S ++ o :: T)[S.length]? = some o := by
  rw [List.getElem?_append_right (Nat.le_refl _), Nat.sub_self]
  rfl
theorem set_end (S T : Sto) (o o' : O) : (S ++ o :: T).set S.length o' = S ++ o' :: T := by
  rw [List.set_append_right _ _ (Nat.le_refl _), Nat.sub_self]
  rfl
theorem cut_data (S T : Sto) (x : PyData) : cutR S (.ok (.d x) (S ++ T)) = .ok (.d x) S := by
  have q : (S ++ T).take S.length = S := List.take_left
  refine (cutR_ok (.inl q) rfl).trans ?_
  rw [q]
theorem dsI (xs : List Int) : dsOf (xs.map fun i => iI i) = some (xs.map .int) := dsOf_ints xs
theorem dsM : ∀ xs : List PyData, dsOf (xs.map M.d) = some xs
  | [] => rfl
  | x :: xs => by simp [dsOf, dOf, dsM xs]
theorem tup_own {S T : Sto} {xs : List PyData} : pTuple [.loc S.length] (S ++ O.lst (xs.map M.d) :: T) = some (.d (.tuple xs)) := by
  have e : pTuple [.loc S.length] (S ++ O.lst (xs.map M.d) :: T) = match (S ++ O.lst (xs.map M.d) :: T)[S.length]? with
    | some (.lst xs) => (dsOf xs).map fun ds => .d (.tuple ds)
    | _ => none := rfl
  rw [e, at_end]
  show (dsOf (xs.map M.d)).map _ = _
  rw [dsM]
  rfl
theorem app_own {S T : Sto} {xs : List M} {fo fa : Env1 → Sto → R M} {e : Env1} {m : M} {S0 : Sto} {S2 T2 : Sto} {xs2 : List M} (h0 : fo e S0 = .ok (.loc S.length) (S ++ O.lst xs :: T)) (h1 : fa e (S ++ O.lst xs :: T) = .ok m (S2 ++ O.lst xs2 :: T2)) (hs : S2.length = S.length) (hl : xs2.length ≤ 1000000) : eApp fo fa e S0 = .ok (.d .none) (S2 ++ O.lst (xs2 ++ [m]) :: T2) := by
  unfold eApp
  rw [h0]
  have q : isL (S ++ O.lst xs :: T) S.length = true := by
    unfold isL
    rw [at_end]
  show (if isL (S ++ O.lst xs :: T) S.length = true then _ else _) = _
  rw [if_pos q, h1]
  show (match (S2 ++ O.lst xs2 :: T2)[S.length]? with
    | some (.lst xs) => if xs.length < sizeLine then R.ok (M.d .none) ((S2 ++ O.lst xs2 :: T2).set S.length (O.lst (xs ++ [m]))) else .bad
    | _ => .bad) = _
  rw [← hs, at_end]
  show (if xs2.length < sizeLine then _ else _) = _
  have q2 : sizeLine = 16777216 := by decide
  rw [if_pos (by omega), set_end]
end MrT

end
section
set_option maxRecDepth 100000
set_option maxHeartbeats 1000000
set_option autoImplicit false
namespace MrT
open PySem PySem.Spec L2 Mr
open PyProof.Rows hiding St
/-! ### products of any numbers; zip(*rows); more -/
theorem mulWK (i j : Int) (h : (-(2 ^ 64) < i ∧ i < 2 ^ 64) ∨ (-(2 ^ 64) < j ∧ j < 2 ^ 64)) (S : Sto) : opMulW (.d (.int i)) (.d (.int j)) S = some (.d (.int (i * j))) := by
  show (if i.natAbs.log2 + j.natAbs.log2 < 1000000 then some (M.d (.int (i * j))) else opMulS (.d (.int i)) (.d (.int j)) S) = _
  split
  · rfl
  · exact mulSK i j h S
theorem log2_lt' {n a : Nat} (h : n < 2 ^ a) (ha : 1 ≤ a) : n.log2 < a := by
  by_cases h0 : n = 0
  · subst h0; simp; omega
  · exact (Nat.log2_lt h0).2 h
theorem mulWB {i j : Int} {a b : Nat} (hi : i.natAbs < 2 ^ a) (hj : j.natAbs < 2 ^ b) (ha : 1 ≤ a ∧ 1 ≤ b ∧ a + b ≤ 1000000) (S : Sto) : opMulW (.d (.int i)) (.d (.int j)) S = some (.d (.int (i * j))) := by
  show (if i.natAbs.log2 + j.natAbs.log2 < 1000000 then some (M.d (.int (i * j))) else opMulS (.d (.int i)) (.d (.int j)) S) = _
  have h1 := log2_lt' hi ha.1
  have h2 := log2_lt' hj ha.2.1
  exact if_pos (by omega)
theorem zipS_v {f : Env1 → Sto → R M} {e : Env1} {S S1 : Sto} {ds : List PyData} {rows : List (List PyData)} (h : f e S = .ok (.d (.tuple ds)) S1) (q : rowsD ds = some rows) (h0 : rows ≠ []) (hl : rows.length ≤ 1000) : iZipS f e S = .ok (colsM rows) S1 := by
  unfold iZipS
  rw [h]
  have e1 : zipNO (.d (.tuple ds)) = some (colsM rows) := by
    show ((rowsD ds).bind fun rows => if rows ≠ [] ∧ rows.length ≤ 1000 then some (colsM rows) else none) = _
    rw [q]
    exact if_pos ⟨h0, hl⟩
  show lift (zipNO (.d (.tuple ds))) S1 = _
  rw [e1]
  rfl
theorem rowsD_t : ∀ rs : List (List Int), rowsD (rs.map fun r => PyData.tuple (r.map .int)) = some (rs.map fun r => r.map .int)
  | [] => rfl
  | r :: rs => by
    show (rowD (.tuple (r.map .int))).bind _ = _
    show (rowsD (rs.map fun r => PyData.tuple (r.map .int))).map _ = _
    rw [rowsD_t rs]
    rfl
theorem asg_v {f : Env1 → Sto → R M} {ft : M → Env1 → Option Env1} {e en : Env1} {S S2 : Sto} {m : M} (h : f e S = .ok m S2) (q : ft m e = some en) : sAsg f ft e S = .nx en S2 := by
  unfold sAsg
  rw [h]
  show (match ft m e with
    | some en => Out.nx en S2
    | none => .bad) = _
  rw [q]
theorem callK_v {p : List Nat} {f : List M → Sto → R M} {fs : Env1 → Sto → R (List M)} {e : Env1} {S S1 S2 : Sto} {ms : List M} {m : M} (h : fs e S = .ok ms S1) (q : f (permL (.d .none) p ms) S1 = .ok m S2) : eCallK p f fs e S = .ok m S2 := by
  unfold eCallK
  rw [h]
  exact q
theorem revU_t {f : Env1 → Sto → R M} {e : Env1} {S S1 : Sto} {xs : List PyData} (h : f e S = .ok (.d (.tuple xs)) S1) : e1 opRevU f e S = .ok (.d (.tuple xs.reverse)) S1 := by
  unfold e1
  rw [h]
  rfl
end MrT

end
section
set_option maxHeartbeats 1000000
namespace MrT
open PySem PySem.Spec L2 Mr
open PyProof.Rows hiding St
/-! ### walks over owned lists, evaluated -/
theorem lcR_map {α : Type} {ft : M → Env1 → Option Env1} {fe : Env1 → Sto → R M} (mk : α → M) (res : α → PyData) (e : Env1) (S : Sto) {rd : Rd} {items : List α} (hr : ∀ i, i ≤ items.length → rd i S = some (items[i]?.map mk)) (h : ∀ a ∈ items, ∃ e1, ft (mk a) e = some e1 ∧ fe e1 S = .ok (.d (res a)) S) (hz : items.length ≤ 1000000) :
    ∀ (k i n : Nat) (acc : List PyData), i + k = items.length → acc.length = i → k < n → lcR ft tYesM fe rd n i e S acc = .ok (.d (.list (acc ++ (items.drop i).map res))) S
  | _, _, 0, _, _, _, hn => by omega
  | 0, i, n + 1, acc, hi, ha, _ => by
    have q : items[i]? = none := List.getElem?_eq_none_iff.mpr (by omega)
    unfold lcR
    rw [hr i (by omega), q]
    rw [List.drop_eq_nil_of_le (by omega)]
    simp
  | k + 1, i, n + 1, acc, hi, ha, hn => by
    have hi2 : i < items.length := by omega
    have q : items[i]? = some items[i] := List.getElem?_eq_getElem hi2
    obtain ⟨e1, h1, h2⟩ := h items[i] (List.getElem_mem hi2)
    have ih := lcR_map (ft := ft) (fe := fe) mk res e S hr h hz k (i + 1) n (acc ++ [res items[i]]) (by omega) (by simp [ha]) (by omega)
    have hs : acc.length < sizeLine := by
      have : sizeLine = 16777216 := by decide
      omega
    unfold lcR
    rw [hr i (by omega), q]
    simp only [Option.map_some, h1, tYesM, R.nox, R.bind, if_true, h2, hs]
    rw [ih, List.drop_eq_getElem_cons hi2, List.map_cons, List.append_assoc]
    rfl
theorem lcR_v {α : Type} {vs : List Nat} {fi : Env1 → Sto → R Rd} {ft : M → Env1 → Option Env1} {fe : Env1 → Sto → R M} {e : Env1} {S : Sto} {items : List α} {rd : Rd} (mk : α → M) (res : α → PyData) (hi : fi e S = .ok rd S) (hr : ∀ i, i ≤ items.length → rd i S = some (items[i]?.map mk)) (h : ∀ a ∈ items, ∃ e1, ft (mk a) (wipeE e vs) = some e1 ∧ fe e1 S = .ok (.d (res a)) S) (hz : items.length < 1000000) :
    eLcR vs fi ft tYesM fe e S = .ok (.d (.list (items.map res))) S := by
  unfold eLcR
  rw [hi]
  have q := lcR_map mk res (wipeE e vs) S hr h (by omega) items.length 0 1000000 [] (by omega) rfl (by omega)
  rw [List.nil_append] at q
  exact q
/-- zip(xs, ys), xs an owned list of integers, ys no shorter -/
theorem zipR_v {fs : Env1 → Sto → R (List M)} {e : Env1} {S S1 : Sto} {n : Nat} {xs : List Int} {b : PyData} {ys : List PyData} (h : fs e S = .ok [.loc n, .d b] S1) (ho : S1[n]? = some (.lst (xs.map iI))) (hb : srcD b = some ys) : iZipR2 fs e S = .ok (rdZ2 (rdO n) (rdD (ys.map .d))) S1 := by
  unfold iZipR2
  rw [h]
  have q : zipRO [.loc n, .d b] S1 = some (rdZ2 (rdO n) (rdD (ys.map .d))) := by
    have q1 : srcR (.loc n) S1 = some (rdO n) := by
      show (match S1[n]? with
        | some (.lst _) => some (rdO n)
        | _ => none) = _
      rw [ho]
    have q2 : srcR (.d b) S1 = some (rdD (ys.map .d)) := by
      show (srcD b).map _ = _
      rw [hb]
      rfl
    show (match srcR (.loc n) S1, srcR (.d b) S1 with
      | some r1, some r2 => some (rdZ2 r1 r2)
      | _, _ => none) = _
    rw [q1, q2]
  show lift (zipRO [.loc n, .d b] S1) S1 = _
  rw [q]
  rfl
theorem rdZ_at {S : Sto} {n : Nat} {xs : List Int} {ys : List PyData} (ho : S[n]? = some (.lst (xs.map iI))) (hl : xs.length ≤ ys.length) (i : Nat) (hi : i ≤ (xs.zip ys).length) : rdZ2 (rdO n) (rdD (ys.map .d)) i S = some ((xs.zip ys)[i]?.map fun p => M.pr [.int p.1, p.2]) := by
  have hz : (xs.zip ys).length = xs.length := by rw [List.length_zip]; omega
  have q1 : rdO n i S = some (xs[i]?.map iI) := by
    unfold rdO
    rw [ho]
    simp
  have q2 : rdD (ys.map M.d) i S = some (ys[i]?.map .d) := by
    unfold rdD
    simp
  unfold rdZ2
  rw [q1, q2]
  by_cases hlt : i < xs.length
  · have a1 : xs[i]? = some xs[i] := List.getElem?_eq_getElem hlt
    have a2 : ys[i]? = some ys[i] := List.getElem?_eq_getElem (by omega)
    have a3 : (xs.zip ys)[i]? = some (xs[i], ys[i]) := by
      rw [List.getElem?_eq_getElem (by omega), List.getElem_zip]
    rw [a1, a2, a3]
    rfl
  · have a1 : xs[i]? = none := List.getElem?_eq_none_iff.mpr (by omega)
    have a3 : (xs.zip ys)[i]? = none := List.getElem?_eq_none_iff.mpr (by omega)
    rw [a1, a3]
    cases ys[i]? <;> rfl
theorem intsD_map : ∀ xs : List Int, intsD (xs.map .int) = some xs
  | [] => rfl
  | x :: xs => by
    rw [List.map_cons]
    simp [intsD, intsD_map xs]
theorem sum_l (xs : List Int) (S : Sto) : pSum [lI xs] S = some (iI xs.sum) := by
  show (seqIs (lI xs) S).map _ = _
  have q : seqIs (lI xs) S = some xs := intsD_map xs
  rw [q]
  rfl
end MrT
namespace MrT
open PySem PySem.Spec L2 Mr
open PyProof.Rows hiding St
theorem repT (i : Int) {k : Int} {n : Nat} (S : Sto) (hk : k = n) (hn : n ≤ 1000) : opMulW (tI [i]) (iI k) S = some (tI (List.replicate n i)) := by
  subst hk
  have e : opMulW (tI [i]) (iI n) S = if (n : Int) ≤ 1 then (if -1000 ≤ (n : Int) then some (.d (.tuple (if (n : Int) = 1 ∨ [PyData.int i] = [] then [PyData.int i] else []))) else none) else if [PyData.int i].isEmpty = false ∧ 2 ≤ (n : Int) ∧ (n : Int) ≤ 1000 ∧ [PyData.int i].length ≤ 1000 then some (.d (.tuple (List.replicate (n : Int).toNat [PyData.int i]).flatten)) else none := rfl
  rw [e]
  match n, hn with
  | 0, _ => rfl
  | 1, _ => rfl
  | n + 2, h =>
    rw [if_neg (by omega), if_pos ⟨rfl, by omega, by omega, by simp⟩, Int.toNat_natCast, rep0]
theorem addT (xs ys : List Int) (S : Sto) (h : xs.length + ys.length ≤ 1000000) : opAdd (tI xs) (tI ys) S = some (tI (xs ++ ys)) := by
  have q : sizeLine = 16777216 := by decide
  show (if (xs.map PyData.int).length + (ys.map PyData.int).length ≤ sizeLine then some (M.d (.tuple (xs.map .int ++ ys.map .int))) else none) = _
  rw [if_pos (by simp only [List.length_map]; omega)]
  show _ = some (M.d (.tuple ((xs ++ ys).map .int)))
  rw [List.map_append]
theorem tup1 {f : Env1 → Sto → R M} {e : Env1} {S S1 : Sto} {i : Int} (h : f e S = .ok (iI i) S1) : eTup (aC f aN) e S = .ok (tI [i]) S1 := by
  unfold eTup
  rw [a_cons h a_nil]
  rfl
theorem divN {n k : Nat} (h : 0 < k) (h2 : k < 1073741824) (S : Sto) : opFdiv (iI n) (iI k) S = some (iI ((n / k : Nat) : Int)) := by
  refine (divI _ _ (by omega) (by omega) S).trans ?_
  rw [Int.fdiv_eq_ediv_of_nonneg _ (by omega)]
  rfl
end MrT

end
section
set_option maxRecDepth 100000
set_option maxHeartbeats 1000000
namespace K59
open PySem PySem.Spec L2 Mr MrT
open PyProof.Rows hiding St
/-- the deck: objects 0 and 1; F: what else lies in the store -/
def deckS (cs : List Int) (x0 x1 : Int) (F : Sto) : Sto := .lst (cs.map fun i => .d (.int i)) :: .dct [(.inr "left", .loc 0), (.inr "mixed", .d (.int x0)), (.inr "draws", .d (.int x1))] :: F
def Dk (F S : Sto) : Prop := ∃ (cs : List Int) (x0 x1 : Int), S = deckS cs x0 x1 F ∧ cs.length ≤ 63
theorem kn0_1 : (("left" : Str) = "mixed") = False := key_ne (by decide +kernel)
theorem kn0_2 : (("left" : Str) = "draws") = False := key_ne (by decide +kernel)
theorem kn1_0 : (("mixed" : Str) = "left") = False := key_ne (by decide +kernel)
theorem kn1_2 : (("mixed" : Str) = "draws") = False := key_ne (by decide +kernel)
theorem kn2_0 : (("draws" : Str) = "left") = False := key_ne (by decide +kernel)
theorem kn2_1 : (("draws" : Str) = "mixed") = False := key_ne (by decide +kernel)
theorem ixF0 (cs : List Int) (x0 x1 : Int) (F : Sto) : opIx (.loc 1) (.d (.str "mixed")) (deckS cs x0 x1 F) = some (.d (.int x0)) := by
  simp [opIx, deckS, keyM, mGet, List.find?, kn0_1, kn0_2, kn1_0, kn1_2, kn2_0, kn2_1]
theorem putF0 (cs : List Int) (x0 x1 n : Int) (F : Sto) : (deckS cs x0 x1 F).set 1 (.dct (putM [(.inr "left", .loc 0), (.inr "mixed", .d (.int x0)), (.inr "draws", .d (.int x1))] (.inr "mixed") (.d (.int n)))) = deckS cs n x1 F := by
  simp [deckS, putM, kn0_1, kn0_2, kn1_0, kn1_2, kn2_0, kn2_1]
theorem ixF1 (cs : List Int) (x0 x1 : Int) (F : Sto) : opIx (.loc 1) (.d (.str "draws")) (deckS cs x0 x1 F) = some (.d (.int x1)) := by
  simp [opIx, deckS, keyM, mGet, List.find?, kn0_1, kn0_2, kn1_0, kn1_2, kn2_0, kn2_1]
theorem putF1 (cs : List Int) (x0 x1 n : Int) (F : Sto) : (deckS cs x0 x1 F).set 1 (.dct (putM [(.inr "left", .loc 0), (.inr "mixed", .d (.int x0)), (.inr "draws", .d (.int x1))] (.inr "draws") (.d (.int n)))) = deckS cs x0 n F := by
  simp [deckS, putM, kn0_1, kn0_2, kn1_0, kn1_2, kn2_0, kn2_1]
theorem ixCells (cs : List Int) (x0 x1 : Int) (F : Sto) : opIx (.loc 1) (.d (.str "left")) (deckS cs x0 x1 F) = some (.loc 0) := by
  simp [opIx, deckS, keyM, mGet, List.find?]
theorem put_v {cs : List Int} {x0 x1 : Int} {F : Sto} {k : Str} {fe : Env1 → Sto → R M} {n : Int} {a : Env1} (h : fe (some (.loc 1) :: a) (deckS cs x0 x1 F) = .ok (.d (.int n)) (deckS cs x0 x1 F)) :
    sPut (eV 0) (eC (.d (.str k))) fe (some (.loc 1) :: a) (deckS cs x0 x1 F) = .nx (some (.loc 1) :: a) ((deckS cs x0 x1 F).set 1 (.dct (putM [(.inr "left", .loc 0), (.inr "mixed", .d (.int x0)), (.inr "draws", .d (.int x1))] (.inr k) (.d (.int n))))) := by
  unfold sPut eC
  simp only [R.bind, R.toS, lift, ev0 _ _ _, h, keyM]
  have q1 : (deckS cs x0 x1 F)[1]? = some (.dct [(.inr "left", .loc 0), (.inr "mixed", .d (.int x0)), (.inr "draws", .d (.int x1))]) := rfl
  rw [q1]
  have q2 : ([(.inr "left", .loc 0), (.inr "mixed", .d (.int x0)), (.inr "draws", .d (.int x1))] : List (Key × M)).length < sizeLine := by
    show 3 < sizeLine
    decide
  simp only [q2, if_true]
def headD : Env1 → Sto → Out := sPut (eV 0) (eC (.d (.str "draws"))) (e2 opAdd (e2 opIx (eV 0) (eC (.d (.str "draws")))) (eC (.d (.int 1))))
def tstD : Env1 → Sto → R Bool := tB (e2 opNeU (e2 opIx (eV 0) (eC (.d (.str "left")))) (eLst aN))
def popD : Env1 → Sto → Out := sSet 3 (ePop (e2 opIx (eV 0) (eC (.d (.str "left")))))
def bigD : Env1 → Sto → R Bool := tB (e2 opGe (eV 3) (e2 opPow (eC (.d (.int 10))) (eC (.d (.int 18)))))
def appD : Env1 → Sto → Out := sExpr (eApp (e2 opIx (eV 0) (eC (.d (.str "left")))) (e2 opFdiv (eV 3) (ePrim pMax2 (aC (eC (.d (.int 2))) (aC (eV 1) aN)))))
def retD : Env1 → Sto → Out := sRet (e2 opMod (ePrim pInt (aC (eV 3) aN)) (eV 1))
def addD : Env1 → Sto → Out := sPut (eV 0) (eC (.d (.str "mixed"))) (e2 opMod (ePrim pInt (aC (e2 opAdd (e2 opAdd (e2 opMulW (e2 opIx (eV 0) (eC (.d (.str "mixed")))) (eC (.d (.int 48271)))) (e2 opMod (ePrim pInt (aC (eV 3) aN)) (eC (.d (.int 2147483629))))) (eC (.d (.int 9)))) aN)) (eC (.d (.int 2147483647))))
def tl0 : Env1 → Sto → Out := sSet 2 (e2 opMod (ePrim pInt (aC (e2 opAdd (e2 opIx (eV 0) (eC (.d (.str "mixed")))) (e2 opMulW (eC (.d (.int 44497))) (e2 opIx (eV 0) (eC (.d (.str "draws")))))) aN)) (eC (.d (.int 2147483587))))
def tl1 : Env1 → Sto → Out := sSet 2 (e2 opMod (ePrim pInt (aC (e2 opAdd (e2 opAdd (e2 opMulW (eV 2) (eV 2)) (e2 opMulW (eC (.d (.int 40014))) (e2 opIx (eV 0) (eC (.d (.str "draws")))))) (eC (.d (.int 21)))) aN)) (eC (.d (.int 2147483563))))
def tl2 : Env1 → Sto → Out := sSet 2 (e2 opMod (ePrim pInt (aC (e2 opAdd (e2 opMulW (eV 2) (eC (.d (.int 39373)))) (eC (.d (.int 8)))) aN)) (eC (.d (.int 2147483647))))
def tlR : Env1 → Sto → Out := sRet (e2 opMod (ePrim pInt (aC (e2 opFdiv (eV 2) (eC (.d (.int 64)))) aN)) (eV 1))
def tailD : Env1 → Sto → Out := sSeq tl0 (sSeq tl1 (sSeq tl2 (tlR)))
theorem draw_parts : m__law_draw = sSeq headD ((sSeq (sIf tstD (sSeq popD (sSeq (sIf bigD (sSeq appD retD) sNx) addD)) sNx) tailD)) := rfl
theorem head_ok (cs : List Int) (x0 x1 q : Int) (F : Sto) (y z : Option M) : headD [some (.loc 1), some (.d (.int q)), y, z] (deckS cs x0 x1 F) = .nx [some (.loc 1), some (.d (.int q)), y, z] (deckS cs x0 (x1 + 1) F) := by
  unfold headD
  rw [put_v (v_op (v_op (v_at rfl) c_v (ixF1 _ _ _ _)) c_v (addI _ _ _)), putF1]
theorem tl0_ok (cs : List Int) (x0 x1 q : Int) (F : Sto) (y : Option M) (z : Option M) : ∃ y2 : Int, tl0 [some (.loc 1), some (.d (.int q)), y, z] (deckS cs x0 x1 F) = .nx [some (.loc 1), some (.d (.int q)), some (.d (.int y2)), z] (deckS cs x0 x1 F) ∧ (-(2 ^ 63) < y2 ∧ y2 < 2 ^ 63) := by
  refine ⟨_, set_v (v_op (p_call (a_cons (v_op (v_op (v_at rfl) c_v (ixF0 _ _ _ _)) (v_op c_v (v_op (v_at rfl) c_v (ixF1 _ _ _ _)) (mulWK _ _ (.inl (by decide)) _)) (addI _ _ _)) a_nil) (intI _ _)) c_v (modI _ _ (by decide) _)), ?_⟩
  have b := fun v : Int => fmod_in v 2147483587 (by decide)
  exact ⟨Int.lt_of_lt_of_le (by decide) (b _).1, Int.lt_trans (b _).2 (by decide)⟩
theorem tl1_ok (cs : List Int) (x0 x1 q : Int) (F : Sto) (y : Int) (z : Option M) (hy : -(2 ^ 63) < y ∧ y < 2 ^ 63) : ∃ y2 : Int, tl1 [some (.loc 1), some (.d (.int q)), some (.d (.int y)), z] (deckS cs x0 x1 F) = .nx [some (.loc 1), some (.d (.int q)), some (.d (.int y2)), z] (deckS cs x0 x1 F) ∧ (-(2 ^ 63) < y2 ∧ y2 < 2 ^ 63) := by
  refine ⟨_, set_v (v_op (p_call (a_cons (v_op (v_op (v_op (v_at rfl) (v_at rfl) (mulWK _ _ (.inl (by omega)) _)) (v_op c_v (v_op (v_at rfl) c_v (ixF1 _ _ _ _)) (mulWK _ _ (.inl (by decide)) _)) (addI _ _ _)) c_v (addI _ _ _)) a_nil) (intI _ _)) c_v (modI _ _ (by decide) _)), ?_⟩
  have b := fun v : Int => fmod_in v 2147483563 (by decide)
  exact ⟨Int.lt_of_lt_of_le (by decide) (b _).1, Int.lt_trans (b _).2 (by decide)⟩
theorem tl2_ok (cs : List Int) (x0 x1 q : Int) (F : Sto) (y : Int) (z : Option M) : ∃ y2 : Int, tl2 [some (.loc 1), some (.d (.int q)), some (.d (.int y)), z] (deckS cs x0 x1 F) = .nx [some (.loc 1), some (.d (.int q)), some (.d (.int y2)), z] (deckS cs x0 x1 F) ∧ (-(2 ^ 63) < y2 ∧ y2 < 2 ^ 63) := by
  refine ⟨_, set_v (v_op (p_call (a_cons (v_op (v_op (v_at rfl) c_v (mulWK _ _ (.inr (by decide)) _)) c_v (addI _ _ _)) a_nil) (intI _ _)) c_v (modI _ _ (by decide) _)), ?_⟩
  have b := fun v : Int => fmod_in v 2147483647 (by decide)
  exact ⟨Int.lt_of_lt_of_le (by decide) (b _).1, Int.lt_trans (b _).2 (by decide)⟩
theorem tlR_ok (cs : List Int) (x0 x1 q : Int) (F : Sto) (y : Int) (z : Option M) (hq : q ≠ 0) (hq0 : 0 < q) : ∃ r : Int, tlR [some (.loc 1), some (.d (.int q)), some (.d (.int y)), z] (deckS cs x0 x1 F) = .rt (.d (.int r)) (deckS cs x0 x1 F) ∧ 0 ≤ r ∧ r < q := by
  refine ⟨_, ret_v (v_op (p_call (a_cons (v_op (v_at rfl) c_v (divI _ _ (by decide) (by decide) _)) a_nil) (intI _ _)) (v_at rfl) (modI _ _ hq _)), ?_⟩
  exact fmod_in _ q hq0
theorem tail_ok (cs : List Int) (x0 x1 q : Int) (F : Sto) (y : Option M) (z : Option M) (hq : 0 < q) : ∃ r : Int, tailD [some (.loc 1), some (.d (.int q)), y, z] (deckS cs x0 x1 F) = .rt (.d (.int r)) (deckS cs x0 x1 F) ∧ 0 ≤ r ∧ r < q := by
  unfold tailD
  obtain ⟨y0, e0, b0⟩ := tl0_ok cs x0 x1 q F y z
  rw [seq_nx e0]
  obtain ⟨y1, e1, b1⟩ := tl1_ok cs x0 x1 q F y0 z b0
  rw [seq_nx e1]
  obtain ⟨y2, e2, b2⟩ := tl2_ok cs x0 x1 q F y1 z
  rw [seq_nx e2]
  exact tlR_ok cs x0 x1 q F y2 z (by omega) hq
theorem tst_ok (cs : List Int) (x0 x1 : Int) (F : Sto) (q y z : Option M) : tstD [some (.loc 1), q, y, z] (deckS cs x0 x1 F) = .ok (decide (cs ≠ [])) (deckS cs x0 x1 F) :=
  t_op (v_op (v_at rfl) c_v (ixCells _ _ _ _)) (b := .d (.list [])) (by
    show (if 0 ≤ 1000 then R.ok (M.d (PyData.list [])) (deckS cs x0 x1 F) else R.bad) = _
    exact if_pos (by decide)) (neNil_ints rfl)
theorem pop_ok (cs : List Int) (x0 x1 q : Int) (F : Sto) (c : Int) (y z : Option M) : popD [some (.loc 1), some (.d (.int q)), y, z] (deckS (cs ++ [c]) x0 x1 F) = .nx [some (.loc 1), some (.d (.int q)), y, some (.d (.int c))] (deckS cs x0 x1 F) := by
  unfold popD sSet ePop e2 eC
  simp only [R.bind, R.toS, lift, ev0 _ _ _, ixCells]
  have q1 : (deckS (cs ++ [c]) x0 x1 F)[0]? = some (.lst ((cs ++ [c]).map fun i => M.d (.int i))) := rfl
  rw [q1]
  simp only [List.map_append, List.map_cons, List.map_nil, List.length_append, List.length_map, List.length_cons, List.length_nil]
  have q2 : (cs.map (fun i => M.d (.int i)) ++ [M.d (.int c)])[cs.length + (0 + 1) - 1]? = some (M.d (.int c)) := by
    rw [List.getElem?_append_right (by simp)]
    simp
  rw [q2]
  simp [deckS]
theorem big_ok (c q : Int) (S : Sto) (y : Option M) : bigD [some (.loc 1), some (.d (.int q)), y, some (.d (.int c))] S = .ok (decide (1000000000000000000 ≤ c)) S := t_op (v_at rfl) (v_op c_v c_v (pow18 S)) (geI _ _ _)
theorem app_ok (cs : List Int) (x0 x1 q : Int) (F : Sto) (c : Int) (y : Option M) (hl : cs.length ≤ 100) (h1 : 1 ≤ q) (h2 : q < 10000000) : appD [some (.loc 1), some (.d (.int q)), y, some (.d (.int c))] (deckS cs x0 x1 F) = .nx [some (.loc 1), some (.d (.int q)), y, some (.d (.int c))] (deckS (cs ++ [c.fdiv (if q > 2 then q else 2)]) x0 x1 F) := by
  unfold appD sExpr eApp e2 ePrim aC aN eC
  have g1 : (if q > 2 then q else 2) ≠ 0 := by split <;> omega
  have g2 : (if q > 2 then q else 2).natAbs < 1073741824 := by split <;> omega
  simp only [R.bind, R.toS, lift, ev0 _ _ _, ev1 _ _ _ _, ev2 _ _ _ _ _, ev3 _ _ _ _ _ _, ixCells, maxI, divI c _ g1 g2]
  have q1 : (deckS cs x0 x1 F)[0]? = some (.lst (cs.map fun i => M.d (.int i))) := rfl
  have q2 : isL (deckS cs x0 x1 F) 0 = true := rfl
  have q3 : (cs.map fun i => M.d (.int i)).length < sizeLine := by
    rw [List.length_map]
    exact Nat.lt_of_le_of_lt hl (by decide)
  simp only [q2, if_true, q1, q3]
  simp [deckS]
theorem ret_ok (c q : Int) (S : Sto) (y : Option M) (h : q ≠ 0) : retD [some (.loc 1), some (.d (.int q)), y, some (.d (.int c))] S = .rt (.d (.int (c.fmod q))) S := ret_v (v_op (p_call (a_cons (v_at rfl) a_nil) (intI _ _)) (v_at rfl) (modI _ q h _))
theorem addD_ok (cs : List Int) (x0 x1 q : Int) (F : Sto) (c : Int) (y : Option M) : ∃ n : Int, addD [some (.loc 1), some (.d (.int q)), y, some (.d (.int c))] (deckS cs x0 x1 F) = .nx [some (.loc 1), some (.d (.int q)), y, some (.d (.int c))] (deckS cs n x1 F) ∧ (-(2 ^ 63) < n ∧ n < 2 ^ 63) := by
  refine ⟨_, (put_v (v_op (p_call (a_cons (v_op (v_op (v_op (v_op (v_at rfl) c_v (ixF0 _ _ _ _)) c_v (mulWK _ _ (.inr (by decide)) _)) (v_op (p_call (a_cons (v_at rfl) a_nil) (intI _ _)) c_v (modI _ _ (by decide) _)) (addI _ _ _)) c_v (addI _ _ _)) a_nil) (intI _ _)) c_v (modI _ _ (by decide) _))).trans (by rw [putF0]), ?_⟩
  have b := fun v : Int => fmod_in v 2147483647 (by decide)
  exact ⟨Int.lt_of_lt_of_le (by decide) (b _).1, Int.lt_trans (b _).2 (by decide)⟩
/-- a draw of less than q: r, and the deck goes on -/
theorem draw_ok {F S : Sto} (d : Dk F S) {q : Int} (h1 : 1 ≤ q) (h2 : q < 10000000) : ∃ (r : Int) (S2 : Sto), f__law_draw [.loc 1, .d (.int q)] S = .ok (.d (.int r)) S2 ∧ (0 ≤ r ∧ r < q) ∧ Dk F S2 := by
  obtain ⟨cs, x0, x1, rfl, hl⟩ := d
  have hq : q ≠ 0 := by omega
  have start : f__law_draw [.loc 1, .d (.int q)] (deckS cs x0 x1 F) = ansOf (((sIf tstD (sSeq popD (sSeq (sIf bigD (sSeq appD retD) sNx) addD)) sNx) [some (.loc 1), some (.d (.int q)), none, none] (deckS cs x0 (x1 + 1) F)).andThen tailD) := by
    unfold f__law_draw fnM
    rw [draw_parts]
    show ansOf (sSeq headD _ [some (.loc 1), some (.d (.int q)), none, none] (deckS cs x0 x1 F)) = _
    rw [seq_nx (head_ok cs x0 x1 q F none none)]
    rfl
  have fin : ∀ (cs2 : List Int) (x0 x1 : Int) (y : Option M) (z : Option M), cs2.length ≤ 63 → ∃ (r : Int) (S2 : Sto), ansOf (tailD [some (.loc 1), some (.d (.int q)), y, z] (deckS cs2 x0 x1 F)) = .ok (.d (.int r)) S2 ∧ (0 ≤ r ∧ r < q) ∧ Dk F S2 := fun cs2 x0 x1 y z hz => by
    obtain ⟨r, e, b⟩ := tail_ok cs2 x0 x1 q F y z (by omega)
    refine ⟨r, _, ?_, b, cs2, x0, x1, rfl, hz⟩
    rw [e]
    rfl
  rw [start]
  rcases List.eq_nil_or_concat cs with e | ⟨ds, c, e⟩
  · subst e
    have e1 : (sIf tstD (sSeq popD (sSeq (sIf bigD (sSeq appD retD) sNx) addD)) sNx) [some (.loc 1), some (.d (.int q)), none, none] (deckS [] x0 (x1 + 1) F) = .nx [some (.loc 1), some (.d (.int q)), none, none] (deckS [] x0 (x1 + 1) F) :=
      if_fn (by rw [tst_ok]; rfl)
    rw [e1]
    exact fin [] x0 (x1 + 1) none none (by simp)
  · have e : cs = ds ++ [c] := by simpa using e
    subst e
    have hl2 : ds.length + 1 ≤ 63 := by simpa using hl
    have e1 : (sIf tstD (sSeq popD (sSeq (sIf bigD (sSeq appD retD) sNx) addD)) sNx) [some (.loc 1), some (.d (.int q)), none, none] (deckS (ds ++ [c]) x0 (x1 + 1) F) =
        ((sIf bigD (sSeq appD retD) sNx) [some (.loc 1), some (.d (.int q)), none, some (.d (.int c))] (deckS ds x0 (x1 + 1) F)).andThen addD := by
      rw [if_t (by rw [tst_ok, decide_eq_true (show ds ++ [c] ≠ [] by simp)])]
      exact seq_nx (pop_ok ds x0 (x1 + 1) q F c _ _)
    rw [e1]
    by_cases hb : 1000000000000000000 ≤ c
    · have e2 : (sIf bigD (sSeq appD retD) sNx) [some (.loc 1), some (.d (.int q)), none, some (.d (.int c))] (deckS ds x0 (x1 + 1) F) = .rt (.d (.int (c.fmod q))) (deckS (ds ++ [c.fdiv (if q > 2 then q else 2)]) x0 (x1 + 1) F) := by
        rw [if_t (by rw [big_ok, decide_eq_true hb]), seq_nx (app_ok ds x0 (x1 + 1) q F c _ (by omega) h1 h2)]
        exact ret_ok c q _ _ hq
      rw [e2]
      have b := fmod_in c q (by omega)
      exact ⟨_, _, rfl, b, _, x0, (x1 + 1), rfl, by simpa using hl2⟩
    · have e2 : (sIf bigD (sSeq appD retD) sNx) [some (.loc 1), some (.d (.int q)), none, some (.d (.int c))] (deckS ds x0 (x1 + 1) F) = .nx [some (.loc 1), some (.d (.int q)), none, some (.d (.int c))] (deckS ds x0 (x1 + 1) F) :=
        if_fn (by rw [big_ok, decide_eq_false hb])
      rw [e2]
      show ∃ r S2, ansOf ((addD [some (.loc 1), some (.d (.int q)), none, some (.d (.int c))] (deckS ds x0 (x1 + 1) F)).andThen tailD) = _ ∧ _
      obtain ⟨n, ea, bn⟩ := addD_ok ds x0 (x1 + 1) q F c none
      rw [ea]
      exact fin ds n (x1 + 1) none _ (by omega)
/-! ### the deck at the start -/
theorem mix_ok (ns : List Int) (m1 z : Int) (S : Sto) : ∃ n1 : Int, b__law_deck_1 [some (.ro (ns.map .int)), some (.d (.int m1)), some (.d (.int z))] S = .nx [some (.ro (ns.map .int)), some (.d (.int n1)), some (.d (.int z))] S := by
  exact ⟨_, set_v (v_op (p_call (a_cons (v_op (v_op (v_op (v_at rfl) c_v (mulWK _ _ (.inr (by decide)) _)) (v_op (p_call (a_cons (v_at rfl) a_nil) (intI _ _)) c_v (modI _ _ (by decide) _)) (addI _ _ _)) c_v (addI _ _ _)) a_nil) (intI _ _)) c_v (modI _ _ (by decide) _))⟩
theorem deck_ok (ns : List Int) (hl : ns.length ≤ 63) : ∃ S, f__law_deck [.ro (ns.map .int)] [] = .ok (.loc 1) S ∧ Dk [] S := by
  obtain ⟨e2, S2, hf, m1, z, rfl, rfl⟩ := for_inv (I := fun e S => ∃ (m1 : Int) (z : Option M), e = [some (.ro (ns.map .int)), some (.d (.int m1)), z] ∧ S = []) (ft := tgN 2) (fb := b__law_deck_1) (((Mr.cutD ns none (some 63)).map PyData.int).map M.d) (fun m hm e S h => by
    obtain ⟨m1, z, rfl, rfl⟩ := h
    obtain ⟨y, hy, rfl⟩ := List.mem_map.mp hm
    obtain ⟨i, hi, rfl⟩ := List.mem_map.mp hy
    obtain ⟨n1, q⟩ := mix_ok ns m1 i []
    exact ⟨_, _, _, rfl, q, n1, _, rfl, rfl⟩) [some (.ro (ns.map .int)), some (.d (.int 10885059)), none] [] ⟨_, _, rfl, rfl⟩
  refine ⟨deckS (Mr.cutD ns none (some 63)).reverse m1 0 [], ?_, _, m1, 0, rfl, by rw [List.length_reverse]; exact Nat.le_trans (cut_len _ _ _) hl⟩
  show ansOf (m__law_deck [some (.ro (ns.map .int)), none, none] []) = _
  unfold m__law_deck
  rw [seq_nx (set_v c_v)]
  show ansOf (sSeq (sFor (iSeq (eSl (eV 0) oN (oS (eC (.d (.int 63)))))) (tgN 2) b__law_deck_1) _ [some (.ro (ns.map .int)), some (.d (.int 10885059)), none] []) = _
  have it : ∀ a1 a2, iSeq (eSl (eV 0) oN (oS (eC (.d (.int 63))))) [some (.ro (ns.map .int)), a1, a2] [] = .ok (((Mr.cutD ns none (some 63)).map PyData.int).map M.d) [] := fun _ _ => by
    unfold iSeq
    rw [sl_ok]
    rfl
  rw [seq_nx ((for_v (it _ _ )).trans hf)]
  have r0 : ePrim pListU (aC (eSl (eV 0) oN (oS (eC (.d (.int 63))))) aN) [some (.ro (ns.map .int)), some (.d (.int m1)), z] [] = .ok (.d (.list ((Mr.cutD ns none (some 63)).map .int))) [] := p_call (a_cons (sl_ok ns _ []) a_nil) rfl
  have r1 : eRevO (ePrim pListU (aC (eSl (eV 0) oN (oS (eC (.d (.int 63))))) aN)) [some (.ro (ns.map .int)), some (.d (.int m1)), z] [] = .ok (.loc 0) [.lst ((Mr.cutD ns none (some 63)).reverse.map fun i => .d (.int i))] := by
    unfold eRevO
    rw [r0]
    simp [R.bind, List.map_reverse]
  have mg : mergeM [(.inr "left", .loc 0), (.inr "mixed", .d (.int m1)), (.inr "draws", .d (.int 0))] = [(.inr "left", .loc 0), (.inr "mixed", .d (.int m1)), (.inr "draws", .d (.int 0))] := by
    simp [mergeM, putM, kn0_1, kn0_2, kn1_0, kn1_2, kn2_0, kn2_1]
  refine congrArg ansOf (ret_v (m := .loc 1) (S2 := deckS (Mr.cutD ns none (some 63)).reverse m1 0 []) ?_)
  unfold eDicO
  have pr : dPairs [(eC (.d (.str "left")), eRevO (ePrim pListU (aC (eSl (eV 0) oN (oS (eC (.d (.int 63))))) aN))), (eC (.d (.str "mixed")), eV 1), (eC (.d (.str "draws")), eC (.d (.int 0)))] [some (.ro (ns.map .int)), some (.d (.int m1)), z] [] =
      .ok [(.inr "left", .loc 0), (.inr "mixed", .d (.int m1)), (.inr "draws", .d (.int 0))] [.lst ((Mr.cutD ns none (some 63)).reverse.map fun i => .d (.int i))] := by
    exact dp_cons c_v r1 rfl (dp_cons c_v (v_at rfl) rfl (dp_cons c_v c_v rfl rfl))
  rw [pr]
  show R.ok _ _ = _
  rw [mg]
  rfl
/-! ### picks -/
theorem draw_call {F S : Sto} {e : Env1} (d : Dk F S) {i : Nat} {f : Env1 → Sto → R M} {q : Int} (h0 : e[i]? = some (some (.loc 1))) (hf : f e S = .ok (.d (.int q)) S) (h1 : 1 ≤ q) (h2 : q < 10000000) :
    ∃ (r : Int) (S2 : Sto), eCall f__law_draw (aC (eV i) (aC f aN)) e S = .ok (.d (.int r)) S2 ∧ (0 ≤ r ∧ r < q) ∧ Dk F S2 := by
  obtain ⟨r, S2, a, b, c⟩ := draw_ok d h1 h2
  exact ⟨r, S2, (c_call (a_cons (v_at h0) (a_cons hf a_nil))).trans a, b, c⟩
theorem pick_gen {F S : Sto} (d : Dk F S) {m : M} {n : Nat} (h1 : 1 ≤ n) (h2 : n < 10000000) (hlen : ∀ S2, Dk F S2 → pLen [m] S2 = some (.d (.int n))) {P : PyData → Prop} (hix : ∀ S2, Dk F S2 → ∀ r : Int, 0 ≤ r → r < n → ∃ x, opIx m (.d (.int r)) S2 = some (.d x) ∧ P x) :
    ∃ (x : PyData) (S2 : Sto), f__law_pick [.loc 1, m] S = .ok (.d x) S2 ∧ P x ∧ Dk F S2 := by
  obtain ⟨r, S2, e, b, d2⟩ := draw_call (i := 0) (e := [some (.loc 1), some m]) (f := ePrim pLen (aC (eV 1) aN)) d rfl (p_call (a_cons (v_at rfl) a_nil) (hlen S d)) (by omega) (by omega)
  obtain ⟨x, q, p⟩ := hix S2 d2 r b.1 b.2
  refine ⟨x, S2, ?_, p, d2⟩
  show ansOf (m__law_pick [some (.loc 1), some m] S) = _
  unfold m__law_pick
  rw [ret_v (v_op (v_at rfl) e q)]
  rfl
theorem pick_l {F S : Sto} (d : Dk F S) {xs : List PyData} {P : PyData → Prop} (h1 : 1 ≤ xs.length) (h2 : xs.length < 10000000) (hP : ∀ x ∈ xs, P x) : ∃ (x : PyData) (S2 : Sto), f__law_pick [.loc 1, .d (.list xs)] S = .ok (.d x) S2 ∧ P x ∧ Dk F S2 :=
  pick_gen d h1 h2 (fun S2 _ => len_l xs S2) fun S2 _ r a b => by
    obtain ⟨x, hx, q⟩ := at_ok a b
    exact ⟨x, ix_l q, hP x hx⟩
theorem pick_t {F S : Sto} (d : Dk F S) {xs : List PyData} {P : PyData → Prop} (h1 : 1 ≤ xs.length) (h2 : xs.length < 10000000) (hP : ∀ x ∈ xs, P x) : ∃ (x : PyData) (S2 : Sto), f__law_pick [.loc 1, .d (.tuple xs)] S = .ok (.d x) S2 ∧ P x ∧ Dk F S2 :=
  pick_gen d h1 h2 (fun S2 _ => len_t xs S2) fun S2 _ r a b => by
    obtain ⟨x, hx, q⟩ := at_ok a b
    exact ⟨x, ix_t q, hP x hx⟩
theorem pick_call {F S S1 : Sto} {e : Env1} {i : Nat} {f : Env1 → Sto → R M} {m : M} {P : PyData → Prop} (h0 : e[i]? = some (some (.loc 1))) (hf : f e S = .ok m S1) (h : ∃ (x : PyData) (S2 : Sto), f__law_pick [.loc 1, m] S1 = .ok (.d x) S2 ∧ P x ∧ Dk F S2) :
    ∃ (x : PyData) (S2 : Sto), eCall f__law_pick (aC (eV i) (aC f aN)) e S = .ok (.d x) S2 ∧ P x ∧ Dk F S2 := by
  obtain ⟨x, S2, a, b, c⟩ := h
  exact ⟨x, S2, (c_call (a_cons (v_at h0) (a_cons hf a_nil))).trans a, b, c⟩
end K59

end
section
set_option maxRecDepth 100000
set_option maxHeartbeats 1000000
namespace K59
open PySem PySem.Spec L2 Mr MrT
open PyProof.Rows hiding St
theorem mem_zipWith {α β γ : Type} {f : α → β → γ} : ∀ {xs : List α} {ys : List β} {z : γ}, z ∈ List.zipWith f xs ys → ∃ x ∈ xs, ∃ y ∈ ys, z = f x y
  | [], _, _, h => by simp at h
  | _ :: _, [], _, h => by simp at h
  | x :: xs, y :: ys, z, h => by
    rw [List.zipWith_cons_cons, List.mem_cons] at h
    rcases h with rfl | h
    · exact ⟨x, List.mem_cons_self, y, List.mem_cons_self, rfl⟩
    · obtain ⟨a, ha, b, hb, e⟩ := mem_zipWith h
      exact ⟨a, List.mem_cons_of_mem _ ha, b, List.mem_cons_of_mem _ hb, e⟩
theorem zip_zero : ∀ (s c : List Int), s.length ≤ c.length → List.zipWith (fun a b => a + 0 * b) s c = s
  | [], _, _ => rfl
  | a :: s, [], h => by simp at h
  | a :: s, b :: c, h => by
    rw [List.zipWith_cons_cons, zip_zero s c (by simpa using h), Int.zero_mul, Int.add_zero]
abbrev tr : M := .d (.bool true)
theorem isint_ok (i : Int) (S : Sto) : f_is_integer [iI i] S = .ok tr S := by
  unfold f_is_integer fnM
  show ansOf (m_is_integer [some (iI i)] S) = _
  exact ans_rt (ret_v (and_tt (p_call (a_cons (v_at rfl) (a_cons rfl a_nil)) rfl) (enot_v (c := false) (p_call (a_cons (v_at rfl) (a_cons rfl a_nil)) rfl))))
theorem isints_ok {x : List Int} {n : Int} (h : n = x.length) (S : Sto) : f_is_integer_tuple [iI n, tI x] S = .ok tr S := by
  unfold f_is_integer_tuple fnM
  show ansOf (m_is_integer_tuple [some (iI n), some (tI x), none] S) = _
  refine ans_rt (ret_v (and_tt (p_call (a_cons (v_at rfl) (a_cons rfl a_nil)) rfl) (and_tt (v_op (p_call (a_cons (v_at rfl) a_nil) (len_t _ _)) (v_at rfl) ((eqI _ _ _).trans (by rw [decide_eq_true]; simp [h]))) (all_t (seq_t (v_at rfl)) fun m hm => ?_))))
  obtain ⟨d, hd, rfl⟩ := List.mem_map.mp hm
  obtain ⟨i, hi, rfl⟩ := List.mem_map.mp hd
  exact ⟨_, rfl, call_v (a_cons (v_at rfl) a_nil) (isint_ok i S)⟩
theorem checks_ok {x : List Int} {n : Int} (h : n = x.length) (S : Sto) : f_check_integers [iI n, tI x] S = .ok (.d .none) S := by
  unfold f_check_integers fnM
  show ansOf (m_check_integers [some (iI n), some (tI x)] S) = _
  unfold m_check_integers
  rw [if_fn (not_t (c := true) (tB_v (call_v (a_cons (v_at rfl) (a_cons (v_at rfl) a_nil)) (isints_ok h S))))]
  rfl
theorem same_ok {d : PyData} (h : reprable d = true) (S : Sto) : f__law_same [.d d, .d d] S = .ok tr S := by
  unfold f__law_same fnM
  show ansOf (m__law_same [some (.d d), some (.d d)] S) = _
  exact ans_rt (ret_v (v_op (repr_v (v_at rfl) h) (repr_v (v_at rfl) h) (eqS _ _)))
/-- f times x and y -/
def comb (f : Int) (x y : List Int) : List Int := List.zipWith (fun a b => f * a + b) x y
theorem comb_len {f : Int} {x y : List Int} (h : y.length = x.length) : (comb f x y).length = x.length := by
  simp [comb, h]
theorem comb_at (f : Int) : ∀ (x y : List Int) (i : Nat), i < x.length → x.length = y.length → (comb f x y).getD i 0 = f * x.getD i 0 + y.getD i 0
  | [], _, i, h, _ => by simp at h
  | _ :: _, [], _, _, h => by simp at h
  | a :: x, b :: y, 0, _, _ => by simp [comb]
  | a :: x, b :: y, i + 1, h, hl => by
    have ih := comb_at f x y i (by simpa using h) (by simpa using hl)
    unfold comb at ih ⊢
    simpa using ih
theorem comb_zero (f : Int) : ∀ n : Nat, comb f (List.replicate n 0) (List.replicate n 0) = List.replicate n 0
  | 0 => rfl
  | n + 1 => by
    have ih := comb_zero f n
    unfold comb at ih ⊢
    simp only [List.replicate_succ, List.zipWith_cons_cons, ih]
    simp
theorem mul_bd {a b : Int} {A B : Nat} (ha : a.natAbs ≤ A) (hb : b.natAbs ≤ B) : (a * b).natAbs ≤ A * B := by
  rw [Int.natAbs_mul]
  exact Nat.mul_le_mul ha hb
def cellStep (x : Int) (b : List Int) (j : Nat) (s : List Int) (k : Nat) : List Int := s.set (j + k) (s.getD (j + k) 0 + x * b.getD k 0)
def lineStep (a b : List Int) (s : List Int) (j : Nat) : List Int := (List.range b.length).foldl (cellStep (a.getD j 0) b j) s
def mulF (a b : List Int) : List Int := (List.range a.length).foldl (lineStep a b) (List.replicate (a.length + b.length - 1) 0)
theorem cell_len {x : Int} {b : List Int} {j : Nat} : ∀ (ks : List Nat) (s : List Int), (ks.foldl (cellStep x b j) s).length = s.length
  | [], _ => rfl
  | k :: ks, s => by rw [List.foldl_cons, cell_len ks]; simp [cellStep]
theorem line_len {a b : List Int} {s : List Int} {j : Nat} : (lineStep a b s j).length = s.length := cell_len _ _
theorem lines_len {a b : List Int} : ∀ (js : List Nat) (s : List Int), (js.foldl (lineStep a b) s).length = s.length
  | [], _ => rfl
  | j :: js, s => by rw [List.foldl_cons, lines_len js, line_len]
theorem mul_len (a b : List Int) : (mulF a b).length = a.length + b.length - 1 := by
  unfold mulF
  rw [lines_len]
  simp
theorem get_at {x : List Int} {k : Nat} (h : k < x.length) : x[k]? = some (x.getD k 0) := by
  rw [List.getD_eq_getElem?_getD, List.getElem?_eq_getElem h]
  rfl
theorem aug_own {f : Int → Int → Int} {fo fi fv : Env1 → Sto → R M} {e : Env1} {S T : Sto} {xs : List Int} {i : Int} {j : Nat} {v : Int} (h0 : fo e (S ++ O.lst (xs.map iI) :: T) = .ok (.loc S.length) (S ++ O.lst (xs.map iI) :: T)) (h1 : fi e (S ++ O.lst (xs.map iI) :: T) = .ok (iI i) (S ++ O.lst (xs.map iI) :: T)) (h2 : fv e (S ++ O.lst (xs.map iI) :: T) = .ok (iI v) (S ++ O.lst (xs.map iI) :: T)) (hi : i = j) (hj : j < xs.length) :
    sAugL f fo fi fv e (S ++ O.lst (xs.map iI) :: T) = .nx e (S ++ O.lst ((xs.set j (f (xs.getD j 0) v)).map iI) :: T) := by
  subst hi
  unfold sAugL
  rw [h0]
  simp only [R.toS]
  rw [h1]
  simp only [R.toS]
  rw [at_end]
  have q : (if (0 : Int) ≤ (j : Int) then atI (xs.map iI) (j : Int) else none) = some (iI (xs.getD j 0)) := by
    rw [if_pos (by omega)]
    have g := get_at hj
    simp [atI, ixN, hj]
  simp only [q]
  rw [h2]
  simp only [R.toS]
  rw [at_end]
  have q2 : ixN (xs.map iI).length (j : Int) = some j := by
    simp [ixN, hj]
  simp only [q2]
  rw [set_end, List.map_set]
theorem cell_ok {a b s : List Int} {j k : Nat} {S : Sto} (hj : j < a.length) (hk : k < b.length) (hs : s.length = a.length + b.length - 1) (hb : ∀ y ∈ b, -(2 ^ 64) < y ∧ y < 2 ^ 64) : b_multiplied_1 [some (tI a), some (tI b), some (.loc S.length), some (iI j), some (iI k)] (S ++ O.lst (s.map iI) :: []) = .nx [some (tI a), some (tI b), some (.loc S.length), some (iI j), some (iI k)] (S ++ O.lst ((cellStep (a.getD j 0) b j s k).map iI) :: []) := by
  unfold b_multiplied_1 cellStep
  refine aug_own (j := j + k) (v_at rfl) (v_op (v_at rfl) (v_at rfl) (addI _ _ _)) (v_op (v_op (v_at rfl) (v_at rfl) (ixI _ rfl (get_at hj))) (v_op (v_at rfl) (v_at rfl) (ixI _ rfl (get_at hk))) (mulWK _ _ (.inr (hb _ ?_)) _)) (by omega) (by omega)
  exact List.mem_of_getElem? (get_at hk)
theorem line_ok {a b s : List Int} {j : Nat} {z4 : Option M} {S : Sto} (hj : j < a.length) (hl : b.length ≤ 1000) (hs : s.length = a.length + b.length - 1) (hb : ∀ y ∈ b, -(2 ^ 64) < y ∧ y < 2 ^ 64) : ∃ z5, b_multiplied_2 [some (tI a), some (tI b), some (.loc S.length), some (iI j), z4] (S ++ O.lst (s.map iI) :: []) = .nx [some (tI a), some (tI b), some (.loc S.length), some (iI j), z5] (S ++ O.lst ((lineStep a b s j).map iI) :: []) := by
  obtain ⟨en, S2, hf, hI⟩ := for_foldR (ft := tgN 4) (fb := b_multiplied_1) (fun k : Nat => iI k) (cellStep (a.getD j 0) b j) (fun rest s e S2 => ∃ z4, e = [some (tI a), some (tI b), some (.loc S.length), some (iI j), z4] ∧ S2 = S ++ O.lst (s.map iI) :: [] ∧ s.length = a.length + b.length - 1 ∧ ∀ k ∈ rest, k < b.length) (fun k rest s e S2 ⟨z4, he, hS, hs, hr⟩ => by
    subst he hS
    exact ⟨_, _, _, rfl, cell_ok hj (hr k List.mem_cons_self) hs hb, _, rfl, rfl, by simp [cellStep, hs], fun i hi => hr i (List.mem_cons_of_mem _ hi)⟩) (List.range b.length) s [some (tI a), some (tI b), some (.loc S.length), some (iI j), z4] (S ++ O.lst (s.map iI) :: []) ⟨z4, rfl, rfl, hs, fun k hk => List.mem_range.mp hk⟩
  obtain ⟨z5, rfl, rfl, _⟩ := hI
  have it : iRng (aC (ePrim pLen (aC (eV 1) aN)) aN) [some (tI a), some (tI b), some (.loc S.length), some (iI j), z4] (S ++ O.lst (s.map iI) :: []) = .ok ((List.range b.length).map fun k : Nat => iI k) (S ++ O.lst (s.map iI) :: []) := rng_n (a_cons (p_call (a_cons (v_at rfl) a_nil) ((len_t _ _).trans (by rw [List.length_map]))) a_nil) (by omega)
  exact ⟨z5, (for_v it).trans hf⟩
theorem mult_ok {a b : List Int} (ha : a.length ≤ 1000) (ha0 : 1 ≤ a.length) (hl : b.length ≤ 1000) (hb : ∀ y ∈ b, -(2 ^ 64) < y ∧ y < 2 ^ 64) (S : Sto) : f_multiplied [tI a, tI b] S = .ok (tI (mulF a b)) S := by
  show cutR S (ansOf (m_multiplied [some (tI a), some (tI b), none, none, none] S)) = _
  have e1 : sSet 2 (e2O opRepO (eLst (aC (eC (.d (.int 0))) aN)) (e2 opSub (e2 opAdd (ePrim pLen (aC (eV 0) aN)) (ePrim pLen (aC (eV 1) aN))) (eC (.d (.int 1))))) [some (tI a), some (tI b), none, none, none] S = .nx [some (tI a), some (tI b), some (.loc S.length), none, none] (S ++ O.lst ((List.replicate (a.length + b.length - 1) (0 : Int)).map iI) :: []) := by
    refine set_v ?_
    unfold e2O
    rw [lst1 eI]
    have w : e2 opSub (e2 opAdd (ePrim pLen (aC (eV 0) aN)) (ePrim pLen (aC (eV 1) aN))) (eC (.d (.int 1))) [some (tI a), some (tI b), none, none, none] S = .ok (iI ((a.length : Int) + b.length - 1)) S := v_op (v_op (p_call (a_cons (v_at rfl) a_nil) ((len_t _ _).trans (by rw [List.length_map]))) (p_call (a_cons (v_at rfl) a_nil) ((len_t _ _).trans (by rw [List.length_map]))) (addI _ _ _)) eI (subI _ _ _)
    simp only [R.bind]
    rw [w]
    simp only
    rw [mulLO 0 (n := a.length + b.length - 1) S (by omega) (by omega)]
    simp only [List.map_map]
    rfl
  obtain ⟨en, S2, hf, hI⟩ := for_foldR (ft := tgN 3) (fb := b_multiplied_2) (fun k : Nat => iI k) (lineStep a b) (fun rest s e S2 => ∃ z3 z4, e = [some (tI a), some (tI b), some (.loc S.length), z3, z4] ∧ S2 = S ++ O.lst (s.map iI) :: [] ∧ s.length = a.length + b.length - 1 ∧ ∀ k ∈ rest, k < a.length) (fun j rest s e S2 ⟨z3, z4, he, hS, hs, hr⟩ => by
    subst he hS
    obtain ⟨z5, q⟩ := line_ok (z4 := z4) (S := S) (hr j List.mem_cons_self) hl hs hb
    exact ⟨_, _, _, rfl, q, _, _, rfl, rfl, line_len.trans hs, fun i hi => hr i (List.mem_cons_of_mem _ hi)⟩) (List.range a.length) (List.replicate (a.length + b.length - 1) 0) [some (tI a), some (tI b), some (.loc S.length), none, none] (S ++ O.lst ((List.replicate (a.length + b.length - 1) (0 : Int)).map iI) :: []) ⟨_, _, rfl, rfl, by simp, fun k hk => List.mem_range.mp hk⟩
  obtain ⟨z3, z4, rfl, rfl, _⟩ := hI
  have it : iRng (aC (ePrim pLen (aC (eV 0) aN)) aN) [some (tI a), some (tI b), some (.loc S.length), none, none] (S ++ O.lst ((List.replicate (a.length + b.length - 1) (0 : Int)).map iI) :: []) = .ok ((List.range a.length).map fun k : Nat => iI k) (S ++ O.lst ((List.replicate (a.length + b.length - 1) (0 : Int)).map iI) :: []) := rng_n (a_cons (p_call (a_cons (v_at rfl) a_nil) ((len_t _ _).trans (by rw [List.length_map]))) a_nil) (by omega)
  have e3 : sRet (ePrim pTuple (aC (eV 2) aN)) [some (tI a), some (tI b), some (.loc S.length), z3, z4] (S ++ O.lst ((mulF a b).map iI) :: []) = .rt (tI (mulF a b)) (S ++ O.lst ((mulF a b).map iI) :: []) := ret_v (p_call (a_cons (v_at rfl) a_nil) (by
    have := tup_own (S := S) (T := []) (xs := (mulF a b).map .int)
    rw [List.map_map] at this
    exact this))
  have e4 := (seq_nx (b := sSeq (sFor (iRng (aC (ePrim pLen (aC (eV 0) aN)) aN)) (tgN 3) b_multiplied_2) (sRet (ePrim pTuple (aC (eV 2) aN)))) e1).trans ((seq_nx ((for_v it).trans hf)).trans e3)
  exact (congrArg (fun o => cutR S (ansOf o)) e4).trans (cut_data S _ _)
theorem loopN_some {σ : Type} {c : σ → Bool} {step : σ → σ} (μ : σ → Nat) (n : Nat) (hc : ∀ s, c s = true → μ s ≤ n) (hs : ∀ s, c s = true → μ s + 1 ≤ μ (step s)) : ∀ (k : Nat) (s : σ), n < μ s + k → ∃ s2, loopN c step (k + 1) s = some s2
  | k, s, h => by
    unfold loopN
    cases q : c s with
    | false => exact ⟨s, rfl⟩
    | true =>
      have h1 := hc s q
      have h2 := hs s q
      cases k with
      | zero => omega
      | succ k => exact loopN_some μ n hc hs k (step s) (by omega)
def cI (n : Nat) (p : List Int) : Bool := decide ((p.length : Int) - 1 < n)
def innF (n : Nat) (F p : List Int) : List Int := ((loopN (cI n) (fun p => mulF p F) 1000 p).getD [])
def cO (n : Nat) (s : List Int × List (List Int)) : Bool := decide ((s.1.length : Int) - 1 ≤ n)
def stO (n : Nat) (F G : List Int) (s : List Int × List (List Int)) : List Int × List (List Int) := (mulF s.1 G, s.2 ++ [innF n F s.1])
def prods (n : Nat) (F G : List Int) : List (List Int) := ((loopN (cO n) (stO n F G) 1000 ([1], [])).getD ([], [])).2
theorem inn_some {n : Nat} (hn : n ≤ 900) {F : List Int} (hF : 2 ≤ F.length) (p : List Int) : loopN (cI n) (fun p => mulF p F) 1000 p = some (innF n F p) := by
  obtain ⟨s2, q⟩ := loopN_some (c := cI n) (step := fun p => mulF p F) List.length n (fun s h => by
    have := of_decide_eq_true h
    omega) (fun s h => by rw [mul_len]; omega) 999 p (by omega)
  unfold innF
  rw [q]
  rfl
theorem prods_some {n : Nat} (hn : n ≤ 900) {F G : List Int} (hG : 2 ≤ G.length) : ∃ pw, loopN (cO n) (stO n F G) 1000 ([1], []) = some (pw, prods n F G) := by
  obtain ⟨s2, q⟩ := loopN_some (c := cO n) (step := stO n F G) (fun s => s.1.length) (n + 1) (fun s h => by
    have := of_decide_eq_true h
    omega) (fun s h => by show _ ≤ (mulF s.1 G).length; rw [mul_len]; omega) 999 ([1], []) (by simp; omega)
  refine ⟨s2.1, ?_⟩
  unfold prods
  rw [q]
  rfl
abbrev tT (rs : List (List Int)) : PyData := .tuple (rs.map fun r => .tuple (r.map .int))
theorem len_v {e : Env1} {S : Sto} {i : Nat} {p : List Int} (h : e[i]? = some (some (tI p))) : e2 opSub (ePrim pLen (aC (eV i) aN)) (eC (.d (.int 1))) e S = .ok (iI ((p.length : Int) - 1)) S := v_op (p_call (a_cons (v_at h) a_nil) ((len_t _ _).trans (by rw [List.length_map]))) eI (subI _ _ _)
theorem products_ok {fam : Str} {n : Nat} (hn : n ≤ 48) {F G : List Int} (hF : 2 ≤ F.length ∧ F.length ≤ 100) (hG : 2 ≤ G.length ∧ G.length ≤ 100) (bF : ∀ y ∈ F, -(2 ^ 64) < y ∧ y < 2 ^ 64) (bG : ∀ y ∈ G, -(2 ^ 64) < y ∧ y < 2 ^ 64)
    (q1 : ∀ S, opIx c_FIRST_SUMS (.d (.str fam)) S = some (tI F)) (q2 : ∀ S, opIx c_SECOND_SUMS (.d (.str fam)) S = some (tI G)) (S : Sto) : f_products_of [.d (.str fam), iI n] S = .ok (.d (tT (prods n F G))) S := by
  show cutR S (ansOf (m_products_of [some (.d (.str fam)), some (iI n), none, none, none, none, none] S)) = _
  have e1 : sPar 4 5 (aC (e2 opIx (eC c_FIRST_SUMS) (eV 0)) (aC (e2 opIx (eC c_SECOND_SUMS) (eV 0)) aN)) [some (.d (.str fam)), some (iI n), none, none, none, none, none] S = .nx [some (.d (.str fam)), some (iI n), none, none, some (tI F), some (tI G), none] S := par2 (v_op c_v (v_at rfl) (q1 S)) (v_op c_v (v_at rfl) (q2 S))
  have e2 : sSet 2 (eLstO aN) [some (.d (.str fam)), some (iI n), none, none, some (tI F), some (tI G), none] S = .nx [some (.d (.str fam)), some (iI n), some (.loc S.length), none, some (tI F), some (tI G), none] (S ++ O.lst (([] : List PyData).map .d) :: []) := set_v rfl
  have e3 : sSet 3 (eTup (aC (eC (.d (.int 1))) aN)) [some (.d (.str fam)), some (iI n), some (.loc S.length), none, some (tI F), some (tI G), none] (S ++ O.lst (([] : List PyData).map .d) :: []) = .nx [some (.d (.str fam)), some (iI n), some (.loc S.length), some (tI [1]), some (tI F), some (tI G), none] (S ++ O.lst (([] : List PyData).map .d) :: []) := set_v rfl
  obtain ⟨pw, lp⟩ := prods_some (n := n) (by omega) (F := F) hG.1
  obtain ⟨en, S2, hf, hI⟩ := while_fold (ft := Mr.tB (Mr.e2 opLe (Mr.e2 opSub (ePrim pLen (aC (eV 3) aN)) (eC (.d (.int 1)))) (eV 1))) (fb := b_products_of_2) (cO n) (stO n F G) (fun s e S2 => ∃ z6, e = [some (.d (.str fam)), some (iI n), some (.loc S.length), some (tI s.1), some (tI F), some (tI G), z6] ∧ S2 = S ++ O.lst ((s.2.map fun r => PyData.tuple (r.map .int)).map .d) :: [] ∧ 1 ≤ s.1.length ∧ s.2.length < s.1.length) (fun s e S2 ⟨z6, he, hS, _⟩ => by
      subst he hS
      exact t_op (len_v rfl) (v_at rfl) (leI _ _ _)) (fun s e S2 ⟨z6, he, hS, h1, h2⟩ hc => by
      subst he hS
      have hc2 : s.1.length ≤ n + 1 := by
        have := of_decide_eq_true hc
        omega
      have g1 : sSet 6 (eV 3) [some (.d (.str fam)), some (iI n), some (.loc S.length), some (tI s.1), some (tI F), some (tI G), z6] (S ++ O.lst ((s.2.map fun r => PyData.tuple (r.map .int)).map .d) :: []) = .nx [some (.d (.str fam)), some (iI n), some (.loc S.length), some (tI s.1), some (tI F), some (tI G), some (tI s.1)] (S ++ O.lst ((s.2.map fun r => PyData.tuple (r.map .int)).map .d) :: []) := set_v (v_at rfl)
      obtain ⟨en, S3, hw, hJ⟩ := while_fold (ft := Mr.tB (Mr.e2 opLt (Mr.e2 opSub (ePrim pLen (aC (eV 6) aN)) (eC (.d (.int 1)))) (eV 1))) (fb := b_products_of_1) (cI n) (fun p => mulF p F) (fun p e S3 => e = [some (.d (.str fam)), some (iI n), some (.loc S.length), some (tI s.1), some (tI F), some (tI G), some (tI p)] ∧ S3 = S ++ O.lst ((s.2.map fun r => PyData.tuple (r.map .int)).map .d) :: [] ∧ 1 ≤ p.length) (fun p e S3 ⟨he, hS, _⟩ => by
        subst he hS
        exact t_op (len_v rfl) (v_at rfl) (ltI _ _ _)) (fun p e S3 ⟨he, hS, hp⟩ hc => by
        subst he hS
        have hc3 : p.length ≤ n := by
          have := of_decide_eq_true hc
          omega
        exact ⟨_, _, set_v (call_v (a_cons (v_at rfl) (a_cons (v_at rfl) a_nil)) (mult_ok (by omega) hp (by omega) bF _)), rfl, rfl, by rw [mul_len]; omega⟩) 1000 s.1 _ _ _ ⟨rfl, rfl, h1⟩ (inn_some (by omega) hF.1 s.1)
      obtain ⟨rfl, rfl, _⟩ := hJ
      have g2 : sExpr (eApp (eV 2) (eV 6)) [some (.d (.str fam)), some (iI n), some (.loc S.length), some (tI s.1), some (tI F), some (tI G), some (tI (innF n F s.1))] (S ++ O.lst ((s.2.map fun r => PyData.tuple (r.map .int)).map .d) :: []) = .nx [some (.d (.str fam)), some (iI n), some (.loc S.length), some (tI s.1), some (tI F), some (tI G), some (tI (innF n F s.1))] (S ++ O.lst (((s.2 ++ [innF n F s.1]).map fun r => PyData.tuple (r.map .int)).map .d) :: []) := expr_v (m := .d .none) ((app_own (S := S) (T := []) (v_at rfl) (v_at rfl) rfl (by simp; omega)).trans (by simp))
      refine ⟨_, _, (seq_nx g1).trans ((seq_nx hw).trans ((seq_nx g2).trans (set_v (call_v (a_cons (v_at rfl) (a_cons (v_at rfl) a_nil)) (mult_ok (by omega) h1 (by omega) bG _))))), _, rfl, rfl, ?_, ?_⟩
      · show 1 ≤ (mulF s.1 G).length
        rw [mul_len]; omega
      · show (s.2 ++ [innF n F s.1]).length < (mulF s.1 G).length
        rw [mul_len]; simp; omega) 1000 ([1], []) _ [some (.d (.str fam)), some (iI n), some (.loc S.length), some (tI [1]), some (tI F), some (tI G), none] (S ++ O.lst (([] : List PyData).map .d) :: []) ⟨none, rfl, rfl, by simp, by simp⟩ lp
  obtain ⟨z6, rfl, rfl, _⟩ := hI
  have e4 : sRet (ePrim pTuple (aC (eV 2) aN)) [some (.d (.str fam)), some (iI n), some (.loc S.length), some (tI pw), some (tI F), some (tI G), z6] (S ++ O.lst (((prods n F G).map fun r => PyData.tuple (r.map .int)).map .d) :: []) = .rt (.d (tT (prods n F G))) (S ++ O.lst (((prods n F G).map fun r => PyData.tuple (r.map .int)).map .d) :: []) := ret_v (p_call (a_cons (v_at rfl) a_nil) tup_own)
  have e5 := (seq_nx (b := sSeq (sSet 2 (eLstO aN)) (sSeq (sSet 3 (eTup (aC (eC (.d (.int 1))) aN))) (sSeq (sWhile (fun _ _ => 1000) (Mr.tB (Mr.e2 opLe (Mr.e2 opSub (ePrim pLen (aC (eV 3) aN)) (eC (.d (.int 1)))) (eV 1))) b_products_of_2) (sRet (ePrim pTuple (aC (eV 2) aN)))))) e1).trans ((seq_nx e2).trans ((seq_nx e3).trans ((seq_nx hf).trans e4)))
  exact (congrArg (fun o => cutR S (ansOf o)) e5).trans (cut_data S _ _)
def val (B : Int) : List Int → Int
  | [] => 0
  | a :: l => a + B * val B l
theorem val_rep (B : Int) : ∀ n : Nat, val B (List.replicate n 0) = 0
  | 0 => rfl
  | n + 1 => by rw [List.replicate_succ, val, val_rep B n]; simp
theorem val_app (B : Int) (y : List Int) : ∀ x : List Int, val B (x ++ y) = val B x + B ^ x.length * val B y
  | [] => by simp [val]
  | a :: x => by
    rw [List.cons_append, val, val_app B y x, val, List.length_cons, Int.pow_succ, Int.mul_add, Int.mul_comm (B ^ x.length) B, Int.mul_assoc]
    omega
theorem val_zip (B c : Int) : ∀ x y : List Int, x.length = y.length → val B (List.zipWith (fun a b => a + c * b) x y) = val B x + c * val B y
  | [], [], _ => by simp [val]
  | a :: x, b :: y, h => by
    rw [List.zipWith_cons_cons, val, val_zip B c x y (by simpa using h), val, val, Int.mul_add, Int.mul_add]
    have e : B * (c * val B y) = c * (B * val B y) := by rw [← Int.mul_assoc, Int.mul_comm B c, Int.mul_assoc]
    omega
  | [], _ :: _, h => by simp at h
  | _ :: _, [], h => by simp at h
theorem val_set (B : Int) : ∀ (s : List Int) (i : Nat) (v : Int), i < s.length → val B (s.set i (s.getD i 0 + v)) = val B s + v * B ^ i
  | [], i, v, h => by simp at h
  | a :: s, 0, v, _ => by simp [val]; omega
  | a :: s, i + 1, v, h => by
    have ih := val_set B s i v (by simpa using h)
    have e : (a :: s).set (i + 1) ((a :: s).getD (i + 1) 0 + v) = a :: s.set i (s.getD i 0 + v) := rfl
    have e2 : B * (v * B ^ i) = v * B ^ (i + 1) := by rw [Int.pow_succ, ← Int.mul_assoc, Int.mul_comm B v, Int.mul_assoc, Int.mul_comm B]
    rw [e, val, ih, val, Int.mul_add, e2]
    omega
/-- the first m terms -/
def pv (B : Int) (b : List Int) : Nat → Int
  | 0 => 0
  | m + 1 => pv B b m + b.getD m 0 * B ^ m
theorem pv_val (B : Int) (b : List Int) : ∀ m, m ≤ b.length → pv B b m = val B (b.take m)
  | 0, _ => rfl
  | m + 1, h => by
    have ht : b.take (m + 1) = b.take m ++ [b.getD m 0] := by
      rw [List.take_add_one, get_at (by omega)]
      rfl
    rw [ht, val_app, pv, pv_val B b m (by omega), List.length_take, Nat.min_eq_left (by omega), val, val]
    rw [Int.mul_zero, Int.add_zero, Int.mul_comm]
theorem pv_all (B : Int) (b : List Int) : pv B b b.length = val B b := by
  rw [pv_val B b _ (Nat.le_refl _), List.take_length]
theorem cells_val (B x : Int) (b : List Int) (j : Nat) (s : List Int) : ∀ m, m ≤ b.length → j + b.length ≤ s.length → val B ((List.range m).foldl (cellStep x b j) s) = val B s + x * B ^ j * pv B b m
  | 0, _, _ => by simp [pv]
  | m + 1, h, hs => by
    have ih := cells_val B x b j s m (by omega) hs
    rw [List.range_succ, List.foldl_append, List.foldl_cons, List.foldl_nil]
    unfold cellStep at ih ⊢
    have hl := cell_len (x := x) (b := b) (j := j) (List.range m) s
    unfold cellStep at hl
    rw [val_set B _ _ _ (by rw [hl]; omega), ih, pv, Int.pow_add, Int.mul_add]
    have e : x * b.getD m 0 * (B ^ j * B ^ m) = x * B ^ j * (b.getD m 0 * B ^ m) := by
      rw [Int.mul_assoc, Int.mul_assoc, ← Int.mul_assoc (b.getD m 0), Int.mul_comm (b.getD m 0) (B ^ j), Int.mul_assoc]
    omega
theorem lines_val (B : Int) (a b : List Int) (s : List Int) : ∀ m, m ≤ a.length → a.length + b.length ≤ s.length + 1 → val B ((List.range m).foldl (lineStep a b) s) = val B s + pv B a m * val B b
  | 0, _, _ => by simp [pv]
  | m + 1, h, hs => by
    have ih := lines_val B a b s m (by omega) hs
    rw [List.range_succ, List.foldl_append, List.foldl_cons, List.foldl_nil]
    have q : val B (lineStep a b ((List.range m).foldl (lineStep a b) s) m) = val B ((List.range m).foldl (lineStep a b) s) + a.getD m 0 * B ^ m * pv B b b.length := cells_val B (a.getD m 0) b m _ b.length (Nat.le_refl _) (by rw [lines_len]; omega)
    rw [q, ih, pv_all, pv, Int.add_mul]
    omega
theorem val_mul (B : Int) (a b : List Int) : val B (mulF a b) = val B a * val B b := by
  unfold mulF
  rw [lines_val B a b _ a.length (Nat.le_refl _) (by simp; omega), val_rep, pv_all, Int.zero_add]
theorem val_inj {B : Int} {M : Nat} (hB : (2 * M : Nat) < B.natAbs) : ∀ x y : List Int, x.length = y.length → (∀ a ∈ x, a.natAbs ≤ M) → (∀ a ∈ y, a.natAbs ≤ M) → val B x = val B y → x = y
  | [], [], _, _, _, _ => rfl
  | a :: x, b :: y, h, hx, hy, e => by
    have ha := hx a List.mem_cons_self
    have hb := hy b List.mem_cons_self
    rw [val, val] at e
    have e1 : a - b = B * (val B y - val B x) := by rw [Int.mul_sub]; omega
    have e2 : val B y - val B x = 0 := by
      apply Classical.byContradiction
      intro hn
      have h1 : 1 ≤ (val B y - val B x).natAbs := by omega
      have h2 : (a - b).natAbs = B.natAbs * (val B y - val B x).natAbs := by rw [e1, Int.natAbs_mul]
      have h3 : B.natAbs * 1 ≤ B.natAbs * (val B y - val B x).natAbs := Nat.mul_le_mul_left _ h1
      omega
    have e3 : a = b := by
      rw [e2, Int.mul_zero] at e1
      omega
    rw [e3, val_inj hB x y (by simpa using h) (fun c hc => hx c (List.mem_cons_of_mem _ hc)) (fun c hc => hy c (List.mem_cons_of_mem _ hc)) (by omega)]
  | [], _ :: _, h, _, _, _ => by simp at h
  | _ :: _, [], h, _, _, _ => by simp at h
def l1 : List Int → Nat
  | [] => 0
  | a :: l => a.natAbs + l1 l
theorem l1_bd : ∀ (l : List Int), ∀ a ∈ l, a.natAbs ≤ l1 l
  | b :: l, a, h => by
    rcases List.mem_cons.mp h with rfl | h
    · unfold l1; omega
    · have := l1_bd l a h
      unfold l1
      omega
theorem val_ext {x y : List Int} (h : x.length = y.length) (e : ∀ B, val B x = val B y) : x = y :=
  val_inj (B := ((2 * (l1 x + l1 y) + 1 : Nat) : Int)) (M := l1 x + l1 y) (by omega) x y h (fun a ha => Nat.le_trans (l1_bd x a ha) (by omega)) (fun a ha => Nat.le_trans (l1_bd y a ha) (by omega)) (e _)
def cv (p : List Int) : List Int → List Int
  | [] => List.replicate (p.length - 1) 0
  | f :: F => List.zipWith (fun a b => a + 1 * b) (p.map (f * ·) ++ List.replicate F.length 0) (0 :: cv p F)
theorem cv_len {p : List Int} (hp : 1 ≤ p.length) : ∀ F : List Int, (cv p F).length = p.length + F.length - 1
  | [] => by simp [cv]
  | f :: F => by
    rw [cv, List.length_zipWith, List.length_append, List.length_map, List.length_replicate, List.length_cons, List.length_cons, cv_len hp F]
    omega
theorem val_map (B f : Int) : ∀ p : List Int, val B (p.map (f * ·)) = f * val B p
  | [] => by simp [val]
  | a :: p => by
    rw [List.map_cons, val, val_map B f p, val, Int.mul_add, ← Int.mul_assoc, Int.mul_comm B f, Int.mul_assoc]
theorem val_cv (B : Int) {p : List Int} (hp : 1 ≤ p.length) : ∀ F : List Int, val B (cv p F) = val B p * val B F
  | [] => by rw [cv, val_rep, val]; simp
  | f :: F => by
    rw [cv, val_zip B 1 _ _ (by simp [cv_len hp F]; omega), val_app, val_rep, val_map, val, val_cv B hp F, val, Int.mul_zero, Int.add_zero, Int.one_mul, Int.zero_add, Int.mul_add, Int.mul_comm f, ← Int.mul_assoc, Int.mul_comm B, Int.mul_assoc]
theorem mul_cv {p : List Int} (hp : 1 ≤ p.length) (F : List Int) : mulF p F = cv p F := val_ext (by rw [mul_len, cv_len hp]) fun B => by rw [val_mul, val_cv B hp]
end K59

end
section
set_option maxRecDepth 100000
set_option maxHeartbeats 1000000
namespace K59
open PySem PySem.Spec L2 Mr MrT
open PyProof.Rows hiding St
/-! ### the products of sums, as lists -/
theorem l1_app (y : List Int) : ∀ x : List Int, l1 (x ++ y) = l1 x + l1 y
  | [] => by simp [l1]
  | a :: x => by rw [List.cons_append, l1, l1, l1_app y x]; omega
theorem l1_rep : ∀ n : Nat, l1 (List.replicate n 0) = 0
  | 0 => rfl
  | n + 1 => by rw [List.replicate_succ, l1, l1_rep n]; rfl
theorem l1_map (f : Int) : ∀ p : List Int, l1 (p.map (f * ·)) = f.natAbs * l1 p
  | [] => by simp [l1]
  | a :: p => by rw [List.map_cons, l1, l1, l1_map f p, Int.natAbs_mul, Nat.mul_add]
theorem l1_zip : ∀ x y : List Int, l1 (List.zipWith (fun a b => a + 1 * b) x y) ≤ l1 x + l1 y
  | [], _ => by simp [l1]
  | _ :: _, [] => by simp [l1]
  | a :: x, b :: y => by
    have ih := l1_zip x y
    rw [List.zipWith_cons_cons, l1, l1, l1]
    omega
theorem l1_cv (p : List Int) : ∀ F : List Int, l1 (cv p F) ≤ l1 p * l1 F
  | [] => by rw [cv, l1_rep]; omega
  | f :: F => by
    have ih := l1_cv p F
    have z := l1_zip (p.map (f * ·) ++ List.replicate F.length 0) (0 :: cv p F)
    rw [l1_app, l1_rep, l1_map, l1] at z
    rw [cv, l1, Nat.mul_add, Nat.mul_comm (l1 p) f.natAbs]
    have e : (0 : Int).natAbs = 0 := rfl
    omega
theorem zip_get : ∀ (x y : List Int) (i : Nat), x.length = y.length → (List.zipWith (fun a b => a + 1 * b) x y).getD i 0 = x.getD i 0 + y.getD i 0
  | [], [], i, _ => by simp
  | [], _ :: _, _, h => by simp at h
  | _ :: _, [], _, h => by simp at h
  | a :: x, b :: y, 0, _ => by simp
  | a :: x, b :: y, i + 1, h => by
    have ih := zip_get x y i (by simpa using h)
    simpa using ih
theorem rep_get (i : Nat) : ∀ m : Nat, (List.replicate m (0 : Int)).getD i 0 = 0 := fun m => by
  rw [List.getD_eq_getElem?_getD, List.getElem?_replicate]
  split <;> rfl
theorem pad_get (f : Int) (m : Nat) : ∀ (p : List Int) (i : Nat), (p.map (f * ·) ++ List.replicate m 0).getD i 0 = f * p.getD i 0
  | [], i => by
    rw [List.map_nil, List.nil_append, rep_get]
    simp
  | a :: p, 0 => by simp
  | a :: p, i + 1 => by
    have ih := pad_get f m p i
    simpa using ih
theorem cv_get {p : List Int} (hp : 1 ≤ p.length) (f : Int) (F : List Int) (i : Nat) : (cv p (f :: F)).getD i 0 = f * p.getD i 0 + (0 :: cv p F).getD i 0 := by
  rw [cv, zip_get _ _ _ (by simp [cv_len hp F]; omega), pad_get]
/-- nothing before place k -/
def Zr (k : Nat) (p : List Int) : Prop := ∀ i, i < k → p.getD i 0 = 0
/-- the first number that is not 0 is a 1 at place k -/
def Ld (k : Nat) (p : List Int) : Prop := Zr k p ∧ p.getD k 0 = 1
theorem zr_cv {p : List Int} {k : Nat} (hp : 1 ≤ p.length) (h : Zr k p) : ∀ F : List Int, Zr k (cv p F)
  | [], i, _ => by rw [cv]; exact rep_get _ _
  | f :: F, i, hi => by
    rw [cv_get hp, h i hi]
    cases i with
    | zero => simp
    | succ i =>
      have := zr_cv hp h F i (by omega)
      simpa using this
theorem ld_one {p : List Int} {k : Nat} (hp : 1 ≤ p.length) (h : Ld k p) (F : List Int) : Ld k (cv p (1 :: F)) := by
  refine ⟨zr_cv hp h.1 _, ?_⟩
  rw [cv_get hp, h.2]
  cases k with
  | zero => simp
  | succ k =>
    have e : (0 :: cv p F).getD (k + 1) 0 = 0 := zr_cv hp h.1 F k (by omega)
    rw [e]
    rfl
theorem ld_sh {p : List Int} {k : Nat} (hp : 1 ≤ p.length) (h : Ld k p) (F : List Int) : ∀ g : Nat, Ld (k + g) (cv p (List.replicate g 0 ++ 1 :: F))
  | 0 => ld_one hp h F
  | g + 1 => by
    have ih := ld_sh hp h F g
    rw [List.replicate_succ, List.cons_append]
    refine ⟨fun i hi => ?_, ?_⟩
    · rw [cv_get hp]
      cases i with
      | zero => simp
      | succ i =>
        have := ih.1 i (by omega)
        simpa using this
    · rw [cv_get hp]
      have := ih.2
      rw [← Nat.add_assoc]
      simpa using this
theorem inn_run {n s : Nat} {F F' : List Int} (hF : F.length = s + 1) (hs : 1 ≤ s) (h1 : F = 1 :: F') : ∀ (t k : Nat) (p : List Int), p.length + s * t = n + 1 → 1 ≤ p.length → t < k → ∃ q, loopN (cI n) (fun p => mulF p F) k p = some q ∧ q.length = n + 1 ∧ (∀ B, val B q = val B p * val B F ^ t) ∧ l1 q ≤ l1 p * l1 F ^ t ∧ ∀ j, Ld j p → Ld j q
  | t, 0, p, _, _, ht => by omega
  | 0, k + 1, p, hl, hp, _ => by
    have q : cI n p = false := decide_eq_false (by omega)
    refine ⟨p, ?_, by omega, fun B => by simp, by simp, fun j h => h⟩
    unfold loopN
    rw [q]
    rfl
  | t + 1, k + 1, p, hl, hp, ht => by
    have e : s * (t + 1) = s * t + s := Nat.mul_succ s t
    have q : cI n p = true := decide_eq_true (by omega)
    obtain ⟨r, a, b, c, d, f⟩ := inn_run (n := n) hF hs h1 t k (mulF p F) (by rw [mul_len, hF]; omega) (by rw [mul_len]; omega) (by omega)
    refine ⟨r, ?_, b, fun B => ?_, ?_, fun j h => f j ?_⟩
    · unfold loopN
      rw [q]
      exact a
    · rw [c B, val_mul, Int.pow_succ, Int.mul_assoc, Int.mul_comm (val B F)]
    · refine Nat.le_trans d ?_
      rw [Nat.pow_succ, Nat.mul_comm (l1 F ^ t), ← Nat.mul_assoc]
      refine Nat.mul_le_mul_right _ ?_
      rw [mul_cv hp]
      exact l1_cv p F
    · rw [mul_cv hp, h1]
      exact ld_one hp h F'
def gp (G : List Int) : Nat → List Int
  | 0 => [1]
  | b + 1 => mulF (gp G b) G
def row (n : Nat) (F G : List Int) (b : Nat) : List Int := innF n F (gp G b)
theorem gp_len {G : List Int} {h : Nat} (hG : G.length = h + 1) : ∀ b, (gp G b).length = b * h + 1
  | 0 => by simp [gp]
  | b + 1 => by rw [gp, mul_len, gp_len hG b, hG, Nat.succ_mul]; omega
theorem gp_val (B : Int) (G : List Int) : ∀ b, val B (gp G b) = val B G ^ b
  | 0 => by simp [gp, val]
  | b + 1 => by rw [gp, val_mul, gp_val B G b, Int.pow_succ]
theorem gp_l1 {G : List Int} {h : Nat} (hG : G.length = h + 1) : ∀ b, l1 (gp G b) ≤ l1 G ^ b
  | 0 => by simp [gp, l1]
  | b + 1 => by
    rw [gp, mul_cv (by rw [gp_len hG]; omega), Nat.pow_succ]
    exact Nat.le_trans (l1_cv _ _) (Nat.mul_le_mul_right _ (gp_l1 hG b))
theorem gp_ld {G G' : List Int} {h g : Nat} (hG : G.length = h + 1) (e : G = List.replicate g 0 ++ 1 :: G') : ∀ b, Ld (g * b) (gp G b)
  | 0 => ⟨fun i hi => by omega, rfl⟩
  | b + 1 => by
    rw [gp, mul_cv (by rw [gp_len hG]; omega), Nat.mul_succ]
    have := ld_sh (by rw [gp_len hG]; omega) (gp_ld hG e b) G' g
    rwa [← e] at this
theorem out_run {n h : Nat} {F G : List Int} (hG : G.length = h + 1) (hh : 1 ≤ h) : ∀ (t k b : Nat), b + t = n / h + 1 → t < k → loopN (cO n) (stO n F G) k (gp G b, (List.range b).map (row n F G)) = some (gp G (n / h + 1), (List.range (n / h + 1)).map (row n F G))
  | t, 0, b, _, ht => by omega
  | 0, k + 1, b, hb, _ => by
    have hb : b = n / h + 1 := by omega
    have q : cO n (gp G b, (List.range b).map (row n F G)) = false := decide_eq_false (by
      show ¬ (((gp G b).length : Int) - 1 ≤ n)
      rw [gp_len hG]
      have := Nat.div_add_mod n h
      have := Nat.mod_lt n hh
      have e : b * h = h * (n / h) + h := by rw [hb, Nat.mul_comm, Nat.mul_succ]
      omega)
    unfold loopN
    rw [q, ← hb]
    rfl
  | t + 1, k + 1, b, hb, ht => by
    have q : cO n (gp G b, (List.range b).map (row n F G)) = true := decide_eq_true (by
      show ((gp G b).length : Int) - 1 ≤ n
      rw [gp_len hG]
      have h2 : b ≤ n / h := by omega
      have := Nat.mul_le_mul_left h h2
      have := Nat.div_mul_le_self n h
      rw [Nat.mul_comm] at this
      have e : b * h = h * b := Nat.mul_comm _ _
      omega)
    unfold loopN
    rw [q]
    have e : stO n F G (gp G b, (List.range b).map (row n F G)) = (gp G (b + 1), (List.range (b + 1)).map (row n F G)) := by
      unfold stO
      rw [List.range_succ, List.map_append]
      rfl
    show loopN (cO n) (stO n F G) k (stO n F G (gp G b, (List.range b).map (row n F G))) = _
    rw [e]
    exact out_run hG hh t k (b + 1) (by omega) (by omega)
theorem prods_rows {n h : Nat} {F G : List Int} (hn : n ≤ 900) (hG : G.length = h + 1) (hh : 1 ≤ h) : prods n F G = (List.range (n / h + 1)).map (row n F G) := by
  have q := out_run (n := n) (F := F) hG hh (n / h + 1) 1000 0 (by omega) (by have := Nat.div_le_self n h; omega)
  unfold prods
  have e : ((gp G 0, (List.range 0).map (row n F G)) : List Int × List (List Int)) = ([1], []) := rfl
  rw [e] at q
  rw [q]
  rfl
/-- a family: its sums of two, the steps, the gap -/
structure Fm where
  nm : Str
  F : List Int
  G : List Int
  F' : List Int
  G' : List Int
  s : Nat
  c : Nat
  g : Nat
  pk : Int → Int → Int → Int → Int
abbrev Fm.h (f : Fm) : Nat := f.s * f.c
structure Fm.Ok (f : Fm) : Prop where
  F_len : f.F.length = f.s + 1
  G_len : f.G.length = f.h + 1
  s1 : 1 ≤ f.s ∧ f.s ≤ 48
  c1 : 1 ≤ f.c
  F1 : f.F = 1 :: f.F'
  G1 : f.G = List.replicate f.g 0 ++ 1 :: f.G'
  g1 : f.g ≤ f.h
  h48 : f.h ≤ 48
  lG : l1 f.G ≤ l1 f.F ^ f.c
  lF : 1 ≤ l1 f.F ∧ l1 f.F ^ (48 / f.s) ≤ 2 ^ 48
  i1 : ∀ S, opIx c_FIRST_SUMS (.d (.str f.nm)) S = some (tI f.F)
  i2 : ∀ S, opIx c_SECOND_SUMS (.d (.str f.nm)) S = some (tI f.G)
  i3 : ∀ S, opIx c_GAPS (.d (.str f.nm)) S = some (iI f.g)
  i4 : ∀ S, opIx c_STEPS (.d (.str f.nm)) S = some (iI f.s)
  i5 : ∀ S, opInK true 106 ks_106 (.d (.str f.nm)) c_STEPS S = some (.d (.bool false))
  i6 : ∀ S, opEqU (.d (.str f.nm)) (.d (.str "ring")) S = some (.d (.bool false))
  bF : ∀ y ∈ f.F, -(2 ^ 64) < y ∧ y < 2 ^ 64
  bG : ∀ y ∈ f.G, -(2 ^ 64) < y ∧ y < 2 ^ 64
  g0 : 1 ≤ f.g
  fx : ∀ S, f__law_facts [.d (.str f.nm)] S = .ok (tI [(f.s : Int), (f.h : Int), (f.g : Int)]) S
  du : ∀ (a b c d : Int) (S : Sto), opIx (.d (.dict [(.str "two", .int a), (.str "fourfold", .int b), (.str "three", .int c), (.str "four", .int d)])) (.d (.str f.nm)) S = some (iI (f.pk a b c d))
structure RowOk (f : Fm) (n b : Nat) (r : List Int) : Prop where
  len : r.length = n + 1
  vl : ∀ B, val B r = val B f.F ^ ((n - b * f.h) / f.s) * val B f.G ^ b
  bd : ∀ x ∈ r, x.natAbs ≤ 2 ^ 48
  ld : Ld (f.g * b) r
theorem row_ok {f : Fm} (o : f.Ok) {n m b : Nat} (hn : n = f.s * m) (h48 : n ≤ 48) (hb : b * f.h ≤ n) : RowOk f n b (row n f.F f.G b) := by
  have hs := o.s1
  have e1 : n - b * f.h = f.s * (m - b * f.c) := by
    rw [hn, Nat.mul_sub]
    show _ - b * (f.s * f.c) = _
    rw [← Nat.mul_assoc, Nat.mul_comm b f.s, Nat.mul_assoc]
  have e2 : (n - b * f.h) / f.s = m - b * f.c := by
    rw [e1]
    exact Nat.mul_div_cancel_left _ (by omega)
  have ht : m - b * f.c ≤ n := by
    rw [← e2]
    exact Nat.le_trans (Nat.div_le_self _ _) (Nat.sub_le _ _)
  obtain ⟨q, a, l, v, w, d⟩ := inn_run (n := n) o.F_len hs.1 o.F1 (m - b * f.c) 1000 (gp f.G b) (by rw [gp_len o.G_len, ← e1]; omega) (by rw [gp_len o.G_len]; omega) (by omega)
  have e3 : row n f.F f.G b = q := by
    unfold row innF
    rw [a]
    rfl
  rw [e3]
  refine ⟨l, fun B => ?_, fun x hx => ?_, d _ (gp_ld o.G_len o.G1 b)⟩
  · rw [v B, gp_val, e2, Int.mul_comm]
  · refine Nat.le_trans (l1_bd q x hx) (Nat.le_trans w ?_)
    have k1 : l1 (gp f.G b) ≤ l1 f.F ^ (b * f.c) := by
      refine Nat.le_trans (gp_l1 o.G_len b) ?_
      rw [Nat.mul_comm b, Nat.pow_mul]
      exact Nat.pow_le_pow_left o.lG b
    refine Nat.le_trans (Nat.mul_le_mul_right _ k1) ?_
    rw [← Nat.pow_add]
    refine Nat.le_trans (Nat.pow_le_pow_right o.lF.1 ?_) o.lF.2
    have hm : m ≤ 48 / f.s := by
      rw [Nat.le_div_iff_mul_le (by omega), Nat.mul_comm, ← hn]
      exact h48
    have hbc : b * f.c ≤ m := by
      have : f.s * (b * f.c) ≤ f.s * m := by
        rw [← hn, ← Nat.mul_assoc, Nat.mul_comm f.s b, Nat.mul_assoc]
        exact hb
      exact Nat.le_of_mul_le_mul_left this (by omega)
    omega
theorem row_mul {f : Fm} (o : f.Ok) {n k m m' b c : Nat} {x y z : List Int} (hn : n = f.s * m) (hk : k = f.s * m') (hb : b * f.h ≤ n) (hc : c * f.h ≤ k) (hx : RowOk f n b x) (hy : RowOk f k c y) (hz : RowOk f (n + k) (b + c) z) : mulF x y = z := by
  have hs := o.s1
  refine val_ext (by rw [mul_len, hx.len, hy.len, hz.len]; omega) fun B => ?_
  rw [val_mul, hx.vl, hy.vl, hz.vl]
  have e : ∀ n m b : Nat, n = f.s * m → (n - b * f.h) / f.s = m - b * f.c := fun n m b hn => by
    have e1 : n - b * f.h = f.s * (m - b * f.c) := by
      rw [hn, Nat.mul_sub]
      show _ - b * (f.s * f.c) = _
      rw [← Nat.mul_assoc, Nat.mul_comm b f.s, Nat.mul_assoc]
    rw [e1]
    exact Nat.mul_div_cancel_left _ (by omega)
  have le : ∀ n m b : Nat, n = f.s * m → b * f.h ≤ n → b * f.c ≤ m := fun n m b hn hb => by
    have : f.s * (b * f.c) ≤ f.s * m := by
      rw [← hn, ← Nat.mul_assoc, Nat.mul_comm f.s b, Nat.mul_assoc]
      exact hb
    exact Nat.le_of_mul_le_mul_left this (by omega)
  rw [e n m b hn, e k m' c hk, e (n + k) (m + m') (b + c) (by rw [hn, hk, Nat.mul_add])]
  have l1 := le n m b hn hb
  have l2 := le k m' c hk hc
  have e5 : m + m' - (b + c) * f.c = (m - b * f.c) + (m' - c * f.c) := by rw [Nat.add_mul]; omega
  rw [e5, Int.pow_add, Int.pow_add]
  simp only [Int.mul_assoc, Int.mul_left_comm]
end K59

end
section
set_option maxRecDepth 100000
set_option maxHeartbeats 1000000
namespace K59
open PySem PySem.Spec L2 Mr MrT
open PyProof.Rows hiding St
/-! ### sums of products, multiples -/
def dt (ms : List Int) (cs : List Int) : Int := (List.zipWith (fun a b => a * b) ms cs).sum
def cl (rs : List (List Int)) (j : Nat) : List Int := rs.map fun r => r.getD j 0
def smF (n1 : Nat) (rs : List (List Int)) (ms : List Int) : List Int := (List.range n1).map fun j => dt ms (cl rs j)
def muStep (g : Nat) (rs : List (List Int)) (fs : List Int) (ms : List Int) (b : Nat) : List Int := ms ++ [fs.getD b 0 - dt ms (cl rs (g * b))]
def muF (g : Nat) (rs : List (List Int)) (fs : List Int) : List Int := (List.range rs.length).foldl (muStep g rs fs) []
theorem dt_comb (f : Int) : ∀ (x y c : List Int), x.length = y.length → dt (comb f x y) c = f * dt x c + dt y c
  | [], [], _, _ => by simp [comb, dt]
  | [], _ :: _, _, h => by simp at h
  | _ :: _, [], _, h => by simp at h
  | a :: x, b :: y, [], _ => by simp [dt]
  | a :: x, b :: y, d :: c, h => by
    have ih := dt_comb f x y c (by simpa using h)
    unfold dt comb at ih ⊢
    simp only [List.zipWith_cons_cons, List.sum_cons, ih, Int.mul_add, Int.add_mul, Int.mul_assoc]
    omega
theorem comb_app (f : Int) : ∀ (x y : List Int) (a b : Int), x.length = y.length → comb f (x ++ [a]) (y ++ [b]) = comb f x y ++ [f * a + b]
  | [], [], a, b, _ => rfl
  | [], _ :: _, _, _, h => by simp at h
  | _ :: _, [], _, _, h => by simp at h
  | c :: x, d :: y, a, b, h => by
    have ih := comb_app f x y a b (by simpa using h)
    unfold comb at ih ⊢
    simp only [List.cons_append, List.zipWith_cons_cons, ih]
theorem mu_len_aux (g : Nat) (rs : List (List Int)) (fs : List Int) : ∀ (ks : List Nat) (s : List Int), (ks.foldl (muStep g rs fs) s).length = s.length + ks.length
  | [], s => rfl
  | k :: ks, s => by rw [List.foldl_cons, mu_len_aux g rs fs ks]; simp [muStep]; omega
theorem mu_len (g : Nat) (rs : List (List Int)) (fs : List Int) : (muF g rs fs).length = rs.length := by
  unfold muF
  rw [mu_len_aux]
  simp
theorem mu_comb_aux {g : Nat} {rs : List (List Int)} {f : Int} {x y : List Int} (hl : x.length = y.length) : ∀ (ks : List Nat) (s t : List Int), (∀ k ∈ ks, k < x.length) → s.length = t.length → ks.foldl (muStep g rs (comb f x y)) (comb f s t) = comb f (ks.foldl (muStep g rs x) s) (ks.foldl (muStep g rs y) t)
  | [], _, _, _, _ => rfl
  | k :: ks, s, t, hk, hs => by
    rw [List.foldl_cons, List.foldl_cons, List.foldl_cons]
    have e : muStep g rs (comb f x y) (comb f s t) k = comb f (muStep g rs x s k) (muStep g rs y t k) := by
      unfold muStep
      rw [comb_app f _ _ _ _ hs, dt_comb f s t _ hs, comb_at f x y k (hk k List.mem_cons_self) hl, Int.mul_sub]
      congr 2
      omega
    rw [e]
    exact mu_comb_aux hl ks _ _ (fun i hi => hk i (List.mem_cons_of_mem _ hi)) (by simp [muStep, hs])
theorem mu_comb {g : Nat} {rs : List (List Int)} {f : Int} {x y : List Int} (hx : x.length = rs.length) (hy : y.length = rs.length) : muF g rs (comb f x y) = comb f (muF g rs x) (muF g rs y) :=
  mu_comb_aux (by omega) (List.range rs.length) [] [] (fun k hk => by have := List.mem_range.mp hk; omega) rfl
theorem sm_comb {n1 : Nat} {rs : List (List Int)} {f : Int} {x y : List Int} (h : x.length = y.length) : smF n1 rs (comb f x y) = comb f (smF n1 rs x) (smF n1 rs y) := by
  unfold smF
  unfold comb
  rw [List.zipWith_map, List.zipWith_self]
  refine List.map_congr_left fun j _ => ?_
  exact dt_comb f x y _ h
theorem dt_take (ms : List Int) : ∀ (c : List Int), dt ms c = dt ms (c.take ms.length) := by
  induction ms with
  | nil => intro c; simp [dt]
  | cons a ms ih =>
    intro c
    cases c with
    | nil => simp [dt]
    | cons b c =>
      have := ih c
      unfold dt at this ⊢
      simp only [List.length_cons, List.take_succ_cons, List.zipWith_cons_cons, List.sum_cons, this]
theorem dt_app : ∀ (x y c d : List Int), x.length = c.length → dt (x ++ y) (c ++ d) = dt x c + dt y d
  | [], y, [], d, _ => by simp [dt]
  | [], _, _ :: _, _, h => by simp at h
  | _ :: _, _, [], _, h => by simp at h
  | a :: x, y, b :: c, d, h => by
    have ih := dt_app x y c d (by simpa using h)
    unfold dt at ih ⊢
    simp only [List.cons_append, List.zipWith_cons_cons, List.sum_cons, ih]
    omega
theorem dt_zero : ∀ (x c : List Int), (∀ b ∈ c, b = 0) → dt x c = 0
  | [], _, _ => by simp [dt]
  | _ :: _, [], _ => by simp [dt]
  | a :: x, b :: c, h => by
    have ih := dt_zero x c fun z hz => h z (List.mem_cons_of_mem _ hz)
    have e := h b List.mem_cons_self
    unfold dt at ih ⊢
    simp [ih, e]
/-- the multiples so far -/
def muN (g : Nat) (rs : List (List Int)) (fs : List Int) (m : Nat) : List Int := (List.range m).foldl (muStep g rs fs) []
theorem muN_len (g : Nat) (rs : List (List Int)) (fs : List Int) (m : Nat) : (muN g rs fs m).length = m := by
  unfold muN
  rw [mu_len_aux]
  simp
theorem muN_succ (g : Nat) (rs : List (List Int)) (fs : List Int) (m : Nat) : muN g rs fs (m + 1) = muN g rs fs m ++ [fs.getD m 0 - dt (muN g rs fs m) (cl rs (g * m))] := by
  unfold muN
  rw [List.range_succ, List.foldl_append]
  rfl
theorem muN_pre (g : Nat) (rs : List (List Int)) (fs : List Int) (m : Nat) : ∀ k, ∃ t, muN g rs fs (m + k) = muN g rs fs m ++ t
  | 0 => ⟨[], by simp⟩
  | k + 1 => by
    obtain ⟨t, h⟩ := muN_pre g rs fs m k
    refine ⟨t ++ [fs.getD (m + k) 0 - dt (muN g rs fs (m + k)) (cl rs (g * (m + k)))], ?_⟩
    rw [← Nat.add_assoc, muN_succ, h, List.append_assoc]
/-- the number at each gap is the first asked for -/
theorem mu_at {g : Nat} (hg : 1 ≤ g) {rs : List (List Int)} {fs : List Int} (hr : ∀ i r, rs[i]? = some r → Ld (g * i) r) {b : Nat} (hb : b < rs.length) : dt (muF g rs fs) (cl rs (g * b)) = fs.getD b 0 := by
  obtain ⟨t, e⟩ := muN_pre g rs fs (b + 1) (rs.length - (b + 1))
  have e1 : muF g rs fs = muN g rs fs (b + 1) ++ t := by
    rw [← e]
    show muN g rs fs rs.length = _
    congr 1
    omega
  have e2 : cl rs (g * b) = (cl rs (g * b)).take (b + 1) ++ (cl rs (g * b)).drop (b + 1) := (List.take_append_drop _ _).symm
  have hl : (cl rs (g * b)).length = rs.length := by simp [cl]
  have e3 : (cl rs (g * b)).take (b + 1) = (cl rs (g * b)).take b ++ [1] := by
    rw [List.take_add_one]
    have q : (cl rs (g * b))[b]? = some 1 := by
      unfold cl
      rw [List.getElem?_map, List.getElem?_eq_getElem hb]
      show some (rs[b].getD (g * b) 0) = _
      rw [(hr b _ (List.getElem?_eq_getElem hb)).2]
    rw [q]
    rfl
  have e4 : ∀ z ∈ (cl rs (g * b)).drop (b + 1), z = 0 := fun z hz => by
    obtain ⟨i, hi, q⟩ := List.mem_iff_getElem.mp hz
    rw [List.getElem_drop] at q
    have hi2 : b + 1 + i < rs.length := by
      rw [List.length_drop, hl] at hi
      omega
    have q2 : z = rs[b + 1 + i].getD (g * b) 0 := by
      rw [← q]
      simp [cl]
    rw [q2]
    refine (hr (b + 1 + i) _ (List.getElem?_eq_getElem hi2)).1 _ ?_
    have : g * b + g ≤ g * (b + 1 + i) := by
      rw [← Nat.mul_succ]
      exact Nat.mul_le_mul_left _ (by omega)
    omega
  rw [e1, e2, dt_app _ _ _ _ (by rw [muN_len, List.length_take, hl]; omega), dt_zero t _ e4, e3, muN_succ, dt_app _ _ _ _ (by rw [muN_len, List.length_take, hl]; omega)]
  have e5 : dt (muN g rs fs b) ((cl rs (g * b)).take b) = dt (muN g rs fs b) (cl rs (g * b)) := by
    rw [dt_take _ (cl rs (g * b)), muN_len]
  rw [e5]
  simp [dt]
  omega
end K59

end
section
set_option maxRecDepth 100000
set_option maxHeartbeats 1000000
namespace K59
open PySem PySem.Spec L2 Mr MrT
open PyProof.Rows hiding St
theorem getD_bd {x : List Int} {X : Nat} (hx : ∀ a ∈ x, a.natAbs ≤ X) (i : Nat) : (x.getD i 0).natAbs ≤ X := by
  rw [List.getD_eq_getElem?_getD]
  cases q : x[i]? with
  | none => simp
  | some a => exact hx a (List.mem_of_getElem? q)
theorem b64 {x : Int} (h : x.natAbs ≤ 2 ^ 48) : -(2 ^ 64) < x ∧ x < 2 ^ 64 := by omega
theorem cl_bd {rs : List (List Int)} (hb : ∀ r ∈ rs, ∀ x ∈ r, x.natAbs ≤ 2 ^ 48) (j : Nat) : ∀ x ∈ cl rs j, -(2 ^ 64) < x ∧ x < 2 ^ 64 := fun x hx => by
  obtain ⟨r, hr, rfl⟩ := List.mem_map.mp hx
  exact b64 (getD_bd (hb r hr) j)
theorem cols_eq {rs : List (List Int)} {n1 : Nat} (h0 : rs ≠ []) (hr : ∀ r ∈ rs, r.length = n1) : colsM (rs.map fun r => r.map PyData.int) = (List.range n1).map fun j => tI (cl rs j) := by
  have hm : minL (rs.map fun r => r.map PyData.int) = n1 := by
    obtain ⟨r, h1, h2⟩ := minL_eq (rows := rs.map fun r => r.map PyData.int) (by simpa using h0)
    obtain ⟨r0, h3, rfl⟩ := List.mem_map.mp h1
    rw [← h2, List.length_map]
    exact hr r0 h3
  unfold colsM
  rw [hm]
  refine List.map_congr_left fun j hj => ?_
  have hj := List.mem_range.mp hj
  rw [List.map_map]
  show M.d (PyData.tuple _) = M.d (PyData.tuple ((rs.map fun r => r.getD j 0).map PyData.int))
  rw [List.map_map]
  congr 2
  refine List.map_congr_left fun r h => ?_
  have hl := hr r h
  show (r.map PyData.int).getD j .none = PyData.int (r.getD j 0)
  rw [List.getD_eq_getElem?_getD, List.getD_eq_getElem?_getD, List.getElem?_map, List.getElem?_eq_getElem (by omega)]
  rfl
theorem summed_ok {n1 : Nat} {rs : List (List Int)} {ms : List Int} (h0 : rs ≠ []) (hr : ∀ r ∈ rs, r.length = n1) (hl : rs.length ≤ 1000) (hn : n1 ≤ 1000) (hm : ms.length ≤ 1000) (hb : ∀ r ∈ rs, ∀ x ∈ r, x.natAbs ≤ 2 ^ 48) (S : Sto) : f_summed [.d (tT rs), tI ms] S = .ok (tI (smF n1 rs ms)) S := by
  unfold f_summed fnM
  show ansOf (m_summed [some (.d (tT rs)), some (tI ms), none, none, none] S) = _
  have q := lc_map (vs := [2]) (fi := iZipS (eV 0)) (ft := tgN 2) (fe := el_summed_2) (e := [some (.d (tT rs)), some (tI ms), none, none, none]) (S := S) (items := List.range n1) (fun j => tI (cl rs j)) (fun j => .int (dt ms (cl rs j)))
    ((zipS_v (v_at rfl) (rowsD_t rs) (by simpa using h0) (by simpa using hl)).trans (by rw [cols_eq h0 hr])) (fun j _ => by
      refine ⟨_, rfl, p_call (a_cons (lc_zip (fun a b => a * b) (zip_v (a_cons (v_at rfl) (a_cons (v_at rfl) a_nil)) rfl rfl) (fun p hp => ?_) (by omega)) a_nil) (sum_l _ _)⟩
      exact v_op (v_at rfl) (v_at rfl) (mulWK _ _ (.inr (cl_bd hb j _ (List.of_mem_zip hp).2)) _)) (by simp; omega)
  refine ans_rt (ret_v (p_call (a_cons q a_nil) ((tup_l _ _).trans ?_)))
  show _ = some (M.d (PyData.tuple (((List.range n1).map fun j => dt ms (cl rs j)).map PyData.int)))
  rw [List.map_map]
  rfl
theorem zip_tup (ms : List Int) (rs : List (List Int)) : ms.zip (rs.map fun r => PyData.tuple (r.map .int)) = (ms.zip rs).map fun p => (p.1, PyData.tuple (p.2.map .int)) := by
  rw [List.zip_map_right]
  rfl
theorem res_eq (j : Nat) : ∀ (ms : List Int) (rs : List (List Int)), (ms.zip rs).map (fun p => PyData.int (p.1 * p.2.getD j 0)) = (List.zipWith (fun a b => a * b) ms (cl rs j)).map .int
  | [], _ => by simp
  | _ :: _, [] => by simp [cl]
  | m :: ms, r :: rs => by
    have ih := res_eq j ms rs
    unfold cl at ih ⊢
    simp only [List.zip_cons_cons, List.map_cons, List.zipWith_cons_cons, ih]
theorem mu_body {fam : Str} {g n1 b : Nat} {rs : List (List Int)} {fs ms : List Int} {z5 z6 z7 z8 : Option M} {S : Sto} (q3 : ∀ S, opIx c_GAPS (.d (.str fam)) S = some (iI g)) (hg : g < 100) (hb : b < fs.length) (hm : ms.length = b) (hbl : b ≤ rs.length) (hl : rs.length ≤ 1000) (hr : ∀ r ∈ rs, r.length = n1) (hj : g * b < n1) (hbd : ∀ r ∈ rs, ∀ x ∈ r, x.natAbs ≤ 2 ^ 48) :
    b_multiples_for_2 [some (.d (.str fam)), some (.d (tT rs)), some (tI fs), some (.loc S.length), some (iI b), z5, z6, z7, z8] (S ++ O.lst (ms.map iI) :: []) = .nx [some (.d (.str fam)), some (.d (tT rs)), some (tI fs), some (.loc S.length), some (iI b), some (iI ((g * b : Nat) : Int)), some (iI (dt ms (cl rs (g * b)))), z7, z8] (S ++ O.lst ((muStep g rs fs ms b).map iI) :: []) := by
  unfold b_multiples_for_2
  have e1 : sSet 5 (Mr.e2 opMulW (Mr.e2 opIx (eC c_GAPS) (eV 0)) (eV 4)) [some (.d (.str fam)), some (.d (tT rs)), some (tI fs), some (.loc S.length), some (iI b), z5, z6, z7, z8] (S ++ O.lst (ms.map iI) :: []) = .nx [some (.d (.str fam)), some (.d (tT rs)), some (tI fs), some (.loc S.length), some (iI b), some (iI ((g * b : Nat) : Int)), z6, z7, z8] (S ++ O.lst (ms.map iI) :: []) :=
    (set_v (v_op (v_op c_v (v_at rfl) (q3 _)) (v_at rfl) (mulWK _ _ (.inl (by omega)) _))).trans (by rw [Int.natCast_mul]; rfl)
  have at_S : (S ++ O.lst (ms.map iI) :: [])[S.length]? = some (O.lst (ms.map iI)) := at_end _ _ _
  have q := lcR_v (vs := [7, 8]) (fi := iZipR2 (aC (eV 3) (aC (eV 1) aN))) (ft := tgTup [tgN 7, tgN 8]) (fe := el_multiples_for_1) (e := [some (.d (.str fam)), some (.d (tT rs)), some (tI fs), some (.loc S.length), some (iI b), some (iI ((g * b : Nat) : Int)), z6, z7, z8]) (S := S ++ O.lst (ms.map iI) :: []) (items := ms.zip rs) (fun p => .pr [.int p.1, .tuple (p.2.map .int)]) (fun p => .int (p.1 * p.2.getD (g * b) 0))
    (zipR_v (n := S.length) (xs := ms) (a_cons (v_at rfl) (a_cons (v_at rfl) a_nil)) at_S rfl) (fun i hi => by
      have w := rdZ_at (ys := rs.map fun r => PyData.tuple (r.map .int)) at_S (by rw [List.length_map]; omega) i (by rw [zip_tup, List.length_map]; exact hi)
      rw [w, zip_tup, List.getElem?_map, Option.map_map]
      rfl) (fun p hp => by
      have h2 := (List.of_mem_zip hp).2
      exact ⟨_, rfl, v_op (v_at rfl) (v_op (v_at rfl) (v_at rfl) (ixI _ rfl (get_at (by rw [hr _ h2]; exact hj)))) (mulWK _ _ (.inr (b64 (getD_bd (hbd _ h2) _))) _)⟩) (by rw [List.length_zip]; omega)
  rw [res_eq] at q
  have e2 : sSet 6 (ePrim pSum (aC (eLcR [7, 8] (iZipR2 (aC (eV 3) (aC (eV 1) aN))) (tgTup [tgN 7, tgN 8]) tYesM el_multiples_for_1) aN)) [some (.d (.str fam)), some (.d (tT rs)), some (tI fs), some (.loc S.length), some (iI b), some (iI ((g * b : Nat) : Int)), z6, z7, z8] (S ++ O.lst (ms.map iI) :: []) = .nx [some (.d (.str fam)), some (.d (tT rs)), some (tI fs), some (.loc S.length), some (iI b), some (iI ((g * b : Nat) : Int)), some (iI (dt ms (cl rs (g * b)))), z7, z8] (S ++ O.lst (ms.map iI) :: []) :=
    set_v (p_call (a_cons q a_nil) (sum_l _ _))
  refine (seq_nx e1).trans ((seq_nx e2).trans (expr_v (m := .d .none) ((app_own (S := S) (T := []) (v_at rfl) (v_op (v_op (v_at rfl) (v_at rfl) (ixI _ rfl (get_at hb))) (v_at rfl) (subI _ _ _)) rfl (by simp; omega)).trans ?_)))
  unfold muStep
  rw [List.map_append]
  rfl
theorem mu_ok {fam : Str} {g n1 : Nat} {rs : List (List Int)} {fs : List Int} (q3 : ∀ S, opIx c_GAPS (.d (.str fam)) S = some (iI g)) (hg : g < 100) (hf : fs.length = rs.length) (hl : rs.length ≤ 1000) (hr : ∀ r ∈ rs, r.length = n1) (hj : ∀ b, b < rs.length → g * b < n1) (hbd : ∀ r ∈ rs, ∀ x ∈ r, x.natAbs ≤ 2 ^ 48) (S : Sto) : f_multiples_for [.d (.str fam), .d (tT rs), tI fs] S = .ok (tI (muF g rs fs)) S := by
  show cutR S (ansOf (m_multiples_for [some (.d (.str fam)), some (.d (tT rs)), some (tI fs), none, none, none, none, none, none] S)) = _
  have e1 : sSet 3 (eLstO aN) [some (.d (.str fam)), some (.d (tT rs)), some (tI fs), none, none, none, none, none, none] S = .nx [some (.d (.str fam)), some (.d (tT rs)), some (tI fs), some (.loc S.length), none, none, none, none, none] (S ++ O.lst (([] : List Int).map iI) :: []) := rfl
  obtain ⟨en, S2, hw, hI⟩ := for_foldR (ft := tgN 4) (fb := b_multiples_for_2) (fun k : Nat => iI k) (muStep g rs fs) (fun rest s e S2 => ∃ z4 z5 z6 z7 z8, e = [some (.d (.str fam)), some (.d (tT rs)), some (tI fs), some (.loc S.length), z4, z5, z6, z7, z8] ∧ S2 = S ++ O.lst (s.map iI) :: [] ∧ rest = List.range' s.length rest.length ∧ s.length + rest.length = rs.length) (fun k rest s e S2 ⟨z4, z5, z6, z7, z8, he, hS, h1, h2⟩ => by
    subst he hS
    rw [List.length_cons, List.range'_succ] at h1
    rw [List.length_cons] at h2
    obtain ⟨rfl, h3⟩ := List.cons.inj h1
    refine ⟨_, _, _, rfl, mu_body q3 hg (by omega) rfl (by omega) hl hr (hj _ (by omega)) hbd, _, _, _, _, _, rfl, rfl, ?_, ?_⟩
    · rw [show (muStep g rs fs s s.length).length = s.length + 1 by simp [muStep]]
      exact h3
    · simp [muStep]
      omega) (List.range rs.length) [] [some (.d (.str fam)), some (.d (tT rs)), some (tI fs), some (.loc S.length), none, none, none, none, none] (S ++ O.lst (([] : List Int).map iI) :: []) ⟨_, _, _, _, _, rfl, rfl, by rw [List.length_range]; exact List.range_eq_range', by simp⟩
  obtain ⟨z4, z5, z6, z7, z8, rfl, rfl, _⟩ := hI
  have it : iRng (aC (ePrim pLen (aC (eV 1) aN)) aN) [some (.d (.str fam)), some (.d (tT rs)), some (tI fs), some (.loc S.length), none, none, none, none, none] (S ++ O.lst (([] : List Int).map iI) :: []) = .ok ((List.range rs.length).map fun k : Nat => iI k) (S ++ O.lst (([] : List Int).map iI) :: []) := rng_n (a_cons (p_call (a_cons (v_at rfl) a_nil) ((len_t _ _).trans (by rw [List.length_map]))) a_nil) (by omega)
  have e3 : sRet (ePrim pTuple (aC (eV 3) aN)) [some (.d (.str fam)), some (.d (tT rs)), some (tI fs), some (.loc S.length), z4, z5, z6, z7, z8] (S ++ O.lst ((muF g rs fs).map iI) :: []) = .rt (tI (muF g rs fs)) (S ++ O.lst ((muF g rs fs).map iI) :: []) := ret_v (p_call (a_cons (v_at rfl) a_nil) (by
    have := tup_own (S := S) (T := []) (xs := (muF g rs fs).map .int)
    rw [List.map_map] at this
    exact this))
  have e4 := (seq_nx (b := sSeq (sFor (iRng (aC (ePrim pLen (aC (eV 1) aN)) aN)) (tgN 4) b_multiples_for_2) (sRet (ePrim pTuple (aC (eV 3) aN)))) e1).trans ((seq_nx ((for_v it).trans hw)).trans e3)
  exact (congrArg (fun o => cutR S (ansOf o)) e4).trans (cut_data S _ _)
end K59

end
section
set_option maxRecDepth 100000
set_option maxHeartbeats 1000000
namespace K59
open PySem PySem.Spec L2 Mr MrT
open PyProof.Rows hiding St
/-! ### the families -/
def fTwo : Fm := ⟨"two", [1, 0, 1], [0, 0, 1, 0, -2, 0, 1, 0, 0], [0, 1], [0, -2, 0, 1, 0, 0], 2, 4, 2, fun a _ _ _ => a⟩
def fFold : Fm := ⟨"fourfold", [1, 0, 0, 0, 14, 0, 0, 0, 1], [0, 0, 0, 0, 1, 0, 0, 0, -4, 0, 0, 0, 6, 0, 0, 0, -4, 0, 0, 0, 1, 0, 0, 0, 0], [0, 0, 0, 14, 0, 0, 0, 1], [0, 0, 0, -4, 0, 0, 0, 6, 0, 0, 0, -4, 0, 0, 0, 1, 0, 0, 0, 0], 8, 3, 4, fun _ b _ _ => b⟩
def fThree : Fm := ⟨"three", [1, 0, 0, 8, 0], [0, 0, 0, 1, 0, 0, -3, 0, 0, 3, 0, 0, -1], [0, 0, 8, 0], [0, 0, -3, 0, 0, 3, 0, 0, -1], 4, 3, 3, fun _ _ c _ => c⟩
def fFour : Fm := ⟨"four", [1, 0, 3], [0, 0, 1, 0, -2, 0, 1], [0, 3], [0, -2, 0, 1], 2, 3, 2, fun _ _ _ d => d⟩
theorem two_ok : fTwo.Ok := ⟨rfl, rfl, by decide, by decide, rfl, rfl, by decide, by decide, by decide, by decide +kernel, fun S => by kernel_rfl, fun S => by kernel_rfl, fun S => by kernel_rfl, fun S => by kernel_rfl, fun S => by kernel_rfl, fun S => by kernel_rfl, by decide, by decide, by decide, fun S => by kernel_rfl, fun a b c d S => by kernel_rfl⟩
theorem fold_ok : fFold.Ok := ⟨rfl, rfl, by decide, by decide, rfl, rfl, by decide, by decide, by decide, by decide +kernel, fun S => by kernel_rfl, fun S => by kernel_rfl, fun S => by kernel_rfl, fun S => by kernel_rfl, fun S => by kernel_rfl, fun S => by kernel_rfl, by decide, by decide, by decide, fun S => by kernel_rfl, fun a b c d S => by kernel_rfl⟩
theorem three_ok : fThree.Ok := ⟨rfl, rfl, by decide, by decide, rfl, rfl, by decide, by decide, by decide, by decide +kernel, fun S => by kernel_rfl, fun S => by kernel_rfl, fun S => by kernel_rfl, fun S => by kernel_rfl, fun S => by kernel_rfl, fun S => by kernel_rfl, by decide, by decide, by decide, fun S => by kernel_rfl, fun a b c d S => by kernel_rfl⟩
theorem four_ok : fFour.Ok := ⟨rfl, rfl, by decide, by decide, rfl, rfl, by decide, by decide, by decide, by decide +kernel, fun S => by kernel_rfl, fun S => by kernel_rfl, fun S => by kernel_rfl, fun S => by kernel_rfl, fun S => by kernel_rfl, fun S => by kernel_rfl, by decide, by decide, by decide, fun S => by kernel_rfl, fun a b c d S => by kernel_rfl⟩
/-! ### the functions -/
section
variable {f : Fm}
abbrev rws (f : Fm) (n : Nat) : List (List Int) := (List.range (n / f.h + 1)).map (row n f.F f.G)
theorem h_pos (o : f.Ok) : 1 ≤ f.h := Nat.mul_pos o.s1.1 o.c1
theorem rws_len (n : Nat) : (rws f n).length = n / f.h + 1 := by simp
theorem rws_at (o : f.Ok) {n m : Nat} (hn : n = f.s * m) (h48 : n ≤ 48) {b : Nat} (hb : b ≤ n / f.h) : (rws f n)[b]? = some (row n f.F f.G b) ∧ RowOk f n b (row n f.F f.G b) := by
  refine ⟨by simp [List.getElem?_map, List.getElem?_range (by omega : b < n / f.h + 1)], row_ok o hn h48 ?_⟩
  exact Nat.le_trans (Nat.mul_le_mul_right _ hb) (Nat.div_mul_le_self n f.h)
theorem rws_mem (o : f.Ok) {n m : Nat} (hn : n = f.s * m) (h48 : n ≤ 48) : ∀ r ∈ rws f n, ∃ b, b ≤ n / f.h ∧ RowOk f n b r := fun r hr => by
  obtain ⟨b, hb, rfl⟩ := List.mem_map.mp hr
  have := List.mem_range.mp hb
  exact ⟨b, by omega, (rws_at o hn h48 (by omega)).2⟩
theorem rws_ne (n : Nat) : rws f n ≠ [] := fun h => by
  have := rws_len (f := f) n
  rw [h] at this
  simp at this
theorem prods_ok (o : f.Ok) {n : Nat} (h48 : n ≤ 48) (S : Sto) : f_products_of [.d (.str f.nm), iI n] S = .ok (.d (tT (rws f n))) S := by
  have h1 := h_pos o
  have h2 := o.h48
  have hs := o.s1
  have q := products_ok (fam := f.nm) h48 (F := f.F) (G := f.G) (by rw [o.F_len]; omega) (by rw [o.G_len]; omega) o.bF o.bG o.i1 o.i2 S
  rwa [prods_rows (by omega) o.G_len h1] at q
theorem fam_len (o : f.Ok) {n m : Nat} (hn : n = f.s * m) (n1 : 1 ≤ n) (h48 : n ≤ 48) (S : Sto) : f_check_family_length [.d (.str f.nm), iI n] S = .ok (.d .none) S := by
  have k1 : f_check_family [.d (.str f.nm)] S = .ok (.d .none) S := by
    unfold f_check_family fnM
    show ansOf (m_check_family [some (.d (.str f.nm))] S) = _
    unfold m_check_family
    rw [if_fn (or_ff (not_t (c := true) (tB_v (p_call (a_cons (v_at rfl) (a_cons rfl a_nil)) rfl))) (tB_v (v_op (v_at rfl) c_v (o.i5 S))))]
    rfl
  have k2 : f_check_counted_family [.d (.str f.nm)] S = .ok (.d .none) S := by
    unfold f_check_counted_family fnM
    show ansOf (m_check_counted_family [some (.d (.str f.nm))] S) = _
    unfold m_check_counted_family
    rw [seq_nx (expr_v (call_v (a_cons (v_at rfl) a_nil) k1)), if_fn (tB_v (v_op (v_at rfl) c_v (o.i6 S)))]
    rfl
  have hs := o.s1
  have q5 : ((n : Nat) : Int).fmod (f.s : Int) = 0 := by
    rw [Int.fmod_eq_emod_of_nonneg _ (by omega), hn, Int.natCast_mul]
    exact Int.mul_emod_right _ _
  have k3 : f_are_there [.d (.str f.nm), iI n] S = .ok tr S := by
    unfold f_are_there fnM
    show ansOf (m_are_there [some (.d (.str f.nm)), some (iI n)] S) = _
    exact ans_rt (ret_v (v_op (v_op (v_at rfl) (v_op c_v (v_at rfl) (o.i4 S)) (modI _ _ (by omega) _)) eI ((eqI _ _ _).trans (by rw [q5]; rfl))))
  have g1 : (decide ((1 : Int) ≤ (n : Nat))) = true := decide_eq_true (by omega)
  have g2 : (decide (((n : Nat) : Int) ≤ 48)) = true := decide_eq_true (by omega)
  unfold f_check_family_length fnM
  show ansOf (m_check_family_length [some (.d (.str f.nm)), some (iI n)] S) = _
  unfold m_check_family_length
  have c1 : tOrM (tNotM (Mr.tB (eCall f_is_integer (aC (eV 1) aN)))) (tOrM (tNotM (Mr.tB (eChain opLe opLe (eC (.d (.int 1))) (eV 1) (eC c_MOST_DEGREE)))) (tNotM (Mr.tB (eCall f_are_there (aC (eV 0) (aC (eV 1) aN)))))) [some (.d (.str f.nm)), some (iI n)] S = .ok false S :=
    or_ff (not_t (c := true) (tB_v (call_v (a_cons (v_at rfl) a_nil) (isint_ok _ S)))) (or_ff (not_t (c := true) (tB_v (chain_v eI (v_at rfl) ((leI _ _ _).trans (by rw [g1])) eI ((leI _ _ _).trans (by rw [g2]))))) (not_t (c := true) (tB_v (call_v (a_cons (v_at rfl) (a_cons (v_at rfl) a_nil)) k3))))
  rw [seq_nx (expr_v (call_v (a_cons (v_at rfl) a_nil) k2)), if_fn c1]
  rfl
theorem told_ok (o : f.Ok) {n m : Nat} (hn : n = f.s * m) (n1 : 1 ≤ n) (h48 : n ≤ 48) (S : Sto) : f_told_products [.d (.str f.nm), iI n] S = .ok (.d (tT (rws f n))) S := by
  unfold f_told_products fnM
  show ansOf (m_told_products [some (.d (.str f.nm)), some (iI n)] S) = _
  unfold m_told_products
  rw [seq_nx (expr_v (call_v (a_cons (v_at rfl) (a_cons (v_at rfl) a_nil)) (fam_len o hn n1 h48 S)))]
  exact ans_rt (ret_v (call_v (a_cons (v_at rfl) (a_cons (v_at rfl) a_nil)) (prods_ok o h48 S)))
/-- the numbers -/
def nums (f : Fm) (n : Nat) (fs : List Int) : List Int := smF (n + 1) (rws f n) (muF f.g (rws f n) fs)
theorem nums_ok (o : f.Ok) {n m : Nat} (hn : n = f.s * m) (h48 : n ≤ 48) {fs : List Int} (hf : fs.length = n / f.h + 1) (S : Sto) : f_numbers_from [.d (.str f.nm), iI n, tI fs] S = .ok (tI (nums f n fs)) S := by
  have hr : ∀ r ∈ rws f n, r.length = n + 1 := fun r h => by
    obtain ⟨b, _, k⟩ := rws_mem o hn h48 r h
    exact k.len
  have hb : ∀ r ∈ rws f n, ∀ x ∈ r, x.natAbs ≤ 2 ^ 48 := fun r h => by
    obtain ⟨b, _, k⟩ := rws_mem o hn h48 r h
    exact k.bd
  have hl : n / f.h ≤ 48 := Nat.le_trans (Nat.div_le_self _ _) h48
  have hg := o.g1
  have h4 := o.h48
  have hj : ∀ b, b < (rws f n).length → f.g * b < n + 1 := fun b hb => by
    rw [rws_len] at hb
    have a1 : f.g * b ≤ f.h * b := Nat.mul_le_mul_right _ hg
    have a2 : f.h * b ≤ f.h * (n / f.h) := Nat.mul_le_mul_left _ (by omega)
    have a3 := Nat.mul_div_le n f.h
    omega
  unfold f_numbers_from fnM
  show ansOf (m_numbers_from [some (.d (.str f.nm)), some (iI n), some (tI fs), none] S) = _
  unfold m_numbers_from
  rw [seq_nx (set_v (call_v (a_cons (v_at rfl) (a_cons (v_at rfl) a_nil)) (prods_ok o h48 S)))]
  exact ans_rt (ret_v (call_v (a_cons (v_at rfl) (a_cons (call_v (a_cons (v_at rfl) (a_cons (v_at rfl) (a_cons (v_at rfl) a_nil))) (mu_ok o.i3 (by omega) (by rw [rws_len]; exact hf) (by rw [rws_len]; omega) hr hj hb S)) a_nil)) (summed_ok (rws_ne n) hr (by rw [rws_len]; omega) (by omega) (by rw [mu_len, rws_len]; omega) hb S)))
theorem num_ok (o : f.Ok) (n : Nat) (S : Sto) : f_products_number [.d (.str f.nm), iI n] S = .ok (iI ((n / f.h + 1 : Nat) : Int)) S := by
  have h1 := h_pos o
  have h4 := o.h48
  unfold f_products_number fnM
  show ansOf (m_products_number [some (.d (.str f.nm)), some (iI n)] S) = _
  have w : Mr.e2 opSub (ePrim pLen (aC (Mr.e2 opIx (eC c_SECOND_SUMS) (eV 0)) aN)) (eC (.d (.int 1))) [some (.d (.str f.nm)), some (iI n)] S = .ok (iI f.h) S := (v_op (p_call (a_cons (v_op c_v (v_at rfl) (o.i2 S)) a_nil) (len_t _ _)) eI (subI _ _ _)).trans (by
    rw [List.length_map, o.G_len]
    congr 3
    omega)
  refine ans_rt (ret_v (v_op (v_op (v_at rfl) w (divN (by omega) (by omega) _)) eI ((addI _ _ _).trans ?_)))
  congr 3
theorem counts_ok (o : f.Ok) {n m : Nat} (hn : n = f.s * m) (n1 : 1 ≤ n) (h48 : n ≤ 48) {fs : List Int} (hf : fs.length = n / f.h + 1) (S : Sto) : f_counts_from [.d (.str f.nm), iI n, tI fs] S = .ok (tI (nums f n fs)) S := by
  unfold f_counts_from fnM
  show ansOf (m_counts_from [some (.d (.str f.nm)), some (iI n), some (tI fs)] S) = _
  unfold m_counts_from
  rw [seq_nx (expr_v (call_v (a_cons (v_at rfl) (a_cons (v_at rfl) a_nil)) (fam_len o hn n1 h48 S)))]
  rw [seq_nx (expr_v (call_v (a_cons (call_v (a_cons (v_at rfl) (a_cons (v_at rfl) a_nil)) (num_ok o n S)) (a_cons (v_at rfl) a_nil)) (checks_ok (by rw [hf]) S)))]
  exact ans_rt (ret_v (call_v (a_cons (v_at rfl) (a_cons (v_at rfl) (a_cons (v_at rfl) a_nil))) (nums_ok o hn h48 hf S)))
theorem least_ok (o : f.Ok) {n m : Nat} (hn : n = f.s * m) (n1 : 1 ≤ n) (h48 : n ≤ 48) (S : Sto) : f_least_bound [.d (.str f.nm), iI n] S = .ok (iI ((f.g * (n / f.h + 1) : Nat) : Int)) S := by
  have hg := o.g1
  have h4 := o.h48
  unfold f_least_bound fnM
  show ansOf (m_least_bound [some (.d (.str f.nm)), some (iI n)] S) = _
  unfold m_least_bound
  rw [seq_nx (expr_v (call_v (a_cons (v_at rfl) (a_cons (v_at rfl) a_nil)) (fam_len o hn n1 h48 S)))]
  exact ans_rt (ret_v (v_op (v_op c_v (v_at rfl) (o.i3 _)) (call_v (a_cons (v_at rfl) (a_cons (v_at rfl) a_nil)) (num_ok o n S)) ((mulWK _ _ (.inl (by omega)) _).trans (by rw [Int.natCast_mul]))))
abbrev ext (f : Fm) (n : Nat) : List Int := [1] ++ List.replicate (n / f.h) 0
theorem ext_len (n : Nat) : (ext f n).length = n / f.h + 1 := by simp
theorem extreme_ok (o : f.Ok) {n m : Nat} (hn : n = f.s * m) (n1 : 1 ≤ n) (h48 : n ≤ 48) (S : Sto) : f_extreme_counts [.d (.str f.nm), iI n] S = .ok (tI (nums f n (ext f n))) S := by
  have hl : n / f.h ≤ 48 := Nat.le_trans (Nat.div_le_self _ _) h48
  unfold f_extreme_counts fnM
  show ansOf (m_extreme_counts [some (.d (.str f.nm)), some (iI n)] S) = _
  unfold m_extreme_counts
  rw [seq_nx (expr_v (call_v (a_cons (v_at rfl) (a_cons (v_at rfl) a_nil)) (fam_len o hn n1 h48 S)))]
  exact ans_rt (ret_v (call_v (a_cons (v_at rfl) (a_cons (v_at rfl) (a_cons (v_op (tup1 eI) (v_op (tup1 eI) (v_op (call_v (a_cons (v_at rfl) (a_cons (v_at rfl) a_nil)) (num_ok o n S)) eI (subI _ _ _)) (repT 0 (n := n / f.h) _ (by omega) (by omega))) (addT _ _ _ (by simp; omega))) a_nil))) (nums_ok o hn h48 (ext_len n) S)))
end
end K59

end
section
set_option maxRecDepth 100000
set_option maxHeartbeats 1000000
namespace K59
open PySem PySem.Spec L2 Mr MrT
open PyProof.Rows hiding St
theorem lcL_none {ft : M → Env1 → Option Env1} {tt : Env1 → Sto → R Bool} {fe : Env1 → Sto → R M} (e : Env1) (S : Sto) : ∀ (items : List M) (acc : List PyData), (∀ m ∈ items, ∃ e1, ft m e = some e1 ∧ tt e1 S = .ok false S) → lcL ft tt fe items e S acc = .ok (.d (.list acc)) S
  | [], acc, _ => rfl
  | m :: items, acc, h => by
    obtain ⟨e1, h1, h2⟩ := h m List.mem_cons_self
    have ih := lcL_none (ft := ft) (tt := tt) (fe := fe) e S items acc fun x hx => h x (List.mem_cons_of_mem _ hx)
    unfold lcL
    rw [h1]
    simp only [h2, R.nox, R.bind]
    exact ih
theorem ints_ok {x : List Int} {n : Int} (h : n = x.length) (S : Sto) : f__law_are_integers [tI x, iI n] S = .ok tr S := by
  unfold f__law_are_integers fnM
  show ansOf (m__law_are_integers [some (tI x), some (iI n), none] S) = _
  unfold m__law_are_integers
  have c1 : tOrM (tNotM (Mr.tB (ePrim pIsi (aC (eV 0) (aC (eC (.ty "tuple")) aN))))) (Mr.tB (Mr.e2 opNeU (ePrim pLen (aC (eV 0) aN)) (eV 1))) [some (tI x), some (iI n), none] S = .ok false S :=
    or_ff (not_t (c := true) (tB_v (p_call (a_cons (v_at rfl) (a_cons rfl a_nil)) rfl))) (t_op (p_call (a_cons (v_at rfl) a_nil) (len_t _ _)) (v_at rfl) ((neI _ _ _).trans (by rw [List.length_map, h, decide_eq_true rfl]; rfl)))
  rw [seq_nx (if_fn c1)]
  have q : eLc [2] (iSeq (eV 0)) (tgN 2) if__law_are_integers_1 el__law_are_integers_2 [some (tI x), some (iI n), none] S = .ok (.d (.list [])) S := by
    unfold eLc
    rw [seq_t (v_at rfl)]
    refine lcL_none (tt := if__law_are_integers_1) _ S _ [] fun m hm => ?_
    obtain ⟨d, hd, rfl⟩ := List.mem_map.mp hm
    obtain ⟨i, hi, rfl⟩ := List.mem_map.mp hd
    exact ⟨_, rfl, or_ff (not_t (c := true) (tB_v (p_call (a_cons (v_at rfl) (a_cons rfl a_nil)) rfl))) (tB_v (p_call (a_cons (v_at rfl) (a_cons rfl a_nil)) rfl))⟩
  exact ans_rt (ret_v (v_op q rfl rfl))
theorem pow_bd {x : Int} (hx : x.natAbs < 2 ^ 100) : ∀ i : Nat, (x ^ i).natAbs ≤ 2 ^ (100 * i)
  | 0 => by simp
  | i + 1 => by
    rw [Int.pow_succ, Int.natAbs_mul, Nat.mul_succ, Nat.pow_add]
    exact Nat.mul_le_mul (pow_bd hx i) (Nat.le_of_lt hx)
theorem pow_lt {x : Int} (hx : x.natAbs < 2 ^ 100) (i : Nat) : (x ^ i).natAbs < 2 ^ (100 * i + 1) := by
  have := pow_bd hx i
  have e : 2 ^ (100 * i + 1) = 2 ^ (100 * i) * 2 := Nat.pow_add 2 (100 * i) 1
  have : 0 < 2 ^ (100 * i) := Nat.pow_pos (by decide)
  omega
theorem power_ok {x : Int} (hx : x.natAbs < 2 ^ 100) {k : Nat} (hk : k ≤ 1000) (S : Sto) : f__law_power [iI x, iI k] S = .ok (iI (x ^ k)) S := by
  unfold f__law_power fnM
  show ansOf (m__law_power [some (iI x), some (iI k), none, none] S) = _
  unfold m__law_power
  have e1 : sSet 2 (eC (.d (.int 1))) [some (iI x), some (iI k), none, none] S = .nx [some (iI x), some (iI k), some (iI (x ^ 0)), none] S := by rw [Int.pow_zero]; rfl
  obtain ⟨en, S2, hf, hk2, z, he, hS⟩ := for_foldR (ft := tgN 3) (fb := b__law_power_1) (fun j : Nat => iI j) (fun (s : Nat) (_ : Nat) => s + 1) (fun rest s e S2 => s + rest.length = k ∧ ∃ z, e = [some (iI x), some (iI k), some (iI (x ^ s)), z] ∧ S2 = S) (fun a rest s e S2 ⟨h0, z, he, hS⟩ => by
    subst he hS
    rw [List.length_cons] at h0
    refine ⟨_, _, _, rfl, set_v (v_op (v_at rfl) (v_at rfl) (mulWB (pow_lt hx s) hx (by omega) _)), by omega, some (iI a), ?_, rfl⟩
    rw [Int.pow_succ]
    rfl) (List.range k) 0 [some (iI x), some (iI k), some (iI (x ^ 0)), none] S ⟨by simp, none, rfl, rfl⟩
  have it : iRng (aC (eV 1) aN) [some (iI x), some (iI k), some (iI (x ^ 0)), none] S = .ok ((List.range k).map fun j : Nat => iI j) S := rng_n (a_cons (v_at rfl) a_nil) (by omega)
  subst he hS
  rw [List.length_nil, Nat.add_zero] at hk2
  rw [hk2] at hf
  exact ans_rt ((seq_nx e1).trans ((seq_nx ((for_v it).trans hf)).trans (ret_v (v_at rfl))))
theorem horner (y : Int) : ∀ r : List Int, r.reverse.foldl (fun (v a : Int) => v * y + a) 0 = val y r
  | [] => rfl
  | a :: r => by
    rw [List.reverse_cons, List.foldl_append, horner y r, List.foldl_cons, List.foldl_nil, val, Int.mul_comm]
    omega
theorem lat_ok {r : List Int} {y : Int} (hy : y.natAbs ≤ 48) (S : Sto) : f__law_at [tI r, iI y] S = .ok (iI (val y r)) S := by
  unfold f__law_at fnM
  show ansOf (m__law_at [some (tI r), some (iI y), none, none] S) = _
  unfold m__law_at
  have w1 : sSet 2 (eC (.d (.int 0))) [some (tI r), some (iI y), none, none] S = .nx [some (tI r), some (iI y), some (iI 0), none] S := rfl
  obtain ⟨en, S2, hf, z, he, hS⟩ := for_fold (ft := tgN 3) (fb := b__law_at_1) (fun a : Int => iI a) (fun (v a : Int) => v * y + a) (fun v e S2 => ∃ z, e = [some (tI r), some (iI y), some (iI v), z] ∧ S2 = S) r.reverse (fun a _ v e S2 ⟨z, he, hS⟩ => by
    subst he hS
    exact ⟨_, _, _, rfl, set_v (v_op (v_op (v_at rfl) (v_at rfl) (mulWK _ _ (.inr (by omega)) _)) (v_at rfl) (addI _ _ _)), _, rfl, rfl⟩) 0 [some (tI r), some (iI y), some (iI 0), none] S ⟨none, rfl, rfl⟩
  have it : iSeq (e1 opRevU (eV 0)) [some (tI r), some (iI y), some (iI 0), none] S = .ok (r.reverse.map fun a : Int => iI a) S := (seq_t (revU_t (v_at rfl))).trans (by rw [← List.map_reverse, List.map_map]; rfl)
  subst he hS
  rw [horner] at hf
  exact ans_rt ((seq_nx w1).trans ((seq_nx ((for_v it).trans hf)).trans (ret_v (v_at rfl))))
theorem vals_two (S : Sto) : ∀ k : Nat, k ≤ 48 → f__law_values [.d (.str "two"), iI ((k : Int) - 24)] S = .ok (.d (.tuple [.int (val ((k : Int) - 24) fTwo.F), .int (val ((k : Int) - 24) fTwo.G)])) S := fun k hk => by
  match k, hk with
  | 0, _ => kernel_rfl
  | 1, _ => kernel_rfl
  | 2, _ => kernel_rfl
  | 3, _ => kernel_rfl
  | 4, _ => kernel_rfl
  | 5, _ => kernel_rfl
  | 6, _ => kernel_rfl
  | 7, _ => kernel_rfl
  | 8, _ => kernel_rfl
  | 9, _ => kernel_rfl
  | 10, _ => kernel_rfl
  | 11, _ => kernel_rfl
  | 12, _ => kernel_rfl
  | 13, _ => kernel_rfl
  | 14, _ => kernel_rfl
  | 15, _ => kernel_rfl
  | 16, _ => kernel_rfl
  | 17, _ => kernel_rfl
  | 18, _ => kernel_rfl
  | 19, _ => kernel_rfl
  | 20, _ => kernel_rfl
  | 21, _ => kernel_rfl
  | 22, _ => kernel_rfl
  | 23, _ => kernel_rfl
  | 24, _ => kernel_rfl
  | 25, _ => kernel_rfl
  | 26, _ => kernel_rfl
  | 27, _ => kernel_rfl
  | 28, _ => kernel_rfl
  | 29, _ => kernel_rfl
  | 30, _ => kernel_rfl
  | 31, _ => kernel_rfl
  | 32, _ => kernel_rfl
  | 33, _ => kernel_rfl
  | 34, _ => kernel_rfl
  | 35, _ => kernel_rfl
  | 36, _ => kernel_rfl
  | 37, _ => kernel_rfl
  | 38, _ => kernel_rfl
  | 39, _ => kernel_rfl
  | 40, _ => kernel_rfl
  | 41, _ => kernel_rfl
  | 42, _ => kernel_rfl
  | 43, _ => kernel_rfl
  | 44, _ => kernel_rfl
  | 45, _ => kernel_rfl
  | 46, _ => kernel_rfl
  | 47, _ => kernel_rfl
  | 48, _ => kernel_rfl
  | k + 49, h => omega
theorem vals_fourfold (S : Sto) : ∀ k : Nat, k ≤ 48 → f__law_values [.d (.str "fourfold"), iI ((k : Int) - 24)] S = .ok (.d (.tuple [.int (val ((k : Int) - 24) fFold.F), .int (val ((k : Int) - 24) fFold.G)])) S := fun k hk => by
  match k, hk with
  | 0, _ => kernel_rfl
  | 1, _ => kernel_rfl
  | 2, _ => kernel_rfl
  | 3, _ => kernel_rfl
  | 4, _ => kernel_rfl
  | 5, _ => kernel_rfl
  | 6, _ => kernel_rfl
  | 7, _ => kernel_rfl
  | 8, _ => kernel_rfl
  | 9, _ => kernel_rfl
  | 10, _ => kernel_rfl
  | 11, _ => kernel_rfl
  | 12, _ => kernel_rfl
  | 13, _ => kernel_rfl
  | 14, _ => kernel_rfl
  | 15, _ => kernel_rfl
  | 16, _ => kernel_rfl
  | 17, _ => kernel_rfl
  | 18, _ => kernel_rfl
  | 19, _ => kernel_rfl
  | 20, _ => kernel_rfl
  | 21, _ => kernel_rfl
  | 22, _ => kernel_rfl
  | 23, _ => kernel_rfl
  | 24, _ => kernel_rfl
  | 25, _ => kernel_rfl
  | 26, _ => kernel_rfl
  | 27, _ => kernel_rfl
  | 28, _ => kernel_rfl
  | 29, _ => kernel_rfl
  | 30, _ => kernel_rfl
  | 31, _ => kernel_rfl
  | 32, _ => kernel_rfl
  | 33, _ => kernel_rfl
  | 34, _ => kernel_rfl
  | 35, _ => kernel_rfl
  | 36, _ => kernel_rfl
  | 37, _ => kernel_rfl
  | 38, _ => kernel_rfl
  | 39, _ => kernel_rfl
  | 40, _ => kernel_rfl
  | 41, _ => kernel_rfl
  | 42, _ => kernel_rfl
  | 43, _ => kernel_rfl
  | 44, _ => kernel_rfl
  | 45, _ => kernel_rfl
  | 46, _ => kernel_rfl
  | 47, _ => kernel_rfl
  | 48, _ => kernel_rfl
  | k + 49, h => omega
theorem vals_three (S : Sto) : ∀ k : Nat, k ≤ 48 → f__law_values [.d (.str "three"), iI ((k : Int) - 24)] S = .ok (.d (.tuple [.int (val ((k : Int) - 24) fThree.F), .int (val ((k : Int) - 24) fThree.G)])) S := fun k hk => by
  match k, hk with
  | 0, _ => kernel_rfl
  | 1, _ => kernel_rfl
  | 2, _ => kernel_rfl
  | 3, _ => kernel_rfl
  | 4, _ => kernel_rfl
  | 5, _ => kernel_rfl
  | 6, _ => kernel_rfl
  | 7, _ => kernel_rfl
  | 8, _ => kernel_rfl
  | 9, _ => kernel_rfl
  | 10, _ => kernel_rfl
  | 11, _ => kernel_rfl
  | 12, _ => kernel_rfl
  | 13, _ => kernel_rfl
  | 14, _ => kernel_rfl
  | 15, _ => kernel_rfl
  | 16, _ => kernel_rfl
  | 17, _ => kernel_rfl
  | 18, _ => kernel_rfl
  | 19, _ => kernel_rfl
  | 20, _ => kernel_rfl
  | 21, _ => kernel_rfl
  | 22, _ => kernel_rfl
  | 23, _ => kernel_rfl
  | 24, _ => kernel_rfl
  | 25, _ => kernel_rfl
  | 26, _ => kernel_rfl
  | 27, _ => kernel_rfl
  | 28, _ => kernel_rfl
  | 29, _ => kernel_rfl
  | 30, _ => kernel_rfl
  | 31, _ => kernel_rfl
  | 32, _ => kernel_rfl
  | 33, _ => kernel_rfl
  | 34, _ => kernel_rfl
  | 35, _ => kernel_rfl
  | 36, _ => kernel_rfl
  | 37, _ => kernel_rfl
  | 38, _ => kernel_rfl
  | 39, _ => kernel_rfl
  | 40, _ => kernel_rfl
  | 41, _ => kernel_rfl
  | 42, _ => kernel_rfl
  | 43, _ => kernel_rfl
  | 44, _ => kernel_rfl
  | 45, _ => kernel_rfl
  | 46, _ => kernel_rfl
  | 47, _ => kernel_rfl
  | 48, _ => kernel_rfl
  | k + 49, h => omega
theorem vals_four (S : Sto) : ∀ k : Nat, k ≤ 48 → f__law_values [.d (.str "four"), iI ((k : Int) - 24)] S = .ok (.d (.tuple [.int (val ((k : Int) - 24) fFour.F), .int (val ((k : Int) - 24) fFour.G)])) S := fun k hk => by
  match k, hk with
  | 0, _ => kernel_rfl
  | 1, _ => kernel_rfl
  | 2, _ => kernel_rfl
  | 3, _ => kernel_rfl
  | 4, _ => kernel_rfl
  | 5, _ => kernel_rfl
  | 6, _ => kernel_rfl
  | 7, _ => kernel_rfl
  | 8, _ => kernel_rfl
  | 9, _ => kernel_rfl
  | 10, _ => kernel_rfl
  | 11, _ => kernel_rfl
  | 12, _ => kernel_rfl
  | 13, _ => kernel_rfl
  | 14, _ => kernel_rfl
  | 15, _ => kernel_rfl
  | 16, _ => kernel_rfl
  | 17, _ => kernel_rfl
  | 18, _ => kernel_rfl
  | 19, _ => kernel_rfl
  | 20, _ => kernel_rfl
  | 21, _ => kernel_rfl
  | 22, _ => kernel_rfl
  | 23, _ => kernel_rfl
  | 24, _ => kernel_rfl
  | 25, _ => kernel_rfl
  | 26, _ => kernel_rfl
  | 27, _ => kernel_rfl
  | 28, _ => kernel_rfl
  | 29, _ => kernel_rfl
  | 30, _ => kernel_rfl
  | 31, _ => kernel_rfl
  | 32, _ => kernel_rfl
  | 33, _ => kernel_rfl
  | 34, _ => kernel_rfl
  | 35, _ => kernel_rfl
  | 36, _ => kernel_rfl
  | 37, _ => kernel_rfl
  | 38, _ => kernel_rfl
  | 39, _ => kernel_rfl
  | 40, _ => kernel_rfl
  | 41, _ => kernel_rfl
  | 42, _ => kernel_rfl
  | 43, _ => kernel_rfl
  | 44, _ => kernel_rfl
  | 45, _ => kernel_rfl
  | 46, _ => kernel_rfl
  | 47, _ => kernel_rfl
  | 48, _ => kernel_rfl
  | k + 49, h => omega
end K59

end
section
set_option maxRecDepth 100000
set_option maxHeartbeats 1000000
namespace K59
open PySem PySem.Spec L2 Mr MrT
open PyProof.Rows hiding St
def Vals (f : Fm) : Prop := (∀ (S : Sto) (k : Nat), k ≤ 48 → f__law_values [.d (.str f.nm), iI ((k : Int) - 24)] S = .ok (.d (.tuple [.int (val ((k : Int) - 24) f.F), .int (val ((k : Int) - 24) f.G)])) S) ∧ ∀ k : Nat, k < 49 → (val ((k : Int) - 24) f.F).natAbs < 2 ^ 100 ∧ (val ((k : Int) - 24) f.G).natAbs < 2 ^ 100
theorem two_v : Vals fTwo := ⟨fun S k h => vals_two S k h, by decide +kernel⟩
theorem fold_v : Vals fFold := ⟨fun S k h => vals_fourfold S k h, by decide +kernel⟩
theorem three_v : Vals fThree := ⟨fun S k h => vals_three S k h, by decide +kernel⟩
theorem four_v : Vals fFour := ⟨fun S k h => vals_four S k h, by decide +kernel⟩
section
variable {f : Fm}
abbrev E12 (f : Fm) (n : Nat) (t v : M) (z7 z8 z9 z10 z11 : Option M) : Env1 := [some (.d (.str f.nm)), some (iI n), some t, some v, some (iI f.s), some (iI f.h), some (iI f.g), z7, z8, z9, z10, z11]
theorem b1_ok (o : f.Ok) (hv : Vals f) {n b k : Nat} {r : List Int} {t v : M} (h48 : n ≤ 48) (hb : b * f.h ≤ n) (hk : k ≤ 48) (hr : RowOk f n b r) (S : Sto) :
    b__law_are_products_1 (E12 f n t v (some (iI b)) (some (tI r)) (some (iI ((k : Int) - 24))) (some (iI (val ((k : Int) - 24) f.F))) (some (iI (val ((k : Int) - 24) f.G)))) S = .nx (E12 f n t v (some (iI b)) (some (tI r)) (some (iI ((k : Int) - 24))) (some (iI (val ((k : Int) - 24) f.F))) (some (iI (val ((k : Int) - 24) f.G)))) S := by
  have hs := o.s1
  have h1 := h_pos o
  have h4 := o.h48
  have hb2 : b ≤ 48 := by
    have := Nat.mul_le_mul_left b h1
    omega
  obtain ⟨v1, v2⟩ := hv.2 k (by omega)
  unfold b__law_are_products_1
  refine if_fn ?_
  have ht : (n - b * f.h) / f.s ≤ 48 := Nat.le_trans (Nat.div_le_self _ _) (by omega)
  have w : e2 opFdiv (e2 opSub (eV 1) (e2 opMulW (eV 7) (eV 5))) (eV 4) (E12 f n t v (some (iI b)) (some (tI r)) (some (iI ((k : Int) - 24))) (some (iI (val ((k : Int) - 24) f.F))) (some (iI (val ((k : Int) - 24) f.G)))) S = .ok (iI (((n - b * f.h) / f.s : Nat) : Int)) S := by
    refine v_op (v_op (v_at rfl) (v_op (v_at rfl) (v_at rfl) (mulWK _ _ (.inl (by omega)) _)) (subI _ _ _)) (v_at rfl) ?_
    have e : (n : Int) - (b : Int) * (f.h : Int) = ((n - b * f.h : Nat) : Int) := by
      have e0 : ((b * f.h : Nat) : Int) = (b : Int) * (f.h : Int) := Int.natCast_mul _ _
      rw [← e0, ← Int.ofNat_sub hb]
    rw [e]
    exact divN (by omega) (by omega) S
  refine t_op (call_v (a_cons (v_at rfl) (a_cons (v_at rfl) a_nil)) (lat_ok (by omega) S)) (v_op (call_v (a_cons (v_at rfl) (a_cons w a_nil)) (power_ok v1 (by omega) S)) (call_v (a_cons (v_at rfl) (a_cons (v_at rfl) a_nil)) (power_ok v2 (by omega) S)) (mulWB (pow_lt v1 _) (pow_lt v2 _) (by omega) _)) ((neI _ _ _).trans ?_)
  rw [decide_eq_true (hr.vl _)]
  rfl
def yk (n k : Nat) : Nat := 24 - n / 2 + k
def vk (f : Fm) (n k : Nat) : PyData := .tuple [.int ((yk n k : Nat) - 24 : Int), .tuple [.int (val ((yk n k : Nat) - 24 : Int) f.F), .int (val ((yk n k : Nat) - 24 : Int) f.G)]]
def vL (f : Fm) (n : Nat) : PyData := .list ((List.range (n + 1)).map (vk f n))
theorem yk_le {n k : Nat} (h48 : n ≤ 48) (hk : k ≤ n) : yk n k ≤ 48 := by
  unfold yk
  omega
theorem vs_ok (hv : Vals f) {n : Nat} (h48 : n ≤ 48) {t : M} {z3 z7 z8 z9 z10 z11 : Option M} (S : Sto) : eLc [9] (Mr.iRng2 (aC (e2 opSub (eC (.d (.int 0))) (e2 opFdiv (eV 1) (eC (.d (.int 2))))) (aC (e2 opAdd (e2 opSub (eV 1) (e2 opFdiv (eV 1) (eC (.d (.int 2))))) (eC (.d (.int 1)))) aN))) (tgN 9) tYesM el__law_are_products_3 [some (.d (.str f.nm)), some (iI n), some t, z3, some (iI f.s), some (iI f.h), some (iI f.g), z7, z8, z9, z10, z11] S = .ok (.d (vL f n)) S := by
  have w : ∀ e : Env1, e[1]? = some (some (iI n)) → e2 opFdiv (eV 1) (eC (.d (.int 2))) e S = .ok (iI ((n / 2 : Nat) : Int)) S := fun e he => v_op (v_at he) eI (divN (by decide) (by decide) S)
  refine lc_map (fun k : Nat => iI (((yk n k : Nat) : Int) - 24)) (vk f n) (items := List.range (n + 1)) ?_ (fun k hk => ?_) (by simp; omega)
  · unfold Mr.iRng2
    rw [a_cons (v_op eI (w _ rfl) (subI _ _ _)) (a_cons (v_op (v_op (v_at rfl) (w _ rfl) (subI _ _ _)) eI (addI _ _ _)) a_nil)]
    show (if _ then R.ok (rngL _ _) S else .bad) = _
    rw [if_pos ⟨by omega, by omega, by omega, by omega⟩]
    unfold rngL
    have e : ((n : Int) - ((n / 2 : Nat) : Int) + 1 - (0 - ((n / 2 : Nat) : Int))).toNat = n + 1 := by omega
    rw [e]
    congr 1
    refine List.map_congr_left fun k _ => ?_
    show iI _ = iI _
    congr 2
    unfold yk
    omega
  · have := List.mem_range.mp hk
    refine ⟨_, rfl, ?_⟩
    have q := hv.1 S (yk n k) (yk_le h48 (by omega))
    unfold el__law_are_products_3 eTup
    rw [a_cons (v_at rfl) (a_cons (call_v (a_cons (v_at rfl) (a_cons (v_at rfl) a_nil)) q) a_nil)]
    rfl
theorem b2_ok (o : f.Ok) (hv : Vals f) {n b : Nat} {r : List Int} {t : M} {z9 z10 z11 : Option M} (h48 : n ≤ 48) (hb : b * f.h ≤ n) (hr : RowOk f n b r) (S : Sto) :
    ∃ y9 y10 y11, b__law_are_products_2 (E12 f n t (.d (vL f n)) (some (iI b)) (some (tI r)) z9 z10 z11) S = .nx (E12 f n t (.d (vL f n)) (some (iI b)) (some (tI r)) y9 y10 y11) S := by
  unfold b__law_are_products_2
  have c1 : sIf (tNotM (Mr.tB (eCall f__law_are_integers (aC (eV 8) (aC (Mr.e2 opAdd (eV 1) (eC (.d (.int 1)))) aN))))) (sRet (eC (.d (.bool false)))) sNx (E12 f n t (.d (vL f n)) (some (iI b)) (some (tI r)) z9 z10 z11) S = .nx (E12 f n t (.d (vL f n)) (some (iI b)) (some (tI r)) z9 z10 z11) S :=
    if_fn (not_t (c := true) (tB_v (call_v (a_cons (v_at rfl) (a_cons (v_op (v_at rfl) eI (addI _ _ _)) a_nil)) (ints_ok (by rw [hr.len]; omega) S))))
  obtain ⟨en, S2, hf, y9, y10, y11, he, hS⟩ := for_fold (σ := Unit) (ft := tgTup [tgN 9, tgTup [tgN 10, tgN 11]]) (fb := b__law_are_products_1) (fun k : Nat => .d (vk f n k)) (fun u _ => u) (fun _ e S2 => ∃ z9 z10 z11, e = E12 f n t (.d (vL f n)) (some (iI b)) (some (tI r)) z9 z10 z11 ∧ S2 = S) (List.range (n + 1)) (fun k hk u e S2 ⟨z9, z10, z11, he, hS⟩ => by
    subst he hS
    have := List.mem_range.mp hk
    exact ⟨_, _, _, rfl, b1_ok o hv h48 hb (yk_le h48 (by omega)) hr _, _, _, _, rfl, rfl⟩) () (E12 f n t (.d (vL f n)) (some (iI b)) (some (tI r)) z9 z10 z11) S ⟨_, _, _, rfl, rfl⟩
  subst he hS
  have it : iSeq (eV 3) (E12 f n t (.d (vL f n)) (some (iI b)) (some (tI r)) z9 z10 z11) S2 = .ok ((List.range (n + 1)).map fun k : Nat => .d (vk f n k)) S2 := (seq_l (v_at rfl)).trans (by rw [List.map_map]; rfl)
  exact ⟨y9, y10, y11, (seq_nx c1).trans ((for_v it).trans hf)⟩
theorem zip_range {α β : Type} (g : α → β) : ∀ xs : List α, xs.zip (xs.map g) = xs.map fun x => (x, g x)
  | [] => rfl
  | x :: xs => by rw [List.map_cons, List.zip_cons_cons, zip_range g xs, List.map_cons]
theorem enum_rows (n : Nat) : enumM ((rws f n).map fun r => PyData.tuple (r.map .int)) = (List.range (n / f.h + 1)).map fun b => M.pr [.int (b : Nat), .tuple ((row n f.F f.G b).map .int)] := by
  unfold enumM
  rw [List.length_map, rws_len, List.map_map, zip_range, List.map_map]
  rfl
theorem prod_ok (o : f.Ok) (hv : Vals f) {n m : Nat} (hn : n = f.s * m) (h48 : n ≤ 48) (S : Sto) : f__law_are_products [.d (.str f.nm), iI n, .d (tT (rws f n))] S = .ok tr S := by
  have h1 := h_pos o
  have h4 := o.h48
  unfold f__law_are_products fnM
  show ansOf (m__law_are_products [some (.d (.str f.nm)), some (iI n), some (.d (tT (rws f n))), none, none, none, none, none, none, none, none, none] S) = _
  unfold m__law_are_products
  have e1 : sAsg (eCall f__law_facts (aC (eV 0) aN)) (tgTup [tgN 4, tgN 5, tgN 6]) [some (.d (.str f.nm)), some (iI n), some (.d (tT (rws f n))), none, none, none, none, none, none, none, none, none] S = .nx [some (.d (.str f.nm)), some (iI n), some (.d (tT (rws f n))), none, some (iI f.s), some (iI f.h), some (iI f.g), none, none, none, none, none] S := asg_v (call_v (a_cons (v_at rfl) a_nil) (o.fx S)) rfl
  have e2' : sIf (tOrM (tNotM (Mr.tB (ePrim pIsi (aC (eV 2) (aC (eC (.ty "tuple")) aN))))) (Mr.tB (Mr.e2 opNeU (ePrim pLen (aC (eV 2) aN)) (Mr.e2 opAdd (Mr.e2 opFdiv (eV 1) (eV 5)) (eC (.d (.int 1))))))) (sRet (eC (.d (.bool false)))) sNx [some (.d (.str f.nm)), some (iI n), some (.d (tT (rws f n))), none, some (iI f.s), some (iI f.h), some (iI f.g), none, none, none, none, none] S = .nx [some (.d (.str f.nm)), some (iI n), some (.d (tT (rws f n))), none, some (iI f.s), some (iI f.h), some (iI f.g), none, none, none, none, none] S :=
    if_fn (or_ff (not_t (c := true) (tB_v (p_call (a_cons (v_at rfl) (a_cons rfl a_nil)) rfl))) (t_op (p_call (a_cons (v_at rfl) a_nil) (len_t _ _)) (v_op (v_op (v_at rfl) (v_at rfl) (divN (by omega) (by omega) _)) eI (addI _ _ _)) ((neI _ _ _).trans (by rw [List.length_map, rws_len, decide_eq_true (by omega)]; rfl))))
  have e3 := set_v (i := 3) (vs_ok (t := .d (tT (rws f n))) hv h48 (z3 := none) (z7 := none) (z8 := none) (z9 := none) (z10 := none) (z11 := none) S)
  obtain ⟨en, S2, hf, y7, y8, y9, y10, y11, he, hS⟩ := for_fold (σ := Unit) (ft := tgTup [tgN 7, tgN 8]) (fb := b__law_are_products_2) (fun b : Nat => M.pr [.int (b : Nat), .tuple ((row n f.F f.G b).map .int)]) (fun u _ => u) (fun _ e S2 => ∃ z7 z8 z9 z10 z11, e = E12 f n (.d (tT (rws f n))) (.d (vL f n)) z7 z8 z9 z10 z11 ∧ S2 = S) (List.range (n / f.h + 1)) (fun b hb u e S2 ⟨z7, z8, z9, z10, z11, he, hS⟩ => by
    subst he hS
    have := List.mem_range.mp hb
    have hb2 : b * f.h ≤ n := Nat.le_trans (Nat.mul_le_mul_right _ (by omega)) (Nat.div_mul_le_self n f.h)
    obtain ⟨y9, y10, y11, q⟩ := b2_ok (t := .d (tT (rws f n))) (z9 := z9) (z10 := z10) (z11 := z11) o hv h48 hb2 (row_ok o hn h48 hb2) S2
    exact ⟨_, _, _, rfl, q, _, _, _, _, _, rfl, rfl⟩) () (E12 f n (.d (tT (rws f n))) (.d (vL f n)) none none none none none) S ⟨_, _, _, _, _, rfl, rfl⟩
  subst he hS
  have it : iEnumA (aC (eV 2) aN) (E12 f n (.d (tT (rws f n))) (.d (vL f n)) none none none none none) S2 = .ok ((List.range (n / f.h + 1)).map fun b : Nat => M.pr [.int (b : Nat), .tuple ((row n f.F f.G b).map .int)]) S2 := (enum_v (a_cons (v_at rfl) a_nil) rfl).trans (by rw [enum_rows])
  exact ans_rt ((seq_nx e1).trans ((seq_nx e2').trans ((seq_nx e3).trans ((seq_nx ((for_v it).trans hf)).trans (ret_v c_v)))))
end
end K59

end
section
set_option maxRecDepth 100000
set_option maxHeartbeats 1000000
namespace K59
open PySem PySem.Spec L2 Mr MrT
open PyProof.Rows hiding St
/-! ### how large the multiples are -/
def dtN (u : List Nat) (c : List Int) : Nat := (List.zipWith (fun a b => a * b.natAbs) u c).sum
def ubStep (g : Nat) (rs : List (List Int)) (u : List Nat) (b : Nat) : List Nat := u ++ [1 + dtN u (cl rs (g * b))]
def ubF (g : Nat) (rs : List (List Int)) : List Nat := (List.range rs.length).foldl (ubStep g rs) []
/-- u bounds s, X for one -/
def Ub (X : Nat) : List Int → List Nat → Prop
  | [], [] => True
  | a :: s, b :: u => a.natAbs ≤ X * b ∧ Ub X s u
  | _, _ => False
theorem ub_len {X : Nat} : ∀ {s : List Int} {u : List Nat}, Ub X s u → s.length = u.length
  | [], [], _ => rfl
  | _ :: _, _ :: _, h => by simp [ub_len h.2]
  | [], _ :: _, h => h.elim
  | _ :: _, [], h => h.elim
theorem ub_app {X : Nat} {a : Int} {b : Nat} (hab : a.natAbs ≤ X * b) : ∀ {s : List Int} {u : List Nat}, Ub X s u → Ub X (s ++ [a]) (u ++ [b])
  | [], [], _ => ⟨hab, trivial⟩
  | _ :: _, _ :: _, h => ⟨h.1, ub_app hab h.2⟩
  | [], _ :: _, h => h.elim
  | _ :: _, [], h => h.elim
theorem ub_dt {X : Nat} : ∀ {s : List Int} {u : List Nat} (c : List Int), Ub X s u → (dt s c).natAbs ≤ X * dtN u c
  | [], [], c, _ => by simp [dt]
  | _ :: _, _ :: _, [], _ => by simp [dt]
  | a :: s, b :: u, d :: c, h => by
    have ih := ub_dt c h.2
    have e1 : dt (a :: s) (d :: c) = a * d + dt s c := by simp [dt]
    have e2 : dtN (b :: u) (d :: c) = b * d.natAbs + dtN u c := by simp [dtN]
    rw [e1, e2, Nat.mul_add, ← Nat.mul_assoc]
    have k := Nat.mul_le_mul_right d.natAbs h.1
    rw [← Int.natAbs_mul] at k
    omega
  | [], _ :: _, _, h => h.elim
  | _ :: _, [], _, h => h.elim
theorem ub_mu {X g : Nat} {rs : List (List Int)} {fs : List Int} (hf : ∀ x ∈ fs, x.natAbs ≤ X) : ∀ (ks : List Nat) (s : List Int) (u : List Nat), Ub X s u → Ub X (ks.foldl (muStep g rs fs) s) (ks.foldl (ubStep g rs) u)
  | [], _, _, h => h
  | k :: ks, s, u, h => by
    refine ub_mu hf ks _ _ (ub_app ?_ h)
    have a1 := getD_bd hf k
    have a2 := ub_dt (cl rs (g * k)) h
    rw [Nat.mul_add, Nat.mul_one]
    omega
theorem dtN_bd {U C : Nat} : ∀ (u : List Nat) (c : List Int), (∀ a ∈ u, a ≤ U) → (∀ b ∈ c, b.natAbs ≤ C) → dtN u c ≤ u.length * (U * C)
  | [], _, _, _ => by simp [dtN]
  | _ :: _, [], _, _ => by simp [dtN]
  | a :: u, b :: c, hu, hc => by
    have ih := dtN_bd u c (fun x hx => hu x (List.mem_cons_of_mem _ hx)) (fun x hx => hc x (List.mem_cons_of_mem _ hx))
    have e2 : dtN (a :: u) (b :: c) = a * b.natAbs + dtN u c := by simp [dtN]
    have k := Nat.mul_le_mul (hu a List.mem_cons_self) (hc b List.mem_cons_self)
    rw [e2, List.length_cons, Nat.succ_mul]
    omega
def innC (n : Nat) (F p : List Int) : List Int := ((loopN (cI n) (fun p => cv p F) 1000 p).getD [])
theorem loopN_eq {σ : Type} {c : σ → Bool} {f g : σ → σ} (P : σ → Prop) (hf : ∀ s, P s → f s = g s) (hP : ∀ s, P s → P (f s)) : ∀ (k : Nat) (s : σ), P s → loopN c f k s = loopN c g k s
  | 0, _, _ => rfl
  | k + 1, s, h => by
    unfold loopN
    rw [← hf s h, loopN_eq P hf hP k (f s) (hP s h)]
theorem inn_eq {n : Nat} {F p : List Int} (hF : 1 ≤ F.length) (hp : 1 ≤ p.length) : innF n F p = innC n F p := by
  unfold innF innC
  rw [loopN_eq (fun s => 1 ≤ s.length) (fun s h => mul_cv h F) (fun s h => by rw [mul_len]; omega) 1000 p hp]
def gpC (G : List Int) : Nat → List Int
  | 0 => [1]
  | b + 1 => cv (gpC G b) G
theorem gp_eq {G : List Int} {h : Nat} (hG : G.length = h + 1) : ∀ b, gp G b = gpC G b
  | 0 => rfl
  | b + 1 => by rw [gp, gpC, ← gp_eq hG b, mul_cv (by rw [gp_len hG]; omega)]
def rwsC (f : Fm) (n : Nat) : List (List Int) := (List.range (n / f.h + 1)).map fun b => innC n f.F (gpC f.G b)
theorem rws_eq {f : Fm} (o : f.Ok) (n : Nat) : rws f n = rwsC f n := by
  refine List.map_congr_left fun b _ => ?_
  unfold row
  rw [inn_eq (by rw [o.F_len]; omega) (by rw [gp_len o.G_len]; omega), gp_eq o.G_len]
def chkU (f : Fm) (n : Nat) : Bool := (ubF f.g (rwsC f n)).all fun x => decide (x ≤ 2 ^ 80)
def UbOk (f : Fm) : Prop := ∀ m : Nat, m < 48 / f.s + 1 → chkU f (f.s * m) = true
theorem two_u : UbOk fTwo := by unfold UbOk; decide +kernel
theorem fold_u : UbOk fFold := by unfold UbOk; decide +kernel
theorem three_u : UbOk fThree := by unfold UbOk; decide +kernel
theorem four_u : UbOk fFour := by unfold UbOk; decide +kernel
theorem nums_bd {f : Fm} (o : f.Ok) (hu : UbOk f) {n m : Nat} (hn : n = f.s * m) (h48 : n ≤ 48) {fs : List Int} (hf : ∀ x ∈ fs, x.natAbs ≤ 2 ^ 40) : ∀ x ∈ nums f n fs, Sm x := fun x hx => by
  have hs := o.s1
  obtain ⟨j, hj, rfl⟩ := List.mem_map.mp hx
  have a1 : Ub (2 ^ 40) (muF f.g (rws f n) fs) (ubF f.g (rws f n)) := ub_mu hf _ [] [] trivial
  have a2 := ub_dt (cl (rws f n) j) a1
  have hm : m < 48 / f.s + 1 := by
    have : m ≤ 48 / f.s := by
      rw [Nat.le_div_iff_mul_le (by omega), Nat.mul_comm, ← hn]
      exact h48
    omega
  have a3 := hu m hm
  rw [← hn] at a3
  have a4 : ∀ a ∈ ubF f.g (rws f n), a ≤ 2 ^ 80 := fun a ha => by
    rw [rws_eq o] at ha
    exact of_decide_eq_true (List.all_eq_true.mp a3 a ha)
  have a5 := dtN_bd (U := 2 ^ 80) (C := 2 ^ 48) (ubF f.g (rws f n)) (cl (rws f n) j) a4 (fun b hb => by
    obtain ⟨r, hr, rfl⟩ := List.mem_map.mp hb
    obtain ⟨_, _, k⟩ := rws_mem o hn h48 r hr
    exact getD_bd k.bd j)
  have a6 : (ubF f.g (rws f n)).length ≤ 49 := by
    rw [← ub_len a1, mu_len, rws_len]
    have := Nat.div_le_self n f.h
    omega
  have a7 : (ubF f.g (rws f n)).length * (2 ^ 80 * 2 ^ 48) ≤ 49 * (2 ^ 80 * 2 ^ 48) := Nat.mul_le_mul_right _ a6
  show (dt (muF f.g (rws f n) fs) (cl (rws f n) j)).natAbs < 10 ^ 79
  have a8 : (2 : Nat) ^ 40 * dtN (ubF f.g (rws f n)) (cl (rws f n) j) ≤ 2 ^ 40 * (49 * (2 ^ 80 * 2 ^ 48)) := Nat.mul_le_mul_left _ (Nat.le_trans a5 a7)
  have a9 : (2 : Nat) ^ 40 * (49 * (2 ^ 80 * 2 ^ 48)) < 10 ^ 79 := by decide
  omega
theorem nums_len (f : Fm) (n : Nat) (fs : List Int) : (nums f n fs).length = n + 1 := by simp [nums, smF]
theorem nums_rep {f : Fm} (o : f.Ok) (hu : UbOk f) {n m : Nat} (hn : n = f.s * m) (h48 : n ≤ 48) {fs : List Int} (hf : ∀ x ∈ fs, x.natAbs ≤ 2 ^ 40) : reprable (.tuple ((nums f n fs).map .int)) = true := rep_tI (nums_bd o hu hn h48 hf) (by rw [nums_len]; omega)
end K59

end
section
set_option maxRecDepth 100000
set_option maxHeartbeats 1000000
namespace K59
open PySem PySem.Spec L2 Mr MrT
open PyProof.Rows hiding St
/-! ### the law's own product -/
theorem range_getD (xs : List Int) : (List.range xs.length).map (fun k => xs.getD k 0) = xs := by
  apply List.ext_getElem
  · simp
  · intro i h1 h2
    simp [List.getD_eq_getElem?_getD, List.getElem?_eq_getElem h2]
theorem enum_ints (xs : List Int) : enumM (xs.map .int) = (List.range xs.length).map fun k => M.pr [.int (k : Nat), .int (xs.getD k 0)] := by
  unfold enumM
  rw [List.length_map]
  conv => lhs; arg 2; arg 2; rw [← range_getD xs]
  rw [List.map_map, zip_range, List.map_map]
  rfl
theorem put_own {fo fi fv : Env1 → Sto → R M} {e : Env1} {S T : Sto} {xs : List Int} {i : Int} {j : Nat} {v : Int} (h2 : fv e (S ++ O.lst (xs.map iI) :: T) = .ok (iI v) (S ++ O.lst (xs.map iI) :: T)) (h0 : fo e (S ++ O.lst (xs.map iI) :: T) = .ok (.loc S.length) (S ++ O.lst (xs.map iI) :: T)) (h1 : fi e (S ++ O.lst (xs.map iI) :: T) = .ok (iI i) (S ++ O.lst (xs.map iI) :: T)) (hi : i = j) (hj : j < xs.length) :
    sPutL fo fi fv e (S ++ O.lst (xs.map iI) :: T) = .nx e (S ++ O.lst ((xs.set j v).map iI) :: T) := by
  subst hi
  unfold sPutL
  rw [h2]
  simp only [R.toS]
  rw [h0]
  simp only [R.toS]
  rw [h1]
  simp only [R.toS]
  rw [at_end]
  have q2 : ixN (xs.map iI).length (j : Int) = some j := by
    simp [ixN, hj]
  simp only [q2]
  rw [set_end, List.map_set]
theorem ix_own {S T : Sto} {xs : List Int} {i : Int} {j : Nat} (hi : i = j) (hj : j < xs.length) : opIx (.loc S.length) (iI i) (S ++ O.lst (xs.map iI) :: T) = some (iI (xs.getD j 0)) := by
  subst hi
  unfold opIx
  simp only [at_end]
  have g := get_at hj
  show (asI (iI (j : Int))).bind _ = _
  have q : asI (iI (j : Int)) = some (j : Int) := rfl
  rw [q]
  simp [atI, ixN, hj]
theorem set_self {s : List Int} {i : Nat} (h : i < s.length) : s.set i (s.getD i 0 + 0) = s := by
  rw [Int.add_zero]
  apply List.ext_getElem
  · simp
  · intro k h1 h2
    rw [List.getElem_set]
    split
    · rename_i e
      subst e
      simp [List.getD_eq_getElem?_getD, List.getElem?_eq_getElem h]
    · rfl
theorem line_zero {b : List Int} {j : Nat} : ∀ (ks : List Nat) (s : List Int), (∀ k ∈ ks, j + k < s.length) → ks.foldl (cellStep 0 b j) s = s
  | [], _, _ => rfl
  | k :: ks, s, h => by
    have e : cellStep 0 b j s k = s := by
      unfold cellStep
      rw [Int.zero_mul]
      exact set_self (h k List.mem_cons_self)
    rw [List.foldl_cons, e]
    exact line_zero ks s fun i hi => h i (List.mem_cons_of_mem _ hi)
theorem pcell_ok {a b s : List Int} {j k : Nat} {S : Sto} (hj : j < a.length) (hk : k < b.length) (hs : s.length = a.length + b.length - 1) (hb : ∀ y ∈ b, -(2 ^ 64) < y ∧ y < 2 ^ 64) : b__law_product_1 [some (tI a), some (tI b), some (.loc S.length), some (iI j), some (iI (a.getD j 0)), some (iI k), some (iI (b.getD k 0))] (S ++ O.lst (s.map iI) :: []) = .nx [some (tI a), some (tI b), some (.loc S.length), some (iI j), some (iI (a.getD j 0)), some (iI k), some (iI (b.getD k 0))] (S ++ O.lst ((cellStep (a.getD j 0) b j s k).map iI) :: []) := by
  unfold b__law_product_1 cellStep
  refine put_own (j := j + k) (v_op (v_op (v_at rfl) (v_op (v_at rfl) (v_at rfl) (addI _ _ _)) (ix_own (j := j + k) (by omega) (by omega))) (v_op (v_at rfl) (v_at rfl) (mulWK _ _ (.inr (hb _ ?_)) _)) (addI _ _ _)) (v_at rfl) (v_op (v_at rfl) (v_at rfl) (addI _ _ _)) (by omega) (by omega)
  exact List.mem_of_getElem? (get_at hk)
theorem pline_ok {a b s : List Int} {j : Nat} {z5 z6 : Option M} {S : Sto} (hj : j < a.length) (hl : b.length ≤ 1000) (hs : s.length = a.length + b.length - 1) (hb : ∀ y ∈ b, -(2 ^ 64) < y ∧ y < 2 ^ 64) : ∃ y5 y6, b__law_product_2 [some (tI a), some (tI b), some (.loc S.length), some (iI j), some (iI (a.getD j 0)), z5, z6] (S ++ O.lst (s.map iI) :: []) = .nx [some (tI a), some (tI b), some (.loc S.length), some (iI j), some (iI (a.getD j 0)), y5, y6] (S ++ O.lst ((lineStep a b s j).map iI) :: []) := by
  unfold b__law_product_2
  by_cases h0 : a.getD j 0 = 0
  · refine ⟨z5, z6, ?_⟩
    have e : lineStep a b s j = s := by
      unfold lineStep
      rw [h0]
      exact line_zero _ _ fun k hk => by have := List.mem_range.mp hk; omega
    rw [e]
    exact if_fn (t_op (v_at rfl) eI ((neI _ _ _).trans (by rw [decide_eq_true h0]; rfl)))
  · obtain ⟨en, S2, hf, hI⟩ := for_foldR (ft := tgTup [tgN 5, tgN 6]) (fb := b__law_product_1) (fun k : Nat => M.pr [.int (k : Nat), .int (b.getD k 0)]) (cellStep (a.getD j 0) b j) (fun rest s e S2 => ∃ z5 z6, e = [some (tI a), some (tI b), some (.loc S.length), some (iI j), some (iI (a.getD j 0)), z5, z6] ∧ S2 = S ++ O.lst (s.map iI) :: [] ∧ s.length = a.length + b.length - 1 ∧ ∀ i ∈ rest, i < b.length) (fun k rest s e S2 ⟨z5, z6, he, hS, hs, hr⟩ => by
      subst he hS
      exact ⟨_, _, _, rfl, pcell_ok hj (hr k List.mem_cons_self) hs hb, _, _, rfl, rfl, by simp [cellStep, hs], fun i hi => hr i (List.mem_cons_of_mem _ hi)⟩) (List.range b.length) s [some (tI a), some (tI b), some (.loc S.length), some (iI j), some (iI (a.getD j 0)), z5, z6] (S ++ O.lst (s.map iI) :: []) ⟨_, _, rfl, rfl, hs, fun i hi => List.mem_range.mp hi⟩
    obtain ⟨y5, y6, rfl, rfl, _⟩ := hI
    have it : iEnumA (aC (eV 1) aN) [some (tI a), some (tI b), some (.loc S.length), some (iI j), some (iI (a.getD j 0)), z5, z6] (S ++ O.lst (s.map iI) :: []) = .ok ((List.range b.length).map fun k : Nat => M.pr [.int (k : Nat), .int (b.getD k 0)]) (S ++ O.lst (s.map iI) :: []) := (enum_v (a_cons (v_at rfl) a_nil) rfl).trans (by rw [enum_ints])
    exact ⟨y5, y6, (if_t (t_op (v_at rfl) eI ((neI _ _ _).trans (by rw [decide_eq_false h0]; rfl)))).trans ((for_v it).trans hf)⟩
theorem lprod_ok {a b : List Int} (ha : a.length ≤ 1000) (ha0 : 1 ≤ a.length) (hl : b.length ≤ 1000) (hb : ∀ y ∈ b, -(2 ^ 64) < y ∧ y < 2 ^ 64) (S : Sto) : f__law_product [tI a, tI b] S = .ok (tI (mulF a b)) S := by
  show cutR S (ansOf (m__law_product [some (tI a), some (tI b), none, none, none, none, none] S)) = _
  have e1 : sSet 2 (e2O opRepO (eLst (aC (eC (.d (.int 0))) aN)) (e2 opSub (e2 opAdd (ePrim pLen (aC (eV 0) aN)) (ePrim pLen (aC (eV 1) aN))) (eC (.d (.int 1))))) [some (tI a), some (tI b), none, none, none, none, none] S = .nx [some (tI a), some (tI b), some (.loc S.length), none, none, none, none] (S ++ O.lst ((List.replicate (a.length + b.length - 1) (0 : Int)).map iI) :: []) := by
    refine set_v ?_
    unfold e2O
    rw [lst1 eI]
    have w : e2 opSub (e2 opAdd (ePrim pLen (aC (eV 0) aN)) (ePrim pLen (aC (eV 1) aN))) (eC (.d (.int 1))) [some (tI a), some (tI b), none, none, none, none, none] S = .ok (iI ((a.length : Int) + b.length - 1)) S := v_op (v_op (p_call (a_cons (v_at rfl) a_nil) ((len_t _ _).trans (by rw [List.length_map]))) (p_call (a_cons (v_at rfl) a_nil) ((len_t _ _).trans (by rw [List.length_map]))) (addI _ _ _)) eI (subI _ _ _)
    simp only [R.bind]
    rw [w]
    simp only
    rw [mulLO 0 (n := a.length + b.length - 1) S (by omega) (by omega)]
    simp only [List.map_map]
    rfl
  obtain ⟨en, S2, hf, hI⟩ := for_foldR (ft := tgTup [tgN 3, tgN 4]) (fb := b__law_product_2) (fun k : Nat => M.pr [.int (k : Nat), .int (a.getD k 0)]) (lineStep a b) (fun rest s e S2 => ∃ z3 z4 z5 z6, e = [some (tI a), some (tI b), some (.loc S.length), z3, z4, z5, z6] ∧ S2 = S ++ O.lst (s.map iI) :: [] ∧ s.length = a.length + b.length - 1 ∧ ∀ i ∈ rest, i < a.length) (fun j rest s e S2 ⟨z3, z4, z5, z6, he, hS, hs, hr⟩ => by
    subst he hS
    obtain ⟨y5, y6, q⟩ := pline_ok (z5 := z5) (z6 := z6) (S := S) (hr j List.mem_cons_self) hl hs hb
    exact ⟨_, _, _, rfl, q, _, _, _, _, rfl, rfl, line_len.trans hs, fun i hi => hr i (List.mem_cons_of_mem _ hi)⟩) (List.range a.length) (List.replicate (a.length + b.length - 1) 0) [some (tI a), some (tI b), some (.loc S.length), none, none, none, none] (S ++ O.lst ((List.replicate (a.length + b.length - 1) (0 : Int)).map iI) :: []) ⟨_, _, _, _, rfl, rfl, by simp, fun i hi => List.mem_range.mp hi⟩
  obtain ⟨z3, z4, z5, z6, rfl, rfl, _⟩ := hI
  have it : iEnumA (aC (eV 0) aN) [some (tI a), some (tI b), some (.loc S.length), none, none, none, none] (S ++ O.lst ((List.replicate (a.length + b.length - 1) (0 : Int)).map iI) :: []) = .ok ((List.range a.length).map fun k : Nat => M.pr [.int (k : Nat), .int (a.getD k 0)]) (S ++ O.lst ((List.replicate (a.length + b.length - 1) (0 : Int)).map iI) :: []) := (enum_v (a_cons (v_at rfl) a_nil) rfl).trans (by rw [enum_ints])
  have e3 : sRet (ePrim pTuple (aC (eV 2) aN)) [some (tI a), some (tI b), some (.loc S.length), z3, z4, z5, z6] (S ++ O.lst ((mulF a b).map iI) :: []) = .rt (tI (mulF a b)) (S ++ O.lst ((mulF a b).map iI) :: []) := ret_v (p_call (a_cons (v_at rfl) a_nil) (by
    have := tup_own (S := S) (T := []) (xs := (mulF a b).map .int)
    rw [List.map_map] at this
    exact this))
  have e4 := (seq_nx (b := sSeq (sFor (iEnumA (aC (eV 0) aN)) (tgTup [tgN 3, tgN 4]) b__law_product_2) (sRet (ePrim pTuple (aC (eV 2) aN)))) e1).trans ((seq_nx ((for_v it).trans hf)).trans e3)
  exact (congrArg (fun o => cutR S (ansOf o)) e4).trans (cut_data S _ _)
/-! ### the bounds -/
theorem same_t {f k : Env1 → Sto → R M} {e : Env1} {S S1 S2 : Sto} {d : PyData} (h1 : f e S = .ok (.d d) S1) (h2 : k e S1 = .ok (.d d) S2) (hr : reprable d = true) : eCall f__law_same (aC f (aC k aN)) e S = .ok tr S2 := call_v (a_cons h1 (a_cons h2 a_nil)) (same_ok hr S2)
def Pk (f : Fm) : Prop := ∀ m : Int, f.pk (2 + 2 * m) (4 + 4 * m) (3 + 3 * m) (2 + 2 * m) = f.g * (m + 1)
theorem two_p : Pk fTwo := fun m => by show 2 + 2 * m = ((2 : Nat) : Int) * (m + 1); omega
theorem fold_p : Pk fFold := fun m => by show 4 + 4 * m = ((4 : Nat) : Int) * (m + 1); omega
theorem three_p : Pk fThree := fun m => by show 3 + 3 * m = ((3 : Nat) : Int) * (m + 1); omega
theorem four_p : Pk fFour := fun m => by show 2 + 2 * m = ((2 : Nat) : Int) * (m + 1); omega
theorem ext_bd (f : Fm) (n : Nat) : ∀ x ∈ ext f n, x.natAbs ≤ 2 ^ 40 := fun x hx => by
  rcases List.mem_append.mp hx with h | h
  · rw [List.mem_singleton.mp h]; decide
  · rw [(List.mem_replicate.mp h).2]; decide
theorem rep_int {i : Int} (h : Sm i) : reprable (.int i) = true := good_rep (good_int h) (by decide) (by decide)
theorem fact_ix {f : Fm} (o : f.Ok) {e : Env1} {i : Nat} {S : Sto} {k : Nat} {x : Int} (h : e[i]? = some (some (.d (.str f.nm)))) (hk : [(f.s : Int), (f.h : Int), (f.g : Int)][k]? = some x) : e2 opIx (eCall f__law_facts (aC (eV i) aN)) (eC (.d (.int k))) e S = .ok (iI x) S := v_op (call_v (a_cons (v_at h) a_nil) (o.fx S)) eI (ixI _ rfl hk)
theorem bounds_ok {f : Fm} (o : f.Ok) (hu : UbOk f) (hp : Pk f) {n m : Nat} (hn : n = f.s * m) (n1 : 1 ≤ n) (h48 : n ≤ 48) (S : Sto) : f__law_are_bounds_right [.d (.str f.nm), iI n] S = .ok tr S := by
  have h1 := h_pos o
  have h4 := o.h48
  have hg := o.g1
  have hl : n / f.h ≤ 48 := Nat.le_trans (Nat.div_le_self _ _) h48
  unfold f__law_are_bounds_right fnM
  show ansOf (m__law_are_bounds_right [some (.d (.str f.nm)), some (iI n), none, none] S) = _
  unfold m__law_are_bounds_right
  have e1 : sSet 2 (e2 opFdiv (eV 1) (e2 opIx (eCall f__law_facts (aC (eV 0) aN)) (eC (.d (.int 1))))) [some (.d (.str f.nm)), some (iI n), none, none] S = .nx [some (.d (.str f.nm)), some (iI n), some (iI ((n / f.h : Nat) : Int)), none] S := set_v (v_op (v_at rfl) (fact_ix o (k := 1) rfl rfl) (divN (by omega) (by omega) _))
  have dv : ∀ (c : Int), (-(2 ^ 64) < c ∧ c < 2 ^ 64) → e2 opAdd (eC (.d (.int c))) (e2 opMulW (eC (.d (.int c))) (eV 2)) [some (.d (.str f.nm)), some (iI n), some (iI ((n / f.h : Nat) : Int)), none] S = .ok (iI (c + c * ((n / f.h : Nat) : Int))) S := fun c hc => v_op eI (v_op eI (v_at rfl) (mulWK _ _ (.inl hc) _)) (addI _ _ _)
  have dd : eDic [(eC (.d (.str "two")), e2 opAdd (eC (.d (.int 2))) (e2 opMulW (eC (.d (.int 2))) (eV 2))), (eC (.d (.str "fourfold")), e2 opAdd (eC (.d (.int 4))) (e2 opMulW (eC (.d (.int 4))) (eV 2))), (eC (.d (.str "three")), e2 opAdd (eC (.d (.int 3))) (e2 opMulW (eC (.d (.int 3))) (eV 2))), (eC (.d (.str "four")), e2 opAdd (eC (.d (.int 2))) (e2 opMulW (eC (.d (.int 2))) (eV 2)))] [some (.d (.str f.nm)), some (iI n), some (iI ((n / f.h : Nat) : Int)), none] S = .ok (.d (.dict [(.str "two", .int (2 + 2 * ((n / f.h : Nat) : Int))), (.str "fourfold", .int (4 + 4 * ((n / f.h : Nat) : Int))), (.str "three", .int (3 + 3 * ((n / f.h : Nat) : Int))), (.str "four", .int (2 + 2 * ((n / f.h : Nat) : Int)))])) S := by
    unfold eDic
    rw [dp_cons c_v (dv 2 (by omega)) rfl (dp_cons c_v (dv 4 (by omega)) rfl (dp_cons c_v (dv 3 (by omega)) rfl (dp_cons (r := []) c_v (dv 2 (by omega)) rfl rfl)))]
    generalize 2 + 2 * ((n / f.h : Nat) : Int) = a
    generalize 4 + 4 * ((n / f.h : Nat) : Int) = b
    generalize 3 + 3 * ((n / f.h : Nat) : Int) = c
    kernel_rfl
  have e2' : sSet 3 (e2 opIx (eDic [(eC (.d (.str "two")), e2 opAdd (eC (.d (.int 2))) (e2 opMulW (eC (.d (.int 2))) (eV 2))), (eC (.d (.str "fourfold")), e2 opAdd (eC (.d (.int 4))) (e2 opMulW (eC (.d (.int 4))) (eV 2))), (eC (.d (.str "three")), e2 opAdd (eC (.d (.int 3))) (e2 opMulW (eC (.d (.int 3))) (eV 2))), (eC (.d (.str "four")), e2 opAdd (eC (.d (.int 2))) (e2 opMulW (eC (.d (.int 2))) (eV 2)))]) (eV 0)) [some (.d (.str f.nm)), some (iI n), some (iI ((n / f.h : Nat) : Int)), none] S = .nx [some (.d (.str f.nm)), some (iI n), some (iI ((n / f.h : Nat) : Int)), some (iI ((f.g * (n / f.h + 1) : Nat) : Int))] S :=
    set_v (v_op dd (v_at rfl) ((o.du _ _ _ _ S).trans (by rw [hp]; congr 3))) 
  have hsm : Sm ((f.g * (n / f.h + 1) : Nat) : Int) := by
    have : f.g * (n / f.h + 1) ≤ 48 * 49 := Nat.mul_le_mul (by omega) (by omega)
    show Int.natAbs _ < 10 ^ 79
    rw [Int.natAbs_natCast]
    exact Nat.lt_of_le_of_lt this (by decide)
  have c1 := same_t (f := eCall f_least_bound (aC (eV 0) (aC (eV 1) aN))) (k := eV 3) (e := [some (.d (.str f.nm)), some (iI n), some (iI ((n / f.h : Nat) : Int)), some (iI ((f.g * (n / f.h + 1) : Nat) : Int))]) (call_v (a_cons (v_at rfl) (a_cons (v_at rfl) a_nil)) (least_ok o hn n1 h48 S)) (v_at rfl) (rep_int hsm)
  have c2 := same_t (f := eCallK [1, 0] f_least_bound (aC (eV 1) (aC (eV 0) aN))) (k := eV 3) (e := [some (.d (.str f.nm)), some (iI n), some (iI ((n / f.h : Nat) : Int)), some (iI ((f.g * (n / f.h + 1) : Nat) : Int))]) (callK_v (a_cons (v_at rfl) (a_cons (v_at rfl) a_nil)) (least_ok o hn n1 h48 S)) (v_at rfl) (rep_int hsm)
  have c3 := same_t (f := eCallK [1, 0] f_extreme_counts (aC (eV 1) (aC (eV 0) aN))) (k := eCall f_counts_from (aC (eV 0) (aC (eV 1) (aC (e2 opAdd (eTup (aC (eC (.d (.int 1))) aN)) (e2 opMulW (eTup (aC (eC (.d (.int 0))) aN)) (eV 2))) aN)))) (e := [some (.d (.str f.nm)), some (iI n), some (iI ((n / f.h : Nat) : Int)), some (iI ((f.g * (n / f.h + 1) : Nat) : Int))]) (callK_v (a_cons (v_at rfl) (a_cons (v_at rfl) a_nil)) (extreme_ok o hn n1 h48 S)) (call_v (a_cons (v_at rfl) (a_cons (v_at rfl) (a_cons (v_op (tup1 eI) (v_op (tup1 eI) (v_at rfl) (repT 0 (n := n / f.h) _ rfl (by omega))) (addT _ _ _ (by simp; omega))) a_nil))) (counts_ok o hn n1 h48 (ext_len n) S)) (nums_rep o hu hn h48 (ext_bd f n))
  exact ans_rt ((seq_nx e1).trans ((seq_nx e2').trans ((seq_nx (if_fn (or_ff (not_t (tB_v c1)) (not_t (tB_v c2))))).trans (ret_v c3))))
end K59

end
section
set_option maxRecDepth 100000
set_option maxHeartbeats 1000000
namespace K59
open PySem PySem.Spec L2 Mr MrT
open PyProof.Rows hiding St
theorem drawn_ints {α : Type} {P : Int → Prop} : ∀ {items : List α} {xs : List PyData}, Paired (fun _ x => ∃ i : Int, x = .int i ∧ P i) items xs → ∃ ms : List Int, xs = ms.map .int ∧ ms.length = items.length ∧ ∀ m ∈ ms, P m
  | [], _, .nil => ⟨[], rfl, rfl, by simp⟩
  | _ :: _, _, .cons ⟨i, e, p⟩ t => by
    obtain ⟨ms, rfl, hl, hm⟩ := drawn_ints t
    refine ⟨i :: ms, by rw [e]; rfl, by simp [hl], fun m h => ?_⟩
    rcases List.mem_cons.mp h with rfl | h
    · exact p
    · exact hm m h
theorem tup2 {f k : Env1 → Sto → R M} {e : Env1} {S S1 S2 : Sto} {a b : PyData} (h : f e S = .ok (.d a) S1) (q : k e S1 = .ok (.d b) S2) : eTup (aC f (aC k aN)) e S = .ok (.d (.tuple [a, b])) S2 := by
  unfold eTup
  rw [a_cons h (a_cons q a_nil)]
  rfl
theorem nums_comb {f : Fm} (n : Nat) {c : Int} {x y : List Int} (hx : x.length = n / f.h + 1) (hy : y.length = n / f.h + 1) : nums f n (comb c x y) = comb c (nums f n x) (nums f n y) := by
  unfold nums
  rw [mu_comb (by rw [rws_len]; exact hx) (by rw [rws_len]; exact hy), sm_comb (by rw [mu_len, mu_len])]
theorem nums_at {f : Fm} (o : f.Ok) {n m : Nat} (hn : n = f.s * m) (h48 : n ≤ 48) (fs : List Int) {b : Nat} (hb : b ≤ n / f.h) : f.g * b < n + 1 ∧ (nums f n fs).getD (f.g * b) 0 = fs.getD b 0 := by
  have hg := o.g1
  have hj : f.g * b < n + 1 := by
    have a1 : f.g * b ≤ f.h * b := Nat.mul_le_mul_right _ hg
    have a2 : f.h * b ≤ f.h * (n / f.h) := Nat.mul_le_mul_left _ hb
    have a3 := Nat.mul_div_le n f.h
    omega
  refine ⟨hj, ?_⟩
  have e : (nums f n fs).getD (f.g * b) 0 = dt (muF f.g (rws f n) fs) (cl (rws f n) (f.g * b)) := by
    unfold nums smF
    rw [List.getD_eq_getElem?_getD, List.getElem?_map, List.getElem?_range hj]
    rfl
  rw [e]
  refine mu_at o.g0 (fun i r hi => ?_) (by rw [rws_len]; omega)
  have hl : i < n / f.h + 1 := by
    have := (List.getElem?_eq_some_iff.mp hi).1
    rwa [rws_len] at this
  have q := rws_at o hn h48 (b := i) (by omega)
  rw [q.1] at hi
  cases hi
  exact q.2.ld
abbrev E15 (f : Fm) (n : Nat) (r3 r4 r5 r6 r7 r8 r9 r10 r11 : Option M) : Env1 := [some (.loc 1), some (.d (.str f.nm)), some (iI n), r3, r4, r5, r6, r7, r8, r9, r10, r11, none, none, none]
theorem cells_ok {f : Fm} {n k : Nat} {sz : Int} (h3 : 3 ≤ sz) (h6 : sz ≤ 1000003) (hk : k ≤ 1000) {fe : Env1 → Sto → R M} (hfe : fe = e2 opSub (eCall f__law_draw (aC (eV 0) (aC (e2 opAdd (e2 opMulW (eC (.d (.int 2))) (eV 9)) (eC (.d (.int 1)))) aN))) (eV 9)) {r3 r4 r5 r6 r8 r10 r11 : Option M} {S : Sto} (d : Dk [] S) :
    ∃ (xs : List Int) (S2 : Sto), ePrim pTuple (aC (eLc [12] (iRng (aC (eV 7) aN)) (tgN 12) tYesM fe) aN) (E15 f n r3 r4 r5 r6 (some (iI k)) r8 (some (iI sz)) r10 r11) S = .ok (tI xs) S2 ∧ xs.length = k ∧ (∀ x ∈ xs, x.natAbs ≤ 1000003) ∧ Dk [] S2 := by
  subst hfe
  obtain ⟨xs, S2, q, pr, d2⟩ := lc_draw (vs := [12]) (fi := iRng (aC (eV 7) aN)) (ft := tgN 12) (fe := e2 opSub (eCall f__law_draw (aC (eV 0) (aC (e2 opAdd (e2 opMulW (eC (.d (.int 2))) (eV 9)) (eC (.d (.int 1)))) aN))) (eV 9)) (e := E15 f n r3 r4 r5 r6 (some (iI k)) r8 (some (iI sz)) r10 r11) (S := S) (items := List.range k) (fun j : Nat => iI j) (fun _ x => ∃ i : Int, x = .int i ∧ i.natAbs ≤ 1000003) (Dk []) (rng_n (a_cons (v_at rfl) a_nil) (by omega)) (fun j _ S d => by
    obtain ⟨r, S2, q, b, d2⟩ := draw_call (i := 0) (e := [some (.loc 1), some (.d (.str f.nm)), some (iI n), r3, r4, r5, r6, some (iI k), r8, some (iI sz), r10, r11, some (iI j), none, none]) (f := e2 opAdd (e2 opMulW (eC (.d (.int 2))) (eV 9)) (eC (.d (.int 1)))) (q := 2 * sz + 1) d rfl (v_op (v_op eI (v_at rfl) (mulWK _ _ (.inl (by decide)) _)) eI (addI _ _ _)) (by omega) (by omega)
    exact ⟨_, _, S2, rfl, v_op q (v_at rfl) (subI _ _ _), ⟨_, rfl, by omega⟩, d2⟩) d (by simp; omega)
  obtain ⟨ms, rfl, hl, hm⟩ := drawn_ints pr
  exact ⟨ms, S2, p_call (a_cons q a_nil) (tup_l _ _), by simpa using hl, hm, d2⟩
theorem comb_bd {c : Int} (hc : c.natAbs ≤ 1000) {x y : List Int} (hx : ∀ a ∈ x, a.natAbs ≤ 1000003) (hy : ∀ a ∈ y, a.natAbs ≤ 1000003) : ∀ a ∈ comb c x y, a.natAbs ≤ 2 ^ 40 := fun a ha => by
  obtain ⟨u, hu, v, hv, rfl⟩ := mem_zipWith ha
  have a1 := mul_bd hc (hx u hu)
  have a2 := hy v hv
  omega
theorem firsts_ok {f : Fm} (o : f.Ok) (hu : UbOk f) {S : Sto} (d : Dk [] S) {n m : Nat} (hn : n = f.s * m) (n1 : 1 ≤ n) (h48 : n ≤ 48) : ∃ S2, f__law_are_firsts_right [.loc 1, .d (.str f.nm), iI n] S = .ok tr S2 ∧ Dk [] S2 := by
  have h1 := h_pos o
  have h4 := o.h48
  have hg := o.g1
  have hl : n / f.h ≤ 48 := Nat.le_trans (Nat.div_le_self _ _) h48
  have e1 : sAsg (eTup (aC (e2 opIx (eCall f__law_facts (aC (eV 1) aN)) (eC (.d (.int 2)))) (aC (e2 opAdd (e2 opFdiv (eV 2) (e2 opIx (eCall f__law_facts (aC (eV 1) aN)) (eC (.d (.int 1))))) (eC (.d (.int 1)))) aN))) (tgTup [(tgN 6), (tgN 7)]) (E15 f n none none none none none none none none none) S = .nx (E15 f n none none none (some (iI f.g)) (some (iI ((n / f.h + 1 : Nat) : Int))) none none none none) S :=
    asg_v (tup2 (fact_ix o (k := 2) rfl rfl) (v_op (v_op (v_at rfl) (fact_ix o (k := 1) rfl rfl) (divN (by omega) (by omega) _)) eI ((addI _ _ _).trans (by rw [Int.natCast_add]; rfl)))) rfl
  obtain ⟨r, S1, q1, b1, d1⟩ := draw_call (i := 0) (e := E15 f n none none none (some (iI f.g)) (some (iI ((n / f.h + 1 : Nat) : Int))) none none none none) (f := eC (iI 2001)) d rfl rfl (by decide) (by decide)
  obtain ⟨zx, S2, q2, hz, d2⟩ := pick_call (i := 0) (e := E15 f n none none none (some (iI f.g)) (some (iI ((n / f.h + 1 : Nat) : Int))) none none none none) (f := eLst (aC (eC (.d (.int 3))) (aC (eC (.d (.int 100))) (aC (eC (.d (.int 1000003))) aN)))) (S := S1) (S1 := S1) (m := .d (.list [.int 3, .int 100, .int 1000003])) (P := fun x => ∃ z : Int, x = .int z ∧ 3 ≤ z ∧ z ≤ 1000003) rfl rfl (pick_l d1 (by decide) (by decide) fun x hx => by
    simp only [List.mem_cons, List.not_mem_nil, or_false] at hx
    rcases hx with rfl | rfl | rfl
    · exact ⟨3, rfl, by decide⟩
    · exact ⟨100, rfl, by decide⟩
    · exact ⟨1000003, rfl, by decide⟩)
  obtain ⟨sz, rfl, h3, h6⟩ := hz
  have hc : (r - 1000).natAbs ≤ 1000 := by omega
  have e2' : sAsg (eTup (aC (e2 opSub (eCall f__law_draw (aC (eV 0) (aC (eC (.d (.int 2001))) aN))) (eC (.d (.int 1000)))) (aC (eCall f__law_pick (aC (eV 0) (aC (eLst (aC (eC (.d (.int 3))) (aC (eC (.d (.int 100))) (aC (eC (.d (.int 1000003))) aN)))) aN))) aN))) (tgTup [(tgN 8), (tgN 9)]) (E15 f n none none none (some (iI f.g)) (some (iI ((n / f.h + 1 : Nat) : Int))) none none none none) S = .nx (E15 f n none none none (some (iI f.g)) (some (iI ((n / f.h + 1 : Nat) : Int))) (some (iI (r - 1000))) (some (iI sz)) none none) S2 :=
    asg_v (tup2 (v_op q1 eI (subI _ _ _)) q2) rfl
  obtain ⟨one, S3, q3, l3, w3, d3⟩ := cells_ok (f := f) (n := n) (k := n / f.h + 1) h3 h6 (by omega) (fe := el__law_are_firsts_right_5) rfl (r3 := none) (r4 := none) (r5 := none) (r6 := some (iI f.g)) (r8 := some (iI (r - 1000))) (r10 := none) (r11 := none) d2
  obtain ⟨oth, S4, q4, l4, w4, d4⟩ := cells_ok (f := f) (n := n) (k := n / f.h + 1) h3 h6 (by omega) (fe := el__law_are_firsts_right_4) rfl (r3 := some (tI one)) (r4 := none) (r5 := none) (r6 := some (iI f.g)) (r8 := some (iI (r - 1000))) (r10 := none) (r11 := none) d3
  have lc : (comb (r - 1000) one oth).length = n / f.h + 1 := by rw [comb_len (by omega)]; exact l3
  have ec : nums f n (comb (r - 1000) one oth) = comb (r - 1000) (nums f n one) (nums f n oth) := nums_comb n l3 l4
  have e5 : sSet 5 (ePrim pTuple (aC (eLc [13, 14] (iZipA2 (aC (eV 3) (aC (eV 4) aN))) (tgTup [(tgN 13), (tgN 14)]) tYesM el__law_are_firsts_right_3) aN)) (E15 f n (some (tI one)) (some (tI oth)) none (some (iI f.g)) (some (iI ((n / f.h + 1 : Nat) : Int))) (some (iI (r - 1000))) (some (iI sz)) none none) S4 = .nx (E15 f n (some (tI one)) (some (tI oth)) (some (tI (comb (r - 1000) one oth))) (some (iI f.g)) (some (iI ((n / f.h + 1 : Nat) : Int))) (some (iI (r - 1000))) (some (iI sz)) none none) S4 :=
    set_v (p_call (a_cons (lc_zip (xs := one) (ys := oth) (fun a b => (r - 1000) * a + b) (zip_v (a_cons (v_at rfl) (a_cons (v_at rfl) a_nil)) rfl rfl) (fun p hp => v_op (v_op (v_at rfl) (v_at rfl) (mulWK _ _ (.inl (by omega)) _)) (v_at rfl) (addI _ _ _)) (by omega)) a_nil) (tup_l _ _))
  have e6 : sAsg (eTup (aC (eCall f_counts_from (aC (eV 1) (aC (eV 2) (aC (eV 3) aN)))) (aC (eCallK [2, 1, 0] f_counts_from (aC (eV 4) (aC (eV 2) (aC (eV 1) aN)))) aN))) (tgTup [(tgN 10), (tgN 11)]) (E15 f n (some (tI one)) (some (tI oth)) (some (tI (comb (r - 1000) one oth))) (some (iI f.g)) (some (iI ((n / f.h + 1 : Nat) : Int))) (some (iI (r - 1000))) (some (iI sz)) none none) S4 = .nx (E15 f n (some (tI one)) (some (tI oth)) (some (tI (comb (r - 1000) one oth))) (some (iI f.g)) (some (iI ((n / f.h + 1 : Nat) : Int))) (some (iI (r - 1000))) (some (iI sz)) (some (tI (nums f n one))) (some (tI (nums f n oth)))) S4 :=
    asg_v (tup2 (call_v (a_cons (v_at rfl) (a_cons (v_at rfl) (a_cons (v_at rfl) a_nil))) (counts_ok o hn n1 h48 l3 S4)) (callK_v (a_cons (v_at rfl) (a_cons (v_at rfl) (a_cons (v_at rfl) a_nil))) (counts_ok o hn n1 h48 l4 S4))) rfl
  have iv : ∀ (x : List Int) (i : Nat), x.length = n + 1 → ∀ e : Env1, e[i]? = some (some (tI x)) → e[2]? = some (some (iI n)) → Mr.tB (eCall f__law_are_integers (aC (eV i) (aC (e2 opAdd (eV 2) (eC (.d (.int 1)))) aN))) e S4 = .ok true S4 := fun x i hx e h0 h2 => tB_v (call_v (a_cons (v_at h0) (a_cons (v_op (v_at h2) eI (addI _ _ _)) a_nil)) (ints_ok (by rw [hx]; omega) S4))
  have e7 : sIf (tOrM (tNotM (Mr.tB (eCall f__law_are_integers (aC (eV 10) (aC (e2 opAdd (eV 2) (eC (.d (.int 1)))) aN))))) (tNotM (Mr.tB (eCall f__law_are_integers (aC (eV 11) (aC (e2 opAdd (eV 2) (eC (.d (.int 1)))) aN)))))) (sRet (eC (.d (.bool false)))) sNx (E15 f n (some (tI one)) (some (tI oth)) (some (tI (comb (r - 1000) one oth))) (some (iI f.g)) (some (iI ((n / f.h + 1 : Nat) : Int))) (some (iI (r - 1000))) (some (iI sz)) (some (tI (nums f n one))) (some (tI (nums f n oth)))) S4 = .nx (E15 f n (some (tI one)) (some (tI oth)) (some (tI (comb (r - 1000) one oth))) (some (iI f.g)) (some (iI ((n / f.h + 1 : Nat) : Int))) (some (iI (r - 1000))) (some (iI sz)) (some (tI (nums f n one))) (some (tI (nums f n oth)))) S4 :=
    if_fn (or_ff (not_t (iv (nums f n one) 10 (nums_len _ _ _) _ rfl rfl)) (not_t (iv (nums f n oth) 11 (nums_len _ _ _) _ rfl rfl)))
  have c8 : ePrim pTuple (aC (eLc [13, 14] (iZipA2 (aC (eV 10) (aC (eV 11) aN))) (tgTup [(tgN 13), (tgN 14)]) tYesM el__law_are_firsts_right_2) aN) (E15 f n (some (tI one)) (some (tI oth)) (some (tI (comb (r - 1000) one oth))) (some (iI f.g)) (some (iI ((n / f.h + 1 : Nat) : Int))) (some (iI (r - 1000))) (some (iI sz)) (some (tI (nums f n one))) (some (tI (nums f n oth)))) S4 = .ok (tI (nums f n (comb (r - 1000) one oth))) S4 := by
    rw [ec]
    exact p_call (a_cons (lc_zip (xs := nums f n one) (ys := nums f n oth) (fun a b => (r - 1000) * a + b) (zip_v (a_cons (v_at rfl) (a_cons (v_at rfl) a_nil)) rfl rfl) (fun p hp => v_op (v_op (v_at rfl) (v_at rfl) (mulWK _ _ (.inl (by omega)) _)) (v_at rfl) (addI _ _ _)) (by rw [nums_len]; omega)) a_nil) (tup_l _ _)
  have t8 := same_t (f := eCall f_counts_from (aC (eV 1) (aC (eV 2) (aC (eV 5) aN)))) (e := E15 f n (some (tI one)) (some (tI oth)) (some (tI (comb (r - 1000) one oth))) (some (iI f.g)) (some (iI ((n / f.h + 1 : Nat) : Int))) (some (iI (r - 1000))) (some (iI sz)) (some (tI (nums f n one))) (some (tI (nums f n oth)))) (call_v (a_cons (v_at rfl) (a_cons (v_at rfl) (a_cons (v_at rfl) a_nil))) (counts_ok o hn n1 h48 lc S4)) c8 (nums_rep o hu hn h48 (comb_bd hc w3 w4))
  have c9 : ePrim pTuple (aC (eLc [12] (iRng (aC (eV 7) aN)) (tgN 12) tYesM el__law_are_firsts_right_1) aN) (E15 f n (some (tI one)) (some (tI oth)) (some (tI (comb (r - 1000) one oth))) (some (iI f.g)) (some (iI ((n / f.h + 1 : Nat) : Int))) (some (iI (r - 1000))) (some (iI sz)) (some (tI (nums f n one))) (some (tI (nums f n oth)))) S4 = .ok (tI one) S4 := by
    have q := lc_map (vs := [12]) (fi := iRng (aC (eV 7) aN)) (ft := tgN 12) (fe := el__law_are_firsts_right_1) (e := E15 f n (some (tI one)) (some (tI oth)) (some (tI (comb (r - 1000) one oth))) (some (iI f.g)) (some (iI ((n / f.h + 1 : Nat) : Int))) (some (iI (r - 1000))) (some (iI sz)) (some (tI (nums f n one))) (some (tI (nums f n oth)))) (S := S4) (items := List.range (n / f.h + 1)) (fun j : Nat => iI j) (fun j => .int (one.getD j 0)) (rng_n (a_cons (v_at rfl) a_nil) (by omega)) (fun j hj => by
      have := List.mem_range.mp hj
      obtain ⟨a1, a2⟩ := nums_at o hn h48 one (b := j) (by omega)
      have g := get_at (x := nums f n one) (k := f.g * j) (by rw [nums_len]; exact a1)
      rw [a2] at g
      exact ⟨_, rfl, v_op (v_at rfl) (v_op (v_at rfl) (v_at rfl) (mulWK _ _ (.inl (by omega)) _)) (ixI _ (Int.natCast_mul _ _).symm g)⟩) (by simp; omega)
    refine p_call (a_cons q a_nil) ((tup_l _ _).trans ?_)
    have e : (List.range (n / f.h + 1)).map (fun j => PyData.int (one.getD j 0)) = one.map .int := by
      conv => rhs; rw [← range_getD one]
      rw [List.map_map, l3]
      rfl
    rw [e]
  have r9 : reprable (.tuple (one.map .int)) = true := rep_tI (fun x hx => Nat.lt_of_le_of_lt (w3 x hx) (by decide)) (by omega)
  refine ⟨S4, ?_, d4⟩
  have start : f__law_are_firsts_right [.loc 1, .d (.str f.nm), iI n] S = ansOf (m__law_are_firsts_right (E15 f n none none none none none none none none none) S) := rfl
  rw [start]
  exact ans_rt ((seq_nx e1).trans ((seq_nx e2').trans ((seq_nx (set_v q3)).trans ((seq_nx (set_v q4)).trans ((seq_nx e5).trans ((seq_nx e6).trans ((seq_nx e7).trans ((seq_nx (if_fn (not_t (tB_v t8)))).trans (ret_v (same_t c9 (v_at rfl) r9))))))))))
end K59

end
section
set_option maxRecDepth 100000
set_option maxHeartbeats 1000000
namespace K59
open PySem PySem.Spec L2 Mr MrT
open PyProof.Rows hiding St
structure InF (f : Fm) : Prop where
  o : f.Ok
  v : Vals f
  u : UbOk f
  p : Pk f
  s24 : f.s ≤ 24
  st : f.pk 2 8 4 2 = f.s
theorem in_two : InF fTwo := ⟨two_ok, two_v, two_u, two_p, by decide, rfl⟩
theorem in_fold : InF fFold := ⟨fold_ok, fold_v, fold_u, fold_p, by decide, rfl⟩
theorem in_three : InF fThree := ⟨three_ok, three_v, three_u, three_p, by decide, rfl⟩
theorem in_four : InF fFour := ⟨four_ok, four_v, four_u, four_p, by decide, rfl⟩
theorem par3 {i j l : Nat} {f k h : Env1 → Sto → R M} {e : Env1} {S S1 S2 S3 : Sto} {a b c : M} (h1 : f e S = .ok a S1) (h2 : k e S1 = .ok b S2) (h3 : h e S2 = .ok c S3) : sPar3 i j l (aC f (aC k (aC h aN))) e S = .nx (((e.set i (some a)).set j (some b)).set l (some c)) S3 := by
  unfold sPar3
  rw [a_cons h1 (a_cons h2 (a_cons h3 a_nil))]
  rfl
theorem draw_call2 {F S1 : Sto} {S : Sto} {e : Env1} (d : Dk F S1) {i : Nat} {f : Env1 → Sto → R M} {q : Int} (h0 : e[i]? = some (some (.loc 1))) (hf : f e S = .ok (.d (.int q)) S1) (h1 : 1 ≤ q) (h2 : q < 10000000) :
    ∃ (r : Int) (S2 : Sto), eCall f__law_draw (aC (eV i) (aC f aN)) e S = .ok (.d (.int r)) S2 ∧ (0 ≤ r ∧ r < q) ∧ Dk F S2 := by
  obtain ⟨r, S2, a, b, c⟩ := draw_ok d h1 h2
  exact ⟨r, S2, (c_call (a_cons (v_at h0) (a_cons hf a_nil))).trans a, b, c⟩
theorem ix_row {f : Fm} (o : f.Ok) {n m : Nat} (hn : n = f.s * m) (h48 : n ≤ 48) {b : Nat} (hb : b ≤ n / f.h) {i : Int} (hi : i = b) (S : Sto) : opIx (.d (tT (rws f n))) (iI i) S = some (tI (row n f.F f.G b)) := by
  subst hi
  refine ix_t ?_
  have q := (rws_at o hn h48 hb).1
  have hl : b < ((rws f n).map fun r => PyData.tuple (r.map .int)).length := by rw [List.length_map, rws_len]; omega
  have g : ((rws f n).map fun r => PyData.tuple (r.map .int))[b]? = some (PyData.tuple ((row n f.F f.G b).map .int)) := by
    rw [List.getElem?_map, q]
    rfl
  have hx : ∀ L b : Nat, b < L → ixN L (b : Int) = some b := fun L b h => by simp [ixN, h]
  unfold atI
  rw [hx _ _ hl]
  exact g
abbrev E14 (sc : M) (f : Fm) (r3 r4 r5 r6 r7 r8 r9 r10 r11 r12 r13 : Option M) : Env1 := [some sc, some (.loc 1), some (.d (.str f.nm)), r3, r4, r5, r6, r7, r8, r9, r10, r11, r12, r13]
theorem law_true (ns : List Int) (hl : ns.length ≤ 63) : Mr.LawTrue f_law ns := by
  obtain ⟨S0, q0, d0⟩ := deck_ok ns hl
  obtain ⟨fx, S1, q1, hfx, d1⟩ := pick_call (i := 1) (e := [some (.ro (ns.map .int)), some (.loc 1), none, none, none, none, none, none, none, none, none, none, none, none]) (f := eLst (aC (eC (.d (.str "two"))) (aC (eC (.d (.str "three"))) (aC (eC (.d (.str "four"))) (aC (eC (.d (.str "fourfold"))) aN))))) (S := S0) (S1 := S0) (m := .d (.list [.str "two", .str "three", .str "four", .str "fourfold"])) (P := fun x => ∃ f : Fm, x = .str f.nm ∧ InF f) rfl rfl (pick_l d0 (by decide) (by decide) fun x hx => by
    simp only [List.mem_cons, List.not_mem_nil, or_false] at hx
    rcases hx with rfl | rfl | rfl | rfl
    · exact ⟨fTwo, rfl, in_two⟩
    · exact ⟨fThree, rfl, in_three⟩
    · exact ⟨fFour, rfl, in_four⟩
    · exact ⟨fFold, rfl, in_fold⟩)
  obtain ⟨f, rfl, I⟩ := hfx
  have o := I.o
  have hs := o.s1
  have hs24 := I.s24
  have h1 := h_pos o
  have hA : 2 ≤ 48 / f.s := by
    rw [Nat.le_div_iff_mul_le (by omega)]
    omega
  have hA2 : 48 / f.s ≤ 48 := Nat.div_le_self _ _
  have hA3 : f.s * (48 / f.s) ≤ 48 := Nat.mul_div_le _ _
  obtain ⟨r5, S5, q5, b5, d5⟩ := draw_call (i := 1) (e := E14 (.ro (ns.map .int)) f (some (iI f.s)) (some (iI ((48 / f.s : Nat) : Int))) none none none none none none none none none) (f := e2 opSub (eV 4) (eC (.d (.int 1)))) (q := ((48 / f.s : Nat) : Int) - 1) d1 rfl (v_op (v_at rfl) eI (subI _ _ _)) (by omega) (by omega)
  obtain ⟨p, hp⟩ : ∃ p : Nat, (p : Int) = 2 + r5 := ⟨(2 + r5).toNat, by omega⟩
  obtain ⟨r6, S6, q6, b6, d6⟩ := draw_call (i := 1) (e := E14 (.ro (ns.map .int)) f (some (iI f.s)) (some (iI ((48 / f.s : Nat) : Int))) (some (iI p)) none none none none none none none none) (f := e2 opSub (eV 5) (eC (.d (.int 1)))) (q := (p : Int) - 1) d5 rfl (v_op (v_at rfl) eI (subI _ _ _)) (by omega) (by omega)
  obtain ⟨a, ha⟩ : ∃ a : Nat, (a : Int) = 1 + r6 := ⟨(1 + r6).toNat, by omega⟩
  obtain ⟨c, hc⟩ : ∃ c : Nat, (c : Int) = (p : Int) - a := ⟨((p : Int) - a).toNat, by omega⟩
  have hac : a + c ≤ 48 / f.s := by omega
  have hn1 : 1 ≤ f.s * a := Nat.mul_pos hs.1 (by omega)
  have hm1 : 1 ≤ f.s * c := Nat.mul_pos hs.1 (by omega)
  have hnm : f.s * a + f.s * c = f.s * (a + c) := (Nat.mul_add _ _ _).symm
  have h48 : f.s * a + f.s * c ≤ 48 := by
    rw [hnm]
    exact Nat.le_trans (Nat.mul_le_mul_left _ hac) hA3
  generalize hN : f.s * a = n at *
  generalize hM : f.s * c = m at *
  have en : n = f.s * a := hN.symm
  have em : m = f.s * c := hM.symm
  obtain ⟨S7, q7, d7⟩ := firsts_ok o I.u d6 en hn1 (by omega)
  have ln : n / f.h ≤ 48 := Nat.le_trans (Nat.div_le_self _ _) (by omega)
  have lm : m / f.h ≤ 48 := Nat.le_trans (Nat.div_le_self _ _) (by omega)
  have nq : ∀ k : Nat, k ≤ 48 → (1 : Int) ≤ ((k + 1 : Nat) : Int) ∧ ((k + 1 : Nat) : Int) < 10000000 := fun k h => by omega
  have tl : ∀ k : Nat, ((rws f k).map fun r => PyData.tuple (r.map .int)).length = k / f.h + 1 := fun k => by rw [List.length_map, rws_len]
  obtain ⟨r12, S8, q8, b8, d8⟩ := draw_call (i := 1) (e := E14 (.ro (ns.map .int)) f (some (iI f.s)) (some (iI ((48 / f.s : Nat) : Int))) (some (iI p)) (some (iI a)) (some (iI n)) (some (iI m)) (some (.d (tT (rws f n)))) (some (.d (tT (rws f m)))) (some (.d (tT (rws f (n + m))))) none none) (f := ePrim pLen (aC (eV 9) aN)) (q := ((n / f.h + 1 : Nat) : Int)) d7 rfl (p_call (a_cons (v_at rfl) a_nil) ((len_t _ _).trans (by rw [tl]))) (nq _ ln).1 (nq _ ln).2
  obtain ⟨r13, S9, q9, b9, d9⟩ := draw_call (i := 1) (e := E14 (.ro (ns.map .int)) f (some (iI f.s)) (some (iI ((48 / f.s : Nat) : Int))) (some (iI p)) (some (iI a)) (some (iI n)) (some (iI m)) (some (.d (tT (rws f n)))) (some (.d (tT (rws f m)))) (some (.d (tT (rws f (n + m))))) none none) (f := ePrim pLen (aC (eV 10) aN)) (q := ((m / f.h + 1 : Nat) : Int)) d8 rfl (p_call (a_cons (v_at rfl) a_nil) ((len_t _ _).trans (by rw [tl]))) (nq _ lm).1 (nq _ lm).2
  obtain ⟨x, hx⟩ : ∃ x : Nat, (x : Int) = r12 := ⟨r12.toNat, by omega⟩
  obtain ⟨y, hy⟩ : ∃ y : Nat, (y : Int) = r13 := ⟨r13.toNat, by omega⟩
  have hxn : x ≤ n / f.h := by omega
  have hym : y ≤ m / f.h := by omega
  have kx : x * f.h ≤ n := Nat.le_trans (Nat.mul_le_mul_right _ hxn) (Nat.div_mul_le_self _ _)
  have ky : y * f.h ≤ m := Nat.le_trans (Nat.mul_le_mul_right _ hym) (Nat.div_mul_le_self _ _)
  have kxy : (x + y) * f.h ≤ n + m := by rw [Nat.add_mul]; omega
  have hxy : x + y ≤ (n + m) / f.h := by
    rw [Nat.le_div_iff_mul_le (by omega)]
    exact kxy
  have enm : n + m = f.s * (a + c) := hnm
  have rx := row_ok o en (by omega) kx
  have ry := row_ok o em (by omega) ky
  have rxy := row_ok o enm h48 kxy
  have eP : mulF (row n f.F f.G x) (row m f.F f.G y) = row (n + m) f.F f.G (x + y) := row_mul o en em kx ky rx ry rxy
  have rep : reprable (.tuple ((row (n + m) f.F f.G (x + y)).map .int)) = true := rep_tI (fun z hz => Nat.lt_of_le_of_lt (rxy.bd z hz) (by decide)) (by rw [rxy.len]; omega)
  refine ⟨S9, ?_⟩
  have start : f_law [.ro (ns.map .int)] [] = ansOf (m_law [some (.ro (ns.map .int)), none, none, none, none, none, none, none, none, none, none, none, none, none] []) := rfl
  rw [start]
  unfold m_law
  rw [seq_nx (set_v (call_v (a_cons (v_at rfl) a_nil) q0))]
  show ansOf (sSeq (sSet 2 _) _ [some (.ro (ns.map .int)), some (.loc 1), none, none, none, none, none, none, none, none, none, none, none, none] S0) = _
  rw [seq_nx (set_v q1)]
  show ansOf (sSeq (sSet 3 _) _ (E14 (.ro (ns.map .int)) f none none none none none none none none none none none) S1) = _
  have e3 : e2 opIx (eDic (((eC (.d (.str "two"))), (eC (.d (.int 2)))) :: (((eC (.d (.str "fourfold"))), (eC (.d (.int 8)))) :: (((eC (.d (.str "three"))), (eC (.d (.int 4)))) :: (((eC (.d (.str "four"))), (eC (.d (.int 2)))) :: []))))) (eV 2) (E14 (.ro (ns.map .int)) f none none none none none none none none none none none) S1 = .ok (iI f.s) S1 :=
    v_op (a := .d (.dict [(.str "two", .int 2), (.str "fourfold", .int 8), (.str "three", .int 4), (.str "four", .int 2)])) (by kernel_rfl) (v_at rfl) ((o.du 2 8 4 2 S1).trans (by rw [I.st]))
  rw [seq_nx (set_v e3)]
  show ansOf (sSeq (sSet 4 _) _ (E14 (.ro (ns.map .int)) f (some (iI f.s)) none none none none none none none none none none) S1) = _
  have e4 : e2 opFdiv (eC (.d (.int 48))) (eV 3) (E14 (.ro (ns.map .int)) f (some (iI f.s)) none none none none none none none none none none) S1 = .ok (iI ((48 / f.s : Nat) : Int)) S1 := v_op eI (v_at rfl) (divN (n := 48) (k := f.s) (by omega) (by omega) S1)
  rw [seq_nx (set_v e4)]
  show ansOf (sSeq (sSet 5 _) _ (E14 (.ro (ns.map .int)) f (some (iI f.s)) (some (iI ((48 / f.s : Nat) : Int))) none none none none none none none none none) S1) = _
  rw [seq_nx (set_v (v_op eI q5 ((addI _ _ _).trans (by rw [← hp]))))]
  show ansOf (sSeq (sSet 6 _) _ (E14 (.ro (ns.map .int)) f (some (iI f.s)) (some (iI ((48 / f.s : Nat) : Int))) (some (iI p)) none none none none none none none none) S5) = _
  rw [seq_nx (set_v (v_op eI q6 ((addI _ _ _).trans (by rw [← ha]))))]
  show ansOf (sSeq (sPar 7 8 _) _ (E14 (.ro (ns.map .int)) f (some (iI f.s)) (some (iI ((48 / f.s : Nat) : Int))) (some (iI p)) (some (iI a)) none none none none none none none) S6) = _
  have cn : ((f.s : Int)) * (a : Int) = (n : Int) := by rw [en, Int.natCast_mul]
  have cm : ((f.s : Int)) * (c : Int) = (m : Int) := by rw [em, Int.natCast_mul]
  rw [seq_nx (par2 (v_op (v_at rfl) (v_at rfl) ((mulWK _ _ (.inl (by omega)) _).trans (by rw [cn]))) (v_op (v_at rfl) (v_op (v_at rfl) (v_at rfl) ((subI _ _ _).trans (by rw [← hc]))) ((mulWK _ _ (.inl (by omega)) _).trans (by rw [cm]))))]
  show ansOf (sSeq (sIf _ _ _) _ (E14 (.ro (ns.map .int)) f (some (iI f.s)) (some (iI ((48 / f.s : Nat) : Int))) (some (iI p)) (some (iI a)) (some (iI n)) (some (iI m)) none none none none none) S6) = _
  have nmv : ∀ (S : Sto) (e : Env1), e[7]? = some (some (iI n)) → e[8]? = some (some (iI m)) → e2 opAdd (eV 7) (eV 8) e S = .ok (iI ((n + m : Nat) : Int)) S := fun S e h7 h8 => v_op (v_at h7) (v_at h8) ((addI _ _ _).trans (by rw [Int.natCast_add]))
  have t8 : tOrM (tNotM (Mr.tB (eCall f__law_are_bounds_right (aC (eV 2) (aC (eV 7) aN))))) (tNotM (Mr.tB (eCall f__law_are_bounds_right (aC (eV 2) (aC (e2 opAdd (eV 7) (eV 8)) aN))))) (E14 (.ro (ns.map .int)) f (some (iI f.s)) (some (iI ((48 / f.s : Nat) : Int))) (some (iI p)) (some (iI a)) (some (iI n)) (some (iI m)) none none none none none) S6 = .ok false S6 :=
    or_ff (not_t (c := true) (tB_v (call_v (a_cons (v_at rfl) (a_cons (v_at rfl) a_nil)) (bounds_ok o I.u I.p en hn1 (by omega) S6)))) (not_t (c := true) (tB_v (call_v (a_cons (v_at rfl) (a_cons (nmv _ _ rfl rfl) a_nil)) (bounds_ok o I.u I.p enm (by omega) h48 S6))))
  rw [seq_nx (if_fn t8)]
  have t9 : tNotM (Mr.tB (eCall f__law_are_firsts_right (aC (eV 1) (aC (eV 2) (aC (eV 7) aN))))) (E14 (.ro (ns.map .int)) f (some (iI f.s)) (some (iI ((48 / f.s : Nat) : Int))) (some (iI p)) (some (iI a)) (some (iI n)) (some (iI m)) none none none none none) S6 = .ok false S7 :=
    not_t (c := true) (tB_v (call_v (a_cons (v_at rfl) (a_cons (v_at rfl) (a_cons (v_at rfl) a_nil))) q7))
  rw [seq_nx (if_fn t9)]
  have p3 := par3 (i := 9) (j := 10) (l := 11) (f := eCall f_told_products (aC (eV 2) (aC (eV 7) aN))) (k := eCallK [0, 1] f_told_products (aC (eV 2) (aC (eV 8) aN))) (h := eCall f_told_products (aC (eV 2) (aC (e2 opAdd (eV 7) (eV 8)) aN))) (e := E14 (.ro (ns.map .int)) f (some (iI f.s)) (some (iI ((48 / f.s : Nat) : Int))) (some (iI p)) (some (iI a)) (some (iI n)) (some (iI m)) none none none none none) (call_v (a_cons (v_at rfl) (a_cons (v_at rfl) a_nil)) (told_ok o en hn1 (by omega) S7)) (callK_v (a_cons (v_at rfl) (a_cons (v_at rfl) a_nil)) (told_ok o em hm1 (by omega) S7)) (call_v (a_cons (v_at rfl) (a_cons (nmv _ _ rfl rfl) a_nil)) (told_ok o enm (by omega) h48 S7))
  rw [seq_nx p3]
  show ansOf (sSeq (sIf _ _ _) _ (E14 (.ro (ns.map .int)) f (some (iI f.s)) (some (iI ((48 / f.s : Nat) : Int))) (some (iI p)) (some (iI a)) (some (iI n)) (some (iI m)) (some (.d (tT (rws f n)))) (some (.d (tT (rws f m)))) (some (.d (tT (rws f (n + m))))) none none) S7) = _
  have t10 : tOrM (tNotM (Mr.tB (eCall f__law_are_products (aC (eV 2) (aC (eV 7) (aC (eV 9) aN)))))) (tNotM (Mr.tB (eCall f__law_are_products (aC (eV 2) (aC (e2 opAdd (eV 7) (eV 8)) (aC (eV 11) aN)))))) (E14 (.ro (ns.map .int)) f (some (iI f.s)) (some (iI ((48 / f.s : Nat) : Int))) (some (iI p)) (some (iI a)) (some (iI n)) (some (iI m)) (some (.d (tT (rws f n)))) (some (.d (tT (rws f m)))) (some (.d (tT (rws f (n + m))))) none none) S7 = .ok false S7 :=
    or_ff (not_t (c := true) (tB_v (call_v (a_cons (v_at rfl) (a_cons (v_at rfl) (a_cons (v_at rfl) a_nil))) (prod_ok o I.v en (by omega) S7)))) (not_t (c := true) (tB_v (call_v (a_cons (v_at rfl) (a_cons (nmv _ _ rfl rfl) (a_cons (v_at rfl) a_nil))) (prod_ok o I.v enm h48 S7))))
  rw [seq_nx (if_fn t10), seq_nx (par2 q8 q9)]
  show ansOf (sRet _ (E14 (.ro (ns.map .int)) f (some (iI f.s)) (some (iI ((48 / f.s : Nat) : Int))) (some (iI p)) (some (iI a)) (some (iI n)) (some (iI m)) (some (.d (tT (rws f n)))) (some (.d (tT (rws f m)))) (some (.d (tT (rws f (n + m))))) (some (iI r12)) (some (iI r13))) S9) = _
  have k1 : e2 opIx (eV 11) (e2 opAdd (eV 12) (eV 13)) (E14 (.ro (ns.map .int)) f (some (iI f.s)) (some (iI ((48 / f.s : Nat) : Int))) (some (iI p)) (some (iI a)) (some (iI n)) (some (iI m)) (some (.d (tT (rws f n)))) (some (.d (tT (rws f m)))) (some (.d (tT (rws f (n + m))))) (some (iI r12)) (some (iI r13))) S9 = .ok (tI (row (n + m) f.F f.G (x + y))) S9 :=
    v_op (v_at rfl) (v_op (v_at rfl) (v_at rfl) (addI _ _ _)) (ix_row o enm h48 hxy (by omega) S9)
  have k2 : eCall f__law_product (aC (e2 opIx (eV 9) (eV 12)) (aC (e2 opIx (eV 10) (eV 13)) aN)) (E14 (.ro (ns.map .int)) f (some (iI f.s)) (some (iI ((48 / f.s : Nat) : Int))) (some (iI p)) (some (iI a)) (some (iI n)) (some (iI m)) (some (.d (tT (rws f n)))) (some (.d (tT (rws f m)))) (some (.d (tT (rws f (n + m))))) (some (iI r12)) (some (iI r13))) S9 = .ok (tI (row (n + m) f.F f.G (x + y))) S9 :=
    call_v (a_cons (v_op (v_at rfl) (v_at rfl) (ix_row o en (by omega) hxn hx.symm S9)) (a_cons (v_op (v_at rfl) (v_at rfl) (ix_row o em (by omega) hym hy.symm S9)) a_nil)) ((lprod_ok (by rw [rx.len]; omega) (by rw [rx.len]; omega) (by rw [ry.len]; omega) (fun z hz => b64 (ry.bd z hz)) S9).trans (by rw [eP]))
  exact ans_rt (ret_v (same_t k1 k2 rep))
end K59

end
set_option maxRecDepth 100000 in
set_option maxHeartbeats 0 in
theorem PySem.Challenge.cw_ownpartners_k59_told_products_by_their_v_holds : PySem.Challenge.rw_ownpartners_k59_told_products_by_their_v.Holds := by
  exact k59_of fun ns hl _ => K59.law_true ns hl
