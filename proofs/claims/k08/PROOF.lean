import PyProof.Rows.All
import Wide.All
import OpenK.AllK
import Wide.FinOn
import PySem.Challenge.RW_ownpartners_k08_marks_of_all_kinds
import HandS.ForExc
import HandS.IsInst
import HandS.TryMany
import HandS.ExcField
import HandS.Comp
import HandS.Iter
import HandS.Style
import HandS.Lambda
import HandS.Dict
import HandS.Text
import HandS.More
import HandS.TupAny
import HandS.TupMul
import HandS.Wide
import PyProof.ReprRoads
import HandS.ExcIs
import HandS.EndTab
set_option Elab.async false
set_option linter.all false
section
set_option maxRecDepth 100000
namespace Mr
open PySem PySem.Spec L2
open PyProof.Rows hiding St
set_option autoImplicit false

/-! ### values of the mirror -/
inductive M where
  | d (x : PyData) | loc (n : Nat) | ro (xs : List PyData) | fn (a : Addr) | ty (n : String) | kdc (a : Addr) (ks : List (Str × PyData)) | exn (c : Nat) (x : Option (Str × PyData))
inductive O where
  | lst (xs : List M) | dct (kvs : List (Key × M))
abbrev Sto := List O
abbrev Env1 := List (Option M)
inductive R (α : Type) where
  | ok (a : α) (S : Sto) | rz (c : Nat) (x : Option (Str × PyData)) (S : Sto) | bad
inductive Out where
  | nx (e : Env1) (S : Sto) | rt (m : M) (S : Sto) | bk (e : Env1) (S : Sto) | ct (e : Env1) (S : Sto) | rz (c : Nat) (x : Option (Str × PyData)) (e : Env1) (S : Sto) | bad

/-- a key as data -/
def keyD : Key → PyData
  | .inl i => .int i
  | .inr x => .str x

mutual
/-- v is the data d; what is tracked of it stands outside of B -/
inductive Dr (K : PySem.W.Frag) (B : List Addr) (H : Hp) : V → PyData → Prop
  | non : Dr K B H .non .none
  | bl (b : Bool) : Dr K B H (.bl b) (.bool b)
  | int (i : Int) : Dr K B H (.int i) (.int i)
  | str (x : Str) : Dr K B H (.str x) (.str x)
  | lst {a : Addr} {xs : List V} {ds : List PyData} : H a = some (.lst xs) → a ∉ B → DrAll K B H xs ds → Dr K B H (.ref a) (.list ds)
  | tup {a : Addr} {xs : List V} {ds : List PyData} : H a = some (.tup xs) → a ∉ B → DrAll K B H xs ds → Dr K B H (.ref a) (.tuple ds)
  | tupK {a : Addr} {o : Obj} {its : Array Value} {n : Nat} {xs : List V} {ds : List PyData} : K.lookup a = some o → o.cls = .type "tuple" → o.data = .seq its n → its.size ≤ sizeLine → Vals xs its.toList → DrAll K B H xs ds → Dr K B H (.ref a) (.tuple ds)
  | dct {a : Addr} {ks : List Key} {vs : List V} {ds : List PyData} : H a = some (.dK (ks.zip vs)) → a ∉ B → ks.length = vs.length → DrAll K B H vs ds → Dr K B H (.ref a) (.dict ((ks.map keyD).zip ds))
inductive DrAll (K : PySem.W.Frag) (B : List Addr) (H : Hp) : List V → List PyData → Prop
  | nil : DrAll K B H [] []
  | cons {v : V} {vs : List V} {d : PyData} {ds : List PyData} : Dr K B H v d → DrAll K B H vs ds → DrAll K B H (v :: vs) (d :: ds)
end

/-- what stays -/
structure Ext (r : List Addr) (H : Hp) (r' : List Addr) (H' : Hp) : Prop where
  keep : ∀ a o, H a = some o → a ∉ r → (∀ ps, o ≠ .tbl ps) → H' a = some o
  stay : ∀ a o, H a = some o → (∀ ps, o ≠ .tbl ps) → ∃ o', H' a = some o' ∧ ∀ ps, o' ≠ .tbl ps
  pre : ∃ l, r' = r ++ l ∧ ∀ a ∈ l, ∀ o, H a = some o → ∃ ps, o = .tbl ps

theorem Ext.refl (r : List Addr) (H : Hp) : Ext r H r H := ⟨fun _ _ h _ _ => h, fun _ o h t => ⟨o, h, t⟩, [], by simp, by simp⟩
theorem Ext.trans {r r1 r2 : List Addr} {H H1 H2 : Hp} (h : Ext r H r1 H1) (h2 : Ext r1 H1 r2 H2) : Ext r H r2 H2 := by
  obtain ⟨l, rfl, hl⟩ := h.pre
  obtain ⟨l2, rfl, hl2⟩ := h2.pre
  refine ⟨fun a o e n t => ?_, fun a o e t => ?_, l ++ l2, by rw [List.append_assoc], fun a ha o e => ?_⟩
  · refine h2.keep a o (h.keep a o e n t) (fun z => ?_) t
    rcases List.mem_append.mp z with z | z
    · exact n z
    · obtain ⟨ps, z⟩ := hl a z o e
      exact t ps z
  · obtain ⟨o1, e1, t1⟩ := h.stay a o e t
    exact h2.stay a o1 e1 t1
  · rcases List.mem_append.mp ha with z | z
    · exact hl a z o e
    · by_cases t : ∀ ps, o ≠ .tbl ps
      · obtain ⟨o1, e1, t1⟩ := h.stay a o e t
        obtain ⟨ps, z2⟩ := hl2 a z o1 e1
        exact absurd z2 (t1 ps)
      · exact Classical.byContradiction fun w => t fun ps z => w ⟨ps, z⟩
/-- a new object, not owned -/
theorem Ext.new {r : List Addr} {H : Hp} {p : Addr} {o : HO} (hp : H p = none) : Ext r H r (upd H p o) := by
  refine ⟨fun a u e _ _ => ?_, fun a u e t => ?_, [], by simp, by simp⟩
  · rw [upd_ne (ne_of_none e hp)]; exact e
  · exact ⟨u, by rw [upd_ne (ne_of_none e hp)]; exact e, t⟩
/-- a new object, owned -/
theorem Ext.own {r : List Addr} {H : Hp} {p : Addr} {o : HO} (hp : H p = none) : Ext r H (r ++ [p]) (upd H p o) := by
  refine ⟨fun a u e _ _ => ?_, fun a u e t => ?_, [p], rfl, fun a ha u e => ?_⟩
  · rw [upd_ne (ne_of_none e hp)]; exact e
  · exact ⟨u, by rw [upd_ne (ne_of_none e hp)]; exact e, t⟩
  · rw [List.mem_singleton.mp ha, hp] at e; cases e
/-- an owned object is changed -/
theorem Ext.put {r : List Addr} {H : Hp} {p : Addr} {o : HO} (hp : p ∈ r) (ho : ∀ ps, o ≠ .tbl ps := by intro _ z; cases z) : Ext r H r (upd H p o) := by
  refine ⟨fun a u e n _ => ?_, fun a u e t => ?_, [], by simp, by simp⟩
  · rw [upd_ne (show a ≠ p from fun z => n (by rw [z]; exact hp))]; exact e
  · by_cases h : a = p
    · exact ⟨o, by rw [h, upd_same], ho⟩
    · exact ⟨u, by rw [upd_ne h]; exact e, t⟩

theorem Ext.tracked {r r' : List Addr} {H H' : Hp} (x : Ext r H r' H') {ph : List Addr} {a : Addr} {o : HO} (e : H a = some o) (n : a ∉ ph ++ r) (t : ∀ ps, o ≠ .tbl ps) : H' a = some o ∧ a ∉ ph ++ r' := by
  have n1 : a ∉ ph := fun z => n (List.mem_append_left _ z)
  have n2 : a ∉ r := fun z => n (List.mem_append_right _ z)
  refine ⟨x.keep a o e n2 t, fun z => ?_⟩
  obtain ⟨l, rfl, hl⟩ := x.pre
  rcases List.mem_append.mp z with z | z
  · exact n1 z
  · rcases List.mem_append.mp z with z | z
    · exact n2 z
    · obtain ⟨ps, w⟩ := hl a z o e
      exact t ps w

section
variable {K : PySem.W.Frag} {ph r r' : List Addr} {H H' : Hp}
mutual
theorem Dr.mono (x : Ext r H r' H') : ∀ {v : V} {d : PyData}, Dr K (ph ++ r) H v d → Dr K (ph ++ r') H' v d
  | _, _, .non => .non
  | _, _, .bl b => .bl b
  | _, _, .int i => .int i
  | _, _, .str s => .str s
  | _, _, .lst e n h => by
    obtain ⟨e', n'⟩ := x.tracked e n (fun _ z => by cases z)
    exact .lst e' n' (DrAll.mono x h)
  | _, _, .tup e n h => by
    obtain ⟨e', n'⟩ := x.tracked e n (fun _ z => by cases z)
    exact .tup e' n' (DrAll.mono x h)
  | _, _, .tupK a b c d e h => .tupK a b c d e (DrAll.mono x h)
  | _, _, .dct e n l h => by
    obtain ⟨e', n'⟩ := x.tracked e n (fun _ z => by cases z)
    exact .dct e' n' l (DrAll.mono x h)
theorem DrAll.mono (x : Ext r H r' H') : ∀ {vs : List V} {ds : List PyData}, DrAll K (ph ++ r) H vs ds → DrAll K (ph ++ r') H' vs ds
  | _, _, .nil => .nil
  | _, _, .cons h t => .cons (Dr.mono x h) (DrAll.mono x t)
end
mutual
/-- fewer addresses are shut -/
theorem Dr.less {B B' : List Addr} (h : ∀ a, a ∈ B' → a ∈ B) : ∀ {v : V} {d : PyData}, Dr K B H v d → Dr K B' H v d
  | _, _, .non => .non
  | _, _, .bl b => .bl b
  | _, _, .int i => .int i
  | _, _, .str s => .str s
  | _, _, .lst e n t => .lst e (fun z => n (h _ z)) (DrAll.less h t)
  | _, _, .tup e n t => .tup e (fun z => n (h _ z)) (DrAll.less h t)
  | _, _, .tupK a b c d e t => .tupK a b c d e (DrAll.less h t)
  | _, _, .dct e n l t => .dct e (fun z => n (h _ z)) l (DrAll.less h t)
theorem DrAll.less {B B' : List Addr} (h : ∀ a, a ∈ B' → a ∈ B) : ∀ {vs : List V} {ds : List PyData}, DrAll K B H vs ds → DrAll K B' H vs ds
  | _, _, .nil => .nil
  | _, _, .cons a t => .cons (Dr.less h a) (DrAll.less h t)
end
mutual
/-- more addresses are shut, that were free -/
theorem Dr.more {B B' : List Addr} (h : ∀ a, a ∈ B' → a ∈ B ∨ H a = none) : ∀ {v : V} {d : PyData}, Dr K B H v d → Dr K B' H v d
  | _, _, .non => .non
  | _, _, .bl b => .bl b
  | _, _, .int i => .int i
  | _, _, .str s => .str s
  | _, _, .lst e n t => .lst e (fun z => (h _ z).elim n fun q => by rw [e] at q; cases q) (DrAll.more h t)
  | _, _, .tup e n t => .tup e (fun z => (h _ z).elim n fun q => by rw [e] at q; cases q) (DrAll.more h t)
  | _, _, .tupK a b c d e t => .tupK a b c d e (DrAll.more h t)
  | _, _, .dct e n l t => .dct e (fun z => (h _ z).elim n fun q => by rw [e] at q; cases q) l (DrAll.more h t)
theorem DrAll.more {B B' : List Addr} (h : ∀ a, a ∈ B' → a ∈ B ∨ H a = none) : ∀ {vs : List V} {ds : List PyData}, DrAll K B H vs ds → DrAll K B' H vs ds
  | _, _, .nil => .nil
  | _, _, .cons a t => .cons (Dr.more h a) (DrAll.more h t)
end
mutual
/-- the heap is changed at a shut address -/
theorem Dr.shut {B : List Addr} {p : Addr} {o : HO} (hp : p ∈ B) : ∀ {v : V} {d : PyData}, Dr K B H v d → Dr K B (upd H p o) v d
  | _, _, .non => .non
  | _, _, .bl b => .bl b
  | _, _, .int i => .int i
  | _, _, .str s => .str s
  | _, _, .lst e n t => .lst (by rw [upd_ne (fun z => n (by rw [z]; exact hp))]; exact e) n (DrAll.shut hp t)
  | _, _, .tup e n t => .tup (by rw [upd_ne (fun z => n (by rw [z]; exact hp))]; exact e) n (DrAll.shut hp t)
  | _, _, .tupK a b c d e t => .tupK a b c d e (DrAll.shut hp t)
  | _, _, .dct e n l t => .dct (by rw [upd_ne (fun z => n (by rw [z]; exact hp))]; exact e) n l (DrAll.shut hp t)
theorem DrAll.shut {B : List Addr} {p : Addr} {o : HO} (hp : p ∈ B) : ∀ {vs : List V} {ds : List PyData}, DrAll K B H vs ds → DrAll K B (upd H p o) vs ds
  | _, _, .nil => .nil
  | _, _, .cons a t => .cons (Dr.shut hp a) (DrAll.shut hp t)
end
theorem DrAll.length {B : List Addr} : ∀ {vs : List V} {ds : List PyData}, DrAll K B H vs ds → vs.length = ds.length
  | _, _, .nil => rfl
  | _, _, .cons _ t => by rw [List.length_cons, List.length_cons, DrAll.length t]
theorem DrAll.get {B : List Addr} : ∀ {vs : List V} {ds : List PyData} {i : Nat} {x : PyData}, DrAll K B H vs ds → ds[i]? = some x → ∃ v, vs[i]? = some v ∧ Dr K B H v x
  | _, _, _, _, .nil, e => by simp at e
  | _, _, 0, _, .cons h _, e => by simp at e; subst e; exact ⟨_, rfl, h⟩
  | _, _, i + 1, x, .cons _ t, e => by
    obtain ⟨u, h1, h2⟩ := DrAll.get (i := i) (x := x) t (by simpa using e)
    exact ⟨u, by simpa using h1, h2⟩
theorem DrAll.append {B : List Addr} : ∀ {vs ws : List V} {ds es : List PyData}, DrAll K B H vs ds → DrAll K B H ws es → DrAll K B H (vs ++ ws) (ds ++ es)
  | _, _, _, _, .nil, h => h
  | _, _, _, _, .cons a t, h => .cons a (DrAll.append t h)
theorem DrAll.take {B : List Addr} : ∀ {vs : List V} {ds : List PyData} (n : Nat), DrAll K B H vs ds → DrAll K B H (vs.take n) (ds.take n)
  | _, _, 0, _ => .nil
  | _, _, _ + 1, .nil => .nil
  | _, _, n + 1, .cons a t => .cons a (DrAll.take n t)
theorem DrAll.drop {B : List Addr} : ∀ {vs : List V} {ds : List PyData} (n : Nat), DrAll K B H vs ds → DrAll K B H (vs.drop n) (ds.drop n)
  | _, _, 0, h => h
  | _, _, _ + 1, .nil => .nil
  | _, _, n + 1, .cons _ t => DrAll.drop n t
theorem DrAll.snoc {B : List Addr} {vs : List V} {ds : List PyData} {v : V} {d : PyData} (h : DrAll K B H vs ds) (a : Dr K B H v d) : DrAll K B H (vs ++ [v]) (ds ++ [d]) := h.append (.cons a .nil)
end

/-! ### values, the store, the names -/
/-- classes of errors by their numbers; code objects' tables -/
structure Cfg where
  w : World
  T : List (Addr × Str)
  cl : Nat → Addr
  ex : Option (Addr × Nat × Option Addr) := none
  C : List (Addr × Str) := []
  kp : List (Env1 × L2.St) := []
/-- the tables, and the code objects that are known -/
def Tb (g : Cfg) (H : Hp) : Prop := LamX.Tabs g.T H ∧ ∀ p ∈ g.C, H p.1 = some (LamX.CodeO p.1 p.2)
theorem Tb.ext {g : Cfg} {H H' : Hp} (t : Tb g H) (e : ∀ b o, H b = some o → H' b = some o) : Tb g H' := ⟨t.1.ext e, fun p hp => e _ _ (t.2 p hp)⟩
/-- an error's own dict -/
def Xv (K : PySem.W.Frag) (B : List Addr) (H : Hp) (d : Option Addr) : Option (Str × PyData) → Prop
  | none => True
  | some (f, x) => ∃ dd w, d = some dd ∧ H dd = some (.xd [(f, w)]) ∧ dd ∉ B ∧ Dr K B H w x
theorem Xv.mono {K : PySem.W.Frag} {ph r r' : List Addr} {H H' : Hp} (x : Ext r H r' H') {d : Option Addr} : ∀ {o : Option (Str × PyData)}, Xv K (ph ++ r) H d o → Xv K (ph ++ r') H' d o
  | none, _ => trivial
  | some (f, y), h => by
    obtain ⟨dd, w, e1, e, n, t⟩ := h
    obtain ⟨e', n'⟩ := x.tracked e n (fun _ z => by cases z)
    exact ⟨dd, w, e1, e', n', Dr.mono x t⟩
/-- a list among the written objects -/
def KL (K : PySem.W.Frag) (a : Addr) (vs : List V) : Prop := ∃ (o : Obj) (its : Array Value) (n : Nat), K.lookup a = some o ∧ o.cls = .type "list" ∧ o.dict = none ∧ o.data = .seq its n ∧ its.size ≤ sizeLine ∧ Vals vs its.toList
/-- m is the value v -/
def Mv (K : PySem.W.Frag) (g : Cfg) (ph r : List Addr) (H : Hp) : M → V → Prop
  | .d x, v => Dr K (ph ++ r) H v x
  | .loc n, v => ∃ a, r[n]? = some a ∧ v = .ref a
  | .ro xs, v => ∃ a vs, v = .ref a ∧ ((∃ o, H a = some (.frz o (.lst vs)) ∧ a ∉ ph ++ r) ∨ KL K a vs) ∧ DrAll K (ph ++ r) H vs xs
  | .fn a, v => v = .ref a
  | .ty n, v => v = .ty n
  | .kdc a ks, v => v = .ref a ∧ ∀ z x, ks.lookup z = some x → ∃ u, KDct K g.w a z u ∧ ∀ B H, Dr K B H u x
  | .exn c x, v => ∃ a d, g.ex = some (a, c, d) ∧ v = .ref a ∧ Xv K (ph ++ r) H d x
def Ov (K : PySem.W.Frag) (g : Cfg) (ph r : List Addr) (H : Hp) : O → HO → Prop
  | .lst xs, .lst vs => Paired (Mv K g ph r H) xs vs
  | .dct kvs, .dK ws => Paired (fun (p : Key × M) (q : Key × V) => p.1 = q.1 ∧ Mv K g ph r H p.2 q.2) kvs ws
  | _, _ => False
def Sl (K : PySem.W.Frag) (g : Cfg) (ph r : List Addr) (H : Hp) : Option M → Option V → Prop
  | some m, some v => Mv K g ph r H m v
  | none, _ => True
  | _, _ => False
abbrev Ev (K : PySem.W.Frag) (g : Cfg) (ph r : List Addr) (H : Hp) : Env1 → St → Prop := Paired (Sl K g ph r H)
structure So (K : PySem.W.Frag) (g : Cfg) (ph r : List Addr) (S : Sto) (H : Hp) : Prop where
  len : r.length = S.length
  nd : r.Nodup
  dis : ∀ a ∈ ph, a ∉ r
  there : ∀ a ∈ ph, ∃ o, H a = some o ∧ ∀ ps, o ≠ .tbl ps
  at_ : ∀ (n : Nat) (o : O), S[n]? = some o → ∃ a u, r[n]? = some a ∧ H a = some u ∧ Ov K g ph r H o u
  tabs : Tb g H
  kp : ∀ p ∈ g.kp, Ev K g ph r H p.1 p.2

section
variable {K : PySem.W.Frag} {g : Cfg} {ph r r' : List Addr} {H H' : Hp}
theorem Mv.mono (x : Ext r H r' H') : ∀ {m : M} {v : V}, Mv K g ph r H m v → Mv K g ph r' H' m v
  | .d _, _, h => Dr.mono x h
  | .loc n, _, h => by
    obtain ⟨a, e, rfl⟩ := h
    obtain ⟨l, rfl, _⟩ := x.pre
    exact ⟨a, by rw [List.getElem?_append_left (by have := List.getElem?_eq_some_iff.mp e; exact this.1)]; exact e, rfl⟩
  | .ro _, _, h => by
    obtain ⟨a, vs, rfl, e, t⟩ := h
    refine ⟨a, vs, rfl, e.imp (fun q => ?_) id, DrAll.mono x t⟩
    obtain ⟨o, e, n⟩ := q
    exact ⟨o, x.tracked e n (fun _ z => by cases z)⟩
  | .fn _, _, h => h
  | .ty _, _, h => h
  | .kdc _ _, _, h => h
  | .exn _ _, _, h => by
    obtain ⟨a, d, e1, rfl, t⟩ := h
    exact ⟨a, d, e1, rfl, t.mono x⟩
theorem Sl.mono (x : Ext r H r' H') {m : Option M} {v : Option V} (h : Sl K g ph r H m v) : Sl K g ph r' H' m v := by
  cases m with
  | none => trivial
  | some m =>
    cases v with
    | none => exact h
    | some v => exact Mv.mono (g := g) x h
theorem Ev.mono (x : Ext r H r' H') {e : Env1} {s : St} (h : Ev K g ph r H e s) : Ev K g ph r' H' e s := Paired.mapP h fun _ _ => Sl.mono (g := g) x
theorem Ov.mono (x : Ext r H r' H') {o : O} {u : HO} (h : Ov K g ph r H o u) : Ov K g ph r' H' o u := by
  cases o with
  | lst xs =>
    cases u with
    | lst vs => exact Paired.mapP h fun _ _ => Mv.mono (g := g) x
    | _ => exact h
  | dct kvs =>
    cases u with
    | dK ws => exact Paired.mapP h fun _ _ z => ⟨z.1, Mv.mono x z.2⟩
    | _ => exact h
theorem Ev.get {e : Env1} {s : St} {i : Nat} {m : M} (h : Ev K g ph r H e s) (q : e[i]? = some (some m)) : ∃ v, s[i]? = some (some v) ∧ Mv K g ph r H m v := by
  induction h generalizing i with
  | nil => simp at q
  | @cons a b as bs h1 h2 ih =>
    cases i with
    | zero =>
      simp at q
      subst q
      cases b with
      | none => exact h1.elim
      | some v => exact ⟨v, rfl, h1⟩
    | succ i =>
      obtain ⟨v, h3, h4⟩ := ih (i := i) (by simpa using q)
      exact ⟨v, by simpa using h3, h4⟩
theorem Ev.set {e : Env1} {s : St} (h : Ev K g ph r H e s) (i : Nat) {m : M} {v : V} (q : Mv K g ph r H m v) : Ev K g ph r H (e.set i (some m)) (s.set i (some v)) := by
  induction h generalizing i with
  | nil => exact .nil
  | @cons a b as bs h1 h2 ih =>
    cases i with
    | zero => exact .cons q h2
    | succ i => exact .cons h1 (ih i)
theorem Ev.wipe1 {e : Env1} {s : St} (h : Ev K g ph r H e s) (i : Nat) {o : Option V} : Ev K g ph r H (e.set i none) (s.set i o) := by
  induction h generalizing i with
  | nil => exact .nil
  | @cons a b as bs h1 h2 ih =>
    cases i with
    | zero => exact .cons trivial h2
    | succ i => exact .cons h1 (ih i)
theorem Ev.length {e : Env1} {s : St} (h : Ev K g ph r H e s) : e.length = s.length := Paired.length h
/-- a new object, not owned, comes -/
theorem So.new {S : Sto} {p : Addr} {o : HO} (s : So K g ph r S H) (hp : H p = none) : So K g ph r S (upd H p o) := by
  have x : Ext r H r (upd H p o) := Ext.new hp
  refine ⟨s.len, s.nd, s.dis, fun a ha => ?_, fun n u e => ?_, s.tabs.ext fun b u e => by rw [upd_ne (ne_of_none e hp)]; exact e, fun q hq => (s.kp q hq).mono x⟩
  · obtain ⟨u, e, t⟩ := s.there a ha
    exact x.stay a u e t
  · obtain ⟨a, w, e1, e2, e3⟩ := s.at_ n u e
    exact ⟨a, w, e1, by rw [upd_ne (ne_of_none e2 hp)]; exact e2, e3.mono x⟩
theorem So.own_mem {S : Sto} (s : So K g ph r S H) {a : Addr} (h : a ∈ r) : ∃ u, H a = some u ∧ (∃ o, Ov K g ph r H o u) := by
  obtain ⟨n, hn, e⟩ := List.getElem_of_mem h
  have hl : n < S.length := by rw [← s.len]; exact hn
  obtain ⟨b, u, e1, e2, e3⟩ := s.at_ n S[n] (List.getElem?_eq_getElem hl)
  rw [List.getElem?_eq_getElem hn, e] at e1
  cases e1
  exact ⟨u, e2, _, e3⟩
theorem Mv.more {ph' : List Addr} (h : ∀ a, a ∈ ph' → a ∈ ph ∨ H a = none) (hr : ∀ a, a ∈ ph → a ∈ ph') : ∀ {m : M} {v : V}, Mv K g ph r H m v → Mv K g ph' r H m v := by
  have hB : ∀ a, a ∈ ph' ++ r → a ∈ ph ++ r ∨ H a = none := fun a ha => by
    rcases List.mem_append.mp ha with z | z
    · exact (h a z).imp (fun q => List.mem_append_left _ q) id
    · exact .inl (List.mem_append_right _ z)
  intro m v q
  cases m with
  | d x => exact Dr.more hB q
  | loc n => exact q
  | ro xs =>
    obtain ⟨a, vs, e1, e, t⟩ := q
    refine ⟨a, vs, e1, e.imp (fun q => ?_) id, DrAll.more hB t⟩
    obtain ⟨o, e, n⟩ := q
    exact ⟨o, e, fun z => (hB a z).elim n fun q => (by rw [e] at q; cases q)⟩
  | fn a => exact q
  | ty n => exact q
  | kdc a ks => exact q
  | exn c x =>
    obtain ⟨a, d, e1, e2, t⟩ := q
    refine ⟨a, d, e1, e2, ?_⟩
    cases x with
    | none => trivial
    | some p =>
      obtain ⟨f, y⟩ := p
      obtain ⟨dd, w, h1, e, n, t⟩ := t
      exact ⟨dd, w, h1, e, fun z => (hB dd z).elim n fun q => (by rw [e] at q; cases q), Dr.more hB t⟩
theorem Ev.more {ph' : List Addr} (h : ∀ a, a ∈ ph' → a ∈ ph ∨ H a = none) (hr : ∀ a, a ∈ ph → a ∈ ph') {e : Env1} {s : L2.St} (q : Ev K g ph r H e s) : Ev K g ph' r H e s := Paired.mapP q fun m v z => by
  cases m with
  | none => trivial
  | some m =>
    cases v with
    | none => exact z
    | some v => exact Mv.more h hr z
theorem So.more {S : Sto} {p : Addr} {o : HO} (s : So K g ph r S H) (hp : H p = none) (ho : ∀ ps, o ≠ .tbl ps := by intro _ z; cases z) : So K g (p :: ph) r S (upd H p o) := by
  have x : Ext r H r (upd H p o) := Ext.new hp
  have hh : ∀ a, a ∈ p :: ph → a ∈ ph ∨ H a = none := fun a ha => by
    rcases List.mem_cons.mp ha with z | z
    · rw [z]; exact .inr hp
    · exact .inl z
  have hr : ∀ a, a ∈ ph → a ∈ p :: ph := fun a ha => List.mem_cons_of_mem _ ha
  refine ⟨s.len, s.nd, fun a ha => ?_, fun a ha => ?_, fun n u e => ?_, s.tabs.ext fun b u e => by rw [upd_ne (ne_of_none e hp)]; exact e, fun q hq => Ev.mono x (Ev.more hh hr (s.kp q hq))⟩
  · rcases List.mem_cons.mp ha with z | z
    · rw [z]
      intro w
      obtain ⟨u, e, _⟩ := s.own_mem w
      rw [hp] at e; cases e
    · exact s.dis a z
  · rcases List.mem_cons.mp ha with z | z
    · exact ⟨o, by rw [z, upd_same], ho⟩
    · obtain ⟨u, e, t⟩ := s.there a z
      exact x.stay a u e t
  · obtain ⟨a, w, e1, e2, e3⟩ := s.at_ n u e
    refine ⟨a, w, e1, by rw [upd_ne (ne_of_none e2 hp)]; exact e2, Ov.mono x ?_⟩
    cases u with
    | lst xs =>
      cases w with
      | lst vs => exact Paired.mapP e3 fun _ _ z => Mv.more (g := g) hh hr z
      | _ => exact e3
    | dct kvs =>
      cases w with
      | dK ws => exact Paired.mapP e3 fun _ _ z => ⟨z.1, Mv.more (g := g) hh hr z.2⟩
      | _ => exact e3
/-- a new object is fresh for all that is told -/
theorem So.fresh {S : Sto} (s : So K g ph r S H) {p : Addr} (hp : H p = none) : p ∉ ph ++ r := fun z => by
  rcases List.mem_append.mp z with z | z
  · obtain ⟨o, e, _⟩ := s.there p z
    rw [hp] at e; cases e
  · obtain ⟨u, e, _⟩ := s.own_mem z
    rw [hp] at e; cases e
end
end Mr

end
section
set_option maxRecDepth 100000
set_option autoImplicit false
namespace Mr
open PySem PySem.Spec L2
open PyProof.Rows hiding St

/-! ### what is wanted of an outcome -/
def R.bind {α β : Type} (x : R α) (k : α → Sto → R β) : R β := match x with
  | .ok a S => k a S
  | .rz c x S => .rz c x S
  | .bad => .bad
def lift {α : Type} (o : Option α) (S : Sto) : R α := match o with
  | some a => .ok a S
  | none => .bad

abbrev Rel (α β : Type) := PySem.W.Frag → Cfg → List Addr → List Addr → Hp → α → β → Prop
/-- P tells how the mirror's answer lies; E: the wish of errors -/
def Post {α β : Type} (P : Rel α β) (K : PySem.W.Frag) (g : Cfg) (E : XK) (ph r : List Addr) (H : Hp) (o : R α) (Q : β → Hp → Prop) : Prop := match o with
  | .ok m S' => ∀ r' H' v, Ext r H r' H' → So K g ph r' S' H' → P K g ph r' H' m v → Q v H'
  | .rz c x S' => ∀ r' H' d, Ext r H r' H' → So K g ph r' S' H' → Xv K (ph ++ r') H' d x → E (.ref (g.cl c)) d H'
  | .bad => False
theorem Post.mono {α β : Type} {P : Rel α β} {K : PySem.W.Frag} {g : Cfg} {E : XK} {ph r r' : List Addr} {H H' : Hp} {o : R α} {Q : β → Hp → Prop} (x : Ext r H r' H') (h : Post P K g E ph r H o Q) : Post P K g E ph r' H' o Q := by
  cases o with
  | ok m S => exact fun r2 H2 v y s q => h r2 H2 v (x.trans y) s q
  | rz c z S => exact fun r2 H2 d y s q => h r2 H2 d (x.trans y) s q
  | bad => exact h
theorem Post.imp {α β : Type} {P : Rel α β} {K : PySem.W.Frag} {g : Cfg} {E : XK} {ph r : List Addr} {H : Hp} {o : R α} {Q Q' : β → Hp → Prop} (h : Post P K g E ph r H o Q) (w : ∀ v H', Q v H' → Q' v H') : Post P K g E ph r H o Q' := by
  cases o with
  | ok m S => exact fun r2 H2 v y s q => w _ _ (h r2 H2 v y s q)
  | rz c z S => exact h
  | bad => exact h
/-- the reading «the mirror f tells it», of anything with values β -/
def tG {α β : Type} (P : Rel α β) (K : PySem.W.Frag) (g : Cfg) (W : WX) (f : Env1 → Sto → R α) : L2.St → Hp → (β → Hp → Prop) → Prop := fun s H Q =>
  ∃ ph r S e, So K g ph r S H ∧ Ev K g ph r H e s ∧ Post P K g (fun c d H' => W c d s H') ph r H (f e S) Q
theorem tG.imp {α β : Type} {P : Rel α β} {K : PySem.W.Frag} {g : Cfg} {W : WX} {f : Env1 → Sto → R α} {s : L2.St} {H : Hp} {Q Q' : β → Hp → Prop} (h : tG P K g W f s H Q) (w : ∀ v H', Q v H' → Q' v H') : tG P K g W f s H Q' := by
  obtain ⟨ph, r, S, e, a, b, c⟩ := h
  exact ⟨ph, r, S, e, a, b, c.imp w⟩
/-- one after the other -/
theorem tG.bind {α β γ δ : Type} {P : Rel α β} {P' : Rel γ δ} {K : PySem.W.Frag} {g : Cfg} {W : WX} {f : Env1 → Sto → R α} {k : α → Sto → R γ} {s : L2.St} {H : Hp} {ph r : List Addr} {S : Sto} {e : Env1} {Q : δ → Hp → Prop} {Q1 : β → Hp → Prop}
    (so : So K g ph r S H) (ev : Ev K g ph r H e s) (h : Post P' K g (fun c d H' => W c d s H') ph r H ((f e S).bind k) Q)
    (w : ∀ m v S' r' H', Ext r H r' H' → So K g ph r' S' H' → Ev K g ph r' H' e s → P K g ph r' H' m v → Post P' K g (fun c d H' => W c d s H') ph r' H' (k m S') Q → Q1 v H') : tG P K g W f s H Q1 := by
  refine ⟨ph, r, S, e, so, ev, ?_⟩
  cases q : f e S with
  | ok m S' =>
    rw [q] at h
    exact fun r' H' v x s' m' => w m v S' r' H' x s' (ev.mono x) m' (Post.mono x h)
  | rz c x S' =>
    rw [q] at h
    exact h
  | bad =>
    rw [q] at h
    exact h

/-! ### judgements -/
abbrev PV : Rel M V := fun K g ph r H m v => Mv K g ph r H m v
abbrev PB : Rel Bool Bool := fun _ _ _ _ _ a b => a = b
abbrev PVs : Rel (List M) (List V) := fun K g ph r H ms vs => Paired (Mv K g ph r H) ms vs
abbrev tM (K : PySem.W.Frag) (g : Cfg) (W : WX) (f : Env1 → Sto → R M) : TE := tG PV K g W f
abbrev tMT (K : PySem.W.Frag) (g : Cfg) (W : WX) (f : Env1 → Sto → R Bool) : TT := tG PB K g W f
abbrev tMA (K : PySem.W.Frag) (g : Cfg) (W : WX) (f : Env1 → Sto → R (List M)) : TA := tG PVs K g W f
abbrev ME (X : Cx) (g : Cfg) (W : WX) (e : Expr) (f : Env1 → Sto → R M) : Prop := PE X e (tM X.K g W f)
abbrev MT (X : Cx) (g : Cfg) (W : WX) (e : Expr) (f : Env1 → Sto → R Bool) : Prop := PT X e (tMT X.K g W f)
abbrev MA (X : Cx) (g : Cfg) (W : WX) (es : List Expr) (f : Env1 → Sto → R (List M)) : Prop := PA X es (tMA X.K g W f)
def PostS (K : PySem.W.Frag) (g : Cfg) (W : WX) (ph r : List Addr) (s : L2.St) (H : Hp) (o : Out) (D : Ends) : Prop := match o with
  | .nx e' S' => ∀ r' H' s', Ext r H r' H' → So K g ph r' S' H' → Ev K g ph r' H' e' s' → D.nx s' H'
  | .rt m S' => ∀ r' H' v, Ext r H r' H' → So K g ph r' S' H' → Mv K g ph r' H' m v → D.rt v H'
  | .bk e' S' => ∀ r' H' s', Ext r H r' H' → So K g ph r' S' H' → Ev K g ph r' H' e' s' → D.bk s' H'
  | .ct e' S' => ∀ r' H' s', Ext r H r' H' → So K g ph r' S' H' → Ev K g ph r' H' e' s' → D.ct s' H'
  | .rz c x e' S' => ∀ r' H' s' d, Ext r H r' H' → So K g ph r' S' H' → Ev K g ph r' H' e' s' → Xv K (ph ++ r') H' d x → W (.ref (g.cl c)) d s' H'
  | .bad => False
theorem PostS.mono {K : PySem.W.Frag} {g : Cfg} {W : WX} {ph r r' : List Addr} {s s' : L2.St} {H H' : Hp} {o : Out} {D : Ends} (x : Ext r H r' H') (h : PostS K g W ph r s H o D) : PostS K g W ph r' s' H' o D := by
  cases o with
  | nx e S => exact fun r2 H2 v y a b => h r2 H2 v (x.trans y) a b
  | rt m S => exact fun r2 H2 v y a b => h r2 H2 v (x.trans y) a b
  | bk e S => exact fun r2 H2 v y a b => h r2 H2 v (x.trans y) a b
  | ct e S => exact fun r2 H2 v y a b => h r2 H2 v (x.trans y) a b
  | rz c z e S => exact fun r2 H2 v d y a b q => h r2 H2 v d (x.trans y) a b q
  | bad => exact h
def tMS (K : PySem.W.Frag) (g : Cfg) (W : WX) (f : Env1 → Sto → Out) : TS := fun D s H =>
  ∃ ph r S e, So K g ph r S H ∧ Ev K g ph r H e s ∧ PostS K g W ph r s H (f e S) D
abbrev MS (X : Cx) (g : Cfg) (W : WX) (st : Stmt) (f : Env1 → Sto → Out) : Prop := PS X st (tMS X.K g W f)
abbrev MSs (X : Cx) (g : Cfg) (W : WX) (st : List Stmt) (f : Env1 → Sto → Out) : Prop := PSs X st (tMS X.K g W f)

theorem PE.of {X : Cx} {e : Expr} {t t' : TE} (h : PE X e t) (w : ∀ s H Q, t' s H Q → t s H Q) : PE X e t' := ⟨fun pins s q H Q I z => h.run pins s q H Q I (w _ _ _ z)⟩
theorem PT.of {X : Cx} {e : Expr} {t t' : TT} (h : PT X e t) (w : ∀ s H Q, t' s H Q → t s H Q) : PT X e t' := ⟨fun pins s q H Q I z => h.run pins s q H Q I (w _ _ _ z)⟩
theorem PW.of {X : Cx} {e : Expr} {t t' : TT} (h : PW X e t) (w : ∀ s H Q, t' s H Q → t s H Q) : PW X e t' := ⟨fun whole pins s q H Q I z => h.run whole pins s q H Q I (w _ _ _ z)⟩
theorem PA.of {X : Cx} {e : List Expr} {t t' : TA} (h : PA X e t) (w : ∀ s H Q, t' s H Q → t s H Q) : PA X e t' := ⟨fun pos pins s q H Q I z => h.run pos pins s q H Q I (w _ _ _ z)⟩
theorem PS.of {X : Cx} {e : Stmt} {t t' : TS} (h : PS X e t) (w : ∀ D s H, t' D s H → t D s H) : PS X e t' := ⟨fun pins s q H D I z => h.run pins s q H D I (w _ _ _ z)⟩
theorem PSs.of {X : Cx} {e : List Stmt} {t t' : TS} (h : PSs X e t) (w : ∀ D s H, t' D s H → t D s H) : PSs X e t' := ⟨fun pins s q H D I z => h.run pins s q H D I (w _ _ _ z)⟩

/-! ### the mirror's words for expressions -/
def eC (m : M) : Env1 → Sto → R M := fun _ S => .ok m S
def eV (i : Nat) : Env1 → Sto → R M := fun e S => match e[i]? with
  | some (some m) => .ok m S
  | _ => .bad
def e1 (op : M → Sto → Option M) (a : Env1 → Sto → R M) : Env1 → Sto → R M := fun e S => (a e S).bind fun x S1 => lift (op x S1) S1
def e2 (op : M → M → Sto → Option M) (a b : Env1 → Sto → R M) : Env1 → Sto → R M := fun e S => (a e S).bind fun x S1 => (b e S1).bind fun y S2 => lift (op x y S2) S2
def aN : Env1 → Sto → R (List M) := fun _ S => .ok [] S
def aC (a : Env1 → Sto → R M) (b : Env1 → Sto → R (List M)) : Env1 → Sto → R (List M) := fun e S => (a e S).bind fun x S1 => (b e S1).bind fun xs S2 => .ok (x :: xs) S2
def eCall (f : List M → Sto → R M) (a : Env1 → Sto → R (List M)) : Env1 → Sto → R M := fun e S => (a e S).bind f
def ePrim (op : List M → Sto → Option M) (a : Env1 → Sto → R (List M)) : Env1 → Sto → R M := fun e S => (a e S).bind fun xs S1 => lift (op xs S1) S1
def eIf (t : Env1 → Sto → R Bool) (a b : Env1 → Sto → R M) : Env1 → Sto → R M := fun e S => (t e S).bind fun k S1 => if k then a e S1 else b e S1
def asB : M → Option Bool
  | .d (.bool b) => some b
  | _ => none
def tB (a : Env1 → Sto → R M) : Env1 → Sto → R Bool := fun e S => (a e S).bind fun x S1 => lift (asB x) S1
def tAndM (a b : Env1 → Sto → R Bool) : Env1 → Sto → R Bool := fun e S => (a e S).bind fun k S1 => if k then b e S1 else .ok false S1
def tOrM (a b : Env1 → Sto → R Bool) : Env1 → Sto → R Bool := fun e S => (a e S).bind fun k S1 => if k then .ok true S1 else b e S1
def tNotM (a : Env1 → Sto → R Bool) : Env1 → Sto → R Bool := fun e S => (a e S).bind fun k S1 => .ok (!k) S1
def eAndM (a b : Env1 → Sto → R M) : Env1 → Sto → R M := fun e S => (tB a e S).bind fun k S1 => if k then b e S1 else .ok (.d (.bool false)) S1
def eOrM (a b : Env1 → Sto → R M) : Env1 → Sto → R M := fun e S => (tB a e S).bind fun k S1 => if k then .ok (.d (.bool true)) S1 else b e S1
def eNotM (a : Env1 → Sto → R M) : Env1 → Sto → R M := fun e S => (tB a e S).bind fun k S1 => .ok (.d (.bool (!k))) S1

/-! ### rules -/
section
variable {X : Cx} {g : Cfg} {W : WX} {a b c : Expr} {fa fb fc : Env1 → Sto → R M} {ta tb tc : Env1 → Sto → R Bool} {pos : Pos}
theorem me_var (i : Nat) {x : Str} (hN : X.N[i]? = some x := by rfl) (hv : Vis X.env.scope x := by first | exact Or.inl rfl | exact Or.inr (Or.inl rfl) | exact Or.inr (Or.inr rfl)) (hd : (x == ("__debug__" : Str)) = false := by decide)
    (hcd : (x == ("__classdict__" : Str)) = false := by decide) : ME X g W (.Name x pos) (eV i) := by
  refine PE.of (pe_var (i := i) hN hv hd hcd) fun s H Q h => ?_
  obtain ⟨ph, r, S, e, so, ev, h⟩ := h
  unfold eV at h
  split at h
  · rename_i m q
    obtain ⟨v, h1, h2⟩ := ev.get q
    exact ⟨v, h1, h r H v (.refl _ _) so h2⟩
  · exact h.elim
theorem me_c {v : V} {m : M} (h : PE X a (tC v)) (r : ∀ ph r H, Mv X.K g ph r H m v) : ME X g W a (eC m) := PE.of h fun s H Q ⟨ph, rr, S, e, so, ev, h⟩ => h rr H v (.refl _ _) so (r _ _ _)
theorem me_int {i j} : ME X g W (.Constant (.int i) j pos) (eC (.d (.int i))) := me_c pe_int fun _ _ _ => .int _
theorem me_bl {i j} : ME X g W (.Constant (.bool i) j pos) (eC (.d (.bool i))) := me_c pe_bl fun _ _ _ => .bl _
theorem me_non {j} : ME X g W (.Constant .none j pos) (eC (.d .none)) := me_c pe_non fun _ _ _ => .non
theorem me_str {i j} : ME X g W (.Constant (.str i) j pos) (eC (.d (.str i))) := me_c pe_str fun _ _ _ => .str _
/-- a module's constant -/
theorem me_glob {x : Str} {v : V} {u : Value} {m : M} (hg : Gl X x) (hm : X.mg x = some u) (r : RelV v u) (hd : ∀ ph r H, Mv X.K g ph r H m v) (hx : (x == ("__debug__" : Str)) = false := by decide) : ME X g W (.Name x pos) (eC m) := me_c (pe_glob hg hm r hx) hd

theorem ma_nil : MA X g W [] aN := PA.of pa_nil fun s H Q ⟨ph, r, S, e, so, ev, h⟩ => h r H [] (.refl _ _) so .nil
theorem ma_cons {es : List Expr} {fs : Env1 → Sto → R (List M)} (ha : ME X g W a fa) (hb : MA X g W es fs) (hs : starEach (a :: es) X.env = (false, eval a X.env) :: starEach es X.env := by rfl) : MA X g W (a :: es) (aC fa fs) := by
  refine PA.of (pa_cons ha hb hs) fun s H Q h => ?_
  obtain ⟨ph, r, S, e, so, ev, h⟩ := h
  refine tG.bind so ev h fun m v S1 r1 H1 x1 so1 ev1 m1 h1 => ?_
  refine tG.bind so1 ev1 h1 fun ms vs S2 r2 H2 x2 so2 ev2 m2 h2 => ?_
  exact h2 r2 H2 (v :: vs) (.refl _ _) so2 (.cons (Mv.mono x2 m1) m2)

/-- a two-place operation of the mirror keeps what the rule asks -/
def Snd2 (K : PySem.W.Frag) (g : Cfg) (rr : R2) (op : M → M → Sto → Option M) : Prop := ∀ (ph r : List Addr) (S : Sto) (H : Hp) (m1 m2 m : M) (v1 v2 : V) (Q : VK), So K g ph r S H → Mv K g ph r H m1 v1 → Mv K g ph r H m2 v2 → op m1 m2 S = some m →
  (∀ r' H' v, Ext r H r' H' → So K g ph r' S H' → Mv K g ph r' H' m v → Q v H') → rr v1 v2 H Q
def Snd1 (K : PySem.W.Frag) (g : Cfg) (rr : V → Hp → VK → Prop) (op : M → Sto → Option M) : Prop := ∀ (ph r : List Addr) (S : Sto) (H : Hp) (m1 m : M) (v1 : V) (Q : VK), So K g ph r S H → Mv K g ph r H m1 v1 → op m1 S = some m →
  (∀ r' H' v, Ext r H r' H' → So K g ph r' S H' → Mv K g ph r' H' m v → Q v H') → rr v1 H Q
def SndN (K : PySem.W.Frag) (g : Cfg) (rr : List V → Hp → VK → Prop) (op : List M → Sto → Option M) : Prop := ∀ (ph r : List Addr) (S : Sto) (H : Hp) (ms : List M) (m : M) (vs : List V) (Q : VK), So K g ph r S H → Paired (Mv K g ph r H) ms vs → op ms S = some m →
  (∀ r' H' v, Ext r H r' H' → So K g ph r' S H' → Mv K g ph r' H' m v → Q v H') → rr vs H Q
theorem tM_op {rr : R2} {op : M → M → Sto → Option M} (hs : Snd2 X.K g rr op) (s : L2.St) (H : Hp) (Q : VK) (h : tM X.K g W (e2 op fa fb) s H Q) : tOp rr (tM X.K g W fa) (tM X.K g W fb) s H Q := by
  obtain ⟨ph, r, S, e, so, ev, h⟩ := h
  refine tG.bind so ev h fun m v S1 r1 H1 x1 so1 ev1 m1 h1 => ?_
  refine tG.bind so1 ev1 h1 fun m' v' S2 r2 H2 x2 so2 ev2 m2 h2 => ?_
  cases q : op m m' S2 with
  | none => rw [q] at h2; exact h2.elim
  | some z =>
    rw [q] at h2
    exact hs ph r2 S2 H2 m m' z v v' Q so2 (Mv.mono x2 m1) m2 q h2
theorem me_op {o : Operator} {rr : R2} {op : M → M → Sto → Option M} (ho : OpR X (binaryOp o) rr) (hs : Snd2 X.K g rr op) (ha : ME X g W a fa) (hb : ME X g W b fb) : ME X g W (.BinOp a o b pos) (e2 op fa fb) := PE.of (pe_op ho ha hb) (tM_op hs)
theorem me_cmp {o : CmpOp} {rr : R2} {op : M → M → Sto → Option M} (ho : OpR X (compareOp o) rr) (hs : Snd2 X.K g rr op) (ha : ME X g W a fa) (hb : ME X g W b fb) (hm : behindInMarks o b = false := by first | exact nomark _ | rfl) : ME X g W (.Compare a [o] [b] pos) (e2 op fa fb) := PE.of (pe_cmpR ho ha hb hm) (tM_op hs)
theorem mt_cmp {o : CmpOp} {rr : R2} {op : M → M → Sto → Option M} (ho : OpR X (compareOp o) rr) (hs : Snd2 X.K g rr op) (ha : ME X g W a fa) (hb : ME X g W b fb) (hm : behindInMarks o b = false := by first | exact nomark _ | rfl) : MT X g W (.Compare a [o] [b] pos) (tB (e2 op fa fb)) := by
  refine PT.of (pt_cmpR ho ha hb hm) fun s H Q h => ?_
  obtain ⟨ph, r, S, e, so, ev, h⟩ := h
  refine tM_op hs s H _ ?_
  refine tG.bind so ev h fun m v S1 r1 H1 x1 so1 ev1 m1 h1 => ?_
  cases m with
  | d x =>
    cases x with
    | bool k =>
      cases m1
      exact ⟨k, rfl, h1 r1 H1 k (.refl _ _) so1 rfl⟩
    | _ => exact h1.elim
  | _ => exact h1.elim
theorem mt_val (ha : ME X g W a fa) (he : ∀ whole, isTrue a X.env whole = (do let v ← whole; standAt a.pos; holding [v] (truthy v)) := by intro _; rfl) : MT X g W a (tB fa) := by
  refine PT.of (pt_val ha he) fun s H Q h => ?_
  obtain ⟨ph, r, S, e, so, ev, h⟩ := h
  refine tG.bind so ev h fun m v S1 r1 H1 x1 so1 ev1 m1 h1 => ?_
  cases m with
  | d x =>
    cases x with
    | bool k =>
      cases m1
      exact ⟨k, rfl, h1 r1 H1 k (.refl _ _) so1 rfl⟩
    | _ => exact h1.elim
  | _ => exact h1.elim
theorem me_un {o : UnaryOp} {rr : V → Hp → VK → Prop} {op : M → Sto → Option M} (ho : UnR X (unaryOp o) rr) (hs : Snd1 X.K g rr op) (ha : ME X g W a fa) : ME X g W (.UnaryOp o a pos) (e1 op fa) := by
  refine PE.of (pe_un ho ha) fun s H Q h => ?_
  obtain ⟨ph, r, S, e, so, ev, h⟩ := h
  refine tG.bind so ev h fun m v S1 r1 H1 x1 so1 ev1 m1 h1 => ?_
  cases q : op m S1 with
  | none => rw [q] at h1; exact h1.elim
  | some z =>
    rw [q] at h1
    exact hs ph r1 S1 H1 m z v Q so1 m1 q h1
theorem me_if {tc : Env1 → Sto → R Bool} (hc : MT X g W c tc) (ha : ME X g W a fa) (hb : ME X g W b fb) : ME X g W (.IfExp c a b pos) (eIf tc fa fb) := by
  refine PE.of (pe_ifExp hc ha hb) fun s H Q h => ?_
  obtain ⟨ph, r, S, e, so, ev, h⟩ := h
  refine tG.bind so ev h fun k k' S1 r1 H1 x1 so1 ev1 m1 h1 => ?_
  cases m1
  cases k with
  | true => exact ⟨ph, r1, S1, e, so1, ev1, h1⟩
  | false => exact ⟨ph, r1, S1, e, so1, ev1, h1⟩
theorem mt_not (ha : MT X g W a ta) : MT X g W (.UnaryOp .Not a pos) (tNotM ta) := by
  refine PT.of (pt_not ha) fun s H Q h => ?_
  obtain ⟨ph, r, S, e, so, ev, h⟩ := h
  refine tG.bind so ev h fun k k' S1 r1 H1 x1 so1 ev1 m1 h1 => ?_
  cases m1
  exact h1 r1 H1 _ (.refl _ _) so1 rfl
abbrev MW (X : Cx) (g : Cfg) (W : WX) (e : Expr) (f : Env1 → Sto → R Bool) : Prop := PW X e (tMT X.K g W f)
theorem mw_and1 (ha : MT X g W a ta) : MW X g W (.BoolOp .And [a] pos) ta := pw_and1 ha
theorem mw_or1 (ha : MT X g W a ta) : MW X g W (.BoolOp .Or [a] pos) ta := pw_or1 ha
theorem mw_and {rest : List Expr} (ha : MT X g W a ta) (hb : MW X g W (.BoolOp .And (b :: rest) pos) tb) : MW X g W (.BoolOp .And (a :: b :: rest) pos) (tAndM ta tb) := by
  refine PW.of (pw_and ha hb) fun s H Q h => ?_
  obtain ⟨ph, r, S, e, so, ev, h⟩ := h
  refine tG.bind so ev h fun k k' S1 r1 H1 x1 so1 ev1 m1 h1 => ?_
  cases m1
  cases k with
  | true => exact ⟨ph, r1, S1, e, so1, ev1, h1⟩
  | false => exact h1 r1 H1 _ (.refl _ _) so1 rfl
theorem mw_or {rest : List Expr} (ha : MT X g W a ta) (hb : MW X g W (.BoolOp .Or (b :: rest) pos) tb) : MW X g W (.BoolOp .Or (a :: b :: rest) pos) (tOrM ta tb) := by
  refine PW.of (pw_or ha hb) fun s H Q h => ?_
  obtain ⟨ph, r, S, e, so, ev, h⟩ := h
  refine tG.bind so ev h fun k k' S1 r1 H1 x1 so1 ev1 m1 h1 => ?_
  cases m1
  cases k with
  | true => exact h1 r1 H1 _ (.refl _ _) so1 rfl
  | false => exact ⟨ph, r1, S1, e, so1, ev1, h1⟩
theorem tB_ev {s : L2.St} {H : Hp} {ph r : List Addr} {S : Sto} {e : Env1} {γ δ : Type} {P' : Rel γ δ} {k : Bool → Sto → R γ} {Q : δ → Hp → Prop} {Q1 : VK} (so : So X.K g ph r S H) (ev : Ev X.K g ph r H e s) (h : Post P' X.K g (fun c d H' => W c d s H') ph r H ((tB fa e S).bind k) Q)
    (w : ∀ b S' r' H', Ext r H r' H' → So X.K g ph r' S' H' → Ev X.K g ph r' H' e s → Post P' X.K g (fun c d H' => W c d s H') ph r' H' (k b S') Q → Q1 (.bl b) H') : tM X.K g W fa s H Q1 := by
  have q : (tB fa e S).bind k = (fa e S).bind fun x S1 => (lift (asB x) S1).bind k := by
    unfold tB
    cases fa e S <;> rfl
  rw [q] at h
  refine tG.bind so ev h fun m v S1 r1 H1 x1 so1 ev1 m1 h1 => ?_
  cases m with
  | d x =>
    cases x with
    | bool b =>
      cases m1
      exact w b S1 r1 H1 x1 so1 ev1 h1
    | _ => exact h1.elim
  | _ => exact h1.elim
theorem me_and (ha : ME X g W a fa) (hb : ME X g W b fb) : ME X g W (.BoolOp .And [a, b] pos) (eAndM fa fb) := by
  refine PE.of (pe_and ha (pe_one hb)) fun s H Q h => ?_
  obtain ⟨ph, r, S, e, so, ev, h⟩ := h
  refine tB_ev so ev h fun k S1 r1 H1 x1 so1 ev1 h1 => ⟨k, rfl, ?_⟩
  cases k with
  | true => exact ⟨ph, r1, S1, e, so1, ev1, h1⟩
  | false => exact h1 r1 H1 _ (.refl _ _) so1 (.bl _)
theorem me_or (ha : ME X g W a fa) (hb : ME X g W b fb) : ME X g W (.BoolOp .Or [a, b] pos) (eOrM fa fb) := by
  refine PE.of (pe_or ha (pe_one hb)) fun s H Q h => ?_
  obtain ⟨ph, r, S, e, so, ev, h⟩ := h
  refine tB_ev so ev h fun k S1 r1 H1 x1 so1 ev1 h1 => ⟨k, rfl, ?_⟩
  cases k with
  | true => exact h1 r1 H1 _ (.refl _ _) so1 (.bl _)
  | false => exact ⟨ph, r1, S1, e, so1, ev1, h1⟩
theorem me_not (ha : ME X g W a fa) : ME X g W (.UnaryOp .Not a pos) (eNotM fa) := by
  refine PE.of (pe_not ha) fun s H Q h => ?_
  obtain ⟨ph, r, S, e, so, ev, h⟩ := h
  refine tB_ev so ev h fun k S1 r1 H1 x1 so1 ev1 h1 => ⟨k, rfl, ?_⟩
  exact h1 r1 H1 _ (.refl _ _) so1 (.bl _)
/-- built-ins and types, called -/
theorem ma_prim {fs : Env1 → Sto → R (List M)} {rr : List V → Hp → VK → Prop} {op : List M → Sto → Option M} (hs : SndN X.K g rr op) (s : L2.St) (H : Hp) (Q : VK) (h : tM X.K g W (ePrim op fs) s H Q) : tG PVs X.K g W fs s H (fun vs H1 => rr vs H1 Q) := by
  obtain ⟨ph, r, S, e, so, ev, h⟩ := h
  refine tG.bind so ev h fun m v S1 r1 H1 x1 so1 ev1 m1 h1 => ?_
  cases q : op m S1 with
  | none => rw [q] at h1; exact h1.elim
  | some z =>
    rw [q] at h1
    exact hs ph r1 S1 H1 m z v Q so1 m1 q h1
end
end Mr

end
section
set_option maxRecDepth 100000
set_option autoImplicit false
namespace Mr
open PySem PySem.Spec L2
open PyProof.Rows hiding St

/-! ### statements -/
def R.toS {α : Type} (x : R α) (e : Env1) (k : α → Sto → Out) : Out := match x with
  | .ok a S => k a S
  | .rz c y S => .rz c y e S
  | .bad => .bad
def Out.andThen (o : Out) (k : Env1 → Sto → Out) : Out := match o with
  | .nx e S => k e S
  | o => o
def sNx : Env1 → Sto → Out := fun e S => .nx e S
def sSeq (a b : Env1 → Sto → Out) : Env1 → Sto → Out := fun e S => (a e S).andThen b
def sSet (i : Nat) (f : Env1 → Sto → R M) : Env1 → Sto → Out := fun e S => (f e S).toS e fun m S1 => .nx (e.set i (some m)) S1
def sRet (f : Env1 → Sto → R M) : Env1 → Sto → Out := fun e S => (f e S).toS e fun m S1 => .rt m S1
def sRetN : Env1 → Sto → Out := fun _ S => .rt (.d .none) S
def sExpr (f : Env1 → Sto → R M) : Env1 → Sto → Out := fun e S => (f e S).toS e fun _ S1 => .nx e S1
def sIf (t : Env1 → Sto → R Bool) (a b : Env1 → Sto → Out) : Env1 → Sto → Out := fun e S => (t e S).toS e fun k S1 => if k then a e S1 else b e S1
def sBk : Env1 → Sto → Out := fun e S => .bk e S
def sCt : Env1 → Sto → Out := fun e S => .ct e S
def forL (ft : M → Env1 → Option Env1) (fb : Env1 → Sto → Out) : List M → Env1 → Sto → Out
  | [], e, S => .nx e S
  | x :: xs, e, S => match ft x e with
    | none => .bad
    | some e1 => match fb e1 S with
      | .nx e2 S2 => forL ft fb xs e2 S2
      | .ct e2 S2 => forL ft fb xs e2 S2
      | .bk e2 S2 => .nx e2 S2
      | o => o
def sFor (fi : Env1 → Sto → R (List M)) (ft : M → Env1 → Option Env1) (fb : Env1 → Sto → Out) : Env1 → Sto → Out := fun e S => (fi e S).toS e fun items S1 => forL ft fb items e S1
def whileL (ft : Env1 → Sto → R Bool) (fb : Env1 → Sto → Out) : Nat → Env1 → Sto → Out
  | 0, _, _ => .bad
  | n + 1, e, S => (ft e S).toS e fun k S1 => if k then (match fb e S1 with
      | .nx e2 S2 => whileL ft fb n e2 S2
      | .ct e2 S2 => whileL ft fb n e2 S2
      | .bk e2 S2 => .nx e2 S2
      | o => o) else .nx e S1
def sWhile (fuel : Env1 → Sto → Nat) (ft : Env1 → Sto → R Bool) (fb : Env1 → Sto → Out) : Env1 → Sto → Out := fun e S => whileL ft fb (fuel e S) e S

theorem tG.bindS {α β : Type} {P : Rel α β} {K : PySem.W.Frag} {g : Cfg} {W : WX} {f : Env1 → Sto → R α} {k : α → Sto → Out} {s : L2.St} {H : Hp} {ph r : List Addr} {S : Sto} {e : Env1} {D : Ends} {Q1 : β → Hp → Prop}
    (so : So K g ph r S H) (ev : Ev K g ph r H e s) (h : PostS K g W ph r s H ((f e S).toS e k) D)
    (w : ∀ m v S' r' H', Ext r H r' H' → So K g ph r' S' H' → Ev K g ph r' H' e s → P K g ph r' H' m v → PostS K g W ph r' s H' (k m S') D → Q1 v H') : tG P K g W f s H Q1 := by
  refine ⟨ph, r, S, e, so, ev, ?_⟩
  cases q : f e S with
  | ok m S' =>
    rw [q] at h
    exact fun r' H' v x s' m' => w m v S' r' H' x s' (ev.mono x) m' (PostS.mono x h)
  | rz c x S' =>
    rw [q] at h
    exact fun r' H' d x s' z => h r' H' s d x s' (ev.mono x) z
  | bad =>
    rw [q] at h
    exact h

/-- slots outside of vs are as they were -/
def Off (vs : List Nat) (s s' : L2.St) : Prop := s'.length = s.length ∧ ∀ k : Nat, k ∉ vs → s'[k]? = s[k]?
theorem Off.refl (vs : List Nat) (s : L2.St) : Off vs s s := ⟨rfl, fun _ _ => rfl⟩
theorem Off.trans {vs : List Nat} {s s1 s2 : L2.St} (a : Off vs s s1) (b : Off vs s1 s2) : Off vs s s2 := ⟨b.1.trans a.1, fun k h => (b.2 k h).trans (a.2 k h)⟩
theorem Off.set {vs : List Nat} {s : L2.St} {i : Nat} {x : Option V} (h : i ∈ vs) : Off vs s (s.set i x) := ⟨by simp, fun k hk => by
  rw [List.getElem?_set_ne]
  intro z
  rw [z] at h
  exact hk h⟩
theorem wipe_off (s : L2.St) : ∀ vs : List Nat, Off vs s (wipe s vs)
  | [] => .refl _ _
  | v :: vs => by
    have h := wipe_off s vs
    refine ⟨by unfold wipe; rw [List.length_set]; exact h.1, fun k hk => ?_⟩
    unfold wipe
    rw [List.getElem?_set_ne (fun z => hk (by rw [z]; exact List.mem_cons_self))]
    exact h.2 k (fun z => hk (List.mem_cons_of_mem _ z))
theorem wipe_in (s : L2.St) : ∀ (vs : List Nat) (k : Nat), k ∈ vs → k < s.length → (wipe s vs)[k]? = some none
  | [], _, h, _ => by simp at h
  | v :: vs, k, h, hl => by
    unfold wipe
    by_cases e : v = k
    · subst e
      rw [List.getElem?_set_self (by rw [(wipe_off s vs).1]; exact hl)]
    · rw [List.getElem?_set_ne e]
      rcases List.mem_cons.mp h with z | z
      · exact absurd z.symm e
      · exact wipe_in s vs k z hl
theorem Off.wipe {vs : List Nat} {s s' : L2.St} (h : Off vs s s') : L2.wipe s' vs = L2.wipe s vs := by
  apply List.ext_getElem?
  intro k
  by_cases hk : k ∈ vs
  · by_cases hl : k < s.length
    · rw [wipe_in s vs k hk hl, wipe_in s' vs k hk (by rw [h.1]; exact hl)]
    · have h1 := (wipe_off s vs).1
      have h2 := (wipe_off s' vs).1
      have h3 := h.1
      rw [List.getElem?_eq_none (show (L2.wipe s' vs).length ≤ k by omega), List.getElem?_eq_none (show (L2.wipe s vs).length ≤ k by omega)]
  · rw [(wipe_off s vs).2 k hk, (wipe_off s' vs).2 k hk, h.2 k hk]
def wipeE (e : Env1) : List Nat → Env1
  | [] => e
  | v :: vs => (wipeE e vs).set v none
theorem Ev.wipe {K : PySem.W.Frag} {g : Cfg} {ph r : List Addr} {H : Hp} {e : Env1} {s : L2.St} (h : Ev K g ph r H e s) : ∀ vs : List Nat, Ev K g ph r H (wipeE e vs) (L2.wipe s vs)
  | [] => h
  | v :: vs => (Ev.wipe h vs).wipe1 v

/-- a target -/
def tMG (K : PySem.W.Frag) (g : Cfg) (vs : List Nat) (f : M → Env1 → Option Env1) : TG := fun v s H Q =>
  ∃ ph r S e m e', So K g ph r S H ∧ Ev K g ph r H e s ∧ Mv K g ph r H m v ∧ f m e = some e' ∧ ∀ r' H' s', Ext r H r' H' → So K g ph r' S H' → Ev K g ph r' H' e' s' → Off vs s s' → Q s' H'
abbrev MG (X : Cx) (g : Cfg) (vs : List Nat) (tg : Expr) (f : M → Env1 → Option Env1) : Prop := PG X tg (tMG X.K g vs f)
def tgN (i : Nat) : M → Env1 → Option Env1 := fun m e => some (e.set i (some m))
def tgT (fs : List (M → Env1 → Option Env1)) : List PyData → Env1 → Option Env1 := match fs with
  | [] => fun xs e => match xs with
    | [] => some e
    | _ :: _ => none
  | f :: fs => fun xs e => match xs with
    | [] => none
    | x :: xs => (f (.d x) e).bind fun e1 => tgT fs xs e1
def tgTup (fs : List (M → Env1 → Option Env1)) : M → Env1 → Option Env1 := fun m e => match m with
  | .d (.tuple xs) => tgT fs xs e
  | _ => none
theorem PG.of {X : Cx} {e : Expr} {t t' : TG} (h : PG X e t) (w : ∀ v s H Q, t' v s H Q → t v s H Q) : PG X e t' := ⟨fun pins s q H v u Q I r z => h.run pins s q H v u Q I r (w _ _ _ _ z)⟩
theorem PGs.of {X : Cx} {e : List Expr} {t t' : TGs} (h : PGs X e t) (w : ∀ v s H Q, t' v s H Q → t v s H Q) : PGs X e t' := ⟨fun pins s q H v u Q I r z => h.run pins s q H v u Q I r (w _ _ _ _ z)⟩
def tMGs (K : PySem.W.Frag) (g : Cfg) (vs : List Nat) (f : List PyData → Env1 → Option Env1) : TGs := fun ws s H Q =>
  ∃ ph r S e ds e', So K g ph r S H ∧ Ev K g ph r H e s ∧ DrAll K (ph ++ r) H ws ds ∧ f ds e = some e' ∧ ∀ r' H' s', Ext r H r' H' → So K g ph r' S H' → Ev K g ph r' H' e' s' → Off vs s s' → Q s' H'
abbrev MGs (X : Cx) (g : Cfg) (vs : List Nat) (tgs : List Expr) (f : List PyData → Env1 → Option Env1) : Prop := PGs X tgs (tMGs X.K g vs f)
section
variable {X : Cx} {g : Cfg} {W : WX} {pos : Pos} {vs : List Nat}
theorem mg_name (i : Nat) {x : Str} (hN : X.N.Nodup) (hv : i ∈ vs := by decide) (hi : X.N[i]? = some x := by rfl) (hx : Loc X.env.scope x := by first | exact .inl rfl | exact .inr rfl) (hf : X.fn x = true ∨ X.env.scope.names.lookup x = some .local := by first | exact .inl rfl | exact .inr rfl | assumption) : MG X g vs (.Name x pos) (tgN i) := by
  refine PG.of (pg_name hN hi hx hf) fun v s H Q h => ?_
  obtain ⟨ph, r, S, e, m, e', so, ev, mv, q, k⟩ := h
  cases q
  exact k r H _ (.refl _ _) so (ev.set i mv) (.set hv)
theorem mgs_nil : MGs X g vs [] (tgT []) := by
  refine PGs.of pgs_nil fun v s H Q h => ?_
  obtain ⟨ph, r, S, e, ds, e', so, ev, dr, q, k⟩ := h
  cases dr with
  | nil =>
    cases q
    exact ⟨rfl, k r H _ (.refl _ _) so ev (.refl _ _)⟩
  | cons => cases q
theorem mgs_cons {t : Expr} {ts : List Expr} {f : M → Env1 → Option Env1} {fs : List (M → Env1 → Option Env1)} (h1 : MG X g vs t f) (h2 : MGs X g vs ts (tgT fs)) (hs : (assignEach (t :: ts) X.env).map (·.2) = assign t X.env :: (assignEach ts X.env).map (·.2) := by rfl) : MGs X g vs (t :: ts) (tgT (f :: fs)) := by
  refine PGs.of (pgs_cons h1 h2 hs) fun v s H Q h => ?_
  obtain ⟨ph, r, S, e, ds, e', so, ev, dr, q, k⟩ := h
  cases dr with
  | nil => cases q
  | @cons v vs' d ds' hd ht =>
    have q : ((f (.d d) e).bind fun e1 => tgT fs ds' e1) = some e' := q
    cases q1 : f (.d d) e with
    | none => rw [q1] at q; cases q
    | some e1 =>
      rw [q1] at q
      refine ⟨v, vs', rfl, ph, r, S, e, .d d, e1, so, ev, hd, q1, fun r1 H1 s1 x1 so1 ev1 o1 => ?_⟩
      exact ⟨ph, r1, S, e1, ds', e', so1, ev1, DrAll.mono x1 ht, q, fun r2 H2 s2 x2 so2 ev2 o2 => k r2 H2 s2 (x1.trans x2) so2 ev2 (o1.trans o2)⟩
theorem Dr.toT {K : PySem.W.Frag} {B : List Addr} {H : Hp} {a : Addr} {ds : List PyData} (h : Dr K B H (.ref a) (.tuple ds)) : ∃ xs, SqT K H a xs ∧ DrAll K B H xs ds := by
  cases h with
  | tup e n t => exact ⟨_, .inl (.inl e), t⟩
  | tupK h1 h2 h3 h4 h5 h6 => exact ⟨_, .inr ⟨_, _, _, h1, h2, h3, h4, h5⟩, h6⟩
theorem mg_tup {ts : List Expr} {k : Nat} {fs : List (M → Env1 → Option Env1)} (hc : X.calm = true) (h : MGs X g vs ts (tgT fs)) (hl : fs.length = ts.length := by rfl) (hn : (assignEach ts X.env).length = ts.length := by rfl) (hst : (assignEach ts X.env).findIdx? (·.1) = none := by rfl) : MG X g vs (.Tuple ts k pos) (tgTup fs) := by
  refine PG.of (pg_tup (n := ts.length) hc h hn hst) fun v s H Q h => ?_
  obtain ⟨ph, r, S, e, m, e', so, ev, mv, q, k⟩ := h
  have len : ∀ (fs : List (M → Env1 → Option Env1)) (ds : List PyData) (e e' : Env1), tgT fs ds e = some e' → ds.length = fs.length := by
    intro fs
    induction fs with
    | nil =>
      intro ds e e' h
      cases ds with
      | nil => rfl
      | cons => cases h
    | cons f fs ih =>
      intro ds e e' h
      cases ds with
      | nil => cases h
      | cons d ds =>
        have h : ((f (.d d) e).bind fun e1 => tgT fs ds e1) = some e' := h
        cases q1 : f (.d d) e with
        | none => rw [q1] at h; cases h
        | some e1 =>
          rw [q1] at h
          rw [List.length_cons, List.length_cons, ih ds e1 e' h]
  cases m with
  | d x =>
    cases x with
    | tuple ds =>
      have q : tgT fs ds e = some e' := q
      cases v with
      | ref a =>
        obtain ⟨xs, hq, ht⟩ := Dr.toT mv
        exact ⟨a, xs, rfl, hq, by rw [ht.length, len _ _ _ _ q, hl], ph, r, S, e, ds, e', so, ev, ht, q, k⟩
      | _ => cases mv
    | _ => cases q
  | _ => cases q

/-! ### what a loop walks -/
def Goes (K : PySem.W.Frag) (g : Cfg) (ph r : List Addr) (H : Hp) (items : List M) (J : It) : Prop := ∀ r' S' H', Ext r H r' H' → So K g ph r' S' H' → ∀ i,
  (∀ m, items[i]? = some m → J.go i H' ∧ ∀ x H'', J.yld i H' x H'' → Ext r' H' r' H'' ∧ So K g ph r' S' H'' ∧ Mv K g ph r' H'' m x) ∧ (items.length ≤ i → J.stop i H')
theorem Goes.mono {K : PySem.W.Frag} {g : Cfg} {ph r r' : List Addr} {H H' : Hp} {items : List M} {J : It} (h : Goes K g ph r H items J) (x : Ext r H r' H') : Goes K g ph r' H' items J := fun r2 S2 H2 y so => h r2 S2 H2 (x.trans y) so
abbrev PIt : Rel (List M) It := fun K g ph r H items J => ∀ ph' : List Addr, (∀ a, a ∈ ph → a ∈ ph') → (∀ a, a ∈ ph' → a ∈ ph ∨ H a = none) → Goes K g ph' r H items J
abbrev tMI (K : PySem.W.Frag) (g : Cfg) (W : WX) (f : Env1 → Sto → R (List M)) : TI := fun s H Q => tG PIt K g W f s H Q
abbrev MI (X : Cx) (g : Cfg) (W : WX) (tg it : Expr) (f : Env1 → Sto → R (List M)) : Prop := PI X tg it (tMI X.K g W f)

/-! ### rules for statements -/
variable {st : Stmt} {sts : List Stmt} {e1 : Expr} {f : Env1 → Sto → R M} {fs fss fa fb : Env1 → Sto → Out}
theorem mss_nil : MSs X g W [] sNx := PSs.of pss_nil fun D s H ⟨ph, r, S, e, so, ev, h⟩ => h r H s (.refl _ _) so ev
theorem mss_cons (h1 : MS X g W st fs) (h2 : MSs X g W sts fss) : MSs X g W (st :: sts) (sSeq fs fss) := by
  refine PSs.of (pss_cons h1 h2) fun D s H h => ?_
  obtain ⟨ph, r, S, e, so, ev, h⟩ := h
  refine ⟨ph, r, S, e, so, ev, ?_⟩
  unfold sSeq at h
  cases q : fs e S with
  | nx e' S' =>
    rw [q] at h
    exact fun r' H' s' x so' ev' => ⟨ph, r', S', e', so', ev', PostS.mono x h⟩
  | _ => rw [q] at h; exact h
theorem mss_one (h1 : MS X g W st fs) : MSs X g W [st] fs := PSs.of (pss_one h1) fun _ _ _ h => h
theorem ms_set (i : Nat) {x : Str} {p : Pos} (hN : X.N.Nodup) (he : ME X g W e1 f) (hi : X.N[i]? = some x := by rfl) (hx : Loc X.env.scope x := by first | exact .inl rfl | exact .inr rfl) (hs : swapsWith e1 (some (.Name x p)) pos.line X.env = pure false := by rfl) (hf : X.fn x = true ∨ X.env.scope.names.lookup x = some .local := by first | exact .inl rfl | exact .inr rfl | assumption) :
    MS X g W (.Assign [.Name x p] e1 pos) (sSet i f) := by
  refine PS.of (ps_set hN hi hx he hs hf) fun D s H h => ?_
  obtain ⟨ph, r, S, e, so, ev, h⟩ := h
  exact tG.bindS so ev h fun m v S1 r1 H1 x1 so1 ev1 m1 h1 => h1 r1 H1 _ (.refl _ _) so1 (ev1.set i m1)
theorem ms_ret (he : ME X g W e1 f) : MS X g W (.Return (some e1) pos) (sRet f) := by
  refine PS.of (ps_ret he) fun D s H h => ?_
  obtain ⟨ph, r, S, e, so, ev, h⟩ := h
  exact tG.bindS so ev h fun m v S1 r1 H1 x1 so1 ev1 m1 h1 => h1 r1 H1 _ (.refl _ _) so1 m1
theorem ms_retN : MS X g W (.Return none pos) sRetN := PS.of ps_retN fun D s H ⟨ph, r, S, e, so, ev, h⟩ => h r H _ (.refl _ _) so .non
theorem ms_expr (he : ME X g W e1 f) (hs : swapsWith e1 none pos.line X.env = pure false := by rfl) : MS X g W (.Expr e1 pos) (sExpr f) := by
  refine PS.of (ps_expr he hs) fun D s H h => ?_
  obtain ⟨ph, r, S, e, so, ev, h⟩ := h
  exact tG.bindS so ev h fun m v S1 r1 H1 x1 so1 ev1 m1 h1 => h1 r1 H1 _ (.refl _ _) so1 ev1
theorem ms_pass : MS X g W (.Pass pos) sNx := PS.of ps_pass fun D s H ⟨ph, r, S, e, so, ev, h⟩ => h r H s (.refl _ _) so ev
theorem ms_break : MS X g W (.Break pos) sBk := PS.of ps_break fun D s H ⟨ph, r, S, e, so, ev, h⟩ => h r H s (.refl _ _) so ev
theorem ms_continue : MS X g W (.Continue pos) sCt := PS.of ps_continue fun D s H ⟨ph, r, S, e, so, ev, h⟩ => h r H s (.refl _ _) so ev
theorem ms_doc {x j p p'} : MS X g W (.Expr (.Constant (.str x) j p) p') sNx := PS.of ps_doc fun D s H ⟨ph, r, S, e, so, ev, h⟩ => h r H s (.refl _ _) so ev
theorem ms_if {c : Expr} {a b : List Stmt} {tc : Env1 → Sto → R Bool} (hc : MT X g W c tc) (ha : MSs X g W a fa) (hb : MSs X g W b fb) : MS X g W (.If c a b pos) (sIf tc fa fb) := by
  refine PS.of (ps_if hc ha hb) fun D s H h => ?_
  obtain ⟨ph, r, S, e, so, ev, h⟩ := h
  refine tG.bindS so ev h fun k k' S1 r1 H1 x1 so1 ev1 m1 h1 => ?_
  cases m1
  cases k with
  | true => exact ⟨ph, r1, S1, e, so1, ev1, h1⟩
  | false => exact ⟨ph, r1, S1, e, so1, ev1, h1⟩
theorem ms_for {tg it : Expr} {body : List Stmt} {fi : Env1 → Sto → R (List M)} {ft : M → Env1 → Option Env1} {fbody : Env1 → Sto → Out} (hp : PassesOwn (model X.prog X.w) X.A X.env X.xe) (hc : X.calm = true) (hi : MI X g W tg it fi) (hg : MG X g vs tg ft) (hb : MSs X g W body fbody)
    (hs : ∀ x, foldedSetIterable it X.env x = pure x := by intro _; rfl) : MS X g W (.For tg it body [] pos) (sFor fi ft fbody) := by
  refine PS.of (ps_for hp hc hi hg hb hs) fun D s H h => ?_
  obtain ⟨ph, r, S, e, so, ev, h⟩ := h
  refine tG.bindS so ev h fun items J S1 r1 H1 x1 so1 ev1 m1 h1 => ?_
  have G := m1 ph (fun _ z => z) (fun _ z => .inl z)
  refine ⟨fun i m s' H' => ∃ r' S' e', Ext r1 H1 r' H' ∧ So X.K g ph r' S' H' ∧ Ev X.K g ph r' H' e' s' ∧ i ≤ items.length ∧ m = items.length - i ∧ PostS X.K g W ph r' s' H' (forL ft fbody (items.drop i) e' S') D, ⟨items.length, r1, S1, e, .refl _ _, so1, ev1, Nat.zero_le _, rfl, h1⟩, ?_⟩
  rintro i m s' H' ⟨r', S', e', x', so', ev', hi', rfl, h'⟩
  obtain ⟨G1, G2⟩ := G r' S' H' x' so' i
  by_cases hl : i < items.length
  · have hd : items.drop i = items[i] :: items.drop (i + 1) := List.drop_eq_getElem_cons hl
    rw [hd] at h'
    obtain ⟨g1, g2⟩ := G1 items[i] (List.getElem?_eq_getElem hl)
    refine .inr ⟨g1, fun s2 H2 => ∃ r2 S2 e2, Ext r1 H1 r2 H2 ∧ So X.K g ph r2 S2 H2 ∧ Ev X.K g ph r2 H2 e2 s2 ∧ PostS X.K g W ph r2 s2 H2 (forL ft fbody (items.drop (i + 1)) e2 S2) D, fun s2 H2 hN => ?_, fun x H2 hy => ?_⟩
    · obtain ⟨r2, S2, e2, y2, so2, ev2, h2⟩ := hN
      exact ⟨items.length - (i + 1), by omega, r2, S2, e2, y2, so2, ev2, hl, rfl, h2⟩
    · obtain ⟨y, so2, mv⟩ := g2 x H2 hy
      unfold forL at h'
      cases q : ft items[i] e' with
      | none => rw [q] at h'; exact h'.elim
      | some e2 =>
        rw [q] at h'
        refine ⟨ph, r', S', e', items[i], e2, so2, ev'.mono y, mv, q, fun r3 H3 s3 y3 so3 ev3 _ => ?_⟩
        refine ⟨ph, r3, S', e2, so3, ev3, ?_⟩
        have x3 : Ext r1 H1 r3 H3 := x'.trans (y.trans y3)
        have h' := PostS.mono (s' := s3) (y.trans y3) h'
        dsimp only at h'
        cases q2 : fbody e2 S' with
        | nx e4 S4 => rw [q2] at h'; exact fun r5 H5 s5 y5 so5 ev5 => ⟨r5, S4, e4, x3.trans y5, so5, ev5, PostS.mono y5 h'⟩
        | ct e4 S4 => rw [q2] at h'; exact fun r5 H5 s5 y5 so5 ev5 => ⟨r5, S4, e4, x3.trans y5, so5, ev5, PostS.mono y5 h'⟩
        | bk e4 S4 => rw [q2] at h'; exact fun r5 H5 s5 y5 so5 ev5 => h' r5 H5 s5 y5 so5 ev5
        | rt m4 S4 => rw [q2] at h'; exact h'
        | rz c4 x4 e4 S4 => rw [q2] at h'; exact h'
        | bad => rw [q2] at h'; exact h'.elim
  · have e0 : items.drop i = [] := List.drop_of_length_le (by omega)
    rw [e0] at h'
    exact .inl ⟨G2 (by omega), h' r' H' s' (.refl _ _) so' ev'⟩
theorem ms_while {c : Expr} {body : List Stmt} {fuel : Env1 → Sto → Nat} {ft : Env1 → Sto → R Bool} {fbody : Env1 → Sto → Out} (hp : PassesOwn (model X.prog X.w) X.A X.env X.xe) (hc : MT X g W c ft) (hb : MSs X g W body fbody) : MS X g W (.While c body [] pos) (sWhile fuel ft fbody) := by
  refine PS.of (ps_while hp hc hb) fun D s H h => ?_
  obtain ⟨ph, r, S, e, so, ev, h⟩ := h
  refine ⟨fun m s' H' => ∃ r' S' e', So X.K g ph r' S' H' ∧ Ev X.K g ph r' H' e' s' ∧ PostS X.K g W ph r' s' H' (whileL ft fbody m e' S') D, ⟨fuel e S, r, S, e, so, ev, h⟩, ?_⟩
  rintro m s' H' ⟨r', S', e', so', ev', h'⟩
  cases m with
  | zero => exact h'.elim
  | succ m =>
    unfold whileL at h'
    refine tG.bindS so' ev' h' fun k k' S1 r1 H1 x1 so1 ev1 m1 h1 => ?_
    cases m1
    cases k with
    | false => exact h1 r1 H1 s' (.refl _ _) so1 ev1
    | true =>
      refine ⟨fun s2 H2 => ∃ r2 S2 e2, So X.K g ph r2 S2 H2 ∧ Ev X.K g ph r2 H2 e2 s2 ∧ PostS X.K g W ph r2 s2 H2 (whileL ft fbody m e2 S2) D, fun s2 H2 hN => ⟨m, Nat.lt_succ_self m, hN⟩, ph, r1, S1, e', so1, ev1, ?_⟩
      simp only [if_true] at h1
      cases q2 : fbody e' S1 with
      | nx e4 S4 => rw [q2] at h1; exact fun r5 H5 s5 y5 so5 ev5 => ⟨r5, S4, e4, so5, ev5, PostS.mono y5 h1⟩
      | ct e4 S4 => rw [q2] at h1; exact fun r5 H5 s5 y5 so5 ev5 => ⟨r5, S4, e4, so5, ev5, PostS.mono y5 h1⟩
      | bk e4 S4 => rw [q2] at h1; exact fun r5 H5 s5 y5 so5 ev5 => h1 r5 H5 s5 y5 so5 ev5
      | rt m4 S4 => rw [q2] at h1; exact h1
      | rz c4 x4 e4 S4 => rw [q2] at h1; exact h1
      | bad => rw [q2] at h1; exact h1.elim
end
end Mr

end
section
set_option maxRecDepth 100000
set_option autoImplicit false
namespace Mr
open PySem PySem.Spec L2
open PyProof.Rows hiding St

theorem nodup_at {α : Type} {l : List α} (h : l.Nodup) : ∀ {i j : Nat} {x : α}, l[i]? = some x → l[j]? = some x → i = j := by
  induction l with
  | nil => intro i j x e; simp at e
  | cons a l ih =>
    obtain ⟨h1, h2⟩ := List.nodup_cons.mp h
    intro i j x e1 e2
    cases i with
    | zero =>
      simp at e1
      subst e1
      cases j with
      | zero => rfl
      | succ j => exact absurd (List.mem_of_getElem? (by simpa using e2)) h1
    | succ i =>
      cases j with
      | zero =>
        simp at e2
        subst e2
        exact absurd (List.mem_of_getElem? (by simpa using e1)) h1
      | succ j => exact congrArg Nat.succ (ih h2 (i := i) (j := j) (x := x) (by simpa using e1) (by simpa using e2))
/-! ### a shut or owned object is changed -/
theorem tabs_upd {g : Cfg} {H : Hp} {D : Addr} {o o' : HO} (e : H D = some o) (n1 : ∀ ps, o ≠ .tbl ps) (n2 : ∀ φ, o ≠ .ext φ) (t : Tb g H) : Tb g (upd H D o') := ⟨fun p hp => by
  obtain ⟨ps, h1, h2, h3⟩ := t.1 p hp
  refine ⟨ps, ?_, h2, fun pos cv hc => ?_⟩
  · rw [upd_ne (ne_of h1 e (fun z => n1 ps z.symm))]; exact h1
  · obtain ⟨c, e1, e2⟩ := h3 pos cv hc
    exact ⟨c, e1, by rw [upd_ne (ne_of e2 e (fun z => n2 _ z.symm))]; exact e2⟩, fun p hp => by
  rw [upd_ne (ne_of (t.2 p hp) e (fun z => n2 _ z.symm))]
  exact t.2 p hp⟩
section
variable {K : PySem.W.Frag} {g : Cfg} {ph r r' : List Addr} {H H' : Hp}
theorem Xv.shut {B : List Addr} {p : Addr} {o : HO} (hp : p ∈ B) {d : Option Addr} : ∀ {x : Option (Str × PyData)}, Xv K B H d x → Xv K B (upd H p o) d x
  | none, _ => trivial
  | some (f, y), h => by
    obtain ⟨dd, w, e1, e, n, t⟩ := h
    exact ⟨dd, w, e1, by rw [upd_ne (fun z => n (by rw [z]; exact hp))]; exact e, n, Dr.shut hp t⟩
theorem Mv.shut {p : Addr} {o : HO} (hp : p ∈ ph ++ r) : ∀ {m : M} {v : V}, Mv K g ph r H m v → Mv K g ph r (upd H p o) m v
  | .d _, _, h => Dr.shut hp h
  | .loc n, _, h => h
  | .ro _, _, h => by
    obtain ⟨a, vs, rfl, e, t⟩ := h
    refine ⟨a, vs, rfl, e.imp (fun q => ?_) id, DrAll.shut hp t⟩
    obtain ⟨o, e, n⟩ := q
    exact ⟨o, by rw [upd_ne (fun z => n (by rw [z]; exact hp))]; exact e, n⟩
  | .fn _, _, h => h
  | .ty _, _, h => h
  | .kdc _ _, _, h => h
  | .exn _ _, _, h => by
    obtain ⟨a, d, e1, rfl, t⟩ := h
    exact ⟨a, d, e1, rfl, Xv.shut hp t⟩
theorem Ov.shut {p : Addr} {o : HO} (hp : p ∈ ph ++ r) {x : O} {u : HO} (h : Ov K g ph r H x u) : Ov K g ph r (upd H p o) x u := by
  cases x with
  | lst xs =>
    cases u with
    | lst vs => exact Paired.mapP h fun _ _ => Mv.shut (g := g) hp
    | _ => exact h
  | dct kvs =>
    cases u with
    | dK ws => exact Paired.mapP h fun _ _ z => ⟨z.1, Mv.shut (g := g) hp z.2⟩
    | _ => exact h
theorem Ev.shut {p : Addr} {o : HO} (hp : p ∈ ph ++ r) {e : Env1} {s : L2.St} (h : Ev K g ph r H e s) : Ev K g ph r (upd H p o) e s := Paired.mapP h fun m v z => by
  cases m with
  | none => trivial
  | some m =>
    cases v with
    | none => exact z
    | some v => exact Mv.shut hp z
/-- a foreign object is changed -/
theorem So.shut {S : Sto} {p : Addr} {o o' : HO} (s : So K g ph r S H) (hp : p ∈ ph) (e : H p = some o) (n1 : ∀ ps, o ≠ .tbl ps) (n2 : ∀ φ, o ≠ .ext φ) (ho : ∀ ps, o' ≠ .tbl ps := by intro _ z; cases z) : So K g ph r S (upd H p o') := by
  refine ⟨s.len, s.nd, s.dis, fun a ha => ?_, fun n u q => ?_, tabs_upd e n1 n2 s.tabs, fun q hq => Ev.shut (List.mem_append_left _ hp) (s.kp q hq)⟩
  · by_cases h : a = p
    · exact ⟨o', by rw [h, upd_same], ho⟩
    · obtain ⟨u, q, t⟩ := s.there a ha
      exact ⟨u, by rw [upd_ne h]; exact q, t⟩
  · obtain ⟨a, w, e1, e2, e3⟩ := s.at_ n u q
    have hne : a ≠ p := fun z => s.dis p hp (by rw [← z]; exact List.mem_of_getElem? e1)
    exact ⟨a, w, e1, by rw [upd_ne hne]; exact e2, e3.shut (List.mem_append_left _ hp)⟩
/-- an owned object is changed -/
theorem So.put {S : Sto} {n : Nat} {p : Addr} {o o' : HO} {x : O} (s : So K g ph r S H) (hn : r[n]? = some p) (e : H p = some o) (n1 : ∀ ps, o ≠ .tbl ps) (n2 : ∀ φ, o ≠ .ext φ) (hv : Ov K g ph r H x o') (ho : ∀ ps, o' ≠ .tbl ps := by intro _ z; cases z) : So K g ph r (S.set n x) (upd H p o') := by
  have hp : p ∈ r := List.mem_of_getElem? hn
  have hpB : p ∈ ph ++ r := List.mem_append_right _ hp
  refine ⟨by rw [List.length_set]; exact s.len, s.nd, s.dis, fun a ha => ?_, fun k u q => ?_, tabs_upd e n1 n2 s.tabs, fun q hq => Ev.shut hpB (s.kp q hq)⟩
  · by_cases h : a = p
    · exact ⟨o', by rw [h, upd_same], ho⟩
    · obtain ⟨u, q, t⟩ := s.there a ha
      exact ⟨u, by rw [upd_ne h]; exact q, t⟩
  · by_cases hk : k = n
    · subst hk
      have hl : k < S.length := by rw [← s.len]; exact (List.getElem?_eq_some_iff.mp hn).1
      rw [List.getElem?_set_self hl] at q
      cases q
      exact ⟨p, o', hn, by rw [upd_same], hv.shut hpB⟩
    · rw [List.getElem?_set_ne (Ne.symm hk)] at q
      obtain ⟨a, w, e1, e2, e3⟩ := s.at_ k u q
      have hne : a ≠ p := fun z => by
        subst z
        exact hk (nodup_at s.nd e1 hn)
      exact ⟨a, w, e1, by rw [upd_ne hne]; exact e2, e3.shut hpB⟩
/-- a new object is owned -/
theorem So.own {S : Sto} {p : Addr} {o : HO} {x : O} (s : So K g ph r S H) (hp : H p = none) (hv : Ov K g ph (r ++ [p]) (upd H p o) x o) : So K g ph (r ++ [p]) (S ++ [x]) (upd H p o) := by
  have x1 : Ext r H (r ++ [p]) (upd H p o) := Ext.own hp
  have fr := s.fresh hp
  refine ⟨by simp [s.len], ?_, fun a ha z => ?_, fun a ha => ?_, fun k u q => ?_, s.tabs.ext fun b u e => by rw [upd_ne (ne_of_none e hp)]; exact e, fun q hq => (s.kp q hq).mono x1⟩
  · refine List.nodup_append.mpr ⟨s.nd, by simp, fun a ha b hb => ?_⟩
    rw [List.mem_singleton.mp hb]
    exact fun z => fr (List.mem_append_right _ (by rw [← z]; exact ha))
  · rcases List.mem_append.mp z with z | z
    · exact s.dis a ha z
    · rw [List.mem_singleton.mp z] at ha
      exact fr (List.mem_append_left _ ha)
  · obtain ⟨u, e, t⟩ := s.there a ha
    exact x1.stay a u e t
  · by_cases hk : k < S.length
    · rw [List.getElem?_append_left hk] at q
      obtain ⟨a, w, e1, e2, e3⟩ := s.at_ k u q
      exact ⟨a, w, by rw [List.getElem?_append_left (by rw [s.len]; exact hk)]; exact e1, by rw [upd_ne (ne_of_none e2 hp)]; exact e2, e3.mono x1⟩
    · rw [List.getElem?_append_right (by omega)] at q
      have hk2 : k - S.length = 0 := by
        by_cases hz : k - S.length = 0
        · exact hz
        · rw [List.getElem?_eq_none (by simp; omega)] at q
          cases q
      rw [hk2] at q
      cases q
      exact ⟨p, o, by rw [List.getElem?_append_right (by rw [s.len]; omega), s.len, hk2]; rfl, by rw [upd_same], hv⟩
theorem Mv.less {ph' : List Addr} (h : ∀ a, a ∈ ph' → a ∈ ph) : ∀ {m : M} {v : V}, Mv K g ph r H m v → Mv K g ph' r H m v := by
  have hB : ∀ a, a ∈ ph' ++ r → a ∈ ph ++ r := fun a ha => by
    rcases List.mem_append.mp ha with z | z
    · exact List.mem_append_left _ (h a z)
    · exact List.mem_append_right _ z
  intro m v q
  cases m with
  | d x => exact Dr.less hB q
  | loc n => exact q
  | ro xs =>
    obtain ⟨a, vs, e1, e, t⟩ := q
    refine ⟨a, vs, e1, e.imp (fun q => ?_) id, DrAll.less hB t⟩
    obtain ⟨o, e, n⟩ := q
    exact ⟨o, e, fun z => n (hB a z)⟩
  | fn a => exact q
  | ty n => exact q
  | kdc a ks => exact q
  | exn c x =>
    obtain ⟨a, d, e1, e2, t⟩ := q
    refine ⟨a, d, e1, e2, ?_⟩
    cases x with
    | none => trivial
    | some p =>
      obtain ⟨f, y⟩ := p
      obtain ⟨dd, w, h1, e, n, t⟩ := t
      exact ⟨dd, w, h1, e, fun z => n (hB dd z), Dr.less hB t⟩
theorem So.less {S : Sto} {ph' : List Addr} (s : So K g ph r S H) (h : ∀ a, a ∈ ph' → a ∈ ph) : So K g ph' r S H := by
  refine ⟨s.len, s.nd, fun a ha => s.dis a (h a ha), fun a ha => s.there a (h a ha), fun n u e => ?_, s.tabs, fun q hq => Paired.mapP (s.kp q hq) fun m v z => ?_⟩
  rotate_left
  · cases m with
    | none => trivial
    | some m =>
      cases v with
      | none => exact z
      | some v => exact Mv.less (g := g) h z
  obtain ⟨a, w, e1, e2, e3⟩ := s.at_ n u e
  refine ⟨a, w, e1, e2, ?_⟩
  cases u with
  | lst xs =>
    cases w with
    | lst vs => exact Paired.mapP e3 fun _ _ z => Mv.less (g := g) h z
    | _ => exact e3
  | dct kvs =>
    cases w with
    | dK ws => exact Paired.mapP e3 fun _ _ z => ⟨z.1, Mv.less (g := g) h z.2⟩
    | _ => exact e3
/-- what was not there is changed -/
theorem Ext.over {D : Addr} {o : HO} (x : Ext r H r' H') (h : H D = none) : Ext r H r' (upd H' D o) := by
  refine ⟨fun a u e n t => ?_, fun a u e t => ?_, x.pre⟩
  · rw [upd_ne (ne_of_none e h)]; exact x.keep a u e n t
  · rw [upd_ne (ne_of_none e h)]; exact x.stay a u e t
end

/-! ### comprehensions -/
def R.nox {α : Type} (x : R α) : R α := match x with
  | .ok a S => .ok a S
  | _ => .bad
def lcL (ft : M → Env1 → Option Env1) (tt : Env1 → Sto → R Bool) (fe : Env1 → Sto → R M) : List M → Env1 → Sto → List PyData → R M
  | [], _, S, acc => .ok (.d (.list acc)) S
  | x :: xs, e, S, acc => match ft x e with
    | none => .bad
    | some e1 => (tt e1 S).nox.bind fun b S1 => if b then (fe e1 S1).nox.bind (fun m S2 => match m with
        | .d y => if acc.length < sizeLine then lcL ft tt fe xs e S2 (acc ++ [y]) else .bad
        | _ => .bad) else lcL ft tt fe xs e S1 acc
def eLc (vs : List Nat) (fi : Env1 → Sto → R (List M)) (ft : M → Env1 → Option Env1) (tt : Env1 → Sto → R Bool) (fe : Env1 → Sto → R M) : Env1 → Sto → R M := fun e S => (fi e S).bind fun items S1 => lcL ft tt fe items (wipeE e vs) S1 []
abbrev W0 : WX := fun _ _ _ _ => False
def tYesM : Env1 → Sto → R Bool := fun _ S => .ok true S
abbrev MTs (X : Cx) (g : Cfg) (W : WX) (ifs : List Expr) (f : Env1 → Sto → R Bool) : Prop := PTs X ifs (tMT X.K g W f)
theorem PTs.of {X : Cx} {e : List Expr} {t t' : TT} (h : PTs X e t) (w : ∀ s H Q, t' s H Q → t s H Q) : PTs X e t' := ⟨fun pins s q H Q I z => h.run pins s q H Q I (w _ _ _ z)⟩
theorem mts_nil {X : Cx} {g : Cfg} {W : WX} : MTs X g W [] tYesM := PTs.of pts_nil fun s H Q ⟨ph, r, S, e, so, ev, h⟩ => h r H true (.refl _ _) so rfl
theorem mts_one {X : Cx} {g : Cfg} {W : WX} {c : Expr} {t : Env1 → Sto → R Bool} (h : MT X g W c t) : MTs X g W [c] t := pts_one h
section
variable {X : Cx} {g : Cfg} {W : WX} {pos : Pos}
theorem tLc_of {own : List Nat} {fi : Env1 → Sto → R (List M)} {ft : M → Env1 → Option Env1} {ftt : Env1 → Sto → R Bool} {fe : Env1 → Sto → R M} {K : PySem.W.Frag} (s : L2.St) (H : Hp) (Q : VK) (h : tM K g W (eLc own fi ft ftt fe) s H Q) :
    tLc (tMI K g W fi) (tMG K g own ft) (tMT K g W0 ftt) (tM K g W0 fe) own s H Q := by
  obtain ⟨ph, r, S, e, so, ev, h⟩ := h
  refine tG.bind so ev h fun items J S1 r1 H1 x1 so1 ev1 m1 h1 => ?_
  intro D hD
  have hm : ∀ a, a ∈ D :: ph → a ∈ ph ∨ H1 a = none := fun a ha => by
    rcases List.mem_cons.mp ha with z | z
    · rw [z]; exact .inr hD
    · exact .inl z
  have hl : ∀ a, a ∈ ph → a ∈ D :: ph := fun a ha => List.mem_cons_of_mem _ ha
  have G := m1 (D :: ph) hl hm
  have ev2 : Ev K g (D :: ph) r1 H1 (wipeE e own) (L2.wipe s own) := (ev1.more hm hl).wipe own
  refine ⟨fun i m H' => ∃ r' S' acc va, Ext r1 H1 r' H' ∧ So K g (D :: ph) r' S' H' ∧ H' D = some (.lst va) ∧ DrAll K ((D :: ph) ++ r') H' va acc ∧ i ≤ items.length ∧ m = items.length - i ∧
    Post PV K g (fun c d H' => W c d s H') ph r1 H1 (lcL ft ftt fe (items.drop i) (wipeE e own) S' acc) Q, ⟨items.length, r1, S1, [], [], Ext.new hD, so1.more hD, upd_same, .nil, Nat.zero_le _, rfl, h1⟩, ?_⟩
  rintro i m H' ⟨r', S', acc, va, x', so', eD, da, hi', rfl, h'⟩
  obtain ⟨G1, G2⟩ := G r' S' H' x' so' i
  by_cases hlt : i < items.length
  · have hd : items.drop i = items[i] :: items.drop (i + 1) := List.drop_eq_getElem_cons hlt
    rw [hd] at h'
    obtain ⟨g1, g2⟩ := G1 items[i] (List.getElem?_eq_getElem hlt)
    refine .inr ⟨g1, fun H2 => ∃ r2 S2 acc2 va2, Ext r1 H1 r2 H2 ∧ So K g (D :: ph) r2 S2 H2 ∧ H2 D = some (.lst va2) ∧ DrAll K ((D :: ph) ++ r2) H2 va2 acc2 ∧
      Post PV K g (fun c d H' => W c d s H') ph r1 H1 (lcL ft ftt fe (items.drop (i + 1)) (wipeE e own) S2 acc2) Q, fun H2 hN => ?_, fun x H2 hy => ?_⟩
    · obtain ⟨r2, S2, acc2, va2, y2, so2, e2, d2, h2⟩ := hN
      exact ⟨items.length - (i + 1), by omega, r2, S2, acc2, va2, y2, so2, e2, d2, hlt, rfl, h2⟩
    · obtain ⟨y, so2, mv⟩ := g2 x H2 hy
      unfold lcL at h'
      cases q : ft items[i] (wipeE e own) with
      | none => rw [q] at h'; exact h'.elim
      | some e2 =>
        rw [q] at h'
        dsimp only at h'
        refine ⟨D :: ph, r', S', wipeE e own, items[i], e2, so2, ev2.mono (x'.trans y), mv, q, fun r3 H3 s3 y3 so3 ev3 off => ⟨?_, ?_⟩⟩
        · exact off.wipe.trans ((wipe_off s own).wipe)
        · have keepD : ∀ {r r' : List Addr} {H H' : Hp} {S : Sto} {va : List V}, So K g (D :: ph) r S H → Ext r H r' H' → H D = some (.lst va) → H' D = some (.lst va) := fun so x e => x.keep D _ e (so.dis D List.mem_cons_self) (fun _ z => by cases z)
          have e3 := keepD so2 y3 (keepD so' y eD)
          have d3 : DrAll K ((D :: ph) ++ r3) H3 va acc := DrAll.mono y3 (DrAll.mono y da)
          have x3 := x'.trans (y.trans y3)
          refine ⟨D :: ph, r3, S', e2, so3, ev3, ?_⟩
          cases q2 : ftt e2 S' with
          | ok b S4 =>
            rw [q2] at h'
            intro r4 H4 b' y4 so4 eb
            cases eb
            have e4 := keepD so3 y4 e3
            have d4 : DrAll K ((D :: ph) ++ r4) H4 va acc := DrAll.mono y4 d3
            cases b with
            | false => exact ⟨r4, S4, acc, va, x3.trans y4, so4, e4, d4, h'⟩
            | true =>
              simp only [R.nox, R.bind, if_true] at h'
              rw [if_pos rfl]
              refine ⟨D :: ph, r4, S4, e2, so4, ev3.mono y4, ?_⟩
              cases q5 : fe e2 S4 with
              | ok m5 S5 =>
                rw [q5] at h'
                intro r5 H5 v5 y5 so5 m5'
                have e5 := keepD so4 y5 e4
                have d5 : DrAll K ((D :: ph) ++ r5) H5 va acc := DrAll.mono y5 d4
                cases m5 with
                | d y6 =>
                  dsimp only at h'
                  by_cases hz : acc.length < sizeLine
                  · rw [if_pos hz] at h'
                    have hin : D ∈ (D :: ph) ++ r5 := List.mem_append_left _ List.mem_cons_self
                    refine ⟨va, e5, by rw [d5.length]; exact hz, r5, S5, acc ++ [y6], va ++ [v5], (x3.trans (y4.trans y5)).over hD, so5.shut List.mem_cons_self e5 (fun _ z => by cases z) (fun _ z => by cases z), upd_same, ?_, h'⟩
                    exact (DrAll.shut hin d5).snoc (Dr.shut hin m5')
                  · rw [if_neg hz] at h'; exact h'.elim
                | _ => exact h'.elim
              | rz c x S => rw [q5] at h'; exact h'.elim
              | bad => rw [q5] at h'; exact h'.elim
          | rz c x S => rw [q2] at h'; exact h'.elim
          | bad => rw [q2] at h'; exact h'.elim
  · have e0 : items.drop i = [] := List.drop_of_length_le (by omega)
    rw [e0] at h'
    refine .inl ⟨G2 (by omega), h' r' H' (.ref D) x' (so'.less hl) ?_⟩
    have hDn : D ∉ ph ++ r' := fun z => by
      rcases List.mem_append.mp z with z | z
      · obtain ⟨o, e, _⟩ := so1.there D z
        rw [hD] at e; cases e
      · exact so'.dis D List.mem_cons_self z
    refine .lst eD hDn (DrAll.less (fun a ha => ?_) da)
    rcases List.mem_append.mp ha with z | z
    · exact List.mem_append_left _ (hl a z)
    · exact List.mem_append_right _ z
variable {elt tg iter : Expr} {ifs : List Expr} {scope : Scope} {own : List (Str × Nat)} {fi : Env1 → Sto → R (List M)} {ft : M → Env1 → Option Env1} {ftt : Env1 → Sto → R Bool} {fe : Env1 → Sto → R M}
theorem me_lc (hc : X.calm = true) (hN : X.N.Nodup) (hi : MI X g W tg iter fi) (ok : BlkOk X.N X.env.scope scope own)
    (hg : ∀ (s : Shared) (H : Hp) (C : Addr) (cl : List (Str × Addr)) (fp : List Addr), MG (X.blk s H scope (compEnvC scope cl C X.env) fp) g (own.map (·.2)) tg ft) (ht : ∀ (s : Shared) (H : Hp) (C : Addr) (cl : List (Str × Addr)) (fp : List Addr), MTs (X.blk s H scope (compEnvC scope cl C X.env) fp) g W0 ifs ftt)
    (he : ∀ (s : Shared) (H : Hp) (C : Addr) (cl : List (Str × Addr)) (fp : List Addr), ME (X.blk s H scope (compEnvC scope cl C X.env) fp) g W0 elt fe) (hs : ∀ x, foldedSetIterable iter X.env x = pure x := by intro _; rfl) :
    ME X g W (.ListComp elt [⟨tg, iter, ifs, 0⟩] scope pos) (eLc (own.map (·.2)) fi ft ftt fe) := PE.of (pe_lc hc hN hi ok hg ht he hs) tLc_of
theorem ms_setLc (i : Nat) {y : Str} {py spos : Pos} (hc : X.calm = true) (hN : X.N.Nodup) (hi : MI X g W tg iter fi) (ok : BlkOk X.N X.env.scope scope own)
    (hg : ∀ (s : Shared) (H : Hp) (C : Addr) (cl : List (Str × Addr)) (fp : List Addr), MG (X.blk s H scope (compEnvC scope cl C X.env) fp) g (own.map (·.2)) tg ft) (ht : ∀ (s : Shared) (H : Hp) (C : Addr) (cl : List (Str × Addr)) (fp : List Addr), MTs (X.blk s H scope (compEnvC scope cl C X.env) fp) g W0 ifs ftt)
    (he : ∀ (s : Shared) (H : Hp) (C : Addr) (cl : List (Str × Addr)) (fp : List Addr), ME (X.blk s H scope (compEnvC scope cl C X.env) fp) g W0 elt fe)
    (hsw : swapsWith (.ListComp elt [⟨tg, iter, ifs, 0⟩] scope pos) (some (.Name y py)) spos.line X.env = pure true) (hy : X.N[i]? = some y := by rfl) (hyl : X.env.scope.names.lookup y = some .local := by rfl) (hs : ∀ x, foldedSetIterable iter X.env x = pure x := by intro _; rfl) :
    MS X g W (.Assign [.Name y py] (.ListComp elt [⟨tg, iter, ifs, 0⟩] scope pos) spos) (sSet i (eLc (own.map (·.2)) fi ft ftt fe)) := by
  refine PS.of (ps_setLc (g := tMG X.K g (own.map (·.2)) ft) (tt := tMT X.K g W0 ftt) (te := tM X.K g W0 fe) hc hN hy hyl hsw hi ok hg ht he hs) fun D s H h => ?_
  obtain ⟨ph, r, S, e, so, ev, h⟩ := h
  refine tLc_of s H _ ?_
  exact tG.bindS so ev h fun m v S1 r1 H1 x1 so1 ev1 m1 h1 => h1 r1 H1 _ (.refl _ _) so1 (ev1.set i m1)
end

/-! ### what a def promises -/
def spM (K : PySem.W.Frag) (g : Cfg) (n : Nat) (f : List M → Sto → R M) : Sp := fun vs H Q E =>
  ∃ ph r S ms, ms.length = n ∧ So K g ph r S H ∧ Paired (Mv K g ph r H) ms vs ∧ Post PV K g E ph r H (f ms S) Q
/-- a body's outcome as an answer; what the def made is let go -/
def below (n : Nat) : M → Bool
  | .loc k => decide (k < n)
  | .exn _ _ => false
  | _ => true
def oBelow (n : Nat) : O → Bool
  | .lst xs => xs.all (below n)
  | .dct kvs => kvs.all fun kv => below n kv.2
def ansOf (o : Out) : R M := match o with
  | .nx _ S => .ok (.d .none) S
  | .rt m S => .ok m S
  | .rz c x _ S => .rz c x S
  | _ => .bad
/-- the mirror of a def: N names, the arguments first -/
def fnM (N : Nat) (body : Env1 → Sto → Out) : List M → Sto → R M := fun ms S => ansOf (body (ms.map some ++ List.replicate (N - ms.length) none) S)
theorem Paired.append' {α β : Type} {P : α → β → Prop} : ∀ {as : List α} {bs : List β} {as' : List α} {bs' : List β}, Paired P as bs → Paired P as' bs' → Paired P (as ++ as') (bs ++ bs')
  | _, _, _, _, .nil, h => h
  | _, _, _, _, .cons a t, h => .cons a (Paired.append' t h)
theorem Paired.len' {α β : Type} {P : α → β → Prop} : ∀ {as : List α} {bs : List β}, Paired P as bs → as.length = bs.length
  | _, _, .nil => rfl
  | _, _, .cons _ t => by rw [List.length_cons, List.length_cons, Paired.len' t]
theorem ev_start {K : PySem.W.Frag} {g : Cfg} {ph r : List Addr} {H : Hp} {N : List Str} {ms : List M} {vs : List V} (h : Paired (Mv K g ph r H) ms vs) : Ev K g ph r H (ms.map some ++ List.replicate (N.length - ms.length) none) (L2.start N vs) := by
  have e := Paired.len' h
  unfold L2.start
  rw [e]
  refine Paired.append' ?_ ?_
  · clear e
    induction h with
    | nil => exact .nil
    | cons a t ih => exact .cons a ih
  · generalize N.length - vs.length = n
    induction n with
    | zero => exact .nil
    | succ n ih => exact .cons trivial ih
section
variable {P : Program} {w : World} {K : PySem.W.Frag} {mg : Str → Option Value} {base : Heap} {g : Cfg}
theorem body_of {N : List Str} {n : Nat} {body : Env1 → Sto → Out} {vs : List V} {H : Hp} {Q : VK} {E : XK} (h : spM K g n (fnM N.length body) vs H Q E) : tMS K g (fun c d _ H' => E c d H') body { nx := fun _ H' => Q .non H', rt := Q } (L2.start N vs) H := by
  obtain ⟨ph, r, S, ms, hn, so, mv, h⟩ := h
  refine ⟨ph, r, S, _, so, ev_start mv, ?_⟩
  unfold fnM at h
  cases q : body (ms.map some ++ List.replicate (N.length - ms.length) none) S with
  | nx e S1 => rw [q] at h; exact fun r1 H1 s1 x1 so1 ev1 => h r1 H1 .non x1 so1 .non
  | rt m S1 => rw [q] at h; exact fun r1 H1 v x1 so1 m1 => h r1 H1 v x1 so1 m1
  | bk e S1 => rw [q] at h; exact h.elim
  | ct e S1 => rw [q] at h; exact h.elim
  | rz c x e S1 => rw [q] at h; exact fun r1 H1 s1 d x1 so1 ev1 z => h r1 H1 d x1 so1 z
  | bad => rw [q] at h; exact h.elim
/-- a def's promise where no guard stands around (for repr) -/
structure FnG (gd : Bool) (P : Program) (w : World) (K : PySem.W.Frag) (mg : Str → Option Value) (base : Heap) (k : Nat) (f : Addr) (fd : FuncData) (ps : List Str) (sp : Sp) : Prop where
  len : ∀ vs H Q E, sp vs H Q E → vs.length = ps.length
  run : ∀ (A : Around) (fr : List Env) (s : Shared) (H : Hp) (args : Args) (us : List Value) (vs : List V) (Q : VK) (E : XK), Room k A → (gd = true → A.guards = some []) → Env0 P w K mg base A fr s H →
    BindsTo s fd args (ps.zip us) → Vals vs us → sp vs H Q E → codeAny (model P w) A (.call (.ref f) args) (CR (L2.CX P w) fr P w H s Q E) s
theorem FnG.mono {gd : Bool} {j k : Nat} {f : Addr} {fd : FuncData} {ps : List Str} {sp : Sp} (F : FnG gd P w K mg base j f fd ps sp) (h : j ≤ k) : FnG gd P w K mg base k f fd ps sp :=
  ⟨F.len, fun A fr s H args us vs Q E hr => F.run A fr s H args us vs Q E (hr.mono h)⟩
theorem deeper_guards {gd : Bool} {A : Around} {env : Env} (h : gd = true → A.guards = some []) : gd = true → (A.deeper env).guards = some [] := fun e => by
  have h := h e
  first
    | exact h
    | simpa [Around.deeper, pushGuards] using h
/-- a def (that may raise) keeps what its mirror tells -/
theorem fn_ok {gd : Bool} {x qual : Str} {st : Stmt} {f : Addr} {fd : FuncData} {N ps : List Str} {k : Nat} {sp : Sp} (F : Fun K x qual st f fd) (S : FnScope N ps (defScope st)) (len : ∀ vs H Q E, sp vs H Q E → vs.length = ps.length)
    (hbody : ∀ (cdv : Value) (A : Around) (fr : List Env) (s : Shared) (H : Hp) (vs : List V) (Q : VK) (E : XK), Room k (A.deeper (envOfC qual (defScope st) s.heap.objs.size f cdv)) → (gd = true → (A.deeper (envOfC qual (defScope st) s.heap.objs.size f cdv)).guards = some []) → sp vs H Q E →
      ∃ t, PSs (cxOf (L2.CX P w) P w K mg base N qual (defScope st) f cdv A fr s H E) (defBody st) t ∧ t { nx := fun _ H' => Q .non H', rt := Q } (L2.start N vs) H) : FnG gd P w K mg base (k + 1) f fd ps sp := by
  obtain ⟨oc, od, kV, doc, pm, an, cdv, ct, osl, rfl, lk, hcd⟩ := F.ex
  refine ⟨len, fun A fr s H args us vs Q E hr hG e0 hb r hsp => ?_⟩
  have vl := len _ _ _ _ hsp
  have inK : K.In s.heap := e0.mod.kin.keeps fun b o e => (e0.bs b o e).1
  have noLim : s.heap.NoLimit := e0.mod.nolimit.keeps fun b o e => (e0.bs b o e).1
  have kinds : ∀ y ∈ ps.zip us, (defScope st).names.lookup y.1 = some .local ∨ ((defScope st).names.lookup y.1 = some .cell ∧ ((cellsFrom (s.heap.objs.size + 1) (defScope st).names []).lookup y.1).isSome = true) := fun y hy =>
    (S.par y.1 (List.of_mem_zip (show (y.1, y.2) ∈ ps.zip us from hy)).1).imp id fun q => ⟨q, PySem.W.cellsFrom_some _ _ _ (.inl q)⟩
  refine codeAny_call_function hr.depth (inK _ _ lk) rfl S.co S.gen rfl (PySem.W.codeRec_of inK hcd) (hb _ _ _ _ ?_)
  refine wpAny_newFunctionEnv_cells S.kind kinds fun env he st1 ic => ?_
  cases he
  refine ⟨noLim.keeps ic.toInCall.keep, codeAny_func ?_⟩
  obtain ⟨t, ht, hq⟩ := hbody cdv A fr s H vs Q E (hr.deeper _) (deeper_guards hG) hsp
  have J0 : Inv (cxOf (L2.CX P w) P w K mg base N qual (defScope st) f cdv A fr s H E) [] (L2.start N vs) H st1 := inv_start S hr.hd e0 vl r ic
  refine wpAny_mono (ht.run [] st1 (L2.start N vs) H _ J0 hq) (fun fl s' hs => ?_) fun _ _ z => z
  cases fl with
  | next =>
    obtain ⟨q1, H1, J, z⟩ := hs
    exact ⟨.non, H1, J.os, J.bare, J.base, J.hok, rfl, z⟩
  | ret u =>
    obtain ⟨v, q1, H1, J, rv, z⟩ := hs
    exact ⟨v, H1, J.os, J.bare, J.base, J.hok, rv, z⟩
  | brk => exact hs.elim fun _ z => z.elim fun _ z => z.2.elim
  | cont => exact hs.elim fun _ z => z.elim fun _ z => z.2.elim
theorem spM_len {n : Nat} {f : List M → Sto → R M} {ps : List Str} (hn : n = ps.length) (vs : List V) (H : Hp) (Q : VK) (E : XK) (h : spM K g n f vs H Q E) : vs.length = ps.length := by
  obtain ⟨ph, r, S, ms, hm, so, mv, h⟩ := h
  rw [← Paired.len' mv, hm, hn]
end
section
variable {X : Cx} {g : Cfg} {W : WX} {pos p : Pos} {x : Str} {f : Addr} {fd : FuncData} {ps : List Str} {k n : Nat} {fm : List M → Sto → R M} {a : Expr} {es : List Expr} {fs : Env1 → Sto → R (List M)}
theorem run_g {gd : Bool} {sp : Sp} {E : XK} {pins : List (Addr × Obj)} {s : L2.St} {H : Hp} {sh : Shared} {Q : VK} {args : Args} {us : List Value} {vs : List V} (F : FnG gd X.prog X.w X.K X.mg X.base k f fd ps sp) (hr : Room k X.A) (hG : gd = true → X.A.guards = some []) (tk : Takes X W) (hE : ∀ c d H', E c d H' → W c d s H')
    (I : Inv X pins s H sh) (hb : BindsTo sh fd args (ps.zip us)) (r : Vals vs us) (h : sp vs H Q E) : wpAny (model X.prog X.w) X.A (call (.ref f) args.1 args.2) (EP X pins s Q) X.xe sh := by
  refine wpAny_call (codeAny_mono (F.run X.A X.stack sh H args us vs Q E hr hG I.env0 hb r h) fun res sh' hq => ?_)
  match res, hq with
  | .error e, hq => exact tk e sh' (XE.of_call I hE hq)
  | .ok (.ret u), hq => exact I.after hq
  | .ok .next, hq => exact hq.elim
  | .ok .brk, hq => exact hq.elim
  | .ok .cont, hq => exact hq.elim
/-- what binds: positional values, then the keywords' ones, as the parameters stand -/
def permL {α : Type} (d : α) (perm : List Nat) (xs : List α) : List α := perm.map fun i => xs.getD i d
def eCallK (perm : List Nat) (f : List M → Sto → R M) (a : Env1 → Sto → R (List M)) : Env1 → Sto → R M := fun e S => (a e S).bind fun ms S1 => f (permL (.d .none) perm ms) S1
theorem me_call {gd : Bool} (G : FnG gd X.prog X.w X.K X.mg X.base k f fd ps (spM X.K g n fm)) (hr : Room k X.A) (hG : gd = true → X.A.guards = some []) (tk : Takes X W) (hm : X.mg x = some (.ref f)) (hk : PySem.W.keepIn X.K (.ref f) = true) (hb : Binds X.K fd ps []) (ha : MA X g W (a :: es) fs) (hn : (a :: es).length = n := by rfl) (hl : ∀ e S ms S', fs e S = .ok ms S' → ms.length = (a :: es).length)
    (hg : Gl X x := by rfl) (hdb : (x == ("__debug__" : Str)) = false := by decide) (he : starEach (a :: es) X.env = (false, eval a X.env) :: starEach es X.env := by rfl) (hpl : (backTo pos (starEach es X.env)).any (·.1) = false := by rfl) :
    ME X g W (.Call (.Name x p) (a :: es) [] pos) (eCall fm fs) := by
  refine ⟨fun pins sh s H Q I h => ?_⟩
  obtain ⟨ph, r, S, e, so, ev, h⟩ := h
  refine wpAny_Call_Name_kw (ld_glob I hg hm ?_ hdb)
  have h2 : tG PVs X.K g W fs s H (fun vs H1 => spM X.K g n fm vs H1 Q (fun c d H' => W c d s H')) := by
    refine ⟨ph, r, S, e, so, ev, ?_⟩
    unfold eCall at h
    cases q : fs e S with
    | ok ms S1 =>
      rw [q] at h
      exact fun r1 H1 vs x1 so1 m1 => ⟨ph, r1, S1, ms, (hl e S ms S1 q).trans hn, so1, m1, Post.mono x1 h⟩
    | rz c y S1 => rw [q] at h; exact h
    | bad => rw [q] at h; exact h
  refine PySem.W.callWith_K (h₀ := X.base) I.ok.mod.kin hk (thn (ha.run pos pins sh s H _ I h2) fun us s1 ⟨vs, H1, I1, rr, q⟩ => ⟨I1.kIn, ?_⟩) he hpl
  have hlen : us.length = ps.length := by rw [← rr.length]; exact G.len _ _ _ _ q
  have b := hb s1 us I1.kIn (by rw [List.append_nil]; exact hlen)
  rw [List.append_nil] at b
  exact run_g (args := ⟨us, []⟩) G hr hG tk (fun _ _ _ z => z) I1 b rr q
/-- f(.., k = v, ..) -/
abbrev tMK (K : PySem.W.Frag) (g : Cfg) (W : WX) (f : Env1 → Sto → R (List M)) : TA := tG PVs K g W f
abbrev MK (X : Cx) (g : Cfg) (W : WX) (kws : List Keyword) (f : Env1 → Sto → R (List M)) : Prop := PK X kws (tMK X.K g W f)
theorem PK.of {X : Cx} {e : List Keyword} {t t' : TA} (h : PK X e t) (w : ∀ s H Q, t' s H Q → t s H Q) : PK X e t' := ⟨fun pos pins s q H Q I z => h.run pos pins s q H Q I (w _ _ _ z)⟩
theorem mk_nil : MK X g W [] aN := PK.of pk_nil fun s H Q ⟨ph, r, S, e, so, ev, h⟩ => h r H [] (.refl _ _) so .nil
theorem mk_cons {kws : List Keyword} {nm : Option Str} {kpos : Pos} {fa : Env1 → Sto → R M} {ks : Env1 → Sto → R (List M)} (ha : ME X g W a fa) (hb : MK X g W kws ks) : MK X g W (⟨nm, a, kpos⟩ :: kws) (aC fa ks) := by
  refine PK.of (pk_cons ha hb) fun s H Q h => ?_
  obtain ⟨ph, r, S, e, so, ev, h⟩ := h
  refine tG.bind so ev h fun m v S1 r1 H1 x1 so1 ev1 m1 h1 => ?_
  refine tG.bind so1 ev1 h1 fun ms vs S2 r2 H2 x2 so2 ev2 m2 h2 => ?_
  exact h2 r2 H2 (v :: vs) (.refl _ _) so2 (.cons (Mv.mono x2 m1) m2)
def aApp (a b : Env1 → Sto → R (List M)) : Env1 → Sto → R (List M) := fun e S => (a e S).bind fun xs S1 => (b e S1).bind fun ys S2 => .ok (xs ++ ys) S2
theorem permL_rel {α β : Type} {P : α → β → Prop} {da : α} {db : β} (hd : P da db) {xs : List α} {ys : List β} (h : Paired P xs ys) (perm : List Nat) : Paired P (permL da perm xs) (permL db perm ys) := by
  have at_ : ∀ i, P (xs.getD i da) (ys.getD i db) := by
    intro i
    induction h generalizing i with
    | nil => exact hd
    | cons a t ih =>
      cases i with
      | zero => exact a
      | succ i => exact ih i
  unfold permL
  induction perm with
  | nil => exact .nil
  | cons i r ih => exact .cons (at_ i) ih
/-- how a call by names binds; nu values by position -/
def KBind (fd : FuncData) (ps ks : List Str) (nu : Nat) (perm : List Nat) : Prop := ∀ (s : Shared) (us ws : List Value), us.length = nu → ws.length = ks.length → BindsTo s fd ⟨us, ks.zip ws⟩ (ps.zip (permL .none perm (us ++ ws)))
theorem me_callK {gd : Bool} {kws : List Keyword} {ks : List Str} {perm : List Nat} {fk : Env1 → Sto → R (List M)} (G : FnG gd X.prog X.w X.K X.mg X.base k f fd ps (spM X.K g n fm)) (hr : Room k X.A) (hG : gd = true → X.A.guards = some []) (tk : Takes X W) (hm : X.mg x = some (.ref f)) (hk : PySem.W.keepIn X.K (.ref f) = true) (hb : KBind fd ps ks 0 perm) (ha : MK X g W kws fk) (hn : perm.length = n) (hl : ∀ e S ms S', fk e S = .ok ms S' → ms.length = ks.length)
    (hall : (backToKw pos (keywordEach kws X.env)).all (·.1.isSome) = true := by rfl) (hks : (backToKw pos (keywordEach kws X.env)).filterMap (·.1) = ks := by rfl)
    (hg : Gl X x := by rfl) (hdb : (x == ("__debug__" : Str)) = false := by decide) (hpl : ((backTo pos (starEach [] X.env)).any (·.1) || (backToKw pos (keywordEach kws X.env)).any (·.1.isNone)) = false := by rfl) :
    ME X g W (.Call (.Name x p) [] kws pos) (eCallK perm fm fk) := by
  refine ⟨fun pins sh s H Q I h => ?_⟩
  obtain ⟨ph, r, S, e, so, ev, h⟩ := h
  refine wpAny_Call_Name_kw (ld_glob I hg hm ?_ hdb)
  have h2 : tG PVs X.K g W fk s H (fun vs H1 => vs.length = ks.length ∧ spM X.K g n fm (permL .non perm vs) H1 Q (fun c d H' => W c d s H')) := by
    refine ⟨ph, r, S, e, so, ev, ?_⟩
    unfold eCallK at h
    cases q : fk e S with
    | ok ms S1 =>
      rw [q] at h
      refine fun r1 H1 vs x1 so1 m1 => ⟨by rw [← Paired.len' m1]; exact hl e S ms S1 q, ph, r1, S1, _, by unfold permL; rw [List.length_map]; exact hn, so1, permL_rel (show Mv X.K g ph r1 H1 (.d .none) V.non from .non) m1 perm, Post.mono x1 h⟩
    | rz c y S1 => rw [q] at h; exact h
    | bad => rw [q] at h; exact h
  refine PySem.W.callWith_KW0 (h₀ := X.base) I.ok.mod.kin hk hall (thn (ha.run pos pins sh s H _ I h2) fun ws s1 ⟨vs, H1, I1, rr, hv, q⟩ => ⟨I1.kIn, ?_⟩) hpl
  rw [hks]
  have b := hb s1 [] ws rfl (by rw [← rr.length]; exact hv)
  exact run_g (args := ⟨[], ks.zip ws⟩) G hr hG tk (fun _ _ _ z => z) I1 b (permL_rel (show RelV .non .none from rfl) rr perm) q
end
theorem aN_len (e : Env1) (S : Sto) (ms : List M) (S' : Sto) (h : aN e S = .ok ms S') : ms.length = 0 := by cases h; rfl
theorem aC_len {a : Env1 → Sto → R M} {b : Env1 → Sto → R (List M)} {n : Nat} (hb : ∀ e S ms S', b e S = .ok ms S' → ms.length = n) (e : Env1) (S : Sto) (ms : List M) (S' : Sto) (h : aC a b e S = .ok ms S') : ms.length = n + 1 := by
  unfold aC at h
  cases q : a e S with
  | ok m S1 =>
    rw [q] at h
    have h : ((b e S1).bind fun xs S2 => R.ok (m :: xs) S2) = .ok ms S' := h
    cases q2 : b e S1 with
    | ok xs S2 =>
      rw [q2] at h
      cases h
      rw [List.length_cons, hb e S1 xs _ q2]
    | rz c y S2 => rw [q2] at h; cases h
    | bad => rw [q2] at h; cases h
  | rz c y S1 => rw [q] at h; cases h
  | bad => rw [q] at h; cases h
end Mr

end
section
set_option maxRecDepth 100000
set_option autoImplicit false
namespace Mr
open PySem PySem.Spec L2
open PyProof.Rows hiding St

/-! ### data out of values -/
def dOf : M → Option PyData
  | .d x => some x
  | _ => none
def dsOf : List M → Option (List PyData)
  | [] => some []
  | m :: ms => (dOf m).bind fun x => (dsOf ms).map (x :: ·)
/-- what == sees: data, an owned list of data -/
def asD (m : M) (S : Sto) : Option PyData := match m with
  | .d x => some x
  | .loc n => match S[n]? with
    | some (.lst xs) => (dsOf xs).map .list
    | _ => none
  | _ => none
def flatD : PyData → Bool
  | .none => true
  | .bool _ => true
  | .int _ => true
  | .str _ => true
  | _ => false
def vOf : PyData → V
  | .bool b => .bl b
  | .int i => .int i
  | .str x => .str x
  | _ => .non
section
variable {K : PySem.W.Frag} {g : Cfg} {ph r : List Addr} {H : Hp} {S : Sto}
theorem Dr.flat {B : List Addr} {v : V} {d : PyData} (h : Dr K B H v d) (f : flatD d = true) : v = vOf d := by
  cases h with
  | non => rfl
  | bl b => rfl
  | int i => rfl
  | str x => rfl
  | lst => cases f
  | tup => cases f
  | tupK => cases f
  | dct => cases f
theorem flat_v {d : PyData} (f : flatD d = true) : flatV (vOf d) = true := by
  cases d <;> first | rfl | cases f
theorem flat_eq {a b : PyData} (fa : flatD a = true) (fb : flatD b = true) : eqV (vOf a) (vOf b) = PyData.eqv a b := by
  cases a <;> cases b <;> simp_all [vOf, eqV, PyData.eqv, flatD]
theorem DrAll.flat {B : List Addr} : ∀ {vs : List V} {ds : List PyData}, DrAll K B H vs ds → ds.all flatD = true → vs = ds.map vOf
  | _, _, .nil, _ => rfl
  | _, _, .cons a t, f => by
    rw [List.all_cons, Bool.and_eq_true] at f
    rw [List.map_cons, Dr.flat a f.1, DrAll.flat t f.2]
theorem dsOf_rel : ∀ {ms : List M} {vs : List V} {ds : List PyData}, Paired (Mv K g ph r H) ms vs → dsOf ms = some ds → DrAll K (ph ++ r) H vs ds
  | _, _, _, .nil, h => by cases h; exact .nil
  | _, _, ds, @Paired.cons _ _ _ m v ms vs a t, h => by
    have h : ((dOf m).bind fun x => (dsOf ms).map (x :: ·)) = some ds := h
    cases m with
    | d x =>
      cases q : dsOf ms with
      | none => simp [dOf, q] at h
      | some ds' =>
        simp [dOf, q] at h
        subst h
        exact .cons a (dsOf_rel t q)
    | _ => simp [dOf] at h
mutual
/-- without dicts -/
def noDict : PyData → Bool
  | .list xs => noDictAll xs
  | .tuple xs => noDictAll xs
  | .dict _ => false
  | _ => true
def noDictAll : List PyData → Bool
  | [] => true
  | x :: xs => noDict x && noDictAll xs
end
mutual
theorem Dr.dp {B : List Addr} : ∀ {v : V} {d : PyData}, Dr K B H v d → noDict d = true → Dp K H v d
  | _, _, .non, _ => .non
  | _, _, .bl b, _ => .bl b
  | _, _, .int i, _ => .int i
  | _, _, .str s, _ => .str s
  | _, _, .lst e n h, f => .lst (.inl (.inl e)) (DrAll.dp h f)
  | _, _, .tup e n h, f => .tup (.inl (.inl e)) (DrAll.dp h f)
  | _, _, .tupK a b c d e h, f => .tup (.inr ⟨_, _, _, a, b, c, d, e⟩) (DrAll.dp h f)
  | _, _, .dct e n l h, f => by cases f
theorem DrAll.dp {B : List Addr} : ∀ {vs : List V} {ds : List PyData}, DrAll K B H vs ds → noDictAll ds = true → DpAll K H vs ds
  | _, _, .nil, _ => .nil
  | _, _, @DrAll.cons _ _ _ v vs d ds h t, f => by
    have f : (noDict d && noDictAll ds) = true := f
    rw [Bool.and_eq_true] at f
    exact .cons (Dr.dp h f.1) (DrAll.dp t f.2)
end
mutual
theorem noDict_of : ∀ d : PyData, d.canLay0 = true → noDict d = true
  | .none, _ => rfl
  | .bool _, _ => rfl
  | .int _, _ => rfl
  | .str _, _ => rfl
  | .list xs, h => noDictAll_of xs (by simpa [PyData.canLay0] using h)
  | .tuple xs, h => noDictAll_of xs (by simpa [PyData.canLay0] using h)
  | .dict _, h => by simp [PyData.canLay0] at h
theorem noDictAll_of : ∀ ds : List PyData, PyData.canLayAll0 ds = true → noDictAll ds = true
  | [], _ => rfl
  | x :: xs, h => by
    have h : (x.canLay0 && PyData.canLayAll0 xs) = true := by simpa [PyData.canLayAll0] using h
    rw [Bool.and_eq_true] at h
    show (noDict x && noDictAll xs) = true
    rw [noDict_of x h.1, noDictAll_of xs h.2]
    rfl
end
theorem asD_dp {m : M} {v : V} {d : PyData} (so : So K g ph r S H) (mv : Mv K g ph r H m v) (q : asD m S = some d) (f : SeqAt.shaped d = true) : Dp K H v d := by
  have nd : noDict d = true := noDict_of d (SeqAt.canLay_of_shaped f)
  cases m with
  | d x => cases q; exact Dr.dp mv nd
  | loc n =>
    obtain ⟨a, e, rfl⟩ := mv
    cases e2 : S[n]? with
    | none => simp only [asD, e2] at q; cases q
    | some o =>
      simp only [asD, e2] at q
      cases o with
      | lst xs =>
        obtain ⟨a', u, h1, h2, h3⟩ := so.at_ n _ e2
        rw [e] at h1; cases h1
        cases u with
        | lst vs =>
          cases q3 : dsOf xs with
          | none => simp [q3] at q
          | some ds =>
            simp [q3] at q
            subst q
            exact .lst (.inl (.inl h2)) (DrAll.dp (dsOf_rel h3 q3) nd)
        | _ => exact h3.elim
      | dct kvs => cases q
  | _ => cases q

/-! ### operators -/
/-- a new object of data comes -/
theorem new_dr {Q : VK} {o : HO} {d : PyData} (so : So K g ph r S H) (k : ∀ r' H' v, Ext r H r' H' → So K g ph r' S H' → Mv K g ph r' H' (.d d) v → Q v H')
    (h : ∀ p, H p = none → p ∉ ph ++ r → Dr K (ph ++ r) (upd H p o) (.ref p) d) : ∀ p, H p = none → Q (.ref p) (upd H p o) := fun p hp =>
  k r _ _ (.new hp) (so.new hp) (h p hp (so.fresh hp))
theorem dr_lst {p : Addr} {vs : List V} {ds : List PyData} (hp : H p = none) (n : p ∉ ph ++ r) (h : DrAll K (ph ++ r) H vs ds) : Dr K (ph ++ r) (upd H p (.lst vs)) (.ref p) (.list ds) := .lst upd_same n (DrAll.mono (Ext.new hp) h)
theorem dr_tup {p : Addr} {vs : List V} {ds : List PyData} (hp : H p = none) (n : p ∉ ph ++ r) (h : DrAll K (ph ++ r) H vs ds) : Dr K (ph ++ r) (upd H p (.tup vs)) (.ref p) (.tuple ds) := .tup upd_same n (DrAll.mono (Ext.new hp) h)
def opAdd : M → M → Sto → Option M
  | .d (.int i), .d (.int j), _ => some (.d (.int (i + j)))
  | .d (.str a), .d (.str b), _ => if a.length + b.length ≤ sizeLine then some (.d (.str (a ++ b))) else none
  | .d (.list a), .d (.list b), _ => if a.length + b.length ≤ sizeLine then some (.d (.list (a ++ b))) else none
  | .d (.tuple a), .d (.tuple b), _ => if a.length + b.length ≤ sizeLine then some (.d (.tuple (a ++ b))) else none
  | _, _, _ => none
def rrAdd (K : PySem.W.Frag) : R2 := fun x y H Q => (rI0 (fun i j => .int (i + j)) x y H Q ∨ (∃ i j, x = .str i ∧ y = .str j ∧ i.length + j.length ≤ sizeLine ∧ Q (.str (i ++ j)) H)) ∨ (rCat x y H Q ∨ rCatA K x y H Q)
theorem o_add {X : Cx} : OpR X (binaryOp .Add) (rrAdd X.K) := (op_add.or op_add_str).or (op_cat.or op_catA)
theorem s_add : Snd2 K g (rrAdd K) opAdd := by
  intro ph r S H m1 m2 m v1 v2 Q so a1 a2 h k
  unfold opAdd at h
  split at h
  · cases h; cases a1; cases a2
    exact .inl (.inl ⟨_, _, rfl, rfl, k r H _ (.refl _ _) so (.int _)⟩)
  · cases a1; cases a2
    split at h
    · rename_i hz
      cases h
      exact .inl (.inr ⟨_, _, rfl, rfl, hz, k r H _ (.refl _ _) so (.str _)⟩)
    · cases h
  · split at h
    · rename_i hz
      cases h
      cases a1 with
      | lst e1 n1 t1 =>
        cases a2 with
        | lst e2 n2 t2 =>
          exact .inr (.inl ⟨_, _, _, _, rfl, rfl, e1, e2, by rw [t1.length, t2.length]; exact hz, new_dr so k fun p hp n => dr_lst hp n (t1.append t2)⟩)
    · cases h
  · split at h
    · rename_i ds es hz
      cases h
      have key : ∀ {a b : Addr} {xs ys : List V}, SqT K H a xs → DrAll K (ph ++ r) H xs ds → SqT K H b ys → DrAll K (ph ++ r) H ys es → Dr K (ph ++ r) H (.ref a) (.tuple ds) → Dr K (ph ++ r) H (.ref b) (.tuple es) → rrAdd K (.ref a) (.ref b) H Q := by
        intro a b xs ys h1 t1 h2 t2 d1 d2
        refine .inr (.inr ⟨_, _, _, _, rfl, rfl, h1, h2, by rw [t1.length, t2.length]; exact hz, fun z => ?_, fun _ z => ?_, fun _ _ => new_dr so k fun p hp n => dr_tup hp n (t1.append t2)⟩)
        · subst z
          cases t1
          exact k r H _ (.refl _ _) so d2
        · subst z
          cases t2
          rw [List.append_nil] at k
          exact k r H _ (.refl _ _) so d1
      have r1 : ∃ a, v1 = .ref a := by cases a1 <;> exact ⟨_, rfl⟩
      have r2 : ∃ a, v2 = .ref a := by cases a2 <;> exact ⟨_, rfl⟩
      obtain ⟨a, rfl⟩ := r1
      obtain ⟨b, rfl⟩ := r2
      obtain ⟨xs, h1, t1⟩ := Dr.toT a1
      obtain ⟨ys, h2, t2⟩ := Dr.toT a2
      exact key h1 t1 h2 t2 a1 a2
    · cases h
  · cases h
/-- ints alone -/
def opI (c : Int → Int → Bool) (f : Int → Int → PyData) : M → M → Sto → Option M
  | .d (.int i), .d (.int j), _ => if c i j then some (.d (f i j)) else none
  | _, _, _ => none
theorem s_int {C : Int → Int → Prop} {c : Int → Int → Bool} {f : Int → Int → PyData} {fv : Int → Int → V} (hc : ∀ i j, c i j = true → C i j) (hf : ∀ K B H i j, Dr K B H (fv i j) (f i j)) : Snd2 K g (rI C fv) (opI c f) := by
  intro ph r S H m1 m2 m v1 v2 Q so a1 a2 h k
  unfold opI at h
  split at h
  · cases a1; cases a2
    split at h
    · rename_i hz
      cases h
      exact ⟨_, _, rfl, rfl, hc _ _ hz, k r H _ (.refl _ _) so (hf _ _ _ _ _)⟩
    · cases h
  · cases h
theorem s_int0 {f : Int → Int → PyData} {fv : Int → Int → V} (hf : ∀ K B H i j, Dr K B H (fv i j) (f i j)) : Snd2 K g (rI0 fv) (opI (fun _ _ => true) f) := by
  intro ph r S H m1 m2 m v1 v2 Q so a1 a2 h k
  unfold opI at h
  split at h
  · cases a1; cases a2
    cases h
    exact ⟨_, _, rfl, rfl, k r H _ (.refl _ _) so (hf _ _ _ _ _)⟩
  · cases h
def opSub : M → M → Sto → Option M := opI (fun _ _ => true) fun i j => .int (i - j)
def cMul (i j : Int) : Bool := (decide (-(2 ^ 64) < i) && decide (i < 2 ^ 64)) || (decide (-(2 ^ 64) < j) && decide (j < 2 ^ 64))
def opMulI : M → M → Sto → Option M := opI cMul fun i j => .int (i * j)
def cDiv (_ j : Int) : Bool := decide (j ≠ 0) && decide (j.natAbs < 1073741824)
def opFdiv : M → M → Sto → Option M := opI cDiv fun i j => .int (i.fdiv j)
def opMod : M → M → Sto → Option M := opI (fun _ j => decide (j ≠ 0)) fun i j => .int (i.fmod j)
def cPow (i j : Int) : Bool := decide (0 ≤ j) && (decide (j ≤ 1000000) && decide (i.natAbs < 2 ^ 64))
def opPow : M → M → Sto → Option M := opI cPow fun i j => .int (i ^ j.toNat)
def opLt : M → M → Sto → Option M := opI (fun _ _ => true) fun i j => .bool (decide (i < j))
def opLe : M → M → Sto → Option M := opI (fun _ _ => true) fun i j => .bool (decide (i ≤ j))
def opGt : M → M → Sto → Option M := opI (fun _ _ => true) fun i j => .bool (decide (j < i))
def opGe : M → M → Sto → Option M := opI (fun _ _ => true) fun i j => .bool (decide (j ≤ i))
theorem s_sub : Snd2 K g (rI0 fun i j => .int (i - j)) opSub := s_int0 fun _ _ _ _ _ => .int _
theorem s_mulI : Snd2 K g (rI CMul fun i j => .int (i * j)) opMulI := s_int (fun i j h => by simpa [cMul, CMul] using h) fun _ _ _ _ _ => .int _
theorem s_fdiv : Snd2 K g (rI CDivN fun i j => .int (i.fdiv j)) opFdiv := s_int (fun i j h => by simpa [cDiv, CDivN] using h) fun _ _ _ _ _ => .int _
theorem s_mod : Snd2 K g (rI (fun _ j => j ≠ 0) fun i j => .int (i.fmod j)) opMod := s_int (fun i j h => by simpa using h) fun _ _ _ _ _ => .int _
theorem s_pow : Snd2 K g (rI CPow fun i j => .int (i ^ j.toNat)) opPow := s_int (fun i j h => by simpa [cPow, CPow] using h) fun _ _ _ _ _ => .int _
theorem s_lt : Snd2 K g (rI0 fun i j => .bl (decide (i < j))) opLt := s_int0 fun _ _ _ _ _ => .bl _
theorem s_le : Snd2 K g (rI0 fun i j => .bl (decide (i ≤ j))) opLe := s_int0 fun _ _ _ _ _ => .bl _
theorem s_gt : Snd2 K g (rI0 fun i j => .bl (decide (j < i))) opGt := s_int0 fun _ _ _ _ _ => .bl _
theorem s_ge : Snd2 K g (rI0 fun i j => .bl (decide (j ≤ i))) opGe := s_int0 fun _ _ _ _ _ => .bl _
/-- products, a tuple or a list repeated -/
def opMul : M → M → Sto → Option M
  | .d (.int i), .d (.int j), _ => if cMul i j then some (.d (.int (i * j))) else none
  | .d (.tuple a), .d (.int k), _ => if a.isEmpty = false ∧ 2 ≤ k ∧ k ≤ 1000 ∧ a.length ≤ 1000 then some (.d (.tuple (List.replicate k.toNat a).flatten)) else none
  | .d (.list a), .d (.int k), _ => if -(2 ^ 63) ≤ k ∧ k < 2 ^ 63 ∧ a.length * k.toNat ≤ sizeLine then some (.d (.list (List.replicate k.toNat a).flatten)) else none
  | _, _, _ => none
def rrMul (K : PySem.W.Frag) : R2 := fun x y H Q => (rI CMul (fun i j => .int (i * j)) x y H Q) ∨ (rRepT K x y H Q ∨ rRep x y H Q)
theorem o_mul {X : Cx} : OpR X (binaryOp .Mult) (rrMul X.K) := op_mul.or (op_repT.or op_rep)
theorem DrAll.rep {B : List Addr} {vs : List V} {ds : List PyData} (h : DrAll K B H vs ds) : ∀ n : Nat, DrAll K B H (List.replicate n vs).flatten (List.replicate n ds).flatten
  | 0 => .nil
  | n + 1 => by
    rw [List.replicate_succ, List.replicate_succ, List.flatten_cons, List.flatten_cons]
    exact h.append (DrAll.rep h n)
theorem s_mul : Snd2 K g (rrMul K) opMul := by
  intro ph r S H m1 m2 m v1 v2 Q so a1 a2 h k
  unfold opMul at h
  split at h
  · cases a1; cases a2
    split at h
    · rename_i hz
      cases h
      exact .inl ⟨_, _, rfl, rfl, by simpa [cMul, CMul] using hz, k r H _ (.refl _ _) so (.int _)⟩
    · cases h
  · split at h
    · rename_i ds kk hz
      cases h
      have r1 : ∃ a, v1 = .ref a := by cases a1 <;> exact ⟨_, rfl⟩
      obtain ⟨a, rfl⟩ := r1
      obtain ⟨xs, h1, t1⟩ := Dr.toT a1
      cases a2
      refine .inr (.inl ⟨_, _, _, rfl, rfl, h1, fun z => ?_, hz.2.1, hz.2.2.1, by rw [t1.length]; exact hz.2.2.2, new_dr so k fun p hp n => dr_tup hp n (t1.rep _)⟩)
      subst z
      cases t1
      exact absurd hz.1 (by simp)
    · cases h
  · split at h
    · rename_i hz
      cases h
      cases a2
      cases a1 with
      | lst e1 n1 t1 => exact .inr (.inr ⟨_, _, _, rfl, rfl, e1, hz.1, hz.2.1, by rw [t1.length]; exact hz.2.2, new_dr so k fun p hp n => dr_lst hp n (t1.rep _)⟩)
    · cases h
  · cases h
def opNeg : M → Sto → Option M
  | .d (.int i), _ => some (.d (.int (-i)))
  | _, _ => none
theorem s_neg : Snd1 K g (rU fun i => .int (-i)) opNeg := by
  intro ph r S H m1 m v1 Q so a1 h k
  unfold opNeg at h
  split at h
  · cases h; cases a1
    exact ⟨_, rfl, k r H _ (.refl _ _) so (.int _)⟩
  · cases h
/-- == and != of data -/
def opEqG (neg : Bool) (x y : M) (S : Sto) : Option M := (asD x S).bind fun a => (asD y S).bind fun b => if SeqAt.shaped a && SeqAt.shaped b then some (.d (.bool (if neg then !PyData.eqv a b else PyData.eqv a b))) else none
def opEq : M → M → Sto → Option M := opEqG false
def opNe : M → M → Sto → Option M := opEqG true
theorem eqG_of {neg : Bool} {x y : M} {m : M} (h : opEqG neg x y S = some m) : ∃ a b, asD x S = some a ∧ asD y S = some b ∧ SeqAt.shaped a = true ∧ SeqAt.shaped b = true ∧ m = .d (.bool (if neg then !PyData.eqv a b else PyData.eqv a b)) := by
  unfold opEqG at h
  cases q1 : asD x S with
  | none => simp [q1] at h
  | some a =>
    cases q2 : asD y S with
    | none => simp [q1, q2] at h
    | some b =>
      simp [q1, q2] at h
      obtain ⟨⟨s1, s2⟩, h⟩ := h
      refine ⟨a, b, rfl, rfl, s1, s2, ?_⟩
      rw [← h]
theorem s_eq : Snd2 K g (rEqD K) opEq := by
  intro ph r S H m1 m2 m v1 v2 Q so a1 a2 h k
  obtain ⟨a, b, q1, q2, s1, s2, rfl⟩ := eqG_of h
  exact ⟨a, b, asD_dp so a1 q1 s1, asD_dp so a2 q2 s2, s1, s2, k r H _ (.refl _ _) so (.bl _)⟩
theorem s_ne : Snd2 K g (rNeD K) opNe := by
  intro ph r S H m1 m2 m v1 v2 Q so a1 a2 h k
  obtain ⟨a, b, q1, q2, s1, s2, rfl⟩ := eqG_of h
  exact ⟨a, b, asD_dp so a1 q1 s1, asD_dp so a2 q2 s2, s1, s2, k r H _ (.refl _ _) so (.bl _)⟩
/-- in, not in, over flat things -/
def itemsD : PyData → Option (List PyData)
  | .list xs => some xs
  | .tuple xs => some xs
  | _ => none
def opInG (neg : Bool) : M → M → Sto → Option M
  | .d x, .d y, _ => match itemsD y with
    | some ys => if flatD x && ys.all flatD then some (.d (.bool (if neg then !(ys.any fun z => PyData.eqv z x) else ys.any fun z => PyData.eqv z x))) else none
    | none => none
  | _, _, _ => none
def opIn : M → M → Sto → Option M := opInG false
def opNotIn : M → M → Sto → Option M := opInG true
theorem items_of {B : List Addr} {v : V} {y : PyData} {ys : List PyData} (h : Dr K B H v y) (q : itemsD y = some ys) : ∃ p vs, v = .ref p ∧ (SqL K H p vs ∨ SqT K H p vs) ∧ DrAll K B H vs ys := by
  cases h with
  | lst e n t => cases q; exact ⟨_, _, rfl, .inl (.inl (.inl e)), t⟩
  | tup e n t => cases q; exact ⟨_, _, rfl, .inr (.inl (.inl e)), t⟩
  | tupK a b c d e t => cases q; exact ⟨_, _, rfl, .inr (.inr ⟨_, _, _, a, b, c, d, e⟩), t⟩
  | _ => cases q
theorem s_inG (neg : Bool) : Snd2 K g (rIn K neg) (opInG neg) := by
  intro ph r S H m1 m2 m v1 v2 Q so a1 a2 h k
  unfold opInG at h
  split at h
  · rename_i x y
    cases q : itemsD y with
    | none => rw [q] at h; cases h
    | some ys =>
      rw [q] at h
      dsimp only at h
      split at h
      · rename_i hz
        rw [Bool.and_eq_true] at hz
        cases h
        obtain ⟨p, vs, rfl, hs, t⟩ := items_of a2 q
        have e1 := Dr.flat a1 hz.1
        have e2 := t.flat hz.2
        subst e1 e2
        refine ⟨p, _, rfl, hs, flat_v hz.1, ?_, ?_⟩
        · rw [List.all_map, List.all_eq_true]
          intro z hzz
          exact flat_v (List.all_eq_true.mp hz.2 z hzz)
        · have e3 : inV (vOf x) (ys.map vOf) = ys.any fun z => PyData.eqv z x := by
            unfold inV
            rw [List.any_map, Bool.eq_iff_iff, List.any_eq_true, List.any_eq_true]
            constructor
            · rintro ⟨z, h1, h2⟩
              exact ⟨z, h1, by rw [← flat_eq (List.all_eq_true.mp hz.2 z h1) hz.1]; exact h2⟩
            · rintro ⟨z, h1, h2⟩
              exact ⟨z, h1, by rw [← flat_eq (List.all_eq_true.mp hz.2 z h1) hz.1] at h2; exact h2⟩
          rw [e3]
          exact k r H _ (.refl _ _) so (.bl _)
      · cases h
  · cases h
def opIsN : M → M → Sto → Option M
  | .d x, .d .none, _ => some (.d (.bool (match x with | .none => true | _ => false)))
  | _, _, _ => none
def opNotN : M → M → Sto → Option M
  | .d x, .d .none, _ => some (.d (.bool (match x with | .none => false | _ => true)))
  | _, _, _ => none
theorem s_isN : Snd2 K g (fun x y H Q => y = .non ∧ Q (.bl (decide (x = .non))) H) opIsN := by
  intro ph r S H m1 m2 m v1 v2 Q so a1 a2 h k
  unfold opIsN at h
  split at h
  · cases h
    cases a2
    refine ⟨rfl, k r H _ (.refl _ _) so ?_⟩
    cases a1 <;> exact .bl _
  · cases h
theorem s_notN : Snd2 K g (fun x y H Q => y = .non ∧ Q (.bl (!decide (x = .non))) H) opNotN := by
  intro ph r S H m1 m2 m v1 v2 Q so a1 a2 h k
  unfold opNotN at h
  split at h
  · cases h
    cases a2
    refine ⟨rfl, k r H _ (.refl _ _) so ?_⟩
    cases a1 <;> exact .bl _
  · cases h
end
end Mr

end
section
set_option maxRecDepth 100000
set_option autoImplicit false
namespace Mr
open PySem PySem.Spec L2
open PyProof.Rows hiding St

/-! ### subscripts -/
def keyM : M → Option Key
  | .d (.int i) => some (.inl i)
  | .d (.str x) => some (.inr x)
  | _ => none
def isKey : Key → PyData → Bool
  | .inl i, .int j => decide (i = j)
  | .inr x, .str y => decide (x = y)
  | _, _ => false
def dGet (kvs : List (PyData × PyData)) (k : Key) : Option PyData := (kvs.find? fun p => isKey k p.1).map (·.2)
def mGet (kvs : List (Key × M)) (k : Key) : Option M := (kvs.find? fun p => decide (p.1 = k)).map (·.2)
def putM (kvs : List (Key × M)) (k : Key) (v : M) : List (Key × M) := if (kvs.any fun p => decide (p.1 = k)) = true then kvs.map (fun p => if p.1 = k then (p.1, v) else p) else kvs ++ [(k, v)]
theorem isKey_eq (k j : Key) : isKey k (keyD j) = decide (j = k) := by
  cases k <;> cases j <;> simp [isKey, keyD, eq_comm]
section
variable {K : PySem.W.Frag} {g : Cfg} {ph r : List Addr} {H : Hp} {S : Sto}
theorem keyM_v {m : M} {v : V} {k : Key} (h : Mv K g ph r H m v) (q : keyM m = some k) : v = kV k := by
  cases m with
  | d x =>
    cases x with
    | int i => cases q; cases h; rfl
    | str s => cases q; cases h; rfl
    | _ => cases q
  | _ => cases q
theorem dGet_ok {B : List Addr} (k : Key) {x : PyData} : ∀ {ks : List Key} {vs : List V} {ds : List PyData}, DrAll K B H vs ds → dGet ((ks.map keyD).zip ds) k = some x → ∃ v, valV (ks.zip vs) k = some v ∧ Dr K B H v x
  | [], _, _, _, h => by simp [dGet] at h
  | _ :: _, _, _, .nil, h => by simp [dGet] at h
  | j :: ks, _, _, @DrAll.cons _ _ _ v vs d ds a t, h => by
    by_cases e : j = k
    · subst e
      have h2 : dGet (((j :: ks).map keyD).zip (d :: ds)) j = some d := by simp [dGet, isKey_eq]
      rw [h2] at h
      cases h
      exact ⟨v, by simp [valV], a⟩
    · have h2 : dGet (((j :: ks).map keyD).zip (d :: ds)) k = dGet ((ks.map keyD).zip ds) k := by simp [dGet, isKey_eq, e]
      rw [h2] at h
      obtain ⟨u, h3, h4⟩ := dGet_ok k t h
      exact ⟨u, by rw [← h3]; simp [valV, e], h4⟩
abbrev KP (K : PySem.W.Frag) (g : Cfg) (ph r : List Addr) (H : Hp) : List (Key × M) → List (Key × V) → Prop := Paired fun (p : Key × M) (q : Key × V) => p.1 = q.1 ∧ Mv K g ph r H p.2 q.2
theorem mGet_ok (k : Key) {x : M} {kvs : List (Key × M)} {ws : List (Key × V)} (h : KP K g ph r H kvs ws) (q : mGet kvs k = some x) : ∃ v, valV ws k = some v ∧ Mv K g ph r H x v := by
  induction h with
  | nil => simp [mGet] at q
  | @cons a b as bs h1 h2 ih =>
    by_cases e : a.1 = k
    · have q2 : mGet (a :: as) k = some a.2 := by simp [mGet, e]
      rw [q2] at q
      cases q
      exact ⟨b.2, by simp [valV, ← h1.1, e], h1.2⟩
    · have q2 : mGet (a :: as) k = mGet as k := by simp [mGet, e]
      rw [q2] at q
      obtain ⟨u, h3, h4⟩ := ih q
      exact ⟨u, by rw [← h3]; simp [valV, ← h1.1, e], h4⟩
theorem KP.any {kvs : List (Key × M)} {ws : List (Key × V)} (h : KP K g ph r H kvs ws) (k : Key) : (kvs.any fun p => decide (p.1 = k)) = ws.any fun p => decide (p.1 = k) := by
  induction h with
  | nil => rfl
  | @cons a b as bs h1 h2 ih => rw [List.any_cons, List.any_cons, ih, h1.1]
theorem KP.length {kvs : List (Key × M)} {ws : List (Key × V)} (h : KP K g ph r H kvs ws) : kvs.length = ws.length := Paired.len' h
theorem KP.put {kvs : List (Key × M)} {ws : List (Key × V)} (h : KP K g ph r H kvs ws) (k : Key) {m : M} {v : V} (mv : Mv K g ph r H m v) : KP K g ph r H (putM kvs k m) (putK ws k v) := by
  unfold putM putK
  rw [h.any k]
  split
  · induction h with
    | nil => exact .nil
    | @cons a b as bs h1 h2 ih =>
      refine .cons ?_ ?_
      · dsimp only
        rw [h1.1]
        split
        · exact ⟨rfl, mv⟩
        · exact h1
      · have gen : ∀ {as : List (Key × M)} {bs : List (Key × V)}, KP K g ph r H as bs → KP K g ph r H (as.map fun p => if p.1 = k then (p.1, m) else p) (bs.map fun p => if p.1 = k then (p.1, v) else p) := by
          intro as bs hh
          induction hh with
          | nil => exact .nil
          | @cons a b as bs h1 h2 ih =>
            refine .cons ?_ ih
            dsimp only
            rw [h1.1]
            split
            · exact ⟨rfl, mv⟩
            · exact h1
        exact gen h2
  · exact Paired.append' h (.cons ⟨rfl, mv⟩ .nil)
def asI : M → Option Int
  | .d (.int i) => some i
  | _ => none
def asS : M → Option Str
  | .d (.str i) => some i
  | _ => none
def opIx (x y : M) (S : Sto) : Option M := match x with
  | .d (.list xs) => (asI y).bind fun i => (atI xs i).map .d
  | .d (.tuple xs) => (asI y).bind fun i => (atI xs i).map .d
  | .d (.str s) => (asI y).bind fun i => if s.length ≤ sizeLine then (atI s.cps.toList i).map fun c => .d (.str ⟨#[c]⟩) else none
  | .d (.dict kvs) => (keyM y).bind fun k => (dGet kvs k).map .d
  | .kdc _ ks => (asS y).bind fun z => (ks.lookup z).map .d
  | .loc n => match S[n]? with
    | some (.lst xs) => (asI y).bind fun i => atI xs i
    | some (.dct kvs) => (keyM y).bind fun k => mGet kvs k
    | none => none
  | _ => none
def rrIx (K : PySem.W.Frag) (w : World) : R2 := fun x y H Q => rIx K x y H Q ∨ ((∃ a v, x = .ref a ∧ DGet H a y (some v) ∧ Q v H) ∨ rIxD K w x y H Q)
theorem ix_dct {X : Cx} (hu : X.A.units + 1 < cLine) : IxR X (fun x y H Q => ∃ a v, x = .ref a ∧ DGet H a y (some v) ∧ Q v H) := by
  intro value slice pins s st H x y v u Q I rx ry h hs
  obtain ⟨a, z, rfl, dg, q⟩ := h
  obtain rfl : v = Value.ref a := rx
  exact tail_any (dict_typeIs I dg) slot_dict_getitem.lookup (d_getItem hu I dg ry fun w' s' I' r' => ⟨z, H, I', r', q⟩) hs
theorem ix_all {X : Cx} (hu : X.A.units + 1 < cLine) : IxR X (rrIx X.K X.w) := ix_seq.or ((ix_dct hu).or ix_kdict)
theorem get_rel {α β : Type} {P : α → β → Prop} : ∀ {xs : List α} {ys : List β} {j : Nat} {a : α}, Paired P xs ys → xs[j]? = some a → ∃ b, ys[j]? = some b ∧ P a b
  | _, _, _, _, .nil, q => by simp at q
  | _, _, 0, _, .cons h _, q => by simp at q; subst q; exact ⟨_, by simp, h⟩
  | _, _, j + 1, a, .cons _ t, q => by
    obtain ⟨b, h1, h2⟩ := get_rel (j := j) (a := a) t (by simpa using q)
    exact ⟨b, by simpa using h1, h2⟩
theorem at_rel {α β : Type} {P : α → β → Prop} {xs : List α} {ys : List β} {i : Int} {a : α} (h : Paired P xs ys) (q : atI xs i = some a) : ∃ b, atI ys i = some b ∧ P a b := by
  have hl := Paired.len' h
  unfold atI at q ⊢
  rw [← hl]
  cases e : ixN xs.length i with
  | none => rw [e] at q; cases q
  | some j =>
    rw [e] at q
    exact get_rel h (show xs[j]? = some a from q)
theorem DrAll.pair {B : List Addr} : ∀ {vs : List V} {ds : List PyData}, DrAll K B H vs ds → Paired (fun d v => Dr K B H v d) ds vs
  | _, _, .nil => .nil
  | _, _, .cons a t => .cons a (DrAll.pair t)
theorem DrAll.of_pair {B : List Addr} {ds : List PyData} {vs : List V} (h : Paired (fun d v => Dr K B H v d) ds vs) : DrAll K B H vs ds := by
  induction h with
  | nil => exact .nil
  | cons a t ih => exact .cons a ih
theorem asI_v {m : M} {v : V} {i : Int} (h : Mv K g ph r H m v) (q : asI m = some i) : v = .int i := by
  cases m with
  | d x => cases x <;> first | (cases q; cases h; rfl) | cases q
  | _ => cases q
theorem asS_v {m : M} {v : V} {i : Str} (h : Mv K g ph r H m v) (q : asS m = some i) : v = .str i := by
  cases m with
  | d x => cases x <;> first | (cases q; cases h; rfl) | cases q
  | _ => cases q
theorem s_ix : Snd2 K g (rrIx K g.w) opIx := by
  intro ph r S H m1 m2 m v1 v2 Q so a1 a2 h k
  unfold opIx at h
  have fin : ∀ {v}, Mv K g ph r H m v → Q v H := fun mv => k r H _ (.refl _ _) so mv
  split at h
  · obtain ⟨i, q1, h⟩ := Option.bind_eq_some_iff.mp h
    obtain ⟨x, q2, rfl⟩ := Option.map_eq_some_iff.mp h
    have e2 := asI_v a2 q1
    subst e2
    cases a1 with
    | lst e n t =>
      obtain ⟨v, q3, d⟩ := at_rel t.pair q2
      exact .inl (.inl ⟨_, _, _, _, rfl, rfl, .inl (.inl e), q3, fin d⟩)
  · obtain ⟨i, q1, h⟩ := Option.bind_eq_some_iff.mp h
    obtain ⟨x, q2, rfl⟩ := Option.map_eq_some_iff.mp h
    have e2 := asI_v a2 q1
    subst e2
    have r1 : ∃ a, v1 = .ref a := by cases a1 <;> exact ⟨_, rfl⟩
    obtain ⟨a, rfl⟩ := r1
    obtain ⟨xs, h1, t⟩ := Dr.toT a1
    obtain ⟨v, q3, d⟩ := at_rel t.pair q2
    exact .inl (.inr (.inl ⟨_, _, _, _, rfl, rfl, h1, q3, fin d⟩))
  · obtain ⟨i, q1, h⟩ := Option.bind_eq_some_iff.mp h
    have e2 := asI_v a2 q1
    subst e2
    cases a1
    split at h
    · rename_i hz
      obtain ⟨c, q2, rfl⟩ := Option.map_eq_some_iff.mp h
      exact .inl (.inr (.inr ⟨_, _, _, rfl, rfl, hz, q2, fin (.str _)⟩))
    · cases h
  · obtain ⟨kk, q1, h⟩ := Option.bind_eq_some_iff.mp h
    obtain ⟨x, q2, rfl⟩ := Option.map_eq_some_iff.mp h
    have e2 := keyM_v a2 q1
    subst e2
    cases a1 with
    | dct e n l t =>
      obtain ⟨v, q3, d⟩ := dGet_ok kk t q2
      refine .inr (.inl ⟨_, v, rfl, ?_, fin d⟩)
      rw [← q3]
      exact DGet.k e
  · obtain ⟨z, q1, h⟩ := Option.bind_eq_some_iff.mp h
    obtain ⟨x, q2, rfl⟩ := Option.map_eq_some_iff.mp h
    have e2 := asS_v a2 q1
    subst e2
    obtain ⟨rfl, hk⟩ := a1
    obtain ⟨u, h1, h2⟩ := hk z x q2
    exact .inr (.inr ⟨_, _, u, rfl, rfl, h1, fin (h2 _ _)⟩)
  · rename_i n
    obtain ⟨a, e1, rfl⟩ := a1
    split at h
    · rename_i xs q0
      obtain ⟨a', u, h1, h2, h3⟩ := so.at_ _ _ q0
      rw [e1] at h1; cases h1
      obtain ⟨i, q1, h⟩ := Option.bind_eq_some_iff.mp h
      have e2 := asI_v a2 q1
      subst e2
      cases u with
      | lst vs =>
        obtain ⟨v, q3, d⟩ := at_rel h3 h
        exact .inl (.inl ⟨_, _, _, _, rfl, rfl, .inl (.inl h2), q3, fin d⟩)
      | _ => exact h3.elim
    · rename_i kvs q0
      obtain ⟨a', u, h1, h2, h3⟩ := so.at_ _ _ q0
      rw [e1] at h1; cases h1
      obtain ⟨kk, q1, h⟩ := Option.bind_eq_some_iff.mp h
      have e2 := keyM_v a2 q1
      subst e2
      cases u with
      | dK ws =>
        obtain ⟨v, q3, d⟩ := mGet_ok kk h3 h
        refine .inr (.inl ⟨_, v, rfl, ?_, fin d⟩)
        rw [← q3]
        exact DGet.k h2
      | _ => exact h3.elim
    · cases h
  · cases h
variable {X : Cx} {W : WX} {a b : Expr} {fa fb : Env1 → Sto → R M} {pos : Pos}
theorem me_ix (hu : X.A.units + 1 < cLine) (hw : X.w = g.w) (ha : ME X g W a fa) (hb : ME X g W b fb) (hs : PlainIx b := by exact fun _ _ => rfl) : ME X g W (.Subscript a b pos) (e2 opIx fa fb) := by
  have hs2 : Snd2 X.K g (rrIx X.K X.w) opIx := by rw [hw]; exact s_ix
  exact PE.of (pe_ix (ix_all hu) ha hb hs) (tM_op hs2)

/-! ### slices -/
abbrev PIo : Rel (Option Int) (Option Int) := fun _ _ _ _ _ a b => a = b
abbrev MO (X : Cx) (g : Cfg) (W : WX) (e : Option Expr) (f : Env1 → Sto → R (Option Int)) : Prop := PO X e (tG PIo X.K g W f)
theorem PO.of {X : Cx} {e : Option Expr} {t t' : TO} (h : PO X e t) (w : ∀ s H Q, t' s H Q → t s H Q) : PO X e t' := ⟨fun pins s q H Q I z => h.run pins s q H Q I (w _ _ _ z)⟩
def oN : Env1 → Sto → R (Option Int) := fun _ S => .ok none S
def oS (f : Env1 → Sto → R M) : Env1 → Sto → R (Option Int) := fun e S => (f e S).bind fun m S1 => lift ((asI m).map some) S1
theorem mo_none : MO X g W none oN := PO.of po_none fun s H Q ⟨ph, r, S, e, so, ev, h⟩ => h r H none (.refl _ _) so rfl
theorem mo_some (h : ME X g W a fa) : MO X g W (some a) (oS fa) := by
  refine PO.of (po_some h) fun s H Q hh => ?_
  obtain ⟨ph, r, S, e, so, ev, hh⟩ := hh
  refine tG.bind so ev hh fun m v S1 r1 H1 x1 so1 ev1 m1 h1 => ?_
  cases q : asI m with
  | none => rw [q] at h1; exact h1.elim
  | some i =>
    rw [q] at h1
    exact ⟨i, asI_v m1 q, h1 r1 H1 _ (.refl _ _) so1 rfl⟩
def cutD {α : Type} (xs : List α) (lo hi : Option Int) : List α := (xs.drop (HT.sIx xs.length 0 lo)).take (HT.sIx xs.length xs.length hi - HT.sIx xs.length 0 lo)
def opSl (x : M) (lo hi : Option Int) (S : Sto) : Option M := match x with
  | .d (.list xs) => some (.d (.list (cutD xs lo hi)))
  | .d (.tuple xs) => some (.d (.tuple (cutD xs lo hi)))
  | .d (.str s) => if s.length ≤ sizeLine then some (.d (.str (cutS s lo hi))) else none
  | .ro xs => some (.d (.list (cutD xs lo hi)))
  | .loc n => match S[n]? with
    | some (.lst xs) => (dsOf xs).map fun ds => .d (.list (cutD ds lo hi))
    | _ => none
  | _ => none
def eSl (f : Env1 → Sto → R M) (lo hi : Env1 → Sto → R (Option Int)) : Env1 → Sto → R M := fun e S => (f e S).bind fun x S1 => (lo e S1).bind fun l S2 => (hi e S2).bind fun h S3 => lift (opSl x l h S3) S3
theorem cut_all {B : List Addr} {vs : List V} {ds : List PyData} (h : DrAll K B H vs ds) (lo hi : Option Int) : DrAll K B H (cutV vs lo hi) (cutD ds lo hi) := by
  unfold cutV cutD
  rw [h.length]
  exact (h.drop _).take _
theorem me_sl {lo hi : Option Expr} {fl fh : Env1 → Sto → R (Option Int)} {p2 : Pos} (he : ME X g W a fa) (hl : MO X g W lo fl) (hh : MO X g W hi fh) : ME X g W (.Subscript a (.Slice lo hi none p2) pos) (eSl fa fl fh) := by
  refine PE.of (pe_slice (sl_list.or (sl_str.or sl_tupA)) he hl hh) fun s H Q h => ?_
  obtain ⟨ph, r, S, e, so, ev, h⟩ := h
  refine tG.bind so ev h fun m v S1 r1 H1 x1 so1 ev1 m1 h1 => ?_
  refine tG.bind so1 ev1 h1 fun l l' S2 r2 H2 x2 so2 ev2 m2 h2 => ?_
  refine tG.bind so2 ev2 h2 fun u u' S3 r3 H3 x3 so3 ev3 m3 h3 => ?_
  cases m2
  cases m3
  have mv := Mv.mono (x2.trans x3) m1
  cases q : opSl m l u S3 with
  | none => rw [q] at h3; exact h3.elim
  | some z =>
    rw [q] at h3
    have k : ∀ r' H' v, Ext r3 H3 r' H' → So X.K g ph r' S3 H' → Mv X.K g ph r' H' z v → Q v H' := h3
    unfold opSl at q
    split at q
    · cases q
      cases mv with
      | lst e1 n1 t1 => exact .inl ⟨_, _, rfl, .inl (.inl e1), new_dr so3 k fun p hp n => dr_lst hp n (cut_all t1 l u)⟩
    · cases q
      have r1 : ∃ a, v = .ref a := by cases mv <;> exact ⟨_, rfl⟩
      obtain ⟨a, rfl⟩ := r1
      obtain ⟨xs, hq, t1⟩ := Dr.toT mv
      refine .inr (.inr ⟨a, xs, rfl, hq, fun ⟨w1, w2⟩ => ?_, fun _ => new_dr so3 k fun p hp n => dr_tup hp n (cut_all t1 l u)⟩)
      refine k r3 H3 _ (.refl _ _) so3 ?_
      have e : ∀ ds : List PyData, HT.sIx ds.length 0 l = 0 → HT.sIx ds.length ds.length u = ds.length → cutD ds l u = ds := fun ds w1 w2 => by
        unfold cutD
        rw [w1, w2]
        simp
      rw [e _ (by rw [← t1.length]; exact w1) (by rw [← t1.length]; exact w2)]
      exact mv
    · split at q
      · rename_i hz
        cases q
        cases mv
        exact .inr (.inl ⟨_, rfl, hz, k r3 H3 _ (.refl _ _) so3 (.str _)⟩)
      · cases q
    · cases q
      obtain ⟨a, vs, rfl, e1, t1⟩ := mv
      exact .inl ⟨_, _, rfl, e1.elim (fun ⟨o, e1, _⟩ => .inl (.inr ⟨o, e1⟩)) .inr, new_dr so3 k fun p hp n => dr_lst hp n (cut_all t1 l u)⟩
    · obtain ⟨a, e1, rfl⟩ := mv
      split at q
      · rename_i xs q0
        obtain ⟨ds, q2, rfl⟩ := Option.map_eq_some_iff.mp q
        obtain ⟨a', w, h5, h6, h7⟩ := so3.at_ _ _ q0
        rw [e1] at h5; cases h5
        cases w with
        | lst vs => exact .inl ⟨_, _, rfl, .inl (.inl h6), new_dr so3 k fun p hp n => dr_lst hp n (cut_all (dsOf_rel h7 q2) l u)⟩
        | _ => exact h7.elim
      · cases q
    · cases q
/-- xs[::-1] -/
def opRev (x : M) (S : Sto) : Option M := match x with
  | .d (.list xs) => some (.d (.list xs.reverse))
  | _ => none
theorem DrAll.rev {B : List Addr} {vs : List V} {ds : List PyData} (h : DrAll K B H vs ds) : DrAll K B H vs.reverse ds.reverse := by
  induction vs generalizing ds with
  | nil => cases h; exact .nil
  | cons v vs ih =>
    cases h with
    | cons a t =>
      rw [List.reverse_cons, List.reverse_cons]
      exact (ih t).snoc a
theorem me_rev {k : Nat} {p1 p2 p3 : Pos} (he : ME X g W a fa) : ME X g W (.Subscript a (.Slice none none (some (.UnaryOp .USub (.Constant (.int 1) k p1) p2)) p3) pos) (e1 opRev fa) := by
  refine PE.of (pe_revL he) fun s H Q h => ?_
  obtain ⟨ph, r, S, e, so, ev, h⟩ := h
  refine tG.bind so ev h fun m v S1 r1 H1 x1 so1 ev1 m1 h1 => ?_
  cases m with
  | d x =>
    cases x with
    | list xs =>
      cases m1 with
      | lst e1 n1 t1 => exact ⟨_, _, rfl, .inl (.inl e1), new_dr so1 h1 fun p hp n => dr_lst hp n t1.rev⟩
    | _ => exact h1.elim
  | _ => exact h1.elim
/-- xs[::-1], the new list owned -/
def eRevO (f : Env1 → Sto → R M) : Env1 → Sto → R M := fun e S => (f e S).bind fun x S1 => match x with
  | .d (.list xs) => .ok (.loc S1.length) (S1 ++ [.lst (xs.reverse.map .d)])
  | _ => .bad
theorem pairs_d {B : List Addr} {vs : List V} {ds : List PyData} (hB : B = ph ++ r) (h : DrAll K B H vs ds) : Paired (Mv K g ph r H) (ds.map .d) vs := by
  subst hB
  induction vs generalizing ds with
  | nil => cases h; exact .nil
  | cons v vs ih =>
    cases h with
    | cons a t => exact .cons a (ih t)
theorem me_revO {k : Nat} {p1 p2 p3 : Pos} (he : ME X g W a fa) : ME X g W (.Subscript a (.Slice none none (some (.UnaryOp .USub (.Constant (.int 1) k p1) p2)) p3) pos) (eRevO fa) := by
  refine PE.of (pe_revL he) fun s H Q h => ?_
  obtain ⟨ph, r, S, e, so, ev, h⟩ := h
  refine tG.bind so ev h fun m v S1 r1 H1 x1 so1 ev1 m1 h1 => ?_
  cases m with
  | d x =>
    cases x with
    | list xs =>
      cases m1 with
      | lst e1 n1 t1 =>
        refine ⟨_, _, rfl, .inl (.inl e1), fun p hp => ?_⟩
        refine h1 (r1 ++ [p]) _ _ (.own hp) (so1.own hp ?_) ⟨p, by rw [← so1.len, List.getElem?_append_right (Nat.le_refl _)]; simp, rfl⟩
        exact pairs_d rfl (DrAll.mono (Ext.own hp) t1.rev)
    | _ => exact h1.elim
  | _ => exact h1.elim

/-! ### displays -/
def eTup (f : Env1 → Sto → R (List M)) : Env1 → Sto → R M := fun e S => (f e S).bind fun ms S1 => if ms.length ≤ 1000 then lift ((dsOf ms).map fun ds => .d (.tuple ds)) S1 else .bad
def eLst (f : Env1 → Sto → R (List M)) : Env1 → Sto → R M := fun e S => (f e S).bind fun ms S1 => if ms.length ≤ 1000 then lift ((dsOf ms).map fun ds => .d (.list ds)) S1 else .bad
def eLstO (f : Env1 → Sto → R (List M)) : Env1 → Sto → R M := fun e S => (f e S).bind fun ms S1 => if ms.length ≤ 1000 then .ok (.loc S1.length) (S1 ++ [.lst ms]) else .bad
variable {es : List Expr} {fs : Env1 → Sto → R (List M)}
theorem me_tup {kk : Nat} (h : MA X g W es fs) : ME X g W (.Tuple es kk pos) (eTup fs) := by
  refine PE.of (pe_tup h) fun s H Q h => ?_
  obtain ⟨ph, r, S, e, so, ev, h⟩ := h
  refine tG.bind so ev h fun ms vs S1 r1 H1 x1 so1 ev1 m1 h1 => ?_
  split at h1
  · rename_i hz
    cases q : dsOf ms with
    | none => rw [q] at h1; exact h1.elim
    | some ds =>
      rw [q] at h1
      exact ⟨Nat.le_of_lt (small1000 (by rw [← Paired.len' m1]; exact hz)), new_dr so1 h1 fun p hp n => dr_tup hp n (dsOf_rel m1 q)⟩
  · exact h1.elim
theorem me_lst (h : MA X g W es fs) : ME X g W (.List es pos) (eLst fs) := by
  refine PE.of (pe_lst h) fun s H Q h => ?_
  obtain ⟨ph, r, S, e, so, ev, h⟩ := h
  refine tG.bind so ev h fun ms vs S1 r1 H1 x1 so1 ev1 m1 h1 => ?_
  split at h1
  · rename_i hz
    cases q : dsOf ms with
    | none => rw [q] at h1; exact h1.elim
    | some ds =>
      rw [q] at h1
      exact ⟨Nat.le_of_lt (small1000 (by rw [← Paired.len' m1]; exact hz)), new_dr so1 h1 fun p hp n => dr_lst hp n (dsOf_rel m1 q)⟩
  · exact h1.elim
theorem me_lstO (h : MA X g W es fs) : ME X g W (.List es pos) (eLstO fs) := by
  refine PE.of (pe_lst h) fun s H Q h => ?_
  obtain ⟨ph, r, S, e, so, ev, h⟩ := h
  refine tG.bind so ev h fun ms vs S1 r1 H1 x1 so1 ev1 m1 h1 => ?_
  split at h1
  · rename_i hz
    refine ⟨Nat.le_of_lt (small1000 (by rw [← Paired.len' m1]; exact hz)), fun p hp => ?_⟩
    refine h1 (r1 ++ [p]) _ _ (.own hp) (so1.own hp ?_) ⟨p, by rw [← so1.len, List.getElem?_append_right (Nat.le_refl _)]; simp, rfl⟩
    exact Paired.mapP m1 fun _ _ => Mv.mono (g := g) (Ext.own hp)
  · exact h1.elim
end
end Mr

end
section
set_option maxRecDepth 100000
set_option autoImplicit false
namespace MrE
open PySem PySem.W PySem.Calls PySem.HandSPX PySem.Builtin PySem.Builtin.ObjectAttr
open PyProof.Rows hiding St
/-! ### errors of one's own over Exception, through own bases -/
abbrev exTail : List Value := [.type "Exception", .type "BaseException", .type "object"]
def overEx : List Value → Bool
  | .ref _ :: r => overEx r
  | l => l == exTail
theorem overEx_cases (l : List Value) (e : overEx l = true) : (∃ c r, l = .ref c :: r ∧ overEx r = true) ∨ l = exTail := by
  unfold overEx at e
  split at e
  · exact .inl ⟨_, _, rfl, e⟩
  · exact .inr (beq_iff_eq.mp e)
theorem overEx_pass (self : Value) : ∀ l : List Value, overEx l = true → refuseLoop self "__setattr__" l = pure ()
  | [], e => absurd e (by decide)
  | a :: r, e => by
    rcases overEx_cases (a :: r) e with ⟨c, r2, q, h⟩ | q
    · cases q
      rw [refuseLoop_ref]
      exact overEx_pass self r h
    · rw [q]
      exact F.store_Exception.passes self
theorem overEx_has (n : String) : ∀ l : List Value, overEx l = true → l.contains (.type n) = exTail.contains (.type n)
  | [], e => absurd e (by decide)
  | a :: r, e => by
    rcases overEx_cases (a :: r) e with ⟨c, r2, q, h⟩ | q
    · cases q
      rw [List.contains_cons, overEx_has n r h]
      rfl
    · rw [q]
section
variable {prog : Program} {w : World} {A : Around} {R : Result → Shared → Prop} {hp : Heap} {gg : Array GenState} {dr : Drawn} {t : Nat} {os : OsState}
/-- the first field of a fresh error -/
theorem put_first {K : Frag} {name : Str} {tk : Tok} {v : Value} {x C : Addr} {fv : Array Value} {cd : ClassData} (inK : K.In hp) (hx : hp.get? x = some { cls := .ref C, data := .fields fv }) (hcd : clsIn K C = some cd) (hm : overEx cd.mro = true) (hh : cd.hasDict = true)
    (ha : findIn K (.ref C) name = some none)
    (hq : ∀ h2 tk2 dx, (∀ b o, b ≠ x → hp.get? b = some o → h2.get? b = some o) → hp.objs.size ≤ dx → dx ≠ x → h2.get? x = some { cls := .ref C, dict := some dx, data := .fields fv } → h2.Ns1 dx (fun y => if y = name then some v else none) → R (.ok (.ret .none)) ⟨h2, gg, dr, tk2, os⟩) :
    codeAny (model prog w) A (.call (.builtin "object.__setattr__") ⟨[.ref x, .str name tk, v], []⟩) R ⟨hp, gg, dr, t, os⟩ := by
  have J : InstAt hp x { cls := .ref C, data := .fields fv } C none := ⟨hx, rfl, rfl, trivial⟩
  have sf := F.store_object
  have full : cd.mro.isEmpty = false := by
    cases q : cd.mro with
    | nil => rw [q] at hm; exact absurd hm (by decide)
    | cons _ _ => rfl
  have isO : cd.mro.contains (.type "object") = true := (overEx_has "object" _ hm).trans (by decide +kernel)
  have apart : x ≠ hp.objs.size := Nat.ne_of_lt (Heap.lt_size hx)
  have ofO : Looks (model prog w) hp (isInstance (.ref x) (.type "object")) true := J.type.andThen (looks_mroIn inK (by unfold mroIn; rw [hcd, Option.bind_some, if_neg (by rw [full]; decide), isO]))
  refine codeAny_call_builtin sf.slot.plain sf.entry (@check_slot (model prog w) _ _ ⟨hp, gg, dr, t, os⟩ "object.__setattr__" "object" "__setattr__" (.ref x) [.str name tk, v] [] _ sf.kind sf.split ofO (sf.args (.ref x) (.str name tk) v) ?_)
  have lookM : Looks (model prog w) hp (mroOf (.ref C)) cd.mro := (looks_clsIn inK hcd).andThen .now
  have lookT : Looks (model prog w) hp (storeTaker? none) none := .now
  have lookC : Looks (model prog w) hp (classData C) cd := looks_clsIn inK hcd
  rw [osa_eq, refuse_eq]
  refine wpAny_bind (wpAny_bind (J.type.at (wpAny_bind (lookM.at ?_))))
  rw [overEx_pass _ _ hm]
  refine wpAny_pure (wpAny_bind (J.type.at (wpAny_bind ((looks_findIn inK ha).at (wpAny_bind (lookT.at ?_))))))
  show wpAny _ _ (storeInOwnDict (.ref x) (.ref C) (.str name tk) name v false) _ _ _
  obtain ⟨cn, cb, cm, cns, cq, chd, csn, csb, cab, ccol, cdel⟩ := cd
  dsimp only at hh
  cases hh
  unfold storeInOwnDict ownDictForStores
  repeat (first | with_reducible refine store_in_new ?_ ?_ | with_reducible refine wpAny_loadPart_at hx ?_ | with_reducible refine lookC.at ?_ | wp_step)
  · exact ⟨_, #[], _, (Heap.get?_update_ne _ _ _ _ apart.symm).trans (Heap.get?_push_at rfl rfl), rfl, fun e he => absurd he (by simp), fun _ => rfl⟩
  · intro h2 tk2 ns2 but
    have grown : (hp.push { cls := .type "dict", data := .dict #[] }).get? x = some { cls := .ref C, data := .fields fv } := Heap.get?_push_of_some _ hx
    refine hq h2 tk2 hp.objs.size (fun b o hb ho => (but.2 b (Nat.ne_of_lt (Heap.lt_size ho))).trans ((Heap.get?_update_ne _ _ _ _ hb).trans (Heap.get?_push_of_some _ ho))) (Nat.le_refl _) apart.symm ((but.2 x apart).trans (Heap.get?_update_self _ grown rfl)) ns2
end
end MrE
namespace MrE
open PySem PySem.W PySem.Calls PySem.HandSPX
open PyProof.Rows hiding St
/-! ### the class's text: def __init__(self, thing): self.thing = thing -/
def iArgs (p1 p2 : Pos) : Arguments := { posonlyargs := [], args := [{ arg := "self", annotation := none, pos := p1 }, { arg := "thing", annotation := none, pos := p2 }], vararg := none, kwonlyargs := [], kw_defaults := [], kwarg := none, defaults := [] }
def iBody (q1 q2 q3 q4 : Pos) : List Stmt := [.Assign [.Attribute (.Name "self" q1) "thing" q2] (.Name "thing" q3) q4]
def iScope : Scope := { kind := .function, names := [(PySem.Str.ofString "self", .local), (PySem.Str.ofString "thing", .local)], isGenerator := false, isCoroutine := false, more := [] }
/-- what the written part says of the error class at C and of its __init__ at fI -/
structure ErrT (K : Frag) (mg : Str → Option Value) (name : Str) (C fI : Addr) : Prop where
  gC : mg name = some (.ref C)
  cls : ∃ nm q N bs bm sn sub ab col dd k0 k1 k2 k3 k5, K.lookup C = some (excClassObj nm q C N bs bm true sn sub ab col dd k0 k1 k2 k3 k5 "Exception.__new__") ∧ overEx bm = true
  sa : findIn K (.ref C) "__setattr__" = some (some (.builtin "object.__setattr__"))
  ga : findIn K (.ref C) "__getattribute__" = some (some (.builtin "BaseException.__getattribute__"))
  gg : findIn K (.ref C) "__getattr__" = some none
  noN : findIn K (.ref C) "thing" = some none
  iC : findIn K (.ref C) "__init__" = some (some (.ref fI))
  tC : typeIn K (.ref fI) = some (.type "function")
  kC : keepIn K (.ref C) = true
  exC : subIn K (.ref C) (.type "BaseException") = some true
  tyC : typeIn K (.ref C) = some (.type "type")
  hdC : hasDictIn K C = true
  fn : ∃ (qual : Str) (oc : Value) (od : Option Addr) (doc pm : Value) (an : Option Addr) (cdv ct : Value) (osl : Array (Option Value)) (p1 p2 q1 q2 q3 q4 : Pos),
    K.lookup fI = some ⟨oc, od, .func (fnOf "__init__" qual (iArgs p1 p2) (iBody q1 q2 q3 q4) iScope .none .none doc pm an cdv ct), osl⟩ ∧ codeIn K cdv qual = true
theorem one_fits (v : Value) : [v].length ≤ sizeLine := by
  rw [sizeLine_eq]
  exact (by decide : 1 ≤ 16777216)
theorem in_but {K : Frag} {h h' : Heap} {x : Addr} (X : K.In h) (hx : K.lookup x = none) (k : ∀ b o, b ≠ x → h.get? b = some o → h'.get? b = some o) : K.In h' := fun a o e => k a o (fun z => by rw [z, hx] at e; cases e) (X a o e)
theorem ld_loc {M : Model} {s : Shared} {name : Str} {scope : Scope} {L a : Addr} {cd : Value} {m : Str → Option Value} {x : Str} {pos : Pos} {v : Value} {Q : Value → Shared → Prop} {A : Around} {E : Value → Shared → Prop} (hn : s.heap.Ns L m) (hv : m x = some v) (h : Q v s)
    (hk : scope.kind = .function := by rfl) (hl : (envOfC name scope L a cd).kindOf x = some .local := by rfl) (hd : (x == ("__debug__" : Str)) = false := by decide) :
    wpAny M A (eval (.Name x pos) (envOfC name scope L a cd)) Q E s := wpAny_Name (wpAny_loadName_local hk hl hn hv h) hd
/-- what __init__ leaves of a fresh error at x -/
structure Inited (h h' : Heap) (x C dx t1 : Addr) (v : Value) : Prop where
  keep : ∀ b o, b ≠ x → h.get? b = some o → h'.get? b = some o
  obj : h'.get? x = some { cls := .ref C, dict := some dx, data := .fields #[.ref t1, .none, .none, .none, .bool false, .none] }
  dbig : h.objs.size ≤ dx
  dne : dx ≠ x
  ns : h'.Ns1 dx (fun y => if y = "thing" then some v else none)
/-- a made error -/
structure Made1 (h h' : Heap) (e C d : Addr) (v : Value) : Prop where
  keep : ∀ b o, h.get? b = some o → h'.get? b = some o
  new : h.objs.size ≤ e
  obj : ∃ oe vs, h'.get? e = some oe ∧ oe.cls = .ref C ∧ oe.dict = some d ∧ oe.data = .fields vs ∧ vs[1]? = some .none
  dbig : h.objs.size ≤ d
  dne : d ≠ e
  ns : h'.Ns1 d (fun y => if y = "thing" then some v else none)
section
variable {prog : Program} {w : World} {A : Around} {E : Value → Shared → Prop} {R : Result → Shared → Prop} {s : Shared} {K : Frag} {mg : Str → Option Value} {name : Str} {C fI : Addr}
theorem err_init (T : ErrT K mg name C fI) {x t0 : Addr} {v : Value} (X : K.In s.heap) (hlim : s.heap.NoLimit) (hx : s.heap.get? x = some (excO C t0)) (hnx : K.lookup x = none) (hroom : A.depth < recursionLimit)
    (hq : ∀ h' tk dx, Inited s.heap h' x C dx t0 v → R (.ok (.ret .none)) { s with heap := h', toks := tk }) :
    codeAny (model prog w) A (.call (.ref fI) ⟨[.ref x, v], []⟩) R s := by
  obtain ⟨qual, oc, od, doc, pm, an, cdv, ct, osl, p1, p2, q1, q2, q3, q4, ho, hcd⟩ := T.fn
  obtain ⟨nm, q, N, bs, bm, sn, sub, ab, col, dd, k0, k1, k2, k3, k5, hC, hbm⟩ := T.cls
  have hcl : clsIn K C = some { name := nm, bases := bs, mro := .ref C :: bm, ns := N, qualname := q, hasDict := true, slotNames := sn, subclasses := sub, abstract := ab, collection := col, hasDel := false } := by unfold clsIn; rw [hC] <;> rfl
  refine Att.call_fn (binds := [("self", .ref x), ("thing", v)]) X hlim ho hcd hroom (BindsTo.of_eq (by first | rfl | with_unfolding_all rfl)) (by first | rfl | decide | with_unfolding_all rfl) (fun s1 IC => ?_) rfl rfl rfl
  obtain ⟨h1, tk1, rfl⟩ := IC.toInCall.same
  have k : ∀ b o, s.heap.get? b = some o → h1.get? b = some o := IC.toInCall.keep
  have hn := IC.toInCall.ns
  have X1 : K.In h1 := X.keeps k
  have hx1 := k _ _ hx
  show wpAny _ _ (execs _ _) _ _ _
  refine wpAny_execs_cons (plainObj_wpAny_Assign_Attribute ?_)
  refine ld_loc (v := v) hn (by first | rfl | with_unfolding_all rfl | kernel_rfl) (ld_loc (v := .ref x) hn (by first | rfl | with_unfolding_all rfl | kernel_rfl) ?_)
  refine set_plain X1 (ox := excO C t0) (od := none) ⟨hx1, rfl, rfl, trivial⟩ T.sa ?_
  refine put_first X1 hx1 hcl (show overEx (.ref C :: bm) = true from hbm) rfl T.noN (fun h3 tk3 dx k3 dn dne hx3 hn3 => ?_)
  show wpAny _ _ (execs _ _) _ _ _
  have z : s.heap.objs.size < h1.objs.size := hn.lt
  exact wpAny_execs_nil (hq h3 tk3 dx ⟨fun b o hb e => k3 b o hb (k b o e), hx3, Nat.le_of_lt (Nat.lt_of_lt_of_le z dn), dne, hn3⟩)
theorem err_made (T : ErrT K mg name C fI) {v : Value} (X : K.In s.heap) (hlim : s.heap.NoLimit) (hroom : A.depth + 1 < recursionLimit)
    (hq : ∀ h' tk e d, Made1 s.heap h' e C d v → R (.ok (.ret (.ref e))) { s with heap := h', toks := tk }) :
    codeAny (model prog w) A (.call (.ref C) ⟨[v], []⟩) R s := by
  obtain ⟨nm, q, N, bs, bm, sn, sub, ab, col, dd, k0, k1, k2, k3, k5, hC, hbm⟩ := T.cls
  obtain ⟨hp, g, dr, tk, os⟩ := s
  have k : ∀ b o, hp.get? b = some o → ((hp.push (kdv_tup [v])).push (excO C hp.objs.size)).get? b = some o := fun b o e => Heap.get?_push_of_some _ (Heap.get?_push_of_some _ e)
  have hget : ((hp.push (kdv_tup [v])).push (excO C hp.objs.size)).get? (hp.objs.size + 1) = some (excO C hp.objs.size) := by heap_get
  have hnx : K.lookup (hp.objs.size + 1) = none := by
    cases e : K.lookup (hp.objs.size + 1) with
    | none => rfl
    | some o => exact absurd (Nat.lt_of_succ_lt (Heap.lt_size (X _ _ e))) (Nat.lt_irrefl _)
  refine call_own F.excBase_Exception (fun n => overEx_has n bm hbm) (X _ _ hC) (looks_findIn X T.iC) (fun self => bind_fn X self T.tC) (one_fits v) ?_
  refine err_init (s := ⟨(hp.push (kdv_tup [v])).push (excO C hp.objs.size), g, dr, tk, os⟩) T (X.keeps k) (hlim.keeps k) hget hnx ?_ fun h' tk' dx ⟨k', hx, dn, dne, hns⟩ => ?_
  · show A.depth + 1 < recursionLimit
    exact hroom
  · have old : ∀ b o, hp.get? b = some o → h'.get? b = some o := fun b o e => k' b o (Nat.ne_of_lt (Nat.lt_succ_of_lt (Heap.lt_size e))) (k b o e)
    have z : hp.objs.size + 1 + 1 ≤ dx := by
      first
        | (simpa only [Heap.size_push] using dn)
        | exact dn
        | (have q := dn; rw [Heap.size_push, Heap.size_push] at q; exact q)
    exact ⟨rfl, hq h' tk' (hp.objs.size + 1) dx ⟨old, Nat.le_succ _, ⟨_, _, hx, rfl, rfl, rfl, rfl⟩, Nat.le_trans (Nat.le_trans (Nat.le_succ _) (Nat.le_succ _)) z, dne, hns⟩⟩
end
end MrE
namespace Mr
open PySem PySem.Spec L2
open PyProof.Rows hiding St
theorem relO_one {f : Str} {v : V} {v' : Value} (r : RelV v v') (y : Str) : RelO (List.lookup y [(f, v)]) (if y = f then some v' else none) := by
  by_cases h : y = f
  · subst h
    rw [if_pos rfl]
    have q : List.lookup y [(y, v)] = some v := by simp [List.lookup]
    rw [q]
    exact r
  · rw [if_neg h]
    have q1 : (y == f) = false := by simpa using h
    have q2 : List.lookup y [(f, v)] = none := by simp [List.lookup, q1]
    rw [q2]
    trivial
section
variable {X : Cx} {C fI : Addr} {name : Str}
/-- C(e) -/
def tMkE (C : Addr) (ta : TA) : L2.St → Hp → XK → Prop := fun s H Q => ta s H fun vs H1 => ∃ v, vs = [v] ∧ ∀ d, H1 d = none → Q (.ref C) (some d) (upd H1 d (.xd [(("thing" : Str), v)]))
theorem pmk_err {a : Expr} {ta : TA} {p pos : Pos} {k : Nat} (T : MrE.ErrT X.K X.mg name C fI) (hr : Room k X.A) (ha : PA X [a] ta) (hg : Gl X name := by rfl) (hdb : (name == ("__debug__" : Str)) = false := by decide)
    (he : starEach (a :: []) X.env = (false, eval a X.env) :: starEach [] X.env := by rfl) (hpl : (backTo pos (starEach [] X.env)).any (·.1) = false := by rfl) :
    PMk X (.Call (.Name name p) [a] [] pos) (tMkE C ta) := by
  intro pins s st H Q I h
  refine wpAny_Call_Name_kw (ld_glob I hg T.gC ?_ hdb)
  refine PySem.W.callWith_K (h₀ := X.base) I.ok.mod.kin T.kC (thn (ha.run pos pins s st H _ I h) fun us s1 hh => ?_) he hpl
  obtain ⟨vs, H1, I1, r1, v, rfl, q1⟩ := hh
  refine ⟨I1.kIn, ?_⟩
  cases r1 with
  | cons rv rn =>
    rename_i v' us'
    cases rn
    show wpAny _ _ (call (.ref C) [v']) _ _ _
    have hlim := I1.nolimit
    obtain ⟨hp, g, dr, tk, os⟩ := s1
    refine wpAny_call (MrE.err_made T I1.kIn hlim (by have := hr.dp; omega) fun h' tk' e d M => ?_)
    show MkP X pins st Q (.ref e) ⟨h', g, dr, tk', os⟩
    obtain ⟨oe, fv, hoe, hc, hd, hdat, h1⟩ := M.obj
    have hns := M.ns
    obtain ⟨G', g1, g2⟩ := restrict h' fun b => decide (b ≠ e)
    have gk : ∀ b, b ≠ e → G'.get? b = h'.get? b := fun b hb => g1 b (decide_eq_true hb)
    have ge : G'.get? e = none := g2 e (by simp)
    have old : ∀ b o, hp.get? b = some o → G'.get? b = some o := fun b o q => (gk b (Nat.ne_of_lt (Nat.lt_of_lt_of_le (Heap.lt_size q) M.new))).trans (M.keep b o q)
    have ob : ObjOk X.prog X.w (upd H1 d (.xd [(("thing" : Str), v)])) G' d (.xd [(("thing" : Str), v)]) := ⟨_, hns.at (fun o q => (gk d M.dne).trans q), fun f => relO_one rv f⟩
    have J : Inv X pins st (upd H1 d (.xd [(("thing" : Str), v)])) ⟨G', g, dr, tk', os⟩ := I1.laid (t' := tk') old M.dbig ob
    refine ⟨e, oe, fv, ⟨G', g, dr, tk', os⟩, _, .ref C, some d, rfl, J, fun b o q => ?_, ge, hoe, ⟨hc, hd⟩, hdat, h1, ?_, rfl, I1.bare, raises_own T.exC T.tyC, q1 d (I1.hok.fresh M.dbig)⟩
    · by_cases hb : b = e
      · have q' : G'.get? b = some o := q
        rw [hb, ge] at q'; cases q'
      · exact (gk b hb).symm.trans q
    · rw [upd_ne (Ne.symm M.dne)]
      exact I1.hok.fresh M.new
/-- raise C(e), C the error class of the number c -/
def sRaise (c : Nat) (fld : Str) (f : Env1 → Sto → R M) : Env1 → Sto → Out := fun e S => (f e S).toS e fun m S1 => match m with
  | .d x => .rz c (some (fld, x)) e S1
  | _ => .bad
theorem ms_raise {g : Cfg} {W : WX} {a : Expr} {fa : Env1 → Sto → R M} {p pos pos2 : Pos} {k c : Nat} (hc : X.calm = true) (tk : Takes X W) (T : MrE.ErrT X.K X.mg name (g.cl c) fI) (hr : Room k X.A) (ha : ME X g W a fa) (hg : Gl X name := by rfl) (hdb : (name == ("__debug__" : Str)) = false := by decide)
    (he : starEach (a :: []) X.env = (false, eval a X.env) :: starEach [] X.env := by rfl) (hpl : (backTo pos (starEach [] X.env)).any (·.1) = false := by rfl) :
    MS X g W (.Raise (some (.Call (.Name name p) [a] [] pos)) none pos2) (sRaise c "thing" fa) := by
  refine PS.of (ps_raise hc tk (pmk_err T hr (pa_cons ha pa_nil he) hg hdb he hpl)) fun D s H h => ?_
  obtain ⟨ph, r, S, e, so, ev, h⟩ := h
  refine tG.bindS so ev h fun m v S1 r1 H1 x1 so1 ev1 m1 h1 => ?_
  refine ⟨v, rfl, fun d hd => ?_⟩
  cases m with
  | d x => exact h1 r1 _ s (some d) (.new hd) (so1.new hd) (ev1.mono (.new hd)) ⟨d, v, rfl, upd_same, so1.fresh hd, Dr.mono (Ext.new hd) m1⟩
  | _ => exact h1.elim
end
end Mr

end
section
set_option maxRecDepth 100000
set_option autoImplicit false
namespace Mr
open PySem PySem.Spec L2
open PyProof.Rows hiding St

/-! ### dict displays -/
abbrev Prs := List ((Env1 → Sto → R M) × (Env1 → Sto → R M))
def dPairs : Prs → Env1 → Sto → R (List (Key × M))
  | [], _, S => .ok [] S
  | p :: r, e, S => (p.1 e S).bind fun k S1 => (p.2 e S1).bind fun v S2 => match keyM k with
    | some kk => (dPairs r e S2).bind fun kvs S3 => .ok ((kk, v) :: kvs) S3
    | none => .bad
def trsOf (K : PySem.W.Frag) (g : Cfg) (W : WX) (prs : Prs) : List (TE × TE) := prs.map fun p => (tM K g W p.1, tM K g W p.2)
abbrev PKv : Rel (List (Key × M)) (List (Key × V)) := fun K g ph r H a b => KP K g ph r H a b
section
variable {X : Cx} {g : Cfg} {W : WX} {pos : Pos}
theorem KP.mono {K : PySem.W.Frag} {ph r r' : List Addr} {H H' : Hp} (x : Ext r H r' H') {a : List (Key × M)} {b : List (Key × V)} (h : KP K g ph r H a b) : KP K g ph r' H' a b := Paired.mapP h fun _ _ z => ⟨z.1, Mv.mono x z.2⟩
theorem tPairs_of {K : PySem.W.Frag} {s : L2.St} : ∀ {prs : Prs} {ph r : List Addr} {S : Sto} {e : Env1} {H : Hp} {Q : List (Key × V) → Hp → Prop} {Q2 : List (V × V) → Hp → Prop}, So K g ph r S H → Ev K g ph r H e s →
    Post PKv K g (fun c d H' => W c d s H') ph r H (dPairs prs e S) Q → (∀ ws H', Q ws H' → Q2 (ws.map fun kv => (kV kv.1, kv.2)) H') → tPairs (trsOf K g W prs) s H Q2
  | [], ph, r, S, e, H, Q, Q2, so, ev, h, w => w [] H (h r H [] (.refl _ _) so .nil)
  | p :: prs, ph, r, S, e, H, Q, Q2, so, ev, h, w => by
    refine tG.bind so ev h fun mk vk S1 r1 H1 x1 so1 ev1 m1 h1 => ?_
    refine tG.bind so1 ev1 h1 fun mv vv S2 r2 H2 x2 so2 ev2 m2 h2 => ?_
    cases q : keyM mk with
    | none => rw [q] at h2; exact h2.elim
    | some kk =>
      rw [q] at h2
      have e1 := keyM_v m1 q
      subst e1
      have h3 : Post PKv K g (fun c d H' => W c d s H') ph r2 H2 (dPairs prs e S2) (fun ws H3 => Q ((kk, vv) :: ws) H3) := by
        cases q2 : dPairs prs e S2 with
        | ok kvs S3 =>
          have h2 : Post PKv K g (fun c d H' => W c d s H') ph r2 H2 ((dPairs prs e S2).bind fun kvs S3 => R.ok ((kk, mv) :: kvs) S3) Q := h2
          rw [q2] at h2
          exact fun r3 H3 ws x3 so3 k3 => h2 r3 H3 _ x3 so3 (.cons ⟨rfl, Mv.mono x3 m2⟩ k3)
        | rz c y S3 =>
          have h2 : Post PKv K g (fun c d H' => W c d s H') ph r2 H2 ((dPairs prs e S2).bind fun kvs S3 => R.ok ((kk, mv) :: kvs) S3) Q := h2
          rw [q2] at h2; exact h2
        | bad =>
          have h2 : Post PKv K g (fun c d H' => W c d s H') ph r2 H2 ((dPairs prs e S2).bind fun kvs S3 => R.ok ((kk, mv) :: kvs) S3) Q := h2
          rw [q2] at h2; exact h2
      exact tPairs_of so2 ev2 h3 fun ws H' z => w ((kk, vv) :: ws) H' z
abbrev MP (X : Cx) (g : Cfg) (W : WX) (pos : Pos) (keys : List (Option Expr)) (values : List Expr) (prs : Prs) : Prop := PPs X pos keys values (trsOf X.K g W prs)
theorem mp_nil : MP X g W pos [] [] [] := pps_nil
theorem mp_cons {k v : Expr} {ks : List (Option Expr)} {vs : List Expr} {fk fv : Env1 → Sto → R M} {prs : Prs} (hk : ME X g W k fk) (hv : ME X g W v fv) (hr : MP X g W pos ks vs prs) : MP X g W pos (some k :: ks) (v :: vs) ((fk, fv) :: prs) := pps_cons hk hv hr
def mergeM (kvs : List (Key × M)) : List (Key × M) := kvs.foldl (fun acc kv => putM acc kv.1 kv.2) []
theorem KP.merge {K : PySem.W.Frag} {ph r : List Addr} {H : Hp} {more : List (Key × M)} {ws : List (Key × V)} (h : KP K g ph r H more ws) : KP K g ph r H (mergeM more) (mergeK [] ws) := by
  unfold mergeM mergeK
  have gen : ∀ {acc : List (Key × M)} {acc2 : List (Key × V)}, KP K g ph r H acc acc2 → KP K g ph r H (more.foldl (fun acc kv => putM acc kv.1 kv.2) acc) (ws.foldl (fun acc kv => putK acc kv.1 kv.2) acc2) := by
    induction h with
    | nil => exact fun h => h
    | @cons a b as bs h1 h2 ih =>
      intro acc acc2 h
      rw [List.foldl_cons, List.foldl_cons, h1.1]
      exact ih (h.put b.1 h1.2)
  exact gen .nil
def eDic (prs : Prs) : Env1 → Sto → R M := fun e S => (dPairs prs e S).bind fun kvs S1 => lift ((dsOf ((mergeM kvs).map (·.2))).map fun ds => .d (.dict (((mergeM kvs).map fun p => keyD p.1).zip ds))) S1
def eDicO (prs : Prs) : Env1 → Sto → R M := fun e S => (dPairs prs e S).bind fun kvs S1 => .ok (.loc S1.length) (S1 ++ [.dct (mergeM kvs)])
theorem dPairs_len {e : Env1} : ∀ {prs : Prs} {S S' : Sto} {kvs : List (Key × M)}, dPairs prs e S = .ok kvs S' → kvs.length = prs.length
  | [], _, _, _, h => by cases h; rfl
  | p :: prs, S, S', kvs, h => by
    have h : ((p.1 e S).bind fun k S1 => (p.2 e S1).bind fun v S2 => match keyM k with
      | some kk => (dPairs prs e S2).bind fun kvs S3 => R.ok ((kk, v) :: kvs) S3
      | none => .bad) = .ok kvs S' := h
    cases q1 : p.1 e S with
    | ok k S1 =>
      simp only [q1, R.bind] at h
      cases q2 : p.2 e S1 with
      | ok v S2 =>
        simp only [q2] at h
        cases q3 : keyM k with
        | none => simp [q3] at h
        | some kk =>
          simp only [q3] at h
          cases q4 : dPairs prs e S2 with
          | ok kvs2 S3 =>
            simp only [q4] at h
            cases h
            rw [List.length_cons, List.length_cons, dPairs_len q4]
          | rz c y S3 => simp [q4] at h
          | bad => simp [q4] at h
      | rz c y S3 => simp [q2] at h
      | bad => simp [q2] at h
    | rz c y S3 => simp [q1, R.bind] at h
    | bad => simp [q1, R.bind] at h
theorem kp_snd {K : PySem.W.Frag} {ph r : List Addr} {H : Hp} {a : List (Key × M)} {b : List (Key × V)} (h : KP K g ph r H a b) : Paired (Mv K g ph r H) (a.map (·.2)) (b.map (·.2)) ∧ b.map (·.1) = a.map (·.1) := by
  induction h with
  | nil => exact ⟨.nil, rfl⟩
  | @cons a b as bs h1 h2 ih => exact ⟨.cons h1.2 ih.1, by rw [List.map_cons, List.map_cons, ih.2, h1.1]⟩
theorem unzip_eq : ∀ l : List (Key × V), (l.map (·.1)).zip (l.map (·.2)) = l
  | [] => rfl
  | p :: l => by rw [List.map_cons, List.map_cons, List.zip_cons_cons, unzip_eq l]
/-- what was shut while it was made is let in -/
theorem Mv.adopt {K : PySem.W.Frag} {p : Addr} {ph r : List Addr} {H : Hp} {m : M} {v : V} (h : Mv K g (p :: ph) r H m v) : Mv K g ph (r ++ [p]) H m v := by
  have hB : ∀ a, a ∈ ph ++ (r ++ [p]) → a ∈ (p :: ph) ++ r := fun a ha => by
    rcases List.mem_append.mp ha with z | z
    · exact List.mem_append_left _ (List.mem_cons_of_mem _ z)
    · rcases List.mem_append.mp z with z | z
      · exact List.mem_append_right _ z
      · rw [List.mem_singleton.mp z]; exact List.mem_append_left _ List.mem_cons_self
  cases m with
  | d x => exact Dr.less hB h
  | loc n =>
    obtain ⟨a, e, rfl⟩ := h
    exact ⟨a, by rw [List.getElem?_append_left (List.getElem?_eq_some_iff.mp e).1]; exact e, rfl⟩
  | ro xs =>
    obtain ⟨a, vs, e1, e, t⟩ := h
    refine ⟨a, vs, e1, e.imp (fun q => ?_) id, DrAll.less hB t⟩
    obtain ⟨o, e, n⟩ := q
    exact ⟨o, e, fun z => n (hB a z)⟩
  | fn a => exact h
  | ty n => exact h
  | kdc a ks => exact h
  | exn c x =>
    obtain ⟨a, d, e1, e2, t⟩ := h
    refine ⟨a, d, e1, e2, ?_⟩
    cases x with
    | none => trivial
    | some p =>
      obtain ⟨f, y⟩ := p
      obtain ⟨dd, w, h1, e, n, t⟩ := t
      exact ⟨dd, w, h1, e, fun z => n (hB dd z), Dr.less hB t⟩
theorem So.adopt {K : PySem.W.Frag} {p : Addr} {ph r : List Addr} {S : Sto} {H : Hp} {o o' : HO} {x : O} (s : So K g (p :: ph) r S H) (hpn : p ∉ ph) (e : H p = some o) (n1 : ∀ ps, o ≠ .tbl ps) (n2 : ∀ φ, o ≠ .ext φ) (hv : Ov K g ph (r ++ [p]) (upd H p o') x o') (ho : ∀ ps, o' ≠ .tbl ps := by intro _ z; cases z) : So K g ph (r ++ [p]) (S ++ [x]) (upd H p o') := by
  have pr : p ∉ r := s.dis p List.mem_cons_self
  have hin : p ∈ ph ++ (r ++ [p]) := List.mem_append_right _ (List.mem_append_right _ List.mem_cons_self)
  refine ⟨by simp [s.len], ?_, fun a ha z => ?_, fun a ha => ?_, fun k u q => ?_, tabs_upd e n1 n2 s.tabs, fun q hq => Paired.mapP (s.kp q hq) fun m v z => ?_⟩
  rotate_right
  · cases m with
    | none => trivial
    | some m =>
      cases v with
      | none => exact z
      | some v => exact Mv.shut hin (Mv.adopt (g := g) z)
  · refine List.nodup_append.mpr ⟨s.nd, by simp, fun a ha b hb => ?_⟩
    rw [List.mem_singleton.mp hb]
    exact fun z => pr (by rw [← z]; exact ha)
  · rcases List.mem_append.mp z with z | z
    · exact s.dis a (List.mem_cons_of_mem _ ha) z
    · rw [List.mem_singleton.mp z] at ha
      exact hpn ha
  · by_cases h : a = p
    · exact ⟨o', by rw [h, upd_same], ho⟩
    · obtain ⟨u, q, t⟩ := s.there a (List.mem_cons_of_mem _ ha)
      exact ⟨u, by rw [upd_ne h]; exact q, t⟩
  · by_cases hk : k < S.length
    · rw [List.getElem?_append_left hk] at q
      obtain ⟨a, w, e1, e2, e3⟩ := s.at_ k u q
      have hne : a ≠ p := fun z => pr (by rw [← z]; exact List.mem_of_getElem? e1)
      refine ⟨a, w, by rw [List.getElem?_append_left (by rw [s.len]; exact hk)]; exact e1, by rw [upd_ne hne]; exact e2, Ov.shut hin ?_⟩
      cases u with
      | lst xs =>
        cases w with
        | lst vs => exact Paired.mapP e3 fun _ _ z => Mv.adopt (g := g) z
        | _ => exact e3
      | dct kvs =>
        cases w with
        | dK ws => exact Paired.mapP e3 fun _ _ z => ⟨z.1, Mv.adopt (g := g) z.2⟩
        | _ => exact e3
    · rw [List.getElem?_append_right (by omega)] at q
      have hk2 : k - S.length = 0 := by
        by_cases hz : k - S.length = 0
        · exact hz
        · rw [List.getElem?_eq_none (by simp; omega)] at q
          cases q
      rw [hk2] at q
      cases q
      exact ⟨p, o', by rw [List.getElem?_append_right (by rw [s.len]; omega), s.len, hk2]; rfl, by rw [upd_same], hv⟩
theorem dic_core {prs : Prs} {s : L2.St} {H : Hp} {Q : VK} {ph r : List Addr} {S : Sto} {e : Env1} {F : List (Key × M) → Sto → R M} (so : So X.K g ph r S H) (ev : Ev X.K g ph r H e s) (h : Post PV X.K g (fun c d H' => W c d s H') ph r H ((dPairs prs e S).bind F) Q) (hl : prs.length ≤ 15)
    (w : ∀ (p : Addr) (kvs : List (Key × M)) (ws : List (Key × V)) (S1 : Sto) (r1 : List Addr) (H1 : Hp), H p = none → Ext r H r1 H1 → So X.K g (p :: ph) r1 S1 H1 → H1 p = some (.dK []) → KP X.K g (p :: ph) r1 H1 kvs ws → Post PV X.K g (fun c d H' => W c d s H') ph r H (F kvs S1) Q → Q (.ref p) (upd H1 p (.dK (mergeK [] ws)))) :
    tDisp (trsOf X.K g W prs) s H Q := by
  intro p hp
  have hm : ∀ a, a ∈ p :: ph → a ∈ ph ∨ H a = none := fun a ha => by
    rcases List.mem_cons.mp ha with z | z
    · rw [z]; exact .inr hp
    · exact .inl z
  have so1 := so.more (o := .dK []) hp
  have ev1 : Ev X.K g (p :: ph) r (upd H p (.dK [])) e s := (ev.more hm (fun a ha => List.mem_cons_of_mem _ ha)).mono (Ext.new hp)
  refine tPairs_of (Q := fun ws H1 => H1 p = some (.dK []) ∧ ws.length ≤ 15 ∧ Q (.ref p) (upd H1 p (.dK (mergeK [] ws)))) so1 ev1 ?_ fun ws H' z => ⟨z.1, ws, rfl, z.2.1, z.2.2⟩
  cases q : dPairs prs e S with
  | ok kvs S1 =>
    rw [q] at h
    intro r1 H1 ws x1 so2 k1
    have e1 : H1 p = some (.dK []) := x1.keep p _ upd_same (so1.dis p List.mem_cons_self) (fun _ z => by cases z)
    exact ⟨e1, by rw [← k1.length, dPairs_len q]; exact hl, w p kvs ws S1 r1 H1 hp ((Ext.new hp).trans x1) so2 e1 k1 h⟩
  | rz c y S1 =>
    rw [q] at h
    refine fun r1 H1 d x1 so2 z => h r1 H1 d ((Ext.new hp).trans x1) (so2.less fun a ha => List.mem_cons_of_mem _ ha) ?_
    cases y with
    | none => trivial
    | some y =>
      obtain ⟨dd, w, h1, h2, h3, h4⟩ := z
      have hB : ∀ a, a ∈ ph ++ r1 → a ∈ (p :: ph) ++ r1 := fun a ha => List.mem_cons_of_mem _ ha
      exact ⟨dd, w, h1, h2, fun z => h3 (hB dd z), Dr.less hB h4⟩
  | bad => rw [q] at h; exact h.elim
theorem me_dic {keys : List (Option Expr)} {values : List Expr} {prs : Prs} (h : MP X g W pos keys values prs) (hl : prs.length ≤ 15 := by decide) (hall : keys.all (·.isSome) = true := by rfl) (hkl : keys.length = values.length := by rfl) (h0 : keys ≠ [] := by exact fun z => nomatch z) (h15 : keys.length ≤ 15 := by decide) : ME X g W (.Dict keys values pos) (eDic prs) := by
  refine PE.of (pe_disp h hall hkl h0 h15) fun s H Q hh => ?_
  obtain ⟨ph, r, S, e, so, ev, hh⟩ := hh
  refine dic_core so ev hh hl fun p kvs ws S1 r1 H1 hp x1 so1 ep k1 h1 => ?_
  have k2 := k1.merge
  obtain ⟨k3, k4⟩ := kp_snd k2
  cases q : dsOf ((mergeM kvs).map (·.2)) with
  | none => rw [q] at h1; exact h1.elim
  | some ds =>
    rw [q] at h1
    have hin : p ∈ (p :: ph) ++ r1 := List.mem_append_left _ List.mem_cons_self
    have pn : p ∉ ph ++ r1 := fun z => by
      rcases List.mem_append.mp z with z | z
      · exact so.fresh hp (List.mem_append_left _ z)
      · exact so1.dis p List.mem_cons_self z
    refine h1 r1 _ _ (x1.over hp) ((so1.shut List.mem_cons_self ep (fun _ z => by cases z) (fun _ z => by cases z)).less fun a ha => List.mem_cons_of_mem _ ha) ?_
    have t := DrAll.shut (o := .dK (mergeK [] ws)) hin (dsOf_rel k3 q)
    have t2 : DrAll X.K (ph ++ r1) (upd H1 p (.dK (mergeK [] ws))) ((mergeK [] ws).map (·.2)) ds := DrAll.less (fun a ha => List.mem_cons_of_mem _ ha) t
    have d := Dr.dct (K := X.K) (B := ph ++ r1) (H := upd H1 p (.dK (mergeK [] ws))) (a := p) (ks := (mergeK [] ws).map (·.1)) (vs := (mergeK [] ws).map (·.2)) (ds := ds) (by rw [upd_same, unzip_eq]) pn (by simp) t2
    have e3 : ((mergeK [] ws).map (·.1)).map keyD = (mergeM kvs).map fun p => keyD p.1 := by
      rw [k4, List.map_map]
      rfl
    rw [e3] at d
    exact d
theorem me_dicO {keys : List (Option Expr)} {values : List Expr} {prs : Prs} (h : MP X g W pos keys values prs) (hl : prs.length ≤ 15 := by decide) (hall : keys.all (·.isSome) = true := by rfl) (hkl : keys.length = values.length := by rfl) (h0 : keys ≠ [] := by exact fun z => nomatch z) (h15 : keys.length ≤ 15 := by decide) : ME X g W (.Dict keys values pos) (eDicO prs) := by
  refine PE.of (pe_disp h hall hkl h0 h15) fun s H Q hh => ?_
  obtain ⟨ph, r, S, e, so, ev, hh⟩ := hh
  refine dic_core so ev hh hl fun p kvs ws S1 r1 H1 hp x1 so1 ep k1 h1 => ?_
  have k2 := k1.merge
  have pn : p ∉ ph := fun z => so.fresh hp (List.mem_append_left _ z)
  have x2 : Ext r H (r1 ++ [p]) (upd H1 p (.dK (mergeK [] ws))) := by
    have x3 := x1.over (o := .dK (mergeK [] ws)) hp
    refine ⟨x3.keep, x3.stay, ?_⟩
    obtain ⟨l, e1, e2⟩ := x1.pre
    exact ⟨l ++ [p], by rw [e1, List.append_assoc], fun a ha => (List.mem_append.mp ha).elim (e2 a) fun z o e => by rw [List.mem_singleton.mp z, hp] at e; cases e⟩
  have hin : p ∈ ph ++ (r1 ++ [p]) := List.mem_append_right _ (List.mem_append_right _ List.mem_cons_self)
  refine h1 (r1 ++ [p]) _ _ x2 (so1.adopt pn ep (fun _ z => by cases z) (fun _ z => by cases z) ?_) ⟨p, by rw [← so1.len, List.getElem?_append_right (Nat.le_refl _)]; simp, rfl⟩
  exact Paired.mapP k2 fun _ _ z => ⟨z.1, Mv.shut hin (Mv.adopt (g := g) z.2)⟩
theorem me_dicN : ME X g W (.Dict [] [] pos) (eC (.d (.dict []))) := PE.of pe_dnewK fun s H Q ⟨ph, r, S, e, so, ev, h⟩ => fun p hp => h r _ _ (.new hp) (so.new hp) (.dct (ks := []) (vs := []) upd_same (so.fresh hp) rfl .nil)
def eNewO (o : O) : Env1 → Sto → R M := fun _ S => .ok (.loc S.length) (S ++ [o])
theorem me_dicNO : ME X g W (.Dict [] [] pos) (eNewO (.dct [])) := PE.of pe_dnewK fun s H Q ⟨ph, r, S, e, so, ev, h⟩ => fun p hp =>
  h (r ++ [p]) _ _ (.own hp) (so.own hp (show Ov X.K g ph (r ++ [p]) (upd H p (.dK [])) (.dct []) (.dK []) from .nil)) ⟨p, by rw [← so.len, List.getElem?_append_right (Nat.le_refl _)]; simp, rfl⟩
end
end Mr

end
section
set_option maxRecDepth 100000
set_option autoImplicit false
namespace Mr
open PySem PySem.Spec L2
open PyProof.Rows hiding St

/-! ### an owned dict and list, changed -/
def sPut (fo fi fv : Env1 → Sto → R M) : Env1 → Sto → Out := fun e S => (fv e S).toS e fun v S1 => (fo e S1).toS e fun o S2 => (fi e S2).toS e fun k S3 => match o with
  | .loc n => match S3[n]? with
    | some (.dct kvs) => match keyM k with
      | some kk => if kvs.length < sizeLine then .nx e (S3.set n (.dct (putM kvs kk v))) else .bad
      | none => .bad
    | _ => .bad
  | _ => .bad
def isL (S : Sto) (n : Nat) : Bool := match S[n]? with
  | some (.lst _) => true
  | _ => false
def eApp (fo fa : Env1 → Sto → R M) : Env1 → Sto → R M := fun e S => (fo e S).bind fun o S1 => match o with
  | .loc n => if isL S1 n then (fa e S1).bind fun v S2 => match S2[n]? with
    | some (.lst xs) => if xs.length < sizeLine then .ok (.d .none) (S2.set n (.lst (xs ++ [v]))) else .bad
    | _ => .bad
    else .bad
  | _ => .bad
def ePop (fo : Env1 → Sto → R M) : Env1 → Sto → R M := fun e S => (fo e S).bind fun o S1 => match o with
  | .loc n => match S1[n]? with
    | some (.lst xs) => match xs[xs.length - 1]? with
      | some v => .ok v (S1.set n (.lst xs.dropLast))
      | none => .bad
    | _ => .bad
  | _ => .bad
theorem dropLast_pair {α β : Type} {P : α → β → Prop} : ∀ {xs : List α} {ys : List β}, Paired P xs ys → Paired P xs.dropLast ys.dropLast
  | _, _, .nil => .nil
  | _, _, .cons a .nil => .nil
  | _, _, .cons a (.cons b t) => .cons a (dropLast_pair (.cons b t))
section
variable {X : Cx} {g : Cfg} {W : WX} {pos : Pos} {o i a : Expr} {fo fi fv fa : Env1 → Sto → R M}
theorem own_at {K : PySem.W.Frag} {ph r : List Addr} {S : Sto} {H : Hp} {n : Nat} {x : O} {v : V} (so : So K g ph r S H) (mv : Mv K g ph r H (.loc n) v) (q : S[n]? = some x) : ∃ p u, v = .ref p ∧ r[n]? = some p ∧ H p = some u ∧ Ov K g ph r H x u := by
  obtain ⟨p, e, rfl⟩ := mv
  obtain ⟨p', u, h1, h2, h3⟩ := so.at_ n x q
  rw [e] at h1
  cases h1
  exact ⟨p, u, rfl, e, h2, h3⟩
theorem isL_ty {K : PySem.W.Frag} {ph r : List Addr} {S : Sto} {H : Hp} {n : Nat} {v : V} (so : So K g ph r S H) (mv : Mv K g ph r H (.loc n) v) (h : isL S n = true) : tyV K "list" v H := by
  unfold isL at h
  split at h
  · rename_i xs q
    obtain ⟨p, u, rfl, hr, hp, ov⟩ := own_at so mv q
    cases u with
    | lst vs => exact .inl ⟨rfl, _, .inl (.inl hp)⟩
    | _ => exact ov.elim
  · cases h
theorem ms_put {p' : Pos} (hu : X.A.units + 1 < cLine) (ho : ME X g W o fo) (hi : ME X g W i fi) (hv : ME X g W a fv) (hs : swapsWith a (some (.Subscript o i p')) pos.line X.env = pure false := by rfl) : MS X g W (.Assign [.Subscript o i p'] a pos) (sPut fo fi fv) := by
  refine PS.of (ps_dput hu ho hi hv hs) fun D s H h => ?_
  obtain ⟨ph, r, S, e, so, ev, h⟩ := h
  refine tG.bindS so ev h fun v vv S1 r1 H1 x1 so1 ev1 m1 h1 => ?_
  refine tG.bindS so1 ev1 h1 fun ob vo S2 r2 H2 x2 so2 ev2 m2 h2 => ?_
  refine tG.bindS so2 ev2 h2 fun k vk S3 r3 H3 x3 so3 ev3 m3 h3 => ?_
  have mv := Mv.mono (x2.trans x3) m1
  have mo := Mv.mono x3 m2
  cases ob with
  | loc n =>
    simp only at h3
    cases q : S3[n]? with
    | none => rw [q] at h3; exact h3.elim
    | some x =>
      rw [q] at h3
      cases x with
      | lst xs => exact h3.elim
      | dct kvs =>
        simp only at h3
        cases q2 : keyM k with
        | none => rw [q2] at h3; exact h3.elim
        | some kk =>
          rw [q2] at h3
          simp only at h3
          have ek := keyM_v m3 q2
          subst ek
          split at h3
          · rename_i hz
            obtain ⟨p, u, rfl, hr, hp, ov⟩ := own_at so3 mo q
            cases u with
            | dK ws =>
              have kp : KP X.K g ph r3 H3 kvs ws := ov
              refine ⟨p, _, rfl, DPut.k hp (by rw [← kp.length]; exact hz), ?_⟩
              have pin : p ∈ r3 := List.mem_of_getElem? hr
              refine h3 r3 _ s (.put pin) (so3.put hr hp (fun _ z => by cases z) (fun _ z => by cases z) ?_) (ev3.mono (.put pin))
              exact kp.put kk mv
            | _ => exact ov.elim
          · exact h3.elim
  | _ => exact h3.elim
theorem me_app {apos cpos : Pos} (ho : ME X g W o fo) (ha : ME X g W a fa)
    (hbase : attributeBase o "append" X.env (eval o X.env) = eval o X.env := by rfl)
    (hfew : ((backTo cpos (starEach (a :: []) X.env)).all (fun x => !x.1) && (backToKw cpos (keywordEach [] X.env)).all (fun x => x.1.isSome) && decide ((a :: []).length + ([] : List Keyword).length + (if ([] : List Keyword).isEmpty then 0 else 1) < 30)) = true := by rfl)
    (hline : (apos.endLine == cpos.line) = true := by rfl) (hst : starEach (a :: []) X.env = (false, eval a X.env) :: starEach [] X.env := by rfl) (hplain : (backTo cpos (starEach [] X.env)).any (·.1) = false := by rfl) :
    ME X g W (.Call (.Attribute o "append" apos) [a] [] cpos) (eApp fo fa) := by
  refine PE.of (pe_bm PySem.F.plainAttrs_list PySem.F.slot_list_append PySem.F.type_list_append mt_append ho (pa_cons ha pa_nil hst) hbase hfew hline hst hplain) fun s H Q h => ?_
  obtain ⟨ph, r, S, e, so, ev, h⟩ := h
  refine tG.bind so ev h fun ob vo S1 r1 H1 x1 so1 ev1 m1 h1 => ?_
  cases ob with
  | loc n =>
    simp only at h1
    split at h1
    · rename_i hl
      refine ⟨isL_ty so1 m1 hl, ?_⟩
      refine tG.bind so1 ev1 h1 fun v vv S2 r2 H2 x2 so2 ev2 m2 h2 => ?_
      have mo := Mv.mono x2 m1
      cases q : S2[n]? with
      | none => rw [q] at h2; exact h2.elim
      | some x =>
        rw [q] at h2
        cases x with
        | dct kvs => exact h2.elim
        | lst xs =>
          simp only at h2
          split at h2
          · rename_i hz
            obtain ⟨p, u, rfl, hr, hp, ov⟩ := own_at so2 mo q
            cases u with
            | lst vs =>
              have kp : Paired (Mv X.K g ph r2 H2) xs vs := ov
              refine ⟨p, vs, vv, rfl, rfl, hp, by rw [← Paired.len' kp]; exact hz, ?_⟩
              have pin : p ∈ r2 := List.mem_of_getElem? hr
              refine h2 r2 _ _ (.put pin) (so2.put hr hp (fun _ z => by cases z) (fun _ z => by cases z) ?_) .non
              exact Paired.append' kp (.cons m2 .nil)
            | _ => exact ov.elim
          · exact h2.elim
    · exact h1.elim
  | _ => exact h1.elim
theorem me_pop {apos cpos : Pos} (ho : ME X g W o fo) (hbase : attributeBase o "pop" X.env (eval o X.env) = eval o X.env := by rfl) (hline : (apos.endLine == cpos.line) = true := by rfl) : ME X g W (.Call (.Attribute o "pop" apos) [] [] cpos) (ePop fo) := by
  refine PE.of (pe_bm0 PySem.F.plainAttrs_list PySem.F.slot_list_pop PySem.F.type_list_pop mt_pop ho hbase hline) fun s H Q h => ?_
  obtain ⟨ph, r, S, e, so, ev, h⟩ := h
  refine tG.bind so ev h fun ob vo S1 r1 H1 x1 so1 ev1 m1 h1 => ?_
  cases ob with
  | loc n =>
    simp only at h1
    cases q : S1[n]? with
    | none => rw [q] at h1; exact h1.elim
    | some x =>
      rw [q] at h1
      cases x with
      | dct kvs => exact h1.elim
      | lst xs =>
        simp only at h1
        refine ⟨isL_ty so1 m1 (by unfold isL; rw [q]), ?_⟩
        cases q2 : xs[xs.length - 1]? with
        | none => rw [q2] at h1; exact h1.elim
        | some v =>
          rw [q2] at h1
          obtain ⟨p, u, rfl, hr, hp, ov⟩ := own_at so1 m1 q
          cases u with
          | lst vs =>
            have kp : Paired (Mv X.K g ph r1 H1) xs vs := ov
            obtain ⟨y, hy, my⟩ := get_rel kp q2
            refine ⟨p, vs, y, rfl, rfl, hp, by rw [← Paired.len' kp]; exact hy, ?_⟩
            have pin : p ∈ r1 := List.mem_of_getElem? hr
            exact h1 r1 _ _ (.put pin) (so1.put hr hp (fun _ z => by cases z) (fun _ z => by cases z) (show Ov X.K g ph r1 H1 (.lst xs.dropLast) (.lst vs.dropLast) from dropLast_pair kp)) (my.mono (.put pin))
          | _ => exact ov.elim
  | _ => exact h1.elim

/-! ### what is walked -/
/-- range(n), range(a, b) -/
def rngL (lo : Int) (n : Nat) : List M := (List.range n).map fun (k : Nat) => M.d (.int (lo + (k : Int)))
def iRng (f : Env1 → Sto → R (List M)) : Env1 → Sto → R (List M) := fun e S => (f e S).bind fun ms S1 => match ms with
  | [.d (.int j)] => if -(2 ^ 62) ≤ j ∧ j < 2 ^ 62 then .ok (rngL 0 j.toNat) S1 else .bad
  | [.d (.int i), .d (.int j)] => if -(2 ^ 62) ≤ i ∧ i < 2 ^ 62 ∧ -(2 ^ 62) ≤ j ∧ j < 2 ^ 62 then .ok (rngL i (j - i).toNat) S1 else .bad
  | _ => .bad
theorem goes_rng {K : PySem.W.Frag} {ph r : List Addr} {H : Hp} (lo : Int) (n : Nat) : Goes K g ph r H (rngL lo n) (Itr lo n) := by
  intro r' S' H' x so i
  have hlen : (rngL lo n).length = n := by unfold rngL; rw [List.length_map, List.length_range]
  refine ⟨fun m hm => ?_, fun h => by rw [hlen] at h; exact h⟩
  have hi : i < n := by rw [← hlen]; exact (List.getElem?_eq_some_iff.mp hm).1
  have em : m = .d (.int (lo + (i : Int))) := by
    have e2 : (rngL lo n)[i]? = some (.d (.int (lo + (i : Int)))) := by
      unfold rngL
      rw [List.getElem?_map, List.getElem?_range hi]
      rfl
    rw [e2] at hm
    exact (Option.some.inj hm).symm
  subst em
  exact ⟨hi, fun v H2 hy => by obtain ⟨rfl, rfl⟩ := hy; exact ⟨.refl _ _, so, .int _⟩⟩
theorem PI.of {tg it : Expr} {t t' : TI} (h : PI X tg it t) (w : ∀ s H R, t' s H R → t s H R) : PI X tg it t' := ⟨fun pins s q H R I z => h.run pins s q H R I (w _ _ _ z)⟩
variable {tg it : Expr} {fs : Env1 → Sto → R (List M)} {p : Pos}
theorem mi_rng1 (hm : X.mg "range" = none) (ha : MA X g W [a] fs) (hg : Gl X "range" := by rfl) (hs : starEach [a] X.env = [(false, eval a X.env)] := by rfl) (h1 : ∀ e S ms S', fs e S = .ok ms S' → ms.length = 1) : MI X g W tg (.Call (.Name "range" p) [a] [] pos) (iRng fs) := by
  refine PI.of (pi_range1 hg hm ha hs) fun s H R h => ?_
  obtain ⟨ph, r, S, e, so, ev, h⟩ := h
  refine ⟨ph, r, S, e, so, ev, ?_⟩
  unfold iRng at h
  cases q : fs e S with
  | ok ms S1 =>
    rw [q] at h
    intro r1 H1 vs x1 so1 m1
    have hl := h1 e S ms S1 q
    match ms, m1, hl, h with
    | [.d (.int j)], .cons mj .nil, _, h =>
      cases mj
      simp only [Mr.R.bind] at h
      split at h
      · rename_i hz
        exact ⟨j, rfl, hz.1, hz.2, h r1 H1 _ x1 so1 fun ph' _ _ => goes_rng 0 _⟩
      · exact h.elim
    | [.d .none], _, _, h => exact h.elim
    | [.d (.bool _)], _, _, h => exact h.elim
    | [.d (.str _)], _, _, h => exact h.elim
    | [.d (.list _)], _, _, h => exact h.elim
    | [.d (.tuple _)], _, _, h => exact h.elim
    | [.d (.dict _)], _, _, h => exact h.elim
    | [.loc _], _, _, h => exact h.elim
    | [.ro _], _, _, h => exact h.elim
    | [.fn _], _, _, h => exact h.elim
    | [.ty _], _, _, h => exact h.elim
    | [.kdc _ _], _, _, h => exact h.elim
    | [.exn _ _], _, _, h => exact h.elim
  | rz c y S1 => rw [q] at h; exact h
  | bad => rw [q] at h; exact h
/-- a list or a tuple of data -/
def iSeq (f : Env1 → Sto → R M) : Env1 → Sto → R (List M) := fun e S => (f e S).bind fun m S1 => match m with
  | .d (.list xs) => .ok (xs.map .d) S1
  | .d (.tuple xs) => .ok (xs.map .d) S1
  | _ => .bad
theorem goes_l {K : PySem.W.Frag} {ph r : List Addr} {H : Hp} {a : Addr} {vs : List V} {ds : List PyData} (e : H a = some (.lst vs)) (n : a ∉ ph ++ r) (t : DrAll K (ph ++ r) H vs ds) : PIt K g ph r H (ds.map .d) (Itl K a) := by
  intro ph' h1 h2 r' S' H' x so i
  have hB : ∀ b, b ∈ ph' ++ r → b ∈ ph ++ r ∨ H b = none := fun b hb => by
    rcases List.mem_append.mp hb with z | z
    · exact (h2 b z).imp (fun q => List.mem_append_left _ q) id
    · exact .inl (List.mem_append_right _ z)
  have n' : a ∉ ph' ++ r := fun z => (hB a z).elim n fun q => by rw [e] at q; cases q
  obtain ⟨e2, n2⟩ := x.tracked e n' (fun _ z => by cases z)
  have t2 : DrAll K (ph' ++ r') H' vs ds := DrAll.mono x (DrAll.more hB t)
  have sq : SqL K H' a vs := .inl (.inl e2)
  refine ⟨fun m hm => ?_, fun h => ⟨vs, sq, by rw [t2.length]; simpa using h⟩⟩
  rw [List.getElem?_map] at hm
  obtain ⟨d, hd, rfl⟩ := Option.map_eq_some_iff.mp hm
  obtain ⟨v, hv, dv⟩ := t2.get hd
  refine ⟨⟨vs, v, sq, hv⟩, fun y H2 hy => ?_⟩
  obtain ⟨rfl, hy⟩ := hy
  have ey : some y = some v := (hy vs sq).symm.trans hv
  cases ey
  exact ⟨.refl _ _, so, dv⟩
theorem sqT_ext {K : PySem.W.Frag} {ph ph' r r' : List Addr} {H H' : Hp} {a : Addr} {ds : List PyData} {S' : Sto} (d : Dr K (ph ++ r) H (.ref a) (.tuple ds)) (x : Ext r H r' H') (h2 : ∀ b, b ∈ ph' → b ∈ ph ∨ H b = none) : ∃ vs, SqT K H' a vs ∧ DrAll K (ph' ++ r') H' vs ds := by
  have hB : ∀ b, b ∈ ph' ++ r → b ∈ ph ++ r ∨ H b = none := fun b hb => by
    rcases List.mem_append.mp hb with z | z
    · exact (h2 b z).imp (fun q => List.mem_append_left _ q) id
    · exact .inl (List.mem_append_right _ z)
  exact Dr.toT (Dr.mono x (Dr.more hB d))
theorem goes_t {K : PySem.W.Frag} {ph r : List Addr} {H : Hp} {a : Addr} {ds : List PyData} (d : Dr K (ph ++ r) H (.ref a) (.tuple ds)) : PIt K g ph r H (ds.map .d) (Itt K a) := by
  intro ph' h1 h2 r' S' H' x so i
  obtain ⟨vs, sq, t2⟩ := sqT_ext (S' := S') d x h2
  refine ⟨fun m hm => ?_, fun h => ⟨vs, sq, by rw [t2.length]; simpa using h⟩⟩
  rw [List.getElem?_map] at hm
  obtain ⟨d, hd, rfl⟩ := Option.map_eq_some_iff.mp hm
  obtain ⟨v, hv, dv⟩ := t2.get hd
  refine ⟨⟨vs, v, sq, hv⟩, fun y H2 hy => ?_⟩
  obtain ⟨rfl, hy⟩ := hy
  have ey : some y = some v := (hy vs sq).symm.trans hv
  cases ey
  exact ⟨.refl _ _, so, dv⟩
theorem mi_seq {fa : Env1 → Sto → R M} (ha : ME X g W a fa) : MI X g W tg a (iSeq fa) := by
  refine ⟨fun pins sh s H R I h => ?_⟩
  obtain ⟨ph, r, S, e, so, ev, h⟩ := h
  unfold iSeq at h
  have other : (∀ m S1, fa e S = .ok m S1 → False) → wpAny (model X.prog X.w) X.A (eval a X.env) (fun v s1 => wpAny (model X.prog X.w) X.A (pyIter v) (PIE X pins s tg R) X.xe s1) X.xe sh := fun no => by
    refine (pi_list (tg := tg) ha).run pins sh s H R I ?_
    refine ⟨ph, r, S, e, so, ev, ?_⟩
    cases q : fa e S with
    | ok m S1 => exact (no m S1 q).elim
    | rz c y S1 => rw [q] at h; exact h
    | bad => rw [q] at h; exact h
  cases q : fa e S with
  | rz c y S1 => exact other fun m S1 z => by rw [q] at z; cases z
  | bad => exact other fun m S1 z => by rw [q] at z; cases z
  | ok m S1 =>
    rw [q] at h
    cases m with
    | d x =>
      cases x with
      | list xs =>
        refine (pi_list (tg := tg) ha).run pins sh s H R I ⟨ph, r, S, e, so, ev, ?_⟩
        rw [q]
        intro r1 H1 v x1 so1 m1
        cases m1 with
        | lst e1 n1 t1 => exact ⟨_, rfl, ⟨_, .inl (.inl e1)⟩, h r1 H1 _ x1 so1 (goes_l e1 n1 t1)⟩
      | tuple xs =>
        refine (pi_tup (tg := tg) ha).run pins sh s H R I ⟨ph, r, S, e, so, ev, ?_⟩
        rw [q]
        intro r1 H1 v x1 so1 m1
        have r2 : ∃ b, v = .ref b := by cases m1 <;> exact ⟨_, rfl⟩
        obtain ⟨b, rfl⟩ := r2
        obtain ⟨ys, sq, _⟩ := Dr.toT m1
        exact ⟨b, rfl, ⟨ys, sq⟩, h r1 H1 _ x1 so1 (goes_t m1)⟩
      | _ => exact h.elim
    | _ => exact h.elim
end
end Mr

end
section
set_option maxRecDepth 100000
set_option autoImplicit false
namespace Mr
open PySem PySem.Spec L2
open PyProof.Rows hiding St

/-! ### built-ins by values -/
section
variable {X : Cx} {g : Cfg} {W : WX} {pos p : Pos} {a : Expr} {es : List Expr} {fs : Env1 → Sto → R (List M)} {x : Str} {id T : String} {rr : List V → Hp → VK → Prop} {op : List M → Sto → Option M}
theorem me_callB (hc : CallR X (.builtin id) rr) (hs : SndN X.K g rr op) (hm : X.mg x = none) (hv : bootBuiltins x = some (.builtin id)) (ha : MA X g W (a :: es) fs) (hg : Gl X x := by rfl) (hn : x ≠ "__name__" := by decide) (hdb : (x == ("__debug__" : Str)) = false := by decide)
    (he : starEach (a :: es) X.env = (false, eval a X.env) :: starEach es X.env := by rfl) (hpl : (backTo pos (starEach es X.env)).any (·.1) = false := by rfl) : ME X g W (.Call (.Name x p) (a :: es) [] pos) (ePrim op fs) := PE.of (pe_callB hc hg hm hv ha hn hdb he hpl) (ma_prim hs)
theorem me_callT (hc : CallR X (.type T) rr) (hs : SndN X.K g rr op) (hm : X.mg x = none) (hv : bootBuiltins x = some (.type T)) (ha : MA X g W (a :: es) fs) (hg : Gl X x := by rfl) (hn : x ≠ "__name__" := by decide) (hdb : (x == ("__debug__" : Str)) = false := by decide)
    (he : starEach (a :: es) X.env = (false, eval a X.env) :: starEach es X.env := by rfl) (hpl : (backTo pos (starEach es X.env)).any (·.1) = false := by rfl) : ME X g W (.Call (.Name x p) (a :: es) [] pos) (ePrim op fs) := PE.of (pe_callTy hc hg hm hv ha hn hdb he hpl) (ma_prim hs)
theorem me_ty (n : String) (hm : X.mg x = none) (hv : bootBuiltins x = some (.type n)) (hg : Gl X x := by rfl) (hn : x ≠ "__name__" := by decide) (hdb : (x == ("__debug__" : Str)) = false := by decide) : ME X g W (.Name x pos) (eC (.ty n)) := me_c (pe_bltn hg hm hv (show RelV (.ty n) (.type n) from rfl) hn hdb) fun _ _ _ => rfl
variable {K : PySem.W.Frag} {ph r : List Addr} {H : Hp} {S : Sto}
def pLen : List M → Sto → Option M
  | [.d (.str s)], _ => if s.length ≤ sizeLine then some (.d (.int s.length)) else none
  | [.d (.list xs)], _ => some (.d (.int xs.length))
  | [.d (.tuple xs)], _ => some (.d (.int xs.length))
  | [.loc n], S => match S[n]? with
    | some (.lst xs) => some (.d (.int xs.length))
    | _ => none
  | _, _ => none
theorem s_len : SndN K g (fun xs H Q => ∃ x n, xs = [x] ∧ LenV K x H n ∧ Q (.int n) H) pLen := by
  intro ph r S H ms m vs Q so a1 h k
  have fin : ∀ {v}, Mv K g ph r H m v → Q v H := fun mv => k r H _ (.refl _ _) so mv
  unfold pLen at h
  split at h
  · cases a1 with
    | cons b t =>
      cases t; cases b
      split at h
      · rename_i hz
        cases h
        exact ⟨_, _, rfl, ⟨hz, rfl⟩, fin (.int _)⟩
      · cases h
  · cases a1 with
    | cons b t =>
      cases t; cases h
      cases b with
      | lst e n t =>
        refine ⟨_, _, rfl, .inl ⟨_, .inl (.inl e), rfl⟩, ?_⟩
        rw [t.length]
        exact fin (.int _)
  · cases a1 with
    | cons b t =>
      cases t; cases h
      rename_i v
      have r1 : ∃ a, v = .ref a := by cases b <;> exact ⟨_, rfl⟩
      obtain ⟨q, rfl⟩ := r1
      obtain ⟨ys, sq, t⟩ := Dr.toT b
      refine ⟨_, _, rfl, .inr ⟨_, sq, rfl⟩, ?_⟩
      rw [t.length]
      exact fin (.int _)
  · rename_i n S
    cases a1 with
    | cons b t =>
      cases t
      split at h
      · rename_i xs q
        cases h
        obtain ⟨p, u, rfl, hr, hp, ov⟩ := own_at so b q
        cases u with
        | lst ws =>
          refine ⟨_, _, rfl, .inl ⟨_, .inl (.inl hp), rfl⟩, ?_⟩
          rw [← Paired.len' (show Paired (Mv K g ph r H) xs ws from ov)]
          exact fin (.int _)
        | _ => exact ov.elim
      · cases h
  · cases h
def pInt : List M → Sto → Option M
  | [.d (.int i)], _ => some (.d (.int i))
  | [.d (.bool b)], _ => some (.d (.int (if b then 1 else 0)))
  | _, _ => none
theorem s_pint : SndN K g (fun xs H Q => (∃ i, xs = [.int i] ∧ Q (.int i) H) ∨ ∃ k, xs = [.bl k] ∧ Q (.int (if k then 1 else 0)) H) pInt := by
  intro ph r S H ms m vs Q so a1 h k
  have fin : ∀ {v}, Mv K g ph r H m v → Q v H := fun mv => k r H _ (.refl _ _) so mv
  unfold pInt at h
  split at h
  · cases a1 with
    | cons b t => cases t; cases b; cases h; exact .inl ⟨_, rfl, fin (.int _)⟩
  · cases a1 with
    | cons b t => cases t; cases b; cases h; exact .inr ⟨_, rfl, fin (.int _)⟩
  · cases h
def pMax2 : List M → Sto → Option M
  | [.d (.int i), .d (.int j)], _ => some (.d (.int (if j > i then j else i)))
  | _, _ => none
def pMin2 : List M → Sto → Option M
  | [.d (.int i), .d (.int j)], _ => some (.d (.int (if j < i then j else i)))
  | _, _ => none
theorem s_max2 : SndN K g (fun xs H Q => ∃ i j, xs = [.int i, .int j] ∧ Q (.int (if j > i then j else i)) H) pMax2 := by
  intro ph r S H ms m vs Q so a1 h k
  unfold pMax2 at h
  split at h
  · cases a1 with
    | cons b t => cases t with
      | cons b2 t => cases t; cases b; cases b2; cases h; exact ⟨_, _, rfl, k r H _ (.refl _ _) so (.int _)⟩
  · cases h
theorem s_min2 : SndN K g (fun xs H Q => ∃ i j, xs = [.int i, .int j] ∧ Q (.int (if j < i then j else i)) H) pMin2 := by
  intro ph r S H ms m vs Q so a1 h k
  unfold pMin2 at h
  split at h
  · cases a1 with
    | cons b t => cases t with
      | cons b2 t => cases t; cases b; cases b2; cases h; exact ⟨_, _, rfl, k r H _ (.refl _ _) so (.int _)⟩
  · cases h
def pList : List M → Sto → Option M
  | [.d (.list xs)], _ => some (.d (.list xs))
  | [.d (.tuple xs)], _ => some (.d (.list xs))
  | _, _ => none
def pTuple : List M → Sto → Option M
  | [.d (.list xs)], _ => some (.d (.tuple xs))
  | [.d (.tuple xs)], _ => some (.d (.tuple xs))
  | [.loc n], S => match S[n]? with
    | some (.lst xs) => (dsOf xs).map fun ds => .d (.tuple ds)
    | _ => none
  | _, _ => none
theorem s_list : SndN K g (fun xs H Q => ∃ p ys, xs = [.ref p] ∧ (SqL K H p ys ∨ SqT K H p ys) ∧ ∀ l, H l = none → Q (.ref l) (upd H l (.lst ys))) pList := by
  intro ph r S H ms m vs Q so a1 h k
  unfold pList at h
  split at h
  · cases a1 with
    | cons b t =>
      cases t; cases h
      cases b with
      | lst e n t => exact ⟨_, _, rfl, .inl (.inl (.inl e)), new_dr so k fun p hp n => dr_lst hp n t⟩
  · cases a1 with
    | cons b t =>
      cases t; cases h
      rename_i v
      have r1 : ∃ a, v = .ref a := by cases b <;> exact ⟨_, rfl⟩
      obtain ⟨q, rfl⟩ := r1
      obtain ⟨ys, sq, t⟩ := Dr.toT b
      exact ⟨_, _, rfl, .inr sq, new_dr so k fun p hp n => dr_lst hp n t⟩
  · cases h
theorem s_tuple : SndN K g (fun xs H Q => ∃ p ys, xs = [.ref p] ∧ ((SqL K H p ys ∧ ∀ l, H l = none → Q (.ref l) (upd H l (.tup ys))) ∨ (SqT K H p ys ∧ Q (.ref p) H))) pTuple := by
  intro ph r S H ms m vs Q so a1 h k
  unfold pTuple at h
  split at h
  · cases a1 with
    | cons b t =>
      cases t; cases h
      cases b with
      | lst e n t => exact ⟨_, _, rfl, .inl ⟨.inl (.inl e), new_dr so k fun p hp n => dr_tup hp n t⟩⟩
  · cases a1 with
    | cons b t =>
      cases t; cases h
      rename_i v
      have r1 : ∃ a, v = .ref a := by cases b <;> exact ⟨_, rfl⟩
      obtain ⟨q, rfl⟩ := r1
      obtain ⟨ys, sq, t⟩ := Dr.toT b
      exact ⟨_, _, rfl, .inr ⟨sq, k r H _ (.refl _ _) so b⟩⟩
  · rename_i n S
    cases a1 with
    | cons b t =>
      cases t
      split at h
      · rename_i xs q
        obtain ⟨ds, q2, rfl⟩ := Option.map_eq_some_iff.mp h
        obtain ⟨p, u, rfl, hr, hp, ov⟩ := own_at so b q
        cases u with
        | lst ws => exact ⟨_, _, rfl, .inl ⟨.inl (.inl hp), new_dr so k fun p hp n => dr_tup hp n (dsOf_rel ov q2)⟩⟩
        | _ => exact ov.elim
      · cases h
  · cases h
/-- isinstance with a built-in class -/
def tyD : PyData → String
  | .none => "NoneType"
  | .bool _ => "bool"
  | .int _ => "int"
  | .str _ => "str"
  | .list _ => "list"
  | .tuple _ => "tuple"
  | .dict _ => "dict"
def isiT (a b : String) : Option Bool := match b with
  | "int" => some (a == "int" || a == "bool")
  | "bool" => some (a == "bool")
  | "str" => some (a == "str")
  | "list" => some (a == "list")
  | "tuple" => some (a == "tuple")
  | "dict" => some (a == "dict")
  | _ => none
theorem isi_ok (d : PyData) (b : String) (k : Bool) (h : isiT (tyD d) b = some k) : kitB (tyD d) b = some k := by
  unfold isiT at h
  split at h
  · cases h; cases d <;> (simp only [tyD]; decide +kernel)
  · cases h; cases d <;> (simp only [tyD]; decide +kernel)
  · cases h; cases d <;> (simp only [tyD]; decide +kernel)
  · cases h; cases d <;> (simp only [tyD]; decide +kernel)
  · cases h; cases d <;> (simp only [tyD]; decide +kernel)
  · cases h; cases d <;> (simp only [tyD]; decide +kernel)
  · cases h
theorem Dr.ty {B : List Addr} {v : V} {d : PyData} (h : Dr K B H v d) : TyX K H v (.type (tyD d)) := by
  cases h with
  | non => exact .base .non
  | bl b => exact .base (.bl b)
  | int i => exact .base (.int i)
  | str s => exact .base (.str s)
  | lst e n t => exact .base (.lst e)
  | tup e n t => exact .base (.tup e)
  | tupK a b c d e t => exact .kTuple a b
  | dct e n l t => exact .base (.dK e)
def pIsi : List M → Sto → Option M
  | [.d x, .ty n], _ => (isiT (tyD x) n).map fun b => .d (.bool b)
  | _, _ => none
theorem s_isi : SndN K g (rIsi K) pIsi := by
  intro ph r S H ms m vs Q so a1 h k
  unfold pIsi at h
  split at h
  · rename_i x n
    obtain ⟨b, q, rfl⟩ := Option.map_eq_some_iff.mp h
    cases a1 with
    | cons b1 t =>
      cases t with
      | cons b2 t =>
        cases t
        cases b2
        exact ⟨_, _, _, _, b, rfl, .ty n, Dr.ty b1, kit_ty (isi_ok x n b q), k r H _ (.refl _ _) so (.bl _)⟩
  · cases h

/-! ### repr -/
theorem entry_keys {P : Program} {w : World} {h : Heap} : ∀ {es : List DictEntry} {ks : List Key} {us : List Value}, Pairs (mixKind P w) es (ks.zip us) → ks.length = us.length → es.map (·.val) = us ∧ ReadsAll h (es.map (·.key)) (ks.map keyD) []
  | es, [], us, h1, h2 => by
    cases us with
    | nil => cases h1; exact ⟨rfl, .nil⟩
    | cons u us => cases h2
  | es, k :: ks, us, h1, h2 => by
    cases us with
    | nil => cases h2
    | cons u us =>
      cases h1 with
      | @cons e kv es kvs a b t =>
        obtain ⟨e1, e2⟩ := entry_keys (h := h) t (Nat.succ.inj h2)
        refine ⟨by rw [List.map_cons, e1, b], ?_⟩
        have a' : keyIs k e.key = true := a
        rcases keyIs_shape a' with ⟨i, t, rfl, e3⟩ | ⟨x, t, rfl, e3⟩
        · rw [List.map_cons, List.map_cons, e3]
          exact .cons (as := []) (bs := []) (.int i t) e2
        · rw [List.map_cons, List.map_cons, e3]
          exact .cons (as := []) (bs := []) (.str x t) e2
theorem kv_zip {ks : List Key} {vs : List V} (hl : ks.length = vs.length) {ws : List (Key × Value)} (h : KV (ks.zip vs) ws) : ∃ us, ws = ks.zip us ∧ Vals vs us ∧ ks.length = us.length := by
  induction ks generalizing vs ws with
  | nil =>
    cases vs with
    | nil =>
      cases h
      exact ⟨[], rfl, .nil, rfl⟩
    | cons v vs => cases hl
  | cons k ks ih =>
    cases vs with
    | nil => cases hl
    | cons v vs =>
      cases h with
      | @cons a b as bs h1 h2 =>
        obtain ⟨us, rfl, r2, l2⟩ := ih (Nat.succ.inj hl) h2
        obtain ⟨b1, b2⟩ := b
        obtain ⟨rfl, h1⟩ := h1
        exact ⟨b2 :: us, rfl, .cons h1 r2, by rw [List.length_cons, List.length_cons, l2]⟩
theorem zip_fst {α β : Type} : ∀ {as : List α} {bs : List β}, as.length = bs.length → (as.zip bs).map (·.1) = as
  | [], [], _ => rfl
  | [], _ :: _, h => by cases h
  | _ :: _, [], h => by cases h
  | a :: as, b :: bs, h => by rw [List.zip_cons_cons, List.map_cons, zip_fst (Nat.succ.inj h)]
theorem zip_snd {α β : Type} : ∀ {as : List α} {bs : List β}, as.length = bs.length → (as.zip bs).map (·.2) = bs
  | [], [], _ => rfl
  | [], _ :: _, h => by cases h
  | _ :: _, [], h => by cases h
  | a :: as, b :: bs, h => by rw [List.zip_cons_cons, List.map_cons, zip_snd (Nat.succ.inj h)]
section
variable {pins : List (Addr × Obj)} {st : L2.St} {s : Shared}
mutual
theorem Dr.reads (I : Inv X pins st H s) (hS : H sysModules = none) {B : List Addr} : ∀ {v : V} {d : PyData} {u : Value}, Dr X.K B H v d → RelV v u → ∃ as, Reads s.heap u d as ∧ sysModules ∉ as
  | _, _, _, .non, r => by cases r; exact ⟨[], .none, by simp⟩
  | _, _, _, .bl b, r => by cases r; exact ⟨[], .bool b, by simp⟩
  | _, _, _, .int i, r => by obtain ⟨t, rfl⟩ := r; exact ⟨[], .int i t, by simp⟩
  | _, _, _, .str x, r => by obtain ⟨t, rfl⟩ := r; exact ⟨[], .str x t, by simp⟩
  | _, _, _, @Dr.lst _ _ _ a xs ds e n t, r => by
    cases r
    obtain ⟨z, its, c, rv, e1⟩ := (show ObjOk X.prog X.w H s.heap a (.lst xs) from I.hok a _ e)
    obtain ⟨as, ra, na⟩ := DrAll.reads I hS t rv
    refine ⟨a :: as, .list e1 rfl rfl (by simpa using ra), fun z => ?_⟩
    rcases List.mem_cons.mp z with z | z
    · rw [← z, hS] at e; cases e
    · exact na z
  | _, _, _, @Dr.tup _ _ _ a xs ds e n t, r => by
    cases r
    obtain ⟨z, its, rv, o, e1, e2, c, e3⟩ := (show ObjOk X.prog X.w H s.heap a (.tup xs) from I.hok a _ e)
    obtain ⟨as, ra, na⟩ := DrAll.reads I hS t rv
    exact ⟨as, .tuple e1 e2 e3 (by simpa using ra), na⟩
  | _, _, _, @Dr.tupK _ _ _ a o its c xs ds h1 h2 h3 h4 h5 t, r => by
    cases r
    obtain ⟨as, ra, na⟩ := DrAll.reads I hS t h5
    exact ⟨as, .tuple (I.kIn a o h1) h2 h3 ra, na⟩
  | _, _, _, @Dr.dct _ _ _ a ks vs ds e n l t, r => by
    cases r
    obtain ⟨z, hd, ws, kv, o, es, ep, e1, e2, e3, e4, e5, e6⟩ := (show ObjOk X.prog X.w H s.heap a (.dK (ks.zip vs)) from I.hok a _ e)
    obtain ⟨us, rfl, rv, hl⟩ := kv_zip l kv
    obtain ⟨as, ra, na⟩ := DrAll.reads I hS t rv
    obtain ⟨q1, q2⟩ := entry_keys (h := s.heap) e5 hl
    have hl2 : (ks.map keyD).length = ds.length := by rw [List.length_map, l, t.length]
    refine ⟨a :: [] ++ as, .dict e1 e2.1 e3 ?_ ?_, fun z => ?_⟩
    · rw [zip_fst hl2]; exact q2
    · rw [zip_snd hl2, q1]; exact ra
    · rcases List.mem_cons.mp (show sysModules ∈ a :: as from z) with z | z
      · rw [← z, hS] at e; cases e
      · exact na z
theorem DrAll.reads (I : Inv X pins st H s) (hS : H sysModules = none) {B : List Addr} : ∀ {vs : List V} {ds : List PyData} {us : List Value}, DrAll X.K B H vs ds → Vals vs us → ∃ as, ReadsAll s.heap us ds as ∧ sysModules ∉ as
  | _, _, _, .nil, r => by cases r; exact ⟨[], .nil, by simp⟩
  | _, _, _, .cons a t, r => by
    cases r with
    | cons ra rt =>
      obtain ⟨as, h1, n1⟩ := Dr.reads I hS a ra
      obtain ⟨bs, h2, n2⟩ := DrAll.reads I hS t rt
      exact ⟨as ++ bs, .cons h1 h2, fun z => (List.mem_append.mp z).elim n1 n2⟩
end
end
def reprable (d : PyData) : Bool := d.showable && (decide (d.depth ≤ 50) && decide (d.shown.length ≤ sizeLine))
def pRepr : List M → Sto → Option M
  | [.d x], _ => if reprable x then some (.d (.str x.shown)) else none
  | _, _ => none
def rRepr (K : PySem.W.Frag) : List V → Hp → VK → Prop := fun xs H Q => ∃ v d B, xs = [v] ∧ Dr K B H v d ∧ reprable d = true ∧ Q (.str d.shown) H
theorem s_repr : SndN K g (rRepr K) pRepr := by
  intro ph r S H ms m vs Q so a1 h k
  unfold pRepr at h
  split at h
  · cases a1 with
    | cons b t =>
      cases t
      split at h
      · rename_i hz
        cases h
        exact ⟨_, _, _, rfl, b, hz, k r H _ (.refl _ _) so (.str _)⟩
      · cases h
  · cases h
theorem call_repr_d {k : Nat} (hr : Room k X.A) (hG : X.A.guards = some []) (hS : ∃ o, X.base.get? sysModules = some o) : CallR X (.builtin "repr") (rRepr X.K) := by
  intro pins s st H xs us Q I r h
  obtain ⟨v, d, B, rfl, dr, hz, q⟩ := h
  obtain ⟨u, rfl, rx⟩ := vals1 r
  unfold reprable at hz
  rw [Bool.and_eq_true, Bool.and_eq_true] at hz
  obtain ⟨z1, z2, z3⟩ := hz
  have z2 := of_decide_eq_true z2
  have z3 := of_decide_eq_true z3
  obtain ⟨o, ho⟩ := hS
  have hH : H sysModules = none := (I.bs _ _ ho).2
  have hu := hr.units
  have big : ∀ {a : Addr}, u = .ref a → wpAny (model X.prog X.w) X.A (call (.builtin "repr") [u]) (EP X pins st Q) X.xe s := fun {a} e => by
    subst e
    obtain ⟨as, ra, na⟩ := Dr.reads I hH dr rx
    refine repr_of_reads' ra z1 (fun _ => na) hG (by omega) (fun _ _ e => e) (fun h' u tk hk => ?_) z3
    exact ⟨.str d.shown, H, I.kept (t' := tk) hk, ⟨u, rfl⟩, q⟩
  cases dr with
  | non =>
    cases rx
    refine PySem.P.repr_of_none ?_
    refine ⟨.str PyData.none.shown, H, I.tok _, ⟨s.toks, by rw [PyData.shown_none]⟩, q⟩
  | bl b =>
    cases rx
    refine PySem.P.repr_of_bool ?_
    refine ⟨.str (PyData.bool b).shown, H, I.tok _, ⟨s.toks, ?_⟩, q⟩
    rw [PyData.shown_bool]
  | int i =>
    obtain ⟨t, rfl⟩ := rx
    have zi : i.natAbs.log2 < 1920 := by simpa [PyData.showable] using z1
    refine PySem.P.repr_of_int zi ?_
    exact ⟨.str (PyData.int i).shown, H, I.tok _, ⟨s.toks, by rw [PyData.shown_int]⟩, q⟩
  | str x =>
    obtain ⟨t, rfl⟩ := rx
    refine PySem.P.repr_of_str ?_ (by rw [← PyData.shown_str]; exact z3)
    exact ⟨.str (PyData.str x).shown, H, I.tok _, ⟨s.toks, by rw [PyData.shown_str]⟩, q⟩
  | lst e n t => exact big (show u = .ref _ from rx)
  | tup e n t => exact big (show u = .ref _ from rx)
  | tupK a b c d e t => exact big (show u = .ref _ from rx)
  | dct e n l t => exact big (show u = .ref _ from rx)
end
end Mr

end
section
set_option maxRecDepth 100000
set_option autoImplicit false
namespace MrE
open PySem PySem.W PySem.Calls
open PyProof.Rows hiding St
/-! ### isinstance of an error that may have a dict -/
section
variable {prog : Program} {w : World} {A : Around} {E : Value → Shared → Prop} {s : Shared} {K : Frag} {x C : Addr} {ox : Obj} {od : Option Obj}
theorem bind_any {nm : Str} {a g : Value} (hc : (clsIn K C).isSome = true) (hf : findIn K (.ref C) nm = some (some a)) (hg : specialIn K a "__get__" = some (some g)) (ht : takesIn K a = some true) : findObj K C od nm = some (.bind g a) := by
  obtain ⟨cd, hc⟩ := Option.isSome_iff_exists.mp hc
  unfold findObj
  rw [hc, Option.bind_some, hf, Option.bind_some]
  simp [hg, ht]
theorem cls_err {Q : Option Value → Shared → Prop} (T : L2.ExcC K C) (X : K.In s.heap) (I : InstAt s.heap x ox C od) (h : Q (some (.ref C)) { s with toks := s.toks + 1 }) : wpAny (model prog w) A (getAttr? (.ref x) "__class__") Q E s := by
  have hb : findObj K C od "__class__" = some (.bind (.builtin "getset_descriptor.__get__") (.builtin "object.__class__")) := bind_any (by
    obtain ⟨cd, hc, _⟩ := any_some T.hd
    rw [hc]
    rfl) T.ha T.hn T.ht
  obtain ⟨hp, gg, dd, tt, os⟩ := s
  have lT := I.type (M := model prog w)
  have lA := looks_findIn (M := model prog w) X T.hg
  have lF := looks_find (M := model prog w) X I hb
  have lS : Looks (model prog w) hp (isInstance (.ref x) (.type "BaseException")) true := lT.andThen (looks_subIn X T.hs)
  have no2 : (Value.builtin "BaseException.__getattribute__" == Value.builtin "object.__getattribute__") = false := by decide +kernel
  have no1 : (onTheHeap (Value.ref C) && Value.builtin "BaseException.__getattribute__" == Value.builtin "object.__getattribute__") = false := by
    rw [no2]
    rfl
  unfold getAttr? getAttrBy? getAttrBy
  refine wpAny_bind (wpAny_mkText (wpAny_bind (wpAny_attempt (wpAny_holding (wpAny_bind (lT.at (wpAny_bind (lA.at ?_))))))))
  show wpAny _ _ (if (onTheHeap (Value.ref C) && Value.builtin "BaseException.__getattribute__" == Value.builtin "object.__getattribute__") = true then _ else _) _ _ _
  rw [no1, if_neg Bool.false_ne_true]
  unfold getAttrByItsOwn hookBefore
  refine wpAny_bind ?_
  rw [if_pos (show onTheHeap (Value.ref C) = true from rfl)]
  refine (looks_findIn (M := model prog w) X T.hk).at ?_
  refine wpAny_bind (wpAny_attempt (wpAny_holding ?_))
  unfold callGetattribute
  rw [if_neg (show ¬ ((false && onTheHeap (Value.builtin "BaseException.__getattribute__")) = true) from by decide)]
  unfold boundAndCalled
  rw [PySem.F.excAttr_ValueError.ga.bind (.ref x)]
  refine wpAny_bind (wpAny_pure ?_)
  show wpAny _ _ (call (.builtin "BaseException.__getattribute__") [.ref x, .str "__class__" tt]) _ _ _
  refine wpAny_call (codeAny_call_builtin PySem.F.excAttr_ValueError.ga.plain PySem.F.entry_bexc_ga ?_)
  refine @check_slot (model prog w) _ _ ⟨hp, gg, dd, tt + 1, os⟩ "BaseException.__getattribute__" "BaseException" "__getattribute__" (.ref x) [.str "__class__" tt] [] _ (by decide +kernel) (by decide +kernel) lS (PySem.F.args_bexc_ga (.ref x) (.str "__class__" tt)) ?_
  unfold Builtin.«object.__getattribute__»
  refine wpAny_bind (wpAny_of_eq (a := ((Value.ref x : Value), [Value.str "__class__" tt])) (by first | rfl | (simp only [slotArgs]; rfl)) ?_)
  refine wpAny_bind (wpAny_pure (wpAny_bind (lT.at (wpAny_bind (lF.at ?_)))))
  show wpAny _ _ (holding [Value.builtin "object.__class__"] (call (.builtin "getset_descriptor.__get__") [.builtin "object.__class__", .ref x, .ref C]) >>= ret) _ _ _
  refine wpAny_bind (wpAny_holding (wpAny_call (class_get (s := ⟨hp, gg, dd, tt + 1, os⟩) (ox := ox) (od := od) X I T.hm ?_)))
  refine wpAny_pure ?_
  show wpAny _ _ (handedOut (.ref C)) _ _ _
  rw [handedOut_of (v := .ref C) rfl]
  first
    | exact wpAny_pure (wpAny_pure h)
    | exact wpAny_pure h
    | exact wpAny_pure (wpAny_bind (wpAny_pure (wpAny_pure h)))
theorem kit_err (T : L2.ExcC K C) : KitX K (.ref x) (.ref C) (fun h => InstAt h x ox C od) where
  ty := fun _ _ _ I => I.type
  it := fun _ _ X _ => by
    obtain ⟨cd, hc, _⟩ := any_some T.hd
    unfold clsIn at hc
    split at hc
    · rename_i _ _ _ _ ho
      intro A' Q' E' s' k q
      unfold isType loadHead
      exact wpAny_bind (wpAny_loadPart (k _ _ (X _ _ ho)) (wpAny_pure q))
    · cases hc
  ne := fun h tp dd its n sl X htp => by
    obtain ⟨cd, hc, _⟩ := any_some T.hd
    refine Bool.eq_false_iff.mpr fun q => ?_
    have e : C = tp := Value.ref.inj (beq_iff_eq.mp q)
    subst e
    unfold clsIn at hc
    split at hc
    · rename_i _ _ _ _ ho
      have z := (X _ _ ho).symm.trans htp
      cases z
    · cases hc
  ca := fun X I k => cls_err T X I k
end
end MrE
namespace L2
open PySem PySem.Spec PyProof.Rows
/-! ### several clauses with names -/
/-- what the clauses with names wish, one after the other -/
def wManyA (K : PySem.W.Frag) (Wout : WX) (D : Ends) : List (Value × Nat × (Addr → Value → Option Addr → TS)) → WX
  | [] => Wout
  | (c, i, ts) :: r => fun cls d s H => ∃ b, PySem.W.exmOne K cls c = some b ∧
      (b = true → ∀ a, H a = none → ts a cls d { nx := fun s' H' => D.nx (s'.set i none) H', rt := D.rt, bk := fun s' H' => D.bk (s'.set i none) H', ct := fun s' H' => D.ct (s'.set i none) H' } (s.set i (some (.ref a))) H) ∧
      (b = false → wManyA K Wout D r cls d s H)
inductive HdsA (X : Cx) : List ExceptHandler → List (Value × Nat × (Addr → Value → Option Addr → TS)) → Prop
  | nil : HdsA X [] []
  | cons {x n : Str} {c : Value} {i : Nat} {ts : Addr → Value → Option Addr → TS} {b0 : Stmt} {su : List Stmt} {np p2 : Pos} {hds : List ExceptHandler} {l : List (Value × Nat × (Addr → Value → Option Addr → TS))}
      (hc : Names X x c) (hi : X.N[i]? = some n) (hl : X.env.kindOf n = some .local)
      (hsu : ∀ (a : Addr) (oe : Obj) (cls : Value) (d : Option Addr) (pn : List (Addr × Obj)), Zc cls d oe → (∃ vs, oe.data = .fields vs) → PSs (X.suite a ((a, oe) :: pn)) (b0 :: su) (ts a cls d)) (r : HdsA X hds l) :
      HdsA X (.ExceptHandler (some (.Name x np)) (some n) (b0 :: su) p2 :: hds) ((c, i, ts) :: l)
section
variable {X : Cx} {body : List Stmt} {h0 : ExceptHandler} {hds : List ExceptHandler} {l : List (Value × Nat × (Addr → Value → Option Addr → TS))} {pos : Pos} {tb : WX → TS} {Wout : WX}
theorem ps_try_manyA (hs : X.stack = X.env :: X.outer) (hf : X.env.frame = some X.env.locals) (hN : X.N.Nodup) (tk : Takes X Wout)
    (hb : ∀ (W : WX) (pn : List (Addr × Obj)) (xe : Value → Shared → Prop), Takes (X.tr pn xe) W → PassesOwn (model X.prog X.w) X.A X.env xe → PSs (X.tr pn xe) body (tb W))
    (hh : HdsA X (h0 :: hds) l) : PS X (.Try body (h0 :: hds) [] [] pos) (fun D s H => tb (wManyA X.K Wout D l) D s H) := by
  refine ⟨fun pins s st H D I h => ?_⟩
  have ok := I.ok
  have hfr : X.A.frames = some (X.env :: X.outer) := by rw [ok.frames, hs]
  refine wpAny_Try_except ?_
  refine wpAny_mono ((hb (wManyA X.K Wout D l) (X.pn ++ pins) (fun e sa => wpAny (model X.prog X.w) X.A (noteFrame e X.env) (fun _ sb => wpAny (model X.prog X.w) X.A (setFlight e none) (fun _ sc =>
    wpAny (model X.prog X.w) X.A (handleBy e X.env (h0 :: hds)) (SP X pins D) X.xe sc) X.xe sb) X.xe sa) (fun u s' xx => ?_) PassesOwn.looking).run [] s st H D (I.toTry _) h) (fun f s1 hsp => ?_) (fun e s1 he => he)
  · obtain ⟨a, B, sI, pins', st', H', cls, d, rfl, Jt, nb, up, sky, na, os, ag, w⟩ := xx
    have J : Inv X pins st' H' sI := Jt.ofTry ok
    have skyE : Sky B (X.env :: X.outer) a (Zc cls d) X.env.locals s'.heap := by
      rw [← hs]
      exact sky
    show wpAny (model X.prog X.w) X.A (noteFrame (.ref a) X.env) _ _ _
    refine Sky.land Zc.steady hfr hf skyE fun h3 fl3 up3 => ?_
    have J3 : Inv X pins st' H' { s' with heap := h3 } := J.landed nb fl3.1 (up.trans up3) os ag
    obtain ⟨oe3, vs3, he3, hz3, hd3⟩ := fl3.there
    have nfr : a ∉ frs (X.env :: X.outer) := fun hm => by
      obtain ⟨_, o', e', hnf⟩ := fl3.2.2.1.mem hm
      rw [he3] at e'
      cases e'
      exact hnf _ hd3
    have nL : a ≠ X.env.locals := fun z => nfr (List.mem_filterMap.mpr ⟨X.env, List.mem_cons_self, by rw [hf, z]⟩)
    have nF : a ∉ X.fs := fun hm => by
      obtain ⟨e, he, q⟩ := List.mem_filterMap.mp hm
      exact nfr (List.mem_filterMap.mpr ⟨e, List.mem_cons_of_mem _ he, q⟩)
    have S3 := J3.suite he3 hd3 na nL nF
    have go : ∀ {hs2 : List ExceptHandler} {l2 : List (Value × Nat × (Addr → Value → Option Addr → TS))}, HdsA X hs2 l2 → wManyA X.K Wout D l2 cls d st' H' → wpAny (model X.prog X.w) X.A (handleBy (.ref a) X.env hs2) (SP X pins D) X.xe { s' with heap := h3 } := by
      intro hs2 l2 hk
      induction hk with
      | nil =>
        intro w
        refine wpAny_handleBy_nil ?_
        obtain ⟨k1, k2, k3, oe, vs, T, oT, tz, he, hz, hd, h1, hr⟩ := id fl3
        unfold PySem.passOn
        refine wpAny_bind (wpAny_field he hd h1 ?_)
        rw [if_neg (show ¬ ((Value.ref T == Value.none) = true) from by simp)]
        have fin : wpAny (model X.prog X.w) X.A (setFlight (.ref a) X.env.frame) (fun _ s4 => wpAny (model X.prog X.w) X.A (throw (.ref a) : Sem Flow) (SP X pins D) X.xe s4) X.xe { s' with heap := h3 } := by
          rw [hf]
          refine HandSPX.setFlight_upZ fl3 fun h4 hh4 up4 => wpAny_throw (tk _ _ ?_)
          exact ⟨a, B, sI, pins, st', H', cls, d, rfl, J, nb, (up.trans up3).trans up4, .inr (.inr (by rw [hs]; exact hh4)), na, os, ag, w⟩
        first
          | exact wpAny_bind (wpAny_pure (wpAny_bind fin))
          | exact wpAny_bind fin
      | @cons x n c i ts b0 su np p2 hs3 l3 hc hi hl hsu r ih =>
        intro w
        obtain ⟨b, hb1, hyes, hno⟩ := w
        refine wpAny_handleBy_cons (codeAny_handlers_test ?_) (by intro q; cases q)
        have lT : PySem.W.Looks (model X.prog X.w) h3 (typeOf (.ref a)) cls := fun A Q E s k q => wpAny_typeOf_ref (k _ _ he3) (by rw [hz3.1]; exact q)
        have test : ∀ {Q : Value → Shared → Prop} {E : Value → Shared → Prop}, Q c { s' with heap := h3 } → wpAny (model X.prog X.w) (X.A.mark (some (.ref a))) (eval (.Name x np) X.env) Q E { s' with heap := h3 } := fun {Q E} q => by
          obtain ⟨hg, hdbg, hm | ⟨hm, hv, hnn⟩⟩ := hc
          · exact ld_glob (X := X.suite a ((a, oe3) :: (X.pn ++ pins))) S3 hg hm q hdbg
          · exact ld_blt (X := X.suite a ((a, oe3) :: (X.pn ++ pins))) S3 hg hm hv q hnn hdbg
        refine test ((PySem.W.exm_one (M := model X.prog X.w) J3.kIn lT hb1).here ?_)
        cases b with
        | true =>
          refine codeAny_handlers_suite_as ?_
          refine HandSPX.lands_againZ fl3 fun h4 fl4 up4 => ?_
          have J4 : Inv X pins st' H' { s' with heap := h4 } := J.landed nb fl4.1 ((up.trans up3).trans up4) os ag
          obtain ⟨oe4, vs4, he4, hz4, hd4⟩ := fl4.there
          refine store_ok (X := X.suite a ((a, oe4) :: (X.pn ++ pins))) (v := .ref a) (J4.suite he4 hd4 na nL nF) hN hi (.inl hl) rfl (fun s5 S5 => ?_) (.inr hl)
          refine wpAny_mono ((hsu a oe4 cls d (X.pn ++ pins) hz4 ⟨_, hd4⟩).run [] s5 _ H' _ S5 (hyes rfl a na)) (fun f s6 hsp => ?_) (fun _ _ z => False.elim z)
          have goes : ∀ {st6 : St} {H6 : Hp} {Q : Shared → Prop}, Inv (X.suite a ((a, oe4) :: (X.pn ++ pins))) [] st6 H6 s6 → (∀ s7, Inv X pins (st6.set i none) H6 s7 → Q s7) →
              wpAny (model X.prog X.w) X.A (do bindName X.env n .none; unbindBehindTheSuite X.env n p2) (fun _ s7 => Q s7) X.xe s6 := fun {st6 H6 Q} S6 hq => gone_ok (S6.unsuite ok) hN hi hl hq
          cases f with
          | next =>
            obtain ⟨st6, H6, S6, q6⟩ := hsp
            exact goes S6 fun s7 J7 => ⟨_, _, J7, q6⟩
          | brk =>
            obtain ⟨st6, H6, S6, q6⟩ := hsp
            exact goes S6 fun s7 J7 => ⟨_, _, J7, q6⟩
          | cont =>
            obtain ⟨st6, H6, S6, q6⟩ := hsp
            exact goes S6 fun s7 J7 => ⟨_, _, J7, q6⟩
          | ret u =>
            obtain ⟨v6, st6, H6, S6, r6, q6⟩ := hsp
            exact goes S6 fun s7 J7 => ⟨_, _, _, J7, r6, q6⟩
        | false =>
          show wpAny _ X.A (handleBy (.ref a) X.env hs3) _ _ _
          exact ih (hno rfl)
    exact go hh w
  · cases f with
    | next =>
      obtain ⟨st6, H6, J6, q⟩ := hsp
      exact wpAny_execs_nil ⟨st6, H6, J6.ofTry ok, q⟩
    | brk =>
      obtain ⟨st6, H6, J6, q⟩ := hsp
      exact ⟨st6, H6, J6.ofTry ok, q⟩
    | cont =>
      obtain ⟨st6, H6, J6, q⟩ := hsp
      exact ⟨st6, H6, J6.ofTry ok, q⟩
    | ret u =>
      obtain ⟨v6, st6, H6, J6, r6, q⟩ := hsp
      exact ⟨v6, st6, H6, J6.ofTry ok, r6, q⟩
end
end L2

end
section
set_option maxRecDepth 100000
set_option autoImplicit false
namespace Mr
open PySem PySem.Spec L2
open PyProof.Rows hiding St

/-! ### the error that a suite holds -/
def noX : M → Prop
  | .exn _ _ => False
  | _ => True
def noXO : O → Prop
  | .lst xs => ∀ m ∈ xs, noX m
  | .dct kvs => ∀ p ∈ kvs, noX p.2
abbrev Cfg.held (g : Cfg) (a : Addr) (c : Nat) (d : Option Addr) : Cfg := { g with ex := some (a, c, d) }
section
variable {K : PySem.W.Frag} {g : Cfg} {ph r : List Addr} {H : Hp}
theorem Mv.noX (h0 : g.ex = none) {m : M} {v : V} (h : Mv K g ph r H m v) : Mr.noX m := by
  cases m with
  | exn c x =>
    obtain ⟨a, d, e, _⟩ := h
    rw [h0] at e
    cases e
  | _ => trivial
theorem Mv.toX (h0 : g.ex = none) (a : Addr) (c : Nat) (d : Option Addr) {m : M} {v : V} (h : Mv K g ph r H m v) : Mv K (g.held a c d) ph r H m v := by
  cases m with
  | exn c x =>
    obtain ⟨a, d, e, _⟩ := h
    rw [h0] at e
    cases e
  | _ => exact h
theorem Mv.unX {a : Addr} {c : Nat} {d : Option Addr} {m : M} {v : V} (h : Mv K (g.held a c d) ph r H m v) (n : Mr.noX m) : Mv K g ph r H m v := by
  cases m with
  | exn c x => exact n.elim
  | _ => exact h
theorem Ov.noX (h0 : g.ex = none) {o : O} {u : HO} (h : Ov K g ph r H o u) : noXO o := by
  cases o with
  | lst xs =>
    cases u with
    | lst vs =>
      replace h : Paired (Mv K g ph r H) xs vs := h
      intro m hm
      induction h with
      | nil => simp at hm
      | cons a t ih =>
        rcases List.mem_cons.mp hm with z | z
        · rw [z]; exact Mv.noX h0 a
        · exact ih z
    | _ => exact h.elim
  | dct kvs =>
    cases u with
    | dK ws =>
      replace h : Paired (fun (p : Key × M) (q : Key × V) => p.1 = q.1 ∧ Mv K g ph r H p.2 q.2) kvs ws := h
      intro m hm
      induction h with
      | nil => simp at hm
      | cons a t ih =>
        rcases List.mem_cons.mp hm with z | z
        · rw [z]; exact Mv.noX h0 a.2
        · exact ih z
    | _ => exact h.elim
theorem Ov.unX {a : Addr} {c : Nat} {d : Option Addr} {o : O} {u : HO} (h : Ov K (g.held a c d) ph r H o u) (n : noXO o) : Ov K g ph r H o u := by
  cases o with
  | lst xs =>
    cases u with
    | lst vs =>
      replace h : Paired (Mv K (g.held a c d) ph r H) xs vs := h
      replace n : ∀ m ∈ xs, Mr.noX m := n
      show Paired (Mv K g ph r H) xs vs
      induction h with
      | nil => exact .nil
      | cons a t ih => exact .cons (Mv.unX a (n _ List.mem_cons_self)) (ih fun m hm => n m (List.mem_cons_of_mem _ hm))
    | _ => exact h
  | dct kvs =>
    cases u with
    | dK ws =>
      replace h : Paired (fun (p : Key × M) (q : Key × V) => p.1 = q.1 ∧ Mv K (g.held a c d) ph r H p.2 q.2) kvs ws := h
      replace n : ∀ m ∈ kvs, Mr.noX m.2 := n
      show Paired (fun (p : Key × M) (q : Key × V) => p.1 = q.1 ∧ Mv K g ph r H p.2 q.2) kvs ws
      induction h with
      | nil => exact .nil
      | cons a t ih => exact .cons ⟨a.1, Mv.unX a.2 (n _ List.mem_cons_self)⟩ (ih fun m hm => n m (List.mem_cons_of_mem _ hm))
    | _ => exact h
theorem Ov.toX (h0 : g.ex = none) (a : Addr) (c : Nat) (d : Option Addr) {o : O} {u : HO} (h : Ov K g ph r H o u) : Ov K (g.held a c d) ph r H o u := by
  cases o with
  | lst xs =>
    cases u with
    | lst vs => exact Paired.mapP h fun _ _ z => Mv.toX h0 a c d z
    | _ => exact h
  | dct kvs =>
    cases u with
    | dK ws => exact Paired.mapP h fun _ _ z => ⟨z.1, Mv.toX h0 a c d z.2⟩
    | _ => exact h
theorem Ev.toX (h0 : g.ex = none) (a : Addr) (c : Nat) (d : Option Addr) {e : Env1} {s : L2.St} (h : Ev K g ph r H e s) : Ev K (g.held a c d) ph r H e s := Paired.mapP h fun m v z => by
  cases m with
  | none => trivial
  | some m =>
    cases v with
    | none => exact z
    | some v => exact Mv.toX h0 a c d z
theorem Ev.unX {a : Addr} {c : Nat} {d : Option Addr} {e : Env1} {s : L2.St} (h : Ev K (g.held a c d) ph r H e s) (n : ∀ m, some m ∈ e → Mr.noX m) : Ev K g ph r H e s := by
  induction h with
  | nil => exact .nil
  | @cons m v ms vs z t ih =>
    refine .cons ?_ (ih fun m hm => n m (List.mem_cons_of_mem _ hm))
    cases m with
    | none => trivial
    | some m =>
      cases v with
      | none => exact z
      | some v => exact Mv.unX z (n m List.mem_cons_self)
theorem Ev.noX (h0 : g.ex = none) {e : Env1} {s : L2.St} (h : Ev K g ph r H e s) : ∀ m, some m ∈ e → Mr.noX m := by
  intro m hm
  induction h with
  | nil => simp at hm
  | @cons m' v ms vs z t ih =>
    rcases List.mem_cons.mp hm with q | q
    · subst q
      cases v with
      | none => exact z.elim
      | some v => exact Mv.noX h0 z
    · exact ih q
theorem So.noX (h0 : g.ex = none) {S : Sto} (s : So K g ph r S H) : (∀ o ∈ S, noXO o) ∧ ∀ p ∈ g.kp, ∀ m, some m ∈ p.1 → Mr.noX m := by
  refine ⟨fun o ho => ?_, fun p hp m hm => Ev.noX h0 (s.kp p hp) m hm⟩
  obtain ⟨n, hn, e⟩ := List.getElem_of_mem ho
  obtain ⟨_, _, _, _, ov⟩ := s.at_ n o (by rw [List.getElem?_eq_getElem hn, e])
  exact ov.noX h0
theorem So.toX (h0 : g.ex = none) (a : Addr) (c : Nat) (d : Option Addr) {S : Sto} (s : So K g ph r S H) : So K (g.held a c d) ph r S H :=
  ⟨s.len, s.nd, s.dis, s.there, fun n o e => by
    obtain ⟨b, u, e1, e2, ov⟩ := s.at_ n o e
    exact ⟨b, u, e1, e2, ov.toX h0 a c d⟩, s.tabs, fun q hq => Ev.toX h0 a c d (s.kp q hq)⟩
theorem So.unX {a : Addr} {c : Nat} {d : Option Addr} {S : Sto} (s : So K (g.held a c d) ph r S H) (n : (∀ o ∈ S, noXO o) ∧ ∀ p ∈ g.kp, ∀ m, some m ∈ p.1 → Mr.noX m) : So K g ph r S H :=
  ⟨s.len, s.nd, s.dis, s.there, fun i o e => by
    obtain ⟨b, u, e1, e2, ov⟩ := s.at_ i o e
    exact ⟨b, u, e1, e2, ov.unX (n.1 o (List.mem_of_getElem? e))⟩, s.tabs, fun q hq => Ev.unX (s.kp q hq) (n.2 q hq)⟩
end

/-! ### try: .. except C as e: .. -/
/-- a suite that only tells: what it returns is no error, what is owned stays -/
def Tells (fs : Env1 → Sto → Out) : Prop := ∀ e S m S', fs e S = .rt m S' → S' = S ∧ noX m
def suiteO : Out → Out
  | .rt m S => .rt m S
  | _ => .bad
def hdl : List ((Nat → Option Bool) × Nat × (Env1 → Sto → Out)) → Nat → Option (Str × PyData) → Env1 → Sto → Out
  | [], c, x, e, S => .rz c x e S
  | (sub, i, fs) :: l, c, x, e, S => match sub c with
    | some true => suiteO (fs (e.set i (some (.exn c x))) S)
    | some false => hdl l c x e S
    | none => .bad
def sTry (fb : Env1 → Sto → Out) (l : List ((Nat → Option Bool) × Nat × (Env1 → Sto → Out))) : Env1 → Sto → Out := fun e S => match fb e S with
  | .rz c x e1 S1 => hdl l c x e1 S1
  | o => o
abbrev W00 : WX := fun _ _ _ _ => False
inductive HdsM (X : Cx) (g : Cfg) : List ExceptHandler → List ((Nat → Option Bool) × Nat × (Env1 → Sto → Out)) → Prop
  | nil : HdsM X g [] []
  | cons {x n : Str} {cv : Value} {i : Nat} {sub : Nat → Option Bool} {fs : Env1 → Sto → Out} {b0 : Stmt} {su : List Stmt} {np p2 : Pos} {hds : List ExceptHandler} {l : List ((Nat → Option Bool) × Nat × (Env1 → Sto → Out))}
      (hc : Names X x cv) (hi : X.N[i]? = some n) (hl : X.env.kindOf n = some .local) (hex : ∀ c b, sub c = some b → PySem.W.exmOne X.K (.ref (g.cl c)) cv = some b) (ht : Tells fs)
      (hsu : ∀ (c : Nat), sub c = some true → ∀ (a : Addr) (oe : Obj) (d : Option Addr) (pn : List (Addr × Obj)), Zc (.ref (g.cl c)) d oe → (∃ vs, oe.data = .fields vs) → MSs (X.suite a ((a, oe) :: pn)) (g.held a c d) W00 (b0 :: su) fs) (r : HdsM X g hds l) :
      HdsM X g (.ExceptHandler (some (.Name x np)) (some n) (b0 :: su) p2 :: hds) ((sub, i, fs) :: l)
section
variable {X : Cx} {g : Cfg} {W : WX}
theorem HdsM.does (h0 : g.ex = none) {hds : List ExceptHandler} {l : List ((Nat → Option Bool) × Nat × (Env1 → Sto → Out))} (h : HdsM X g hds l) :
    ∃ l', HdsA X hds l' ∧ ∀ (D : Ends) (ph r : List Addr) (S : Sto) (H : Hp) (e : Env1) (s : L2.St) (c : Nat) (x : Option (Str × PyData)) (d : Option Addr), So X.K g ph r S H → Ev X.K g ph r H e s → Xv X.K (ph ++ r) H d x → PostS X.K g W ph r s H (hdl l c x e S) D → wManyA X.K W D l' (.ref (g.cl c)) d s H := by
  induction h with
  | nil => exact ⟨[], .nil, fun D ph r S H e s c x d so ev xv h => h r H s d (.refl _ _) so ev xv⟩
  | @cons x n cv i sub fs b0 su np p2 hds l hc hi hl hex ht hsu r ih =>
    obtain ⟨l', hA, hw⟩ := ih
    refine ⟨(cv, i, fun a cls d D s H => ∃ c, cls = .ref (g.cl c) ∧ sub c = some true ∧ tMS X.K (g.held a c d) W00 fs D s H) :: l', .cons hc hi hl (fun a oe cls d pn hz hf => ⟨fun pins s st H D I h => ?_⟩) hA, fun D ph r S H e s c x d so ev xv h => ?_⟩
    · obtain ⟨c, rfl, hs, h⟩ := h
      exact (hsu c hs a oe d pn hz hf).run pins s st H D I h
    · unfold hdl at h
      cases q : sub c with
      | none => rw [q] at h; exact h.elim
      | some b =>
        rw [q] at h
        refine ⟨b, hex c b q, fun hb a ha => ?_, fun hb => ?_⟩
        · subst hb
          replace h : PostS X.K g W ph r s H (suiteO (fs (e.set i (some (.exn c x))) S)) D := h
          refine ⟨c, rfl, q, ph, r, S, _, so.toX h0 a c d, (ev.toX h0 a c d).set i (m := .exn c x) ⟨a, d, rfl, rfl, xv⟩, ?_⟩
          cases q2 : fs (e.set i (some (.exn c x))) S with
          | rt m S' =>
            rw [q2] at h
            obtain ⟨rfl, nm⟩ := ht _ _ _ _ q2
            exact fun r1 H1 v x1 so1 m1 => h r1 H1 v x1 (so1.unX (so.noX h0)) (m1.unX nm)
          | _ => rw [q2] at h; exact h.elim
        · subst hb
          exact hw D ph r S H e s c x d so ev xv h
theorem ms_try {body : List Stmt} {hh : ExceptHandler} {hds : List ExceptHandler} {l : List ((Nat → Option Bool) × Nat × (Env1 → Sto → Out))} {fb : Env1 → Sto → Out} {pos : Pos} (h0 : g.ex = none) (hs : X.stack = X.env :: X.outer) (hf : X.env.frame = some X.env.locals) (hN : X.N.Nodup) (tk : Takes X W)
    (hb : ∀ (W : WX) (pn : List (Addr × Obj)) (xe : Value → Shared → Prop), Takes (X.tr pn xe) W → PassesOwn (model X.prog X.w) X.A X.env xe → MSs (X.tr pn xe) g W body fb)
    (h : HdsM X g (hh :: hds) l) : MS X g W (.Try body (hh :: hds) [] [] pos) (sTry fb l) := by
  obtain ⟨l', hA, hw⟩ := h.does (W := W) h0
  refine PS.of (ps_try_manyA (tb := fun W => tMS X.K g W fb) hs hf hN tk hb hA) fun D s H h => ?_
  obtain ⟨ph, r, S, e, so, ev, h⟩ := h
  refine ⟨ph, r, S, e, so, ev, ?_⟩
  unfold sTry at h
  cases q : fb e S with
  | rz c x e1 S1 =>
    rw [q] at h
    exact fun r1 H1 s1 d x1 so1 ev1 xv => hw D ph r1 S1 H1 e1 s1 c x d so1 ev1 xv (PostS.mono x1 h)
  | _ => rw [q] at h; exact h

/-! ### in a suite: the error's field, isinstance -/
variable {a C : Addr} {c : Nat} {d : Option Addr} {oe : Obj} {pn : List (Addr × Obj)} {pos : Pos}
def eFld (n : Str) (f : Env1 → Sto → R M) : Env1 → Sto → R M := fun e S => (f e S).bind fun m S1 => match m with
  | .exn _ (some (fl, x)) => if fl = n then .ok (.d x) S1 else .bad
  | _ => .bad
theorem me_fld {e1 : Expr} {f : Env1 → Sto → R M} {n : Str} (T : XfC X.K (g.cl c)) (hno : PySem.W.findIn X.K (.ref (g.cl c)) n = some none) (hz : Zc (.ref (g.cl c)) d oe) (hf : ∃ vs, oe.data = .fields vs) (he : ME (X.suite a ((a, oe) :: pn)) (g.held a c d) W e1 f)
    (hb : attributeBase e1 n X.env (eval e1 X.env) = eval e1 X.env := by rfl) : ME (X.suite a ((a, oe) :: pn)) (g.held a c d) W (.Attribute e1 n pos) (eFld n f) := by
  refine PE.of (pe_xf T hno hz hf he hb) fun s H Q h => ?_
  obtain ⟨ph, r, S, e, so, ev, h⟩ := h
  unfold tXf
  refine tG.bind so ev h fun m v S1 r1 H1 x1 so1 ev1 m1 h1 => ?_
  cases m with
  | exn c2 x =>
    cases x with
    | none => exact h1.elim
    | some p =>
      obtain ⟨fl, x⟩ := p
      obtain ⟨a2, d2, e2, rfl, xv⟩ := m1
      cases e2
      obtain ⟨dd, w, hd, hH, _, hx⟩ := xv
      by_cases q : fl = n
      · subst q
        replace h1 : Post PV X.K (g.held a c d) (fun c d H' => W c d s H') ph r1 H1 (if fl = fl then R.ok (.d x) S1 else .bad) Q := h1
        rw [if_pos rfl] at h1
        exact ⟨rfl, rfl, dd, _, w, hd, hH, by simp [List.lookup], h1 r1 H1 w (.refl _ _) so1 hx⟩
      · have h1 : Post PV X.K (g.held a c d) (fun c d H' => W c d s H') ph r1 H1 (if fl = n then R.ok (.d x) S1 else .bad) Q := h1
        rw [if_neg q] at h1
        exact h1.elim
  | _ => exact h1.elim
/-- isinstance(e, c), e the error that the suite holds, d its dict -/
def rIsX (K : PySem.W.Frag) (C a : Addr) (d : Option Addr) : List V → Hp → VK → Prop := fun xs H Q => (∀ dd, d = some dd → ∃ fs, H dd = some (.xd fs)) ∧ rIsE K C a xs H Q
theorem call_isX (T : ExcC X.K C) (hz : Zc (.ref C) d oe) (hf : ∃ vs, oe.data = .fields vs) : CallR (X.suite a ((a, oe) :: pn)) (.builtin "isinstance") (rIsX X.K C a d) := by
  intro pins s st H xs us Q I r h
  obtain ⟨hd, c, cv, b, rfl, hcv, e, q⟩ := h
  cases r with
  | cons rx rr =>
    cases rr with
    | cons rt rr =>
      cases rr
      cases rx
      have ec := hcv _ rt
      subst ec
      obtain ⟨hget, _⟩ := I.pin (a, oe) (List.mem_append.mpr (.inl List.mem_cons_self))
      obtain ⟨vs, hv⟩ := hf
      have J : ∃ od, PySem.W.InstAt s.heap a oe C od := by
        obtain ⟨oc, od, oda, osl⟩ := oe
        obtain ⟨h1, h2⟩ := hz
        dsimp only at h1 h2 hv
        subst h1 h2 hv
        cases od with
        | none => exact ⟨none, hget, rfl, rfl, trivial⟩
        | some dd =>
          obtain ⟨fs, hfs⟩ := hd dd rfl
          obtain ⟨mA, hns, _⟩ := (show ObjOk X.prog X.w H s.heap dd (.xd fs) from I.hok dd _ hfs)
          obtain ⟨o2, ho, _⟩ := lookIn_ns hns
          exact ⟨some o2, hget, rfl, rfl, ho⟩
      obtain ⟨od, J⟩ := J
      exact PySem.W.kia_one (MrE.kit_err T) I.kIn J e (fun z => nomatch z) fun tk => ⟨.bl b, H, I.kept (t' := tk) fun _ _ z => z, rfl, q⟩
/-- kt: of which classes an error of a number is one -/
def pIsX (kt : Nat → Addr → Option Bool) : List M → Sto → Option M
  | [.exn c (some _), .fn C], _ => (kt c C).map fun b => .d (.bool b)
  | _, _ => none
theorem s_isX {kt : Nat → Addr → Option Bool} (hk : ∀ C b, kt c C = some b → PySem.W.kitOne X.K (.ref (g.cl c)) (.ref C) = some b) : SndN X.K (g.held a c d) (rIsX X.K (g.cl c) a d) (pIsX kt) := by
  intro ph r S H ms m vs Q so a1 h k
  unfold pIsX at h
  split at h
  · rename_i c2 p C
    cases a1 with
    | cons b t =>
      cases t with
      | cons b2 t =>
        cases t
        obtain ⟨a2, d2, e2, rfl, xv⟩ := b
        cases e2
        obtain rfl := b2
        cases q : kt c C with
        | none => rw [q] at h; cases h
        | some b =>
          rw [q] at h
          cases h
          obtain ⟨f, x⟩ := p
          obtain ⟨dd, w, hd, hH, _⟩ := xv
          exact ⟨fun dd2 e => ⟨_, by rw [hd] at e; cases e; exact hH⟩, .ref C, .ref C, b, rfl, fun u r => r, hk C b q, k r H _ (.refl _ _) so (.bl b)⟩
  · cases h
end
end Mr

end
section
set_option maxRecDepth 100000
set_option autoImplicit false
namespace Mr
open PySem PySem.Spec L2
open PyProof.Rows hiding St

/-! ### x(lambda: body), x a def that calls it -/
abbrev Cfg.with_ (g : Cfg) (c : Addr) (q : Str) (e : Env1) (s : L2.St) : Cfg := { g with C := (c, q) :: g.C, kp := (e, s) :: g.kp }
section
variable {K : PySem.W.Frag} {g : Cfg} {ph r r' : List Addr} {H H' : Hp} {c : Addr} {q : Str} {e0 : Env1} {s0 : L2.St}
theorem Mv.with_ {m : M} {v : V} (h : Mv K g ph r H m v) : Mv K (g.with_ c q e0 s0) ph r H m v := by
  cases m <;> exact h
theorem Mv.bare {m : M} {v : V} (h : Mv K (g.with_ c q e0 s0) ph r H m v) : Mv K g ph r H m v := by
  cases m <;> exact h
theorem Ev.with_ {e : Env1} {s : L2.St} (h : Ev K g ph r H e s) : Ev K (g.with_ c q e0 s0) ph r H e s := Paired.mapP h fun m v z => by
  cases m with
  | none => trivial
  | some m =>
    cases v with
    | none => exact z
    | some v => exact Mv.with_ (g := g) z
theorem Ev.bare {e : Env1} {s : L2.St} (h : Ev K (g.with_ c q e0 s0) ph r H e s) : Ev K g ph r H e s := Paired.mapP h fun m v z => by
  cases m with
  | none => trivial
  | some m =>
    cases v with
    | none => exact z
    | some v => exact Mv.bare (g := g) z
theorem Ov.with_ {o : O} {u : HO} (h : Ov K g ph r H o u) : Ov K (g.with_ c q e0 s0) ph r H o u := by
  cases o with
  | lst xs =>
    cases u with
    | lst vs => exact Paired.mapP h fun _ _ => Mv.with_ (g := g)
    | _ => exact h
  | dct kvs =>
    cases u with
    | dK ws => exact Paired.mapP h fun _ _ z => ⟨z.1, Mv.with_ (g := g) z.2⟩
    | _ => exact h
theorem Ov.bare {o : O} {u : HO} (h : Ov K (g.with_ c q e0 s0) ph r H o u) : Ov K g ph r H o u := by
  cases o with
  | lst xs =>
    cases u with
    | lst vs => exact Paired.mapP h fun _ _ => Mv.bare (g := g)
    | _ => exact h
  | dct kvs =>
    cases u with
    | dK ws => exact Paired.mapP h fun _ _ z => ⟨z.1, Mv.bare (g := g) z.2⟩
    | _ => exact h
theorem So.with_ {S : Sto} (s : So K g ph r S H) (hc : H c = some (LamX.CodeO c q)) (ev : Ev K g ph r H e0 s0) : So K (g.with_ c q e0 s0) ph r S H :=
  ⟨s.len, s.nd, s.dis, s.there, fun n o e => by
    obtain ⟨a, u, e1, e2, ov⟩ := s.at_ n o e
    exact ⟨a, u, e1, e2, ov.with_⟩, ⟨s.tabs.1, fun p hp => by
      rcases List.mem_cons.mp hp with z | z
      · rw [z]; exact hc
      · exact s.tabs.2 p z⟩, fun p hp => by
      rcases List.mem_cons.mp hp with z | z
      · rw [z]; exact ev.with_
      · exact (s.kp p z).with_⟩
theorem So.bare {S : Sto} (s : So K (g.with_ c q e0 s0) ph r S H) : So K g ph r S H ∧ H c = some (LamX.CodeO c q) ∧ Ev K g ph r H e0 s0 :=
  ⟨⟨s.len, s.nd, s.dis, s.there, fun n o e => by
    obtain ⟨a, u, e1, e2, ov⟩ := s.at_ n o e
    exact ⟨a, u, e1, e2, ov.bare⟩, ⟨s.tabs.1, fun p hp => s.tabs.2 p (List.mem_cons_of_mem _ hp)⟩, fun p hp => (s.kp p (List.mem_cons_of_mem _ hp)).bare⟩, s.tabs.2 _ List.mem_cons_self, (s.kp _ List.mem_cons_self).bare⟩
theorem So.code_out {S : Sto} (s : So K g ph r S H) (hc : H c = some (LamX.CodeO c q)) : c ∉ r := fun hm => by
  obtain ⟨u, e, o, ov⟩ := s.own_mem hm
  rw [hc] at e
  cases e
  cases o <;> exact ov.elim
theorem Post.bare {E : XK} {S : Sto} {o : R M} {Q : VK} (s : So K g ph r S H) (hc : H c = some (LamX.CodeO c q)) (ev : Ev K g ph r H e0 s0) (h : Post PV K (g.with_ c q e0 s0) E ph r H o Q) : Post PV K g E ph r H o Q := by
  have k : ∀ {r' : List Addr} {H' : Hp} {S' : Sto}, Ext r H r' H' → So K g ph r' S' H' → So K (g.with_ c q e0 s0) ph r' S' H' := fun x so => so.with_ (x.keep c _ hc (s.code_out hc) LamX.codeO_ne) (ev.mono x)
  cases o with
  | ok m S' => exact fun r' H' v x so mv => h r' H' v x (k x so) mv.with_
  | rz c x S' => exact fun r' H' d x so xv => h r' H' d x (k x so) xv
  | bad => exact h
theorem Post.with_ {E : XK} {o : R M} {Q : VK} (h : Post PV K g E ph r H o Q) : Post PV K (g.with_ c q e0 s0) E ph r H o Q := by
  cases o with
  | ok m S' => exact fun r' H' v x so mv => h r' H' v x so.bare.1 mv.bare
  | rz c x S' => exact fun r' H' d x so xv => h r' H' d x so.bare.1 xv
  | bad => exact h
/-- all but the tables stays: what is told stays -/
theorem Ext.ofN (r : List Addr) (x : LamX.ExtN H H') : Ext r H r H' := ⟨fun a o e _ t => x a o e t, fun a o e t => ⟨o, x a o e t, t⟩, [], by simp, by simp⟩
theorem So.ofN {S : Sto} (s : So K g ph r S H) (x : LamX.ExtN H H') (t : LamX.Tabs g.T H') : So K g ph r S H' := by
  have y : Ext r H r H' := .ofN r x
  refine ⟨s.len, s.nd, s.dis, fun a ha => ?_, fun n o e => ?_, ⟨t, fun p hp => x _ _ (s.tabs.2 p hp) LamX.codeO_ne⟩, fun p hp => (s.kp p hp).mono y⟩
  · obtain ⟨o, e, n⟩ := s.there a ha
    exact ⟨o, x a o e n, n⟩
  · obtain ⟨a, u, e1, e2, ov⟩ := s.at_ n o e
    refine ⟨a, u, e1, x a u e2 fun ps z => ?_, ov.mono y⟩
    subst z
    cases o <;> exact ov.elim
end
/-- the lambda is called, its maker's names as they were -/
def fAct (f : Addr) (call : Sto → R M) : Env1 → Sto → R M := fun e S => match (e[0]? : Option (Option M)) with
  | some (some (M.fn a)) => if a = f then call S else .bad
  | _ => .bad
section
variable {X : Cx} {pins : List (Addr × Obj)} {st : L2.St} {H : Hp} {s : Shared} {cg : Cfg}
abbrev lamZ (X : Cx) (Ng : List Str) (x : Str) (sg : Scope) (g : Addr) (cdg : Value) (s : Shared) (H : Hp) (E : XK) : Cx := cxOf (L2.CX X.prog X.w) X.prog X.w X.K X.mg X.base Ng x sg g cdg X.A X.stack s H E
theorem me_act {Eg : XK} {Ng : List Str} {x : Str} {sg : Scope} {g f c' : Addr} {cdg pm ctv : Value} {params : Arguments} {body : Expr} {scope : Scope} {k : Nat} {a : Str} {pn : List (Addr × Obj)} {xe : Value → Shared → Prop} {W : WX} {fb : Env1 → Sto → R M} {e0 : Env1} {p1 p2 : Pos}
    (I : Inv X pins st H s) (L : LamX.LamS X.env.scope scope) (hf : s.heap.get? f = some (PySem.W.kla_obj "<lambda>" (X.env.qual ++ "<lambda>") params body scope (cloFrom X.env.cells scope.names []) pm c' ctv)) (hfn : H f = none) (hfr : f ∉ frs X.stack)
    (hbind : bindArgs (PySem.W.kla_fn "<lambda>" (X.env.qual ++ "<lambda>") params body scope (cloFrom X.env.cells scope.names []) pm (.ref c') ctv) ⟨[], []⟩ = pure [])
    (tk : Takes ((lamZ X Ng x sg g cdg s H Eg).tr pn xe) W) (hr : Room (k + 1) (X.A.deeper (envOfC x sg s.heap.objs.size g cdg)))
    (hbody : ∀ (A : Around) (outer : List Env) (s : Shared) (H : Hp) (E : XK), Room k (A.deeper (LamX.lamEnv X scope s.heap.objs.size f c')) → ME (LamX.lamCx X A outer s H E scope f c') cg (fun c d _ H' => E c d H') body fb)
    (hN : Ng[0]? = some a) (hv : Vis sg a) (hd : (a == ("__debug__" : Str)) = false) (hcd : (a == ("__classdict__" : Str)) = false) :
    ME ((lamZ X Ng x sg g cdg s H Eg).tr pn xe) (cg.with_ c' (X.env.qual ++ "<lambda>") e0 st) W (.Call (.Name a p1) [] [] p2) (fAct f fun S => fb e0 S) := by
  refine ⟨fun pinsZ sZ stZ HZ Q IZ h => ?_⟩
  obtain ⟨ph, r, S, eZ, so, ev, h⟩ := h
  unfold fAct at h
  split at h
  rotate_left
  · exact h.elim
  rename_i a0 q0
  split at h
  rotate_left
  · exact h.elim
  rename_i ea
  subst ea
  obtain ⟨v0, hs, mv0⟩ := ev.get q0
  obtain rfl : v0 = .ref a0 := mv0
  obtain ⟨so1, hc, ev0⟩ := so.bare
  refine wpAny_Call_Name_kw (thn ((pe_var (pos := p1) (i := 0) hN hv hd hcd).run pinsZ sZ stZ HZ (fun v H1 => v = .ref a0 ∧ H1 = HZ) IZ ⟨.ref a0, hs, rfl, rfl⟩) fun u s1 ⟨v, H1, I1, r1, q1⟩ => ?_)
  obtain ⟨rfl, rfl⟩ := q1
  obtain rfl : u = Value.ref a0 := r1
  have of1 := I1.base.keep a0 _ hf hfn hfr (fun z => nomatch (show a0 ∈ ([] : List Addr) from z))
  refine PySem.W.callWith_F0 ⟨_, _, _, _, of1⟩ ?_
  have un : Un (frs X.stack) [] H H1 s.heap s1.heap := I1.base
  obtain ⟨⟨oc, vs, t, hoc, hdc, hvc⟩, _, _⟩ := I1.hok c' _ hc
  have rc : codeAny (model X.prog X.w) (X.A.deeper (envOfC x sg s.heap.objs.size g cdg)) (.call (.ref a0) ⟨[], []⟩) (CR (L2.CX X.prog X.w) (envOfC x sg s.heap.objs.size g cdg :: X.stack) X.prog X.w H1 s1 Q (fun c d H' => W c d stZ H')) s1 := by
    refine PySem.W.kla_callFunE hr.depth of1 rfl L.co L.gen rfl ⟨c', oc, vs, t, rfl, hoc, hdc, hvc⟩ ?_
    rw [hbind]
    refine wpAny_pure (wpAny_newFunctionEnv (fun y hy => (L.own y hy).2) (fun y hy => absurd hy (by simp)) (fun h₁ hns hsb => ⟨I1.nolimit.fresh _ hsb, ?_⟩) L.kind)
    show codeAny _ _ (.expr body (LamX.lamEnv X scope s1.heap.objs.size a0 c')) _ _
    have kp : ∀ b o, s1.heap.get? b = some o → h₁.get? b = some o := fun b o e => hsb.extBut b o (Nat.ne_of_lt (Heap.lt_size e)) (Heap.get?_push_of_some _ e)
    have J := LamX.lam_start2 (E := fun c d H' => W c d stZ H') (f := a0) (c' := c') (tk := s1.toks + ([] : List (Str × Value)).length) I L I1.env0 hr.hd un hns kp
    refine PySem.W.kla_codeExpr (wpAny_mono ((hbody _ _ s1 H1 _ (hr.deeper _)).run [] _ _ H1 Q J ⟨ph, r, S, e0, so1, ev0, h.bare so1 hc ev0⟩) (fun v s' hq => ?_) fun e s' hq => hq)
    obtain ⟨w', H', J', rv, q⟩ := hq
    exact ⟨w', H', J'.os, J'.bare, J'.base, J'.hok, rv, q⟩
  refine wpAny_call (codeAny_mono rc fun res s' hq => ?_)
  match res, hq with
  | .error e, hq => exact tk e s' (XE.of_call I1 (fun _ _ _ z => z) hq)
  | .ok (.ret u), hq => exact I1.after hq
  | .ok .next, hq => exact hq.elim
  | .ok .brk, hq => exact hq.elim
  | .ok .cont, hq => exact hq.elim
/-- x(lambda: body) -/
def eLam (tr : (Sto → R M) → Sto → R M) (fb : Env1 → Sto → R M) : Env1 → Sto → R M := fun e S => tr (fun S' => fb e S') S
theorem me_lam {W : WX} {x a : Str} {g c P : Addr} {k : Nat} {pg : Arguments} {bg : List Stmt} {sg : Scope} {dV kV doc pm cdv ct oc : Value} {an od : Option Addr} {osl : Array (Option Value)} {Ng : List Str} {params : Arguments} {body : Expr} {scope : Scope} {p lpos pos : Pos}
    {fb : Env1 → Sto → R M} {tr : (Sto → R M) → Sto → R M} {bT : Addr → (Sto → R M) → Env1 → Sto → Out}
    (hg : Gl X x) (hm : X.mg x = some (.ref g)) (hk : PySem.W.keepIn X.K (.ref g) = true) (tk : Takes X W)
    (lk : X.K.lookup g = some ⟨oc, od, .func (PySem.W.fnOf x x pg bg sg dV kV doc pm an cdv ct), osl⟩) (hcg : PySem.W.codeIn X.K cdv x = true) (hb : L2.Binds X.K (PySem.W.fnOf x x pg bg sg dV kV doc pm an cdv ct) [a] []) (Sg : FnScope Ng [a] sg) (hNg : Ng[0]? = some a) (hva : Vis sg a)
    (TB : LamX.TabB X.base X.mg c P) (hcode : X.env.code = .ref c) (hmT : (P, X.env.qual ++ "<lambda>") ∈ cg.T) (hu : ∀ p ∈ cg.T, p.1 = P → p.2 = X.env.qual ++ "<lambda>") (hr : Room (k + 2) X.A) (L : LamX.LamS X.env.scope scope) (hdef : defaultsOf params X.env = ([], []))
    (hbind : ∀ (q : Str) (cl : List (Str × Addr)) (pm cv ctv : Value), bindArgs (PySem.W.kla_fn "<lambda>" q params body scope cl pm cv ctv) ⟨[], []⟩ = pure [])
    (hbody : ∀ (A : Around) (outer : List Env) (s : Shared) (H : Hp) (E : XK) (f c' : Addr), Room k (A.deeper (LamX.lamEnv X scope s.heap.objs.size f c')) → ME (LamX.lamCx X A outer s H E scope f c') cg (fun c d _ H' => E c d H') body fb)
    (htry : ∀ (cg2 : Cfg) (f : Addr) (s : Shared) (H : Hp) (E : XK) (call : Sto → R M), cg2.ex = cg.ex → cg2.cl = cg.cl → Room (k + 1) (X.A.deeper (envOfC x sg s.heap.objs.size g cdv)) →
      (∀ (W : WX) (pn : List (Addr × Obj)) (xe : Value → Shared → Prop) (p1 p2 : Pos), Takes ((lamZ X Ng x sg g cdv s H E).tr pn xe) W → ME ((lamZ X Ng x sg g cdv s H E).tr pn xe) cg2 W (.Call (.Name a p1) [] [] p2) (fAct f call)) →
      MSs (lamZ X Ng x sg g cdv s H E) cg2 (fun c d _ H' => E c d H') bg (bT f call))
    (hT : ∀ f call S, fnM Ng.length (bT f call) [.fn f] S = tr call S)
    (hdb : (x == ("__debug__" : Str)) = false := by decide) (hd : (a == ("__debug__" : Str)) = false := by decide) (hcd : (a == ("__classdict__" : Str)) = false := by decide) :
    ME X cg W (.Call (.Name x p) [.Lambda params body scope lpos] [] pos) (eLam tr fb) := by
  refine ⟨fun pins s st H Q I h => ?_⟩
  obtain ⟨ph, r, S, e0, so, ev, h⟩ := h
  refine wpAny_Call_Name_kw (ld_glob I hg hm ?_ hdb)
  refine PySem.W.callWith_K (h₀ := X.base) I.ok.mod.kin hk ?_ (by rfl) (by rfl)
  show wpAny _ _ (spliced ((false, eval (.Lambda params body scope lpos) X.env) :: backTo pos (starEach [] X.env))) _ _ s
  refine Calls.spliced_cons (LamX.lam_make2 I TB hcode hmT hu so.tabs.1 hdef (L.has I.ok) fun f c' pm' ctv H1 s' I1 eN T1 hf hfn hfr hco => ?_)
  refine Calls.spliced_nil ⟨I1.kIn, ?_⟩
  have so1 := so.ofN eN T1
  have ev1 := ev.mono (Ext.ofN r eN)
  have h1 := Post.mono (Ext.ofN r eN) h
  have rc : codeAny (model X.prog X.w) X.A (.call (.ref g) ⟨[.ref f], []⟩) (CR (L2.CX X.prog X.w) X.stack X.prog X.w H1 s' Q (fun c d H' => W c d st H')) s' := by
    refine LamX.run_ofS (N := Ng) (ps := [a]) (us := [.ref f]) (vs := [.ref f]) lk hcg Sg hr I1.env0 (hb s' [.ref f] I1.kIn rfl) (.cons rfl .nil) rfl fun hr' => ?_
    refine ⟨_, htry (cg.with_ c' (X.env.qual ++ "<lambda>") e0 st) f s' H1 _ (fun S => fb e0 S) rfl rfl hr' fun W pn xe p1 p2 tk2 => me_act I1 L hf hfn hfr (hbind _ _ _ _ _) tk2 hr' (fun A outer s H E hr2 => hbody A outer s H E f c' hr2) hNg hva hd hcd, ?_⟩
    refine body_of (n := 1) ⟨ph, r, S, [.fn f], rfl, so1.with_ hco ev1, .cons rfl .nil, ?_⟩
    rw [hT]
    exact Post.with_ h1
  refine wpAny_call (codeAny_mono rc fun res s2 hq => ?_)
  match res, hq with
  | .error e, hq => exact tk e s2 (XE.of_call I1 (fun _ _ _ z => z) hq)
  | .ok (.ret u), hq => exact I1.after hq
  | .ok .next, hq => exact hq.elim
  | .ok .brk, hq => exact hq.elim
  | .ok .cont, hq => exact hq.elim
end
end Mr

end
section
set_option maxRecDepth 100000
set_option autoImplicit false
namespace Mr
open PySem PySem.Spec L2
open PyProof.Rows hiding St
section
variable {X : Cx} {g : Cfg} {W : WX} {a b c : Expr} {fa fb fc : Env1 → Sto → R M} {pos : Pos}
/-! ### a < b < c -/
def eChain (o1 o2 : M → M → Sto → Option M) (fa fb fc : Env1 → Sto → R M) : Env1 → Sto → R M := fun e S => (fa e S).bind fun x S1 => (fb e S1).bind fun y S2 => (lift ((o1 x y S2).bind asB) S2).bind fun k S3 =>
  if k then (fc e S3).bind fun z S4 => lift (o2 y z S4) S4 else .ok (.d (.bool false)) S3
theorem tM_chain {ra rb : R2} {o1 o2 : M → M → Sto → Option M} (q1 : Snd2 X.K g ra o1) (q2 : Snd2 X.K g rb o2) (s : L2.St) (H : Hp) (Q : VK) (h : tM X.K g W (eChain o1 o2 fa fb fc) s H Q) : tChain ra rb (tM X.K g W fa) (tM X.K g W fb) (tM X.K g W fc) s H Q := by
  obtain ⟨ph, r, S, e, so, ev, h⟩ := h
  unfold tChain
  refine tG.bind so ev h fun m v S1 r1 H1 x1 so1 ev1 m1 h1 => ?_
  refine tG.bind so1 ev1 h1 fun m' v' S2 r2 H2 x2 so2 ev2 m2 h2' => ?_
  cases q : o1 m m' S2 with
  | none => rw [q] at h2'; exact h2'.elim
  | some z =>
    rw [q] at h2'
    refine q1 ph r2 S2 H2 m m' z v v' _ so2 (Mv.mono x2 m1) m2 q fun r3 H3 w x3 so3 m3 => ?_
    cases z with
    | d z =>
      cases z with
      | bool k =>
        cases m3
        refine ⟨k, rfl, ?_⟩
        have h3 := Post.mono x3 h2'
        cases k with
        | false => exact h3 r3 H3 _ (.refl _ _) so3 (.bl _)
        | true =>
          rw [if_pos rfl]
          refine tG.bind so3 (ev2.mono x3) h3 fun m4 v4 S4 r4 H4 x4 so4 ev4 m4' h4 => ?_
          cases q3 : o2 m' m4 S4 with
          | none => rw [q3] at h4; exact h4.elim
          | some z2 =>
            rw [q3] at h4
            exact q2 ph r4 S4 H4 m' m4 z2 v' v4 Q so4 (Mv.mono (x3.trans x4) m2) m4' q3 h4
      | _ => exact h2'.elim
    | _ => exact h2'.elim
theorem me_chain {op op' : CmpOp} {r1 r2 : R2} {o1 o2 : M → M → Sto → Option M} (ho : OpR X (compareOp op) r1) (ho' : OpR X (compareOp op') r2) (h1 : Snd2 X.K g r1 o1) (h2 : Snd2 X.K g r2 o2) (ha : ME X g W a fa) (hb : ME X g W b fb) (hc : ME X g W c fc)
    (hm : lastMarks [op, op'] [b, c] = false := by with_unfolding_all rfl) : ME X g W (.Compare a [op, op'] [b, c] pos) (eChain o1 o2 fa fb fc) := PE.of (pe_chain ho ho' ha hb hc hm) (tM_chain h1 h2)
/-- a test of a value that is True or False -/
theorem tB_test (s : L2.St) (H : Hp) (Q : Bool → Hp → Prop) (h : tMT X.K g W (tB fa) s H Q) : tTest (tM X.K g W fa) s H Q := by
  obtain ⟨ph, r, S, e, so, ev, h⟩ := h
  unfold tTest
  refine tG.bind so ev h fun m v S1 r1 H1 x1 so1 ev1 m1 h1 => ?_
  cases m with
  | d x =>
    cases x with
    | bool k =>
      cases m1
      exact ⟨k, rfl, h1 r1 H1 k (.refl _ _) so1 rfl⟩
    | _ => exact h1.elim
  | _ => exact h1.elim
theorem mt_chain {op op' : CmpOp} {r1 r2 : R2} {o1 o2 : M → M → Sto → Option M} (ho : OpR X (compareOp op) r1) (ho' : OpR X (compareOp op') r2) (h1 : Snd2 X.K g r1 o1) (h2 : Snd2 X.K g r2 o2) (ha : ME X g W a fa) (hb : ME X g W b fb) (hc : ME X g W c fc)
    (hm : lastMarks [op, op'] [b, c] = false := by with_unfolding_all rfl) : MT X g W (.Compare a [op, op'] [b, c] pos) (tB (eChain o1 o2 fa fb fc)) := by
  refine PT.of (pt_chain ho ho' ha hb hc hm) fun s H Q h => ?_
  obtain ⟨ph, r, S, e, so, ev, h⟩ := tB_test s H Q h
  exact tM_chain h1 h2 s H _ ⟨ph, r, S, e, so, ev, h⟩

/-! ### several and, or -/
theorem me_one {op : _} (ha : ME X g W a fa) : ME X g W (.BoolOp op [a] pos) fa := pe_one ha
theorem me_andc {rest : List Expr} (ha : ME X g W a fa) (hb : ME X g W (.BoolOp .And (b :: rest) pos) fb) : ME X g W (.BoolOp .And (a :: b :: rest) pos) (eAndM fa fb) := by
  refine PE.of (pe_and ha hb) fun s H Q h => ?_
  obtain ⟨ph, r, S, e, so, ev, h⟩ := h
  refine tB_ev so ev h fun k S1 r1 H1 x1 so1 ev1 h1 => ⟨k, rfl, ?_⟩
  cases k with
  | true => exact ⟨ph, r1, S1, e, so1, ev1, h1⟩
  | false => exact h1 r1 H1 _ (.refl _ _) so1 (.bl _)
theorem me_orc {rest : List Expr} (ha : ME X g W a fa) (hb : ME X g W (.BoolOp .Or (b :: rest) pos) fb) : ME X g W (.BoolOp .Or (a :: b :: rest) pos) (eOrM fa fb) := by
  refine PE.of (pe_or ha hb) fun s H Q h => ?_
  obtain ⟨ph, r, S, e, so, ev, h⟩ := h
  refine tB_ev so ev h fun k S1 r1 H1 x1 so1 ev1 h1 => ⟨k, rfl, ?_⟩
  cases k with
  | true => exact h1 r1 H1 _ (.refl _ _) so1 (.bl _)
  | false => exact ⟨ph, r1, S1, e, so1, ev1, h1⟩

/-! ### a, b = x, y -/
def sPar (i j : Nat) (fs : Env1 → Sto → R (List M)) : Env1 → Sto → Out := fun e S => (fs e S).toS e fun ms S1 => match ms with
  | [m1, m2] => .nx ((e.set i (some m1)).set j (some m2)) S1
  | _ => .bad
theorem ms_par (i j : Nat) {x y : Str} {fs : Env1 → Sto → R (List M)} {px py pt : Pos} {kt k2 : Nat} {pt2 : Pos} (hc : X.calm = true) (hN : X.N.Nodup) (ha : MA X g W [a, b] fs) (hi : X.N[i]? = some x := by rfl) (hj : X.N[j]? = some y := by rfl) (hij : i ≠ j := by decide)
    (hx : X.env.scope.names.lookup x = some .local := by rfl) (hy : X.env.scope.names.lookup y = some .local := by rfl)
    (hw : swappedStores [.Tuple [.Name x px, .Name y py] kt pt] (.Tuple [a, b] k2 pt2) X.env = pure (some [x, y]) := by rfl)
    (hs : swapsWithSole [.Tuple [.Name x px, .Name y py] kt pt] (.Tuple [a, b] k2 pt2) pos.line X.env = pure false := by rfl) :
    MS X g W (.Assign [.Tuple [.Name x px, .Name y py] kt pt] (.Tuple [a, b] k2 pt2) pos) (sPar i j fs) := by
  refine PS.of (ps_par hc hN hi hj hij hx hy ha hw hs) fun D s H h => ?_
  obtain ⟨ph, r, S, e, so, ev, h⟩ := h
  refine tG.bindS so ev h fun ms vs S1 r1 H1 x1 so1 ev1 m1 h1 => ?_
  cases m1 with
  | nil => exact h1.elim
  | cons p1 t =>
    cases t with
    | nil => exact h1.elim
    | cons p2 t =>
      cases t with
      | nil => exact ⟨_, _, rfl, h1 r1 H1 _ (.refl _ _) so1 ((ev1.set i p1).set j p2)⟩
      | cons => exact h1.elim

/-! ### == and != of texts, too -/
def opEqU (x y : M) (S : Sto) : Option M := match x, y with
  | .d (.str a), .d (.str b) => some (.d (.bool (decide (a = b))))
  | _, _ => opEq x y S
def opNeU (x y : M) (S : Sto) : Option M := match x, y with
  | .d (.str a), .d (.str b) => some (.d (.bool (!decide (a = b))))
  | _, _ => opNe x y S
abbrev rrEq (K : PySem.W.Frag) : R2 := fun x y H Q => rEq x y H Q ∨ rEqD K x y H Q
abbrev rrNe (K : PySem.W.Frag) : R2 := fun x y H Q => rNe x y H Q ∨ rNeD K x y H Q
theorem o_eq (hu : X.A.units + 64 < cLine) : OpR X (compareOp .Eq) (rrEq X.K) := op_eq.or (op_eqD hu)
theorem o_ne (hu : X.A.units + 64 < cLine) : OpR X (compareOp .NotEq) (rrNe X.K) := op_ne.or (op_neD hu)
theorem dec_strV {i j : Str} : decide (V.str i = V.str j) = decide (i = j) := by
  by_cases h : i = j
  · subst h; simp
  · rw [decide_eq_false h, decide_eq_false (fun z => h (V.str.inj z))]
theorem s_eqU {K : PySem.W.Frag} : Snd2 K g (rrEq K) opEqU := by
  intro ph r S H m1 m2 m v1 v2 Q so a1 a2 h k
  unfold opEqU at h
  split at h
  · cases h; cases a1; cases a2
    refine .inl ⟨rfl, ?_⟩
    rw [dec_strV]
    exact k r H _ (.refl _ _) so (.bl _)
  · exact .inr (s_eq ph r S H _ _ m v1 v2 Q so a1 a2 h k)
theorem s_neU {K : PySem.W.Frag} : Snd2 K g (rrNe K) opNeU := by
  intro ph r S H m1 m2 m v1 v2 Q so a1 a2 h k
  unfold opNeU at h
  split at h
  · cases h; cases a1; cases a2
    refine .inl ⟨rfl, ?_⟩
    rw [dec_strV]
    exact k r H _ (.refl _ _) so (.bl _)
  · exact .inr (s_ne ph r S H _ _ m v1 v2 Q so a1 a2 h k)
end
end Mr

end
section
set_option maxRecDepth 100000
set_option maxHeartbeats 2000000
set_option autoImplicit false
namespace Mr
open PySem PySem.Spec L2
open PyProof.Rows hiding St
/-! ### the end: the law's def, called with the script -/
theorem ints_dr {K : PySem.W.Frag} {B : List Addr} {H : Hp} : ∀ ns : List Int, DrAll K B H (ns.map V.int) (ns.map PyData.int)
  | [] => .nil
  | n :: ns => .cons (.int n) (ints_dr ns)
/-- the mirror of the law's def tells True of the script ns -/
def LawTrue (fm : List M → Sto → R M) (ns : List Int) : Prop := ∃ S', fm [.ro (ns.map .int)] [] = .ok (.d (.bool true)) S'
theorem law_start {K : PySem.W.Frag} {g : Cfg} {H : Hp} {a : Addr} {ns : List Int} {fm : List M → Sto → R M} (h : LawTrue fm ns) (hC : g.C = []) (hk : g.kp = []) (hT : ∀ p ∈ g.T, H p.1 = some (.tbl #[])) (hS : (∃ o, H a = some (.frz o (.lst (ns.map V.int)))) ∨ KL K a (ns.map V.int)) :
    spM K g 1 fm [.ref a] H (fun v _ => v = .bl true) fun _ _ _ => False := by
  obtain ⟨S', e⟩ := h
  refine ⟨[], [], [], [.ro (ns.map .int)], rfl, ⟨rfl, List.nodup_nil, fun _ h => by simp at h, fun _ h => by simp at h, fun n o h => by simp at h, ⟨fun p hp => .nil (hT p hp), fun p hp => by rw [hC] at hp; simp at hp⟩, fun p hp => by rw [hk] at hp; simp at hp⟩, .cons ⟨a, _, rfl, hS.imp (fun ⟨o, h⟩ => ⟨o, h, by simp⟩) id, ints_dr ns⟩ .nil, ?_⟩
  rw [e]
  intro r' H' v x so mv
  cases mv
  rfl
theorem law_callG {P : Program} {w : World} {K : PySem.W.Frag} {mg mb : Str → Option Value} {g : Cfg} {k : Nat} {fa a : Addr} {cs : List (Addr × Addr)} {fd : FuncData} {x : Str} {fm : List M → Sto → R M} {s1 : Shared} {vs : List Value} {ns : List Int}
    (KX : K.In s1.heap) (hns : s1.heap.Ns mainGlobals mg) (hb : s1.heap.Ns builtinsNs mb) (hbb : ∀ x : Str, x ≠ "__name__" → mb x = bootBuiltins x) (hlim : s1.heap.NoLimit) (hg : s1.gens = #[])
    (hT : ∀ p ∈ cs, s1.heap.get? p.2 = some { cls := .none, data := .fields #[] }) (nT : ∀ p ∈ cs, K.lookup p.2 = none) (hC : ∀ p ∈ cs, PySem.W.CodeHd s1.heap p.1 p.2)
    (hbm : ∃ (bm : Addr) (ob : Obj), mg "__builtins__" = some (.ref bm) ∧ bm ≠ builtinsNs ∧ s1.heap.get? bm = some ob ∧ ob.cls = .type "module" ∧ ob.dict = some builtinsNs ∧ ob.data = .plain)
    (ha : s1.heap.get? a = some { cls := .type "list", data := .seq vs.toArray }) (hi : IntsAre vs ns) (hl : ns.length ≤ sizeLine) (hr : Room k callerA)
    (F : ∀ base : Heap, K.In base → base.Ns mainGlobals mg → (∃ o, base.get? sysModules = some o) → (∀ p ∈ cs, LamX.TabB base mg p.1 p.2) → FnG true P w K mg base k fa fd [x] (spM K g 1 fm)) (hsys : ∃ mm, s1.heap.Ns sysModules mm) (hbind : ∀ (s : Shared) (u : Value), BindsTo s fd ⟨[u], []⟩ [(x, u)])
    (gC : g.C = []) (gk : g.kp = []) (gT : ∀ p ∈ g.T, ∃ q ∈ cs, q.2 = p.1) (hL : LawTrue fm ns) :
    codeAny (model P w) callerA (.call (.ref fa) ⟨[.ref a], []⟩) (fun r s' => r = .ok (.ret (.bool true)) ∧ OldK s1.heap s'.heap ∧ s'.os = s1.os ∧ AllBare s'.gens) s1 := by
  have rv := vals_ints hi
  have lenV := hi.length
  have isT : ∀ b : Addr, b ∈ cs.map (·.2) → s1.heap.get? b = some { cls := .none, data := .fields #[] } := fun b hb => by
    obtain ⟨p, hp, e⟩ := List.mem_map.mp hb
    rw [← e]
    exact hT p hp
  have aT : a ∉ cs.map (·.2) := fun z => by
    have q := isT a z
    rw [ha] at q
    have z2 : Data.seq vs.toArray _ = Data.fields #[] := congrArg Obj.data (Option.some.inj q)
    cases z2
  have memT : ∀ p ∈ cs, p.2 ∈ cs.map (·.2) := fun p hp => List.mem_map.mpr ⟨p, hp, rfl⟩
  have core : ∀ H : Hp, (∀ p ∈ cs, H p.2 = some (.tbl #[])) → (∀ b, H b = none ∨ b ∈ cs.map (·.2) ∨ ∃ o xs, H b = some (.frz o (.lst xs))) → ((∃ o, H a = some (.frz o (.lst (ns.map V.int)))) ∨ KL K a (ns.map V.int)) → HOk P w H s1.heap → (∀ b, H b ≠ none → b = a ∨ b ∈ cs.map (·.2)) → (H a ≠ none → K.lookup a = none) →
      codeAny (model P w) callerA (.call (.ref fa) ⟨[.ref a], []⟩) (fun r s' => r = .ok (.ret (.bool true)) ∧ OldK s1.heap s'.heap ∧ s'.os = s1.os ∧ AllBare s'.gens) s1 := by
    intro H hH hO hS hok hA hK
    have based : ∀ {b : Addr} {o : Obj}, s1.heap.get? b = some o → H b = none → (hidT s1.heap H).get? b = some o := fun e n => hidT_get e n
    have noD : ∀ {b : Addr} {o : Obj}, s1.heap.get? b = some o → (∀ vs n, o.data ≠ .seq vs n) → o.data ≠ .fields #[] → H b = none := fun {b o} e h1 h2 => by
      cases q : H b with
      | none => rfl
      | some u =>
        rcases hA b (by rw [q]; simp) with z | z
        · rw [z, ha] at e
          cases e
          exact (h1 _ _ rfl).elim
        · rw [isT b z] at e
          cases e
          exact (h2 rfl).elim
    have noA : ∀ {b : Addr} {o : Obj} {es : Array DictEntry} {ep : Nat}, s1.heap.get? b = some o → o.data = .dict es ep → H b = none := fun {b o es ep} e d => noD e (fun vs n z => by rw [d] at z; cases z) fun z => by rw [d] at z; cases z
    have nsK : ∀ {b : Addr} {m : Str → Option Value}, s1.heap.Ns b m → (hidT s1.heap H).Ns b m := fun {b m} ⟨o, es, ep, e, d, r⟩ => ⟨o, es, ep, based e (noA e d), d, r⟩
    have hKn : ∀ b o, K.lookup b = some o → H b = none := fun b o e => by
      cases q : H b with
      | none => rfl
      | some u =>
        rcases hA b (by rw [q]; simp) with z | z
        · rw [z] at e q
          rw [hK (by rw [q]; simp)] at e
          cases e
        · obtain ⟨p, hp, ep⟩ := List.mem_map.mp z
          rw [← ep, nT p hp] at e
          cases e
    have hKb : K.In (hidT s1.heap H) := fun b o e => based (KX b o e) (hKn b o e)
    have hM : L2.Mod K mg (hidT s1.heap H) := ⟨hKb, nsK hns, ⟨mb, nsK hb, hbb⟩, let ⟨mc, h1, h2⟩ := hlim; ⟨mc, nsK h1, h2⟩⟩
    have tbB : ∀ p ∈ cs, LamX.TabB (hidT s1.heap H) mg p.1 p.2 := fun p hp => by
      have hTp := hT p hp
      refine ⟨?_, ?_, fun z => ?_⟩
      · obtain ⟨o, us, file, tf, flags, tg, inF, text, tt, c1, c2, c3, c4, c5, c6, c7, c8, c9, hne⟩ := hC p hp
        refine ⟨o, us, file, tf, flags, tg, inF, text, tt, based c1 (noD c1 (fun vs n z => by rw [c3] at z; cases z) fun z => ?_), c2, c3, c4, c5, c6, c7, c8, c9, hne⟩
        rw [c3] at z
        cases z
        simp at c4
      · obtain ⟨bm, ob, b1, b2, b3, b4, b5, b6⟩ := hbm
        have nG : bm ≠ mainGlobals := fun q => by
          obtain ⟨o, es, ep, e, hd, _⟩ := hns
          rw [q, e] at b3
          cases b3
          rw [hd] at b6
          cases b6
        have nP : bm ≠ p.2 := fun q => by
          rw [q, hTp] at b3
          cases b3
          cases b6
        exact ⟨bm, ob, b1, b2, nG, nP, based b3 (noD b3 (fun vs n z => by rw [b6] at z; cases z) fun z => by rw [b6] at z; cases z), b4, b5, b6⟩
      · obtain ⟨o, es, ep, e, hd, _⟩ := hns
        rw [z, hTp] at e
        cases e
        cases hd
    have e0 : Env0 P w K mg (hidT s1.heap H) callerA [] s1 H := ⟨rfl, hM, fun b o e => of_hidT e, Nat.le_of_eq (hidT_size _ _), trivial, fun b hb => absurd (show b ∈ ([] : List Addr) from hb) (by simp), hok, .of_eq hg⟩
    have sys : ∃ o, (hidT s1.heap H).get? sysModules = some o := by
      obtain ⟨mm, hm⟩ := hsys
      obtain ⟨o, es, ep, e, _⟩ := nsK hm
      exact ⟨o, e⟩
    have sp := law_start (K := K) (g := g) (H := H) (a := a) hL gC gk (fun p hp => by
      obtain ⟨q, hq, e⟩ := gT p hp
      rw [← e]
      exact hH q hq) hS
    refine codeAny_mono ((F _ hKb (nsK hns) sys tbB).run callerA [] s1 H ⟨[.ref a], []⟩ [.ref a] [.ref a] _ _ hr (fun _ => rfl) e0 (hbind s1 (.ref a)) (.cons rfl .nil) sp) fun r s' h => ?_
    cases r with
    | error e =>
      obtain ⟨_, _, _, _, _, _, _, _, _, _, _, _, z⟩ := h
      exact z.elim
    | ok fl =>
      cases fl with
      | next => exact False.elim h
      | brk => exact False.elim h
      | cont => exact False.elim h
      | ret u =>
        obtain ⟨v, H', os, bare, un, hok2, ru, q⟩ := h
        have q : v = .bl true := q
        subst q
        obtain rfl : u = Value.bool true := ru
        have same : ∀ b o, b ∉ cs.map (·.2) → s1.heap.get? b = some o → s'.heap.get? b = some o := fun b o nb e => by
          cases q : H b with
          | none => exact un.keep b o e q (by intro z; exact absurd (show b ∈ ([] : List Addr) from z) (by simp)) (by simp)
          | some u =>
            rcases hO b with z | z | ⟨ob, xs, z⟩
            · rw [q] at z
              cases z
            · exact absurd z nb
            · obtain ⟨e1, _⟩ := hok b _ z
              obtain ⟨e2, _⟩ := hok2 b _ (un.frzs b ob _ z)
              rw [e] at e1
              cases e1
              exact e2
        have grew : ∀ p ∈ cs, ∃ more : Array Value, s'.heap.get? p.2 = some { cls := .none, data := .fields more } := fun p hp => by
          obtain ⟨more, z⟩ := un.tbls p.2 #[] (hH p hp)
          exact ⟨_, hok2 p.2 _ z⟩
        refine ⟨rfl, ⟨fun b o e => ?_, fun b o e => ?_⟩, os, bare⟩
        · by_cases hb : b ∈ cs.map (·.2)
          · obtain ⟨p, hp, ep⟩ := List.mem_map.mp hb
            obtain ⟨more, hm⟩ := grew p hp
            rw [← ep] at e ⊢
            rw [hT p hp] at e
            cases e
            exact .inr (.inl ⟨((hC p hp).tab (hT p hp)).isCodeTable, rfl, #[], more, rfl, by rw [Array.empty_append]; exact hm⟩)
          · exact .inl (same b o hb e)
        · by_cases hb : b ∈ cs.map (·.2)
          · obtain ⟨p, hp, ep⟩ := List.mem_map.mp hb
            obtain ⟨more, hm⟩ := grew p hp
            rw [← ep]
            exact ⟨_, hm⟩
          · exact ⟨o, same b o hb e⟩
  cases hk : K.lookup a with
  | some o =>
    have e := KX a o hk
    rw [ha] at e
    cases e
    refine core (fun b => if b ∈ cs.map (·.2) then some (.tbl #[]) else none) (fun p hp => if_pos (memT p hp)) (fun b => ?_) (.inr ⟨_, vs.toArray, _, hk, rfl, rfl, rfl, by rw [List.size_toArray, lenV]; exact hl, by simpa using rv⟩) (fun b u z => ?_) (fun b z => ?_) fun z => absurd (show (if a ∈ cs.map (·.2) then some (HO.tbl #[]) else none) = none from if_neg aT) z
    · by_cases hb : b ∈ cs.map (·.2)
      · exact .inr (.inl hb)
      · exact .inl (if_neg hb)
    · by_cases hb : b ∈ cs.map (·.2)
      · have z2 := (if_pos hb).symm.trans z
        cases z2
        exact isT b hb
      · have z2 := (if_neg hb).symm.trans z
        cases z2
    · by_cases hb : b ∈ cs.map (·.2)
      · exact .inr hb
      · exact absurd (if_neg hb) z
  | none =>
    refine core (fun b => if b = a then some (.frz { cls := .type "list", data := .seq vs.toArray } (.lst (ns.map V.int))) else if b ∈ cs.map (·.2) then some (.tbl #[]) else none) (fun p hp => (if_neg (show ¬ p.2 = a from fun z => aT (by rw [← z]; exact memT p hp))).trans (if_pos (memT p hp))) (fun b => ?_)
      (.inl ⟨{ cls := .type "list", data := .seq vs.toArray }, if_pos rfl⟩) (fun b u z => ?_) (fun b z => ?_) fun _ => hk
    · by_cases hb : b = a
      · exact .inr (.inr ⟨_, _, if_pos hb⟩)
      · by_cases hb2 : b ∈ cs.map (·.2)
        · exact .inr (.inl hb2)
        · exact .inl ((if_neg hb).trans (if_neg hb2))
    · by_cases hb : b = a
      · have z2 := (if_pos hb).symm.trans z
        cases z2
        rw [hb]
        exact ⟨ha, by rw [List.length_map]; exact hl, vs, _, rv, ha⟩
      · have z1 := (if_neg hb).symm.trans z
        by_cases hb2 : b ∈ cs.map (·.2)
        · have z2 := (if_pos hb2).symm.trans z1
          cases z2
          exact isT b hb2
        · have z2 := (if_neg hb2).symm.trans z1
          cases z2
    · by_cases hb : b = a
      · exact .inl hb
      · by_cases hb2 : b ∈ cs.map (·.2)
        · exact .inr hb2
        · exact absurd ((if_neg hb).trans (if_neg hb2)) z
/-- what is known of the law's def at the head's heap h -/
def LawAtG (l : PySem.W.OpenLaw) (w : World) (K : PySem.W.Frag) (k n : Nat) (x : Str) (mg : Str → Option Value) (fa : Addr) (h : Heap) : Prop :=
  ∃ (fd : FuncData) (cs : List (Addr × Addr)) (g : Cfg) (fm : List M → Sto → R M), (∀ p ∈ cs, h.get? p.2 = some { cls := .none, data := .fields #[] }) ∧ (∀ p ∈ cs, K.lookup p.2 = none) ∧ (∀ p ∈ cs, PySem.W.CodeHd h p.1 p.2) ∧ (∀ (s : Shared) (u : Value), BindsTo s fd ⟨[u], []⟩ [(x, u)]) ∧
    g.C = [] ∧ g.kp = [] ∧ (∀ p ∈ g.T, ∃ q ∈ cs, q.2 = p.1) ∧ (∀ ns : List Int, ns.length ≤ n → (∀ z ∈ ns, Builtin.Int.intBits z ≤ 1048576) → LawTrue fm ns) ∧
    ∀ base : Heap, K.In base → base.Ns mainGlobals mg → (∃ o, base.get? sysModules = some o) → (∀ p ∈ cs, LamX.TabB base mg p.1 p.2) → FnG true l.prog w K mg base k fa fd [x] (spM K g 1 fm)
theorem walk_G {l : PySem.W.OpenLaw} {n k : Nat} {q : Program} {loose : List Str} {XP : (Str → Option Value) → Heap → Prop} {YP : World → Heap → Prop} {d : DefRec} {K : Params → PySem.W.Frag} {x : Str}
    (hn : l.most = some n) (hn2 : n ≤ sizeLine) (hdf : d.params.defaults = []) (hr : Room k callerA) (hY : ∀ (w : World) (h : Heap), YP w h → (K w.params).In h) (him : importsNone q = true)
    (F : ∀ (w : World) (mg : Str → Option Value) (fa : Addr) (h : Heap), YP w h → (K w.params).In h → h.Ns mainGlobals mg → mg d.name = some (.ref fa) → LawAtG l w (K w.params) k n x mg fa h) :
    PySem.W.WalkO q loose XP YP l.row.toRowW d [] (fun f vs => PySem.call f vs) := by
  refine Att.attach_callB hn hdf fun w s0 s1 mg mb fa o pm cd doc a vs ns G Y ho hd hcd hmg hobj hints hlen hbits hg => ?_
  have KX := hY w _ Y
  obtain ⟨fd, cs, g, fm, hT, nT, C, hb, gC, gk, gT, hsp, hF⟩ := F w mg fa _ Y KX G.T.g hmg
  exact law_callG KX G.T.g G.T.b G.T.builtins G.T.nolimit hg hT nT C G.T.bmain hobj hints (Nat.le_trans hlen hn2) hr hF (let ⟨mm, hm, _⟩ := (G.T.seer him).mods; ⟨mm, hm⟩) hb gC gk gT (hsp ns hlen hbits)
end Mr

end
section
set_option maxRecDepth 100000
set_option autoImplicit false
namespace Mr
open PySem PySem.Spec L2
open PyProof.Rows hiding St
/-! ### a module's defs, packed -/
/-- what the written part and the heap behind it give -/
structure Md (w : World) (K : PySem.W.Frag) (mg : Str → Option Value) (base : Heap) (g : Cfg) (cl : Nat → Addr) : Prop where
  kin : K.In base
  ns : base.Ns mainGlobals mg
  sys : ∃ o, base.get? sysModules = some o
  gw : w = g.w
  ex : g.ex = none
  cls : g.cl = cl
section
variable {gd : Bool} {P : Program} {w : World} {K : PySem.W.Frag} {mg : Str → Option Value} {base : Heap} {g : Cfg} {k : Nat} {cl : Nat → Addr}
theorem Md.at_ (m : Md w K mg base g cl) {x : Str} {v : Value} (e : PySem.W.nsIn K mainGlobals x = some (some v)) : mg x = some v := PySem.W.mg_of m.kin m.ns e
theorem Md.no (m : Md w K mg base g cl) {x : Str} (e : PySem.W.nsIn K mainGlobals x = some none) : mg x = none := PySem.W.mg_none_of m.kin m.ns e
/-- the def x, at f, keeps what the mirror fm of n values tells -/
structure Dn (gd : Bool) (P : Program) (w : World) (K : PySem.W.Frag) (mg : Str → Option Value) (base : Heap) (g : Cfg) (k : Nat) (x : Str) (st : Stmt) (ps : List Str) (fm : List M → Sto → R M) : Prop where
  ex : ∃ (f : Addr) (fd : FuncData), FnG gd P w K mg base k f fd ps (spM K g ps.length fm) ∧ mg x = some (.ref f) ∧ PySem.W.keepIn K (.ref f) = true ∧ L2.Binds K fd ps [] ∧
    ∃ (kV doc pm : Value) (an : Option Addr) (cdv ct : Value), fd = PySem.W.fnOf x x (defArgs st) (defBody st) (defScope st) .none kV doc pm an cdv ct
theorem Dn.mono {j : Nat} {x : Str} {st : Stmt} {ps : List Str} {fm : List M → Sto → R M} (D : Dn gd P w K mg base g j x st ps fm) (h : j ≤ k) : Dn gd P w K mg base g k x st ps fm := by
  obtain ⟨f, fd, F, r⟩ := D.ex
  exact ⟨f, fd, F.mono h, r⟩
/-- a def by its body -/
theorem dn_mk {x : Str} {st : Stmt} {f : Addr} {fd : FuncData} {N ps : List Str} {body : Env1 → Sto → Out} (m : Md w K mg base g cl) (F : L2.Fun K x x st f fd) (a : PySem.W.nsIn K mainGlobals x = some (some (.ref f))) (S : FnScope N ps (defScope st))
    (hb : ∀ (kV doc pm : Value) (an : Option Addr) (cdv ct : Value) (us : List Value), us.length = ps.length → bindArgs (PySem.W.fnOf x x (defArgs st) (defBody st) (defScope st) .none kV doc pm an cdv ct) ⟨us, []⟩ = pure (ps.zip us))
    (hbody : ∀ (cdv : Value) (A : Around) (fr : List Env) (s : Shared) (H : Hp) (E : XK), Room k (A.deeper (envOfC x (defScope st) s.heap.objs.size f cdv)) → (gd = true → (A.deeper (envOfC x (defScope st) s.heap.objs.size f cdv)).guards = some []) →
      MSs (cxOf (L2.CX P w) P w K mg base N x (defScope st) f cdv A fr s H E) g (fun c d _ H' => E c d H') (defBody st) body) : Dn gd P w K mg base g (k + 1) x st ps (fnM N.length body) := by
  have mx := m.at_ a
  refine ⟨f, fd, fn_ok F S (spM_len rfl) fun cdv A fr s H vs Q E hr hG h => ⟨_, hbody cdv A fr s H E hr hG, body_of h⟩, mx, F.kp, F.binds hb, ?_⟩
  obtain ⟨oc, od, kV, doc, pm, an, cdv, ct, osl, e, _⟩ := F.ex
  exact ⟨kV, doc, pm, an, cdv, ct, e⟩
/-- .. where the code object is told -/
theorem dn_mkC {x : Str} {st : Stmt} {f c : Addr} {N ps : List Str} {body : Env1 → Sto → Out} {oc : Value} {od an : Option Addr} {osl : Array (Option Value)} {kV doc pm ct : Value} (m : Md w K mg base g cl)
    (lk : K.lookup f = some ⟨oc, od, .func (PySem.W.fnOf x x (defArgs st) (defBody st) (defScope st) .none kV doc pm an (.ref c) ct), osl⟩) (hcd : PySem.W.codeIn K (.ref c) x = true) (hk : PySem.W.keepIn K (.ref f) = true) (a : PySem.W.nsIn K mainGlobals x = some (some (.ref f))) (S : FnScope N ps (defScope st))
    (hb : ∀ (kV doc pm : Value) (an : Option Addr) (cdv ct : Value) (us : List Value), us.length = ps.length → bindArgs (PySem.W.fnOf x x (defArgs st) (defBody st) (defScope st) .none kV doc pm an cdv ct) ⟨us, []⟩ = pure (ps.zip us))
    (hbody : ∀ (A : Around) (fr : List Env) (s : Shared) (H : Hp) (E : XK), Room k (A.deeper (envOfC x (defScope st) s.heap.objs.size f (.ref c))) → (gd = true → (A.deeper (envOfC x (defScope st) s.heap.objs.size f (.ref c))).guards = some []) →
      MSs (cxOf (L2.CX P w) P w K mg base N x (defScope st) f (.ref c) A fr s H E) g (fun c d _ H' => E c d H') (defBody st) body) : Dn gd P w K mg base g (k + 1) x st ps (fnM N.length body) := by
  refine ⟨f, _, ⟨spM_len rfl, fun A fr s H args us vs Q E hr hG e0 hb2 r hsp => ?_⟩, m.at_ a, hk, .all (hb kV doc pm an (.ref c) ct), ⟨kV, doc, pm, an, .ref c, ct, rfl⟩⟩
  exact LamX.run_ofS lk hcd S hr e0 hb2 r (spM_len rfl _ _ _ _ hsp) fun hr' => ⟨_, hbody A fr s H E hr' (deeper_guards hG), body_of hsp⟩
/-- a def of which nothing is told -/
theorem dn_bad {x : Str} {st : Stmt} {f : Addr} {fd : FuncData} {ps : List Str} (m : Md w K mg base g cl) (F : L2.Fun K x x st f fd) (a : PySem.W.nsIn K mainGlobals x = some (some (.ref f)))
    (hb : ∀ (kV doc pm : Value) (an : Option Addr) (cdv ct : Value) (us : List Value), us.length = ps.length → bindArgs (PySem.W.fnOf x x (defArgs st) (defBody st) (defScope st) .none kV doc pm an cdv ct) ⟨us, []⟩ = pure (ps.zip us)) : Dn gd P w K mg base g k x st ps (fun _ _ => .bad) := by
  refine ⟨f, fd, ⟨spM_len rfl, fun A fr s H args us vs Q E hr hG e0 hb2 r hsp => ?_⟩, m.at_ a, F.kp, F.binds hb, ?_⟩
  · obtain ⟨_, _, _, _, _, _, _, z⟩ := hsp
    exact z.elim
  · obtain ⟨oc, od, kV, doc, pm, an, cdv, ct, osl, e, _⟩ := F.ex
    exact ⟨kV, doc, pm, an, cdv, ct, e⟩
end
section
variable {gd : Bool} {X : Cx} {g : Cfg} {W : WX} {pos p : Pos} {x : Str} {st : Stmt} {ps : List Str} {j k : Nat} {fm : List M → Sto → R M} {a : Expr} {es : List Expr} {fs : Env1 → Sto → R (List M)}
theorem me_callD (D : Dn gd X.prog X.w X.K X.mg X.base g j x st ps fm) (hr : Room k X.A) (hj : j ≤ k) (hG : gd = true → X.A.guards = some []) (tk : Takes X W) (ha : MA X g W (a :: es) fs) (hn : (a :: es).length = ps.length) (hl : ∀ e S ms S', fs e S = .ok ms S' → ms.length = (a :: es).length)
    (hg : Gl X x := by rfl) (hdb : (x == ("__debug__" : Str)) = false := by decide) (he : starEach (a :: es) X.env = (false, eval a X.env) :: starEach es X.env := by rfl) (hpl : (backTo pos (starEach es X.env)).any (·.1) = false := by rfl) :
    ME X g W (.Call (.Name x p) (a :: es) [] pos) (eCall fm fs) := by
  obtain ⟨f, fd, F, hm, hk, hb, _⟩ := D.ex
  exact me_call F (hr.mono hj) hG tk hm hk hb ha hn hl hg hdb he hpl
theorem me_callKD {kws : List Keyword} (ks : List Str) (perm : List Nat) {fk : Env1 → Sto → R (List M)} (D : Dn gd X.prog X.w X.K X.mg X.base g j x st ps fm) (hr : Room k X.A) (hj : j ≤ k) (hG : gd = true → X.A.guards = some []) (tk : Takes X W)
    (hb : ∀ (kV doc pm : Value) (an : Option Addr) (cdv ct : Value), KBind (PySem.W.fnOf x x (defArgs st) (defBody st) (defScope st) .none kV doc pm an cdv ct) ps ks 0 perm) (ha : MK X g W kws fk) (hn : perm.length = ps.length) (hl : ∀ e S ms S', fk e S = .ok ms S' → ms.length = ks.length)
    (hall : (backToKw pos (keywordEach kws X.env)).all (·.1.isSome) = true := by rfl) (hks : (backToKw pos (keywordEach kws X.env)).filterMap (·.1) = ks := by rfl)
    (hg : Gl X x := by rfl) (hdb : (x == ("__debug__" : Str)) = false := by decide) (hpl : ((backTo pos (starEach [] X.env)).any (·.1) || (backToKw pos (keywordEach kws X.env)).any (·.1.isNone)) = false := by rfl) :
    ME X g W (.Call (.Name x p) [] kws pos) (eCallK perm fm fk) := by
  obtain ⟨f, fd, F, hm, hk, _, kV, doc, pm, an, cdv, ct, rfl⟩ := D.ex
  exact me_callK F (hr.mono hj) hG tk hm hk (hb kV doc pm an cdv ct) ha hn hl hall hks hg hdb hpl
end
theorem kb_of1 {fd : FuncData} {ps : List Str} {k1 : Str} {perm : List Nat} (h : ∀ (s : Shared) (a : Value), BindsTo s fd ⟨[], [(k1, a)]⟩ (ps.zip (permL .none perm [a]))) : KBind fd ps [k1] 0 perm := by
  intro s us ws h1 h2
  cases us with
  | cons _ _ => simp at h1
  | nil =>
    cases ws with
    | nil => simp at h2
    | cons a ws =>
      cases ws with
      | nil => exact h s a
      | cons _ _ => simp at h2
theorem kb_of2 {fd : FuncData} {ps : List Str} {k1 k2 : Str} {perm : List Nat} (h : ∀ (s : Shared) (a b : Value), BindsTo s fd ⟨[], [(k1, a), (k2, b)]⟩ (ps.zip (permL .none perm [a, b]))) : KBind fd ps [k1, k2] 0 perm := by
  intro s us ws h1 h2
  cases us with
  | cons _ _ => simp at h1
  | nil =>
    cases ws with
    | nil => simp at h2
    | cons a ws =>
      cases ws with
      | nil => simp at h2
      | cons b ws =>
        cases ws with
        | nil => exact h s a b
        | cons _ _ => simp at h2
theorem kb_of3 {fd : FuncData} {ps : List Str} {k1 k2 k3 : Str} {perm : List Nat} (h : ∀ (s : Shared) (a b c : Value), BindsTo s fd ⟨[], [(k1, a), (k2, b), (k3, c)]⟩ (ps.zip (permL .none perm [a, b, c]))) : KBind fd ps [k1, k2, k3] 0 perm := by
  intro s us ws h1 h2
  cases us with
  | cons _ _ => simp at h1
  | nil =>
    cases ws with
    | nil => simp at h2
    | cons a ws =>
      cases ws with
      | nil => simp at h2
      | cons b ws =>
        cases ws with
        | nil => simp at h2
        | cons c ws =>
          cases ws with
          | nil => exact h s a b c
          | cons _ _ => simp at h2
end Mr

end
section
set_option maxRecDepth 100000
set_option autoImplicit false
namespace Mr
open PySem PySem.Spec L2
open PyProof.Rows hiding St
/-! ### suites that only tell -/
def Pure (f : Env1 → Sto → R M) : Prop := ∀ e S m S', f e S = .ok m S' → S' = S
def PureA (f : Env1 → Sto → R (List M)) : Prop := ∀ e S m S', f e S = .ok m S' → S' = S
theorem bind_ok {α β : Type} {x : R α} {k : α → Sto → R β} {b : β} {S' : Sto} (h : x.bind k = .ok b S') : ∃ a S1, x = .ok a S1 ∧ k a S1 = .ok b S' := by
  cases x with
  | ok a S1 => exact ⟨a, S1, rfl, h⟩
  | rz c x S => cases h
  | bad => cases h
theorem lift_ok {α : Type} {o : Option α} {S S' : Sto} {a : α} (h : lift o S = .ok a S') : o = some a ∧ S' = S := by
  cases o with
  | none => cases h
  | some b => cases h; exact ⟨rfl, rfl⟩
theorem pure_c (m : M) : Pure (eC m) := fun e S m' S' h => by cases h; rfl
theorem pure_v (i : Nat) : Pure (eV i) := fun e S m' S' h => by
  unfold eV at h
  split at h
  · cases h; rfl
  · cases h
theorem pure_nil : PureA aN := fun e S m' S' h => by cases h; rfl
theorem pure_cons {f : Env1 → Sto → R M} {fs : Env1 → Sto → R (List M)} (a : Pure f) (b : PureA fs) : PureA (aC f fs) := fun e S m' S' h => by
  obtain ⟨x, S1, h1, h⟩ := bind_ok h
  obtain ⟨y, S2, h2, h⟩ := bind_ok h
  cases h
  rw [b _ _ _ _ h2, a _ _ _ _ h1]
theorem pure_prim {op : List M → Sto → Option M} {fs : Env1 → Sto → R (List M)} (b : PureA fs) : Pure (ePrim op fs) := fun e S m' S' h => by
  obtain ⟨x, S1, h1, h⟩ := bind_ok h
  rw [(lift_ok h).2, b _ _ _ _ h1]
theorem pure_fld {n : Str} {f : Env1 → Sto → R M} (b : Pure f) : Pure (eFld n f) := fun e S m' S' h => by
  obtain ⟨x, S1, h1, h⟩ := bind_ok h
  rw [← b _ _ _ _ h1]
  split at h
  · split at h
    · cases h; rfl
    · cases h
  · cases h
theorem tup_ok {fs : Env1 → Sto → R (List M)} (b : PureA fs) {e : Env1} {S S' : Sto} {m : M} (h : eTup fs e S = .ok m S') : S' = S ∧ ∃ x, m = .d x := by
  obtain ⟨x, S1, h1, h⟩ := bind_ok h
  split at h
  · obtain ⟨q, rfl⟩ := lift_ok h
    obtain ⟨ds, _, rfl⟩ := Option.map_eq_some_iff.mp q
    exact ⟨b _ _ _ _ h1, _, rfl⟩
  · cases h
theorem pure_tup {fs : Env1 → Sto → R (List M)} (b : PureA fs) : Pure (eTup fs) := fun e S m' S' h => (tup_ok b h).1
theorem tells_tup {fs : Env1 → Sto → R (List M)} (b : PureA fs) : Tells (sRet (eTup fs)) := fun e S m S' h => by
  unfold sRet at h
  cases q : eTup fs e S with
  | ok m1 S1 =>
    rw [q] at h
    cases h
    obtain ⟨e1, x, rfl⟩ := tup_ok b q
    exact ⟨e1, trivial⟩
  | rz c x S1 => rw [q] at h; cases h
  | bad => rw [q] at h; cases h
/-- what an error class of one's own must say for its instances to be asked -/
theorem MrE.ErrT.xf {K : PySem.W.Frag} {mg : Str → Option Value} {name : Str} {C fI : Addr} (T : MrE.ErrT K mg name C fI) : XfC K C := ⟨T.ga, T.gg, T.exC, T.hdC⟩
end Mr

end
section
open PySem PySem.W PyProof.Rows
set_option maxRecDepth 100000 in
set_option maxHeartbeats 0 in
open_top hd08 for PySem.Challenge.rw_ownpartners_k08_marks_of_all_kinds
end
section
set_option maxRecDepth 100000
set_option maxHeartbeats 0
namespace K08
open PySem PySem.Spec L2 Mr
open PyProof.Rows hiding St
abbrev PP : Program := PySem.Challenge.rw_ownpartners_k08_marks_of_all_kinds.prog
abbrev topS (i : Nat) : Stmt := PP.main.body.getD i (.Pass ⟨0, 0, 0, 0⟩)
theorem look_cons {k : Str} {d : PyData} {l : List (Str × PyData)} {z : Str} {x : PyData} (h : List.lookup z ((k, d) :: l) = some x) : (z = k ∧ d = x) ∨ List.lookup z l = some x := by
  by_cases q : z = k
  · subst q
    simp [List.lookup] at h
    exact .inl ⟨rfl, h⟩
  · have q1 : (z == k) = false := by simpa using q
    simp [List.lookup, q1] at h
    exact .inr h
theorem n_bool {w : World} : PySem.W.nsIn (hd08.heap_39 w.params) mainGlobals "bool" = some none := by k_is
theorem n_int {w : World} : PySem.W.nsIn (hd08.heap_39 w.params) mainGlobals "int" = some none := by k_is
theorem n_isinstance {w : World} : PySem.W.nsIn (hd08.heap_39 w.params) mainGlobals "isinstance" = some none := by k_is
theorem n_len {w : World} : PySem.W.nsIn (hd08.heap_39 w.params) mainGlobals "len" = some none := by k_is
theorem n_list {w : World} : PySem.W.nsIn (hd08.heap_39 w.params) mainGlobals "list" = some none := by k_is
theorem n_max {w : World} : PySem.W.nsIn (hd08.heap_39 w.params) mainGlobals "max" = some none := by k_is
theorem n_range {w : World} : PySem.W.nsIn (hd08.heap_39 w.params) mainGlobals "range" = some none := by k_is
theorem n_repr {w : World} : PySem.W.nsIn (hd08.heap_39 w.params) mainGlobals "repr" = some none := by k_is
theorem n_str {w : World} : PySem.W.nsIn (hd08.heap_39 w.params) mainGlobals "str" = some none := by k_is
theorem n_tuple {w : World} : PySem.W.nsIn (hd08.heap_39 w.params) mainGlobals "tuple" = some none := by k_is
theorem g_BadKind {w : World} : PySem.W.nsIn (hd08.heap_39 w.params) mainGlobals "BadKind" = some (some (.ref 44)) := by k_is
theorem g_BadMark {w : World} : PySem.W.nsIn (hd08.heap_39 w.params) mainGlobals "BadMark" = some (some (.ref 63)) := by k_is
theorem g_BookError {w : World} : PySem.W.nsIn (hd08.heap_39 w.params) mainGlobals "BookError" = some (some (.ref 24)) := by k_is
theorem g_KINDS {w : World} : PySem.W.nsIn (hd08.heap_39 w.params) mainGlobals "KINDS" = some (some (.ref 66)) := by k_is
theorem g_LEVELLERS {w : World} : PySem.W.nsIn (hd08.heap_39 w.params) mainGlobals "LEVELLERS" = some (some (.ref 114)) := by k_is
theorem g_PRODUCTS {w : World} : PySem.W.nsIn (hd08.heap_39 w.params) mainGlobals "PRODUCTS" = some (some (.ref 91)) := by k_is
theorem g_SIZES {w : World} : PySem.W.nsIn (hd08.heap_39 w.params) mainGlobals "SIZES" = some (some (.ref 67)) := by k_is
theorem g_SUMS {w : World} : PySem.W.nsIn (hd08.heap_39 w.params) mainGlobals "SUMS" = some (some (.ref 73)) := by k_is
theorem g_TURNED {w : World} : PySem.W.nsIn (hd08.heap_39 w.params) mainGlobals "TURNED" = some (some (.ref 109)) := by k_is
theorem g_UNITS {w : World} : PySem.W.nsIn (hd08.heap_39 w.params) mainGlobals "UNITS" = some (some (.ref 68)) := by k_is
abbrev s_is_integer : Stmt := topS 12
theorem sc_is_integer : FnScope ["thing"] ["thing"] (defScope s_is_integer) := ⟨rfl, rfl, rfl, by decide +kernel, rfl, by decide +kernel, by decide +kernel⟩
theorem d_is_integer {w : World} : ∃ fd, L2.Fun (hd08.heap_39 w.params) "is_integer" "is_integer" s_is_integer 125 fd := ⟨_, fun_mk (by k_is) (by k_is) (by k_is)⟩
theorem a_is_integer {w : World} : PySem.W.nsIn (hd08.heap_39 w.params) mainGlobals "is_integer" = some (some (.ref 125)) := by k_is
abbrev s_is_kind : Stmt := topS 13
theorem sc_is_kind : FnScope ["thing"] ["thing"] (defScope s_is_kind) := ⟨rfl, rfl, rfl, by decide +kernel, rfl, by decide +kernel, by decide +kernel⟩
theorem d_is_kind {w : World} : ∃ fd, L2.Fun (hd08.heap_39 w.params) "is_kind" "is_kind" s_is_kind 132 fd := ⟨_, fun_mk (by k_is) (by k_is) (by k_is)⟩
theorem a_is_kind {w : World} : PySem.W.nsIn (hd08.heap_39 w.params) mainGlobals "is_kind" = some (some (.ref 132)) := by k_is
abbrev s_check_kind : Stmt := topS 14
theorem sc_check_kind : FnScope ["kind"] ["kind"] (defScope s_check_kind) := ⟨rfl, rfl, rfl, by decide +kernel, rfl, by decide +kernel, by decide +kernel⟩
theorem d_check_kind {w : World} : ∃ fd, L2.Fun (hd08.heap_39 w.params) "check_kind" "check_kind" s_check_kind 139 fd := ⟨_, fun_mk (by k_is) (by k_is) (by k_is)⟩
theorem a_check_kind {w : World} : PySem.W.nsIn (hd08.heap_39 w.params) mainGlobals "check_kind" = some (some (.ref 139)) := by k_is
abbrev s_is_mark : Stmt := topS 16
theorem sc_is_mark : FnScope ["kind", "thing"] ["kind", "thing"] (defScope s_is_mark) := ⟨rfl, rfl, rfl, by decide +kernel, rfl, by decide +kernel, by decide +kernel⟩
theorem d_is_mark {w : World} : ∃ fd, L2.Fun (hd08.heap_39 w.params) "is_mark" "is_mark" s_is_mark 146 fd := ⟨_, fun_mk (by k_is) (by k_is) (by k_is)⟩
theorem a_is_mark {w : World} : PySem.W.nsIn (hd08.heap_39 w.params) mainGlobals "is_mark" = some (some (.ref 146)) := by k_is
abbrev s_check_mark : Stmt := topS 17
theorem sc_check_mark : FnScope ["kind", "thing"] ["kind", "thing"] (defScope s_check_mark) := ⟨rfl, rfl, rfl, by decide +kernel, rfl, by decide +kernel, by decide +kernel⟩
theorem d_check_mark {w : World} : ∃ fd, L2.Fun (hd08.heap_39 w.params) "check_mark" "check_mark" s_check_mark 153 fd := ⟨_, fun_mk (by k_is) (by k_is) (by k_is)⟩
theorem a_check_mark {w : World} : PySem.W.nsIn (hd08.heap_39 w.params) mainGlobals "check_mark" = some (some (.ref 153)) := by k_is
abbrev s_size_of : Stmt := topS 18
theorem sc_size_of : FnScope ["kind"] ["kind"] (defScope s_size_of) := ⟨rfl, rfl, rfl, by decide +kernel, rfl, by decide +kernel, by decide +kernel⟩
theorem d_size_of {w : World} : ∃ fd, L2.Fun (hd08.heap_39 w.params) "size_of" "size_of" s_size_of 160 fd := ⟨_, fun_mk (by k_is) (by k_is) (by k_is)⟩
theorem a_size_of {w : World} : PySem.W.nsIn (hd08.heap_39 w.params) mainGlobals "size_of" = some (some (.ref 160)) := by k_is
abbrev s_units_of : Stmt := topS 19
theorem sc_units_of : FnScope ["kind"] ["kind"] (defScope s_units_of) := ⟨rfl, rfl, rfl, by decide +kernel, rfl, by decide +kernel, by decide +kernel⟩
theorem d_units_of {w : World} : ∃ fd, L2.Fun (hd08.heap_39 w.params) "units_of" "units_of" s_units_of 167 fd := ⟨_, fun_mk (by k_is) (by k_is) (by k_is)⟩
theorem a_units_of {w : World} : PySem.W.nsIn (hd08.heap_39 w.params) mainGlobals "units_of" = some (some (.ref 167)) := by k_is
abbrev s_sum_of : Stmt := topS 20
theorem sc_sum_of : FnScope ["kind", "one", "other"] ["kind", "one", "other"] (defScope s_sum_of) := ⟨rfl, rfl, rfl, by decide +kernel, rfl, by decide +kernel, by decide +kernel⟩
theorem d_sum_of {w : World} : ∃ fd, L2.Fun (hd08.heap_39 w.params) "sum_of" "sum_of" s_sum_of 174 fd := ⟨_, fun_mk (by k_is) (by k_is) (by k_is)⟩
theorem a_sum_of {w : World} : PySem.W.nsIn (hd08.heap_39 w.params) mainGlobals "sum_of" = some (some (.ref 174)) := by k_is
abbrev s_product_of : Stmt := topS 21
theorem sc_product_of : FnScope ["kind", "one", "other"] ["kind", "one", "other"] (defScope s_product_of) := ⟨rfl, rfl, rfl, by decide +kernel, rfl, by decide +kernel, by decide +kernel⟩
theorem d_product_of {w : World} : ∃ fd, L2.Fun (hd08.heap_39 w.params) "product_of" "product_of" s_product_of 181 fd := ⟨_, fun_mk (by k_is) (by k_is) (by k_is)⟩
theorem a_product_of {w : World} : PySem.W.nsIn (hd08.heap_39 w.params) mainGlobals "product_of" = some (some (.ref 181)) := by k_is
abbrev s_turned_mark : Stmt := topS 22
theorem sc_turned_mark : FnScope ["kind", "mark"] ["kind", "mark"] (defScope s_turned_mark) := ⟨rfl, rfl, rfl, by decide +kernel, rfl, by decide +kernel, by decide +kernel⟩
theorem d_turned_mark {w : World} : ∃ fd, L2.Fun (hd08.heap_39 w.params) "turned_mark" "turned_mark" s_turned_mark 188 fd := ⟨_, fun_mk (by k_is) (by k_is) (by k_is)⟩
theorem a_turned_mark {w : World} : PySem.W.nsIn (hd08.heap_39 w.params) mainGlobals "turned_mark" = some (some (.ref 188)) := by k_is
abbrev s_inverse_of : Stmt := topS 23
theorem sc_inverse_of : FnScope ["kind", "mark"] ["kind", "mark"] (defScope s_inverse_of) := ⟨rfl, rfl, rfl, by decide +kernel, rfl, by decide +kernel, by decide +kernel⟩
theorem d_inverse_of {w : World} : ∃ fd, L2.Fun (hd08.heap_39 w.params) "inverse_of" "inverse_of" s_inverse_of 195 fd := ⟨_, fun_mk (by k_is) (by k_is) (by k_is)⟩
theorem a_inverse_of {w : World} : PySem.W.nsIn (hd08.heap_39 w.params) mainGlobals "inverse_of" = some (some (.ref 195)) := by k_is
abbrev s__law_deck : Stmt := topS 25
theorem sc__law_deck : FnScope ["_law_script", "_law_mixed", "_law_cell"] ["_law_script"] (defScope s__law_deck) := ⟨rfl, rfl, rfl, by decide +kernel, rfl, by decide +kernel, by decide +kernel⟩
theorem d__law_deck {w : World} : ∃ fd, L2.Fun (hd08.heap_39 w.params) "_law_deck" "_law_deck" s__law_deck 202 fd := ⟨_, fun_mk (by k_is) (by k_is) (by k_is)⟩
theorem a__law_deck {w : World} : PySem.W.nsIn (hd08.heap_39 w.params) mainGlobals "_law_deck" = some (some (.ref 202)) := by k_is
abbrev s__law_draw : Stmt := topS 26
theorem sc__law_draw : FnScope ["_law_deck_here", "_law_many", "_law_number", "_law_cell"] ["_law_deck_here", "_law_many"] (defScope s__law_draw) := ⟨rfl, rfl, rfl, by decide +kernel, rfl, by decide +kernel, by decide +kernel⟩
theorem d__law_draw {w : World} : ∃ fd, L2.Fun (hd08.heap_39 w.params) "_law_draw" "_law_draw" s__law_draw 209 fd := ⟨_, fun_mk (by k_is) (by k_is) (by k_is)⟩
theorem a__law_draw {w : World} : PySem.W.nsIn (hd08.heap_39 w.params) mainGlobals "_law_draw" = some (some (.ref 209)) := by k_is
abbrev s__law_pick : Stmt := topS 27
theorem sc__law_pick : FnScope ["_law_deck_here", "_law_some"] ["_law_deck_here", "_law_some"] (defScope s__law_pick) := ⟨rfl, rfl, rfl, by decide +kernel, rfl, by decide +kernel, by decide +kernel⟩
theorem d__law_pick {w : World} : ∃ fd, L2.Fun (hd08.heap_39 w.params) "_law_pick" "_law_pick" s__law_pick 216 fd := ⟨_, fun_mk (by k_is) (by k_is) (by k_is)⟩
theorem a__law_pick {w : World} : PySem.W.nsIn (hd08.heap_39 w.params) mainGlobals "_law_pick" = some (some (.ref 216)) := by k_is
abbrev s__law_size : Stmt := topS 28
theorem sc__law_size : FnScope ["_law_kind"] ["_law_kind"] (defScope s__law_size) := ⟨rfl, rfl, rfl, by decide +kernel, rfl, by decide +kernel, by decide +kernel⟩
theorem d__law_size {w : World} : ∃ fd, L2.Fun (hd08.heap_39 w.params) "_law_size" "_law_size" s__law_size 223 fd := ⟨_, fun_mk (by k_is) (by k_is) (by k_is)⟩
theorem a__law_size {w : World} : PySem.W.nsIn (hd08.heap_39 w.params) mainGlobals "_law_size" = some (some (.ref 223)) := by k_is
abbrev s__law_any : Stmt := topS 29
theorem sc__law_any : FnScope ["_law_deck_here", "_law_deep", "_law_way", "_law_some", "_law_turn"] ["_law_deck_here", "_law_deep"] (defScope s__law_any) := ⟨rfl, rfl, rfl, by decide +kernel, rfl, by decide +kernel, by decide +kernel⟩
theorem d__law_any {w : World} : ∃ fd, L2.Fun (hd08.heap_39 w.params) "_law_any" "_law_any" s__law_any 228 fd := ⟨_, fun_mk (by k_is) (by k_is) (by k_is)⟩
theorem a__law_any {w : World} : PySem.W.nsIn (hd08.heap_39 w.params) mainGlobals "_law_any" = some (some (.ref 228)) := by k_is
abbrev s__law_sum : Stmt := topS 30
theorem sc__law_sum : FnScope ["_law_kind", "_law_a", "_law_b"] ["_law_kind", "_law_a", "_law_b"] (defScope s__law_sum) := ⟨rfl, rfl, rfl, by decide +kernel, rfl, by decide +kernel, by decide +kernel⟩
theorem d__law_sum {w : World} : ∃ fd, L2.Fun (hd08.heap_39 w.params) "_law_sum" "_law_sum" s__law_sum 235 fd := ⟨_, fun_mk (by k_is) (by k_is) (by k_is)⟩
theorem a__law_sum {w : World} : PySem.W.nsIn (hd08.heap_39 w.params) mainGlobals "_law_sum" = some (some (.ref 235)) := by k_is
abbrev s__law_product : Stmt := topS 31
theorem sc__law_product : FnScope ["_law_kind", "_law_a", "_law_b", "_law_middle", "_law_high", "_law_low"] ["_law_kind", "_law_a", "_law_b"] (defScope s__law_product) := ⟨rfl, rfl, rfl, by decide +kernel, rfl, by decide +kernel, by decide +kernel⟩
theorem d__law_product {w : World} : ∃ fd, L2.Fun (hd08.heap_39 w.params) "_law_product" "_law_product" s__law_product 242 fd := ⟨_, fun_mk (by k_is) (by k_is) (by k_is)⟩
theorem a__law_product {w : World} : PySem.W.nsIn (hd08.heap_39 w.params) mainGlobals "_law_product" = some (some (.ref 242)) := by k_is
abbrev s__law_over : Stmt := topS 32
theorem sc__law_over : FnScope ["_law_kind", "_law_a"] ["_law_kind", "_law_a"] (defScope s__law_over) := ⟨rfl, rfl, rfl, by decide +kernel, rfl, by decide +kernel, by decide +kernel⟩
theorem d__law_over {w : World} : ∃ fd, L2.Fun (hd08.heap_39 w.params) "_law_over" "_law_over" s__law_over 249 fd := ⟨_, fun_mk (by k_is) (by k_is) (by k_is)⟩
theorem a__law_over {w : World} : PySem.W.nsIn (hd08.heap_39 w.params) mainGlobals "_law_over" = some (some (.ref 249)) := by k_is
abbrev s__law_is_whole : Stmt := topS 33
theorem sc__law_is_whole : FnScope ["_law_value", "_law_due_here"] ["_law_value", "_law_due_here"] (defScope s__law_is_whole) := ⟨rfl, rfl, rfl, by decide +kernel, rfl, by decide +kernel, by decide +kernel⟩
theorem d__law_is_whole {w : World} : ∃ fd, L2.Fun (hd08.heap_39 w.params) "_law_is_whole" "_law_is_whole" s__law_is_whole 256 fd := ⟨_, fun_mk (by k_is) (by k_is) (by k_is)⟩
theorem a__law_is_whole {w : World} : PySem.W.nsIn (hd08.heap_39 w.params) mainGlobals "_law_is_whole" = some (some (.ref 256)) := by k_is
abbrev s__law_are_all_right : Stmt := topS 34
theorem sc__law_are_all_right : FnScope ["_law_kind", "_law_q", "_law_units", "_law_a", "_law_b", "_law_told"] ["_law_kind"] (defScope s__law_are_all_right) := ⟨rfl, rfl, rfl, by decide +kernel, rfl, by decide +kernel, by decide +kernel⟩
theorem d__law_are_all_right {w : World} : ∃ fd, L2.Fun (hd08.heap_39 w.params) "_law_are_all_right" "_law_are_all_right" s__law_are_all_right 261 fd := ⟨_, fun_mk (by k_is) (by k_is) (by k_is)⟩
theorem a__law_are_all_right {w : World} : PySem.W.nsIn (hd08.heap_39 w.params) mainGlobals "_law_are_all_right" = some (some (.ref 261)) := by k_is
abbrev s__law_are_three_right : Stmt := topS 35
theorem sc__law_are_three_right : FnScope ["_law_kind", "_law_a", "_law_b", "_law_c", "_law_one", "_law_other", "_law_near", "_law_far"] ["_law_kind", "_law_a", "_law_b", "_law_c"] (defScope s__law_are_three_right) := ⟨rfl, rfl, rfl, by decide +kernel, rfl, by decide +kernel, by decide +kernel⟩
theorem d__law_are_three_right {w : World} : ∃ fd, L2.Fun (hd08.heap_39 w.params) "_law_are_three_right" "_law_are_three_right" s__law_are_three_right 268 fd := ⟨_, fun_mk (by k_is) (by k_is) (by k_is)⟩
theorem a__law_are_three_right {w : World} : PySem.W.nsIn (hd08.heap_39 w.params) mainGlobals "_law_are_three_right" = some (some (.ref 268)) := by k_is
abbrev s__law_odd : Stmt := topS 36
theorem sc__law_odd : FnScope ["_law_deck_here", "_law_q", "_law_way"] ["_law_deck_here", "_law_q"] (defScope s__law_odd) := ⟨rfl, rfl, rfl, by decide +kernel, rfl, by decide +kernel, by decide +kernel⟩
theorem d__law_odd {w : World} : ∃ fd, L2.Fun (hd08.heap_39 w.params) "_law_odd" "_law_odd" s__law_odd 275 fd := ⟨_, fun_mk (by k_is) (by k_is) (by k_is)⟩
theorem a__law_odd {w : World} : PySem.W.nsIn (hd08.heap_39 w.params) mainGlobals "_law_odd" = some (some (.ref 275)) := by k_is
abbrev s__law_is_mark : Stmt := topS 37
theorem sc__law_is_mark : FnScope ["_law_q", "_law_thing"] ["_law_q", "_law_thing"] (defScope s__law_is_mark) := ⟨rfl, rfl, rfl, by decide +kernel, rfl, by decide +kernel, by decide +kernel⟩
theorem d__law_is_mark {w : World} : ∃ fd, L2.Fun (hd08.heap_39 w.params) "_law_is_mark" "_law_is_mark" s__law_is_mark 282 fd := ⟨_, fun_mk (by k_is) (by k_is) (by k_is)⟩
theorem a__law_is_mark {w : World} : PySem.W.nsIn (hd08.heap_39 w.params) mainGlobals "_law_is_mark" = some (some (.ref 282)) := by k_is
abbrev s__law_tried : Stmt := topS 38
theorem sc__law_tried : FnScope ["_law_call", "e"] ["_law_call"] (defScope s__law_tried) := ⟨rfl, rfl, rfl, by decide +kernel, rfl, by decide +kernel, by decide +kernel⟩
theorem d__law_tried {w : World} : ∃ fd, L2.Fun (hd08.heap_39 w.params) "_law_tried" "_law_tried" s__law_tried 289 fd := ⟨_, fun_mk (by k_is) (by k_is) (by k_is)⟩
theorem a__law_tried {w : World} : PySem.W.nsIn (hd08.heap_39 w.params) mainGlobals "_law_tried" = some (some (.ref 289)) := by k_is
abbrev s__law_due : Stmt := topS 39
theorem sc__law_due : FnScope ["_law_way", "_law_kind", "_law_one", "_law_other", "_law_q", "_law_it", "_law_near", "_law_units", "_law_b"] ["_law_way", "_law_kind", "_law_one", "_law_other"] (defScope s__law_due) := ⟨rfl, rfl, rfl, by decide +kernel, rfl, by decide +kernel, by decide +kernel⟩
theorem d__law_due {w : World} : ∃ fd, L2.Fun (hd08.heap_39 w.params) "_law_due" "_law_due" s__law_due 294 fd := ⟨_, fun_mk (by k_is) (by k_is) (by k_is)⟩
theorem a__law_due {w : World} : PySem.W.nsIn (hd08.heap_39 w.params) mainGlobals "_law_due" = some (some (.ref 294)) := by k_is
abbrev s__law_called : Stmt := topS 40
theorem sc__law_called : FnScope ["_law_way", "_law_look", "_law_kind", "_law_one", "_law_other"] ["_law_way", "_law_look", "_law_kind", "_law_one", "_law_other"] (defScope s__law_called) := ⟨rfl, rfl, rfl, by decide +kernel, rfl, by decide +kernel, by decide +kernel⟩
theorem d__law_called {w : World} : ∃ fd, L2.Fun (hd08.heap_39 w.params) "_law_called" "_law_called" s__law_called 301 fd := ⟨_, fun_mk (by k_is) (by k_is) (by k_is)⟩
theorem a__law_called {w : World} : PySem.W.nsIn (hd08.heap_39 w.params) mainGlobals "_law_called" = some (some (.ref 301)) := by k_is
abbrev s_law : Stmt := topS 41
theorem sc_law : FnScope ["_law_script", "_law_deck_here", "_law_kinds", "_law_kind", "_law_turn", "_law_q", "_law_one", "_law_other", "_law_way", "_law_look"] ["_law_script"] (defScope s_law) := ⟨rfl, rfl, rfl, by decide +kernel, rfl, by decide +kernel, by decide +kernel⟩
theorem d_law {w : World} : ∃ fd, L2.Fun (hd08.heap_39 w.params) "law" "law" s_law 308 fd := ⟨_, fun_mk (by k_is) (by k_is) (by k_is)⟩
theorem a_law {w : World} : PySem.W.nsIn (hd08.heap_39 w.params) mainGlobals "law" = some (some (.ref 308)) := by k_is
def clf : Nat → Addr
  | 0 => 24
  | 1 => 44
  | 2 => 63
  | _ => 0
theorem et_BadKind {w : World} {mg : Str → Option Value} {base : Heap} {g : Cfg} (m : Md w (hd08.heap_39 w.params) mg base g clf) : MrE.ErrT (hd08.heap_39 w.params) mg "BadKind" (g.cl 1) 41 := by
  have e : g.cl 1 = 44 := by rw [m.cls]; rfl
  rw [e]
  exact { gC := m.at_ g_BadKind, cls := ⟨_, _, _, _, _, _, _, _, _, _, _, _, _, _, _, by k_is, by decide +kernel⟩, sa := by k_is, ga := by k_is, gg := by k_is, noN := by k_is, iC := by k_is, tC := by k_is, kC := by k_is, exC := by k_is, tyC := by k_is, hdC := by k_is, fn := ⟨_, _, _, _, _, _, _, _, _, _, _, _, _, _, _, by k_is, by k_is⟩ }
theorem et_BadMark {w : World} {mg : Str → Option Value} {base : Heap} {g : Cfg} (m : Md w (hd08.heap_39 w.params) mg base g clf) : MrE.ErrT (hd08.heap_39 w.params) mg "BadMark" (g.cl 2) 60 := by
  have e : g.cl 2 = 63 := by rw [m.cls]; rfl
  rw [e]
  exact { gC := m.at_ g_BadMark, cls := ⟨_, _, _, _, _, _, _, _, _, _, _, _, _, _, _, by k_is, by decide +kernel⟩, sa := by k_is, ga := by k_is, gg := by k_is, noN := by k_is, iC := by k_is, tC := by k_is, kC := by k_is, exC := by k_is, tyC := by k_is, hdC := by k_is, fn := ⟨_, _, _, _, _, _, _, _, _, _, _, _, _, _, _, by k_is, by k_is⟩ }
theorem rd_66 {w : World} {B : List Addr} {H : Hp} : Dr (hd08.heap_39 w.params) B H (.ref 66) (.tuple [.str "two", .str "three", .str "four", .str "ring"]) := .tupK (xs := [.str "two", .str "three", .str "four", .str "ring"]) (by k_is) rfl rfl (by decide) (.cons ⟨_, rfl⟩ (.cons ⟨_, rfl⟩ (.cons ⟨_, rfl⟩ (.cons ⟨_, rfl⟩ (.nil))))) (.cons (.str _) (.cons (.str _) (.cons (.str _) (.cons (.str _) (.nil)))))
def c_KINDS : M := .d (.tuple [.str "two", .str "three", .str "four", .str "ring"])
theorem rc_KINDS {w : World} {g : Cfg} (ph r : List Addr) (H : Hp) : Mv (hd08.heap_39 w.params) g ph r H c_KINDS (.ref 66) := rd_66
theorem kd_67 {w : World} : ∃ (es : Array DictEntry) (n : Nat), (hd08.heap_39 w.params).lookup 67 = some ⟨.type "dict", none, .dict es n, #[]⟩ ∧ PySem.W.KeysLit w.params es.toList := by
  have h : ∃ o, (hd08.heap_39 w.params).lookup 67 = some o ∧ ∃ (es : Array DictEntry) (n : Nat), o = ⟨.type "dict", none, .dict es n, #[]⟩ ∧ PySem.W.KeysLit w.params es.toList := by
    refine' ⟨_, ?a, ?b⟩
    case a => rfl
    case b => exact ⟨_, _, rfl, ⟨⟨_, _, rfl, rfl⟩, ⟨⟨_, _, rfl, rfl⟩, ⟨⟨_, _, rfl, rfl⟩, ⟨⟨_, _, rfl, rfl⟩, trivial⟩⟩⟩⟩⟩
  obtain ⟨o, h1, es, n, rfl, h2⟩ := h
  exact ⟨es, n, h1, h2⟩
def c_SIZES : M := .kdc 67 [("two", .int 2), ("three", .int 3), ("four", .int 4), ("ring", .int 4)]
theorem rc_SIZES {w : World} {g : Cfg} (hw : w = g.w) (ph r : List Addr) (H : Hp) : Mv (hd08.heap_39 w.params) g ph r H c_SIZES (.ref 67) := by
  subst hw
  obtain ⟨es, n, h1, h2⟩ := kd_67 (w := g.w)
  refine ⟨rfl, fun z x q => ?_⟩
  rcases look_cons q with ⟨rfl, rfl⟩ | q
  · exact ⟨.int 2, ⟨es, n, Value.int 2 265, h1, h2, by k_is, ⟨_, rfl⟩⟩, fun B H => (.int _)⟩
  rcases look_cons q with ⟨rfl, rfl⟩ | q
  · exact ⟨.int 3, ⟨es, n, Value.int 3 267, h1, h2, by k_is, ⟨_, rfl⟩⟩, fun B H => (.int _)⟩
  rcases look_cons q with ⟨rfl, rfl⟩ | q
  · exact ⟨.int 4, ⟨es, n, Value.int 4 269, h1, h2, by k_is, ⟨_, rfl⟩⟩, fun B H => (.int _)⟩
  rcases look_cons q with ⟨rfl, rfl⟩ | q
  · exact ⟨.int 4, ⟨es, n, Value.int 4 271, h1, h2, by k_is, ⟨_, rfl⟩⟩, fun B H => (.int _)⟩
  cases q
theorem rd_69 {w : World} {B : List Addr} {H : Hp} : Dr (hd08.heap_39 w.params) B H (.ref 69) (.tuple [.int 1]) := .tupK (xs := [.int 1]) (by k_is) rfl rfl (by decide) (.cons ⟨_, rfl⟩ (.nil)) (.cons (.int _) (.nil))
theorem rd_70 {w : World} {B : List Addr} {H : Hp} : Dr (hd08.heap_39 w.params) B H (.ref 70) (.tuple [.int 1, .int 2]) := .tupK (xs := [.int 1, .int 2]) (by k_is) rfl rfl (by decide) (.cons ⟨_, rfl⟩ (.cons ⟨_, rfl⟩ (.nil))) (.cons (.int _) (.cons (.int _) (.nil)))
theorem rd_71 {w : World} {B : List Addr} {H : Hp} : Dr (hd08.heap_39 w.params) B H (.ref 71) (.tuple [.int 1, .int 2, .int 3]) := .tupK (xs := [.int 1, .int 2, .int 3]) (by k_is) rfl rfl (by decide) (.cons ⟨_, rfl⟩ (.cons ⟨_, rfl⟩ (.cons ⟨_, rfl⟩ (.nil)))) (.cons (.int _) (.cons (.int _) (.cons (.int _) (.nil))))
theorem rd_72 {w : World} {B : List Addr} {H : Hp} : Dr (hd08.heap_39 w.params) B H (.ref 72) (.tuple [.int 1, .int 3]) := .tupK (xs := [.int 1, .int 3]) (by k_is) rfl rfl (by decide) (.cons ⟨_, rfl⟩ (.cons ⟨_, rfl⟩ (.nil))) (.cons (.int _) (.cons (.int _) (.nil)))
theorem kd_68 {w : World} : ∃ (es : Array DictEntry) (n : Nat), (hd08.heap_39 w.params).lookup 68 = some ⟨.type "dict", none, .dict es n, #[]⟩ ∧ PySem.W.KeysLit w.params es.toList := by
  have h : ∃ o, (hd08.heap_39 w.params).lookup 68 = some o ∧ ∃ (es : Array DictEntry) (n : Nat), o = ⟨.type "dict", none, .dict es n, #[]⟩ ∧ PySem.W.KeysLit w.params es.toList := by
    refine' ⟨_, ?a, ?b⟩
    case a => rfl
    case b => exact ⟨_, _, rfl, ⟨⟨_, _, rfl, rfl⟩, ⟨⟨_, _, rfl, rfl⟩, ⟨⟨_, _, rfl, rfl⟩, ⟨⟨_, _, rfl, rfl⟩, trivial⟩⟩⟩⟩⟩
  obtain ⟨o, h1, es, n, rfl, h2⟩ := h
  exact ⟨es, n, h1, h2⟩
def c_UNITS : M := .kdc 68 [("two", .tuple [.int 1]), ("three", .tuple [.int 1, .int 2]), ("four", .tuple [.int 1, .int 2, .int 3]), ("ring", .tuple [.int 1, .int 3])]
theorem rc_UNITS {w : World} {g : Cfg} (hw : w = g.w) (ph r : List Addr) (H : Hp) : Mv (hd08.heap_39 w.params) g ph r H c_UNITS (.ref 68) := by
  subst hw
  obtain ⟨es, n, h1, h2⟩ := kd_68 (w := g.w)
  refine ⟨rfl, fun z x q => ?_⟩
  rcases look_cons q with ⟨rfl, rfl⟩ | q
  · exact ⟨.ref 69, ⟨es, n, Value.ref 69, h1, h2, by k_is, rfl⟩, fun B H => rd_69⟩
  rcases look_cons q with ⟨rfl, rfl⟩ | q
  · exact ⟨.ref 70, ⟨es, n, Value.ref 70, h1, h2, by k_is, rfl⟩, fun B H => rd_70⟩
  rcases look_cons q with ⟨rfl, rfl⟩ | q
  · exact ⟨.ref 71, ⟨es, n, Value.ref 71, h1, h2, by k_is, rfl⟩, fun B H => rd_71⟩
  rcases look_cons q with ⟨rfl, rfl⟩ | q
  · exact ⟨.ref 72, ⟨es, n, Value.ref 72, h1, h2, by k_is, rfl⟩, fun B H => rd_72⟩
  cases q
theorem rd_74 {w : World} {B : List Addr} {H : Hp} : Dr (hd08.heap_39 w.params) B H (.ref 74) (.tuple [.int 0, .int 1]) := .tupK (xs := [.int 0, .int 1]) (by k_is) rfl rfl (by decide) (.cons ⟨_, rfl⟩ (.cons ⟨_, rfl⟩ (.nil))) (.cons (.int _) (.cons (.int _) (.nil)))
theorem rd_75 {w : World} {B : List Addr} {H : Hp} : Dr (hd08.heap_39 w.params) B H (.ref 75) (.tuple [.int 1, .int 0]) := .tupK (xs := [.int 1, .int 0]) (by k_is) rfl rfl (by decide) (.cons ⟨_, rfl⟩ (.cons ⟨_, rfl⟩ (.nil))) (.cons (.int _) (.cons (.int _) (.nil)))
theorem rd_76 {w : World} {B : List Addr} {H : Hp} : Dr (hd08.heap_39 w.params) B H (.ref 76) (.tuple [.tuple [.int 0, .int 1], .tuple [.int 1, .int 0]]) := .tupK (xs := [.ref 74, .ref 75]) (by k_is) rfl rfl (by decide) (.cons rfl (.cons rfl (.nil))) (.cons rd_74 (.cons rd_75 (.nil)))
theorem rd_77 {w : World} {B : List Addr} {H : Hp} : Dr (hd08.heap_39 w.params) B H (.ref 77) (.tuple [.int 0, .int 1, .int 2]) := .tupK (xs := [.int 0, .int 1, .int 2]) (by k_is) rfl rfl (by decide) (.cons ⟨_, rfl⟩ (.cons ⟨_, rfl⟩ (.cons ⟨_, rfl⟩ (.nil)))) (.cons (.int _) (.cons (.int _) (.cons (.int _) (.nil))))
theorem rd_78 {w : World} {B : List Addr} {H : Hp} : Dr (hd08.heap_39 w.params) B H (.ref 78) (.tuple [.int 1, .int 2, .int 0]) := .tupK (xs := [.int 1, .int 2, .int 0]) (by k_is) rfl rfl (by decide) (.cons ⟨_, rfl⟩ (.cons ⟨_, rfl⟩ (.cons ⟨_, rfl⟩ (.nil)))) (.cons (.int _) (.cons (.int _) (.cons (.int _) (.nil))))
theorem rd_79 {w : World} {B : List Addr} {H : Hp} : Dr (hd08.heap_39 w.params) B H (.ref 79) (.tuple [.int 2, .int 0, .int 1]) := .tupK (xs := [.int 2, .int 0, .int 1]) (by k_is) rfl rfl (by decide) (.cons ⟨_, rfl⟩ (.cons ⟨_, rfl⟩ (.cons ⟨_, rfl⟩ (.nil)))) (.cons (.int _) (.cons (.int _) (.cons (.int _) (.nil))))
theorem rd_80 {w : World} {B : List Addr} {H : Hp} : Dr (hd08.heap_39 w.params) B H (.ref 80) (.tuple [.tuple [.int 0, .int 1, .int 2], .tuple [.int 1, .int 2, .int 0], .tuple [.int 2, .int 0, .int 1]]) := .tupK (xs := [.ref 77, .ref 78, .ref 79]) (by k_is) rfl rfl (by decide) (.cons rfl (.cons rfl (.cons rfl (.nil)))) (.cons rd_77 (.cons rd_78 (.cons rd_79 (.nil))))
theorem rd_81 {w : World} {B : List Addr} {H : Hp} : Dr (hd08.heap_39 w.params) B H (.ref 81) (.tuple [.int 0, .int 1, .int 2, .int 3]) := .tupK (xs := [.int 0, .int 1, .int 2, .int 3]) (by k_is) rfl rfl (by decide) (.cons ⟨_, rfl⟩ (.cons ⟨_, rfl⟩ (.cons ⟨_, rfl⟩ (.cons ⟨_, rfl⟩ (.nil))))) (.cons (.int _) (.cons (.int _) (.cons (.int _) (.cons (.int _) (.nil)))))
theorem rd_82 {w : World} {B : List Addr} {H : Hp} : Dr (hd08.heap_39 w.params) B H (.ref 82) (.tuple [.int 1, .int 0, .int 3, .int 2]) := .tupK (xs := [.int 1, .int 0, .int 3, .int 2]) (by k_is) rfl rfl (by decide) (.cons ⟨_, rfl⟩ (.cons ⟨_, rfl⟩ (.cons ⟨_, rfl⟩ (.cons ⟨_, rfl⟩ (.nil))))) (.cons (.int _) (.cons (.int _) (.cons (.int _) (.cons (.int _) (.nil)))))
theorem rd_83 {w : World} {B : List Addr} {H : Hp} : Dr (hd08.heap_39 w.params) B H (.ref 83) (.tuple [.int 2, .int 3, .int 0, .int 1]) := .tupK (xs := [.int 2, .int 3, .int 0, .int 1]) (by k_is) rfl rfl (by decide) (.cons ⟨_, rfl⟩ (.cons ⟨_, rfl⟩ (.cons ⟨_, rfl⟩ (.cons ⟨_, rfl⟩ (.nil))))) (.cons (.int _) (.cons (.int _) (.cons (.int _) (.cons (.int _) (.nil)))))
theorem rd_84 {w : World} {B : List Addr} {H : Hp} : Dr (hd08.heap_39 w.params) B H (.ref 84) (.tuple [.int 3, .int 2, .int 1, .int 0]) := .tupK (xs := [.int 3, .int 2, .int 1, .int 0]) (by k_is) rfl rfl (by decide) (.cons ⟨_, rfl⟩ (.cons ⟨_, rfl⟩ (.cons ⟨_, rfl⟩ (.cons ⟨_, rfl⟩ (.nil))))) (.cons (.int _) (.cons (.int _) (.cons (.int _) (.cons (.int _) (.nil)))))
theorem rd_85 {w : World} {B : List Addr} {H : Hp} : Dr (hd08.heap_39 w.params) B H (.ref 85) (.tuple [.tuple [.int 0, .int 1, .int 2, .int 3], .tuple [.int 1, .int 0, .int 3, .int 2], .tuple [.int 2, .int 3, .int 0, .int 1], .tuple [.int 3, .int 2, .int 1, .int 0]]) := .tupK (xs := [.ref 81, .ref 82, .ref 83, .ref 84]) (by k_is) rfl rfl (by decide) (.cons rfl (.cons rfl (.cons rfl (.cons rfl (.nil))))) (.cons rd_81 (.cons rd_82 (.cons rd_83 (.cons rd_84 (.nil)))))
theorem rd_86 {w : World} {B : List Addr} {H : Hp} : Dr (hd08.heap_39 w.params) B H (.ref 86) (.tuple [.int 0, .int 1, .int 2, .int 3]) := .tupK (xs := [.int 0, .int 1, .int 2, .int 3]) (by k_is) rfl rfl (by decide) (.cons ⟨_, rfl⟩ (.cons ⟨_, rfl⟩ (.cons ⟨_, rfl⟩ (.cons ⟨_, rfl⟩ (.nil))))) (.cons (.int _) (.cons (.int _) (.cons (.int _) (.cons (.int _) (.nil)))))
theorem rd_87 {w : World} {B : List Addr} {H : Hp} : Dr (hd08.heap_39 w.params) B H (.ref 87) (.tuple [.int 1, .int 2, .int 3, .int 0]) := .tupK (xs := [.int 1, .int 2, .int 3, .int 0]) (by k_is) rfl rfl (by decide) (.cons ⟨_, rfl⟩ (.cons ⟨_, rfl⟩ (.cons ⟨_, rfl⟩ (.cons ⟨_, rfl⟩ (.nil))))) (.cons (.int _) (.cons (.int _) (.cons (.int _) (.cons (.int _) (.nil)))))
theorem rd_88 {w : World} {B : List Addr} {H : Hp} : Dr (hd08.heap_39 w.params) B H (.ref 88) (.tuple [.int 2, .int 3, .int 0, .int 1]) := .tupK (xs := [.int 2, .int 3, .int 0, .int 1]) (by k_is) rfl rfl (by decide) (.cons ⟨_, rfl⟩ (.cons ⟨_, rfl⟩ (.cons ⟨_, rfl⟩ (.cons ⟨_, rfl⟩ (.nil))))) (.cons (.int _) (.cons (.int _) (.cons (.int _) (.cons (.int _) (.nil)))))
theorem rd_89 {w : World} {B : List Addr} {H : Hp} : Dr (hd08.heap_39 w.params) B H (.ref 89) (.tuple [.int 3, .int 0, .int 1, .int 2]) := .tupK (xs := [.int 3, .int 0, .int 1, .int 2]) (by k_is) rfl rfl (by decide) (.cons ⟨_, rfl⟩ (.cons ⟨_, rfl⟩ (.cons ⟨_, rfl⟩ (.cons ⟨_, rfl⟩ (.nil))))) (.cons (.int _) (.cons (.int _) (.cons (.int _) (.cons (.int _) (.nil)))))
theorem rd_90 {w : World} {B : List Addr} {H : Hp} : Dr (hd08.heap_39 w.params) B H (.ref 90) (.tuple [.tuple [.int 0, .int 1, .int 2, .int 3], .tuple [.int 1, .int 2, .int 3, .int 0], .tuple [.int 2, .int 3, .int 0, .int 1], .tuple [.int 3, .int 0, .int 1, .int 2]]) := .tupK (xs := [.ref 86, .ref 87, .ref 88, .ref 89]) (by k_is) rfl rfl (by decide) (.cons rfl (.cons rfl (.cons rfl (.cons rfl (.nil))))) (.cons rd_86 (.cons rd_87 (.cons rd_88 (.cons rd_89 (.nil)))))
theorem kd_73 {w : World} : ∃ (es : Array DictEntry) (n : Nat), (hd08.heap_39 w.params).lookup 73 = some ⟨.type "dict", none, .dict es n, #[]⟩ ∧ PySem.W.KeysLit w.params es.toList := by
  have h : ∃ o, (hd08.heap_39 w.params).lookup 73 = some o ∧ ∃ (es : Array DictEntry) (n : Nat), o = ⟨.type "dict", none, .dict es n, #[]⟩ ∧ PySem.W.KeysLit w.params es.toList := by
    refine' ⟨_, ?a, ?b⟩
    case a => rfl
    case b => exact ⟨_, _, rfl, ⟨⟨_, _, rfl, rfl⟩, ⟨⟨_, _, rfl, rfl⟩, ⟨⟨_, _, rfl, rfl⟩, ⟨⟨_, _, rfl, rfl⟩, trivial⟩⟩⟩⟩⟩
  obtain ⟨o, h1, es, n, rfl, h2⟩ := h
  exact ⟨es, n, h1, h2⟩
def c_SUMS : M := .kdc 73 [("two", .tuple [.tuple [.int 0, .int 1], .tuple [.int 1, .int 0]]), ("three", .tuple [.tuple [.int 0, .int 1, .int 2], .tuple [.int 1, .int 2, .int 0], .tuple [.int 2, .int 0, .int 1]]), ("four", .tuple [.tuple [.int 0, .int 1, .int 2, .int 3], .tuple [.int 1, .int 0, .int 3, .int 2], .tuple [.int 2, .int 3, .int 0, .int 1], .tuple [.int 3, .int 2, .int 1, .int 0]]), ("ring", .tuple [.tuple [.int 0, .int 1, .int 2, .int 3], .tuple [.int 1, .int 2, .int 3, .int 0], .tuple [.int 2, .int 3, .int 0, .int 1], .tuple [.int 3, .int 0, .int 1, .int 2]])]
theorem rc_SUMS {w : World} {g : Cfg} (hw : w = g.w) (ph r : List Addr) (H : Hp) : Mv (hd08.heap_39 w.params) g ph r H c_SUMS (.ref 73) := by
  subst hw
  obtain ⟨es, n, h1, h2⟩ := kd_73 (w := g.w)
  refine ⟨rfl, fun z x q => ?_⟩
  rcases look_cons q with ⟨rfl, rfl⟩ | q
  · exact ⟨.ref 76, ⟨es, n, Value.ref 76, h1, h2, by k_is, rfl⟩, fun B H => rd_76⟩
  rcases look_cons q with ⟨rfl, rfl⟩ | q
  · exact ⟨.ref 80, ⟨es, n, Value.ref 80, h1, h2, by k_is, rfl⟩, fun B H => rd_80⟩
  rcases look_cons q with ⟨rfl, rfl⟩ | q
  · exact ⟨.ref 85, ⟨es, n, Value.ref 85, h1, h2, by k_is, rfl⟩, fun B H => rd_85⟩
  rcases look_cons q with ⟨rfl, rfl⟩ | q
  · exact ⟨.ref 90, ⟨es, n, Value.ref 90, h1, h2, by k_is, rfl⟩, fun B H => rd_90⟩
  cases q
theorem rd_92 {w : World} {B : List Addr} {H : Hp} : Dr (hd08.heap_39 w.params) B H (.ref 92) (.tuple [.int 0, .int 0]) := .tupK (xs := [.int 0, .int 0]) (by k_is) rfl rfl (by decide) (.cons ⟨_, rfl⟩ (.cons ⟨_, rfl⟩ (.nil))) (.cons (.int _) (.cons (.int _) (.nil)))
theorem rd_93 {w : World} {B : List Addr} {H : Hp} : Dr (hd08.heap_39 w.params) B H (.ref 93) (.tuple [.int 0, .int 1]) := .tupK (xs := [.int 0, .int 1]) (by k_is) rfl rfl (by decide) (.cons ⟨_, rfl⟩ (.cons ⟨_, rfl⟩ (.nil))) (.cons (.int _) (.cons (.int _) (.nil)))
theorem rd_94 {w : World} {B : List Addr} {H : Hp} : Dr (hd08.heap_39 w.params) B H (.ref 94) (.tuple [.tuple [.int 0, .int 0], .tuple [.int 0, .int 1]]) := .tupK (xs := [.ref 92, .ref 93]) (by k_is) rfl rfl (by decide) (.cons rfl (.cons rfl (.nil))) (.cons rd_92 (.cons rd_93 (.nil)))
theorem rd_95 {w : World} {B : List Addr} {H : Hp} : Dr (hd08.heap_39 w.params) B H (.ref 95) (.tuple [.int 0, .int 0, .int 0]) := .tupK (xs := [.int 0, .int 0, .int 0]) (by k_is) rfl rfl (by decide) (.cons ⟨_, rfl⟩ (.cons ⟨_, rfl⟩ (.cons ⟨_, rfl⟩ (.nil)))) (.cons (.int _) (.cons (.int _) (.cons (.int _) (.nil))))
theorem rd_96 {w : World} {B : List Addr} {H : Hp} : Dr (hd08.heap_39 w.params) B H (.ref 96) (.tuple [.int 0, .int 1, .int 2]) := .tupK (xs := [.int 0, .int 1, .int 2]) (by k_is) rfl rfl (by decide) (.cons ⟨_, rfl⟩ (.cons ⟨_, rfl⟩ (.cons ⟨_, rfl⟩ (.nil)))) (.cons (.int _) (.cons (.int _) (.cons (.int _) (.nil))))
theorem rd_97 {w : World} {B : List Addr} {H : Hp} : Dr (hd08.heap_39 w.params) B H (.ref 97) (.tuple [.int 0, .int 2, .int 1]) := .tupK (xs := [.int 0, .int 2, .int 1]) (by k_is) rfl rfl (by decide) (.cons ⟨_, rfl⟩ (.cons ⟨_, rfl⟩ (.cons ⟨_, rfl⟩ (.nil)))) (.cons (.int _) (.cons (.int _) (.cons (.int _) (.nil))))
theorem rd_98 {w : World} {B : List Addr} {H : Hp} : Dr (hd08.heap_39 w.params) B H (.ref 98) (.tuple [.tuple [.int 0, .int 0, .int 0], .tuple [.int 0, .int 1, .int 2], .tuple [.int 0, .int 2, .int 1]]) := .tupK (xs := [.ref 95, .ref 96, .ref 97]) (by k_is) rfl rfl (by decide) (.cons rfl (.cons rfl (.cons rfl (.nil)))) (.cons rd_95 (.cons rd_96 (.cons rd_97 (.nil))))
theorem rd_99 {w : World} {B : List Addr} {H : Hp} : Dr (hd08.heap_39 w.params) B H (.ref 99) (.tuple [.int 0, .int 0, .int 0, .int 0]) := .tupK (xs := [.int 0, .int 0, .int 0, .int 0]) (by k_is) rfl rfl (by decide) (.cons ⟨_, rfl⟩ (.cons ⟨_, rfl⟩ (.cons ⟨_, rfl⟩ (.cons ⟨_, rfl⟩ (.nil))))) (.cons (.int _) (.cons (.int _) (.cons (.int _) (.cons (.int _) (.nil)))))
theorem rd_100 {w : World} {B : List Addr} {H : Hp} : Dr (hd08.heap_39 w.params) B H (.ref 100) (.tuple [.int 0, .int 1, .int 2, .int 3]) := .tupK (xs := [.int 0, .int 1, .int 2, .int 3]) (by k_is) rfl rfl (by decide) (.cons ⟨_, rfl⟩ (.cons ⟨_, rfl⟩ (.cons ⟨_, rfl⟩ (.cons ⟨_, rfl⟩ (.nil))))) (.cons (.int _) (.cons (.int _) (.cons (.int _) (.cons (.int _) (.nil)))))
theorem rd_101 {w : World} {B : List Addr} {H : Hp} : Dr (hd08.heap_39 w.params) B H (.ref 101) (.tuple [.int 0, .int 2, .int 3, .int 1]) := .tupK (xs := [.int 0, .int 2, .int 3, .int 1]) (by k_is) rfl rfl (by decide) (.cons ⟨_, rfl⟩ (.cons ⟨_, rfl⟩ (.cons ⟨_, rfl⟩ (.cons ⟨_, rfl⟩ (.nil))))) (.cons (.int _) (.cons (.int _) (.cons (.int _) (.cons (.int _) (.nil)))))
theorem rd_102 {w : World} {B : List Addr} {H : Hp} : Dr (hd08.heap_39 w.params) B H (.ref 102) (.tuple [.int 0, .int 3, .int 1, .int 2]) := .tupK (xs := [.int 0, .int 3, .int 1, .int 2]) (by k_is) rfl rfl (by decide) (.cons ⟨_, rfl⟩ (.cons ⟨_, rfl⟩ (.cons ⟨_, rfl⟩ (.cons ⟨_, rfl⟩ (.nil))))) (.cons (.int _) (.cons (.int _) (.cons (.int _) (.cons (.int _) (.nil)))))
theorem rd_103 {w : World} {B : List Addr} {H : Hp} : Dr (hd08.heap_39 w.params) B H (.ref 103) (.tuple [.tuple [.int 0, .int 0, .int 0, .int 0], .tuple [.int 0, .int 1, .int 2, .int 3], .tuple [.int 0, .int 2, .int 3, .int 1], .tuple [.int 0, .int 3, .int 1, .int 2]]) := .tupK (xs := [.ref 99, .ref 100, .ref 101, .ref 102]) (by k_is) rfl rfl (by decide) (.cons rfl (.cons rfl (.cons rfl (.cons rfl (.nil))))) (.cons rd_99 (.cons rd_100 (.cons rd_101 (.cons rd_102 (.nil)))))
theorem rd_104 {w : World} {B : List Addr} {H : Hp} : Dr (hd08.heap_39 w.params) B H (.ref 104) (.tuple [.int 0, .int 0, .int 0, .int 0]) := .tupK (xs := [.int 0, .int 0, .int 0, .int 0]) (by k_is) rfl rfl (by decide) (.cons ⟨_, rfl⟩ (.cons ⟨_, rfl⟩ (.cons ⟨_, rfl⟩ (.cons ⟨_, rfl⟩ (.nil))))) (.cons (.int _) (.cons (.int _) (.cons (.int _) (.cons (.int _) (.nil)))))
theorem rd_105 {w : World} {B : List Addr} {H : Hp} : Dr (hd08.heap_39 w.params) B H (.ref 105) (.tuple [.int 0, .int 1, .int 2, .int 3]) := .tupK (xs := [.int 0, .int 1, .int 2, .int 3]) (by k_is) rfl rfl (by decide) (.cons ⟨_, rfl⟩ (.cons ⟨_, rfl⟩ (.cons ⟨_, rfl⟩ (.cons ⟨_, rfl⟩ (.nil))))) (.cons (.int _) (.cons (.int _) (.cons (.int _) (.cons (.int _) (.nil)))))
theorem rd_106 {w : World} {B : List Addr} {H : Hp} : Dr (hd08.heap_39 w.params) B H (.ref 106) (.tuple [.int 0, .int 2, .int 0, .int 2]) := .tupK (xs := [.int 0, .int 2, .int 0, .int 2]) (by k_is) rfl rfl (by decide) (.cons ⟨_, rfl⟩ (.cons ⟨_, rfl⟩ (.cons ⟨_, rfl⟩ (.cons ⟨_, rfl⟩ (.nil))))) (.cons (.int _) (.cons (.int _) (.cons (.int _) (.cons (.int _) (.nil)))))
theorem rd_107 {w : World} {B : List Addr} {H : Hp} : Dr (hd08.heap_39 w.params) B H (.ref 107) (.tuple [.int 0, .int 3, .int 2, .int 1]) := .tupK (xs := [.int 0, .int 3, .int 2, .int 1]) (by k_is) rfl rfl (by decide) (.cons ⟨_, rfl⟩ (.cons ⟨_, rfl⟩ (.cons ⟨_, rfl⟩ (.cons ⟨_, rfl⟩ (.nil))))) (.cons (.int _) (.cons (.int _) (.cons (.int _) (.cons (.int _) (.nil)))))
theorem rd_108 {w : World} {B : List Addr} {H : Hp} : Dr (hd08.heap_39 w.params) B H (.ref 108) (.tuple [.tuple [.int 0, .int 0, .int 0, .int 0], .tuple [.int 0, .int 1, .int 2, .int 3], .tuple [.int 0, .int 2, .int 0, .int 2], .tuple [.int 0, .int 3, .int 2, .int 1]]) := .tupK (xs := [.ref 104, .ref 105, .ref 106, .ref 107]) (by k_is) rfl rfl (by decide) (.cons rfl (.cons rfl (.cons rfl (.cons rfl (.nil))))) (.cons rd_104 (.cons rd_105 (.cons rd_106 (.cons rd_107 (.nil)))))
theorem kd_91 {w : World} : ∃ (es : Array DictEntry) (n : Nat), (hd08.heap_39 w.params).lookup 91 = some ⟨.type "dict", none, .dict es n, #[]⟩ ∧ PySem.W.KeysLit w.params es.toList := by
  have h : ∃ o, (hd08.heap_39 w.params).lookup 91 = some o ∧ ∃ (es : Array DictEntry) (n : Nat), o = ⟨.type "dict", none, .dict es n, #[]⟩ ∧ PySem.W.KeysLit w.params es.toList := by
    refine' ⟨_, ?a, ?b⟩
    case a => rfl
    case b => exact ⟨_, _, rfl, ⟨⟨_, _, rfl, rfl⟩, ⟨⟨_, _, rfl, rfl⟩, ⟨⟨_, _, rfl, rfl⟩, ⟨⟨_, _, rfl, rfl⟩, trivial⟩⟩⟩⟩⟩
  obtain ⟨o, h1, es, n, rfl, h2⟩ := h
  exact ⟨es, n, h1, h2⟩
def c_PRODUCTS : M := .kdc 91 [("two", .tuple [.tuple [.int 0, .int 0], .tuple [.int 0, .int 1]]), ("three", .tuple [.tuple [.int 0, .int 0, .int 0], .tuple [.int 0, .int 1, .int 2], .tuple [.int 0, .int 2, .int 1]]), ("four", .tuple [.tuple [.int 0, .int 0, .int 0, .int 0], .tuple [.int 0, .int 1, .int 2, .int 3], .tuple [.int 0, .int 2, .int 3, .int 1], .tuple [.int 0, .int 3, .int 1, .int 2]]), ("ring", .tuple [.tuple [.int 0, .int 0, .int 0, .int 0], .tuple [.int 0, .int 1, .int 2, .int 3], .tuple [.int 0, .int 2, .int 0, .int 2], .tuple [.int 0, .int 3, .int 2, .int 1]])]
theorem rc_PRODUCTS {w : World} {g : Cfg} (hw : w = g.w) (ph r : List Addr) (H : Hp) : Mv (hd08.heap_39 w.params) g ph r H c_PRODUCTS (.ref 91) := by
  subst hw
  obtain ⟨es, n, h1, h2⟩ := kd_91 (w := g.w)
  refine ⟨rfl, fun z x q => ?_⟩
  rcases look_cons q with ⟨rfl, rfl⟩ | q
  · exact ⟨.ref 94, ⟨es, n, Value.ref 94, h1, h2, by k_is, rfl⟩, fun B H => rd_94⟩
  rcases look_cons q with ⟨rfl, rfl⟩ | q
  · exact ⟨.ref 98, ⟨es, n, Value.ref 98, h1, h2, by k_is, rfl⟩, fun B H => rd_98⟩
  rcases look_cons q with ⟨rfl, rfl⟩ | q
  · exact ⟨.ref 103, ⟨es, n, Value.ref 103, h1, h2, by k_is, rfl⟩, fun B H => rd_103⟩
  rcases look_cons q with ⟨rfl, rfl⟩ | q
  · exact ⟨.ref 108, ⟨es, n, Value.ref 108, h1, h2, by k_is, rfl⟩, fun B H => rd_108⟩
  cases q
theorem rd_110 {w : World} {B : List Addr} {H : Hp} : Dr (hd08.heap_39 w.params) B H (.ref 110) (.tuple [.int 0, .int 1]) := .tupK (xs := [.int 0, .int 1]) (by k_is) rfl rfl (by decide) (.cons ⟨_, rfl⟩ (.cons ⟨_, rfl⟩ (.nil))) (.cons (.int _) (.cons (.int _) (.nil)))
theorem rd_111 {w : World} {B : List Addr} {H : Hp} : Dr (hd08.heap_39 w.params) B H (.ref 111) (.tuple [.int 0, .int 1, .int 2]) := .tupK (xs := [.int 0, .int 1, .int 2]) (by k_is) rfl rfl (by decide) (.cons ⟨_, rfl⟩ (.cons ⟨_, rfl⟩ (.cons ⟨_, rfl⟩ (.nil)))) (.cons (.int _) (.cons (.int _) (.cons (.int _) (.nil))))
theorem rd_112 {w : World} {B : List Addr} {H : Hp} : Dr (hd08.heap_39 w.params) B H (.ref 112) (.tuple [.int 0, .int 1, .int 3, .int 2]) := .tupK (xs := [.int 0, .int 1, .int 3, .int 2]) (by k_is) rfl rfl (by decide) (.cons ⟨_, rfl⟩ (.cons ⟨_, rfl⟩ (.cons ⟨_, rfl⟩ (.cons ⟨_, rfl⟩ (.nil))))) (.cons (.int _) (.cons (.int _) (.cons (.int _) (.cons (.int _) (.nil)))))
theorem rd_113 {w : World} {B : List Addr} {H : Hp} : Dr (hd08.heap_39 w.params) B H (.ref 113) (.tuple [.int 0, .int 1, .int 2, .int 3]) := .tupK (xs := [.int 0, .int 1, .int 2, .int 3]) (by k_is) rfl rfl (by decide) (.cons ⟨_, rfl⟩ (.cons ⟨_, rfl⟩ (.cons ⟨_, rfl⟩ (.cons ⟨_, rfl⟩ (.nil))))) (.cons (.int _) (.cons (.int _) (.cons (.int _) (.cons (.int _) (.nil)))))
theorem kd_109 {w : World} : ∃ (es : Array DictEntry) (n : Nat), (hd08.heap_39 w.params).lookup 109 = some ⟨.type "dict", none, .dict es n, #[]⟩ ∧ PySem.W.KeysLit w.params es.toList := by
  have h : ∃ o, (hd08.heap_39 w.params).lookup 109 = some o ∧ ∃ (es : Array DictEntry) (n : Nat), o = ⟨.type "dict", none, .dict es n, #[]⟩ ∧ PySem.W.KeysLit w.params es.toList := by
    refine' ⟨_, ?a, ?b⟩
    case a => rfl
    case b => exact ⟨_, _, rfl, ⟨⟨_, _, rfl, rfl⟩, ⟨⟨_, _, rfl, rfl⟩, ⟨⟨_, _, rfl, rfl⟩, ⟨⟨_, _, rfl, rfl⟩, trivial⟩⟩⟩⟩⟩
  obtain ⟨o, h1, es, n, rfl, h2⟩ := h
  exact ⟨es, n, h1, h2⟩
def c_TURNED : M := .kdc 109 [("two", .tuple [.int 0, .int 1]), ("three", .tuple [.int 0, .int 1, .int 2]), ("four", .tuple [.int 0, .int 1, .int 3, .int 2]), ("ring", .tuple [.int 0, .int 1, .int 2, .int 3])]
theorem rc_TURNED {w : World} {g : Cfg} (hw : w = g.w) (ph r : List Addr) (H : Hp) : Mv (hd08.heap_39 w.params) g ph r H c_TURNED (.ref 109) := by
  subst hw
  obtain ⟨es, n, h1, h2⟩ := kd_109 (w := g.w)
  refine ⟨rfl, fun z x q => ?_⟩
  rcases look_cons q with ⟨rfl, rfl⟩ | q
  · exact ⟨.ref 110, ⟨es, n, Value.ref 110, h1, h2, by k_is, rfl⟩, fun B H => rd_110⟩
  rcases look_cons q with ⟨rfl, rfl⟩ | q
  · exact ⟨.ref 111, ⟨es, n, Value.ref 111, h1, h2, by k_is, rfl⟩, fun B H => rd_111⟩
  rcases look_cons q with ⟨rfl, rfl⟩ | q
  · exact ⟨.ref 112, ⟨es, n, Value.ref 112, h1, h2, by k_is, rfl⟩, fun B H => rd_112⟩
  rcases look_cons q with ⟨rfl, rfl⟩ | q
  · exact ⟨.ref 113, ⟨es, n, Value.ref 113, h1, h2, by k_is, rfl⟩, fun B H => rd_113⟩
  cases q
theorem rd_115 {w : World} {B : List Addr} {H : Hp} : Dr (hd08.heap_39 w.params) B H (.ref 115) (.tuple [.int 1, .int 1]) := .tupK (xs := [.int 1, .int 1]) (by k_is) rfl rfl (by decide) (.cons ⟨_, rfl⟩ (.cons ⟨_, rfl⟩ (.nil))) (.cons (.int _) (.cons (.int _) (.nil)))
theorem rd_116 {w : World} {B : List Addr} {H : Hp} : Dr (hd08.heap_39 w.params) B H (.ref 116) (.tuple [.int 1, .int 1, .int 2]) := .tupK (xs := [.int 1, .int 1, .int 2]) (by k_is) rfl rfl (by decide) (.cons ⟨_, rfl⟩ (.cons ⟨_, rfl⟩ (.cons ⟨_, rfl⟩ (.nil)))) (.cons (.int _) (.cons (.int _) (.cons (.int _) (.nil))))
theorem rd_117 {w : World} {B : List Addr} {H : Hp} : Dr (hd08.heap_39 w.params) B H (.ref 117) (.tuple [.int 1, .int 1, .int 3, .int 2]) := .tupK (xs := [.int 1, .int 1, .int 3, .int 2]) (by k_is) rfl rfl (by decide) (.cons ⟨_, rfl⟩ (.cons ⟨_, rfl⟩ (.cons ⟨_, rfl⟩ (.cons ⟨_, rfl⟩ (.nil))))) (.cons (.int _) (.cons (.int _) (.cons (.int _) (.cons (.int _) (.nil)))))
theorem rd_118 {w : World} {B : List Addr} {H : Hp} : Dr (hd08.heap_39 w.params) B H (.ref 118) (.tuple [.int 1, .int 1, .int 1, .int 3]) := .tupK (xs := [.int 1, .int 1, .int 1, .int 3]) (by k_is) rfl rfl (by decide) (.cons ⟨_, rfl⟩ (.cons ⟨_, rfl⟩ (.cons ⟨_, rfl⟩ (.cons ⟨_, rfl⟩ (.nil))))) (.cons (.int _) (.cons (.int _) (.cons (.int _) (.cons (.int _) (.nil)))))
theorem kd_114 {w : World} : ∃ (es : Array DictEntry) (n : Nat), (hd08.heap_39 w.params).lookup 114 = some ⟨.type "dict", none, .dict es n, #[]⟩ ∧ PySem.W.KeysLit w.params es.toList := by
  have h : ∃ o, (hd08.heap_39 w.params).lookup 114 = some o ∧ ∃ (es : Array DictEntry) (n : Nat), o = ⟨.type "dict", none, .dict es n, #[]⟩ ∧ PySem.W.KeysLit w.params es.toList := by
    refine' ⟨_, ?a, ?b⟩
    case a => rfl
    case b => exact ⟨_, _, rfl, ⟨⟨_, _, rfl, rfl⟩, ⟨⟨_, _, rfl, rfl⟩, ⟨⟨_, _, rfl, rfl⟩, ⟨⟨_, _, rfl, rfl⟩, trivial⟩⟩⟩⟩⟩
  obtain ⟨o, h1, es, n, rfl, h2⟩ := h
  exact ⟨es, n, h1, h2⟩
def c_LEVELLERS : M := .kdc 114 [("two", .tuple [.int 1, .int 1]), ("three", .tuple [.int 1, .int 1, .int 2]), ("four", .tuple [.int 1, .int 1, .int 3, .int 2]), ("ring", .tuple [.int 1, .int 1, .int 1, .int 3])]
theorem rc_LEVELLERS {w : World} {g : Cfg} (hw : w = g.w) (ph r : List Addr) (H : Hp) : Mv (hd08.heap_39 w.params) g ph r H c_LEVELLERS (.ref 114) := by
  subst hw
  obtain ⟨es, n, h1, h2⟩ := kd_114 (w := g.w)
  refine ⟨rfl, fun z x q => ?_⟩
  rcases look_cons q with ⟨rfl, rfl⟩ | q
  · exact ⟨.ref 115, ⟨es, n, Value.ref 115, h1, h2, by k_is, rfl⟩, fun B H => rd_115⟩
  rcases look_cons q with ⟨rfl, rfl⟩ | q
  · exact ⟨.ref 116, ⟨es, n, Value.ref 116, h1, h2, by k_is, rfl⟩, fun B H => rd_116⟩
  rcases look_cons q with ⟨rfl, rfl⟩ | q
  · exact ⟨.ref 117, ⟨es, n, Value.ref 117, h1, h2, by k_is, rfl⟩, fun B H => rd_117⟩
  rcases look_cons q with ⟨rfl, rfl⟩ | q
  · exact ⟨.ref 118, ⟨es, n, Value.ref 118, h1, h2, by k_is, rfl⟩, fun B H => rd_118⟩
  cases q
end K08

end
section
set_option maxRecDepth 100000
set_option maxHeartbeats 0
namespace K08
open PySem PySem.Spec L2 Mr
open PyProof.Rows hiding St
def m_is_integer : Env1 → Sto → Out :=
  (sRet (eAndM (ePrim pIsi (aC (eV 0) (aC (eC (.ty "int")) aN))) (eNotM (ePrim pIsi (aC (eV 0) (aC (eC (.ty "bool")) aN))))))
def f_is_integer : List M → Sto → R M := fnM 1 m_is_integer
theorem ok_is_integer {w : World} {mg : Str → Option Value} {base : Heap} {g : Cfg} (m : Md w (hd08.heap_39 w.params) mg base g clf) : Dn false PP w (hd08.heap_39 w.params) mg base g 1 "is_integer" s_is_integer ["thing"] f_is_integer := by
  obtain ⟨fd, F⟩ := d_is_integer (w := w)
  refine dn_mk m F a_is_integer sc_is_integer (fun _ _ _ _ _ _ us hl => match us, hl with | [_], _ => rfl) fun cdv A fr s H E hr hG => ?_
  exact (mss_one (ms_ret (me_andc (me_callB call_isi s_isi (m.no n_isinstance) rfl (ma_cons (me_var 0) (ma_cons (me_ty "int" (m.no n_int) rfl) ma_nil))) (me_one (me_not (me_callB call_isi s_isi (m.no n_isinstance) rfl (ma_cons (me_var 0) (ma_cons (me_ty "bool" (m.no n_bool) rfl) ma_nil))))))))
def m_is_kind : Env1 → Sto → Out :=
  (sRet (eAndM (ePrim pIsi (aC (eV 0) (aC (eC (.ty "str")) aN))) (e2 opIn (eV 0) (eC c_KINDS))))
def f_is_kind : List M → Sto → R M := fnM 1 m_is_kind
theorem ok_is_kind {w : World} {mg : Str → Option Value} {base : Heap} {g : Cfg} (m : Md w (hd08.heap_39 w.params) mg base g clf) : Dn false PP w (hd08.heap_39 w.params) mg base g 1 "is_kind" s_is_kind ["thing"] f_is_kind := by
  obtain ⟨fd, F⟩ := d_is_kind (w := w)
  refine dn_mk m F a_is_kind sc_is_kind (fun _ _ _ _ _ _ us hl => match us, hl with | [_], _ => rfl) fun cdv A fr s H E hr hG => ?_
  exact (mss_one (ms_ret (me_andc (me_callB call_isi s_isi (m.no n_isinstance) rfl (ma_cons (me_var 0) (ma_cons (me_ty "str" (m.no n_str) rfl) ma_nil))) (me_one (me_cmp op_in_seq (s_inG false) (me_var 0) (me_glob (v := .ref 66) rfl (m.at_ g_KINDS) rfl rc_KINDS))))))
def m_check_kind : Env1 → Sto → Out :=
  (sIf (tNotM (tB (eCall f_is_kind (aC (eV 0) aN)))) (sRaise 1 "thing" (eV 0)) sNx)
def f_check_kind : List M → Sto → R M := fnM 1 m_check_kind
theorem ok_check_kind {w : World} {mg : Str → Option Value} {base : Heap} {g : Cfg} (m : Md w (hd08.heap_39 w.params) mg base g clf) : Dn false PP w (hd08.heap_39 w.params) mg base g 2 "check_kind" s_check_kind ["kind"] f_check_kind := by
  obtain ⟨fd, F⟩ := d_check_kind (w := w)
  refine dn_mk m F a_check_kind sc_check_kind (fun _ _ _ _ _ _ us hl => match us, hl with | [_], _ => rfl) fun cdv A fr s H E hr hG => ?_
  exact (mss_one (ms_if (mt_not (mt_val (me_callD (ok_is_kind m) hr (by omega) (fun z => nomatch z) (takes_of rfl rfl rfl rfl) (ma_cons (me_var 0) ma_nil) rfl (aC_len aN_len)))) (mss_one (ms_raise rfl (takes_of rfl rfl rfl rfl) (et_BadKind m) hr (me_var 0))) mss_nil))
def m_is_mark : Env1 → Sto → Out :=
  (sRet (eAndM (eCall f_is_integer (aC (eV 1) aN)) (eChain opLe opLt (eC (.d (.int 0))) (eV 1) (e2 opIx (eC c_SIZES) (eV 0)))))
def f_is_mark : List M → Sto → R M := fnM 2 m_is_mark
theorem ok_is_mark {w : World} {mg : Str → Option Value} {base : Heap} {g : Cfg} (m : Md w (hd08.heap_39 w.params) mg base g clf) : Dn false PP w (hd08.heap_39 w.params) mg base g 2 "is_mark" s_is_mark ["kind", "thing"] f_is_mark := by
  obtain ⟨fd, F⟩ := d_is_mark (w := w)
  refine dn_mk m F a_is_mark sc_is_mark (fun _ _ _ _ _ _ us hl => match us, hl with | [_, _], _ => rfl) fun cdv A fr s H E hr hG => ?_
  exact (mss_one (ms_ret (me_andc (me_callD (ok_is_integer m) hr (by omega) (fun z => nomatch z) (takes_of rfl rfl rfl rfl) (ma_cons (me_var 1) ma_nil) rfl (aC_len aN_len)) (me_one (me_chain op_le op_lt s_le s_lt me_int (me_var 1) (me_ix (hu_of hr) m.gw (me_glob (v := .ref 67) rfl (m.at_ g_SIZES) rfl (rc_SIZES m.gw)) (me_var 0)))))))
def m_check_mark : Env1 → Sto → Out :=
  (sIf (tNotM (tB (eCall f_is_mark (aC (eV 0) (aC (eV 1) aN))))) (sRaise 2 "thing" (eV 1)) sNx)
def f_check_mark : List M → Sto → R M := fnM 2 m_check_mark
theorem ok_check_mark {w : World} {mg : Str → Option Value} {base : Heap} {g : Cfg} (m : Md w (hd08.heap_39 w.params) mg base g clf) : Dn false PP w (hd08.heap_39 w.params) mg base g 3 "check_mark" s_check_mark ["kind", "thing"] f_check_mark := by
  obtain ⟨fd, F⟩ := d_check_mark (w := w)
  refine dn_mk m F a_check_mark sc_check_mark (fun _ _ _ _ _ _ us hl => match us, hl with | [_, _], _ => rfl) fun cdv A fr s H E hr hG => ?_
  exact (mss_one (ms_if (mt_not (mt_val (me_callD (ok_is_mark m) hr (by omega) (fun z => nomatch z) (takes_of rfl rfl rfl rfl) (ma_cons (me_var 0) (ma_cons (me_var 1) ma_nil)) rfl (aC_len (aC_len aN_len))))) (mss_one (ms_raise rfl (takes_of rfl rfl rfl rfl) (et_BadMark m) hr (me_var 1))) mss_nil))
def m_size_of : Env1 → Sto → Out :=
  (sSeq (sExpr (eCall f_check_kind (aC (eV 0) aN)))
    (sRet (e2 opIx (eC c_SIZES) (eV 0))))
def f_size_of : List M → Sto → R M := fnM 1 m_size_of
theorem ok_size_of {w : World} {mg : Str → Option Value} {base : Heap} {g : Cfg} (m : Md w (hd08.heap_39 w.params) mg base g clf) : Dn false PP w (hd08.heap_39 w.params) mg base g 3 "size_of" s_size_of ["kind"] f_size_of := by
  obtain ⟨fd, F⟩ := d_size_of (w := w)
  refine dn_mk m F a_size_of sc_size_of (fun _ _ _ _ _ _ us hl => match us, hl with | [_], _ => rfl) fun cdv A fr s H E hr hG => ?_
  exact (mss_cons (ms_expr (me_callD (ok_check_kind m) hr (by omega) (fun z => nomatch z) (takes_of rfl rfl rfl rfl) (ma_cons (me_var 0) ma_nil) rfl (aC_len aN_len)))
    (mss_one (ms_ret (me_ix (hu_of hr) m.gw (me_glob (v := .ref 67) rfl (m.at_ g_SIZES) rfl (rc_SIZES m.gw)) (me_var 0)))))
def m_units_of : Env1 → Sto → Out :=
  (sSeq (sExpr (eCall f_check_kind (aC (eV 0) aN)))
    (sRet (e2 opIx (eC c_UNITS) (eV 0))))
def f_units_of : List M → Sto → R M := fnM 1 m_units_of
theorem ok_units_of {w : World} {mg : Str → Option Value} {base : Heap} {g : Cfg} (m : Md w (hd08.heap_39 w.params) mg base g clf) : Dn false PP w (hd08.heap_39 w.params) mg base g 3 "units_of" s_units_of ["kind"] f_units_of := by
  obtain ⟨fd, F⟩ := d_units_of (w := w)
  refine dn_mk m F a_units_of sc_units_of (fun _ _ _ _ _ _ us hl => match us, hl with | [_], _ => rfl) fun cdv A fr s H E hr hG => ?_
  exact (mss_cons (ms_expr (me_callD (ok_check_kind m) hr (by omega) (fun z => nomatch z) (takes_of rfl rfl rfl rfl) (ma_cons (me_var 0) ma_nil) rfl (aC_len aN_len)))
    (mss_one (ms_ret (me_ix (hu_of hr) m.gw (me_glob (v := .ref 68) rfl (m.at_ g_UNITS) rfl (rc_UNITS m.gw)) (me_var 0)))))
def m_sum_of : Env1 → Sto → Out :=
  (sSeq (sExpr (eCall f_check_kind (aC (eV 0) aN)))
    (sSeq (sExpr (eCall f_check_mark (aC (eV 0) (aC (eV 1) aN))))
    (sSeq (sExpr (eCall f_check_mark (aC (eV 0) (aC (eV 2) aN))))
    (sRet (e2 opIx (e2 opIx (e2 opIx (eC c_SUMS) (eV 0)) (eV 1)) (eV 2))))))
def f_sum_of : List M → Sto → R M := fnM 3 m_sum_of
theorem ok_sum_of {w : World} {mg : Str → Option Value} {base : Heap} {g : Cfg} (m : Md w (hd08.heap_39 w.params) mg base g clf) : Dn false PP w (hd08.heap_39 w.params) mg base g 4 "sum_of" s_sum_of ["kind", "one", "other"] f_sum_of := by
  obtain ⟨fd, F⟩ := d_sum_of (w := w)
  refine dn_mk m F a_sum_of sc_sum_of (fun _ _ _ _ _ _ us hl => match us, hl with | [_, _, _], _ => rfl) fun cdv A fr s H E hr hG => ?_
  exact (mss_cons (ms_expr (me_callD (ok_check_kind m) hr (by omega) (fun z => nomatch z) (takes_of rfl rfl rfl rfl) (ma_cons (me_var 0) ma_nil) rfl (aC_len aN_len)))
    (mss_cons (ms_expr (me_callD (ok_check_mark m) hr (by omega) (fun z => nomatch z) (takes_of rfl rfl rfl rfl) (ma_cons (me_var 0) (ma_cons (me_var 1) ma_nil)) rfl (aC_len (aC_len aN_len))))
    (mss_cons (ms_expr (me_callD (ok_check_mark m) hr (by omega) (fun z => nomatch z) (takes_of rfl rfl rfl rfl) (ma_cons (me_var 0) (ma_cons (me_var 2) ma_nil)) rfl (aC_len (aC_len aN_len))))
    (mss_one (ms_ret (me_ix (hu_of hr) m.gw (me_ix (hu_of hr) m.gw (me_ix (hu_of hr) m.gw (me_glob (v := .ref 73) rfl (m.at_ g_SUMS) rfl (rc_SUMS m.gw)) (me_var 0)) (me_var 1)) (me_var 2)))))))
def m_product_of : Env1 → Sto → Out :=
  (sSeq (sExpr (eCall f_check_kind (aC (eV 0) aN)))
    (sSeq (sExpr (eCall f_check_mark (aC (eV 0) (aC (eV 1) aN))))
    (sSeq (sExpr (eCall f_check_mark (aC (eV 0) (aC (eV 2) aN))))
    (sRet (e2 opIx (e2 opIx (e2 opIx (eC c_PRODUCTS) (eV 0)) (eV 1)) (eV 2))))))
def f_product_of : List M → Sto → R M := fnM 3 m_product_of
theorem ok_product_of {w : World} {mg : Str → Option Value} {base : Heap} {g : Cfg} (m : Md w (hd08.heap_39 w.params) mg base g clf) : Dn false PP w (hd08.heap_39 w.params) mg base g 4 "product_of" s_product_of ["kind", "one", "other"] f_product_of := by
  obtain ⟨fd, F⟩ := d_product_of (w := w)
  refine dn_mk m F a_product_of sc_product_of (fun _ _ _ _ _ _ us hl => match us, hl with | [_, _, _], _ => rfl) fun cdv A fr s H E hr hG => ?_
  exact (mss_cons (ms_expr (me_callD (ok_check_kind m) hr (by omega) (fun z => nomatch z) (takes_of rfl rfl rfl rfl) (ma_cons (me_var 0) ma_nil) rfl (aC_len aN_len)))
    (mss_cons (ms_expr (me_callD (ok_check_mark m) hr (by omega) (fun z => nomatch z) (takes_of rfl rfl rfl rfl) (ma_cons (me_var 0) (ma_cons (me_var 1) ma_nil)) rfl (aC_len (aC_len aN_len))))
    (mss_cons (ms_expr (me_callD (ok_check_mark m) hr (by omega) (fun z => nomatch z) (takes_of rfl rfl rfl rfl) (ma_cons (me_var 0) (ma_cons (me_var 2) ma_nil)) rfl (aC_len (aC_len aN_len))))
    (mss_one (ms_ret (me_ix (hu_of hr) m.gw (me_ix (hu_of hr) m.gw (me_ix (hu_of hr) m.gw (me_glob (v := .ref 91) rfl (m.at_ g_PRODUCTS) rfl (rc_PRODUCTS m.gw)) (me_var 0)) (me_var 1)) (me_var 2)))))))
def m_turned_mark : Env1 → Sto → Out :=
  (sSeq (sExpr (eCall f_check_kind (aC (eV 0) aN)))
    (sSeq (sExpr (eCall f_check_mark (aC (eV 0) (aC (eV 1) aN))))
    (sRet (e2 opIx (e2 opIx (eC c_TURNED) (eV 0)) (eV 1)))))
def f_turned_mark : List M → Sto → R M := fnM 2 m_turned_mark
theorem ok_turned_mark {w : World} {mg : Str → Option Value} {base : Heap} {g : Cfg} (m : Md w (hd08.heap_39 w.params) mg base g clf) : Dn false PP w (hd08.heap_39 w.params) mg base g 4 "turned_mark" s_turned_mark ["kind", "mark"] f_turned_mark := by
  obtain ⟨fd, F⟩ := d_turned_mark (w := w)
  refine dn_mk m F a_turned_mark sc_turned_mark (fun _ _ _ _ _ _ us hl => match us, hl with | [_, _], _ => rfl) fun cdv A fr s H E hr hG => ?_
  exact (mss_cons (ms_expr (me_callD (ok_check_kind m) hr (by omega) (fun z => nomatch z) (takes_of rfl rfl rfl rfl) (ma_cons (me_var 0) ma_nil) rfl (aC_len aN_len)))
    (mss_cons (ms_expr (me_callD (ok_check_mark m) hr (by omega) (fun z => nomatch z) (takes_of rfl rfl rfl rfl) (ma_cons (me_var 0) (ma_cons (me_var 1) ma_nil)) rfl (aC_len (aC_len aN_len))))
    (mss_one (ms_ret (me_ix (hu_of hr) m.gw (me_ix (hu_of hr) m.gw (me_glob (v := .ref 109) rfl (m.at_ g_TURNED) rfl (rc_TURNED m.gw)) (me_var 0)) (me_var 1))))))
def m_inverse_of : Env1 → Sto → Out :=
  (sSeq (sExpr (eCall f_check_kind (aC (eV 0) aN)))
    (sSeq (sExpr (eCall f_check_mark (aC (eV 0) (aC (eV 1) aN))))
    (sSeq (sIf (tB (e2 opNotIn (eV 1) (e2 opIx (eC c_UNITS) (eV 0)))) (sRaise 2 "thing" (eV 1)) sNx)
    (sRet (e2 opIx (e2 opIx (eC c_LEVELLERS) (eV 0)) (eV 1))))))
def f_inverse_of : List M → Sto → R M := fnM 2 m_inverse_of
theorem ok_inverse_of {w : World} {mg : Str → Option Value} {base : Heap} {g : Cfg} (m : Md w (hd08.heap_39 w.params) mg base g clf) : Dn false PP w (hd08.heap_39 w.params) mg base g 4 "inverse_of" s_inverse_of ["kind", "mark"] f_inverse_of := by
  obtain ⟨fd, F⟩ := d_inverse_of (w := w)
  refine dn_mk m F a_inverse_of sc_inverse_of (fun _ _ _ _ _ _ us hl => match us, hl with | [_, _], _ => rfl) fun cdv A fr s H E hr hG => ?_
  exact (mss_cons (ms_expr (me_callD (ok_check_kind m) hr (by omega) (fun z => nomatch z) (takes_of rfl rfl rfl rfl) (ma_cons (me_var 0) ma_nil) rfl (aC_len aN_len)))
    (mss_cons (ms_expr (me_callD (ok_check_mark m) hr (by omega) (fun z => nomatch z) (takes_of rfl rfl rfl rfl) (ma_cons (me_var 0) (ma_cons (me_var 1) ma_nil)) rfl (aC_len (aC_len aN_len))))
    (mss_cons (ms_if (mt_cmp op_notIn_seq (s_inG true) (me_var 1) (me_ix (hu_of hr) m.gw (me_glob (v := .ref 68) rfl (m.at_ g_UNITS) rfl (rc_UNITS m.gw)) (me_var 0))) (mss_one (ms_raise rfl (takes_of rfl rfl rfl rfl) (et_BadMark m) hr (me_var 1))) mss_nil)
    (mss_one (ms_ret (me_ix (hu_of hr) m.gw (me_ix (hu_of hr) m.gw (me_glob (v := .ref 114) rfl (m.at_ g_LEVELLERS) rfl (rc_LEVELLERS m.gw)) (me_var 0)) (me_var 1)))))))
def m__law_deck : Env1 → Sto → Out :=
  (sSeq (sSet 1 (eC (.d (.int 10885815))))
    (sSeq (sFor (iSeq (eSl (eV 0) oN (oS (eC (.d (.int 63)))))) (tgN 2) (sSet 1 (e2 opMod (ePrim pInt (aC (e2 opAdd (e2 opAdd (e2 opMul (eV 1) (eC (.d (.int 48271)))) (e2 opMod (ePrim pInt (aC (eV 2) aN)) (eC (.d (.int 2147483629))))) (eC (.d (.int 69)))) aN)) (eC (.d (.int 2147483587))))))
    (sRet (eDicO (((eC (.d (.str "cells"))), (eRevO (ePrim pList (aC (eSl (eV 0) oN (oS (eC (.d (.int 63))))) aN)))) :: (((eC (.d (.str "mixed"))), (eV 1)) :: (((eC (.d (.str "draws"))), (eC (.d (.int 0)))) :: [])))))))
def f__law_deck : List M → Sto → R M := fnM 3 m__law_deck
theorem ok__law_deck {w : World} {mg : Str → Option Value} {base : Heap} {g : Cfg} (m : Md w (hd08.heap_39 w.params) mg base g clf) : Dn true PP w (hd08.heap_39 w.params) mg base g 1 "_law_deck" s__law_deck ["_law_script"] f__law_deck := by
  obtain ⟨fd, F⟩ := d__law_deck (w := w)
  refine dn_mk m F a__law_deck sc__law_deck (fun _ _ _ _ _ _ us hl => match us, hl with | [_], _ => rfl) fun cdv A fr s H E hr hG => ?_
  exact (mss_cons (ms_set 1 sc__law_deck.nd me_int)
    (mss_cons (ms_for (passes_of rfl) rfl (mi_seq (me_sl (me_var 0) mo_none (mo_some me_int))) (mg_name (vs := [2]) 2 sc__law_deck.nd) (mss_one (ms_set 1 sc__law_deck.nd (me_op op_modN s_mod (me_callT call_int1 s_pint (m.no n_int) rfl (ma_cons (me_op o_add s_add (me_op o_add s_add (me_op o_mul s_mul (me_var 1) me_int) (me_op op_modN s_mod (me_callT call_int1 s_pint (m.no n_int) rfl (ma_cons (me_var 2) ma_nil)) me_int)) me_int) ma_nil)) me_int))))
    (mss_one (ms_ret (me_dicO (mp_cons me_str (me_revO (me_callT call_list_of s_list (m.no n_list) rfl (ma_cons (me_sl (me_var 0) mo_none (mo_some me_int)) ma_nil))) (mp_cons me_str (me_var 1) (mp_cons me_str me_int mp_nil))))))))
def m__law_draw : Env1 → Sto → Out :=
  (sSeq (sPut (eV 0) (eC (.d (.str "draws"))) (e2 opAdd (e2 opIx (eV 0) (eC (.d (.str "draws")))) (eC (.d (.int 1)))))
    (sSeq (sSet 2 (e2 opAdd (e2 opIx (eV 0) (eC (.d (.str "mixed")))) (e2 opMul (eC (.d (.int 61473))) (e2 opIx (eV 0) (eC (.d (.str "draws")))))))
    (sSeq (sIf (tB (e2 opNeU (e2 opIx (eV 0) (eC (.d (.str "cells")))) (eLst aN))) (sSeq (sSet 3 (ePop (e2 opIx (eV 0) (eC (.d (.str "cells"))))))
    (sSeq (sIf (tB (e2 opGe (eV 3) (e2 opPow (eC (.d (.int 10))) (eC (.d (.int 18)))))) (sSeq (sExpr (eApp (e2 opIx (eV 0) (eC (.d (.str "cells")))) (e2 opFdiv (eV 3) (ePrim pMax2 (aC (eC (.d (.int 2))) (aC (eV 1) aN))))))
    (sRet (e2 opMod (ePrim pInt (aC (eV 3) aN)) (eV 1)))) sNx)
    (sSet 2 (e2 opAdd (eV 2) (e2 opMod (ePrim pInt (aC (eV 3) aN)) (eC (.d (.int 2147483629)))))))) sNx)
    (sSeq (sSet 2 (e2 opMod (ePrim pInt (aC (e2 opAdd (e2 opMul (eV 2) (eC (.d (.int 39373)))) (eC (.d (.int 69)))) aN)) (eC (.d (.int 2147483647)))))
    (sSeq (sSet 2 (e2 opMod (ePrim pInt (aC (e2 opAdd (e2 opAdd (e2 opMul (eV 2) (eV 2)) (e2 opMul (eC (.d (.int 52713))) (e2 opIx (eV 0) (eC (.d (.str "draws")))))) (eC (.d (.int 89)))) aN)) (eC (.d (.int 2147483587)))))
    (sSeq (sSet 2 (e2 opMod (ePrim pInt (aC (e2 opMul (eV 2) (eC (.d (.int 40692)))) aN)) (eC (.d (.int 2147483563)))))
    (sRet (e2 opMod (ePrim pInt (aC (e2 opFdiv (eV 2) (eC (.d (.int 64)))) aN)) (eV 1)))))))))
def f__law_draw : List M → Sto → R M := fnM 4 m__law_draw
theorem ok__law_draw {w : World} {mg : Str → Option Value} {base : Heap} {g : Cfg} (m : Md w (hd08.heap_39 w.params) mg base g clf) : Dn true PP w (hd08.heap_39 w.params) mg base g 1 "_law_draw" s__law_draw ["_law_deck_here", "_law_many"] f__law_draw := by
  obtain ⟨fd, F⟩ := d__law_draw (w := w)
  refine dn_mk m F a__law_draw sc__law_draw (fun _ _ _ _ _ _ us hl => match us, hl with | [_, _], _ => rfl) fun cdv A fr s H E hr hG => ?_
  exact (mss_cons (ms_put (hu_of hr) (me_var 0) me_str (me_op o_add s_add (me_ix (hu_of hr) m.gw (me_var 0) me_str) me_int))
    (mss_cons (ms_set 2 sc__law_draw.nd (me_op o_add s_add (me_ix (hu_of hr) m.gw (me_var 0) me_str) (me_op o_mul s_mul me_int (me_ix (hu_of hr) m.gw (me_var 0) me_str))))
    (mss_cons (ms_if (mt_cmp (o_ne hr.units) s_neU (me_ix (hu_of hr) m.gw (me_var 0) me_str) (me_lst ma_nil)) (mss_cons (ms_set 3 sc__law_draw.nd (me_pop (me_ix (hu_of hr) m.gw (me_var 0) me_str)))
    (mss_cons (ms_if (mt_cmp op_ge s_ge (me_var 3) (me_op op_pow s_pow me_int me_int)) (mss_cons (ms_expr (me_app (me_ix (hu_of hr) m.gw (me_var 0) me_str) (me_op op_fdivN s_fdiv (me_var 3) (me_callB (call_max2 rfl) s_max2 (m.no n_max) rfl (ma_cons me_int (ma_cons (me_var 1) ma_nil))))))
    (mss_one (ms_ret (me_op op_modN s_mod (me_callT call_int1 s_pint (m.no n_int) rfl (ma_cons (me_var 3) ma_nil)) (me_var 1))))) mss_nil)
    (mss_one (ms_set 2 sc__law_draw.nd (me_op o_add s_add (me_var 2) (me_op op_modN s_mod (me_callT call_int1 s_pint (m.no n_int) rfl (ma_cons (me_var 3) ma_nil)) me_int)))))) mss_nil)
    (mss_cons (ms_set 2 sc__law_draw.nd (me_op op_modN s_mod (me_callT call_int1 s_pint (m.no n_int) rfl (ma_cons (me_op o_add s_add (me_op o_mul s_mul (me_var 2) me_int) me_int) ma_nil)) me_int))
    (mss_cons (ms_set 2 sc__law_draw.nd (me_op op_modN s_mod (me_callT call_int1 s_pint (m.no n_int) rfl (ma_cons (me_op o_add s_add (me_op o_add s_add (me_op o_mul s_mul (me_var 2) (me_var 2)) (me_op o_mul s_mul me_int (me_ix (hu_of hr) m.gw (me_var 0) me_str))) me_int) ma_nil)) me_int))
    (mss_cons (ms_set 2 sc__law_draw.nd (me_op op_modN s_mod (me_callT call_int1 s_pint (m.no n_int) rfl (ma_cons (me_op o_mul s_mul (me_var 2) me_int) ma_nil)) me_int))
    (mss_one (ms_ret (me_op op_modN s_mod (me_callT call_int1 s_pint (m.no n_int) rfl (ma_cons (me_op op_fdivN s_fdiv (me_var 2) me_int) ma_nil)) (me_var 1))))))))))
def m__law_pick : Env1 → Sto → Out :=
  (sRet (e2 opIx (eV 1) (eCall f__law_draw (aC (eV 0) (aC (ePrim pLen (aC (eV 1) aN)) aN)))))
def f__law_pick : List M → Sto → R M := fnM 2 m__law_pick
theorem ok__law_pick {w : World} {mg : Str → Option Value} {base : Heap} {g : Cfg} (m : Md w (hd08.heap_39 w.params) mg base g clf) : Dn true PP w (hd08.heap_39 w.params) mg base g 2 "_law_pick" s__law_pick ["_law_deck_here", "_law_some"] f__law_pick := by
  obtain ⟨fd, F⟩ := d__law_pick (w := w)
  refine dn_mk m F a__law_pick sc__law_pick (fun _ _ _ _ _ _ us hl => match us, hl with | [_, _], _ => rfl) fun cdv A fr s H E hr hG => ?_
  exact (mss_one (ms_ret (me_ix (hu_of hr) m.gw (me_var 1) (me_callD (ok__law_draw m) hr (by omega) hG (takes_of rfl rfl rfl rfl) (ma_cons (me_var 0) (ma_cons (me_callB call_len s_len (m.no n_len) rfl (ma_cons (me_var 1) ma_nil)) ma_nil)) rfl (aC_len (aC_len aN_len))))))
def m__law_size : Env1 → Sto → Out :=
  (sRet (e2 opIx (eDic (((eC (.d (.str "two"))), (eC (.d (.int 2)))) :: (((eC (.d (.str "three"))), (eC (.d (.int 3)))) :: (((eC (.d (.str "four"))), (eC (.d (.int 4)))) :: (((eC (.d (.str "ring"))), (eC (.d (.int 4)))) :: []))))) (eV 0)))
def f__law_size : List M → Sto → R M := fnM 1 m__law_size
theorem ok__law_size {w : World} {mg : Str → Option Value} {base : Heap} {g : Cfg} (m : Md w (hd08.heap_39 w.params) mg base g clf) : Dn true PP w (hd08.heap_39 w.params) mg base g 1 "_law_size" s__law_size ["_law_kind"] f__law_size := by
  obtain ⟨fd, F⟩ := d__law_size (w := w)
  refine dn_mk m F a__law_size sc__law_size (fun _ _ _ _ _ _ us hl => match us, hl with | [_], _ => rfl) fun cdv A fr s H E hr hG => ?_
  exact (mss_one (ms_ret (me_ix (hu_of hr) m.gw (me_dic (mp_cons me_str me_int (mp_cons me_str me_int (mp_cons me_str me_int (mp_cons me_str me_int mp_nil))))) (me_var 0))))
def m__law_any (f__law_any : Nat → List M → Sto → R M) (n : Nat) : Env1 → Sto → Out :=
  (sSeq (sSet 2 (eCall f__law_draw (aC (eV 0) (aC (eC (.d (.int 9))) aN))))
    (sSeq (sIf (tB (e2 opLt (eV 2) (eC (.d (.int 2))))) (sRet (eCall f__law_pick (aC (eV 0) (aC (eLst (aC (eC (.d (.int 0))) (aC (eC (.d (.int 1))) (aC (e1 opNeg (eC (.d (.int 1)))) (aC (eC (.d (.int 2))) (aC (eC (.d (.int 3))) (aC (eC (.d (.int 4))) (aC (eC (.d (.int 16))) (aC (eC (.d (.int 17))) (aC (e2 opPow (eC (.d (.int 10))) (eC (.d (.int 39)))) (aC (e1 opNeg (e2 opPow (eC (.d (.int 10))) (eC (.d (.int 20))))) aN))))))))))) aN)))) sNx)
    (sSeq (sIf (tB (e2 opLt (eV 2) (eC (.d (.int 4))))) (sRet (eCall f__law_pick (aC (eV 0) (aC (eLst (aC (eC (.d (.str ""))) (aC (eC (.d (.str "two"))) (aC (eC (.d (.str "ring"))) (aC (eC (.d (.str "three"))) (aC (eC (.d (.str "0"))) (aC (eC (.d (.str "(0, 1)"))) (aC (eC (.d (.str "book two 2\n11"))) (aC (eC (.d (.str "~"))) aN))))))))) aN)))) sNx)
    (sSeq (sIf (tB (e2 opEqU (eV 2) (eC (.d (.int 4))))) (sRet (eCall f__law_pick (aC (eV 0) (aC (eLst (aC (eC (.d (.bool true))) (aC (eC (.d (.bool false))) (aC (eC (.d .none)) aN)))) aN)))) sNx)
    (sSeq (sIf (tB (e2 opEqU (eV 2) (eC (.d (.int 8))))) (sRet (eCall f__law_pick (aC (eV 0) (aC (eLst (aC (eTup (aC (eC (.d (.str "two"))) (aC (eC (.d (.int 2))) (aC (eTup (aC (eTup (aC (eC (.d (.int 1))) (aC (eC (.d (.int 1))) aN))) aN)) aN)))) (aC (eTup (aC (eC (.d (.str "ring"))) (aC (eC (.d (.int 1))) (aC (eTup aN) aN)))) (aC (eTup (aC (eC (.d (.str "four"))) (aC (eC (.d (.int 2))) (aC (eTup (aC (eTup (aC (eC (.d (.int 1))) (aC (eC (.d (.int 2))) aN))) aN)) aN)))) (aC (eTup (aC (eC (.d (.str "three"))) (aC (eC (.d (.int 3))) (aC (eTup (aC (eTup (aC (eC (.d (.int 0))) (aC (eC (.d (.int 1))) (aC (eC (.d (.int 2))) aN)))) aN)) aN)))) aN))))) aN)))) sNx)
    (sSeq (sSet 3 (eIf (tB (e2 opGt (eV 1) (eC (.d (.int 0))))) (eLc [4] (iRng (aC (eCall f__law_draw (aC (eV 0) (aC (eC (.d (.int 4))) aN))) aN)) (tgN 4) tYesM (eCall (f__law_any n) (aC (eV 0) (aC (e2 opSub (eV 1) (eC (.d (.int 1)))) aN)))) (eLst aN)))
    (sSeq (sIf (tB (e2 opEqU (eV 2) (eC (.d (.int 5))))) (sRet (eV 3)) sNx)
    (sRet (eIf (tB (e2 opEqU (eV 2) (eC (.d (.int 6))))) (eDic (((eC (.d (.str "two"))), (eV 3)) :: (((eC (.d (.int 1))), (ePrim pLen (aC (eV 3) aN))) :: []))) (ePrim pTuple (aC (eV 3) aN)))))))))))
def f__law_any : Nat → List M → Sto → R M
  | 0 => fun _ _ => .bad
  | n + 1 => fnM 5 (m__law_any (fun _ => f__law_any n) n)
theorem ok__law_any {w : World} {mg : Str → Option Value} {base : Heap} {g : Cfg} (m : Md w (hd08.heap_39 w.params) mg base g clf) : ∀ n : Nat, Dn true PP w (hd08.heap_39 w.params) mg base g (n + 3) "_law_any" s__law_any ["_law_deck_here", "_law_deep"] (f__law_any n)
  | 0 => by
    obtain ⟨fd, F⟩ := d__law_any (w := w)
    exact dn_bad m F a__law_any (fun _ _ _ _ _ _ us hl => match us, hl with | [_, _], _ => rfl)
  | n + 1 => by
    obtain ⟨fd, F⟩ := d__law_any (w := w)
    have D0 := ok__law_any m n
    refine (dn_mk (k := n + 3) m F a__law_any sc__law_any (fun _ _ _ _ _ _ us hl => match us, hl with | [_, _], _ => rfl) fun cdv A fr s H E hr hG => ?_).mono (by omega)
    exact (mss_cons (ms_set 2 sc__law_any.nd (me_callD (ok__law_draw m) hr (by omega) hG (takes_of rfl rfl rfl rfl) (ma_cons (me_var 0) (ma_cons me_int ma_nil)) rfl (aC_len (aC_len aN_len))))
    (mss_cons (ms_if (mt_cmp op_lt s_lt (me_var 2) me_int) (mss_one (ms_ret (me_callD (ok__law_pick m) hr (by omega) hG (takes_of rfl rfl rfl rfl) (ma_cons (me_var 0) (ma_cons (me_lst (ma_cons me_int (ma_cons me_int (ma_cons (me_un un_neg s_neg me_int) (ma_cons me_int (ma_cons me_int (ma_cons me_int (ma_cons me_int (ma_cons me_int (ma_cons (me_op op_pow s_pow me_int me_int) (ma_cons (me_un un_neg s_neg (me_op op_pow s_pow me_int me_int)) ma_nil))))))))))) ma_nil)) rfl (aC_len (aC_len aN_len))))) mss_nil)
    (mss_cons (ms_if (mt_cmp op_lt s_lt (me_var 2) me_int) (mss_one (ms_ret (me_callD (ok__law_pick m) hr (by omega) hG (takes_of rfl rfl rfl rfl) (ma_cons (me_var 0) (ma_cons (me_lst (ma_cons me_str (ma_cons me_str (ma_cons me_str (ma_cons me_str (ma_cons me_str (ma_cons me_str (ma_cons me_str (ma_cons me_str ma_nil))))))))) ma_nil)) rfl (aC_len (aC_len aN_len))))) mss_nil)
    (mss_cons (ms_if (mt_cmp (o_eq hr.units) s_eqU (me_var 2) me_int) (mss_one (ms_ret (me_callD (ok__law_pick m) hr (by omega) hG (takes_of rfl rfl rfl rfl) (ma_cons (me_var 0) (ma_cons (me_lst (ma_cons me_bl (ma_cons me_bl (ma_cons me_non ma_nil)))) ma_nil)) rfl (aC_len (aC_len aN_len))))) mss_nil)
    (mss_cons (ms_if (mt_cmp (o_eq hr.units) s_eqU (me_var 2) me_int) (mss_one (ms_ret (me_callD (ok__law_pick m) hr (by omega) hG (takes_of rfl rfl rfl rfl) (ma_cons (me_var 0) (ma_cons (me_lst (ma_cons (me_tup (ma_cons me_str (ma_cons me_int (ma_cons (me_tup (ma_cons (me_tup (ma_cons me_int (ma_cons me_int ma_nil))) ma_nil)) ma_nil)))) (ma_cons (me_tup (ma_cons me_str (ma_cons me_int (ma_cons (me_tup ma_nil) ma_nil)))) (ma_cons (me_tup (ma_cons me_str (ma_cons me_int (ma_cons (me_tup (ma_cons (me_tup (ma_cons me_int (ma_cons me_int ma_nil))) ma_nil)) ma_nil)))) (ma_cons (me_tup (ma_cons me_str (ma_cons me_int (ma_cons (me_tup (ma_cons (me_tup (ma_cons me_int (ma_cons me_int (ma_cons me_int ma_nil)))) ma_nil)) ma_nil)))) ma_nil))))) ma_nil)) rfl (aC_len (aC_len aN_len))))) mss_nil)
    (mss_cons (ms_set 3 sc__law_any.nd (me_if (mt_cmp op_gt s_gt (me_var 1) me_int) (me_lc (own := [("_law_turn", 4)]) rfl sc__law_any.nd (mi_rng1 (m.no n_range) (ma_cons (me_callD (ok__law_draw m) hr (by omega) hG (takes_of rfl rfl rfl rfl) (ma_cons (me_var 0) (ma_cons me_int ma_nil)) rfl (aC_len (aC_len aN_len))) ma_nil) rfl rfl (aC_len aN_len)) ⟨rfl, by decide +kernel, (by dsimp only [cxOf, envOfC, compEnvC, PySem.W.envX, relabel, Env.kindOf]; first | decide +kernel | ((repeat refine List.forall_mem_cons.mpr ⟨fun hk => by first | exact absurd hk (by decide) | exact .inl rfl | exact .inr rfl | exact .inl (by decide +kernel) | exact .inr (by decide +kernel), ?_⟩); exact fun _ h => absurd h (by simp))), (by dsimp only [cxOf, envOfC, compEnvC, PySem.W.envX, relabel, Env.kindOf]; first | decide +kernel | ((repeat refine List.forall_mem_cons.mpr ⟨fun hk => by first | exact absurd hk (by decide) | exact .inl rfl | exact .inr rfl | exact .inl (by decide +kernel) | exact .inr (by decide +kernel), ?_⟩); exact fun _ h => absurd h (by simp))), (by dsimp only [cxOf, envOfC, compEnvC, PySem.W.envX, relabel, Env.kindOf]; first | decide +kernel | ((repeat refine List.forall_mem_cons.mpr ⟨fun hk => by first | exact absurd hk (by decide) | exact .inl rfl | exact .inr rfl | exact .inl (by decide +kernel) | exact .inr (by decide +kernel), ?_⟩); exact fun _ h => absurd h (by simp)))⟩ (fun s H C cl fp => (mg_name (vs := [4]) 4 sc__law_any.nd)) (fun s H C cl fp => mts_nil) (fun s H C cl fp => (me_callD D0 hr (by omega) hG LamX.takes0 (ma_cons (me_var 0) (ma_cons (me_op op_sub s_sub (me_var 1) me_int) ma_nil)) rfl (aC_len (aC_len aN_len))))) (me_lst ma_nil)))
    (mss_cons (ms_if (mt_cmp (o_eq hr.units) s_eqU (me_var 2) me_int) (mss_one (ms_ret (me_var 3))) mss_nil)
    (mss_one (ms_ret (me_if (mt_cmp (o_eq hr.units) s_eqU (me_var 2) me_int) (me_dic (mp_cons me_str (me_var 3) (mp_cons me_int (me_callB call_len s_len (m.no n_len) rfl (ma_cons (me_var 3) ma_nil)) mp_nil))) (me_callT call_tuple_of s_tuple (m.no n_tuple) rfl (ma_cons (me_var 3) ma_nil))))))))))))
def m__law_sum : Env1 → Sto → Out :=
  (sSeq (sIf (tB (e2 opEqU (eV 0) (eC (.d (.str "four"))))) (sRet (e2 opAdd (e2 opMul (eC (.d (.int 2))) (e2 opMod (ePrim pInt (aC (e2 opAdd (e2 opFdiv (eV 1) (eC (.d (.int 2)))) (e2 opFdiv (eV 2) (eC (.d (.int 2))))) aN)) (eC (.d (.int 2))))) (e2 opMod (ePrim pInt (aC (e2 opAdd (eV 1) (eV 2)) aN)) (eC (.d (.int 2)))))) sNx)
    (sRet (e2 opMod (ePrim pInt (aC (e2 opAdd (eV 1) (eV 2)) aN)) (eCall f__law_size (aC (eV 0) aN)))))
def f__law_sum : List M → Sto → R M := fnM 3 m__law_sum
theorem ok__law_sum {w : World} {mg : Str → Option Value} {base : Heap} {g : Cfg} (m : Md w (hd08.heap_39 w.params) mg base g clf) : Dn true PP w (hd08.heap_39 w.params) mg base g 2 "_law_sum" s__law_sum ["_law_kind", "_law_a", "_law_b"] f__law_sum := by
  obtain ⟨fd, F⟩ := d__law_sum (w := w)
  refine dn_mk m F a__law_sum sc__law_sum (fun _ _ _ _ _ _ us hl => match us, hl with | [_, _, _], _ => rfl) fun cdv A fr s H E hr hG => ?_
  exact (mss_cons (ms_if (mt_cmp (o_eq hr.units) s_eqU (me_var 0) me_str) (mss_one (ms_ret (me_op o_add s_add (me_op o_mul s_mul me_int (me_op op_modN s_mod (me_callT call_int1 s_pint (m.no n_int) rfl (ma_cons (me_op o_add s_add (me_op op_fdivN s_fdiv (me_var 1) me_int) (me_op op_fdivN s_fdiv (me_var 2) me_int)) ma_nil)) me_int)) (me_op op_modN s_mod (me_callT call_int1 s_pint (m.no n_int) rfl (ma_cons (me_op o_add s_add (me_var 1) (me_var 2)) ma_nil)) me_int)))) mss_nil)
    (mss_one (ms_ret (me_op op_modN s_mod (me_callT call_int1 s_pint (m.no n_int) rfl (ma_cons (me_op o_add s_add (me_var 1) (me_var 2)) ma_nil)) (me_callD (ok__law_size m) hr (by omega) hG (takes_of rfl rfl rfl rfl) (ma_cons (me_var 0) ma_nil) rfl (aC_len aN_len))))))
def m__law_product : Env1 → Sto → Out :=
  (sSeq (sIf (tB (e2 opNeU (eV 0) (eC (.d (.str "four"))))) (sRet (e2 opMod (ePrim pInt (aC (e2 opMul (eV 1) (eV 2)) aN)) (eCall f__law_size (aC (eV 0) aN)))) sNx)
    (sSeq (sPar 4 5 (aC (e2 opMul (e2 opFdiv (eV 1) (eC (.d (.int 2)))) (e2 opFdiv (eV 2) (eC (.d (.int 2))))) (aC (e2 opMul (e2 opMod (ePrim pInt (aC (eV 1) aN)) (eC (.d (.int 2)))) (e2 opMod (ePrim pInt (aC (eV 2) aN)) (eC (.d (.int 2))))) aN)))
    (sSeq (sSet 3 (e2 opAdd (e2 opMul (e2 opFdiv (eV 1) (eC (.d (.int 2)))) (e2 opMod (ePrim pInt (aC (eV 2) aN)) (eC (.d (.int 2))))) (e2 opMul (e2 opMod (ePrim pInt (aC (eV 1) aN)) (eC (.d (.int 2)))) (e2 opFdiv (eV 2) (eC (.d (.int 2)))))))
    (sRet (e2 opAdd (e2 opMul (eC (.d (.int 2))) (e2 opMod (ePrim pInt (aC (e2 opAdd (eV 4) (eV 3)) aN)) (eC (.d (.int 2))))) (e2 opMod (ePrim pInt (aC (e2 opAdd (eV 4) (eV 5)) aN)) (eC (.d (.int 2)))))))))
def f__law_product : List M → Sto → R M := fnM 6 m__law_product
theorem ok__law_product {w : World} {mg : Str → Option Value} {base : Heap} {g : Cfg} (m : Md w (hd08.heap_39 w.params) mg base g clf) : Dn true PP w (hd08.heap_39 w.params) mg base g 2 "_law_product" s__law_product ["_law_kind", "_law_a", "_law_b"] f__law_product := by
  obtain ⟨fd, F⟩ := d__law_product (w := w)
  refine dn_mk m F a__law_product sc__law_product (fun _ _ _ _ _ _ us hl => match us, hl with | [_, _, _], _ => rfl) fun cdv A fr s H E hr hG => ?_
  exact (mss_cons (ms_if (mt_cmp (o_ne hr.units) s_neU (me_var 0) me_str) (mss_one (ms_ret (me_op op_modN s_mod (me_callT call_int1 s_pint (m.no n_int) rfl (ma_cons (me_op o_mul s_mul (me_var 1) (me_var 2)) ma_nil)) (me_callD (ok__law_size m) hr (by omega) hG (takes_of rfl rfl rfl rfl) (ma_cons (me_var 0) ma_nil) rfl (aC_len aN_len))))) mss_nil)
    (mss_cons (ms_par 4 5 rfl sc__law_product.nd (ma_cons (me_op o_mul s_mul (me_op op_fdivN s_fdiv (me_var 1) me_int) (me_op op_fdivN s_fdiv (me_var 2) me_int)) (ma_cons (me_op o_mul s_mul (me_op op_modN s_mod (me_callT call_int1 s_pint (m.no n_int) rfl (ma_cons (me_var 1) ma_nil)) me_int) (me_op op_modN s_mod (me_callT call_int1 s_pint (m.no n_int) rfl (ma_cons (me_var 2) ma_nil)) me_int)) ma_nil)))
    (mss_cons (ms_set 3 sc__law_product.nd (me_op o_add s_add (me_op o_mul s_mul (me_op op_fdivN s_fdiv (me_var 1) me_int) (me_op op_modN s_mod (me_callT call_int1 s_pint (m.no n_int) rfl (ma_cons (me_var 2) ma_nil)) me_int)) (me_op o_mul s_mul (me_op op_modN s_mod (me_callT call_int1 s_pint (m.no n_int) rfl (ma_cons (me_var 1) ma_nil)) me_int) (me_op op_fdivN s_fdiv (me_var 2) me_int))))
    (mss_one (ms_ret (me_op o_add s_add (me_op o_mul s_mul me_int (me_op op_modN s_mod (me_callT call_int1 s_pint (m.no n_int) rfl (ma_cons (me_op o_add s_add (me_var 4) (me_var 3)) ma_nil)) me_int)) (me_op op_modN s_mod (me_callT call_int1 s_pint (m.no n_int) rfl (ma_cons (me_op o_add s_add (me_var 4) (me_var 5)) ma_nil)) me_int)))))))
def m__law_over : Env1 → Sto → Out :=
  (sRet (eIf (tB (e2 opEqU (eV 0) (eC (.d (.str "four"))))) (eCall f__law_product (aC (eV 0) (aC (eV 1) (aC (eV 1) aN)))) (eV 1)))
def f__law_over : List M → Sto → R M := fnM 2 m__law_over
theorem ok__law_over {w : World} {mg : Str → Option Value} {base : Heap} {g : Cfg} (m : Md w (hd08.heap_39 w.params) mg base g clf) : Dn true PP w (hd08.heap_39 w.params) mg base g 3 "_law_over" s__law_over ["_law_kind", "_law_a"] f__law_over := by
  obtain ⟨fd, F⟩ := d__law_over (w := w)
  refine dn_mk m F a__law_over sc__law_over (fun _ _ _ _ _ _ us hl => match us, hl with | [_, _], _ => rfl) fun cdv A fr s H E hr hG => ?_
  exact (mss_one (ms_ret (me_if (mt_cmp (o_eq hr.units) s_eqU (me_var 0) me_str) (me_callD (ok__law_product m) hr (by omega) hG (takes_of rfl rfl rfl rfl) (ma_cons (me_var 0) (ma_cons (me_var 1) (ma_cons (me_var 1) ma_nil))) rfl (aC_len (aC_len (aC_len aN_len)))) (me_var 1))))
def m__law_is_whole : Env1 → Sto → Out :=
  (sRet (e2 opEqU (ePrim pRepr (aC (eV 0) aN)) (ePrim pRepr (aC (eV 1) aN))))
def f__law_is_whole : List M → Sto → R M := fnM 2 m__law_is_whole
theorem ok__law_is_whole {w : World} {mg : Str → Option Value} {base : Heap} {g : Cfg} (m : Md w (hd08.heap_39 w.params) mg base g clf) : Dn true PP w (hd08.heap_39 w.params) mg base g 1 "_law_is_whole" s__law_is_whole ["_law_value", "_law_due_here"] f__law_is_whole := by
  obtain ⟨fd, F⟩ := d__law_is_whole (w := w)
  refine dn_mk m F a__law_is_whole sc__law_is_whole (fun _ _ _ _ _ _ us hl => match us, hl with | [_, _], _ => rfl) fun cdv A fr s H E hr hG => ?_
  exact (mss_one (ms_ret (me_cmp (o_eq hr.units) s_eqU (me_callB (call_repr_d hr (hG rfl) m.sys) s_repr (m.no n_repr) rfl (ma_cons (me_var 0) ma_nil)) (me_callB (call_repr_d hr (hG rfl) m.sys) s_repr (m.no n_repr) rfl (ma_cons (me_var 1) ma_nil)))))
def m__law_are_all_right : Env1 → Sto → Out :=
  (sSeq (sSet 1 (eCall f__law_size (aC (eV 0) aN)))
    (sSeq (sSet 2 (ePrim pTuple (aC (eLc [3] (iRng (aC (eV 1) aN)) (tgN 3) (tB (e2 opNeU (eLc [4] (iRng (aC (eV 1) aN)) (tgN 4) (tB (e2 opEqU (eCall f__law_product (aC (eV 0) (aC (eV 3) (aC (eV 4) aN)))) (eC (.d (.int 1))))) (eV 4)) (eLst aN))) (eV 3)) aN)))
    (sSeq (sIf (tNotM (tB (eCall f__law_is_whole (aC (eTup (aC (eCall f_size_of (aC (eV 0) aN)) (aC (eCall f_units_of (aC (eV 0) aN)) (aC (eCallK [0] f_size_of (aC (eV 0) aN)) aN)))) (aC (eTup (aC (eV 1) (aC (eV 2) (aC (eV 1) aN)))) aN))))) (sRet (eC (.d (.bool false)))) sNx)
    (sSeq (sFor (iRng (aC (eV 1) aN)) (tgN 3) (sSeq (sIf (tNotM (tB (eCall f__law_is_whole (aC (eTup (aC (eCall f_turned_mark (aC (eV 0) (aC (eV 3) aN))) (aC (eCallK [1, 0] f_turned_mark (aC (eV 3) (aC (eV 0) aN))) aN))) (aC (e2 opMul (eTup (aC (eCall f__law_over (aC (eV 0) (aC (eV 3) aN))) aN)) (eC (.d (.int 2)))) aN))))) (sRet (eC (.d (.bool false)))) sNx)
    (sFor (iRng (aC (eV 1) aN)) (tgN 4) (sSeq (sSet 5 (eTup (aC (eCall f_sum_of (aC (eV 0) (aC (eV 3) (aC (eV 4) aN)))) (aC (eCall f_product_of (aC (eV 0) (aC (eV 3) (aC (eV 4) aN)))) (aC (eCallK [2, 1, 0] f_sum_of (aC (eV 4) (aC (eV 3) (aC (eV 0) aN)))) aN)))))
    (sIf (tNotM (tB (eCall f__law_is_whole (aC (eV 5) (aC (eTup (aC (eCall f__law_sum (aC (eV 0) (aC (eV 3) (aC (eV 4) aN)))) (aC (eCall f__law_product (aC (eV 0) (aC (eV 3) (aC (eV 4) aN)))) (aC (eCall f__law_sum (aC (eV 0) (aC (eV 3) (aC (eV 4) aN)))) aN)))) aN))))) (sRet (eC (.d (.bool false)))) sNx)))))
    (sSeq (sFor (iSeq (eV 2)) (tgN 3) (sSeq (sSet 4 (eCall f_inverse_of (aC (eV 0) (aC (eV 3) aN))))
    (sSeq (sIf (tOrM (tB (e2 opNotIn (eV 4) (eV 2))) (tNotM (tB (eCall f__law_is_whole (aC (eTup (aC (eCall f_product_of (aC (eV 0) (aC (eV 3) (aC (eV 4) aN)))) (aC (eCallK [1, 0] f_inverse_of (aC (eV 4) (aC (eV 0) aN))) aN))) (aC (eTup (aC (eC (.d (.int 1))) (aC (eV 3) aN))) aN)))))) (sRet (eC (.d (.bool false)))) sNx)
    (sIf (tNotM (tB (eCall f__law_is_whole (aC (eCall f_turned_mark (aC (eV 0) (aC (eV 3) aN))) (aC (eIf (tB (e2 opEqU (eV 0) (eC (.d (.str "four"))))) (eV 4) (eV 3)) aN))))) (sRet (eC (.d (.bool false)))) sNx))))
    (sRet (eC (.d (.bool true)))))))))
def f__law_are_all_right : List M → Sto → R M := fnM 6 m__law_are_all_right
theorem ok__law_are_all_right {w : World} {mg : Str → Option Value} {base : Heap} {g : Cfg} (m : Md w (hd08.heap_39 w.params) mg base g clf) : Dn true PP w (hd08.heap_39 w.params) mg base g 5 "_law_are_all_right" s__law_are_all_right ["_law_kind"] f__law_are_all_right := by
  obtain ⟨fd, F⟩ := d__law_are_all_right (w := w)
  refine dn_mk m F a__law_are_all_right sc__law_are_all_right (fun _ _ _ _ _ _ us hl => match us, hl with | [_], _ => rfl) fun cdv A fr s H E hr hG => ?_
  exact (mss_cons (ms_set 1 sc__law_are_all_right.nd (me_callD (ok__law_size m) hr (by omega) hG (takes_of rfl rfl rfl rfl) (ma_cons (me_var 0) ma_nil) rfl (aC_len aN_len)))
    (mss_cons (ms_set 2 sc__law_are_all_right.nd (me_callT call_tuple_of s_tuple (m.no n_tuple) rfl (ma_cons (me_lc (own := [("_law_a", 3)]) rfl sc__law_are_all_right.nd (mi_rng1 (m.no n_range) (ma_cons (me_var 1) ma_nil) rfl rfl (aC_len aN_len)) ⟨rfl, by decide +kernel, (by dsimp only [cxOf, envOfC, compEnvC, PySem.W.envX, relabel, Env.kindOf]; first | decide +kernel | ((repeat refine List.forall_mem_cons.mpr ⟨fun hk => by first | exact absurd hk (by decide) | exact .inl rfl | exact .inr rfl | exact .inl (by decide +kernel) | exact .inr (by decide +kernel), ?_⟩); exact fun _ h => absurd h (by simp))), (by dsimp only [cxOf, envOfC, compEnvC, PySem.W.envX, relabel, Env.kindOf]; first | decide +kernel | ((repeat refine List.forall_mem_cons.mpr ⟨fun hk => by first | exact absurd hk (by decide) | exact .inl rfl | exact .inr rfl | exact .inl (by decide +kernel) | exact .inr (by decide +kernel), ?_⟩); exact fun _ h => absurd h (by simp))), (by dsimp only [cxOf, envOfC, compEnvC, PySem.W.envX, relabel, Env.kindOf]; first | decide +kernel | ((repeat refine List.forall_mem_cons.mpr ⟨fun hk => by first | exact absurd hk (by decide) | exact .inl rfl | exact .inr rfl | exact .inl (by decide +kernel) | exact .inr (by decide +kernel), ?_⟩); exact fun _ h => absurd h (by simp)))⟩ (fun s H C cl fp => (mg_name (vs := [3]) 3 sc__law_are_all_right.nd)) (fun s H C cl fp => (mts_one (mt_cmp (o_ne hr.units) s_neU (me_lc (own := [("_law_b", 4)]) rfl sc__law_are_all_right.nd (mi_rng1 (m.no n_range) (ma_cons (me_var 1) ma_nil) rfl rfl (aC_len aN_len)) ⟨rfl, by decide +kernel, (by dsimp only [cxOf, envOfC, compEnvC, PySem.W.envX, relabel, Env.kindOf]; first | decide +kernel | ((repeat refine List.forall_mem_cons.mpr ⟨fun hk => by first | exact absurd hk (by decide) | exact .inl rfl | exact .inr rfl | exact .inl (by decide +kernel) | exact .inr (by decide +kernel), ?_⟩); exact fun _ h => absurd h (by simp))), (by dsimp only [cxOf, envOfC, compEnvC, PySem.W.envX, relabel, Env.kindOf]; first | decide +kernel | ((repeat refine List.forall_mem_cons.mpr ⟨fun hk => by first | exact absurd hk (by decide) | exact .inl rfl | exact .inr rfl | exact .inl (by decide +kernel) | exact .inr (by decide +kernel), ?_⟩); exact fun _ h => absurd h (by simp))), (by dsimp only [cxOf, envOfC, compEnvC, PySem.W.envX, relabel, Env.kindOf]; first | decide +kernel | ((repeat refine List.forall_mem_cons.mpr ⟨fun hk => by first | exact absurd hk (by decide) | exact .inl rfl | exact .inr rfl | exact .inl (by decide +kernel) | exact .inr (by decide +kernel), ?_⟩); exact fun _ h => absurd h (by simp)))⟩ (fun s H C cl fp => (mg_name (vs := [4]) 4 sc__law_are_all_right.nd)) (fun s H C cl fp => (mts_one (mt_cmp (o_eq hr.units) s_eqU (me_callD (ok__law_product m) hr (by omega) hG LamX.takes0 (ma_cons (me_var 0) (ma_cons (me_var 3) (ma_cons (me_var 4) ma_nil))) rfl (aC_len (aC_len (aC_len aN_len)))) me_int))) (fun s H C cl fp => (me_var 4))) (me_lst ma_nil)))) (fun s H C cl fp => (me_var 3))) ma_nil)))
    (mss_cons (ms_if (mt_not (mt_val (me_callD (ok__law_is_whole m) hr (by omega) hG (takes_of rfl rfl rfl rfl) (ma_cons (me_tup (ma_cons (me_callD (ok_size_of m) hr (by omega) (fun z => nomatch z) (takes_of rfl rfl rfl rfl) (ma_cons (me_var 0) ma_nil) rfl (aC_len aN_len)) (ma_cons (me_callD (ok_units_of m) hr (by omega) (fun z => nomatch z) (takes_of rfl rfl rfl rfl) (ma_cons (me_var 0) ma_nil) rfl (aC_len aN_len)) (ma_cons (me_callKD ["kind"] [0] (ok_size_of m) hr (by omega) (fun z => nomatch z) (takes_of rfl rfl rfl rfl) (fun _ _ _ _ _ _ => kb_of1 fun _ _ => .of_eq rfl) (mk_cons (me_var 0) mk_nil) rfl (aC_len aN_len)) ma_nil)))) (ma_cons (me_tup (ma_cons (me_var 1) (ma_cons (me_var 2) (ma_cons (me_var 1) ma_nil)))) ma_nil)) rfl (aC_len (aC_len aN_len))))) (mss_one (ms_ret me_bl)) mss_nil)
    (mss_cons (ms_for (passes_of rfl) rfl (mi_rng1 (m.no n_range) (ma_cons (me_var 1) ma_nil) rfl rfl (aC_len aN_len)) (mg_name (vs := [3]) 3 sc__law_are_all_right.nd) (mss_cons (ms_if (mt_not (mt_val (me_callD (ok__law_is_whole m) hr (by omega) hG (takes_of rfl rfl rfl rfl) (ma_cons (me_tup (ma_cons (me_callD (ok_turned_mark m) hr (by omega) (fun z => nomatch z) (takes_of rfl rfl rfl rfl) (ma_cons (me_var 0) (ma_cons (me_var 3) ma_nil)) rfl (aC_len (aC_len aN_len))) (ma_cons (me_callKD ["mark", "kind"] [1, 0] (ok_turned_mark m) hr (by omega) (fun z => nomatch z) (takes_of rfl rfl rfl rfl) (fun _ _ _ _ _ _ => kb_of2 fun _ _ _ => .of_eq rfl) (mk_cons (me_var 3) (mk_cons (me_var 0) mk_nil)) rfl (aC_len (aC_len aN_len))) ma_nil))) (ma_cons (me_op o_mul s_mul (me_tup (ma_cons (me_callD (ok__law_over m) hr (by omega) hG (takes_of rfl rfl rfl rfl) (ma_cons (me_var 0) (ma_cons (me_var 3) ma_nil)) rfl (aC_len (aC_len aN_len))) ma_nil)) me_int) ma_nil)) rfl (aC_len (aC_len aN_len))))) (mss_one (ms_ret me_bl)) mss_nil)
    (mss_one (ms_for (passes_of rfl) rfl (mi_rng1 (m.no n_range) (ma_cons (me_var 1) ma_nil) rfl rfl (aC_len aN_len)) (mg_name (vs := [4]) 4 sc__law_are_all_right.nd) (mss_cons (ms_set 5 sc__law_are_all_right.nd (me_tup (ma_cons (me_callD (ok_sum_of m) hr (by omega) (fun z => nomatch z) (takes_of rfl rfl rfl rfl) (ma_cons (me_var 0) (ma_cons (me_var 3) (ma_cons (me_var 4) ma_nil))) rfl (aC_len (aC_len (aC_len aN_len)))) (ma_cons (me_callD (ok_product_of m) hr (by omega) (fun z => nomatch z) (takes_of rfl rfl rfl rfl) (ma_cons (me_var 0) (ma_cons (me_var 3) (ma_cons (me_var 4) ma_nil))) rfl (aC_len (aC_len (aC_len aN_len)))) (ma_cons (me_callKD ["other", "one", "kind"] [2, 1, 0] (ok_sum_of m) hr (by omega) (fun z => nomatch z) (takes_of rfl rfl rfl rfl) (fun _ _ _ _ _ _ => kb_of3 fun _ _ _ _ => .of_eq rfl) (mk_cons (me_var 4) (mk_cons (me_var 3) (mk_cons (me_var 0) mk_nil))) rfl (aC_len (aC_len (aC_len aN_len)))) ma_nil)))))
    (mss_one (ms_if (mt_not (mt_val (me_callD (ok__law_is_whole m) hr (by omega) hG (takes_of rfl rfl rfl rfl) (ma_cons (me_var 5) (ma_cons (me_tup (ma_cons (me_callD (ok__law_sum m) hr (by omega) hG (takes_of rfl rfl rfl rfl) (ma_cons (me_var 0) (ma_cons (me_var 3) (ma_cons (me_var 4) ma_nil))) rfl (aC_len (aC_len (aC_len aN_len)))) (ma_cons (me_callD (ok__law_product m) hr (by omega) hG (takes_of rfl rfl rfl rfl) (ma_cons (me_var 0) (ma_cons (me_var 3) (ma_cons (me_var 4) ma_nil))) rfl (aC_len (aC_len (aC_len aN_len)))) (ma_cons (me_callD (ok__law_sum m) hr (by omega) hG (takes_of rfl rfl rfl rfl) (ma_cons (me_var 0) (ma_cons (me_var 3) (ma_cons (me_var 4) ma_nil))) rfl (aC_len (aC_len (aC_len aN_len)))) ma_nil)))) ma_nil)) rfl (aC_len (aC_len aN_len))))) (mss_one (ms_ret me_bl)) mss_nil)))))))
    (mss_cons (ms_for (passes_of rfl) rfl (mi_seq (me_var 2)) (mg_name (vs := [3]) 3 sc__law_are_all_right.nd) (mss_cons (ms_set 4 sc__law_are_all_right.nd (me_callD (ok_inverse_of m) hr (by omega) (fun z => nomatch z) (takes_of rfl rfl rfl rfl) (ma_cons (me_var 0) (ma_cons (me_var 3) ma_nil)) rfl (aC_len (aC_len aN_len))))
    (mss_cons (ms_if (PW.pt (mw_or (mt_cmp op_notIn_seq (s_inG true) (me_var 4) (me_var 2)) (mw_or1 (mt_not (mt_val (me_callD (ok__law_is_whole m) hr (by omega) hG (takes_of rfl rfl rfl rfl) (ma_cons (me_tup (ma_cons (me_callD (ok_product_of m) hr (by omega) (fun z => nomatch z) (takes_of rfl rfl rfl rfl) (ma_cons (me_var 0) (ma_cons (me_var 3) (ma_cons (me_var 4) ma_nil))) rfl (aC_len (aC_len (aC_len aN_len)))) (ma_cons (me_callKD ["mark", "kind"] [1, 0] (ok_inverse_of m) hr (by omega) (fun z => nomatch z) (takes_of rfl rfl rfl rfl) (fun _ _ _ _ _ _ => kb_of2 fun _ _ _ => .of_eq rfl) (mk_cons (me_var 4) (mk_cons (me_var 0) mk_nil)) rfl (aC_len (aC_len aN_len))) ma_nil))) (ma_cons (me_tup (ma_cons me_int (ma_cons (me_var 3) ma_nil))) ma_nil)) rfl (aC_len (aC_len aN_len)))))))) (mss_one (ms_ret me_bl)) mss_nil)
    (mss_one (ms_if (mt_not (mt_val (me_callD (ok__law_is_whole m) hr (by omega) hG (takes_of rfl rfl rfl rfl) (ma_cons (me_callD (ok_turned_mark m) hr (by omega) (fun z => nomatch z) (takes_of rfl rfl rfl rfl) (ma_cons (me_var 0) (ma_cons (me_var 3) ma_nil)) rfl (aC_len (aC_len aN_len))) (ma_cons (me_if (mt_cmp (o_eq hr.units) s_eqU (me_var 0) me_str) (me_var 4) (me_var 3)) ma_nil)) rfl (aC_len (aC_len aN_len))))) (mss_one (ms_ret me_bl)) mss_nil)))))
    (mss_one (ms_ret me_bl)))))))
def m__law_are_three_right : Env1 → Sto → Out :=
  (sSeq (sPar 4 5 (aC (eCall f_sum_of (aC (eV 0) (aC (eCall f_sum_of (aC (eV 0) (aC (eV 1) (aC (eV 2) aN)))) (aC (eV 3) aN)))) (aC (eCall f_sum_of (aC (eV 0) (aC (eV 1) (aC (eCall f_sum_of (aC (eV 0) (aC (eV 3) (aC (eV 2) aN)))) aN)))) aN)))
    (sSeq (sIf (tNotM (tB (eCall f__law_is_whole (aC (eTup (aC (eV 4) (aC (eV 5) aN))) (aC (e2 opMul (eTup (aC (eCall f__law_sum (aC (eV 0) (aC (eV 1) (aC (eCall f__law_sum (aC (eV 0) (aC (eV 2) (aC (eV 3) aN)))) aN)))) aN)) (eC (.d (.int 2)))) aN))))) (sRet (eC (.d (.bool false)))) sNx)
    (sSeq (sPar 4 5 (aC (eCall f_product_of (aC (eV 0) (aC (eCall f_product_of (aC (eV 0) (aC (eV 1) (aC (eV 2) aN)))) (aC (eV 3) aN)))) (aC (eCall f_product_of (aC (eV 0) (aC (eV 1) (aC (eCall f_product_of (aC (eV 0) (aC (eV 3) (aC (eV 2) aN)))) aN)))) aN)))
    (sSeq (sIf (tNotM (tB (eCall f__law_is_whole (aC (eTup (aC (eV 4) (aC (eV 5) aN))) (aC (e2 opMul (eTup (aC (eCall f__law_product (aC (eV 0) (aC (eV 1) (aC (eCall f__law_product (aC (eV 0) (aC (eV 2) (aC (eV 3) aN)))) aN)))) aN)) (eC (.d (.int 2)))) aN))))) (sRet (eC (.d (.bool false)))) sNx)
    (sSeq (sSet 4 (eCall f_product_of (aC (eV 0) (aC (eV 1) (aC (eCall f_sum_of (aC (eV 0) (aC (eV 2) (aC (eV 3) aN)))) aN)))))
    (sSeq (sIf (tNotM (tB (eCall f__law_is_whole (aC (eV 4) (aC (eCall f_sum_of (aC (eV 0) (aC (eCall f_product_of (aC (eV 0) (aC (eV 1) (aC (eV 2) aN)))) (aC (eCall f_product_of (aC (eV 0) (aC (eV 1) (aC (eV 3) aN)))) aN)))) aN))))) (sRet (eC (.d (.bool false)))) sNx)
    (sSeq (sSet 4 (eTup (aC (eCall f_turned_mark (aC (eV 0) (aC (eCall f_sum_of (aC (eV 0) (aC (eV 1) (aC (eV 2) aN)))) aN))) (aC (eCall f_turned_mark (aC (eV 0) (aC (eCall f_product_of (aC (eV 0) (aC (eV 1) (aC (eV 2) aN)))) aN))) aN))))
    (sSeq (sPar 6 7 (aC (eCall f_turned_mark (aC (eV 0) (aC (eV 1) aN))) (aC (eCall f_turned_mark (aC (eV 0) (aC (eV 2) aN))) aN)))
    (sRet (eCall f__law_is_whole (aC (eV 4) (aC (eTup (aC (eCall f_sum_of (aC (eV 0) (aC (eV 6) (aC (eV 7) aN)))) (aC (eCall f_product_of (aC (eV 0) (aC (eV 6) (aC (eV 7) aN)))) aN))) aN))))))))))))
def f__law_are_three_right : List M → Sto → R M := fnM 8 m__law_are_three_right
theorem ok__law_are_three_right {w : World} {mg : Str → Option Value} {base : Heap} {g : Cfg} (m : Md w (hd08.heap_39 w.params) mg base g clf) : Dn true PP w (hd08.heap_39 w.params) mg base g 5 "_law_are_three_right" s__law_are_three_right ["_law_kind", "_law_a", "_law_b", "_law_c"] f__law_are_three_right := by
  obtain ⟨fd, F⟩ := d__law_are_three_right (w := w)
  refine dn_mk m F a__law_are_three_right sc__law_are_three_right (fun _ _ _ _ _ _ us hl => match us, hl with | [_, _, _, _], _ => rfl) fun cdv A fr s H E hr hG => ?_
  exact (mss_cons (ms_par 4 5 rfl sc__law_are_three_right.nd (ma_cons (me_callD (ok_sum_of m) hr (by omega) (fun z => nomatch z) (takes_of rfl rfl rfl rfl) (ma_cons (me_var 0) (ma_cons (me_callD (ok_sum_of m) hr (by omega) (fun z => nomatch z) (takes_of rfl rfl rfl rfl) (ma_cons (me_var 0) (ma_cons (me_var 1) (ma_cons (me_var 2) ma_nil))) rfl (aC_len (aC_len (aC_len aN_len)))) (ma_cons (me_var 3) ma_nil))) rfl (aC_len (aC_len (aC_len aN_len)))) (ma_cons (me_callD (ok_sum_of m) hr (by omega) (fun z => nomatch z) (takes_of rfl rfl rfl rfl) (ma_cons (me_var 0) (ma_cons (me_var 1) (ma_cons (me_callD (ok_sum_of m) hr (by omega) (fun z => nomatch z) (takes_of rfl rfl rfl rfl) (ma_cons (me_var 0) (ma_cons (me_var 3) (ma_cons (me_var 2) ma_nil))) rfl (aC_len (aC_len (aC_len aN_len)))) ma_nil))) rfl (aC_len (aC_len (aC_len aN_len)))) ma_nil)))
    (mss_cons (ms_if (mt_not (mt_val (me_callD (ok__law_is_whole m) hr (by omega) hG (takes_of rfl rfl rfl rfl) (ma_cons (me_tup (ma_cons (me_var 4) (ma_cons (me_var 5) ma_nil))) (ma_cons (me_op o_mul s_mul (me_tup (ma_cons (me_callD (ok__law_sum m) hr (by omega) hG (takes_of rfl rfl rfl rfl) (ma_cons (me_var 0) (ma_cons (me_var 1) (ma_cons (me_callD (ok__law_sum m) hr (by omega) hG (takes_of rfl rfl rfl rfl) (ma_cons (me_var 0) (ma_cons (me_var 2) (ma_cons (me_var 3) ma_nil))) rfl (aC_len (aC_len (aC_len aN_len)))) ma_nil))) rfl (aC_len (aC_len (aC_len aN_len)))) ma_nil)) me_int) ma_nil)) rfl (aC_len (aC_len aN_len))))) (mss_one (ms_ret me_bl)) mss_nil)
    (mss_cons (ms_par 4 5 rfl sc__law_are_three_right.nd (ma_cons (me_callD (ok_product_of m) hr (by omega) (fun z => nomatch z) (takes_of rfl rfl rfl rfl) (ma_cons (me_var 0) (ma_cons (me_callD (ok_product_of m) hr (by omega) (fun z => nomatch z) (takes_of rfl rfl rfl rfl) (ma_cons (me_var 0) (ma_cons (me_var 1) (ma_cons (me_var 2) ma_nil))) rfl (aC_len (aC_len (aC_len aN_len)))) (ma_cons (me_var 3) ma_nil))) rfl (aC_len (aC_len (aC_len aN_len)))) (ma_cons (me_callD (ok_product_of m) hr (by omega) (fun z => nomatch z) (takes_of rfl rfl rfl rfl) (ma_cons (me_var 0) (ma_cons (me_var 1) (ma_cons (me_callD (ok_product_of m) hr (by omega) (fun z => nomatch z) (takes_of rfl rfl rfl rfl) (ma_cons (me_var 0) (ma_cons (me_var 3) (ma_cons (me_var 2) ma_nil))) rfl (aC_len (aC_len (aC_len aN_len)))) ma_nil))) rfl (aC_len (aC_len (aC_len aN_len)))) ma_nil)))
    (mss_cons (ms_if (mt_not (mt_val (me_callD (ok__law_is_whole m) hr (by omega) hG (takes_of rfl rfl rfl rfl) (ma_cons (me_tup (ma_cons (me_var 4) (ma_cons (me_var 5) ma_nil))) (ma_cons (me_op o_mul s_mul (me_tup (ma_cons (me_callD (ok__law_product m) hr (by omega) hG (takes_of rfl rfl rfl rfl) (ma_cons (me_var 0) (ma_cons (me_var 1) (ma_cons (me_callD (ok__law_product m) hr (by omega) hG (takes_of rfl rfl rfl rfl) (ma_cons (me_var 0) (ma_cons (me_var 2) (ma_cons (me_var 3) ma_nil))) rfl (aC_len (aC_len (aC_len aN_len)))) ma_nil))) rfl (aC_len (aC_len (aC_len aN_len)))) ma_nil)) me_int) ma_nil)) rfl (aC_len (aC_len aN_len))))) (mss_one (ms_ret me_bl)) mss_nil)
    (mss_cons (ms_set 4 sc__law_are_three_right.nd (me_callD (ok_product_of m) hr (by omega) (fun z => nomatch z) (takes_of rfl rfl rfl rfl) (ma_cons (me_var 0) (ma_cons (me_var 1) (ma_cons (me_callD (ok_sum_of m) hr (by omega) (fun z => nomatch z) (takes_of rfl rfl rfl rfl) (ma_cons (me_var 0) (ma_cons (me_var 2) (ma_cons (me_var 3) ma_nil))) rfl (aC_len (aC_len (aC_len aN_len)))) ma_nil))) rfl (aC_len (aC_len (aC_len aN_len)))))
    (mss_cons (ms_if (mt_not (mt_val (me_callD (ok__law_is_whole m) hr (by omega) hG (takes_of rfl rfl rfl rfl) (ma_cons (me_var 4) (ma_cons (me_callD (ok_sum_of m) hr (by omega) (fun z => nomatch z) (takes_of rfl rfl rfl rfl) (ma_cons (me_var 0) (ma_cons (me_callD (ok_product_of m) hr (by omega) (fun z => nomatch z) (takes_of rfl rfl rfl rfl) (ma_cons (me_var 0) (ma_cons (me_var 1) (ma_cons (me_var 2) ma_nil))) rfl (aC_len (aC_len (aC_len aN_len)))) (ma_cons (me_callD (ok_product_of m) hr (by omega) (fun z => nomatch z) (takes_of rfl rfl rfl rfl) (ma_cons (me_var 0) (ma_cons (me_var 1) (ma_cons (me_var 3) ma_nil))) rfl (aC_len (aC_len (aC_len aN_len)))) ma_nil))) rfl (aC_len (aC_len (aC_len aN_len)))) ma_nil)) rfl (aC_len (aC_len aN_len))))) (mss_one (ms_ret me_bl)) mss_nil)
    (mss_cons (ms_set 4 sc__law_are_three_right.nd (me_tup (ma_cons (me_callD (ok_turned_mark m) hr (by omega) (fun z => nomatch z) (takes_of rfl rfl rfl rfl) (ma_cons (me_var 0) (ma_cons (me_callD (ok_sum_of m) hr (by omega) (fun z => nomatch z) (takes_of rfl rfl rfl rfl) (ma_cons (me_var 0) (ma_cons (me_var 1) (ma_cons (me_var 2) ma_nil))) rfl (aC_len (aC_len (aC_len aN_len)))) ma_nil)) rfl (aC_len (aC_len aN_len))) (ma_cons (me_callD (ok_turned_mark m) hr (by omega) (fun z => nomatch z) (takes_of rfl rfl rfl rfl) (ma_cons (me_var 0) (ma_cons (me_callD (ok_product_of m) hr (by omega) (fun z => nomatch z) (takes_of rfl rfl rfl rfl) (ma_cons (me_var 0) (ma_cons (me_var 1) (ma_cons (me_var 2) ma_nil))) rfl (aC_len (aC_len (aC_len aN_len)))) ma_nil)) rfl (aC_len (aC_len aN_len))) ma_nil))))
    (mss_cons (ms_par 6 7 rfl sc__law_are_three_right.nd (ma_cons (me_callD (ok_turned_mark m) hr (by omega) (fun z => nomatch z) (takes_of rfl rfl rfl rfl) (ma_cons (me_var 0) (ma_cons (me_var 1) ma_nil)) rfl (aC_len (aC_len aN_len))) (ma_cons (me_callD (ok_turned_mark m) hr (by omega) (fun z => nomatch z) (takes_of rfl rfl rfl rfl) (ma_cons (me_var 0) (ma_cons (me_var 2) ma_nil)) rfl (aC_len (aC_len aN_len))) ma_nil)))
    (mss_one (ms_ret (me_callD (ok__law_is_whole m) hr (by omega) hG (takes_of rfl rfl rfl rfl) (ma_cons (me_var 4) (ma_cons (me_tup (ma_cons (me_callD (ok_sum_of m) hr (by omega) (fun z => nomatch z) (takes_of rfl rfl rfl rfl) (ma_cons (me_var 0) (ma_cons (me_var 6) (ma_cons (me_var 7) ma_nil))) rfl (aC_len (aC_len (aC_len aN_len)))) (ma_cons (me_callD (ok_product_of m) hr (by omega) (fun z => nomatch z) (takes_of rfl rfl rfl rfl) (ma_cons (me_var 0) (ma_cons (me_var 6) (ma_cons (me_var 7) ma_nil))) rfl (aC_len (aC_len (aC_len aN_len)))) ma_nil))) ma_nil)) rfl (aC_len (aC_len aN_len)))))))))))))
def m__law_odd : Env1 → Sto → Out :=
  (sSeq (sSet 2 (eCall f__law_draw (aC (eV 0) (aC (eC (.d (.int 4))) aN))))
    (sSeq (sIf (tB (e2 opLt (eV 2) (eC (.d (.int 2))))) (sRet (eCall f__law_draw (aC (eV 0) (aC (eV 1) aN)))) sNx)
    (sRet (eIf (tB (e2 opEqU (eV 2) (eC (.d (.int 2))))) (eCall f__law_pick (aC (eV 0) (aC (eLst (aC (eV 1) (aC (e1 opNeg (eC (.d (.int 1)))) (aC (eC (.d (.bool true))) (aC (eC (.d (.bool false))) (aC (eC (.d .none)) (aC (eC (.d (.str "1"))) (aC (eTup (aC (eC (.d (.int 1))) aN)) (aC (eLst (aC (eC (.d (.int 0))) aN)) (aC (eC (.d (.dict []))) (aC (e2 opPow (eC (.d (.int 10))) (eC (.d (.int 40)))) (aC (eC (.d (.str ""))) (aC (e1 opNeg (eV 1)) (aC (e2 opAdd (eV 1) (eC (.d (.int 1)))) aN)))))))))))))) aN))) (eCall (f__law_any 4) (aC (eV 0) (aC (eC (.d (.int 2))) aN)))))))
def f__law_odd : List M → Sto → R M := fnM 3 m__law_odd
theorem ok__law_odd {w : World} {mg : Str → Option Value} {base : Heap} {g : Cfg} (m : Md w (hd08.heap_39 w.params) mg base g clf) : Dn true PP w (hd08.heap_39 w.params) mg base g 8 "_law_odd" s__law_odd ["_law_deck_here", "_law_q"] f__law_odd := by
  obtain ⟨fd, F⟩ := d__law_odd (w := w)
  refine dn_mk m F a__law_odd sc__law_odd (fun _ _ _ _ _ _ us hl => match us, hl with | [_, _], _ => rfl) fun cdv A fr s H E hr hG => ?_
  exact (mss_cons (ms_set 2 sc__law_odd.nd (me_callD (ok__law_draw m) hr (by omega) hG (takes_of rfl rfl rfl rfl) (ma_cons (me_var 0) (ma_cons me_int ma_nil)) rfl (aC_len (aC_len aN_len))))
    (mss_cons (ms_if (mt_cmp op_lt s_lt (me_var 2) me_int) (mss_one (ms_ret (me_callD (ok__law_draw m) hr (by omega) hG (takes_of rfl rfl rfl rfl) (ma_cons (me_var 0) (ma_cons (me_var 1) ma_nil)) rfl (aC_len (aC_len aN_len))))) mss_nil)
    (mss_one (ms_ret (me_if (mt_cmp (o_eq hr.units) s_eqU (me_var 2) me_int) (me_callD (ok__law_pick m) hr (by omega) hG (takes_of rfl rfl rfl rfl) (ma_cons (me_var 0) (ma_cons (me_lst (ma_cons (me_var 1) (ma_cons (me_un un_neg s_neg me_int) (ma_cons me_bl (ma_cons me_bl (ma_cons me_non (ma_cons me_str (ma_cons (me_tup (ma_cons me_int ma_nil)) (ma_cons (me_lst (ma_cons me_int ma_nil)) (ma_cons me_dicN (ma_cons (me_op op_pow s_pow me_int me_int) (ma_cons me_str (ma_cons (me_un un_neg s_neg (me_var 1)) (ma_cons (me_op o_add s_add (me_var 1) me_int) ma_nil)))))))))))))) ma_nil)) rfl (aC_len (aC_len aN_len))) (me_callD (ok__law_any m 4) hr (by omega) hG (takes_of rfl rfl rfl rfl) (ma_cons (me_var 0) (ma_cons me_int ma_nil)) rfl (aC_len (aC_len aN_len))))))))
def m__law_is_mark : Env1 → Sto → Out :=
  (sRet (eAndM (ePrim pIsi (aC (eV 1) (aC (eC (.ty "int")) aN))) (eAndM (eNotM (ePrim pIsi (aC (eV 1) (aC (eC (.ty "bool")) aN)))) (eChain opLe opLt (eC (.d (.int 0))) (eV 1) (eV 0)))))
def f__law_is_mark : List M → Sto → R M := fnM 2 m__law_is_mark
theorem ok__law_is_mark {w : World} {mg : Str → Option Value} {base : Heap} {g : Cfg} (m : Md w (hd08.heap_39 w.params) mg base g clf) : Dn true PP w (hd08.heap_39 w.params) mg base g 1 "_law_is_mark" s__law_is_mark ["_law_q", "_law_thing"] f__law_is_mark := by
  obtain ⟨fd, F⟩ := d__law_is_mark (w := w)
  refine dn_mk m F a__law_is_mark sc__law_is_mark (fun _ _ _ _ _ _ us hl => match us, hl with | [_, _], _ => rfl) fun cdv A fr s H E hr hG => ?_
  exact (mss_one (ms_ret (me_andc (me_callB call_isi s_isi (m.no n_isinstance) rfl (ma_cons (me_var 1) (ma_cons (me_ty "int" (m.no n_int) rfl) ma_nil))) (me_andc (me_not (me_callB call_isi s_isi (m.no n_isinstance) rfl (ma_cons (me_var 1) (ma_cons (me_ty "bool" (m.no n_bool) rfl) ma_nil)))) (me_one (me_chain op_le op_lt s_le s_lt me_int (me_var 1) (me_var 0)))))))
def m__law_due : Env1 → Sto → Out :=
  (sSeq (sIf (tOrM (tNotM (tB (ePrim pIsi (aC (eV 1) (aC (eC (.ty "str")) aN))))) (tB (e2 opNotIn (eV 1) (eTup (aC (eC (.d (.str "two"))) (aC (eC (.d (.str "three"))) (aC (eC (.d (.str "four"))) (aC (eC (.d (.str "ring"))) aN)))))))) (sRet (eTup (aC (eC (.d (.str "BadKind"))) (aC (eV 1) (aC (eC (.d (.bool true))) (aC (eC (.d (.bool false))) aN)))))) sNx)
    (sSeq (sSet 4 (eCall f__law_size (aC (eV 1) aN)))
    (sSeq (sFor (iSeq (eSl (eLst (aC (eV 2) (aC (eV 3) aN))) oN (oS (eIf (tB (e2 opLt (eV 0) (eC (.d (.int 2))))) (eC (.d (.int 2))) (eC (.d (.int 1))))))) (tgN 5) (sIf (tAndM (tB (e2 opLt (eV 0) (eC (.d (.int 4))))) (tNotM (tB (eCall f__law_is_mark (aC (eV 4) (aC (eV 5) aN)))))) (sRet (eTup (aC (eC (.d (.str "BadMark"))) (aC (eV 5) (aC (eC (.d (.bool true))) (aC (eC (.d (.bool false))) aN)))))) sNx))
    (sSeq (sIf (tB (e2 opGt (eV 0) (eC (.d (.int 3))))) (sSeq (sSet 7 (eDic (((eC (.d (.str "two"))), (eTup (aC (eC (.d (.int 1))) aN))) :: (((eC (.d (.str "three"))), (eTup (aC (eC (.d (.int 1))) (aC (eC (.d (.int 2))) aN)))) :: (((eC (.d (.str "four"))), (eTup (aC (eC (.d (.int 1))) (aC (eC (.d (.int 2))) (aC (eC (.d (.int 3))) aN))))) :: (((eC (.d (.str "ring"))), (eTup (aC (eC (.d (.int 1))) (aC (eC (.d (.int 3))) aN)))) :: []))))))
    (sRet (eTup (aC (eC (.d (.str "returned"))) (aC (eIf (tB (e2 opEqU (eV 0) (eC (.d (.int 4))))) (eV 4) (e2 opIx (eV 7) (eV 1))) aN))))) sNx)
    (sSeq (sIf (tB (e2 opLt (eV 0) (eC (.d (.int 2))))) (sRet (eTup (aC (eC (.d (.str "returned"))) (aC (eIf (tB (e2 opEqU (eV 0) (eC (.d (.int 0))))) (eCall f__law_sum (aC (eV 1) (aC (eV 2) (aC (eV 3) aN)))) (eCall f__law_product (aC (eV 1) (aC (eV 2) (aC (eV 3) aN))))) aN)))) sNx)
    (sSeq (sIf (tB (e2 opEqU (eV 0) (eC (.d (.int 2))))) (sRet (eTup (aC (eC (.d (.str "returned"))) (aC (eCall f__law_over (aC (eV 1) (aC (eV 2) aN))) aN)))) sNx)
    (sSeq (sSet 6 (eLc [8] (iRng (aC (eV 4) aN)) (tgN 8) (tB (e2 opEqU (eCall f__law_product (aC (eV 1) (aC (eV 2) (aC (eV 8) aN)))) (eC (.d (.int 1))))) (eV 8)))
    (sRet (eIf (tB (e2 opNeU (eV 6) (eLst aN))) (eTup (aC (eC (.d (.str "returned"))) (aC (e2 opIx (eV 6) (eC (.d (.int 0)))) aN))) (eTup (aC (eC (.d (.str "BadMark"))) (aC (eV 2) (aC (eC (.d (.bool true))) (aC (eC (.d (.bool false))) aN))))))))))))))
def f__law_due : List M → Sto → R M := fnM 9 m__law_due
theorem ok__law_due {w : World} {mg : Str → Option Value} {base : Heap} {g : Cfg} (m : Md w (hd08.heap_39 w.params) mg base g clf) : Dn true PP w (hd08.heap_39 w.params) mg base g 4 "_law_due" s__law_due ["_law_way", "_law_kind", "_law_one", "_law_other"] f__law_due := by
  obtain ⟨fd, F⟩ := d__law_due (w := w)
  refine dn_mk m F a__law_due sc__law_due (fun _ _ _ _ _ _ us hl => match us, hl with | [_, _, _, _], _ => rfl) fun cdv A fr s H E hr hG => ?_
  exact (mss_cons (ms_if (PW.pt (mw_or (mt_not (mt_val (me_callB call_isi s_isi (m.no n_isinstance) rfl (ma_cons (me_var 1) (ma_cons (me_ty "str" (m.no n_str) rfl) ma_nil))))) (mw_or1 (mt_cmp op_notIn_seq (s_inG true) (me_var 1) (me_tup (ma_cons me_str (ma_cons me_str (ma_cons me_str (ma_cons me_str ma_nil))))))))) (mss_one (ms_ret (me_tup (ma_cons me_str (ma_cons (me_var 1) (ma_cons me_bl (ma_cons me_bl ma_nil))))))) mss_nil)
    (mss_cons (ms_set 4 sc__law_due.nd (me_callD (ok__law_size m) hr (by omega) hG (takes_of rfl rfl rfl rfl) (ma_cons (me_var 1) ma_nil) rfl (aC_len aN_len)))
    (mss_cons (ms_for (passes_of rfl) rfl (mi_seq (me_sl (me_lst (ma_cons (me_var 2) (ma_cons (me_var 3) ma_nil))) mo_none (mo_some (me_if (mt_cmp op_lt s_lt (me_var 0) me_int) me_int me_int)))) (mg_name (vs := [5]) 5 sc__law_due.nd) (mss_one (ms_if (PW.pt (mw_and (mt_cmp op_lt s_lt (me_var 0) me_int) (mw_and1 (mt_not (mt_val (me_callD (ok__law_is_mark m) hr (by omega) hG (takes_of rfl rfl rfl rfl) (ma_cons (me_var 4) (ma_cons (me_var 5) ma_nil)) rfl (aC_len (aC_len aN_len)))))))) (mss_one (ms_ret (me_tup (ma_cons me_str (ma_cons (me_var 5) (ma_cons me_bl (ma_cons me_bl ma_nil))))))) mss_nil)))
    (mss_cons (ms_if (mt_cmp op_gt s_gt (me_var 0) me_int) (mss_cons (ms_set 7 sc__law_due.nd (me_dic (mp_cons me_str (me_tup (ma_cons me_int ma_nil)) (mp_cons me_str (me_tup (ma_cons me_int (ma_cons me_int ma_nil))) (mp_cons me_str (me_tup (ma_cons me_int (ma_cons me_int (ma_cons me_int ma_nil)))) (mp_cons me_str (me_tup (ma_cons me_int (ma_cons me_int ma_nil))) mp_nil))))))
    (mss_one (ms_ret (me_tup (ma_cons me_str (ma_cons (me_if (mt_cmp (o_eq hr.units) s_eqU (me_var 0) me_int) (me_var 4) (me_ix (hu_of hr) m.gw (me_var 7) (me_var 1))) ma_nil)))))) mss_nil)
    (mss_cons (ms_if (mt_cmp op_lt s_lt (me_var 0) me_int) (mss_one (ms_ret (me_tup (ma_cons me_str (ma_cons (me_if (mt_cmp (o_eq hr.units) s_eqU (me_var 0) me_int) (me_callD (ok__law_sum m) hr (by omega) hG (takes_of rfl rfl rfl rfl) (ma_cons (me_var 1) (ma_cons (me_var 2) (ma_cons (me_var 3) ma_nil))) rfl (aC_len (aC_len (aC_len aN_len)))) (me_callD (ok__law_product m) hr (by omega) hG (takes_of rfl rfl rfl rfl) (ma_cons (me_var 1) (ma_cons (me_var 2) (ma_cons (me_var 3) ma_nil))) rfl (aC_len (aC_len (aC_len aN_len))))) ma_nil))))) mss_nil)
    (mss_cons (ms_if (mt_cmp (o_eq hr.units) s_eqU (me_var 0) me_int) (mss_one (ms_ret (me_tup (ma_cons me_str (ma_cons (me_callD (ok__law_over m) hr (by omega) hG (takes_of rfl rfl rfl rfl) (ma_cons (me_var 1) (ma_cons (me_var 2) ma_nil)) rfl (aC_len (aC_len aN_len))) ma_nil))))) mss_nil)
    (mss_cons (ms_setLc 6 (own := [("_law_b", 8)]) rfl sc__law_due.nd (mi_rng1 (m.no n_range) (ma_cons (me_var 4) ma_nil) rfl rfl (aC_len aN_len)) ⟨rfl, by decide +kernel, (by dsimp only [cxOf, envOfC, compEnvC, PySem.W.envX, relabel, Env.kindOf]; first | decide +kernel | ((repeat refine List.forall_mem_cons.mpr ⟨fun hk => by first | exact absurd hk (by decide) | exact .inl rfl | exact .inr rfl | exact .inl (by decide +kernel) | exact .inr (by decide +kernel), ?_⟩); exact fun _ h => absurd h (by simp))), (by dsimp only [cxOf, envOfC, compEnvC, PySem.W.envX, relabel, Env.kindOf]; first | decide +kernel | ((repeat refine List.forall_mem_cons.mpr ⟨fun hk => by first | exact absurd hk (by decide) | exact .inl rfl | exact .inr rfl | exact .inl (by decide +kernel) | exact .inr (by decide +kernel), ?_⟩); exact fun _ h => absurd h (by simp))), (by dsimp only [cxOf, envOfC, compEnvC, PySem.W.envX, relabel, Env.kindOf]; first | decide +kernel | ((repeat refine List.forall_mem_cons.mpr ⟨fun hk => by first | exact absurd hk (by decide) | exact .inl rfl | exact .inr rfl | exact .inl (by decide +kernel) | exact .inr (by decide +kernel), ?_⟩); exact fun _ h => absurd h (by simp)))⟩ (fun s H C cl fp => (mg_name (vs := [8]) 8 sc__law_due.nd)) (fun s H C cl fp => (mts_one (mt_cmp (o_eq hr.units) s_eqU (me_callD (ok__law_product m) hr (by omega) hG LamX.takes0 (ma_cons (me_var 1) (ma_cons (me_var 2) (ma_cons (me_var 8) ma_nil))) rfl (aC_len (aC_len (aC_len aN_len)))) me_int))) (fun s H C cl fp => (me_var 8)) rfl)
    (mss_one (ms_ret (me_if (mt_cmp (o_ne hr.units) s_neU (me_var 6) (me_lst ma_nil)) (me_tup (ma_cons me_str (ma_cons (me_ix (hu_of hr) m.gw (me_var 6) me_int) ma_nil))) (me_tup (ma_cons me_str (ma_cons (me_var 2) (ma_cons me_bl (ma_cons me_bl ma_nil)))))))))))))))
end K08

end
section
set_option maxRecDepth 100000
set_option maxHeartbeats 0
namespace K08
open PySem PySem.Spec L2 Mr
open PyProof.Rows hiding St
def subK : Nat → Option Bool
  | 0 => some false
  | 1 => some true
  | 2 => some false
  | _ => none
def subM : Nat → Option Bool
  | 0 => some false
  | 1 => some false
  | 2 => some true
  | _ => none
def kt : Nat → Addr → Option Bool
  | 1, 24 => some true
  | 1, 63 => some false
  | 2, 24 => some true
  | 2, 44 => some false
  | _, _ => none
theorem exK {w : World} : ∀ (c : Nat) (b : Bool), subK c = some b → PySem.W.exmOne (hd08.heap_39 w.params) (.ref (clf c)) (.ref 44) = some b
  | 0, b, h => by cases h; exact PySem.W.exm_ref (by k_is) (by k_is) (by k_is) (by k_is)
  | 1, b, h => by cases h; exact PySem.W.exm_ref (by k_is) (by k_is) (by k_is) (by k_is)
  | 2, b, h => by cases h; exact PySem.W.exm_ref (by k_is) (by k_is) (by k_is) (by k_is)
  | n + 3, b, h => by cases h
theorem exM {w : World} : ∀ (c : Nat) (b : Bool), subM c = some b → PySem.W.exmOne (hd08.heap_39 w.params) (.ref (clf c)) (.ref 63) = some b
  | 0, b, h => by cases h; exact PySem.W.exm_ref (by k_is) (by k_is) (by k_is) (by k_is)
  | 1, b, h => by cases h; exact PySem.W.exm_ref (by k_is) (by k_is) (by k_is) (by k_is)
  | 2, b, h => by cases h; exact PySem.W.exm_ref (by k_is) (by k_is) (by k_is) (by k_is)
  | n + 3, b, h => by cases h
theorem kt1 {w : World} : PySem.W.kitOne (hd08.heap_39 w.params) (.ref 44) (.ref 24) = some true := by kit_is
theorem kt2 {w : World} : PySem.W.kitOne (hd08.heap_39 w.params) (.ref 44) (.ref 63) = some false := by kit_is
theorem kt3 {w : World} : PySem.W.kitOne (hd08.heap_39 w.params) (.ref 63) (.ref 24) = some true := by kit_is
theorem kt4 {w : World} : PySem.W.kitOne (hd08.heap_39 w.params) (.ref 63) (.ref 44) = some false := by kit_is
theorem ec_44 {w : World} : ExcC (hd08.heap_39 w.params) 44 := ⟨by k_is, by k_is, by k_is, by k_is, by k_is, by k_is, by k_is, by k_is⟩
theorem ec_63 {w : World} : ExcC (hd08.heap_39 w.params) 63 := ⟨by k_is, by k_is, by k_is, by k_is, by k_is, by k_is, by k_is, by k_is⟩
theorem hd_called {w : World} : PySem.W.codeHdIn (hd08.heap_39 w.params) 300 296 = true := by rfl
theorem lk_called {w : World} : ∃ (oc : Value) (od : Option Addr) (osl : Array (Option Value)) (kV doc pm : Value) (an : Option Addr) (ct : Value), (hd08.heap_39 w.params).lookup 301 = some ⟨oc, od, .func (PySem.W.fnOf "_law_called" "_law_called" (defArgs s__law_called) (defBody s__law_called) (defScope s__law_called) .none kV doc pm an (.ref 300) ct), osl⟩ := ⟨_, _, _, _, _, _, _, _, by k_is⟩
theorem cd_called {w : World} : PySem.W.codeIn (hd08.heap_39 w.params) (.ref 300) "_law_called" = true := by k_is
theorem kp_called {w : World} : PySem.W.keepIn (hd08.heap_39 w.params) (.ref 301) = true := by k_is
end K08

end
section
set_option maxRecDepth 100000
set_option maxHeartbeats 0
namespace K08
open PySem PySem.Spec L2 Mr
open PyProof.Rows hiding St
def suK : Env1 → Sto → R (List M) := aC (eC (.d (.str "BadKind"))) (aC (eFld "thing" (eV 1)) (aC (ePrim (pIsX kt) (aC (eV 1) (aC (eC (.fn 24)) aN))) (aC (ePrim (pIsX kt) (aC (eV 1) (aC (eC (.fn 63)) aN))) aN)))
def suM : Env1 → Sto → R (List M) := aC (eC (.d (.str "BadMark"))) (aC (eFld "thing" (eV 1)) (aC (ePrim (pIsX kt) (aC (eV 1) (aC (eC (.fn 24)) aN))) (aC (ePrim (pIsX kt) (aC (eV 1) (aC (eC (.fn 44)) aN))) aN)))
theorem suK_pure : PureA suK := pure_cons (pure_c _) (pure_cons (pure_fld (pure_v _)) (pure_cons (pure_prim (pure_cons (pure_v _) (pure_cons (pure_c _) pure_nil))) (pure_cons (pure_prim (pure_cons (pure_v _) (pure_cons (pure_c _) pure_nil))) pure_nil)))
theorem suM_pure : PureA suM := pure_cons (pure_c _) (pure_cons (pure_fld (pure_v _)) (pure_cons (pure_prim (pure_cons (pure_v _) (pure_cons (pure_c _) pure_nil))) (pure_cons (pure_prim (pure_cons (pure_v _) (pure_cons (pure_c _) pure_nil))) pure_nil)))
def bT (f : Addr) (call : Sto → R M) : Env1 → Sto → Out := sTry (sRet (eTup (aC (eC (.d (.str "returned"))) (aC (fAct f call) aN)))) [(subK, 1, sRet (eTup suK)), (subM, 1, sRet (eTup suM))]
abbrev clsL : List ((Nat → Option Bool) × Nat × (Env1 → Sto → Out)) := [(subK, 1, sRet (eTup suK)), (subM, 1, sRet (eTup suM))]
def trO : R M → R M
  | .ok v S1 => lift ((dsOf [.d (.str "returned"), v]).map fun ds => .d (.tuple ds)) S1
  | .rz c x S1 => ansOf (hdl clsL c x [some (.fn 0), none] S1)
  | .bad => .bad
def tr (call : Sto → R M) (S : Sto) : R M := trO (call S)
theorem eV_same {e e2 : Env1} (h : e[1]? = e2[1]?) : eV 1 e = eV 1 e2 := by
  funext S
  unfold eV
  rw [h]
theorem suK_same {e e2 : Env1} (h : e[1]? = e2[1]?) (S : Sto) : suK e S = suK e2 S := by
  have q := eV_same h
  unfold suK aC eFld ePrim eC aN
  simp only [q]
theorem suM_same {e e2 : Env1} (h : e[1]? = e2[1]?) (S : Sto) : suM e S = suM e2 S := by
  have q := eV_same h
  unfold suM aC eFld ePrim eC aN
  simp only [q]
theorem ans_su {fs : Env1 → Sto → R (List M)} {e e2 : Env1} {S : Sto} (h : fs e S = fs e2 S) : ansOf (suiteO (sRet (eTup fs) e S)) = ansOf (suiteO (sRet (eTup fs) e2 S)) := by
  unfold sRet eTup
  simp only [h]
  cases (fs e2 S).bind fun ms S1 => if ms.length ≤ 1000 then lift ((dsOf ms).map fun ds => M.d (.tuple ds)) S1 else R.bad <;> rfl
theorem hdl_same (f : Addr) (c : Nat) (x : Option (Str × PyData)) (S : Sto) : ansOf (hdl clsL c x [some (.fn f), none] S) = ansOf (hdl clsL c x [some (.fn 0), none] S) := by
  simp only [hdl]
  cases subK c with
  | none => rfl
  | some b =>
    cases b with
    | true => exact ans_su (suK_same rfl S)
    | false =>
      cases subM c with
      | none => rfl
      | some b =>
        cases b with
        | true => exact ans_su (suM_same rfl S)
        | false => rfl
theorem hT (f : Addr) (call : Sto → R M) (S : Sto) : fnM 2 (bT f call) [.fn f] S = tr call S := by
  have act : fAct f call [some (.fn f), none] S = call S := by
    unfold fAct
    show (if f = f then call S else .bad) = call S
    rw [if_pos rfl]
  unfold tr fnM
  show ansOf (bT f call [some (.fn f), none] S) = trO (call S)
  unfold bT sTry sRet eTup aC
  show ansOf (match (((R.bind (fAct f call [some (.fn f), none] S) _).bind _).bind _).toS _ _ with | .rz c x e1 S1 => hdl clsL c x e1 S1 | o => o) = trO (call S)
  rw [act]
  cases call S with
  | ok v S1 =>
    show ansOf (match (lift ((dsOf [.d (.str "returned"), v]).map fun ds => M.d (.tuple ds)) S1).toS [some (.fn f), none] (fun m S1 => .rt m S1) with | .rz c x e1 S1 => hdl clsL c x e1 S1 | o => o) = lift ((dsOf [.d (.str "returned"), v]).map fun ds => M.d (.tuple ds)) S1
    cases (dsOf [.d (.str "returned"), v]) <;> rfl
  | rz c x S1 => exact hdl_same f c x S1
  | bad => rfl
section
variable {w : World} {mg : Str → Option Value} {base : Heap} {g : Cfg} {k : Nat}
theorem only1 : ∀ c, subK c = some true → c = 1
  | 0, h => by cases h
  | 1, _ => rfl
  | 2, h => by cases h
  | n + 3, h => by cases h
theorem only2 : ∀ c, subM c = some true → c = 2
  | 0, h => by cases h
  | 1, h => by cases h
  | 2, _ => rfl
  | n + 3, h => by cases h
theorem cls_of {n : Nat} {g2 : Cfg} (m : Md w (hd08.heap_39 w.params) mg base g clf) (e : g2.cl = g.cl) : g2.cl n = clf n := by rw [e, m.cls]
theorem tried_ok (m : Md w (hd08.heap_39 w.params) mg base g clf) {X : Cx} (cg2 : Cfg) (f : Addr) (E : XK) (call : Sto → R M) (hx : cg2.ex = g.ex) (hc : cg2.cl = g.cl) {A : Around} {fr : List Env} {s : Shared} {H : Hp} {cdv : Value}
    (act : ∀ (W : WX) (pn : List (Addr × Obj)) (xe : Value → Shared → Prop) (p1 p2 : Pos), Takes ((cxOf (L2.CX PP w) PP w (hd08.heap_39 w.params) mg base ["_law_call", "e"] "_law_tried" (defScope s__law_tried) 289 cdv A fr s H E).tr pn xe) W →
      ME ((cxOf (L2.CX PP w) PP w (hd08.heap_39 w.params) mg base ["_law_call", "e"] "_law_tried" (defScope s__law_tried) 289 cdv A fr s H E).tr pn xe) cg2 W (.Call (.Name "_law_call" p1) [] [] p2) (fAct f call)) :
    MSs (cxOf (L2.CX PP w) PP w (hd08.heap_39 w.params) mg base ["_law_call", "e"] "_law_tried" (defScope s__law_tried) 289 cdv A fr s H E) cg2 (fun c d _ H' => E c d H') (defBody s__law_tried) (bT f call) := by
  have hK : ∀ c b, subK c = some b → PySem.W.exmOne (hd08.heap_39 w.params) (.ref (cg2.cl c)) (.ref 44) = some b := fun c b h => by rw [cls_of m hc]; exact exK c b h
  have hM : ∀ c b, subM c = some b → PySem.W.exmOne (hd08.heap_39 w.params) (.ref (cg2.cl c)) (.ref 63) = some b := fun c b h => by rw [cls_of m hc]; exact exM c b h
  have T1 := et_BadKind m
  have T2 := et_BadMark m
  rw [m.cls] at T1 T2
  have e1 : cg2.cl 1 = 44 := cls_of m hc
  have e2 : cg2.cl 2 = 63 := cls_of m hc
  have t1 : XfC (hd08.heap_39 w.params) (cg2.cl 1) := by rw [e1]; exact MrE.ErrT.xf T1
  have t2 : XfC (hd08.heap_39 w.params) (cg2.cl 2) := by rw [e2]; exact MrE.ErrT.xf T2
  have n1 : PySem.W.findIn (hd08.heap_39 w.params) (.ref (cg2.cl 1)) "thing" = some none := by rw [e1]; exact T1.noN
  have n2 : PySem.W.findIn (hd08.heap_39 w.params) (.ref (cg2.cl 2)) "thing" = some none := by rw [e2]; exact T2.noN
  have c1 : ExcC (hd08.heap_39 w.params) (cg2.cl 1) := by rw [e1]; exact ec_44
  have c2 : ExcC (hd08.heap_39 w.params) (cg2.cl 2) := by rw [e2]; exact ec_63
  have i1 : ∀ C b, kt 1 C = some b → PySem.W.kitOne (hd08.heap_39 w.params) (.ref (cg2.cl 1)) (.ref C) = some b := fun C b h => by
    rw [e1]
    unfold kt at h
    split at h
    · cases h; exact kt1
    · cases h; exact kt2
    · rename_i q; cases q
    · rename_i q; cases q
    · cases h
  have i2 : ∀ C b, kt 2 C = some b → PySem.W.kitOne (hd08.heap_39 w.params) (.ref (cg2.cl 2)) (.ref C) = some b := fun C b h => by
    rw [e2]
    unfold kt at h
    split at h
    · rename_i q; cases q
    · rename_i q; cases q
    · cases h; exact kt3
    · cases h; exact kt4
    · cases h
  have nI : mg "isinstance" = none := m.no n_isinstance
  refine mss_one (ms_try (by rw [hx]; exact m.ex) rfl rfl sc__law_tried.nd (takes_of rfl rfl rfl rfl) (fun W pn xe tk _ => mss_one (ms_ret (me_tup (ma_cons me_str (ma_cons (act W pn xe _ _ tk) ma_nil)))))
    (.cons ⟨rfl, by decide, .inl (m.at_ g_BadKind)⟩ rfl rfl hK (tells_tup suK_pure) (fun c hc a oe d pn hz hf => ?_) (.cons ⟨rfl, by decide, .inl (m.at_ g_BadMark)⟩ rfl rfl hM (tells_tup suM_pure) (fun c hc a oe d pn hz hf => ?_) .nil)))
  · obtain rfl := only1 c hc
    exact mss_one (ms_ret (me_tup (ma_cons me_str (ma_cons (me_fld t1 n1 hz hf (me_var 1)) (ma_cons (me_callB (call_isX c1 hz hf) (s_isX i1) nI rfl (ma_cons (me_var 1) (ma_cons (me_glob (v := .ref 24) rfl (m.at_ g_BookError) rfl fun _ _ _ => rfl) ma_nil)))
      (ma_cons (me_callB (call_isX c1 hz hf) (s_isX i1) nI rfl (ma_cons (me_var 1) (ma_cons (me_glob (v := .ref 63) rfl (m.at_ g_BadMark) rfl fun _ _ _ => rfl) ma_nil))) ma_nil))))))
  · obtain rfl := only2 c hc
    exact mss_one (ms_ret (me_tup (ma_cons me_str (ma_cons (me_fld t2 n2 hz hf (me_var 1)) (ma_cons (me_callB (call_isX c2 hz hf) (s_isX i2) nI rfl (ma_cons (me_var 1) (ma_cons (me_glob (v := .ref 24) rfl (m.at_ g_BookError) rfl fun _ _ _ => rfl) ma_nil)))
      (ma_cons (me_callB (call_isX c2 hz hf) (s_isX i2) nI rfl (ma_cons (me_var 1) (ma_cons (me_glob (v := .ref 44) rfl (m.at_ g_BadKind) rfl fun _ _ _ => rfl) ma_nil))) ma_nil))))))
end
end K08

end
section
set_option maxRecDepth 100000
set_option maxHeartbeats 0
namespace K08
open PySem PySem.Spec L2 Mr
open PyProof.Rows hiding St
abbrev lamN : Str := ("_law_called" : Str) ++ ".<locals>." ++ "<lambda>"
section
variable {w : World} {mg : Str → Option Value} {base : Heap} {g : Cfg} {k : Nat}
noncomputable abbrev XC (w : World) (mg : Str → Option Value) (base : Heap) (A : Around) (fr : List Env) (s : Shared) (H : Hp) (E : XK) : Cx := cxOf (L2.CX PP w) PP w (hd08.heap_39 w.params) mg base ["_law_way", "_law_look", "_law_kind", "_law_one", "_law_other"] "_law_called" (defScope s__law_called) 301 (.ref 300) A fr s H E
theorem me_triedL {A0 : Around} {fr0 : List Env} {s0 : Shared} {H0 : Hp} {E0 : XK} {params : Arguments} {body : Expr} {scope : Scope} {p lpos pos : Pos} {fb : Env1 → Sto → R M} (m : Md w (hd08.heap_39 w.params) mg base g clf) (gT : g.T = [(296, lamN)]) (tb : LamX.TabB base mg 300 296)
    (hr : Room (k + 2) (XC w mg base A0 fr0 s0 H0 E0).A)
    (hbody : ∀ (A : Around) (outer : List Env) (s : Shared) (H : Hp) (E : XK) (f c' : Addr), Room k (A.deeper (LamX.lamEnv (XC w mg base A0 fr0 s0 H0 E0) scope s.heap.objs.size f c')) → ME (LamX.lamCx (XC w mg base A0 fr0 s0 H0 E0) A outer s H E scope f c') g (fun c d _ H' => E c d H') body fb)
    (L : LamX.lamSB (defScope s__law_called) scope = true := by decide +kernel) (hdef : defaultsOf params (XC w mg base A0 fr0 s0 H0 E0).env = ([], []) := by rfl)
    (hbind : ∀ (q : Str) (cl : List (Str × Addr)) (pm cv ctv : Value), bindArgs (PySem.W.kla_fn "<lambda>" q params body scope cl pm cv ctv) ⟨[], []⟩ = pure [] := by intros; rfl) :
    ME (XC w mg base A0 fr0 s0 H0 E0) g (fun c d _ H' => E0 c d H') (.Call (.Name "_law_tried" p) [.Lambda params body scope lpos] [] pos) (eLam tr fb) := by
  obtain ⟨fd, F⟩ := d__law_tried (w := w)
  obtain ⟨oc, od, kV, doc, pm, an, cdv, ct, osl, rfl, lk, hcd⟩ := F.ex
  have b1 := F.binds (ps := ["_law_call"]) fun _ _ _ _ _ _ us hl => match us, hl with | [_], _ => rfl
  refine me_lam (cg := g) (c := 300) (P := 296) (Ng := ["_law_call", "e"]) rfl (m.at_ a__law_tried) F.kp (takes_of rfl rfl rfl rfl) lk hcd b1 sc__law_tried rfl (.inl rfl) tb rfl (by rw [gT]; exact List.mem_cons_self) (fun q hq e => ?_) hr (LamX.lamS_by L) hdef hbind hbody (fun cg2 f s H E call hx hc hr2 act => tried_ok (X := XC w mg base A0 fr0 s0 H0 E0) m cg2 f E call hx hc act) (fun f call S => hT f call S)
  rw [gT] at hq
  rw [List.mem_singleton.mp hq]
  rfl
end
def m__law_called : Env1 → Sto → Out :=
  (sSeq (sIf (tB (e2 opEqU (eV 0) (eC (.d (.int 0))))) (sRet (eLam tr (eIf (tB (eV 1)) (eCall f_sum_of (aC (eV 2) (aC (eV 3) (aC (eV 4) aN)))) (eCallK [1, 2, 0] f_sum_of (aC (eV 4) (aC (eV 2) (aC (eV 3) aN))))))) sNx)
    (sSeq (sIf (tB (e2 opEqU (eV 0) (eC (.d (.int 1))))) (sRet (eLam tr (eIf (tB (eV 1)) (eCall f_product_of (aC (eV 2) (aC (eV 3) (aC (eV 4) aN)))) (eCallK [2, 0, 1] f_product_of (aC (eV 3) (aC (eV 4) (aC (eV 2) aN))))))) sNx)
    (sSeq (sIf (tB (e2 opEqU (eV 0) (eC (.d (.int 2))))) (sRet (eLam tr (eIf (tB (eV 1)) (eCall f_turned_mark (aC (eV 2) (aC (eV 3) aN))) (eCallK [1, 0] f_turned_mark (aC (eV 3) (aC (eV 2) aN)))))) sNx)
    (sSeq (sIf (tB (e2 opEqU (eV 0) (eC (.d (.int 3))))) (sRet (eLam tr (eIf (tB (eV 1)) (eCall f_inverse_of (aC (eV 2) (aC (eV 3) aN))) (eCallK [0, 1] f_inverse_of (aC (eV 2) (aC (eV 3) aN)))))) sNx)
    (sSeq (sIf (tB (e2 opEqU (eV 0) (eC (.d (.int 4))))) (sRet (eLam tr (eIf (tB (eV 1)) (eCall f_size_of (aC (eV 2) aN)) (eCallK [0] f_size_of (aC (eV 2) aN))))) sNx)
    (sRet (eLam tr (eIf (tB (eV 1)) (eCall f_units_of (aC (eV 2) aN)) (eCallK [0] f_units_of (aC (eV 2) aN))))))))))
def f__law_called : List M → Sto → R M := fnM 5 m__law_called
theorem ok__law_called {w : World} {mg : Str → Option Value} {base : Heap} {g : Cfg} (m : Md w (hd08.heap_39 w.params) mg base g clf) (gT : g.T = [(296, lamN)]) (tb : LamX.TabB base mg 300 296) : Dn true PP w (hd08.heap_39 w.params) mg base g 7 "_law_called" s__law_called ["_law_way", "_law_look", "_law_kind", "_law_one", "_law_other"] f__law_called := by
  obtain ⟨oc, od, osl, kV, doc, pm, an, ct, lk⟩ := lk_called (w := w)
  refine dn_mkC m lk cd_called kp_called a__law_called sc__law_called (fun _ _ _ _ _ _ us hl => match us, hl with | [_, _, _, _, _], _ => rfl) fun A fr s H E hr hG => ?_
  exact (mss_cons (ms_if (mt_cmp (o_eq hr.units) s_eqU (me_var 0) me_int) (mss_one (ms_ret (me_triedL m gT tb hr (fun A outer s H E f c hr2 => (me_if (mt_val (me_var 1)) (me_callD (ok_sum_of m) hr2 (by omega) (fun z => nomatch z) (takes_of rfl rfl rfl rfl) (ma_cons (me_var 2) (ma_cons (me_var 3) (ma_cons (me_var 4) ma_nil))) rfl (aC_len (aC_len (aC_len aN_len)))) (me_callKD ["other", "kind", "one"] [1, 2, 0] (ok_sum_of m) hr2 (by omega) (fun z => nomatch z) (takes_of rfl rfl rfl rfl) (fun _ _ _ _ _ _ => kb_of3 fun _ _ _ _ => .of_eq rfl) (mk_cons (me_var 4) (mk_cons (me_var 2) (mk_cons (me_var 3) mk_nil))) rfl (aC_len (aC_len (aC_len aN_len))))))))) mss_nil)
    (mss_cons (ms_if (mt_cmp (o_eq hr.units) s_eqU (me_var 0) me_int) (mss_one (ms_ret (me_triedL m gT tb hr (fun A outer s H E f c hr2 => (me_if (mt_val (me_var 1)) (me_callD (ok_product_of m) hr2 (by omega) (fun z => nomatch z) (takes_of rfl rfl rfl rfl) (ma_cons (me_var 2) (ma_cons (me_var 3) (ma_cons (me_var 4) ma_nil))) rfl (aC_len (aC_len (aC_len aN_len)))) (me_callKD ["one", "other", "kind"] [2, 0, 1] (ok_product_of m) hr2 (by omega) (fun z => nomatch z) (takes_of rfl rfl rfl rfl) (fun _ _ _ _ _ _ => kb_of3 fun _ _ _ _ => .of_eq rfl) (mk_cons (me_var 3) (mk_cons (me_var 4) (mk_cons (me_var 2) mk_nil))) rfl (aC_len (aC_len (aC_len aN_len))))))))) mss_nil)
    (mss_cons (ms_if (mt_cmp (o_eq hr.units) s_eqU (me_var 0) me_int) (mss_one (ms_ret (me_triedL m gT tb hr (fun A outer s H E f c hr2 => (me_if (mt_val (me_var 1)) (me_callD (ok_turned_mark m) hr2 (by omega) (fun z => nomatch z) (takes_of rfl rfl rfl rfl) (ma_cons (me_var 2) (ma_cons (me_var 3) ma_nil)) rfl (aC_len (aC_len aN_len))) (me_callKD ["mark", "kind"] [1, 0] (ok_turned_mark m) hr2 (by omega) (fun z => nomatch z) (takes_of rfl rfl rfl rfl) (fun _ _ _ _ _ _ => kb_of2 fun _ _ _ => .of_eq rfl) (mk_cons (me_var 3) (mk_cons (me_var 2) mk_nil)) rfl (aC_len (aC_len aN_len)))))))) mss_nil)
    (mss_cons (ms_if (mt_cmp (o_eq hr.units) s_eqU (me_var 0) me_int) (mss_one (ms_ret (me_triedL m gT tb hr (fun A outer s H E f c hr2 => (me_if (mt_val (me_var 1)) (me_callD (ok_inverse_of m) hr2 (by omega) (fun z => nomatch z) (takes_of rfl rfl rfl rfl) (ma_cons (me_var 2) (ma_cons (me_var 3) ma_nil)) rfl (aC_len (aC_len aN_len))) (me_callKD ["kind", "mark"] [0, 1] (ok_inverse_of m) hr2 (by omega) (fun z => nomatch z) (takes_of rfl rfl rfl rfl) (fun _ _ _ _ _ _ => kb_of2 fun _ _ _ => .of_eq rfl) (mk_cons (me_var 2) (mk_cons (me_var 3) mk_nil)) rfl (aC_len (aC_len aN_len)))))))) mss_nil)
    (mss_cons (ms_if (mt_cmp (o_eq hr.units) s_eqU (me_var 0) me_int) (mss_one (ms_ret (me_triedL m gT tb hr (fun A outer s H E f c hr2 => (me_if (mt_val (me_var 1)) (me_callD (ok_size_of m) hr2 (by omega) (fun z => nomatch z) (takes_of rfl rfl rfl rfl) (ma_cons (me_var 2) ma_nil) rfl (aC_len aN_len)) (me_callKD ["kind"] [0] (ok_size_of m) hr2 (by omega) (fun z => nomatch z) (takes_of rfl rfl rfl rfl) (fun _ _ _ _ _ _ => kb_of1 fun _ _ => .of_eq rfl) (mk_cons (me_var 2) mk_nil) rfl (aC_len aN_len))))))) mss_nil)
    (mss_one (ms_ret (me_triedL m gT tb hr (fun A outer s H E f c hr2 => (me_if (mt_val (me_var 1)) (me_callD (ok_units_of m) hr2 (by omega) (fun z => nomatch z) (takes_of rfl rfl rfl rfl) (ma_cons (me_var 2) ma_nil) rfl (aC_len aN_len)) (me_callKD ["kind"] [0] (ok_units_of m) hr2 (by omega) (fun z => nomatch z) (takes_of rfl rfl rfl rfl) (fun _ _ _ _ _ _ => kb_of1 fun _ _ => .of_eq rfl) (mk_cons (me_var 2) mk_nil) rfl (aC_len aN_len))))))))))))
end K08

end
section
set_option maxRecDepth 100000
set_option maxHeartbeats 0
namespace K08
open PySem PySem.Spec L2 Mr
open PyProof.Rows hiding St
def m_law : Env1 → Sto → Out :=
  (sSeq (sSet 1 (eCall f__law_deck (aC (eV 0) aN)))
    (sSeq (sSet 2 (eTup (aC (eC (.d (.str "two"))) (aC (eC (.d (.str "three"))) (aC (eC (.d (.str "four"))) (aC (eC (.d (.str "ring"))) aN))))))
    (sSeq (sFor (iSeq (eV 2)) (tgN 3) (sIf (tNotM (tB (eCall f__law_are_all_right (aC (eV 3) aN)))) (sRet (eC (.d (.bool false)))) sNx))
    (sSeq (sFor (iRng (aC (eC (.d (.int 8))) aN)) (tgN 4) (sSeq (sSet 3 (eCall f__law_pick (aC (eV 1) (aC (eV 2) aN))))
    (sSeq (sSet 5 (eCall f__law_size (aC (eV 3) aN)))
    (sIf (tNotM (tB (eCall f__law_are_three_right (aC (eV 3) (aC (eCall f__law_draw (aC (eV 1) (aC (eV 5) aN))) (aC (eCall f__law_draw (aC (eV 1) (aC (eV 5) aN))) (aC (eCall f__law_draw (aC (eV 1) (aC (eV 5) aN))) aN))))))) (sRet (eC (.d (.bool false)))) sNx))))
    (sSeq (sFor (iRng (aC (eC (.d (.int 40))) aN)) (tgN 4) (sSeq (sSet 3 (eCall f__law_pick (aC (eV 1) (aC (eV 2) aN))))
    (sSeq (sPar 6 7 (aC (eCall f__law_odd (aC (eV 1) (aC (eCall f__law_size (aC (eV 3) aN)) aN))) (aC (eCall f__law_odd (aC (eV 1) (aC (eCall f__law_size (aC (eV 3) aN)) aN))) aN)))
    (sSeq (sIf (tB (e2 opEqU (eCall f__law_draw (aC (eV 1) (aC (eC (.d (.int 5))) aN))) (eC (.d (.int 0))))) (sSet 3 (eCall f__law_pick (aC (eV 1) (aC (eLst (aC (eC (.d (.str "Two"))) (aC (eC (.d (.str "two "))) (aC (eC (.d (.str ""))) (aC (eC (.d (.str "five"))) (aC (eTup (aC (eC (.d (.str "two"))) aN)) (aC (eLst (aC (eC (.d (.str "two"))) aN)) (aC (eC (.d (.dict []))) (aC (eC (.d (.int 2))) (aC (eC (.d .none)) (aC (eC (.d (.bool true))) (aC (eDic (((eC (.d (.str "two"))), (eC (.d (.int 1)))) :: [])) (aC (eC (.d (.str "ringthree"))) aN))))))))))))) aN)))) sNx)
    (sSeq (sIf (tB (e2 opEqU (eCall f__law_draw (aC (eV 1) (aC (eC (.d (.int 16))) aN))) (eC (.d (.int 0))))) (sSet 3 (eCall (f__law_any 4) (aC (eV 1) (aC (eC (.d (.int 2))) aN)))) sNx)
    (sSeq (sPar 8 9 (aC (eCall f__law_draw (aC (eV 1) (aC (eC (.d (.int 6))) aN))) (aC (e2 opEqU (eCall f__law_draw (aC (eV 1) (aC (eC (.d (.int 2))) aN))) (eC (.d (.int 0)))) aN)))
    (sIf (tB (e2 opNeU (ePrim pRepr (aC (eCall f__law_called (aC (eV 8) (aC (eV 9) (aC (eV 3) (aC (eV 6) (aC (eV 7) aN)))))) aN)) (ePrim pRepr (aC (eCall f__law_due (aC (eV 8) (aC (eV 3) (aC (eV 6) (aC (eV 7) aN))))) aN)))) (sRet (eC (.d (.bool false)))) sNx)))))))
    (sRet (eC (.d (.bool true)))))))))
def f_law : List M → Sto → R M := fnM 10 m_law
theorem fn_law {w : World} {mg : Str → Option Value} {base : Heap} {g : Cfg} (m : Md w (hd08.heap_39 w.params) mg base g clf) (gT : g.T = [(296, lamN)]) (tb : LamX.TabB base mg 300 296) {fd : FuncData} (F : L2.Fun (hd08.heap_39 w.params) "law" "law" s_law 308 fd) :
    FnG true PP w (hd08.heap_39 w.params) mg base 9 308 fd ["_law_script"] (spM (hd08.heap_39 w.params) g 1 f_law) := by
  refine fn_ok F sc_law (spM_len rfl) fun cdv A fr s H vs Q E hr hG h => ⟨_, ?_, body_of h⟩
  exact (mss_cons (ms_set 1 sc_law.nd (me_callD (ok__law_deck m) hr (by omega) hG (takes_of rfl rfl rfl rfl) (ma_cons (me_var 0) ma_nil) rfl (aC_len aN_len)))
    (mss_cons (ms_set 2 sc_law.nd (me_tup (ma_cons me_str (ma_cons me_str (ma_cons me_str (ma_cons me_str ma_nil))))))
    (mss_cons (ms_for (passes_of rfl) rfl (mi_seq (me_var 2)) (mg_name (vs := [3]) 3 sc_law.nd) (mss_one (ms_if (mt_not (mt_val (me_callD (ok__law_are_all_right m) hr (by omega) hG (takes_of rfl rfl rfl rfl) (ma_cons (me_var 3) ma_nil) rfl (aC_len aN_len)))) (mss_one (ms_ret me_bl)) mss_nil)))
    (mss_cons (ms_for (passes_of rfl) rfl (mi_rng1 (m.no n_range) (ma_cons me_int ma_nil) rfl rfl (aC_len aN_len)) (mg_name (vs := [4]) 4 sc_law.nd) (mss_cons (ms_set 3 sc_law.nd (me_callD (ok__law_pick m) hr (by omega) hG (takes_of rfl rfl rfl rfl) (ma_cons (me_var 1) (ma_cons (me_var 2) ma_nil)) rfl (aC_len (aC_len aN_len))))
    (mss_cons (ms_set 5 sc_law.nd (me_callD (ok__law_size m) hr (by omega) hG (takes_of rfl rfl rfl rfl) (ma_cons (me_var 3) ma_nil) rfl (aC_len aN_len)))
    (mss_one (ms_if (mt_not (mt_val (me_callD (ok__law_are_three_right m) hr (by omega) hG (takes_of rfl rfl rfl rfl) (ma_cons (me_var 3) (ma_cons (me_callD (ok__law_draw m) hr (by omega) hG (takes_of rfl rfl rfl rfl) (ma_cons (me_var 1) (ma_cons (me_var 5) ma_nil)) rfl (aC_len (aC_len aN_len))) (ma_cons (me_callD (ok__law_draw m) hr (by omega) hG (takes_of rfl rfl rfl rfl) (ma_cons (me_var 1) (ma_cons (me_var 5) ma_nil)) rfl (aC_len (aC_len aN_len))) (ma_cons (me_callD (ok__law_draw m) hr (by omega) hG (takes_of rfl rfl rfl rfl) (ma_cons (me_var 1) (ma_cons (me_var 5) ma_nil)) rfl (aC_len (aC_len aN_len))) ma_nil)))) rfl (aC_len (aC_len (aC_len (aC_len aN_len))))))) (mss_one (ms_ret me_bl)) mss_nil)))))
    (mss_cons (ms_for (passes_of rfl) rfl (mi_rng1 (m.no n_range) (ma_cons me_int ma_nil) rfl rfl (aC_len aN_len)) (mg_name (vs := [4]) 4 sc_law.nd) (mss_cons (ms_set 3 sc_law.nd (me_callD (ok__law_pick m) hr (by omega) hG (takes_of rfl rfl rfl rfl) (ma_cons (me_var 1) (ma_cons (me_var 2) ma_nil)) rfl (aC_len (aC_len aN_len))))
    (mss_cons (ms_par 6 7 rfl sc_law.nd (ma_cons (me_callD (ok__law_odd m) hr (by omega) hG (takes_of rfl rfl rfl rfl) (ma_cons (me_var 1) (ma_cons (me_callD (ok__law_size m) hr (by omega) hG (takes_of rfl rfl rfl rfl) (ma_cons (me_var 3) ma_nil) rfl (aC_len aN_len)) ma_nil)) rfl (aC_len (aC_len aN_len))) (ma_cons (me_callD (ok__law_odd m) hr (by omega) hG (takes_of rfl rfl rfl rfl) (ma_cons (me_var 1) (ma_cons (me_callD (ok__law_size m) hr (by omega) hG (takes_of rfl rfl rfl rfl) (ma_cons (me_var 3) ma_nil) rfl (aC_len aN_len)) ma_nil)) rfl (aC_len (aC_len aN_len))) ma_nil)))
    (mss_cons (ms_if (mt_cmp (o_eq hr.units) s_eqU (me_callD (ok__law_draw m) hr (by omega) hG (takes_of rfl rfl rfl rfl) (ma_cons (me_var 1) (ma_cons me_int ma_nil)) rfl (aC_len (aC_len aN_len))) me_int) (mss_one (ms_set 3 sc_law.nd (me_callD (ok__law_pick m) hr (by omega) hG (takes_of rfl rfl rfl rfl) (ma_cons (me_var 1) (ma_cons (me_lst (ma_cons me_str (ma_cons me_str (ma_cons me_str (ma_cons me_str (ma_cons (me_tup (ma_cons me_str ma_nil)) (ma_cons (me_lst (ma_cons me_str ma_nil)) (ma_cons me_dicN (ma_cons me_int (ma_cons me_non (ma_cons me_bl (ma_cons (me_dic (mp_cons me_str me_int mp_nil)) (ma_cons me_str ma_nil))))))))))))) ma_nil)) rfl (aC_len (aC_len aN_len))))) mss_nil)
    (mss_cons (ms_if (mt_cmp (o_eq hr.units) s_eqU (me_callD (ok__law_draw m) hr (by omega) hG (takes_of rfl rfl rfl rfl) (ma_cons (me_var 1) (ma_cons me_int ma_nil)) rfl (aC_len (aC_len aN_len))) me_int) (mss_one (ms_set 3 sc_law.nd (me_callD (ok__law_any m 4) hr (by omega) hG (takes_of rfl rfl rfl rfl) (ma_cons (me_var 1) (ma_cons me_int ma_nil)) rfl (aC_len (aC_len aN_len))))) mss_nil)
    (mss_cons (ms_par 8 9 rfl sc_law.nd (ma_cons (me_callD (ok__law_draw m) hr (by omega) hG (takes_of rfl rfl rfl rfl) (ma_cons (me_var 1) (ma_cons me_int ma_nil)) rfl (aC_len (aC_len aN_len))) (ma_cons (me_cmp (o_eq hr.units) s_eqU (me_callD (ok__law_draw m) hr (by omega) hG (takes_of rfl rfl rfl rfl) (ma_cons (me_var 1) (ma_cons me_int ma_nil)) rfl (aC_len (aC_len aN_len))) me_int) ma_nil)))
    (mss_one (ms_if (mt_cmp (o_ne hr.units) s_neU (me_callB (call_repr_d hr (hG rfl) m.sys) s_repr (m.no n_repr) rfl (ma_cons (me_callD (ok__law_called m gT tb) hr (by omega) hG (takes_of rfl rfl rfl rfl) (ma_cons (me_var 8) (ma_cons (me_var 9) (ma_cons (me_var 3) (ma_cons (me_var 6) (ma_cons (me_var 7) ma_nil))))) rfl (aC_len (aC_len (aC_len (aC_len (aC_len aN_len)))))) ma_nil)) (me_callB (call_repr_d hr (hG rfl) m.sys) s_repr (m.no n_repr) rfl (ma_cons (me_callD (ok__law_due m) hr (by omega) hG (takes_of rfl rfl rfl rfl) (ma_cons (me_var 8) (ma_cons (me_var 3) (ma_cons (me_var 6) (ma_cons (me_var 7) ma_nil)))) rfl (aC_len (aC_len (aC_len (aC_len aN_len))))) ma_nil))) (mss_one (ms_ret me_bl)) mss_nil))))))))
    (mss_one (ms_ret me_bl)))))))
end K08

end
section
set_option maxRecDepth 100000
set_option maxHeartbeats 0
open PySem PySem.W PyProof.Rows
theorem k08_of (hL : ∀ ns : List Int, ns.length ≤ 63 → (∀ z ∈ ns, Builtin.Int.intBits z ≤ 1048576) → Mr.LawTrue K08.f_law ns) : PySem.Challenge.rw_ownpartners_k08_marks_of_all_kinds.Holds := hd08 (by
  k_fill
  refine Mr.walk_G (l := PySem.Challenge.rw_ownpartners_k08_marks_of_all_kinds) (n := 63) (k := 9) (x := "_law_script") (K := hd08.heap_39) rfl (by decide) rfl ⟨rfl, by decide, by decide⟩ (fun w h Y => km_in_of Y) (by rfl) (fun w mg fa h Y KX hns hmg => ?_)
  have KT := km_tabs_of Y
  obtain ⟨fd, F⟩ := K08.d_law (w := w)
  have ef : fa = 308 := by
    have q := hmg.symm.trans (PySem.W.mg_of KX hns K08.a_law)
    cases q
    rfl
  subst ef
  obtain ⟨oc, od, kV, doc, pm, an, cdv, ct, osl, rfl, lk, hcd⟩ := F.ex
  refine ⟨_, [(300, 296)], { w := w, T := [(296, K08.lamN)], cl := K08.clf }, K08.f_law, fun p hp => ?_, fun p hp => ?_, fun p hp => ?_, fun s u => .of_eq rfl, rfl, rfl, fun p hp => ?_, hL, fun base hK hN hS hT => K08.fn_law ⟨hK, hN, hS, rfl, rfl, rfl⟩ rfl (hT (300, 296) List.mem_cons_self) F⟩
  · rw [List.mem_singleton.mp hp]
    exact KT 296 List.mem_cons_self
  · rw [List.mem_singleton.mp hp]
    rfl
  · rw [List.mem_singleton.mp hp]
    exact codeHd_of_K KX K08.hd_called
  · rw [List.mem_singleton.mp hp]
    exact ⟨_, List.mem_cons_self, rfl⟩)

end
section
set_option maxRecDepth 100000
set_option maxHeartbeats 1000000
namespace K08
open PySem PySem.Spec L2 Mr
open PyProof.Rows hiding St
def deckS (cs : List Int) (mx dr : Int) : Sto := [.lst (cs.map fun i => .d (.int i)), .dct [(.inr "cells", .loc 0), (.inr "mixed", .d (.int mx)), (.inr "draws", .d (.int dr))]]
theorem kn1 : (("draws" : Str) = "cells") = False := by decide +kernel
theorem kn2 : (("draws" : Str) = "mixed") = False := by decide +kernel
theorem kn3 : (("mixed" : Str) = "cells") = False := by decide +kernel
theorem kn1' : (("cells" : Str) = "draws") = False := by decide +kernel
theorem kn2' : (("mixed" : Str) = "draws") = False := by decide +kernel
theorem kn3' : (("cells" : Str) = "mixed") = False := by decide +kernel
theorem ixDraws (cs : List Int) (mx dr : Int) : opIx (.loc 1) (.d (.str "draws")) (deckS cs mx dr) = some (.d (.int dr)) := by
  simp [opIx, deckS, keyM, mGet, List.find?, kn1', kn2']
theorem ixMixed (cs : List Int) (mx dr : Int) : opIx (.loc 1) (.d (.str "mixed")) (deckS cs mx dr) = some (.d (.int mx)) := by
  simp [opIx, deckS, keyM, mGet, List.find?, kn3']
theorem ixCells (cs : List Int) (mx dr : Int) : opIx (.loc 1) (.d (.str "cells")) (deckS cs mx dr) = some (.loc 0) := by
  simp [opIx, deckS, keyM, mGet, List.find?]
theorem putDraws (cs : List Int) (mx dr n : Int) : (deckS cs mx dr).set 1 (.dct (putM [(.inr "cells", .loc 0), (.inr "mixed", .d (.int mx)), (.inr "draws", .d (.int dr))] (.inr "draws") (.d (.int n)))) = deckS cs mx n := by
  simp [deckS, putM, kn1', kn2']
theorem dsOf_ints (cs : List Int) : dsOf (cs.map fun i => M.d (.int i)) = some (cs.map PyData.int) := by
  induction cs with
  | nil => rfl
  | cons c cs ih => simp [dsOf, dOf, ih]
theorem shaped_ints (cs : List Int) : SeqAt.shaped (.list (cs.map PyData.int)) = true := by
  have h : PyData.canLayAll0 (cs.map PyData.int) = true := by
    induction cs with
    | nil => rfl
    | cons c cs ih => simp [PyData.canLayAll0, PyData.canLay0, ih]
  have h2 : ∀ cs : List Int, PyData.depthAll (cs.map PyData.int) ≤ 1 := by
    intro cs
    induction cs with
    | nil => decide
    | cons c cs ih => simp [PyData.depthAll, PyData.depth] at ih ⊢; omega
  have h3 := h2 cs
  simp [SeqAt.shaped, PyData.canLay0, h, PyData.depth]
  omega
theorem neNil (cs : List Int) (S : Sto) (h : S[0]? = some (.lst (cs.map fun i => .d (.int i)))) : opNeU (.loc 0) (.d (.list [])) S = some (.d (.bool (decide (cs ≠ [])))) := by
  have a : asD (.loc 0) S = some (.list (cs.map PyData.int)) := by simp [asD, h, dsOf_ints]
  have e : opNeU (.loc 0) (.d (.list [])) S = opEqG true (.loc 0) (.d (.list [])) S := rfl
  rw [e]
  unfold opEqG
  rw [a]
  have b : asD (.d (.list [])) S = some (.list []) := rfl
  rw [b]
  have s := shaped_ints cs
  have s0 : SeqAt.shaped (.list []) = true := shaped_ints []
  simp [s, s0]
  cases cs with
  | nil => simp [PyData.eqv, PyData.eqvAll]
  | cons c cs => simp [PyData.eqv, PyData.eqvAll]
theorem mulK (i j : Int) (h : (-(2 ^ 64) < i ∧ i < 2 ^ 64) ∨ (-(2 ^ 64) < j ∧ j < 2 ^ 64)) (S : Sto) : opMul (.d (.int i)) (.d (.int j)) S = some (.d (.int (i * j))) := by
  have c : cMul i j = true := by
    unfold cMul
    simp only [Bool.or_eq_true, Bool.and_eq_true, decide_eq_true_eq]
    exact h
  show (if cMul i j then some (M.d (.int (i * j))) else none) = _
  rw [c]
  rfl
theorem addI (i j : Int) (S : Sto) : opAdd (.d (.int i)) (.d (.int j)) S = some (.d (.int (i + j))) := rfl
theorem modI (i j : Int) (h : j ≠ 0) (S : Sto) : opMod (.d (.int i)) (.d (.int j)) S = some (.d (.int (i.fmod j))) := by
  show (if decide (j ≠ 0) then some (M.d (.int (i.fmod j))) else none) = _
  rw [decide_eq_true h]
  rfl
theorem divI (i j : Int) (h : j ≠ 0) (h2 : j.natAbs < 1073741824) (S : Sto) : opFdiv (.d (.int i)) (.d (.int j)) S = some (.d (.int (i.fdiv j))) := by
  show (if cDiv i j then some (M.d (.int (i.fdiv j))) else none) = _
  have c : cDiv i j = true := by
    unfold cDiv
    rw [decide_eq_true h, decide_eq_true h2]
    rfl
  rw [c]
  rfl
theorem geI (i j : Int) (S : Sto) : opGe (.d (.int i)) (.d (.int j)) S = some (.d (.bool (decide (j ≤ i)))) := rfl
theorem intI (i : Int) (S : Sto) : pInt [.d (.int i)] S = some (.d (.int i)) := rfl
theorem maxI (i j : Int) (S : Sto) : pMax2 [.d (.int i), .d (.int j)] S = some (.d (.int (if j > i then j else i))) := rfl
theorem pow18 (S : Sto) : opPow (.d (.int 10)) (.d (.int 18)) S = some (.d (.int 1000000000000000000)) := rfl
def d1 (x : Int) : Int := (x * 39373 + 69).fmod 2147483647
def d2 (x dr : Int) : Int := (x * x + 52713 * dr + 89).fmod 2147483587
def d3 (x : Int) : Int := (x * 40692).fmod 2147483563
theorem fmod_in (x n : Int) (h : 0 < n) : 0 ≤ x.fmod n ∧ x.fmod n < n := ⟨Int.fmod_nonneg_of_pos _ h, Int.fmod_lt_of_pos _ h⟩
def tailD : Env1 → Sto → Out := (sSeq (sSet 2 (e2 opMod (ePrim pInt (aC (e2 opAdd (e2 opMul (eV 2) (eC (.d (.int 39373)))) (eC (.d (.int 69)))) aN)) (eC (.d (.int 2147483647)))))
    (sSeq (sSet 2 (e2 opMod (ePrim pInt (aC (e2 opAdd (e2 opAdd (e2 opMul (eV 2) (eV 2)) (e2 opMul (eC (.d (.int 52713))) (e2 opIx (eV 0) (eC (.d (.str "draws")))))) (eC (.d (.int 89)))) aN)) (eC (.d (.int 2147483587)))))
    (sSeq (sSet 2 (e2 opMod (ePrim pInt (aC (e2 opMul (eV 2) (eC (.d (.int 40692)))) aN)) (eC (.d (.int 2147483563)))))
    (sRet (e2 opMod (ePrim pInt (aC (e2 opFdiv (eV 2) (eC (.d (.int 64)))) aN)) (eV 1))))))
theorem ev0 (a : Option M) (m : M) (r : Env1) (S : Sto) : eV 0 (some m :: r) S = .ok m S := rfl
theorem ev1 (a : Option M) (m : M) (r : Env1) (S : Sto) : eV 1 (a :: some m :: r) S = .ok m S := rfl
theorem ev2 (a b : Option M) (m : M) (r : Env1) (S : Sto) : eV 2 (a :: b :: some m :: r) S = .ok m S := rfl
theorem tail_ok (cs : List Int) (mx dr q x : Int) (hq : q ≠ 0) (z : Option M) : tailD [some (.loc 1), some (.d (.int q)), some (.d (.int x)), z] (deckS cs mx dr) = .rt (.d (.int ((d3 (d2 (d1 x) dr)).fdiv 64 |>.fmod q))) (deckS cs mx dr) := by
  have b1 := fmod_in (x * 39373 + 69) 2147483647 (by decide)
  have s1 : sSet 2 (e2 opMod (ePrim pInt (aC (e2 opAdd (e2 opMul (eV 2) (eC (.d (.int 39373)))) (eC (.d (.int 69)))) aN)) (eC (.d (.int 2147483647)))) [some (.loc 1), some (.d (.int q)), some (.d (.int x)), z] (deckS cs mx dr) = .nx [some (.loc 1), some (.d (.int q)), some (.d (.int (d1 x))), z] (deckS cs mx dr) := by
    unfold sSet e2 ePrim aC aN eC
    simp only [R.bind, R.toS, lift, ev2 _ _ _ _ _, mulK x 39373 (.inr (by decide)), addI, intI, modI _ 2147483647 (by decide)]
    rfl
  have s2 : ∀ y : Int, 0 ≤ y ∧ y < 2147483647 → sSet 2 (e2 opMod (ePrim pInt (aC (e2 opAdd (e2 opAdd (e2 opMul (eV 2) (eV 2)) (e2 opMul (eC (.d (.int 52713))) (e2 opIx (eV 0) (eC (.d (.str "draws")))))) (eC (.d (.int 89)))) aN)) (eC (.d (.int 2147483587)))) [some (.loc 1), some (.d (.int q)), some (.d (.int y)), z] (deckS cs mx dr) = .nx [some (.loc 1), some (.d (.int q)), some (.d (.int (d2 y dr))), z] (deckS cs mx dr) := fun y hy => by
    unfold sSet e2 ePrim aC aN eC
    simp only [R.bind, R.toS, lift, ev2 _ _ _ _ _, ev0 none _ _ _, mulK y y (.inl (by omega)), ixDraws, mulK 52713 dr (.inl (by decide)), addI, intI, modI _ 2147483587 (by decide)]
    rfl
  have s3 : ∀ y : Int, sSet 2 (e2 opMod (ePrim pInt (aC (e2 opMul (eV 2) (eC (.d (.int 40692)))) aN)) (eC (.d (.int 2147483563)))) [some (.loc 1), some (.d (.int q)), some (.d (.int y)), z] (deckS cs mx dr) = .nx [some (.loc 1), some (.d (.int q)), some (.d (.int (d3 y))), z] (deckS cs mx dr) := fun y => by
    unfold sSet e2 ePrim aC aN eC
    simp only [R.bind, R.toS, lift, ev2 _ _ _ _ _, mulK y 40692 (.inr (by decide)), intI, modI _ 2147483563 (by decide)]
    rfl
  have s4 : ∀ y : Int, sRet (e2 opMod (ePrim pInt (aC (e2 opFdiv (eV 2) (eC (.d (.int 64)))) aN)) (eV 1)) [some (.loc 1), some (.d (.int q)), some (.d (.int y)), z] (deckS cs mx dr) = .rt (.d (.int ((y.fdiv 64).fmod q))) (deckS cs mx dr) := fun y => by
    unfold sRet e2 ePrim aC aN eC
    simp only [R.bind, R.toS, lift, ev2 _ _ _ _ _, ev1 _ _ _ _, divI y 64 (by decide) (by decide), intI, modI _ q hq]
  unfold tailD sSeq
  rw [s1]
  simp only [Out.andThen]
  rw [s2 (d1 x) b1]
  simp only [Out.andThen]
  rw [s3]
  simp only [Out.andThen]
  rw [s4]

theorem seq_nx {a b : Env1 → Sto → Out} {e e2 : Env1} {S S2 : Sto} (h : a e S = .nx e2 S2) : sSeq a b e S = b e2 S2 := by
  unfold sSeq
  rw [h]
  rfl
def headD : Env1 → Sto → Out := sPut (eV 0) (eC (.d (.str "draws"))) (e2 opAdd (e2 opIx (eV 0) (eC (.d (.str "draws")))) (eC (.d (.int 1))))
def setD : Env1 → Sto → Out := sSet 2 (e2 opAdd (e2 opIx (eV 0) (eC (.d (.str "mixed")))) (e2 opMul (eC (.d (.int 61473))) (e2 opIx (eV 0) (eC (.d (.str "draws"))))))
def tstD : Env1 → Sto → R Bool := tB (e2 opNeU (e2 opIx (eV 0) (eC (.d (.str "cells")))) (eLst aN))
def popD : Env1 → Sto → Out := sSet 3 (ePop (e2 opIx (eV 0) (eC (.d (.str "cells")))))
def bigD : Env1 → Sto → R Bool := tB (e2 opGe (eV 3) (e2 opPow (eC (.d (.int 10))) (eC (.d (.int 18)))))
def appD : Env1 → Sto → Out := sExpr (eApp (e2 opIx (eV 0) (eC (.d (.str "cells")))) (e2 opFdiv (eV 3) (ePrim pMax2 (aC (eC (.d (.int 2))) (aC (eV 1) aN)))))
def retD : Env1 → Sto → Out := sRet (e2 opMod (ePrim pInt (aC (eV 3) aN)) (eV 1))
def addD : Env1 → Sto → Out := sSet 2 (e2 opAdd (eV 2) (e2 opMod (ePrim pInt (aC (eV 3) aN)) (eC (.d (.int 2147483629)))))
theorem draw_parts : m__law_draw = sSeq headD (sSeq setD (sSeq (sIf tstD (sSeq popD (sSeq (sIf bigD (sSeq appD retD) sNx) addD)) sNx) tailD)) := rfl
theorem ev3 (a b c : Option M) (m : M) (r : Env1) (S : Sto) : eV 3 (a :: b :: c :: some m :: r) S = .ok m S := rfl
theorem head_ok (cs : List Int) (mx dr q : Int) (y z : Option M) : headD [some (.loc 1), some (.d (.int q)), y, z] (deckS cs mx dr) = .nx [some (.loc 1), some (.d (.int q)), y, z] (deckS cs mx (dr + 1)) := by
  unfold headD sPut e2 eC
  simp only [R.bind, R.toS, lift, ev0 none _ _ _, ixDraws, addI, keyM]
  have q1 : (deckS cs mx dr)[1]? = some (.dct [(.inr "cells", .loc 0), (.inr "mixed", .d (.int mx)), (.inr "draws", .d (.int dr))]) := rfl
  rw [q1]
  have q2 : [((Sum.inr ("cells" : Str) : Key), M.loc 0), (.inr "mixed", .d (.int mx)), (.inr "draws", .d (.int dr))].length < sizeLine := by
    show 3 < sizeLine
    decide
  simp only [q2, if_true]
  rw [putDraws]
theorem set_ok (cs : List Int) (mx dr q : Int) (y z : Option M) : setD [some (.loc 1), some (.d (.int q)), y, z] (deckS cs mx dr) = .nx [some (.loc 1), some (.d (.int q)), some (.d (.int (mx + 61473 * dr))), z] (deckS cs mx dr) := by
  unfold setD sSet e2 eC
  simp only [R.bind, R.toS, lift, ev0 none _ _ _, ixDraws, ixMixed, addI, mulK 61473 dr (.inl (by decide))]
  rfl
theorem tst_ok (cs : List Int) (mx dr : Int) (q y z : Option M) : tstD [some (.loc 1), q, y, z] (deckS cs mx dr) = .ok (decide (cs ≠ [])) (deckS cs mx dr) := by
  unfold tstD Mr.tB e2 eLst aN eC
  simp only [R.bind, lift, ev0 none _ _ _, ixCells, dsOf, Option.map, List.length_nil]
  have e : (if 0 ≤ 1000 then R.ok (M.d (PyData.list [])) (deckS cs mx dr) else R.bad) = R.ok (M.d (PyData.list [])) (deckS cs mx dr) := if_pos (by decide)
  simp only [e, neNil cs (deckS cs mx dr) rfl, asB]
theorem pop_ok (cs : List Int) (c mx dr : Int) (q y z : Option M) : popD [some (.loc 1), q, y, z] (deckS (cs ++ [c]) mx dr) = .nx [some (.loc 1), q, y, some (.d (.int c))] (deckS cs mx dr) := by
  unfold popD sSet ePop e2 eC
  simp only [R.bind, R.toS, lift, ev0 none _ _ _, ixCells]
  have q1 : (deckS (cs ++ [c]) mx dr)[0]? = some (.lst ((cs ++ [c]).map fun i => M.d (.int i))) := rfl
  rw [q1]
  simp only [List.map_append, List.map_cons, List.map_nil, List.length_append, List.length_map, List.length_cons, List.length_nil]
  have q2 : (cs.map (fun i => M.d (.int i)) ++ [M.d (.int c)])[cs.length + (0 + 1) - 1]? = some (M.d (.int c)) := by
    rw [List.getElem?_append_right (by simp)]
    simp
  rw [q2]
  simp [deckS]
theorem big_ok (c : Int) (S : Sto) (p q y : Option M) : bigD [p, q, y, some (.d (.int c))] S = .ok (decide (1000000000000000000 ≤ c)) S := by
  unfold bigD Mr.tB e2 eC
  simp only [R.bind, lift, ev3 _ _ _ _ _ _, pow18, geI, asB]
theorem app_ok (cs : List Int) (c mx dr q : Int) (y : Option M) (hl : cs.length ≤ 100) (h1 : 1 ≤ q) (h2 : q < 1000) : appD [some (.loc 1), some (.d (.int q)), y, some (.d (.int c))] (deckS cs mx dr) = .nx [some (.loc 1), some (.d (.int q)), y, some (.d (.int c))] (deckS (cs ++ [c.fdiv (if q > 2 then q else 2)]) mx dr) := by
  unfold appD sExpr eApp e2 ePrim aC aN eC
  have g1 : (if q > 2 then q else 2) ≠ 0 := by split <;> omega
  have g2 : (if q > 2 then q else 2).natAbs < 1073741824 := by split <;> omega
  simp only [R.bind, R.toS, lift, ev0 none _ _ _, ev1 _ _ _ _, ev3 _ _ _ _ _ _, ixCells, maxI, divI c _ g1 g2]
  have q1 : (deckS cs mx dr)[0]? = some (.lst (cs.map fun i => M.d (.int i))) := rfl
  have q2 : isL (deckS cs mx dr) 0 = true := rfl
  have q3 : (cs.map fun i => M.d (.int i)).length < sizeLine := by
    rw [List.length_map]
    exact Nat.lt_of_le_of_lt hl (by decide)
  simp only [q2, if_true, q1, q3]
  simp [deckS]
theorem ret_ok (c q : Int) (S : Sto) (p y : Option M) (h : q ≠ 0) : retD [p, some (.d (.int q)), y, some (.d (.int c))] S = .rt (.d (.int (c.fmod q))) S := by
  unfold retD sRet e2 ePrim aC aN
  simp only [R.bind, R.toS, lift, ev1 _ _ _ _, ev3 _ _ _ _ _ _, intI, modI _ q h]
theorem addD_ok (c x : Int) (S : Sto) (p q : Option M) : addD [p, q, some (.d (.int x)), some (.d (.int c))] S = .nx [p, q, some (.d (.int (x + c.fmod 2147483629))), some (.d (.int c))] S := by
  unfold addD sSet e2 ePrim aC aN eC
  simp only [R.bind, R.toS, lift, ev2 _ _ _ _ _, ev3 _ _ _ _ _ _, intI, modI _ 2147483629 (by decide), addI]
  rfl
/-- a draw of less than q: r, and the deck goes on -/
theorem draw_ok (cs : List Int) (mx dr q : Int) (hl : cs.length ≤ 63) (h1 : 1 ≤ q) (h2 : q < 1000) : ∃ (r : Int) (cs2 : List Int) (dr2 : Int), f__law_draw [.loc 1, .d (.int q)] (deckS cs mx dr) = .ok (.d (.int r)) (deckS cs2 mx dr2) ∧ 0 ≤ r ∧ r < q ∧ cs2.length ≤ 63 := by
  have hq : q ≠ 0 := by omega
  have start : f__law_draw [.loc 1, .d (.int q)] (deckS cs mx dr) = ansOf (((sIf tstD (sSeq popD (sSeq (sIf bigD (sSeq appD retD) sNx) addD)) sNx) [some (.loc 1), some (.d (.int q)), some (.d (.int (mx + 61473 * (dr + 1)))), none] (deckS cs mx (dr + 1))).andThen tailD) := by
    unfold f__law_draw fnM
    rw [draw_parts]
    show ansOf (sSeq headD _ [some (.loc 1), some (.d (.int q)), none, none] (deckS cs mx dr)) = _
    rw [seq_nx (head_ok cs mx dr q none none), seq_nx (set_ok cs mx (dr + 1) q none none)]
    rfl
  have fin : ∀ (cs2 : List Int) (x : Int) (z : Option M), cs2.length ≤ 63 → ∃ (r : Int) (cs3 : List Int) (dr2 : Int), ansOf (tailD [some (.loc 1), some (.d (.int q)), some (.d (.int x)), z] (deckS cs2 mx (dr + 1))) = .ok (.d (.int r)) (deckS cs3 mx dr2) ∧ 0 ≤ r ∧ r < q ∧ cs3.length ≤ 63 := fun cs2 x z hz => by
    have b := fmod_in ((d3 (d2 (d1 x) (dr + 1))).fdiv 64) q (by omega)
    refine ⟨_, cs2, dr + 1, ?_, b.1, b.2, hz⟩
    rw [tail_ok cs2 mx (dr + 1) q x hq z]
    rfl
  rw [start]
  rcases List.eq_nil_or_concat cs with e | ⟨ds, c, e⟩
  · subst e
    have e1 : (sIf tstD (sSeq popD (sSeq (sIf bigD (sSeq appD retD) sNx) addD)) sNx) [some (.loc 1), some (.d (.int q)), some (.d (.int (mx + 61473 * (dr + 1)))), none] (deckS [] mx (dr + 1)) = .nx [some (.loc 1), some (.d (.int q)), some (.d (.int (mx + 61473 * (dr + 1)))), none] (deckS [] mx (dr + 1)) := by
      unfold sIf
      rw [tst_ok]
      rfl
    rw [e1]
    exact fin [] _ none (by simp)
  · have e : cs = ds ++ [c] := by simpa using e
    subst e
    have hl2 : ds.length + 1 ≤ 63 := by simpa using hl
    have e1 : (sIf tstD (sSeq popD (sSeq (sIf bigD (sSeq appD retD) sNx) addD)) sNx) [some (.loc 1), some (.d (.int q)), some (.d (.int (mx + 61473 * (dr + 1)))), none] (deckS (ds ++ [c]) mx (dr + 1)) =
        ((sIf bigD (sSeq appD retD) sNx) [some (.loc 1), some (.d (.int q)), some (.d (.int (mx + 61473 * (dr + 1)))), some (.d (.int c))] (deckS ds mx (dr + 1))).andThen addD := by
      unfold sIf
      rw [tst_ok, decide_eq_true (show ds ++ [c] ≠ [] by simp)]
      show sSeq popD _ _ _ = _
      unfold sSeq
      rw [pop_ok]
      rfl
    rw [e1]
    by_cases hb : 1000000000000000000 ≤ c
    · have e2 : (sIf bigD (sSeq appD retD) sNx) [some (.loc 1), some (.d (.int q)), some (.d (.int (mx + 61473 * (dr + 1)))), some (.d (.int c))] (deckS ds mx (dr + 1)) = .rt (.d (.int (c.fmod q))) (deckS (ds ++ [c.fdiv (if q > 2 then q else 2)]) mx (dr + 1)) := by
        unfold sIf
        rw [big_ok, decide_eq_true hb]
        show sSeq appD retD _ _ = _
        unfold sSeq
        rw [app_ok ds c mx (dr + 1) q _ (by omega) h1 h2]
        show retD _ _ = _
        rw [ret_ok c q _ _ _ hq]
      rw [e2]
      have b := fmod_in c q (by omega)
      exact ⟨_, _, dr + 1, rfl, b.1, b.2, by simpa using hl2⟩
    · have e2 : (sIf bigD (sSeq appD retD) sNx) [some (.loc 1), some (.d (.int q)), some (.d (.int (mx + 61473 * (dr + 1)))), some (.d (.int c))] (deckS ds mx (dr + 1)) = .nx [some (.loc 1), some (.d (.int q)), some (.d (.int (mx + 61473 * (dr + 1)))), some (.d (.int c))] (deckS ds mx (dr + 1)) := by
        unfold sIf
        rw [big_ok, decide_eq_false hb]
        rfl
      rw [e2]
      show ∃ r cs2 dr2, ansOf ((addD [some (.loc 1), some (.d (.int q)), some (.d (.int (mx + 61473 * (dr + 1)))), some (.d (.int c))] (deckS ds mx (dr + 1))).andThen tailD) = _ ∧ _
      rw [addD_ok]
      exact fin ds _ _ (by omega)
end K08

end
section
set_option maxRecDepth 100000
set_option maxHeartbeats 1000000
namespace K08
open PySem PySem.Spec L2 Mr
open PyProof.Rows hiding St
theorem ltI (i j : Int) (S : Sto) : opLt (.d (.int i)) (.d (.int j)) S = some (.d (.bool (decide (i < j)))) := rfl
theorem gtI (i j : Int) (S : Sto) : opGt (.d (.int i)) (.d (.int j)) S = some (.d (.bool (decide (j < i)))) := rfl
theorem subI (i j : Int) (S : Sto) : opSub (.d (.int i)) (.d (.int j)) S = some (.d (.int (i - j))) := rfl
theorem eqI (i j : Int) (S : Sto) : opEqU (.d (.int i)) (.d (.int j)) S = some (.d (.bool (decide (i = j)))) := by
  have e : opEqU (.d (.int i)) (.d (.int j)) S = some (.d (.bool (PyData.eqv (.int i) (.int j)))) := rfl
  rw [e]
  by_cases h : i = j <;> simp [PyData.eqv, h]
/-- what can be shown -/
structure Good (n b : Nat) (d : PyData) : Prop where
  sh : d.showable = true
  lv : d.leavesShort 60 = true
  dp : d.depth ≤ n
  bk : d.bulk ≤ b
theorem Good.mono {n b n2 b2 : Nat} {d : PyData} (g : Good n b d) (h1 : n ≤ n2) (h2 : b ≤ b2) : Good n2 b2 d := ⟨g.sh, g.lv, Nat.le_trans g.dp h1, Nat.le_trans g.bk h2⟩
theorem good_all {n b : Nat} : ∀ {xs : List PyData}, (∀ x ∈ xs, Good n b x) → PyData.showableAll xs = true ∧ PyData.leavesShortAll 60 xs = true ∧ PyData.depthAll xs ≤ n ∧ PyData.bulkAll xs ≤ (b + 1) * xs.length
  | [], _ => ⟨rfl, rfl, by simp [PyData.depthAll], by simp [PyData.bulkAll]⟩
  | x :: xs, h => by
    have hx := h x List.mem_cons_self
    obtain ⟨a1, a2, a3, a4⟩ := good_all (xs := xs) fun y hy => h y (List.mem_cons_of_mem _ hy)
    refine ⟨by simp [PyData.showableAll, hx.sh, a1], by simp [PyData.leavesShortAll, hx.lv, a2], ?_, ?_⟩
    · simp only [PyData.depthAll]
      exact Nat.max_le.mpr ⟨hx.dp, a3⟩
    · simp only [PyData.bulkAll, List.length_cons, Nat.mul_add, Nat.mul_one]
      have := hx.bk
      omega
theorem good_list {n b : Nat} {xs : List PyData} (h : ∀ x ∈ xs, Good n b x) {m : Nat} (hm : xs.length ≤ m) : Good (n + 1) ((b + 1) * m) (.list xs) := by
  obtain ⟨a1, a2, a3, a4⟩ := good_all h
  exact ⟨by simpa [PyData.showable] using a1, by simpa [PyData.leavesShort] using a2, by simp only [PyData.depth]; omega, by simp only [PyData.bulk]; exact Nat.le_trans a4 (Nat.mul_le_mul_left _ hm)⟩
theorem good_tuple {n b : Nat} {xs : List PyData} (h : ∀ x ∈ xs, Good n b x) {m : Nat} (hm : xs.length ≤ m) : Good (n + 1) ((b + 1) * m) (.tuple xs) := by
  obtain ⟨a1, a2, a3, a4⟩ := good_all h
  exact ⟨by simpa [PyData.showable] using a1, by simpa [PyData.leavesShort] using a2, by simp only [PyData.depth]; omega, by simp only [PyData.bulk]; exact Nat.le_trans a4 (Nat.mul_le_mul_left _ hm)⟩
theorem good_rep {n b : Nat} {d : PyData} (g : Good n b d) (hn : n ≤ 50) (hb : b ≤ 200000) : reprable d = true := by
  unfold reprable
  rw [g.sh, decide_eq_true (Nat.le_trans g.dp hn)]
  have h := PyData.shown_le_bulk 60 (by decide) d g.lv
  have h2 := g.bk
  rw [decide_eq_true (show d.shown.length ≤ sizeLine by
    have : sizeLine = 16777216 := by decide
    omega)]
  rfl
theorem len_l (xs : List PyData) (S : Sto) : pLen [.d (.list xs)] S = some (.d (.int xs.length)) := rfl
theorem len_t (xs : List PyData) (S : Sto) : pLen [.d (.tuple xs)] S = some (.d (.int xs.length)) := rfl
theorem at_ok {xs : List PyData} {r : Int} (h1 : 0 ≤ r) (h2 : r < xs.length) : ∃ x ∈ xs, atI xs r = some x := by
  have h : r.toNat < xs.length := by omega
  refine ⟨xs[r.toNat], List.getElem_mem h, ?_⟩
  simp [atI, ixN, h1, h2, List.getElem?_eq_getElem h]
theorem pick_l {P : PyData → Prop} (cs : List Int) (mx dr : Int) (hl : cs.length ≤ 63) (xs : List PyData) (h1 : 1 ≤ xs.length) (h2 : xs.length < 1000) (hP : ∀ x ∈ xs, P x) :
    ∃ (x : PyData) (cs2 : List Int) (dr2 : Int), f__law_pick [.loc 1, .d (.list xs)] (deckS cs mx dr) = .ok (.d x) (deckS cs2 mx dr2) ∧ P x ∧ cs2.length ≤ 63 := by
  obtain ⟨r, cs2, dr2, e, a, b, c⟩ := draw_ok cs mx dr xs.length hl (by omega) (by omega)
  obtain ⟨x, hx, q⟩ := at_ok a (by omega : r < (xs.length : Int))
  refine ⟨x, cs2, dr2, ?_, hP x hx, c⟩
  unfold f__law_pick fnM m__law_pick
  show ansOf (sRet (e2 opIx (eV 1) (eCall f__law_draw (aC (eV 0) (aC (ePrim pLen (aC (eV 1) aN)) aN)))) [some (.loc 1), some (.d (.list xs))] (deckS cs mx dr)) = _
  unfold sRet e2 eCall aC ePrim aN
  simp only [R.bind, R.toS, lift, ev0 none _ _ _, ev1 _ _ _ _, len_l, e]
  simp only [aC, aN, R.bind, ev1 _ _ _ _, len_l, lift, opIx, asI, q, Option.map, Option.bind, ansOf, e]
theorem pick_t {P : PyData → Prop} (cs : List Int) (mx dr : Int) (hl : cs.length ≤ 63) (xs : List PyData) (h1 : 1 ≤ xs.length) (h2 : xs.length < 1000) (hP : ∀ x ∈ xs, P x) :
    ∃ (x : PyData) (cs2 : List Int) (dr2 : Int), f__law_pick [.loc 1, .d (.tuple xs)] (deckS cs mx dr) = .ok (.d x) (deckS cs2 mx dr2) ∧ P x ∧ cs2.length ≤ 63 := by
  obtain ⟨r, cs2, dr2, e, a, b, c⟩ := draw_ok cs mx dr xs.length hl (by omega) (by omega)
  obtain ⟨x, hx, q⟩ := at_ok a (by omega : r < (xs.length : Int))
  refine ⟨x, cs2, dr2, ?_, hP x hx, c⟩
  unfold f__law_pick fnM m__law_pick
  show ansOf (sRet (e2 opIx (eV 1) (eCall f__law_draw (aC (eV 0) (aC (ePrim pLen (aC (eV 1) aN)) aN)))) [some (.loc 1), some (.d (.tuple xs))] (deckS cs mx dr)) = _
  unfold sRet e2 eCall aC ePrim aN
  simp only [R.bind, R.toS, lift, ev0 none _ _ _, ev1 _ _ _ _, len_t, e]
  simp only [aC, aN, R.bind, ev1 _ _ _ _, len_t, lift, opIx, asI, q, Option.map, Option.bind, ansOf, e]
end K08

end
section
set_option maxRecDepth 100000
set_option maxHeartbeats 1000000
namespace K08
open PySem PySem.Spec L2 Mr
open PyProof.Rows hiding St
theorem seq_rt {a b : Env1 → Sto → Out} {e : Env1} {S S2 : Sto} {m : M} (h : a e S = .rt m S2) : sSeq a b e S = .rt m S2 := by
  unfold sSeq
  rw [h]
  rfl
theorem if_t {t : Env1 → Sto → R Bool} {a b : Env1 → Sto → Out} {e : Env1} {S S2 : Sto} (h : t e S = .ok true S2) : sIf t a b e S = a e S2 := by
  unfold sIf
  rw [h]
  rfl
theorem if_f {t : Env1 → Sto → R Bool} {a b : Env1 → Sto → Out} {e : Env1} {S S2 : Sto} (h : t e S = .ok false S2) : sIf t a b e S = b e S2 := by
  unfold sIf
  rw [h]
  rfl
theorem eif_t {t : Env1 → Sto → R Bool} {a b : Env1 → Sto → R M} {e : Env1} {S S2 : Sto} (h : t e S = .ok true S2) : eIf t a b e S = a e S2 := by
  unfold eIf
  rw [h]
  rfl
theorem eif_f {t : Env1 → Sto → R Bool} {a b : Env1 → Sto → R M} {e : Env1} {S S2 : Sto} (h : t e S = .ok false S2) : eIf t a b e S = b e S2 := by
  unfold eIf
  rw [h]
  rfl
theorem set_v {i : Nat} {f : Env1 → Sto → R M} {e : Env1} {S S2 : Sto} {m : M} (h : f e S = .ok m S2) : sSet i f e S = .nx (e.set i (some m)) S2 := by
  unfold sSet
  rw [h]
  rfl
theorem ret_v {f : Env1 → Sto → R M} {e : Env1} {S S2 : Sto} {m : M} (h : f e S = .ok m S2) : sRet f e S = .rt m S2 := by
  unfold sRet
  rw [h]
  rfl
theorem a_nil {e : Env1} {S : Sto} : aN e S = .ok [] S := rfl
theorem a_cons {f : Env1 → Sto → R M} {fs : Env1 → Sto → R (List M)} {e : Env1} {S S1 S2 : Sto} {m : M} {ms : List M} (h : f e S = .ok m S1) (t : fs e S1 = .ok ms S2) : aC f fs e S = .ok (m :: ms) S2 := by
  unfold aC
  rw [h]
  show (R.bind (fs e S1) _) = _
  rw [t]
  rfl
theorem c_call {f : List M → Sto → R M} {fs : Env1 → Sto → R (List M)} {e : Env1} {S S1 : Sto} {ms : List M} (h : fs e S = .ok ms S1) : eCall f fs e S = f ms S1 := by
  unfold eCall
  rw [h]
  rfl
theorem p_call {op : List M → Sto → Option M} {fs : Env1 → Sto → R (List M)} {e : Env1} {S S1 : Sto} {ms : List M} {m : M} (h : fs e S = .ok ms S1) (q : op ms S1 = some m) : ePrim op fs e S = .ok m S1 := by
  unfold ePrim
  rw [h]
  show lift (op ms S1) S1 = _
  rw [q]
  rfl
theorem v_op {op : M → M → Sto → Option M} {f k : Env1 → Sto → R M} {e : Env1} {S S1 S2 : Sto} {a b m : M} (h : f e S = .ok a S1) (t : k e S1 = .ok b S2) (q : op a b S2 = some m) : e2 op f k e S = .ok m S2 := by
  unfold e2
  rw [h]
  show (R.bind (k e S1) _) = _
  rw [t]
  show lift (op a b S2) S2 = _
  rw [q]
  rfl
theorem t_op {op : M → M → Sto → Option M} {f k : Env1 → Sto → R M} {e : Env1} {S S1 S2 : Sto} {a b : M} {c : Bool} (h : f e S = .ok a S1) (t : k e S1 = .ok b S2) (q : op a b S2 = some (.d (.bool c))) : Mr.tB (e2 op f k) e S = .ok c S2 := by
  unfold Mr.tB
  rw [v_op h t q]
  rfl
theorem c_v {m : M} {e : Env1} {S : Sto} : eC m e S = .ok m S := rfl
theorem v_at {i : Nat} {m : M} {e : Env1} {S : Sto} (h : e[i]? = some (some m)) : eV i e S = .ok m S := by
  unfold eV
  rw [h]
/-- if ..: return pick(deck, [..]) -/
theorem if_pick {P : PyData → Prop} {t : Env1 → Sto → R Bool} {L : Env1 → Sto → R M} {e : Env1} {cs : List Int} {mx dr : Int} {xs : List PyData} (h0 : e[0]? = some (some (.loc 1))) (ht : t e (deckS cs mx dr) = .ok true (deckS cs mx dr)) (hL : L e (deckS cs mx dr) = .ok (.d (.list xs)) (deckS cs mx dr)) (hl : cs.length ≤ 63) (h1 : 1 ≤ xs.length) (h2 : xs.length < 1000) (hP : ∀ x ∈ xs, P x) :
    ∃ (x : PyData) (cs2 : List Int) (dr2 : Int), (sIf t (sRet (eCall f__law_pick (aC (eV 0) (aC L aN)))) sNx) e (deckS cs mx dr) = .rt (.d x) (deckS cs2 mx dr2) ∧ P x ∧ cs2.length ≤ 63 := by
  obtain ⟨x, cs2, dr2, q, p, l⟩ := pick_l cs mx dr hl xs h1 h2 hP
  refine ⟨x, cs2, dr2, ?_, p, l⟩
  rw [if_t ht]
  refine ret_v ?_
  rw [c_call (a_cons (v_at h0) (a_cons hL a_nil)), q]
theorem draw_call {e : Env1} {cs : List Int} {mx dr : Int} {f : Env1 → Sto → R M} {q : Int} (h0 : e[0]? = some (some (.loc 1))) (hf : f e (deckS cs mx dr) = .ok (.d (.int q)) (deckS cs mx dr)) (hl : cs.length ≤ 63) (h1 : 1 ≤ q) (h2 : q < 1000) :
    ∃ (r : Int) (cs2 : List Int) (dr2 : Int), eCall f__law_draw (aC (eV 0) (aC f aN)) e (deckS cs mx dr) = .ok (.d (.int r)) (deckS cs2 mx dr2) ∧ 0 ≤ r ∧ r < q ∧ cs2.length ≤ 63 := by
  obtain ⟨r, cs2, dr2, a, b, c, d⟩ := draw_ok cs mx dr q hl h1 h2
  refine ⟨r, cs2, dr2, ?_, b, c, d⟩
  rw [c_call (a_cons (v_at h0) (a_cons hf a_nil)), a]
/-- a comprehension whose elements draw -/
theorem lc_deck {P : PyData → Prop} {mx : Int} {e : Env1} {fe : Env1 → Sto → R M} {k : Nat} (h : ∀ (cs : List Int) (dr i : Int), cs.length ≤ 63 → ∃ (y : PyData) (cs2 : List Int) (dr2 : Int), fe (e.set k (some (.d (.int i)))) (deckS cs mx dr) = .ok (.d y) (deckS cs2 mx dr2) ∧ P y ∧ cs2.length ≤ 63) :
    ∀ (is : List Int) (acc : List PyData) (cs : List Int) (dr : Int), cs.length ≤ 63 → is.length + acc.length ≤ 1000 → (∀ x ∈ acc, P x) → ∃ (ys : List PyData) (cs2 : List Int) (dr2 : Int), lcL (tgN k) tYesM fe (is.map fun i => .d (.int i)) e (deckS cs mx dr) acc = .ok (.d (.list ys)) (deckS cs2 mx dr2) ∧ (∀ x ∈ ys, P x) ∧ ys.length = is.length + acc.length ∧ cs2.length ≤ 63
  | [], acc, cs, dr, hc, _, ha => ⟨acc, cs, dr, rfl, ha, by simp, hc⟩
  | i :: is, acc, cs, dr, hc, hz, ha => by
    obtain ⟨y, cs1, dr1, e1, py, l1⟩ := h cs dr i hc
    have hz2 : is.length + (acc ++ [y]).length ≤ 1000 := by simp at hz ⊢; omega
    obtain ⟨ys, cs2, dr2, e2, a, b, c⟩ := lc_deck h is (acc ++ [y]) cs1 dr1 l1 hz2 (fun x hx => by
      rcases List.mem_append.mp hx with z | z
      · exact ha x z
      · rw [List.mem_singleton.mp z]; exact py)
    refine ⟨ys, cs2, dr2, ?_, a, by simp at b ⊢; omega, c⟩
    have hs : acc.length < sizeLine := by
      have : sizeLine = 16777216 := by decide
      simp at hz
      omega
    simp only [List.map_cons, lcL, tgN, tYesM, R.nox, R.bind, if_true, e1, hs]
    exact e2
end K08

end
section
set_option maxRecDepth 100000
set_option maxHeartbeats 4000000
namespace K08
open PySem PySem.Spec L2 Mr
open PyProof.Rows hiding St
theorem if_fn {t : Env1 → Sto → R Bool} {a : Env1 → Sto → Out} {e : Env1} {S S2 : Sto} (h : t e S = .ok false S2) : sIf t a sNx e S = .nx e S2 := if_f h
def Bn : Nat → Nat
  | 0 => 60
  | n + 1 => (Bn n + 1) * 3 + 60
theorem Bn_ge (n : Nat) : 60 ≤ Bn n := by cases n <;> simp [Bn] <;> omega
def anyL1 : List PyData := [.int 0, .int 1, .int (-1), .int 2, .int 3, .int 4, .int 16, .int 17, .int (10 ^ 39), .int (-10 ^ 20)]
def anyL2 : List PyData := [.str "", .str "two", .str "ring", .str "three", .str "0", .str "(0, 1)", .str "book two 2\n11", .str "~"]
def anyL3 : List PyData := [.bool true, .bool false, .none]
def anyL4 : List PyData := [.tuple [.str "two", .int 2, .tuple [.tuple [.int 1, .int 1]]], .tuple [.str "ring", .int 1, .tuple []], .tuple [.str "four", .int 2, .tuple [.tuple [.int 1, .int 2]]], .tuple [.str "three", .int 3, .tuple [.tuple [.int 0, .int 1, .int 2]]]]
def goodB (n b : Nat) (d : PyData) : Bool := d.showable && (d.leavesShort 60 && (decide (d.depth ≤ n) && decide (d.bulk ≤ b)))
theorem good_b {n b : Nat} {d : PyData} (h : goodB n b d = true) : Good n b d := by
  unfold goodB at h
  simp only [Bool.and_eq_true, decide_eq_true_eq] at h
  exact ⟨h.1, h.2.1, h.2.2.1, h.2.2.2⟩
theorem goodAll_b {n b : Nat} {xs : List PyData} (h : (xs.all (goodB n b)) = true) : ∀ x ∈ xs, Good n b x := fun x hx => good_b (List.all_eq_true.mp h x hx)
theorem g1 : ∀ x ∈ anyL1, Good 4 60 x := goodAll_b (by decide +kernel)
theorem g2 : ∀ x ∈ anyL2, Good 4 60 x := goodAll_b (by decide +kernel)
theorem g3 : ∀ x ∈ anyL3, Good 4 60 x := goodAll_b (by decide +kernel)
theorem g4 : ∀ x ∈ anyL4, Good 4 60 x := goodAll_b (by decide +kernel)
theorem good_dict {n b : Nat} {xs : List PyData} (h : ∀ x ∈ xs, Good n b x) (hm : xs.length ≤ 3) : Good (n + 2) ((b + 1) * 3 + 7) (.dict [(.str "two", .list xs), (.int 1, .int xs.length)]) := by
  have g := good_list h hm
  have s1 : PyData.leavesShort 60 (.str "two") = true := by decide
  have s2 : PyData.leavesShort 60 (.int 1) = true := by decide +kernel
  have s3 : PyData.leavesShort 60 (.int xs.length) = true := by
    have : xs.length = 0 ∨ xs.length = 1 ∨ xs.length = 2 ∨ xs.length = 3 := by omega
    rcases this with e | e | e | e <;> rw [e] <;> decide +kernel
  have v1 : PyData.showable (.int 1) = true := by decide
  have v3 : PyData.showable (.int xs.length) = true := by
    have : xs.length = 0 ∨ xs.length = 1 ∨ xs.length = 2 ∨ xs.length = 3 := by omega
    rcases this with e | e | e | e <;> rw [e] <;> decide
  have b1 : PyData.bulk (.str "two") = 3 := by decide
  refine ⟨?_, ?_, ?_, ?_⟩
  · simp only [PyData.showable, PyData.showableKv, Bool.and_eq_true]
    exact ⟨⟨trivial, g.sh⟩, ⟨v1, v3⟩, trivial⟩
  · simp only [PyData.leavesShort, PyData.leavesShortKv, Bool.and_eq_true] at s1 s2 s3 ⊢
    exact ⟨⟨s1, by simpa [PyData.leavesShort] using g.lv⟩, ⟨s2, s3⟩, trivial⟩
  · have := g.dp
    simp only [PyData.depth, PyData.depthKv] at this ⊢
    omega
  · have := g.bk
    simp only [PyData.bulk, PyData.bulkKv] at this b1 ⊢
    omega
def someE (f : Nat → List M → Sto → R M) (n : Nat) : Env1 → Sto → R M := eIf (Mr.tB (e2 opGt (eV 1) (eC (.d (.int 0))))) (eLc [4] (iRng (aC (eCall f__law_draw (aC (eV 0) (aC (eC (.d (.int 4))) aN))) aN)) (tgN 4) tYesM (eCall (f n) (aC (eV 0) (aC (e2 opSub (eV 1) (eC (.d (.int 1)))) aN)))) (eLst aN)
theorem rng_map (k : Nat) : rngL 0 k = ((List.range k).map fun (j : Nat) => (0 + (j : Int))).map fun i => M.d (.int i) := by
  unfold rngL
  rw [List.map_map]
  rfl
theorem any_ok (mx : Int) : ∀ (fuel n : Nat) (cs : List Int) (dr : Int), n < fuel → cs.length ≤ 63 → ∃ (x : PyData) (cs2 : List Int) (dr2 : Int), f__law_any fuel [.loc 1, .d (.int n)] (deckS cs mx dr) = .ok (.d x) (deckS cs2 mx dr2) ∧ Good (4 + 2 * n) (Bn n) x ∧ cs2.length ≤ 63
  | 0, n, cs, dr, h, _ => absurd h (by omega)
  | f + 1, n, cs, dr, h, hl => by
    have up : ∀ {x : PyData}, Good 4 60 x → Good (4 + 2 * n) (Bn n) x := fun g => g.mono (by omega) (Bn_ge n)
    show ∃ (x : PyData) (cs2 : List Int) (dr2 : Int), ansOf (m__law_any (fun _ => f__law_any f) f [some (.loc 1), some (.d (.int n)), none, none, none] (deckS cs mx dr)) = _ ∧ _
    unfold m__law_any
    obtain ⟨r, cs1, dr1, q1, r0, r9, l1⟩ := draw_call (e := [some (.loc 1), some (.d (.int n)), none, none, none]) (f := eC (.d (.int 9))) (dr := dr) (mx := mx) rfl c_v hl (by decide) (by decide)
    rw [seq_nx (set_v q1)]
    show ∃ (x : PyData) (cs2 : List Int) (dr2 : Int), ansOf (sSeq _ _ [some (.loc 1), some (.d (.int n)), some (.d (.int r)), none, none] (deckS cs1 mx dr1)) = _ ∧ _
    have t1 : ∀ (op : M → M → Sto → Option M) (j : Int) (c : Bool), op (.d (.int r)) (.d (.int j)) (deckS cs1 mx dr1) = some (.d (.bool c)) → Mr.tB (e2 op (eV 2) (eC (.d (.int j)))) [some (.loc 1), some (.d (.int n)), some (.d (.int r)), none, none] (deckS cs1 mx dr1) = .ok c (deckS cs1 mx dr1) := fun op j c q => t_op (v_at rfl) c_v q
    by_cases h2 : r < 2
    · obtain ⟨x, cs2, dr2, q, p, l⟩ := if_pick (P := Good 4 60) (t := Mr.tB (e2 opLt (eV 2) (eC (.d (.int 2))))) (L := eLst (aC (eC (.d (.int 0))) (aC (eC (.d (.int 1))) (aC (e1 opNeg (eC (.d (.int 1)))) (aC (eC (.d (.int 2))) (aC (eC (.d (.int 3))) (aC (eC (.d (.int 4))) (aC (eC (.d (.int 16))) (aC (eC (.d (.int 17))) (aC (e2 opPow (eC (.d (.int 10))) (eC (.d (.int 39)))) (aC (e1 opNeg (e2 opPow (eC (.d (.int 10))) (eC (.d (.int 20))))) aN)))))))))))
        (e := [some (.loc 1), some (.d (.int n)), some (.d (.int r)), none, none]) (xs := anyL1) rfl (t1 opLt 2 true (by rw [ltI, decide_eq_true h2])) rfl l1 (by decide) (by decide) g1
      rw [seq_rt q]
      exact ⟨x, cs2, dr2, rfl, up p, l⟩
    rw [seq_nx (if_fn (t1 opLt 2 false (by rw [ltI, decide_eq_false h2])))]
    by_cases h4 : r < 4
    · obtain ⟨x, cs2, dr2, q, p, l⟩ := if_pick (P := Good 4 60) (t := Mr.tB (e2 opLt (eV 2) (eC (.d (.int 4))))) (L := eLst (aC (eC (.d (.str ""))) (aC (eC (.d (.str "two"))) (aC (eC (.d (.str "ring"))) (aC (eC (.d (.str "three"))) (aC (eC (.d (.str "0"))) (aC (eC (.d (.str "(0, 1)"))) (aC (eC (.d (.str "book two 2\n11"))) (aC (eC (.d (.str "~"))) aN)))))))))
        (e := [some (.loc 1), some (.d (.int n)), some (.d (.int r)), none, none]) (xs := anyL2) rfl (t1 opLt 4 true (by rw [ltI, decide_eq_true h4])) rfl l1 (by decide) (by decide) g2
      rw [seq_rt q]
      exact ⟨x, cs2, dr2, rfl, up p, l⟩
    rw [seq_nx (if_fn (t1 opLt 4 false (by rw [ltI, decide_eq_false h4])))]
    by_cases h5 : r = 4
    · obtain ⟨x, cs2, dr2, q, p, l⟩ := if_pick (P := Good 4 60) (t := Mr.tB (e2 opEqU (eV 2) (eC (.d (.int 4))))) (L := eLst (aC (eC (.d (.bool true))) (aC (eC (.d (.bool false))) (aC (eC (.d .none)) aN))))
        (e := [some (.loc 1), some (.d (.int n)), some (.d (.int r)), none, none]) (xs := anyL3) rfl (t1 opEqU 4 true (by rw [eqI, decide_eq_true h5])) rfl l1 (by decide) (by decide) g3
      rw [seq_rt q]
      exact ⟨x, cs2, dr2, rfl, up p, l⟩
    rw [seq_nx (if_fn (t1 opEqU 4 false (by rw [eqI, decide_eq_false h5])))]
    by_cases h8 : r = 8
    · obtain ⟨x, cs2, dr2, q, p, l⟩ := if_pick (P := Good 4 60) (t := Mr.tB (e2 opEqU (eV 2) (eC (.d (.int 8))))) (L := eLst (aC (eTup (aC (eC (.d (.str "two"))) (aC (eC (.d (.int 2))) (aC (eTup (aC (eTup (aC (eC (.d (.int 1))) (aC (eC (.d (.int 1))) aN))) aN)) aN)))) (aC (eTup (aC (eC (.d (.str "ring"))) (aC (eC (.d (.int 1))) (aC (eTup aN) aN)))) (aC (eTup (aC (eC (.d (.str "four"))) (aC (eC (.d (.int 2))) (aC (eTup (aC (eTup (aC (eC (.d (.int 1))) (aC (eC (.d (.int 2))) aN))) aN)) aN)))) (aC (eTup (aC (eC (.d (.str "three"))) (aC (eC (.d (.int 3))) (aC (eTup (aC (eTup (aC (eC (.d (.int 0))) (aC (eC (.d (.int 1))) (aC (eC (.d (.int 2))) aN)))) aN)) aN)))) aN)))))
        (e := [some (.loc 1), some (.d (.int n)), some (.d (.int r)), none, none]) (xs := anyL4) rfl (t1 opEqU 8 true (by rw [eqI, decide_eq_true h8])) rfl l1 (by decide) (by decide) g4
      rw [seq_rt q]
      exact ⟨x, cs2, dr2, rfl, up p, l⟩
    rw [seq_nx (if_fn (t1 opEqU 8 false (by rw [eqI, decide_eq_false h8])))]
    have some_ : ∃ (ys : List PyData) (cs2 : List Int) (dr2 : Int) (D B : Nat), someE (fun _ => f__law_any f) f [some (.loc 1), some (.d (.int n)), some (.d (.int r)), none, none] (deckS cs1 mx dr1) = .ok (.d (.list ys)) (deckS cs2 mx dr2) ∧ cs2.length ≤ 63 ∧ ys.length ≤ 3 ∧ (∀ x ∈ ys, Good D B x) ∧ D + 2 ≤ 4 + 2 * n ∧ (B + 1) * 3 + 20 ≤ Bn n := by
      unfold someE
      cases n with
      | zero =>
        refine ⟨[], cs1, dr1, 0, 0, ?_, l1, by simp, by simp, by omega, by decide⟩
        rw [eif_f (t_op (v_at rfl) c_v (gtI _ _ _))]
        rfl
      | succ n =>
        rw [eif_t (t_op (c := true) (v_at rfl) c_v (by rw [gtI, decide_eq_true (by omega)]))]
        obtain ⟨k, cs2, dr2, q2, k0, k4, l2⟩ := draw_call (e := [some (.loc 1), some (.d (.int ((n + 1 : Nat) : Int))), some (.d (.int r)), none, none]) (f := eC (.d (.int 4))) (dr := dr1) (mx := mx) rfl c_v l1 (by decide) (by decide)
        obtain ⟨ys, cs3, dr3, q3, py, ly, l3⟩ := lc_deck (P := Good (4 + 2 * n) (Bn n)) (mx := mx) (k := 4) (e := [some (.loc 1), some (.d (.int ((n + 1 : Nat) : Int))), some (.d (.int r)), none, none]) (fe := eCall (f__law_any f) (aC (eV 0) (aC (e2 opSub (eV 1) (eC (.d (.int 1)))) aN))) (fun cs dr i hc => by
          obtain ⟨y, cs4, dr4, q4, gy, l4⟩ := any_ok mx f n cs dr (by omega) hc
          refine ⟨y, cs4, dr4, ?_, gy, l4⟩
          rw [c_call (a_cons (v_at rfl) (a_cons (v_op (v_at rfl) c_v (subI _ _ _)) a_nil))]
          rw [show (((n + 1 : Nat) : Int) - 1) = (n : Int) by omega]
          exact q4) ((List.range k.toNat).map fun (j : Nat) => (0 + (j : Int))) [] cs2 dr2 l2 (by simp; omega) (by simp)
        refine ⟨ys, cs3, dr3, 4 + 2 * n, Bn n, ?_, l3, by simp at ly; omega, py, by omega, by simp only [Bn]; omega⟩
        unfold eLc iRng
        rw [a_cons q2 a_nil]
        simp only [R.bind]
        rw [if_pos (show -(2 ^ 62) ≤ k ∧ k < 2 ^ 62 by omega), rng_map]
        exact q3
    obtain ⟨ys, cs2, dr2, D, B, q2, l2, ly, gy, hD, hB⟩ := some_
    show ∃ (x : PyData) (cs3 : List Int) (dr3 : Int), ansOf (sSeq (sSet 3 (someE (fun _ => f__law_any f) f)) _ [some (.loc 1), some (.d (.int n)), some (.d (.int r)), none, none] (deckS cs1 mx dr1)) = _ ∧ _
    rw [seq_nx (set_v (i := 3) (f := someE (fun _ => f__law_any f) f) q2)]
    show ∃ (x : PyData) (cs3 : List Int) (dr3 : Int), ansOf (sSeq _ _ [some (.loc 1), some (.d (.int n)), some (.d (.int r)), some (.d (.list ys)), none] (deckS cs2 mx dr2)) = _ ∧ _
    have t2 : ∀ (j : Int) (c : Bool), decide (r = j) = c → Mr.tB (e2 opEqU (eV 2) (eC (.d (.int j)))) [some (.loc 1), some (.d (.int n)), some (.d (.int r)), some (.d (.list ys)), none] (deckS cs2 mx dr2) = .ok c (deckS cs2 mx dr2) := fun j c q => t_op (v_at rfl) c_v (by rw [eqI, q])
    have up2 : ∀ {a b : Nat} {x : PyData}, Good a b x → a ≤ D + 2 → b ≤ (B + 1) * 3 + 20 → Good (4 + 2 * n) (Bn n) x := fun g h1 h2 => g.mono (by omega) (by omega)
    by_cases h5' : r = 5
    · rw [seq_rt ((if_t (t2 5 true (decide_eq_true h5'))).trans (ret_v (v_at rfl)))]
      exact ⟨_, cs2, dr2, rfl, up2 (good_list gy ly) (by omega) (by omega), l2⟩
    rw [seq_nx (if_fn (t2 5 false (decide_eq_false h5')))]
    by_cases h6 : r = 6
    · refine ⟨.dict [(.str "two", .list ys), (.int 1, .int ys.length)], cs2, dr2, ?_, up2 (good_dict gy ly) (by omega) (by omega), l2⟩
      show ansOf (sRet _ _ _) = ansOf (.rt (.d (.dict [(.str "two", .list ys), (.int 1, .int ys.length)])) (deckS cs2 mx dr2))
      exact congrArg ansOf (ret_v ((eif_t (t2 6 true (decide_eq_true h6))).trans rfl))
    · refine ⟨.tuple ys, cs2, dr2, ?_, up2 (good_tuple gy ly) (by omega) (by omega), l2⟩
      rw [ret_v ((eif_f (t2 6 false (decide_eq_false h6))).trans (p_call (a_cons (v_at rfl) a_nil) rfl))]
      rfl
end K08

end
section
set_option maxRecDepth 100000
set_option maxHeartbeats 0
namespace K08
open PySem PySem.Spec L2 Mr
open PyProof.Rows hiding St
theorem all_two (S : Sto) : f__law_are_all_right [.d (.str "two")] S = .ok (.d (.bool true)) S := by kernel_rfl
theorem all_three (S : Sto) : f__law_are_all_right [.d (.str "three")] S = .ok (.d (.bool true)) S := by kernel_rfl
theorem all_four (S : Sto) : f__law_are_all_right [.d (.str "four")] S = .ok (.d (.bool true)) S := by kernel_rfl
theorem all_ring (S : Sto) : f__law_are_all_right [.d (.str "ring")] S = .ok (.d (.bool true)) S := by kernel_rfl
theorem sz_two (S : Sto) : f__law_size [.d (.str "two")] S = .ok (.d (.int 2)) S := by kernel_rfl
theorem sz_three (S : Sto) : f__law_size [.d (.str "three")] S = .ok (.d (.int 3)) S := by kernel_rfl
theorem sz_four (S : Sto) : f__law_size [.d (.str "four")] S = .ok (.d (.int 4)) S := by kernel_rfl
theorem sz_ring (S : Sto) : f__law_size [.d (.str "ring")] S = .ok (.d (.int 4)) S := by kernel_rfl
theorem th_two_000 (S : Sto) : f__law_are_three_right [.d (.str "two"), .d (.int 0), .d (.int 0), .d (.int 0)] S = .ok (.d (.bool true)) S := by kernel_rfl
theorem th_two_001 (S : Sto) : f__law_are_three_right [.d (.str "two"), .d (.int 0), .d (.int 0), .d (.int 1)] S = .ok (.d (.bool true)) S := by kernel_rfl
theorem th_two_010 (S : Sto) : f__law_are_three_right [.d (.str "two"), .d (.int 0), .d (.int 1), .d (.int 0)] S = .ok (.d (.bool true)) S := by kernel_rfl
theorem th_two_011 (S : Sto) : f__law_are_three_right [.d (.str "two"), .d (.int 0), .d (.int 1), .d (.int 1)] S = .ok (.d (.bool true)) S := by kernel_rfl
theorem th_two_100 (S : Sto) : f__law_are_three_right [.d (.str "two"), .d (.int 1), .d (.int 0), .d (.int 0)] S = .ok (.d (.bool true)) S := by kernel_rfl
theorem th_two_101 (S : Sto) : f__law_are_three_right [.d (.str "two"), .d (.int 1), .d (.int 0), .d (.int 1)] S = .ok (.d (.bool true)) S := by kernel_rfl
theorem th_two_110 (S : Sto) : f__law_are_three_right [.d (.str "two"), .d (.int 1), .d (.int 1), .d (.int 0)] S = .ok (.d (.bool true)) S := by kernel_rfl
theorem th_two_111 (S : Sto) : f__law_are_three_right [.d (.str "two"), .d (.int 1), .d (.int 1), .d (.int 1)] S = .ok (.d (.bool true)) S := by kernel_rfl
theorem th_three_000 (S : Sto) : f__law_are_three_right [.d (.str "three"), .d (.int 0), .d (.int 0), .d (.int 0)] S = .ok (.d (.bool true)) S := by kernel_rfl
theorem th_three_001 (S : Sto) : f__law_are_three_right [.d (.str "three"), .d (.int 0), .d (.int 0), .d (.int 1)] S = .ok (.d (.bool true)) S := by kernel_rfl
theorem th_three_002 (S : Sto) : f__law_are_three_right [.d (.str "three"), .d (.int 0), .d (.int 0), .d (.int 2)] S = .ok (.d (.bool true)) S := by kernel_rfl
theorem th_three_010 (S : Sto) : f__law_are_three_right [.d (.str "three"), .d (.int 0), .d (.int 1), .d (.int 0)] S = .ok (.d (.bool true)) S := by kernel_rfl
theorem th_three_011 (S : Sto) : f__law_are_three_right [.d (.str "three"), .d (.int 0), .d (.int 1), .d (.int 1)] S = .ok (.d (.bool true)) S := by kernel_rfl
theorem th_three_012 (S : Sto) : f__law_are_three_right [.d (.str "three"), .d (.int 0), .d (.int 1), .d (.int 2)] S = .ok (.d (.bool true)) S := by kernel_rfl
theorem th_three_020 (S : Sto) : f__law_are_three_right [.d (.str "three"), .d (.int 0), .d (.int 2), .d (.int 0)] S = .ok (.d (.bool true)) S := by kernel_rfl
theorem th_three_021 (S : Sto) : f__law_are_three_right [.d (.str "three"), .d (.int 0), .d (.int 2), .d (.int 1)] S = .ok (.d (.bool true)) S := by kernel_rfl
theorem th_three_022 (S : Sto) : f__law_are_three_right [.d (.str "three"), .d (.int 0), .d (.int 2), .d (.int 2)] S = .ok (.d (.bool true)) S := by kernel_rfl
theorem th_three_100 (S : Sto) : f__law_are_three_right [.d (.str "three"), .d (.int 1), .d (.int 0), .d (.int 0)] S = .ok (.d (.bool true)) S := by kernel_rfl
theorem th_three_101 (S : Sto) : f__law_are_three_right [.d (.str "three"), .d (.int 1), .d (.int 0), .d (.int 1)] S = .ok (.d (.bool true)) S := by kernel_rfl
theorem th_three_102 (S : Sto) : f__law_are_three_right [.d (.str "three"), .d (.int 1), .d (.int 0), .d (.int 2)] S = .ok (.d (.bool true)) S := by kernel_rfl
theorem th_three_110 (S : Sto) : f__law_are_three_right [.d (.str "three"), .d (.int 1), .d (.int 1), .d (.int 0)] S = .ok (.d (.bool true)) S := by kernel_rfl
theorem th_three_111 (S : Sto) : f__law_are_three_right [.d (.str "three"), .d (.int 1), .d (.int 1), .d (.int 1)] S = .ok (.d (.bool true)) S := by kernel_rfl
theorem th_three_112 (S : Sto) : f__law_are_three_right [.d (.str "three"), .d (.int 1), .d (.int 1), .d (.int 2)] S = .ok (.d (.bool true)) S := by kernel_rfl
theorem th_three_120 (S : Sto) : f__law_are_three_right [.d (.str "three"), .d (.int 1), .d (.int 2), .d (.int 0)] S = .ok (.d (.bool true)) S := by kernel_rfl
theorem th_three_121 (S : Sto) : f__law_are_three_right [.d (.str "three"), .d (.int 1), .d (.int 2), .d (.int 1)] S = .ok (.d (.bool true)) S := by kernel_rfl
theorem th_three_122 (S : Sto) : f__law_are_three_right [.d (.str "three"), .d (.int 1), .d (.int 2), .d (.int 2)] S = .ok (.d (.bool true)) S := by kernel_rfl
theorem th_three_200 (S : Sto) : f__law_are_three_right [.d (.str "three"), .d (.int 2), .d (.int 0), .d (.int 0)] S = .ok (.d (.bool true)) S := by kernel_rfl
theorem th_three_201 (S : Sto) : f__law_are_three_right [.d (.str "three"), .d (.int 2), .d (.int 0), .d (.int 1)] S = .ok (.d (.bool true)) S := by kernel_rfl
theorem th_three_202 (S : Sto) : f__law_are_three_right [.d (.str "three"), .d (.int 2), .d (.int 0), .d (.int 2)] S = .ok (.d (.bool true)) S := by kernel_rfl
theorem th_three_210 (S : Sto) : f__law_are_three_right [.d (.str "three"), .d (.int 2), .d (.int 1), .d (.int 0)] S = .ok (.d (.bool true)) S := by kernel_rfl
theorem th_three_211 (S : Sto) : f__law_are_three_right [.d (.str "three"), .d (.int 2), .d (.int 1), .d (.int 1)] S = .ok (.d (.bool true)) S := by kernel_rfl
theorem th_three_212 (S : Sto) : f__law_are_three_right [.d (.str "three"), .d (.int 2), .d (.int 1), .d (.int 2)] S = .ok (.d (.bool true)) S := by kernel_rfl
theorem th_three_220 (S : Sto) : f__law_are_three_right [.d (.str "three"), .d (.int 2), .d (.int 2), .d (.int 0)] S = .ok (.d (.bool true)) S := by kernel_rfl
theorem th_three_221 (S : Sto) : f__law_are_three_right [.d (.str "three"), .d (.int 2), .d (.int 2), .d (.int 1)] S = .ok (.d (.bool true)) S := by kernel_rfl
theorem th_three_222 (S : Sto) : f__law_are_three_right [.d (.str "three"), .d (.int 2), .d (.int 2), .d (.int 2)] S = .ok (.d (.bool true)) S := by kernel_rfl
theorem th_four_000 (S : Sto) : f__law_are_three_right [.d (.str "four"), .d (.int 0), .d (.int 0), .d (.int 0)] S = .ok (.d (.bool true)) S := by kernel_rfl
theorem th_four_001 (S : Sto) : f__law_are_three_right [.d (.str "four"), .d (.int 0), .d (.int 0), .d (.int 1)] S = .ok (.d (.bool true)) S := by kernel_rfl
theorem th_four_002 (S : Sto) : f__law_are_three_right [.d (.str "four"), .d (.int 0), .d (.int 0), .d (.int 2)] S = .ok (.d (.bool true)) S := by kernel_rfl
theorem th_four_003 (S : Sto) : f__law_are_three_right [.d (.str "four"), .d (.int 0), .d (.int 0), .d (.int 3)] S = .ok (.d (.bool true)) S := by kernel_rfl
theorem th_four_010 (S : Sto) : f__law_are_three_right [.d (.str "four"), .d (.int 0), .d (.int 1), .d (.int 0)] S = .ok (.d (.bool true)) S := by kernel_rfl
theorem th_four_011 (S : Sto) : f__law_are_three_right [.d (.str "four"), .d (.int 0), .d (.int 1), .d (.int 1)] S = .ok (.d (.bool true)) S := by kernel_rfl
theorem th_four_012 (S : Sto) : f__law_are_three_right [.d (.str "four"), .d (.int 0), .d (.int 1), .d (.int 2)] S = .ok (.d (.bool true)) S := by kernel_rfl
theorem th_four_013 (S : Sto) : f__law_are_three_right [.d (.str "four"), .d (.int 0), .d (.int 1), .d (.int 3)] S = .ok (.d (.bool true)) S := by kernel_rfl
theorem th_four_020 (S : Sto) : f__law_are_three_right [.d (.str "four"), .d (.int 0), .d (.int 2), .d (.int 0)] S = .ok (.d (.bool true)) S := by kernel_rfl
theorem th_four_021 (S : Sto) : f__law_are_three_right [.d (.str "four"), .d (.int 0), .d (.int 2), .d (.int 1)] S = .ok (.d (.bool true)) S := by kernel_rfl
theorem th_four_022 (S : Sto) : f__law_are_three_right [.d (.str "four"), .d (.int 0), .d (.int 2), .d (.int 2)] S = .ok (.d (.bool true)) S := by kernel_rfl
theorem th_four_023 (S : Sto) : f__law_are_three_right [.d (.str "four"), .d (.int 0), .d (.int 2), .d (.int 3)] S = .ok (.d (.bool true)) S := by kernel_rfl
theorem th_four_030 (S : Sto) : f__law_are_three_right [.d (.str "four"), .d (.int 0), .d (.int 3), .d (.int 0)] S = .ok (.d (.bool true)) S := by kernel_rfl
theorem th_four_031 (S : Sto) : f__law_are_three_right [.d (.str "four"), .d (.int 0), .d (.int 3), .d (.int 1)] S = .ok (.d (.bool true)) S := by kernel_rfl
theorem th_four_032 (S : Sto) : f__law_are_three_right [.d (.str "four"), .d (.int 0), .d (.int 3), .d (.int 2)] S = .ok (.d (.bool true)) S := by kernel_rfl
theorem th_four_033 (S : Sto) : f__law_are_three_right [.d (.str "four"), .d (.int 0), .d (.int 3), .d (.int 3)] S = .ok (.d (.bool true)) S := by kernel_rfl
theorem th_four_100 (S : Sto) : f__law_are_three_right [.d (.str "four"), .d (.int 1), .d (.int 0), .d (.int 0)] S = .ok (.d (.bool true)) S := by kernel_rfl
theorem th_four_101 (S : Sto) : f__law_are_three_right [.d (.str "four"), .d (.int 1), .d (.int 0), .d (.int 1)] S = .ok (.d (.bool true)) S := by kernel_rfl
theorem th_four_102 (S : Sto) : f__law_are_three_right [.d (.str "four"), .d (.int 1), .d (.int 0), .d (.int 2)] S = .ok (.d (.bool true)) S := by kernel_rfl
theorem th_four_103 (S : Sto) : f__law_are_three_right [.d (.str "four"), .d (.int 1), .d (.int 0), .d (.int 3)] S = .ok (.d (.bool true)) S := by kernel_rfl
theorem th_four_110 (S : Sto) : f__law_are_three_right [.d (.str "four"), .d (.int 1), .d (.int 1), .d (.int 0)] S = .ok (.d (.bool true)) S := by kernel_rfl
theorem th_four_111 (S : Sto) : f__law_are_three_right [.d (.str "four"), .d (.int 1), .d (.int 1), .d (.int 1)] S = .ok (.d (.bool true)) S := by kernel_rfl
theorem th_four_112 (S : Sto) : f__law_are_three_right [.d (.str "four"), .d (.int 1), .d (.int 1), .d (.int 2)] S = .ok (.d (.bool true)) S := by kernel_rfl
theorem th_four_113 (S : Sto) : f__law_are_three_right [.d (.str "four"), .d (.int 1), .d (.int 1), .d (.int 3)] S = .ok (.d (.bool true)) S := by kernel_rfl
theorem th_four_120 (S : Sto) : f__law_are_three_right [.d (.str "four"), .d (.int 1), .d (.int 2), .d (.int 0)] S = .ok (.d (.bool true)) S := by kernel_rfl
theorem th_four_121 (S : Sto) : f__law_are_three_right [.d (.str "four"), .d (.int 1), .d (.int 2), .d (.int 1)] S = .ok (.d (.bool true)) S := by kernel_rfl
theorem th_four_122 (S : Sto) : f__law_are_three_right [.d (.str "four"), .d (.int 1), .d (.int 2), .d (.int 2)] S = .ok (.d (.bool true)) S := by kernel_rfl
theorem th_four_123 (S : Sto) : f__law_are_three_right [.d (.str "four"), .d (.int 1), .d (.int 2), .d (.int 3)] S = .ok (.d (.bool true)) S := by kernel_rfl
theorem th_four_130 (S : Sto) : f__law_are_three_right [.d (.str "four"), .d (.int 1), .d (.int 3), .d (.int 0)] S = .ok (.d (.bool true)) S := by kernel_rfl
theorem th_four_131 (S : Sto) : f__law_are_three_right [.d (.str "four"), .d (.int 1), .d (.int 3), .d (.int 1)] S = .ok (.d (.bool true)) S := by kernel_rfl
theorem th_four_132 (S : Sto) : f__law_are_three_right [.d (.str "four"), .d (.int 1), .d (.int 3), .d (.int 2)] S = .ok (.d (.bool true)) S := by kernel_rfl
theorem th_four_133 (S : Sto) : f__law_are_three_right [.d (.str "four"), .d (.int 1), .d (.int 3), .d (.int 3)] S = .ok (.d (.bool true)) S := by kernel_rfl
theorem th_four_200 (S : Sto) : f__law_are_three_right [.d (.str "four"), .d (.int 2), .d (.int 0), .d (.int 0)] S = .ok (.d (.bool true)) S := by kernel_rfl
theorem th_four_201 (S : Sto) : f__law_are_three_right [.d (.str "four"), .d (.int 2), .d (.int 0), .d (.int 1)] S = .ok (.d (.bool true)) S := by kernel_rfl
theorem th_four_202 (S : Sto) : f__law_are_three_right [.d (.str "four"), .d (.int 2), .d (.int 0), .d (.int 2)] S = .ok (.d (.bool true)) S := by kernel_rfl
theorem th_four_203 (S : Sto) : f__law_are_three_right [.d (.str "four"), .d (.int 2), .d (.int 0), .d (.int 3)] S = .ok (.d (.bool true)) S := by kernel_rfl
theorem th_four_210 (S : Sto) : f__law_are_three_right [.d (.str "four"), .d (.int 2), .d (.int 1), .d (.int 0)] S = .ok (.d (.bool true)) S := by kernel_rfl
theorem th_four_211 (S : Sto) : f__law_are_three_right [.d (.str "four"), .d (.int 2), .d (.int 1), .d (.int 1)] S = .ok (.d (.bool true)) S := by kernel_rfl
theorem th_four_212 (S : Sto) : f__law_are_three_right [.d (.str "four"), .d (.int 2), .d (.int 1), .d (.int 2)] S = .ok (.d (.bool true)) S := by kernel_rfl
theorem th_four_213 (S : Sto) : f__law_are_three_right [.d (.str "four"), .d (.int 2), .d (.int 1), .d (.int 3)] S = .ok (.d (.bool true)) S := by kernel_rfl
theorem th_four_220 (S : Sto) : f__law_are_three_right [.d (.str "four"), .d (.int 2), .d (.int 2), .d (.int 0)] S = .ok (.d (.bool true)) S := by kernel_rfl
theorem th_four_221 (S : Sto) : f__law_are_three_right [.d (.str "four"), .d (.int 2), .d (.int 2), .d (.int 1)] S = .ok (.d (.bool true)) S := by kernel_rfl
theorem th_four_222 (S : Sto) : f__law_are_three_right [.d (.str "four"), .d (.int 2), .d (.int 2), .d (.int 2)] S = .ok (.d (.bool true)) S := by kernel_rfl
theorem th_four_223 (S : Sto) : f__law_are_three_right [.d (.str "four"), .d (.int 2), .d (.int 2), .d (.int 3)] S = .ok (.d (.bool true)) S := by kernel_rfl
theorem th_four_230 (S : Sto) : f__law_are_three_right [.d (.str "four"), .d (.int 2), .d (.int 3), .d (.int 0)] S = .ok (.d (.bool true)) S := by kernel_rfl
theorem th_four_231 (S : Sto) : f__law_are_three_right [.d (.str "four"), .d (.int 2), .d (.int 3), .d (.int 1)] S = .ok (.d (.bool true)) S := by kernel_rfl
theorem th_four_232 (S : Sto) : f__law_are_three_right [.d (.str "four"), .d (.int 2), .d (.int 3), .d (.int 2)] S = .ok (.d (.bool true)) S := by kernel_rfl
theorem th_four_233 (S : Sto) : f__law_are_three_right [.d (.str "four"), .d (.int 2), .d (.int 3), .d (.int 3)] S = .ok (.d (.bool true)) S := by kernel_rfl
theorem th_four_300 (S : Sto) : f__law_are_three_right [.d (.str "four"), .d (.int 3), .d (.int 0), .d (.int 0)] S = .ok (.d (.bool true)) S := by kernel_rfl
theorem th_four_301 (S : Sto) : f__law_are_three_right [.d (.str "four"), .d (.int 3), .d (.int 0), .d (.int 1)] S = .ok (.d (.bool true)) S := by kernel_rfl
theorem th_four_302 (S : Sto) : f__law_are_three_right [.d (.str "four"), .d (.int 3), .d (.int 0), .d (.int 2)] S = .ok (.d (.bool true)) S := by kernel_rfl
theorem th_four_303 (S : Sto) : f__law_are_three_right [.d (.str "four"), .d (.int 3), .d (.int 0), .d (.int 3)] S = .ok (.d (.bool true)) S := by kernel_rfl
theorem th_four_310 (S : Sto) : f__law_are_three_right [.d (.str "four"), .d (.int 3), .d (.int 1), .d (.int 0)] S = .ok (.d (.bool true)) S := by kernel_rfl
theorem th_four_311 (S : Sto) : f__law_are_three_right [.d (.str "four"), .d (.int 3), .d (.int 1), .d (.int 1)] S = .ok (.d (.bool true)) S := by kernel_rfl
theorem th_four_312 (S : Sto) : f__law_are_three_right [.d (.str "four"), .d (.int 3), .d (.int 1), .d (.int 2)] S = .ok (.d (.bool true)) S := by kernel_rfl
theorem th_four_313 (S : Sto) : f__law_are_three_right [.d (.str "four"), .d (.int 3), .d (.int 1), .d (.int 3)] S = .ok (.d (.bool true)) S := by kernel_rfl
theorem th_four_320 (S : Sto) : f__law_are_three_right [.d (.str "four"), .d (.int 3), .d (.int 2), .d (.int 0)] S = .ok (.d (.bool true)) S := by kernel_rfl
theorem th_four_321 (S : Sto) : f__law_are_three_right [.d (.str "four"), .d (.int 3), .d (.int 2), .d (.int 1)] S = .ok (.d (.bool true)) S := by kernel_rfl
theorem th_four_322 (S : Sto) : f__law_are_three_right [.d (.str "four"), .d (.int 3), .d (.int 2), .d (.int 2)] S = .ok (.d (.bool true)) S := by kernel_rfl
theorem th_four_323 (S : Sto) : f__law_are_three_right [.d (.str "four"), .d (.int 3), .d (.int 2), .d (.int 3)] S = .ok (.d (.bool true)) S := by kernel_rfl
theorem th_four_330 (S : Sto) : f__law_are_three_right [.d (.str "four"), .d (.int 3), .d (.int 3), .d (.int 0)] S = .ok (.d (.bool true)) S := by kernel_rfl
theorem th_four_331 (S : Sto) : f__law_are_three_right [.d (.str "four"), .d (.int 3), .d (.int 3), .d (.int 1)] S = .ok (.d (.bool true)) S := by kernel_rfl
theorem th_four_332 (S : Sto) : f__law_are_three_right [.d (.str "four"), .d (.int 3), .d (.int 3), .d (.int 2)] S = .ok (.d (.bool true)) S := by kernel_rfl
theorem th_four_333 (S : Sto) : f__law_are_three_right [.d (.str "four"), .d (.int 3), .d (.int 3), .d (.int 3)] S = .ok (.d (.bool true)) S := by kernel_rfl
theorem th_ring_000 (S : Sto) : f__law_are_three_right [.d (.str "ring"), .d (.int 0), .d (.int 0), .d (.int 0)] S = .ok (.d (.bool true)) S := by kernel_rfl
theorem th_ring_001 (S : Sto) : f__law_are_three_right [.d (.str "ring"), .d (.int 0), .d (.int 0), .d (.int 1)] S = .ok (.d (.bool true)) S := by kernel_rfl
theorem th_ring_002 (S : Sto) : f__law_are_three_right [.d (.str "ring"), .d (.int 0), .d (.int 0), .d (.int 2)] S = .ok (.d (.bool true)) S := by kernel_rfl
theorem th_ring_003 (S : Sto) : f__law_are_three_right [.d (.str "ring"), .d (.int 0), .d (.int 0), .d (.int 3)] S = .ok (.d (.bool true)) S := by kernel_rfl
theorem th_ring_010 (S : Sto) : f__law_are_three_right [.d (.str "ring"), .d (.int 0), .d (.int 1), .d (.int 0)] S = .ok (.d (.bool true)) S := by kernel_rfl
theorem th_ring_011 (S : Sto) : f__law_are_three_right [.d (.str "ring"), .d (.int 0), .d (.int 1), .d (.int 1)] S = .ok (.d (.bool true)) S := by kernel_rfl
theorem th_ring_012 (S : Sto) : f__law_are_three_right [.d (.str "ring"), .d (.int 0), .d (.int 1), .d (.int 2)] S = .ok (.d (.bool true)) S := by kernel_rfl
theorem th_ring_013 (S : Sto) : f__law_are_three_right [.d (.str "ring"), .d (.int 0), .d (.int 1), .d (.int 3)] S = .ok (.d (.bool true)) S := by kernel_rfl
theorem th_ring_020 (S : Sto) : f__law_are_three_right [.d (.str "ring"), .d (.int 0), .d (.int 2), .d (.int 0)] S = .ok (.d (.bool true)) S := by kernel_rfl
theorem th_ring_021 (S : Sto) : f__law_are_three_right [.d (.str "ring"), .d (.int 0), .d (.int 2), .d (.int 1)] S = .ok (.d (.bool true)) S := by kernel_rfl
theorem th_ring_022 (S : Sto) : f__law_are_three_right [.d (.str "ring"), .d (.int 0), .d (.int 2), .d (.int 2)] S = .ok (.d (.bool true)) S := by kernel_rfl
theorem th_ring_023 (S : Sto) : f__law_are_three_right [.d (.str "ring"), .d (.int 0), .d (.int 2), .d (.int 3)] S = .ok (.d (.bool true)) S := by kernel_rfl
theorem th_ring_030 (S : Sto) : f__law_are_three_right [.d (.str "ring"), .d (.int 0), .d (.int 3), .d (.int 0)] S = .ok (.d (.bool true)) S := by kernel_rfl
theorem th_ring_031 (S : Sto) : f__law_are_three_right [.d (.str "ring"), .d (.int 0), .d (.int 3), .d (.int 1)] S = .ok (.d (.bool true)) S := by kernel_rfl
theorem th_ring_032 (S : Sto) : f__law_are_three_right [.d (.str "ring"), .d (.int 0), .d (.int 3), .d (.int 2)] S = .ok (.d (.bool true)) S := by kernel_rfl
theorem th_ring_033 (S : Sto) : f__law_are_three_right [.d (.str "ring"), .d (.int 0), .d (.int 3), .d (.int 3)] S = .ok (.d (.bool true)) S := by kernel_rfl
theorem th_ring_100 (S : Sto) : f__law_are_three_right [.d (.str "ring"), .d (.int 1), .d (.int 0), .d (.int 0)] S = .ok (.d (.bool true)) S := by kernel_rfl
theorem th_ring_101 (S : Sto) : f__law_are_three_right [.d (.str "ring"), .d (.int 1), .d (.int 0), .d (.int 1)] S = .ok (.d (.bool true)) S := by kernel_rfl
theorem th_ring_102 (S : Sto) : f__law_are_three_right [.d (.str "ring"), .d (.int 1), .d (.int 0), .d (.int 2)] S = .ok (.d (.bool true)) S := by kernel_rfl
theorem th_ring_103 (S : Sto) : f__law_are_three_right [.d (.str "ring"), .d (.int 1), .d (.int 0), .d (.int 3)] S = .ok (.d (.bool true)) S := by kernel_rfl
theorem th_ring_110 (S : Sto) : f__law_are_three_right [.d (.str "ring"), .d (.int 1), .d (.int 1), .d (.int 0)] S = .ok (.d (.bool true)) S := by kernel_rfl
theorem th_ring_111 (S : Sto) : f__law_are_three_right [.d (.str "ring"), .d (.int 1), .d (.int 1), .d (.int 1)] S = .ok (.d (.bool true)) S := by kernel_rfl
theorem th_ring_112 (S : Sto) : f__law_are_three_right [.d (.str "ring"), .d (.int 1), .d (.int 1), .d (.int 2)] S = .ok (.d (.bool true)) S := by kernel_rfl
theorem th_ring_113 (S : Sto) : f__law_are_three_right [.d (.str "ring"), .d (.int 1), .d (.int 1), .d (.int 3)] S = .ok (.d (.bool true)) S := by kernel_rfl
theorem th_ring_120 (S : Sto) : f__law_are_three_right [.d (.str "ring"), .d (.int 1), .d (.int 2), .d (.int 0)] S = .ok (.d (.bool true)) S := by kernel_rfl
theorem th_ring_121 (S : Sto) : f__law_are_three_right [.d (.str "ring"), .d (.int 1), .d (.int 2), .d (.int 1)] S = .ok (.d (.bool true)) S := by kernel_rfl
theorem th_ring_122 (S : Sto) : f__law_are_three_right [.d (.str "ring"), .d (.int 1), .d (.int 2), .d (.int 2)] S = .ok (.d (.bool true)) S := by kernel_rfl
theorem th_ring_123 (S : Sto) : f__law_are_three_right [.d (.str "ring"), .d (.int 1), .d (.int 2), .d (.int 3)] S = .ok (.d (.bool true)) S := by kernel_rfl
theorem th_ring_130 (S : Sto) : f__law_are_three_right [.d (.str "ring"), .d (.int 1), .d (.int 3), .d (.int 0)] S = .ok (.d (.bool true)) S := by kernel_rfl
theorem th_ring_131 (S : Sto) : f__law_are_three_right [.d (.str "ring"), .d (.int 1), .d (.int 3), .d (.int 1)] S = .ok (.d (.bool true)) S := by kernel_rfl
theorem th_ring_132 (S : Sto) : f__law_are_three_right [.d (.str "ring"), .d (.int 1), .d (.int 3), .d (.int 2)] S = .ok (.d (.bool true)) S := by kernel_rfl
theorem th_ring_133 (S : Sto) : f__law_are_three_right [.d (.str "ring"), .d (.int 1), .d (.int 3), .d (.int 3)] S = .ok (.d (.bool true)) S := by kernel_rfl
theorem th_ring_200 (S : Sto) : f__law_are_three_right [.d (.str "ring"), .d (.int 2), .d (.int 0), .d (.int 0)] S = .ok (.d (.bool true)) S := by kernel_rfl
theorem th_ring_201 (S : Sto) : f__law_are_three_right [.d (.str "ring"), .d (.int 2), .d (.int 0), .d (.int 1)] S = .ok (.d (.bool true)) S := by kernel_rfl
theorem th_ring_202 (S : Sto) : f__law_are_three_right [.d (.str "ring"), .d (.int 2), .d (.int 0), .d (.int 2)] S = .ok (.d (.bool true)) S := by kernel_rfl
theorem th_ring_203 (S : Sto) : f__law_are_three_right [.d (.str "ring"), .d (.int 2), .d (.int 0), .d (.int 3)] S = .ok (.d (.bool true)) S := by kernel_rfl
theorem th_ring_210 (S : Sto) : f__law_are_three_right [.d (.str "ring"), .d (.int 2), .d (.int 1), .d (.int 0)] S = .ok (.d (.bool true)) S := by kernel_rfl
theorem th_ring_211 (S : Sto) : f__law_are_three_right [.d (.str "ring"), .d (.int 2), .d (.int 1), .d (.int 1)] S = .ok (.d (.bool true)) S := by kernel_rfl
theorem th_ring_212 (S : Sto) : f__law_are_three_right [.d (.str "ring"), .d (.int 2), .d (.int 1), .d (.int 2)] S = .ok (.d (.bool true)) S := by kernel_rfl
theorem th_ring_213 (S : Sto) : f__law_are_three_right [.d (.str "ring"), .d (.int 2), .d (.int 1), .d (.int 3)] S = .ok (.d (.bool true)) S := by kernel_rfl
theorem th_ring_220 (S : Sto) : f__law_are_three_right [.d (.str "ring"), .d (.int 2), .d (.int 2), .d (.int 0)] S = .ok (.d (.bool true)) S := by kernel_rfl
theorem th_ring_221 (S : Sto) : f__law_are_three_right [.d (.str "ring"), .d (.int 2), .d (.int 2), .d (.int 1)] S = .ok (.d (.bool true)) S := by kernel_rfl
theorem th_ring_222 (S : Sto) : f__law_are_three_right [.d (.str "ring"), .d (.int 2), .d (.int 2), .d (.int 2)] S = .ok (.d (.bool true)) S := by kernel_rfl
theorem th_ring_223 (S : Sto) : f__law_are_three_right [.d (.str "ring"), .d (.int 2), .d (.int 2), .d (.int 3)] S = .ok (.d (.bool true)) S := by kernel_rfl
theorem th_ring_230 (S : Sto) : f__law_are_three_right [.d (.str "ring"), .d (.int 2), .d (.int 3), .d (.int 0)] S = .ok (.d (.bool true)) S := by kernel_rfl
theorem th_ring_231 (S : Sto) : f__law_are_three_right [.d (.str "ring"), .d (.int 2), .d (.int 3), .d (.int 1)] S = .ok (.d (.bool true)) S := by kernel_rfl
theorem th_ring_232 (S : Sto) : f__law_are_three_right [.d (.str "ring"), .d (.int 2), .d (.int 3), .d (.int 2)] S = .ok (.d (.bool true)) S := by kernel_rfl
theorem th_ring_233 (S : Sto) : f__law_are_three_right [.d (.str "ring"), .d (.int 2), .d (.int 3), .d (.int 3)] S = .ok (.d (.bool true)) S := by kernel_rfl
theorem th_ring_300 (S : Sto) : f__law_are_three_right [.d (.str "ring"), .d (.int 3), .d (.int 0), .d (.int 0)] S = .ok (.d (.bool true)) S := by kernel_rfl
theorem th_ring_301 (S : Sto) : f__law_are_three_right [.d (.str "ring"), .d (.int 3), .d (.int 0), .d (.int 1)] S = .ok (.d (.bool true)) S := by kernel_rfl
theorem th_ring_302 (S : Sto) : f__law_are_three_right [.d (.str "ring"), .d (.int 3), .d (.int 0), .d (.int 2)] S = .ok (.d (.bool true)) S := by kernel_rfl
theorem th_ring_303 (S : Sto) : f__law_are_three_right [.d (.str "ring"), .d (.int 3), .d (.int 0), .d (.int 3)] S = .ok (.d (.bool true)) S := by kernel_rfl
theorem th_ring_310 (S : Sto) : f__law_are_three_right [.d (.str "ring"), .d (.int 3), .d (.int 1), .d (.int 0)] S = .ok (.d (.bool true)) S := by kernel_rfl
theorem th_ring_311 (S : Sto) : f__law_are_three_right [.d (.str "ring"), .d (.int 3), .d (.int 1), .d (.int 1)] S = .ok (.d (.bool true)) S := by kernel_rfl
theorem th_ring_312 (S : Sto) : f__law_are_three_right [.d (.str "ring"), .d (.int 3), .d (.int 1), .d (.int 2)] S = .ok (.d (.bool true)) S := by kernel_rfl
theorem th_ring_313 (S : Sto) : f__law_are_three_right [.d (.str "ring"), .d (.int 3), .d (.int 1), .d (.int 3)] S = .ok (.d (.bool true)) S := by kernel_rfl
theorem th_ring_320 (S : Sto) : f__law_are_three_right [.d (.str "ring"), .d (.int 3), .d (.int 2), .d (.int 0)] S = .ok (.d (.bool true)) S := by kernel_rfl
theorem th_ring_321 (S : Sto) : f__law_are_three_right [.d (.str "ring"), .d (.int 3), .d (.int 2), .d (.int 1)] S = .ok (.d (.bool true)) S := by kernel_rfl
theorem th_ring_322 (S : Sto) : f__law_are_three_right [.d (.str "ring"), .d (.int 3), .d (.int 2), .d (.int 2)] S = .ok (.d (.bool true)) S := by kernel_rfl
theorem th_ring_323 (S : Sto) : f__law_are_three_right [.d (.str "ring"), .d (.int 3), .d (.int 2), .d (.int 3)] S = .ok (.d (.bool true)) S := by kernel_rfl
theorem th_ring_330 (S : Sto) : f__law_are_three_right [.d (.str "ring"), .d (.int 3), .d (.int 3), .d (.int 0)] S = .ok (.d (.bool true)) S := by kernel_rfl
theorem th_ring_331 (S : Sto) : f__law_are_three_right [.d (.str "ring"), .d (.int 3), .d (.int 3), .d (.int 1)] S = .ok (.d (.bool true)) S := by kernel_rfl
theorem th_ring_332 (S : Sto) : f__law_are_three_right [.d (.str "ring"), .d (.int 3), .d (.int 3), .d (.int 2)] S = .ok (.d (.bool true)) S := by kernel_rfl
theorem th_ring_333 (S : Sto) : f__law_are_three_right [.d (.str "ring"), .d (.int 3), .d (.int 3), .d (.int 3)] S = .ok (.d (.bool true)) S := by kernel_rfl
end K08

end
section
set_option maxRecDepth 100000
set_option maxHeartbeats 0
namespace K08
open PySem PySem.Spec L2 Mr
open PyProof.Rows hiding St
def KQ (k : Str) (q : Int) : Prop := (k = "two" ∧ q = 2) ∨ (k = "three" ∧ q = 3) ∨ (k = "four" ∧ q = 4) ∨ (k = "ring" ∧ q = 4)
theorem in2 {a : Int} (h : 0 ≤ a ∧ a < 2) : a = 0 ∨ a = 1 := by omega
theorem in3 {a : Int} (h : 0 ≤ a ∧ a < 3) : a = 0 ∨ a = 1 ∨ a = 2 := by omega
theorem in4 {a : Int} (h : 0 ≤ a ∧ a < 4) : a = 0 ∨ a = 1 ∨ a = 2 ∨ a = 3 := by omega
theorem thr_two {a b c : Int} (ha : 0 ≤ a ∧ a < 2) (hb : 0 ≤ b ∧ b < 2) (hc : 0 ≤ c ∧ c < 2) (S : Sto) : f__law_are_three_right [.d (.str "two"), .d (.int a), .d (.int b), .d (.int c)] S = .ok (.d (.bool true)) S := by
  rcases in2 ha with rfl | rfl
  · rcases in2 hb with rfl | rfl
    · rcases in2 hc with rfl | rfl
      · exact th_two_000 S
      · exact th_two_001 S
    · rcases in2 hc with rfl | rfl
      · exact th_two_010 S
      · exact th_two_011 S
  · rcases in2 hb with rfl | rfl
    · rcases in2 hc with rfl | rfl
      · exact th_two_100 S
      · exact th_two_101 S
    · rcases in2 hc with rfl | rfl
      · exact th_two_110 S
      · exact th_two_111 S
theorem thr_three {a b c : Int} (ha : 0 ≤ a ∧ a < 3) (hb : 0 ≤ b ∧ b < 3) (hc : 0 ≤ c ∧ c < 3) (S : Sto) : f__law_are_three_right [.d (.str "three"), .d (.int a), .d (.int b), .d (.int c)] S = .ok (.d (.bool true)) S := by
  rcases in3 ha with rfl | rfl | rfl
  · rcases in3 hb with rfl | rfl | rfl
    · rcases in3 hc with rfl | rfl | rfl
      · exact th_three_000 S
      · exact th_three_001 S
      · exact th_three_002 S
    · rcases in3 hc with rfl | rfl | rfl
      · exact th_three_010 S
      · exact th_three_011 S
      · exact th_three_012 S
    · rcases in3 hc with rfl | rfl | rfl
      · exact th_three_020 S
      · exact th_three_021 S
      · exact th_three_022 S
  · rcases in3 hb with rfl | rfl | rfl
    · rcases in3 hc with rfl | rfl | rfl
      · exact th_three_100 S
      · exact th_three_101 S
      · exact th_three_102 S
    · rcases in3 hc with rfl | rfl | rfl
      · exact th_three_110 S
      · exact th_three_111 S
      · exact th_three_112 S
    · rcases in3 hc with rfl | rfl | rfl
      · exact th_three_120 S
      · exact th_three_121 S
      · exact th_three_122 S
  · rcases in3 hb with rfl | rfl | rfl
    · rcases in3 hc with rfl | rfl | rfl
      · exact th_three_200 S
      · exact th_three_201 S
      · exact th_three_202 S
    · rcases in3 hc with rfl | rfl | rfl
      · exact th_three_210 S
      · exact th_three_211 S
      · exact th_three_212 S
    · rcases in3 hc with rfl | rfl | rfl
      · exact th_three_220 S
      · exact th_three_221 S
      · exact th_three_222 S
theorem thr_four {a b c : Int} (ha : 0 ≤ a ∧ a < 4) (hb : 0 ≤ b ∧ b < 4) (hc : 0 ≤ c ∧ c < 4) (S : Sto) : f__law_are_three_right [.d (.str "four"), .d (.int a), .d (.int b), .d (.int c)] S = .ok (.d (.bool true)) S := by
  rcases in4 ha with rfl | rfl | rfl | rfl
  · rcases in4 hb with rfl | rfl | rfl | rfl
    · rcases in4 hc with rfl | rfl | rfl | rfl
      · exact th_four_000 S
      · exact th_four_001 S
      · exact th_four_002 S
      · exact th_four_003 S
    · rcases in4 hc with rfl | rfl | rfl | rfl
      · exact th_four_010 S
      · exact th_four_011 S
      · exact th_four_012 S
      · exact th_four_013 S
    · rcases in4 hc with rfl | rfl | rfl | rfl
      · exact th_four_020 S
      · exact th_four_021 S
      · exact th_four_022 S
      · exact th_four_023 S
    · rcases in4 hc with rfl | rfl | rfl | rfl
      · exact th_four_030 S
      · exact th_four_031 S
      · exact th_four_032 S
      · exact th_four_033 S
  · rcases in4 hb with rfl | rfl | rfl | rfl
    · rcases in4 hc with rfl | rfl | rfl | rfl
      · exact th_four_100 S
      · exact th_four_101 S
      · exact th_four_102 S
      · exact th_four_103 S
    · rcases in4 hc with rfl | rfl | rfl | rfl
      · exact th_four_110 S
      · exact th_four_111 S
      · exact th_four_112 S
      · exact th_four_113 S
    · rcases in4 hc with rfl | rfl | rfl | rfl
      · exact th_four_120 S
      · exact th_four_121 S
      · exact th_four_122 S
      · exact th_four_123 S
    · rcases in4 hc with rfl | rfl | rfl | rfl
      · exact th_four_130 S
      · exact th_four_131 S
      · exact th_four_132 S
      · exact th_four_133 S
  · rcases in4 hb with rfl | rfl | rfl | rfl
    · rcases in4 hc with rfl | rfl | rfl | rfl
      · exact th_four_200 S
      · exact th_four_201 S
      · exact th_four_202 S
      · exact th_four_203 S
    · rcases in4 hc with rfl | rfl | rfl | rfl
      · exact th_four_210 S
      · exact th_four_211 S
      · exact th_four_212 S
      · exact th_four_213 S
    · rcases in4 hc with rfl | rfl | rfl | rfl
      · exact th_four_220 S
      · exact th_four_221 S
      · exact th_four_222 S
      · exact th_four_223 S
    · rcases in4 hc with rfl | rfl | rfl | rfl
      · exact th_four_230 S
      · exact th_four_231 S
      · exact th_four_232 S
      · exact th_four_233 S
  · rcases in4 hb with rfl | rfl | rfl | rfl
    · rcases in4 hc with rfl | rfl | rfl | rfl
      · exact th_four_300 S
      · exact th_four_301 S
      · exact th_four_302 S
      · exact th_four_303 S
    · rcases in4 hc with rfl | rfl | rfl | rfl
      · exact th_four_310 S
      · exact th_four_311 S
      · exact th_four_312 S
      · exact th_four_313 S
    · rcases in4 hc with rfl | rfl | rfl | rfl
      · exact th_four_320 S
      · exact th_four_321 S
      · exact th_four_322 S
      · exact th_four_323 S
    · rcases in4 hc with rfl | rfl | rfl | rfl
      · exact th_four_330 S
      · exact th_four_331 S
      · exact th_four_332 S
      · exact th_four_333 S
theorem thr_ring {a b c : Int} (ha : 0 ≤ a ∧ a < 4) (hb : 0 ≤ b ∧ b < 4) (hc : 0 ≤ c ∧ c < 4) (S : Sto) : f__law_are_three_right [.d (.str "ring"), .d (.int a), .d (.int b), .d (.int c)] S = .ok (.d (.bool true)) S := by
  rcases in4 ha with rfl | rfl | rfl | rfl
  · rcases in4 hb with rfl | rfl | rfl | rfl
    · rcases in4 hc with rfl | rfl | rfl | rfl
      · exact th_ring_000 S
      · exact th_ring_001 S
      · exact th_ring_002 S
      · exact th_ring_003 S
    · rcases in4 hc with rfl | rfl | rfl | rfl
      · exact th_ring_010 S
      · exact th_ring_011 S
      · exact th_ring_012 S
      · exact th_ring_013 S
    · rcases in4 hc with rfl | rfl | rfl | rfl
      · exact th_ring_020 S
      · exact th_ring_021 S
      · exact th_ring_022 S
      · exact th_ring_023 S
    · rcases in4 hc with rfl | rfl | rfl | rfl
      · exact th_ring_030 S
      · exact th_ring_031 S
      · exact th_ring_032 S
      · exact th_ring_033 S
  · rcases in4 hb with rfl | rfl | rfl | rfl
    · rcases in4 hc with rfl | rfl | rfl | rfl
      · exact th_ring_100 S
      · exact th_ring_101 S
      · exact th_ring_102 S
      · exact th_ring_103 S
    · rcases in4 hc with rfl | rfl | rfl | rfl
      · exact th_ring_110 S
      · exact th_ring_111 S
      · exact th_ring_112 S
      · exact th_ring_113 S
    · rcases in4 hc with rfl | rfl | rfl | rfl
      · exact th_ring_120 S
      · exact th_ring_121 S
      · exact th_ring_122 S
      · exact th_ring_123 S
    · rcases in4 hc with rfl | rfl | rfl | rfl
      · exact th_ring_130 S
      · exact th_ring_131 S
      · exact th_ring_132 S
      · exact th_ring_133 S
  · rcases in4 hb with rfl | rfl | rfl | rfl
    · rcases in4 hc with rfl | rfl | rfl | rfl
      · exact th_ring_200 S
      · exact th_ring_201 S
      · exact th_ring_202 S
      · exact th_ring_203 S
    · rcases in4 hc with rfl | rfl | rfl | rfl
      · exact th_ring_210 S
      · exact th_ring_211 S
      · exact th_ring_212 S
      · exact th_ring_213 S
    · rcases in4 hc with rfl | rfl | rfl | rfl
      · exact th_ring_220 S
      · exact th_ring_221 S
      · exact th_ring_222 S
      · exact th_ring_223 S
    · rcases in4 hc with rfl | rfl | rfl | rfl
      · exact th_ring_230 S
      · exact th_ring_231 S
      · exact th_ring_232 S
      · exact th_ring_233 S
  · rcases in4 hb with rfl | rfl | rfl | rfl
    · rcases in4 hc with rfl | rfl | rfl | rfl
      · exact th_ring_300 S
      · exact th_ring_301 S
      · exact th_ring_302 S
      · exact th_ring_303 S
    · rcases in4 hc with rfl | rfl | rfl | rfl
      · exact th_ring_310 S
      · exact th_ring_311 S
      · exact th_ring_312 S
      · exact th_ring_313 S
    · rcases in4 hc with rfl | rfl | rfl | rfl
      · exact th_ring_320 S
      · exact th_ring_321 S
      · exact th_ring_322 S
      · exact th_ring_323 S
    · rcases in4 hc with rfl | rfl | rfl | rfl
      · exact th_ring_330 S
      · exact th_ring_331 S
      · exact th_ring_332 S
      · exact th_ring_333 S
theorem three_ok {k : Str} {q a b c : Int} (h : KQ k q) (ha : 0 ≤ a ∧ a < q) (hb : 0 ≤ b ∧ b < q) (hc : 0 ≤ c ∧ c < q) (S : Sto) : f__law_are_three_right [.d (.str k), .d (.int a), .d (.int b), .d (.int c)] S = .ok (.d (.bool true)) S := by
  rcases h with ⟨rfl, rfl⟩ | ⟨rfl, rfl⟩ | ⟨rfl, rfl⟩ | ⟨rfl, rfl⟩
  · exact thr_two ha hb hc S
  · exact thr_three ha hb hc S
  · exact thr_four ha hb hc S
  · exact thr_ring ha hb hc S
theorem size_ok {k : Str} {q : Int} (h : KQ k q) (S : Sto) : f__law_size [.d (.str k)] S = .ok (.d (.int q)) S := by
  rcases h with ⟨rfl, rfl⟩ | ⟨rfl, rfl⟩ | ⟨rfl, rfl⟩ | ⟨rfl, rfl⟩
  · exact sz_two S
  · exact sz_three S
  · exact sz_four S
  · exact sz_ring S
theorem KQ.q {k : Str} {q : Int} (h : KQ k q) : q = 2 ∨ q = 3 ∨ q = 4 := by
  rcases h with ⟨_, h⟩ | ⟨_, h⟩ | ⟨_, h⟩ | ⟨_, h⟩ <;> omega
def oddL (q : Int) : List PyData := [.int q, .int (-1), .bool true, .bool false, .none, .str "1", .tuple [.int 1], .list [.int 0], .dict [], .int (10 ^ 40), .str "", .int (-q), .int (q + 1)]
theorem gOdd {q : Int} (h : q = 2 ∨ q = 3 ∨ q = 4) : ∀ x ∈ oddL q, Good 4 60 x := by
  rcases h with rfl | rfl | rfl
  · exact goodAll_b (by decide +kernel)
  · exact goodAll_b (by decide +kernel)
  · exact goodAll_b (by decide +kernel)
theorem gInt {r : Int} (h : 0 ≤ r ∧ r < 4) : Good 4 60 (.int r) := by
  rcases in4 h with rfl | rfl | rfl | rfl <;> exact good_b (by decide +kernel)
abbrev GD (x : PyData) : Prop := Good 8 800 x
theorem odd_ok {k : Str} {q : Int} (h : KQ k q) (cs : List Int) (mx dr : Int) (hl : cs.length ≤ 63) : ∃ (x : PyData) (cs2 : List Int) (dr2 : Int), f__law_odd [.loc 1, .d (.int q)] (deckS cs mx dr) = .ok (.d x) (deckS cs2 mx dr2) ∧ GD x ∧ cs2.length ≤ 63 := by
  have hq := h.q
  show ∃ (x : PyData) (cs2 : List Int) (dr2 : Int), ansOf (m__law_odd [some (.loc 1), some (.d (.int q)), none] (deckS cs mx dr)) = _ ∧ _
  unfold m__law_odd
  obtain ⟨r, cs1, dr1, q1, r0, r4, l1⟩ := draw_call (e := [some (.loc 1), some (.d (.int q)), none]) (f := eC (.d (.int 4))) (dr := dr) (mx := mx) rfl c_v hl (by decide) (by decide)
  rw [seq_nx (set_v q1)]
  show ∃ (x : PyData) (cs2 : List Int) (dr2 : Int), ansOf (sSeq _ _ [some (.loc 1), some (.d (.int q)), some (.d (.int r))] (deckS cs1 mx dr1)) = _ ∧ _
  by_cases h2 : r < 2
  · obtain ⟨r2, cs2, dr2, q2, a, b, l2⟩ := draw_call (e := [some (.loc 1), some (.d (.int q)), some (.d (.int r))]) (f := eV 1) (dr := dr1) (mx := mx) rfl (v_at rfl) l1 (by omega) (by omega : q < 1000)
    rw [seq_rt ((if_t (t_op (v_at rfl) c_v (by rw [ltI, decide_eq_true h2]))).trans (ret_v q2))]
    exact ⟨_, cs2, dr2, rfl, (gInt ⟨a, by omega⟩).mono (by decide) (by decide), l2⟩
  rw [seq_nx (if_fn (t_op (v_at rfl) c_v (by rw [ltI, decide_eq_false h2])))]
  by_cases h3 : r = 2
  · obtain ⟨x, cs2, dr2, q2, p, l2⟩ := pick_l (P := Good 4 60) cs1 mx dr1 l1 (oddL q) (show 1 ≤ 13 by decide) (show 13 < 1000 by decide) (gOdd hq)
    refine ⟨x, cs2, dr2, ?_, p.mono (by decide) (by decide), l2⟩
    refine (congrArg ansOf (ret_v (m := .d x) (S2 := deckS cs2 mx dr2) ((eif_t (t_op (v_at rfl) c_v (by rw [eqI, decide_eq_true h3]))).trans ?_)))
    refine (c_call (a_cons (v_at rfl) (a_cons (m := .d (.list (oddL q))) ?_ a_nil))).trans q2
    rfl
  · obtain ⟨x, cs2, dr2, q2, p, l2⟩ := any_ok mx 4 2 cs1 dr1 (by decide) l1
    refine ⟨x, cs2, dr2, ?_, p.mono (by decide) (by decide), l2⟩
    refine (congrArg ansOf (ret_v (m := .d x) (S2 := deckS cs2 mx dr2) ((eif_f (t_op (v_at rfl) c_v (by rw [eqI, decide_eq_false h3]))).trans ?_)))
    exact (c_call (a_cons (v_at rfl) (a_cons c_v a_nil))).trans q2
end K08

end
section
set_option maxRecDepth 100000
set_option maxHeartbeats 0
namespace K08
open PySem PySem.Spec L2 Mr
open PyProof.Rows hiding St
theorem good_bad {x : PyData} (t : Str) (ht : Good 8 800 (.str t)) (g : GD x) : Good 9 3204 (.tuple [.str t, x, .bool true, .bool false]) := by
  have h : ∀ y ∈ [PyData.str t, x, .bool true, .bool false], Good 8 800 y := by
    intro y hy
    simp only [List.mem_cons, List.not_mem_nil, or_false] at hy
    rcases hy with rfl | rfl | rfl | rfl
    · exact ht
    · exact g
    · exact good_b (by decide)
    · exact good_b (by decide)
  exact good_tuple h (m := 4) (by simp)
theorem bmG {x : PyData} (g : GD x) : Good 9 3204 (.tuple [.str "BadMark", x, .bool true, .bool false]) := good_bad _ (good_b (by decide)) g
theorem bkG {x : PyData} (g : GD x) : Good 9 3204 (.tuple [.str "BadKind", x, .bool true, .bool false]) := good_bad _ (good_b (by decide)) g
def CD (w : Int) (look : Bool) (k a b : PyData) (S : Sto) : Prop := ∃ y, f__law_called [.d (.int w), .d (.bool look), .d k, .d a, .d b] S = .ok (.d y) S ∧ f__law_due [.d (.int w), .d k, .d a, .d b] S = .ok (.d y) S ∧ Good 9 3204 y
end K08

end
section
set_option maxRecDepth 100000
set_option maxHeartbeats 0
namespace K08
open PySem PySem.Spec L2 Mr
open PyProof.Rows hiding St
theorem cd_two_0 (S : Sto) (look : Bool) : ∀ a b : PyData, GD a → GD b → CD 0 look (.str "two") a b S
  | .none, b, ga, gb => ⟨.tuple [.str "BadMark", .none, .bool true, .bool false], by cases look <;> kernel_rfl, by kernel_rfl, bmG ga⟩
  | .bool x, b, ga, gb => ⟨.tuple [.str "BadMark", .bool x, .bool true, .bool false], by cases look <;> kernel_rfl, by kernel_rfl, bmG ga⟩
  | .str x, b, ga, gb => ⟨.tuple [.str "BadMark", .str x, .bool true, .bool false], by cases look <;> kernel_rfl, by kernel_rfl, bmG ga⟩
  | .list x, b, ga, gb => ⟨.tuple [.str "BadMark", .list x, .bool true, .bool false], by cases look <;> kernel_rfl, by kernel_rfl, bmG ga⟩
  | .tuple x, b, ga, gb => ⟨.tuple [.str "BadMark", .tuple x, .bool true, .bool false], by cases look <;> kernel_rfl, by kernel_rfl, bmG ga⟩
  | .dict x, b, ga, gb => ⟨.tuple [.str "BadMark", .dict x, .bool true, .bool false], by cases look <;> kernel_rfl, by kernel_rfl, bmG ga⟩
  | .int (.negSucc x), b, ga, gb => ⟨.tuple [.str "BadMark", .int (.negSucc x), .bool true, .bool false], by cases look <;> kernel_rfl, by kernel_rfl, bmG ga⟩
  | .int (.ofNat (x + 2)), b, ga, gb => ⟨.tuple [.str "BadMark", .int (.ofNat (x + 2)), .bool true, .bool false], by cases look <;> kernel_rfl, by kernel_rfl, bmG ga⟩
  | .int (.ofNat 0), .none, ga, gb => ⟨.tuple [.str "BadMark", .none, .bool true, .bool false], by cases look <;> kernel_rfl, by kernel_rfl, bmG gb⟩
  | .int (.ofNat 0), .bool x, ga, gb => ⟨.tuple [.str "BadMark", .bool x, .bool true, .bool false], by cases look <;> kernel_rfl, by kernel_rfl, bmG gb⟩
  | .int (.ofNat 0), .str x, ga, gb => ⟨.tuple [.str "BadMark", .str x, .bool true, .bool false], by cases look <;> kernel_rfl, by kernel_rfl, bmG gb⟩
  | .int (.ofNat 0), .list x, ga, gb => ⟨.tuple [.str "BadMark", .list x, .bool true, .bool false], by cases look <;> kernel_rfl, by kernel_rfl, bmG gb⟩
  | .int (.ofNat 0), .tuple x, ga, gb => ⟨.tuple [.str "BadMark", .tuple x, .bool true, .bool false], by cases look <;> kernel_rfl, by kernel_rfl, bmG gb⟩
  | .int (.ofNat 0), .dict x, ga, gb => ⟨.tuple [.str "BadMark", .dict x, .bool true, .bool false], by cases look <;> kernel_rfl, by kernel_rfl, bmG gb⟩
  | .int (.ofNat 0), .int (.negSucc x), ga, gb => ⟨.tuple [.str "BadMark", .int (.negSucc x), .bool true, .bool false], by cases look <;> kernel_rfl, by kernel_rfl, bmG gb⟩
  | .int (.ofNat 0), .int (.ofNat (x + 2)), ga, gb => ⟨.tuple [.str "BadMark", .int (.ofNat (x + 2)), .bool true, .bool false], by cases look <;> kernel_rfl, by kernel_rfl, bmG gb⟩
  | .int (.ofNat 0), .int (.ofNat 0), ga, gb => ⟨.tuple [.str "returned", .int 0], by cases look <;> kernel_rfl, by kernel_rfl, good_b (by decide +kernel)⟩
  | .int (.ofNat 0), .int (.ofNat 1), ga, gb => ⟨.tuple [.str "returned", .int 1], by cases look <;> kernel_rfl, by kernel_rfl, good_b (by decide +kernel)⟩
  | .int (.ofNat 1), .none, ga, gb => ⟨.tuple [.str "BadMark", .none, .bool true, .bool false], by cases look <;> kernel_rfl, by kernel_rfl, bmG gb⟩
  | .int (.ofNat 1), .bool x, ga, gb => ⟨.tuple [.str "BadMark", .bool x, .bool true, .bool false], by cases look <;> kernel_rfl, by kernel_rfl, bmG gb⟩
  | .int (.ofNat 1), .str x, ga, gb => ⟨.tuple [.str "BadMark", .str x, .bool true, .bool false], by cases look <;> kernel_rfl, by kernel_rfl, bmG gb⟩
  | .int (.ofNat 1), .list x, ga, gb => ⟨.tuple [.str "BadMark", .list x, .bool true, .bool false], by cases look <;> kernel_rfl, by kernel_rfl, bmG gb⟩
  | .int (.ofNat 1), .tuple x, ga, gb => ⟨.tuple [.str "BadMark", .tuple x, .bool true, .bool false], by cases look <;> kernel_rfl, by kernel_rfl, bmG gb⟩
  | .int (.ofNat 1), .dict x, ga, gb => ⟨.tuple [.str "BadMark", .dict x, .bool true, .bool false], by cases look <;> kernel_rfl, by kernel_rfl, bmG gb⟩
  | .int (.ofNat 1), .int (.negSucc x), ga, gb => ⟨.tuple [.str "BadMark", .int (.negSucc x), .bool true, .bool false], by cases look <;> kernel_rfl, by kernel_rfl, bmG gb⟩
  | .int (.ofNat 1), .int (.ofNat (x + 2)), ga, gb => ⟨.tuple [.str "BadMark", .int (.ofNat (x + 2)), .bool true, .bool false], by cases look <;> kernel_rfl, by kernel_rfl, bmG gb⟩
  | .int (.ofNat 1), .int (.ofNat 0), ga, gb => ⟨.tuple [.str "returned", .int 1], by cases look <;> kernel_rfl, by kernel_rfl, good_b (by decide +kernel)⟩
  | .int (.ofNat 1), .int (.ofNat 1), ga, gb => ⟨.tuple [.str "returned", .int 0], by cases look <;> kernel_rfl, by kernel_rfl, good_b (by decide +kernel)⟩
theorem cd_two_1 (S : Sto) (look : Bool) : ∀ a b : PyData, GD a → GD b → CD 1 look (.str "two") a b S
  | .none, b, ga, gb => ⟨.tuple [.str "BadMark", .none, .bool true, .bool false], by cases look <;> kernel_rfl, by kernel_rfl, bmG ga⟩
  | .bool x, b, ga, gb => ⟨.tuple [.str "BadMark", .bool x, .bool true, .bool false], by cases look <;> kernel_rfl, by kernel_rfl, bmG ga⟩
  | .str x, b, ga, gb => ⟨.tuple [.str "BadMark", .str x, .bool true, .bool false], by cases look <;> kernel_rfl, by kernel_rfl, bmG ga⟩
  | .list x, b, ga, gb => ⟨.tuple [.str "BadMark", .list x, .bool true, .bool false], by cases look <;> kernel_rfl, by kernel_rfl, bmG ga⟩
  | .tuple x, b, ga, gb => ⟨.tuple [.str "BadMark", .tuple x, .bool true, .bool false], by cases look <;> kernel_rfl, by kernel_rfl, bmG ga⟩
  | .dict x, b, ga, gb => ⟨.tuple [.str "BadMark", .dict x, .bool true, .bool false], by cases look <;> kernel_rfl, by kernel_rfl, bmG ga⟩
  | .int (.negSucc x), b, ga, gb => ⟨.tuple [.str "BadMark", .int (.negSucc x), .bool true, .bool false], by cases look <;> kernel_rfl, by kernel_rfl, bmG ga⟩
  | .int (.ofNat (x + 2)), b, ga, gb => ⟨.tuple [.str "BadMark", .int (.ofNat (x + 2)), .bool true, .bool false], by cases look <;> kernel_rfl, by kernel_rfl, bmG ga⟩
  | .int (.ofNat 0), .none, ga, gb => ⟨.tuple [.str "BadMark", .none, .bool true, .bool false], by cases look <;> kernel_rfl, by kernel_rfl, bmG gb⟩
  | .int (.ofNat 0), .bool x, ga, gb => ⟨.tuple [.str "BadMark", .bool x, .bool true, .bool false], by cases look <;> kernel_rfl, by kernel_rfl, bmG gb⟩
  | .int (.ofNat 0), .str x, ga, gb => ⟨.tuple [.str "BadMark", .str x, .bool true, .bool false], by cases look <;> kernel_rfl, by kernel_rfl, bmG gb⟩
  | .int (.ofNat 0), .list x, ga, gb => ⟨.tuple [.str "BadMark", .list x, .bool true, .bool false], by cases look <;> kernel_rfl, by kernel_rfl, bmG gb⟩
  | .int (.ofNat 0), .tuple x, ga, gb => ⟨.tuple [.str "BadMark", .tuple x, .bool true, .bool false], by cases look <;> kernel_rfl, by kernel_rfl, bmG gb⟩
  | .int (.ofNat 0), .dict x, ga, gb => ⟨.tuple [.str "BadMark", .dict x, .bool true, .bool false], by cases look <;> kernel_rfl, by kernel_rfl, bmG gb⟩
  | .int (.ofNat 0), .int (.negSucc x), ga, gb => ⟨.tuple [.str "BadMark", .int (.negSucc x), .bool true, .bool false], by cases look <;> kernel_rfl, by kernel_rfl, bmG gb⟩
  | .int (.ofNat 0), .int (.ofNat (x + 2)), ga, gb => ⟨.tuple [.str "BadMark", .int (.ofNat (x + 2)), .bool true, .bool false], by cases look <;> kernel_rfl, by kernel_rfl, bmG gb⟩
  | .int (.ofNat 0), .int (.ofNat 0), ga, gb => ⟨.tuple [.str "returned", .int 0], by cases look <;> kernel_rfl, by kernel_rfl, good_b (by decide +kernel)⟩
  | .int (.ofNat 0), .int (.ofNat 1), ga, gb => ⟨.tuple [.str "returned", .int 0], by cases look <;> kernel_rfl, by kernel_rfl, good_b (by decide +kernel)⟩
  | .int (.ofNat 1), .none, ga, gb => ⟨.tuple [.str "BadMark", .none, .bool true, .bool false], by cases look <;> kernel_rfl, by kernel_rfl, bmG gb⟩
  | .int (.ofNat 1), .bool x, ga, gb => ⟨.tuple [.str "BadMark", .bool x, .bool true, .bool false], by cases look <;> kernel_rfl, by kernel_rfl, bmG gb⟩
  | .int (.ofNat 1), .str x, ga, gb => ⟨.tuple [.str "BadMark", .str x, .bool true, .bool false], by cases look <;> kernel_rfl, by kernel_rfl, bmG gb⟩
  | .int (.ofNat 1), .list x, ga, gb => ⟨.tuple [.str "BadMark", .list x, .bool true, .bool false], by cases look <;> kernel_rfl, by kernel_rfl, bmG gb⟩
  | .int (.ofNat 1), .tuple x, ga, gb => ⟨.tuple [.str "BadMark", .tuple x, .bool true, .bool false], by cases look <;> kernel_rfl, by kernel_rfl, bmG gb⟩
  | .int (.ofNat 1), .dict x, ga, gb => ⟨.tuple [.str "BadMark", .dict x, .bool true, .bool false], by cases look <;> kernel_rfl, by kernel_rfl, bmG gb⟩
  | .int (.ofNat 1), .int (.negSucc x), ga, gb => ⟨.tuple [.str "BadMark", .int (.negSucc x), .bool true, .bool false], by cases look <;> kernel_rfl, by kernel_rfl, bmG gb⟩
  | .int (.ofNat 1), .int (.ofNat (x + 2)), ga, gb => ⟨.tuple [.str "BadMark", .int (.ofNat (x + 2)), .bool true, .bool false], by cases look <;> kernel_rfl, by kernel_rfl, bmG gb⟩
  | .int (.ofNat 1), .int (.ofNat 0), ga, gb => ⟨.tuple [.str "returned", .int 0], by cases look <;> kernel_rfl, by kernel_rfl, good_b (by decide +kernel)⟩
  | .int (.ofNat 1), .int (.ofNat 1), ga, gb => ⟨.tuple [.str "returned", .int 1], by cases look <;> kernel_rfl, by kernel_rfl, good_b (by decide +kernel)⟩
theorem cd_two_2 (S : Sto) (look : Bool) : ∀ a b : PyData, GD a → GD b → CD 2 look (.str "two") a b S
  | .none, b, ga, gb => ⟨.tuple [.str "BadMark", .none, .bool true, .bool false], by cases look <;> kernel_rfl, by kernel_rfl, bmG ga⟩
  | .bool x, b, ga, gb => ⟨.tuple [.str "BadMark", .bool x, .bool true, .bool false], by cases look <;> kernel_rfl, by kernel_rfl, bmG ga⟩
  | .str x, b, ga, gb => ⟨.tuple [.str "BadMark", .str x, .bool true, .bool false], by cases look <;> kernel_rfl, by kernel_rfl, bmG ga⟩
  | .list x, b, ga, gb => ⟨.tuple [.str "BadMark", .list x, .bool true, .bool false], by cases look <;> kernel_rfl, by kernel_rfl, bmG ga⟩
  | .tuple x, b, ga, gb => ⟨.tuple [.str "BadMark", .tuple x, .bool true, .bool false], by cases look <;> kernel_rfl, by kernel_rfl, bmG ga⟩
  | .dict x, b, ga, gb => ⟨.tuple [.str "BadMark", .dict x, .bool true, .bool false], by cases look <;> kernel_rfl, by kernel_rfl, bmG ga⟩
  | .int (.negSucc x), b, ga, gb => ⟨.tuple [.str "BadMark", .int (.negSucc x), .bool true, .bool false], by cases look <;> kernel_rfl, by kernel_rfl, bmG ga⟩
  | .int (.ofNat (x + 2)), b, ga, gb => ⟨.tuple [.str "BadMark", .int (.ofNat (x + 2)), .bool true, .bool false], by cases look <;> kernel_rfl, by kernel_rfl, bmG ga⟩
  | .int (.ofNat 0), b, ga, gb => ⟨.tuple [.str "returned", .int 0], by cases look <;> kernel_rfl, by kernel_rfl, good_b (by decide +kernel)⟩
  | .int (.ofNat 1), b, ga, gb => ⟨.tuple [.str "returned", .int 1], by cases look <;> kernel_rfl, by kernel_rfl, good_b (by decide +kernel)⟩
theorem cd_two_3 (S : Sto) (look : Bool) : ∀ a b : PyData, GD a → GD b → CD 3 look (.str "two") a b S
  | .none, b, ga, gb => ⟨.tuple [.str "BadMark", .none, .bool true, .bool false], by cases look <;> kernel_rfl, by kernel_rfl, bmG ga⟩
  | .bool x, b, ga, gb => ⟨.tuple [.str "BadMark", .bool x, .bool true, .bool false], by cases look <;> kernel_rfl, by kernel_rfl, bmG ga⟩
  | .str x, b, ga, gb => ⟨.tuple [.str "BadMark", .str x, .bool true, .bool false], by cases look <;> kernel_rfl, by kernel_rfl, bmG ga⟩
  | .list x, b, ga, gb => ⟨.tuple [.str "BadMark", .list x, .bool true, .bool false], by cases look <;> kernel_rfl, by kernel_rfl, bmG ga⟩
  | .tuple x, b, ga, gb => ⟨.tuple [.str "BadMark", .tuple x, .bool true, .bool false], by cases look <;> kernel_rfl, by kernel_rfl, bmG ga⟩
  | .dict x, b, ga, gb => ⟨.tuple [.str "BadMark", .dict x, .bool true, .bool false], by cases look <;> kernel_rfl, by kernel_rfl, bmG ga⟩
  | .int (.negSucc x), b, ga, gb => ⟨.tuple [.str "BadMark", .int (.negSucc x), .bool true, .bool false], by cases look <;> kernel_rfl, by kernel_rfl, bmG ga⟩
  | .int (.ofNat (x + 2)), b, ga, gb => ⟨.tuple [.str "BadMark", .int (.ofNat (x + 2)), .bool true, .bool false], by cases look <;> kernel_rfl, by kernel_rfl, bmG ga⟩
  | .int (.ofNat 0), b, ga, gb => ⟨.tuple [.str "BadMark", .int (.ofNat 0), .bool true, .bool false], by cases look <;> kernel_rfl, by kernel_rfl, bmG ga⟩
  | .int (.ofNat 1), b, ga, gb => ⟨.tuple [.str "returned", .int 1], by cases look <;> kernel_rfl, by kernel_rfl, good_b (by decide +kernel)⟩
theorem cd_two_4 (S : Sto) (look : Bool) : ∀ a b : PyData, GD a → GD b → CD 4 look (.str "two") a b S
  | a, b, ga, gb => ⟨.tuple [.str "returned", .int 2], by cases look <;> kernel_rfl, by kernel_rfl, good_b (by decide +kernel)⟩
theorem cd_two_5 (S : Sto) (look : Bool) : ∀ a b : PyData, GD a → GD b → CD 5 look (.str "two") a b S
  | a, b, ga, gb => ⟨.tuple [.str "returned", .tuple [.int 1]], by cases look <;> kernel_rfl, by kernel_rfl, good_b (by decide +kernel)⟩
end K08

end
section
set_option maxRecDepth 100000
set_option maxHeartbeats 0
namespace K08
open PySem PySem.Spec L2 Mr
open PyProof.Rows hiding St
theorem cd_three_0 (S : Sto) (look : Bool) : ∀ a b : PyData, GD a → GD b → CD 0 look (.str "three") a b S
  | .none, b, ga, gb => ⟨.tuple [.str "BadMark", .none, .bool true, .bool false], by cases look <;> kernel_rfl, by kernel_rfl, bmG ga⟩
  | .bool x, b, ga, gb => ⟨.tuple [.str "BadMark", .bool x, .bool true, .bool false], by cases look <;> kernel_rfl, by kernel_rfl, bmG ga⟩
  | .str x, b, ga, gb => ⟨.tuple [.str "BadMark", .str x, .bool true, .bool false], by cases look <;> kernel_rfl, by kernel_rfl, bmG ga⟩
  | .list x, b, ga, gb => ⟨.tuple [.str "BadMark", .list x, .bool true, .bool false], by cases look <;> kernel_rfl, by kernel_rfl, bmG ga⟩
  | .tuple x, b, ga, gb => ⟨.tuple [.str "BadMark", .tuple x, .bool true, .bool false], by cases look <;> kernel_rfl, by kernel_rfl, bmG ga⟩
  | .dict x, b, ga, gb => ⟨.tuple [.str "BadMark", .dict x, .bool true, .bool false], by cases look <;> kernel_rfl, by kernel_rfl, bmG ga⟩
  | .int (.negSucc x), b, ga, gb => ⟨.tuple [.str "BadMark", .int (.negSucc x), .bool true, .bool false], by cases look <;> kernel_rfl, by kernel_rfl, bmG ga⟩
  | .int (.ofNat (x + 3)), b, ga, gb => ⟨.tuple [.str "BadMark", .int (.ofNat (x + 3)), .bool true, .bool false], by cases look <;> kernel_rfl, by kernel_rfl, bmG ga⟩
  | .int (.ofNat 0), .none, ga, gb => ⟨.tuple [.str "BadMark", .none, .bool true, .bool false], by cases look <;> kernel_rfl, by kernel_rfl, bmG gb⟩
  | .int (.ofNat 0), .bool x, ga, gb => ⟨.tuple [.str "BadMark", .bool x, .bool true, .bool false], by cases look <;> kernel_rfl, by kernel_rfl, bmG gb⟩
  | .int (.ofNat 0), .str x, ga, gb => ⟨.tuple [.str "BadMark", .str x, .bool true, .bool false], by cases look <;> kernel_rfl, by kernel_rfl, bmG gb⟩
  | .int (.ofNat 0), .list x, ga, gb => ⟨.tuple [.str "BadMark", .list x, .bool true, .bool false], by cases look <;> kernel_rfl, by kernel_rfl, bmG gb⟩
  | .int (.ofNat 0), .tuple x, ga, gb => ⟨.tuple [.str "BadMark", .tuple x, .bool true, .bool false], by cases look <;> kernel_rfl, by kernel_rfl, bmG gb⟩
  | .int (.ofNat 0), .dict x, ga, gb => ⟨.tuple [.str "BadMark", .dict x, .bool true, .bool false], by cases look <;> kernel_rfl, by kernel_rfl, bmG gb⟩
  | .int (.ofNat 0), .int (.negSucc x), ga, gb => ⟨.tuple [.str "BadMark", .int (.negSucc x), .bool true, .bool false], by cases look <;> kernel_rfl, by kernel_rfl, bmG gb⟩
  | .int (.ofNat 0), .int (.ofNat (x + 3)), ga, gb => ⟨.tuple [.str "BadMark", .int (.ofNat (x + 3)), .bool true, .bool false], by cases look <;> kernel_rfl, by kernel_rfl, bmG gb⟩
  | .int (.ofNat 0), .int (.ofNat 0), ga, gb => ⟨.tuple [.str "returned", .int 0], by cases look <;> kernel_rfl, by kernel_rfl, good_b (by decide +kernel)⟩
  | .int (.ofNat 0), .int (.ofNat 1), ga, gb => ⟨.tuple [.str "returned", .int 1], by cases look <;> kernel_rfl, by kernel_rfl, good_b (by decide +kernel)⟩
  | .int (.ofNat 0), .int (.ofNat 2), ga, gb => ⟨.tuple [.str "returned", .int 2], by cases look <;> kernel_rfl, by kernel_rfl, good_b (by decide +kernel)⟩
  | .int (.ofNat 1), .none, ga, gb => ⟨.tuple [.str "BadMark", .none, .bool true, .bool false], by cases look <;> kernel_rfl, by kernel_rfl, bmG gb⟩
  | .int (.ofNat 1), .bool x, ga, gb => ⟨.tuple [.str "BadMark", .bool x, .bool true, .bool false], by cases look <;> kernel_rfl, by kernel_rfl, bmG gb⟩
  | .int (.ofNat 1), .str x, ga, gb => ⟨.tuple [.str "BadMark", .str x, .bool true, .bool false], by cases look <;> kernel_rfl, by kernel_rfl, bmG gb⟩
  | .int (.ofNat 1), .list x, ga, gb => ⟨.tuple [.str "BadMark", .list x, .bool true, .bool false], by cases look <;> kernel_rfl, by kernel_rfl, bmG gb⟩
  | .int (.ofNat 1), .tuple x, ga, gb => ⟨.tuple [.str "BadMark", .tuple x, .bool true, .bool false], by cases look <;> kernel_rfl, by kernel_rfl, bmG gb⟩
  | .int (.ofNat 1), .dict x, ga, gb => ⟨.tuple [.str "BadMark", .dict x, .bool true, .bool false], by cases look <;> kernel_rfl, by kernel_rfl, bmG gb⟩
  | .int (.ofNat 1), .int (.negSucc x), ga, gb => ⟨.tuple [.str "BadMark", .int (.negSucc x), .bool true, .bool false], by cases look <;> kernel_rfl, by kernel_rfl, bmG gb⟩
  | .int (.ofNat 1), .int (.ofNat (x + 3)), ga, gb => ⟨.tuple [.str "BadMark", .int (.ofNat (x + 3)), .bool true, .bool false], by cases look <;> kernel_rfl, by kernel_rfl, bmG gb⟩
  | .int (.ofNat 1), .int (.ofNat 0), ga, gb => ⟨.tuple [.str "returned", .int 1], by cases look <;> kernel_rfl, by kernel_rfl, good_b (by decide +kernel)⟩
  | .int (.ofNat 1), .int (.ofNat 1), ga, gb => ⟨.tuple [.str "returned", .int 2], by cases look <;> kernel_rfl, by kernel_rfl, good_b (by decide +kernel)⟩
  | .int (.ofNat 1), .int (.ofNat 2), ga, gb => ⟨.tuple [.str "returned", .int 0], by cases look <;> kernel_rfl, by kernel_rfl, good_b (by decide +kernel)⟩
  | .int (.ofNat 2), .none, ga, gb => ⟨.tuple [.str "BadMark", .none, .bool true, .bool false], by cases look <;> kernel_rfl, by kernel_rfl, bmG gb⟩
  | .int (.ofNat 2), .bool x, ga, gb => ⟨.tuple [.str "BadMark", .bool x, .bool true, .bool false], by cases look <;> kernel_rfl, by kernel_rfl, bmG gb⟩
  | .int (.ofNat 2), .str x, ga, gb => ⟨.tuple [.str "BadMark", .str x, .bool true, .bool false], by cases look <;> kernel_rfl, by kernel_rfl, bmG gb⟩
  | .int (.ofNat 2), .list x, ga, gb => ⟨.tuple [.str "BadMark", .list x, .bool true, .bool false], by cases look <;> kernel_rfl, by kernel_rfl, bmG gb⟩
  | .int (.ofNat 2), .tuple x, ga, gb => ⟨.tuple [.str "BadMark", .tuple x, .bool true, .bool false], by cases look <;> kernel_rfl, by kernel_rfl, bmG gb⟩
  | .int (.ofNat 2), .dict x, ga, gb => ⟨.tuple [.str "BadMark", .dict x, .bool true, .bool false], by cases look <;> kernel_rfl, by kernel_rfl, bmG gb⟩
  | .int (.ofNat 2), .int (.negSucc x), ga, gb => ⟨.tuple [.str "BadMark", .int (.negSucc x), .bool true, .bool false], by cases look <;> kernel_rfl, by kernel_rfl, bmG gb⟩
  | .int (.ofNat 2), .int (.ofNat (x + 3)), ga, gb => ⟨.tuple [.str "BadMark", .int (.ofNat (x + 3)), .bool true, .bool false], by cases look <;> kernel_rfl, by kernel_rfl, bmG gb⟩
  | .int (.ofNat 2), .int (.ofNat 0), ga, gb => ⟨.tuple [.str "returned", .int 2], by cases look <;> kernel_rfl, by kernel_rfl, good_b (by decide +kernel)⟩
  | .int (.ofNat 2), .int (.ofNat 1), ga, gb => ⟨.tuple [.str "returned", .int 0], by cases look <;> kernel_rfl, by kernel_rfl, good_b (by decide +kernel)⟩
  | .int (.ofNat 2), .int (.ofNat 2), ga, gb => ⟨.tuple [.str "returned", .int 1], by cases look <;> kernel_rfl, by kernel_rfl, good_b (by decide +kernel)⟩
theorem cd_three_1 (S : Sto) (look : Bool) : ∀ a b : PyData, GD a → GD b → CD 1 look (.str "three") a b S
  | .none, b, ga, gb => ⟨.tuple [.str "BadMark", .none, .bool true, .bool false], by cases look <;> kernel_rfl, by kernel_rfl, bmG ga⟩
  | .bool x, b, ga, gb => ⟨.tuple [.str "BadMark", .bool x, .bool true, .bool false], by cases look <;> kernel_rfl, by kernel_rfl, bmG ga⟩
  | .str x, b, ga, gb => ⟨.tuple [.str "BadMark", .str x, .bool true, .bool false], by cases look <;> kernel_rfl, by kernel_rfl, bmG ga⟩
  | .list x, b, ga, gb => ⟨.tuple [.str "BadMark", .list x, .bool true, .bool false], by cases look <;> kernel_rfl, by kernel_rfl, bmG ga⟩
  | .tuple x, b, ga, gb => ⟨.tuple [.str "BadMark", .tuple x, .bool true, .bool false], by cases look <;> kernel_rfl, by kernel_rfl, bmG ga⟩
  | .dict x, b, ga, gb => ⟨.tuple [.str "BadMark", .dict x, .bool true, .bool false], by cases look <;> kernel_rfl, by kernel_rfl, bmG ga⟩
  | .int (.negSucc x), b, ga, gb => ⟨.tuple [.str "BadMark", .int (.negSucc x), .bool true, .bool false], by cases look <;> kernel_rfl, by kernel_rfl, bmG ga⟩
  | .int (.ofNat (x + 3)), b, ga, gb => ⟨.tuple [.str "BadMark", .int (.ofNat (x + 3)), .bool true, .bool false], by cases look <;> kernel_rfl, by kernel_rfl, bmG ga⟩
  | .int (.ofNat 0), .none, ga, gb => ⟨.tuple [.str "BadMark", .none, .bool true, .bool false], by cases look <;> kernel_rfl, by kernel_rfl, bmG gb⟩
  | .int (.ofNat 0), .bool x, ga, gb => ⟨.tuple [.str "BadMark", .bool x, .bool true, .bool false], by cases look <;> kernel_rfl, by kernel_rfl, bmG gb⟩
  | .int (.ofNat 0), .str x, ga, gb => ⟨.tuple [.str "BadMark", .str x, .bool true, .bool false], by cases look <;> kernel_rfl, by kernel_rfl, bmG gb⟩
  | .int (.ofNat 0), .list x, ga, gb => ⟨.tuple [.str "BadMark", .list x, .bool true, .bool false], by cases look <;> kernel_rfl, by kernel_rfl, bmG gb⟩
  | .int (.ofNat 0), .tuple x, ga, gb => ⟨.tuple [.str "BadMark", .tuple x, .bool true, .bool false], by cases look <;> kernel_rfl, by kernel_rfl, bmG gb⟩
  | .int (.ofNat 0), .dict x, ga, gb => ⟨.tuple [.str "BadMark", .dict x, .bool true, .bool false], by cases look <;> kernel_rfl, by kernel_rfl, bmG gb⟩
  | .int (.ofNat 0), .int (.negSucc x), ga, gb => ⟨.tuple [.str "BadMark", .int (.negSucc x), .bool true, .bool false], by cases look <;> kernel_rfl, by kernel_rfl, bmG gb⟩
  | .int (.ofNat 0), .int (.ofNat (x + 3)), ga, gb => ⟨.tuple [.str "BadMark", .int (.ofNat (x + 3)), .bool true, .bool false], by cases look <;> kernel_rfl, by kernel_rfl, bmG gb⟩
  | .int (.ofNat 0), .int (.ofNat 0), ga, gb => ⟨.tuple [.str "returned", .int 0], by cases look <;> kernel_rfl, by kernel_rfl, good_b (by decide +kernel)⟩
  | .int (.ofNat 0), .int (.ofNat 1), ga, gb => ⟨.tuple [.str "returned", .int 0], by cases look <;> kernel_rfl, by kernel_rfl, good_b (by decide +kernel)⟩
  | .int (.ofNat 0), .int (.ofNat 2), ga, gb => ⟨.tuple [.str "returned", .int 0], by cases look <;> kernel_rfl, by kernel_rfl, good_b (by decide +kernel)⟩
  | .int (.ofNat 1), .none, ga, gb => ⟨.tuple [.str "BadMark", .none, .bool true, .bool false], by cases look <;> kernel_rfl, by kernel_rfl, bmG gb⟩
  | .int (.ofNat 1), .bool x, ga, gb => ⟨.tuple [.str "BadMark", .bool x, .bool true, .bool false], by cases look <;> kernel_rfl, by kernel_rfl, bmG gb⟩
  | .int (.ofNat 1), .str x, ga, gb => ⟨.tuple [.str "BadMark", .str x, .bool true, .bool false], by cases look <;> kernel_rfl, by kernel_rfl, bmG gb⟩
  | .int (.ofNat 1), .list x, ga, gb => ⟨.tuple [.str "BadMark", .list x, .bool true, .bool false], by cases look <;> kernel_rfl, by kernel_rfl, bmG gb⟩
  | .int (.ofNat 1), .tuple x, ga, gb => ⟨.tuple [.str "BadMark", .tuple x, .bool true, .bool false], by cases look <;> kernel_rfl, by kernel_rfl, bmG gb⟩
  | .int (.ofNat 1), .dict x, ga, gb => ⟨.tuple [.str "BadMark", .dict x, .bool true, .bool false], by cases look <;> kernel_rfl, by kernel_rfl, bmG gb⟩
  | .int (.ofNat 1), .int (.negSucc x), ga, gb => ⟨.tuple [.str "BadMark", .int (.negSucc x), .bool true, .bool false], by cases look <;> kernel_rfl, by kernel_rfl, bmG gb⟩
  | .int (.ofNat 1), .int (.ofNat (x + 3)), ga, gb => ⟨.tuple [.str "BadMark", .int (.ofNat (x + 3)), .bool true, .bool false], by cases look <;> kernel_rfl, by kernel_rfl, bmG gb⟩
  | .int (.ofNat 1), .int (.ofNat 0), ga, gb => ⟨.tuple [.str "returned", .int 0], by cases look <;> kernel_rfl, by kernel_rfl, good_b (by decide +kernel)⟩
  | .int (.ofNat 1), .int (.ofNat 1), ga, gb => ⟨.tuple [.str "returned", .int 1], by cases look <;> kernel_rfl, by kernel_rfl, good_b (by decide +kernel)⟩
  | .int (.ofNat 1), .int (.ofNat 2), ga, gb => ⟨.tuple [.str "returned", .int 2], by cases look <;> kernel_rfl, by kernel_rfl, good_b (by decide +kernel)⟩
  | .int (.ofNat 2), .none, ga, gb => ⟨.tuple [.str "BadMark", .none, .bool true, .bool false], by cases look <;> kernel_rfl, by kernel_rfl, bmG gb⟩
  | .int (.ofNat 2), .bool x, ga, gb => ⟨.tuple [.str "BadMark", .bool x, .bool true, .bool false], by cases look <;> kernel_rfl, by kernel_rfl, bmG gb⟩
  | .int (.ofNat 2), .str x, ga, gb => ⟨.tuple [.str "BadMark", .str x, .bool true, .bool false], by cases look <;> kernel_rfl, by kernel_rfl, bmG gb⟩
  | .int (.ofNat 2), .list x, ga, gb => ⟨.tuple [.str "BadMark", .list x, .bool true, .bool false], by cases look <;> kernel_rfl, by kernel_rfl, bmG gb⟩
  | .int (.ofNat 2), .tuple x, ga, gb => ⟨.tuple [.str "BadMark", .tuple x, .bool true, .bool false], by cases look <;> kernel_rfl, by kernel_rfl, bmG gb⟩
  | .int (.ofNat 2), .dict x, ga, gb => ⟨.tuple [.str "BadMark", .dict x, .bool true, .bool false], by cases look <;> kernel_rfl, by kernel_rfl, bmG gb⟩
  | .int (.ofNat 2), .int (.negSucc x), ga, gb => ⟨.tuple [.str "BadMark", .int (.negSucc x), .bool true, .bool false], by cases look <;> kernel_rfl, by kernel_rfl, bmG gb⟩
  | .int (.ofNat 2), .int (.ofNat (x + 3)), ga, gb => ⟨.tuple [.str "BadMark", .int (.ofNat (x + 3)), .bool true, .bool false], by cases look <;> kernel_rfl, by kernel_rfl, bmG gb⟩
  | .int (.ofNat 2), .int (.ofNat 0), ga, gb => ⟨.tuple [.str "returned", .int 0], by cases look <;> kernel_rfl, by kernel_rfl, good_b (by decide +kernel)⟩
  | .int (.ofNat 2), .int (.ofNat 1), ga, gb => ⟨.tuple [.str "returned", .int 2], by cases look <;> kernel_rfl, by kernel_rfl, good_b (by decide +kernel)⟩
  | .int (.ofNat 2), .int (.ofNat 2), ga, gb => ⟨.tuple [.str "returned", .int 1], by cases look <;> kernel_rfl, by kernel_rfl, good_b (by decide +kernel)⟩
theorem cd_three_2 (S : Sto) (look : Bool) : ∀ a b : PyData, GD a → GD b → CD 2 look (.str "three") a b S
  | .none, b, ga, gb => ⟨.tuple [.str "BadMark", .none, .bool true, .bool false], by cases look <;> kernel_rfl, by kernel_rfl, bmG ga⟩
  | .bool x, b, ga, gb => ⟨.tuple [.str "BadMark", .bool x, .bool true, .bool false], by cases look <;> kernel_rfl, by kernel_rfl, bmG ga⟩
  | .str x, b, ga, gb => ⟨.tuple [.str "BadMark", .str x, .bool true, .bool false], by cases look <;> kernel_rfl, by kernel_rfl, bmG ga⟩
  | .list x, b, ga, gb => ⟨.tuple [.str "BadMark", .list x, .bool true, .bool false], by cases look <;> kernel_rfl, by kernel_rfl, bmG ga⟩
  | .tuple x, b, ga, gb => ⟨.tuple [.str "BadMark", .tuple x, .bool true, .bool false], by cases look <;> kernel_rfl, by kernel_rfl, bmG ga⟩
  | .dict x, b, ga, gb => ⟨.tuple [.str "BadMark", .dict x, .bool true, .bool false], by cases look <;> kernel_rfl, by kernel_rfl, bmG ga⟩
  | .int (.negSucc x), b, ga, gb => ⟨.tuple [.str "BadMark", .int (.negSucc x), .bool true, .bool false], by cases look <;> kernel_rfl, by kernel_rfl, bmG ga⟩
  | .int (.ofNat (x + 3)), b, ga, gb => ⟨.tuple [.str "BadMark", .int (.ofNat (x + 3)), .bool true, .bool false], by cases look <;> kernel_rfl, by kernel_rfl, bmG ga⟩
  | .int (.ofNat 0), b, ga, gb => ⟨.tuple [.str "returned", .int 0], by cases look <;> kernel_rfl, by kernel_rfl, good_b (by decide +kernel)⟩
  | .int (.ofNat 1), b, ga, gb => ⟨.tuple [.str "returned", .int 1], by cases look <;> kernel_rfl, by kernel_rfl, good_b (by decide +kernel)⟩
  | .int (.ofNat 2), b, ga, gb => ⟨.tuple [.str "returned", .int 2], by cases look <;> kernel_rfl, by kernel_rfl, good_b (by decide +kernel)⟩
theorem cd_three_3 (S : Sto) (look : Bool) : ∀ a b : PyData, GD a → GD b → CD 3 look (.str "three") a b S
  | .none, b, ga, gb => ⟨.tuple [.str "BadMark", .none, .bool true, .bool false], by cases look <;> kernel_rfl, by kernel_rfl, bmG ga⟩
  | .bool x, b, ga, gb => ⟨.tuple [.str "BadMark", .bool x, .bool true, .bool false], by cases look <;> kernel_rfl, by kernel_rfl, bmG ga⟩
  | .str x, b, ga, gb => ⟨.tuple [.str "BadMark", .str x, .bool true, .bool false], by cases look <;> kernel_rfl, by kernel_rfl, bmG ga⟩
  | .list x, b, ga, gb => ⟨.tuple [.str "BadMark", .list x, .bool true, .bool false], by cases look <;> kernel_rfl, by kernel_rfl, bmG ga⟩
  | .tuple x, b, ga, gb => ⟨.tuple [.str "BadMark", .tuple x, .bool true, .bool false], by cases look <;> kernel_rfl, by kernel_rfl, bmG ga⟩
  | .dict x, b, ga, gb => ⟨.tuple [.str "BadMark", .dict x, .bool true, .bool false], by cases look <;> kernel_rfl, by kernel_rfl, bmG ga⟩
  | .int (.negSucc x), b, ga, gb => ⟨.tuple [.str "BadMark", .int (.negSucc x), .bool true, .bool false], by cases look <;> kernel_rfl, by kernel_rfl, bmG ga⟩
  | .int (.ofNat (x + 3)), b, ga, gb => ⟨.tuple [.str "BadMark", .int (.ofNat (x + 3)), .bool true, .bool false], by cases look <;> kernel_rfl, by kernel_rfl, bmG ga⟩
  | .int (.ofNat 0), b, ga, gb => ⟨.tuple [.str "BadMark", .int (.ofNat 0), .bool true, .bool false], by cases look <;> kernel_rfl, by kernel_rfl, bmG ga⟩
  | .int (.ofNat 1), b, ga, gb => ⟨.tuple [.str "returned", .int 1], by cases look <;> kernel_rfl, by kernel_rfl, good_b (by decide +kernel)⟩
  | .int (.ofNat 2), b, ga, gb => ⟨.tuple [.str "returned", .int 2], by cases look <;> kernel_rfl, by kernel_rfl, good_b (by decide +kernel)⟩
theorem cd_three_4 (S : Sto) (look : Bool) : ∀ a b : PyData, GD a → GD b → CD 4 look (.str "three") a b S
  | a, b, ga, gb => ⟨.tuple [.str "returned", .int 3], by cases look <;> kernel_rfl, by kernel_rfl, good_b (by decide +kernel)⟩
theorem cd_three_5 (S : Sto) (look : Bool) : ∀ a b : PyData, GD a → GD b → CD 5 look (.str "three") a b S
  | a, b, ga, gb => ⟨.tuple [.str "returned", .tuple [.int 1, .int 2]], by cases look <;> kernel_rfl, by kernel_rfl, good_b (by decide +kernel)⟩
end K08

end
section
set_option maxRecDepth 100000
set_option maxHeartbeats 0
namespace K08
open PySem PySem.Spec L2 Mr
open PyProof.Rows hiding St
theorem cd_four_0 (S : Sto) (look : Bool) : ∀ a b : PyData, GD a → GD b → CD 0 look (.str "four") a b S
  | .none, b, ga, gb => ⟨.tuple [.str "BadMark", .none, .bool true, .bool false], by cases look <;> kernel_rfl, by kernel_rfl, bmG ga⟩
  | .bool x, b, ga, gb => ⟨.tuple [.str "BadMark", .bool x, .bool true, .bool false], by cases look <;> kernel_rfl, by kernel_rfl, bmG ga⟩
  | .str x, b, ga, gb => ⟨.tuple [.str "BadMark", .str x, .bool true, .bool false], by cases look <;> kernel_rfl, by kernel_rfl, bmG ga⟩
  | .list x, b, ga, gb => ⟨.tuple [.str "BadMark", .list x, .bool true, .bool false], by cases look <;> kernel_rfl, by kernel_rfl, bmG ga⟩
  | .tuple x, b, ga, gb => ⟨.tuple [.str "BadMark", .tuple x, .bool true, .bool false], by cases look <;> kernel_rfl, by kernel_rfl, bmG ga⟩
  | .dict x, b, ga, gb => ⟨.tuple [.str "BadMark", .dict x, .bool true, .bool false], by cases look <;> kernel_rfl, by kernel_rfl, bmG ga⟩
  | .int (.negSucc x), b, ga, gb => ⟨.tuple [.str "BadMark", .int (.negSucc x), .bool true, .bool false], by cases look <;> kernel_rfl, by kernel_rfl, bmG ga⟩
  | .int (.ofNat (x + 4)), b, ga, gb => ⟨.tuple [.str "BadMark", .int (.ofNat (x + 4)), .bool true, .bool false], by cases look <;> kernel_rfl, by kernel_rfl, bmG ga⟩
  | .int (.ofNat 0), .none, ga, gb => ⟨.tuple [.str "BadMark", .none, .bool true, .bool false], by cases look <;> kernel_rfl, by kernel_rfl, bmG gb⟩
  | .int (.ofNat 0), .bool x, ga, gb => ⟨.tuple [.str "BadMark", .bool x, .bool true, .bool false], by cases look <;> kernel_rfl, by kernel_rfl, bmG gb⟩
  | .int (.ofNat 0), .str x, ga, gb => ⟨.tuple [.str "BadMark", .str x, .bool true, .bool false], by cases look <;> kernel_rfl, by kernel_rfl, bmG gb⟩
  | .int (.ofNat 0), .list x, ga, gb => ⟨.tuple [.str "BadMark", .list x, .bool true, .bool false], by cases look <;> kernel_rfl, by kernel_rfl, bmG gb⟩
  | .int (.ofNat 0), .tuple x, ga, gb => ⟨.tuple [.str "BadMark", .tuple x, .bool true, .bool false], by cases look <;> kernel_rfl, by kernel_rfl, bmG gb⟩
  | .int (.ofNat 0), .dict x, ga, gb => ⟨.tuple [.str "BadMark", .dict x, .bool true, .bool false], by cases look <;> kernel_rfl, by kernel_rfl, bmG gb⟩
  | .int (.ofNat 0), .int (.negSucc x), ga, gb => ⟨.tuple [.str "BadMark", .int (.negSucc x), .bool true, .bool false], by cases look <;> kernel_rfl, by kernel_rfl, bmG gb⟩
  | .int (.ofNat 0), .int (.ofNat (x + 4)), ga, gb => ⟨.tuple [.str "BadMark", .int (.ofNat (x + 4)), .bool true, .bool false], by cases look <;> kernel_rfl, by kernel_rfl, bmG gb⟩
  | .int (.ofNat 0), .int (.ofNat 0), ga, gb => ⟨.tuple [.str "returned", .int 0], by cases look <;> kernel_rfl, by kernel_rfl, good_b (by decide +kernel)⟩
  | .int (.ofNat 0), .int (.ofNat 1), ga, gb => ⟨.tuple [.str "returned", .int 1], by cases look <;> kernel_rfl, by kernel_rfl, good_b (by decide +kernel)⟩
  | .int (.ofNat 0), .int (.ofNat 2), ga, gb => ⟨.tuple [.str "returned", .int 2], by cases look <;> kernel_rfl, by kernel_rfl, good_b (by decide +kernel)⟩
  | .int (.ofNat 0), .int (.ofNat 3), ga, gb => ⟨.tuple [.str "returned", .int 3], by cases look <;> kernel_rfl, by kernel_rfl, good_b (by decide +kernel)⟩
  | .int (.ofNat 1), .none, ga, gb => ⟨.tuple [.str "BadMark", .none, .bool true, .bool false], by cases look <;> kernel_rfl, by kernel_rfl, bmG gb⟩
  | .int (.ofNat 1), .bool x, ga, gb => ⟨.tuple [.str "BadMark", .bool x, .bool true, .bool false], by cases look <;> kernel_rfl, by kernel_rfl, bmG gb⟩
  | .int (.ofNat 1), .str x, ga, gb => ⟨.tuple [.str "BadMark", .str x, .bool true, .bool false], by cases look <;> kernel_rfl, by kernel_rfl, bmG gb⟩
  | .int (.ofNat 1), .list x, ga, gb => ⟨.tuple [.str "BadMark", .list x, .bool true, .bool false], by cases look <;> kernel_rfl, by kernel_rfl, bmG gb⟩
  | .int (.ofNat 1), .tuple x, ga, gb => ⟨.tuple [.str "BadMark", .tuple x, .bool true, .bool false], by cases look <;> kernel_rfl, by kernel_rfl, bmG gb⟩
  | .int (.ofNat 1), .dict x, ga, gb => ⟨.tuple [.str "BadMark", .dict x, .bool true, .bool false], by cases look <;> kernel_rfl, by kernel_rfl, bmG gb⟩
  | .int (.ofNat 1), .int (.negSucc x), ga, gb => ⟨.tuple [.str "BadMark", .int (.negSucc x), .bool true, .bool false], by cases look <;> kernel_rfl, by kernel_rfl, bmG gb⟩
  | .int (.ofNat 1), .int (.ofNat (x + 4)), ga, gb => ⟨.tuple [.str "BadMark", .int (.ofNat (x + 4)), .bool true, .bool false], by cases look <;> kernel_rfl, by kernel_rfl, bmG gb⟩
  | .int (.ofNat 1), .int (.ofNat 0), ga, gb => ⟨.tuple [.str "returned", .int 1], by cases look <;> kernel_rfl, by kernel_rfl, good_b (by decide +kernel)⟩
  | .int (.ofNat 1), .int (.ofNat 1), ga, gb => ⟨.tuple [.str "returned", .int 0], by cases look <;> kernel_rfl, by kernel_rfl, good_b (by decide +kernel)⟩
  | .int (.ofNat 1), .int (.ofNat 2), ga, gb => ⟨.tuple [.str "returned", .int 3], by cases look <;> kernel_rfl, by kernel_rfl, good_b (by decide +kernel)⟩
  | .int (.ofNat 1), .int (.ofNat 3), ga, gb => ⟨.tuple [.str "returned", .int 2], by cases look <;> kernel_rfl, by kernel_rfl, good_b (by decide +kernel)⟩
  | .int (.ofNat 2), .none, ga, gb => ⟨.tuple [.str "BadMark", .none, .bool true, .bool false], by cases look <;> kernel_rfl, by kernel_rfl, bmG gb⟩
  | .int (.ofNat 2), .bool x, ga, gb => ⟨.tuple [.str "BadMark", .bool x, .bool true, .bool false], by cases look <;> kernel_rfl, by kernel_rfl, bmG gb⟩
  | .int (.ofNat 2), .str x, ga, gb => ⟨.tuple [.str "BadMark", .str x, .bool true, .bool false], by cases look <;> kernel_rfl, by kernel_rfl, bmG gb⟩
  | .int (.ofNat 2), .list x, ga, gb => ⟨.tuple [.str "BadMark", .list x, .bool true, .bool false], by cases look <;> kernel_rfl, by kernel_rfl, bmG gb⟩
  | .int (.ofNat 2), .tuple x, ga, gb => ⟨.tuple [.str "BadMark", .tuple x, .bool true, .bool false], by cases look <;> kernel_rfl, by kernel_rfl, bmG gb⟩
  | .int (.ofNat 2), .dict x, ga, gb => ⟨.tuple [.str "BadMark", .dict x, .bool true, .bool false], by cases look <;> kernel_rfl, by kernel_rfl, bmG gb⟩
  | .int (.ofNat 2), .int (.negSucc x), ga, gb => ⟨.tuple [.str "BadMark", .int (.negSucc x), .bool true, .bool false], by cases look <;> kernel_rfl, by kernel_rfl, bmG gb⟩
  | .int (.ofNat 2), .int (.ofNat (x + 4)), ga, gb => ⟨.tuple [.str "BadMark", .int (.ofNat (x + 4)), .bool true, .bool false], by cases look <;> kernel_rfl, by kernel_rfl, bmG gb⟩
  | .int (.ofNat 2), .int (.ofNat 0), ga, gb => ⟨.tuple [.str "returned", .int 2], by cases look <;> kernel_rfl, by kernel_rfl, good_b (by decide +kernel)⟩
  | .int (.ofNat 2), .int (.ofNat 1), ga, gb => ⟨.tuple [.str "returned", .int 3], by cases look <;> kernel_rfl, by kernel_rfl, good_b (by decide +kernel)⟩
  | .int (.ofNat 2), .int (.ofNat 2), ga, gb => ⟨.tuple [.str "returned", .int 0], by cases look <;> kernel_rfl, by kernel_rfl, good_b (by decide +kernel)⟩
  | .int (.ofNat 2), .int (.ofNat 3), ga, gb => ⟨.tuple [.str "returned", .int 1], by cases look <;> kernel_rfl, by kernel_rfl, good_b (by decide +kernel)⟩
  | .int (.ofNat 3), .none, ga, gb => ⟨.tuple [.str "BadMark", .none, .bool true, .bool false], by cases look <;> kernel_rfl, by kernel_rfl, bmG gb⟩
  | .int (.ofNat 3), .bool x, ga, gb => ⟨.tuple [.str "BadMark", .bool x, .bool true, .bool false], by cases look <;> kernel_rfl, by kernel_rfl, bmG gb⟩
  | .int (.ofNat 3), .str x, ga, gb => ⟨.tuple [.str "BadMark", .str x, .bool true, .bool false], by cases look <;> kernel_rfl, by kernel_rfl, bmG gb⟩
  | .int (.ofNat 3), .list x, ga, gb => ⟨.tuple [.str "BadMark", .list x, .bool true, .bool false], by cases look <;> kernel_rfl, by kernel_rfl, bmG gb⟩
  | .int (.ofNat 3), .tuple x, ga, gb => ⟨.tuple [.str "BadMark", .tuple x, .bool true, .bool false], by cases look <;> kernel_rfl, by kernel_rfl, bmG gb⟩
  | .int (.ofNat 3), .dict x, ga, gb => ⟨.tuple [.str "BadMark", .dict x, .bool true, .bool false], by cases look <;> kernel_rfl, by kernel_rfl, bmG gb⟩
  | .int (.ofNat 3), .int (.negSucc x), ga, gb => ⟨.tuple [.str "BadMark", .int (.negSucc x), .bool true, .bool false], by cases look <;> kernel_rfl, by kernel_rfl, bmG gb⟩
  | .int (.ofNat 3), .int (.ofNat (x + 4)), ga, gb => ⟨.tuple [.str "BadMark", .int (.ofNat (x + 4)), .bool true, .bool false], by cases look <;> kernel_rfl, by kernel_rfl, bmG gb⟩
  | .int (.ofNat 3), .int (.ofNat 0), ga, gb => ⟨.tuple [.str "returned", .int 3], by cases look <;> kernel_rfl, by kernel_rfl, good_b (by decide +kernel)⟩
  | .int (.ofNat 3), .int (.ofNat 1), ga, gb => ⟨.tuple [.str "returned", .int 2], by cases look <;> kernel_rfl, by kernel_rfl, good_b (by decide +kernel)⟩
  | .int (.ofNat 3), .int (.ofNat 2), ga, gb => ⟨.tuple [.str "returned", .int 1], by cases look <;> kernel_rfl, by kernel_rfl, good_b (by decide +kernel)⟩
  | .int (.ofNat 3), .int (.ofNat 3), ga, gb => ⟨.tuple [.str "returned", .int 0], by cases look <;> kernel_rfl, by kernel_rfl, good_b (by decide +kernel)⟩
theorem cd_four_1 (S : Sto) (look : Bool) : ∀ a b : PyData, GD a → GD b → CD 1 look (.str "four") a b S
  | .none, b, ga, gb => ⟨.tuple [.str "BadMark", .none, .bool true, .bool false], by cases look <;> kernel_rfl, by kernel_rfl, bmG ga⟩
  | .bool x, b, ga, gb => ⟨.tuple [.str "BadMark", .bool x, .bool true, .bool false], by cases look <;> kernel_rfl, by kernel_rfl, bmG ga⟩
  | .str x, b, ga, gb => ⟨.tuple [.str "BadMark", .str x, .bool true, .bool false], by cases look <;> kernel_rfl, by kernel_rfl, bmG ga⟩
  | .list x, b, ga, gb => ⟨.tuple [.str "BadMark", .list x, .bool true, .bool false], by cases look <;> kernel_rfl, by kernel_rfl, bmG ga⟩
  | .tuple x, b, ga, gb => ⟨.tuple [.str "BadMark", .tuple x, .bool true, .bool false], by cases look <;> kernel_rfl, by kernel_rfl, bmG ga⟩
  | .dict x, b, ga, gb => ⟨.tuple [.str "BadMark", .dict x, .bool true, .bool false], by cases look <;> kernel_rfl, by kernel_rfl, bmG ga⟩
  | .int (.negSucc x), b, ga, gb => ⟨.tuple [.str "BadMark", .int (.negSucc x), .bool true, .bool false], by cases look <;> kernel_rfl, by kernel_rfl, bmG ga⟩
  | .int (.ofNat (x + 4)), b, ga, gb => ⟨.tuple [.str "BadMark", .int (.ofNat (x + 4)), .bool true, .bool false], by cases look <;> kernel_rfl, by kernel_rfl, bmG ga⟩
  | .int (.ofNat 0), .none, ga, gb => ⟨.tuple [.str "BadMark", .none, .bool true, .bool false], by cases look <;> kernel_rfl, by kernel_rfl, bmG gb⟩
  | .int (.ofNat 0), .bool x, ga, gb => ⟨.tuple [.str "BadMark", .bool x, .bool true, .bool false], by cases look <;> kernel_rfl, by kernel_rfl, bmG gb⟩
  | .int (.ofNat 0), .str x, ga, gb => ⟨.tuple [.str "BadMark", .str x, .bool true, .bool false], by cases look <;> kernel_rfl, by kernel_rfl, bmG gb⟩
  | .int (.ofNat 0), .list x, ga, gb => ⟨.tuple [.str "BadMark", .list x, .bool true, .bool false], by cases look <;> kernel_rfl, by kernel_rfl, bmG gb⟩
  | .int (.ofNat 0), .tuple x, ga, gb => ⟨.tuple [.str "BadMark", .tuple x, .bool true, .bool false], by cases look <;> kernel_rfl, by kernel_rfl, bmG gb⟩
  | .int (.ofNat 0), .dict x, ga, gb => ⟨.tuple [.str "BadMark", .dict x, .bool true, .bool false], by cases look <;> kernel_rfl, by kernel_rfl, bmG gb⟩
  | .int (.ofNat 0), .int (.negSucc x), ga, gb => ⟨.tuple [.str "BadMark", .int (.negSucc x), .bool true, .bool false], by cases look <;> kernel_rfl, by kernel_rfl, bmG gb⟩
  | .int (.ofNat 0), .int (.ofNat (x + 4)), ga, gb => ⟨.tuple [.str "BadMark", .int (.ofNat (x + 4)), .bool true, .bool false], by cases look <;> kernel_rfl, by kernel_rfl, bmG gb⟩
  | .int (.ofNat 0), .int (.ofNat 0), ga, gb => ⟨.tuple [.str "returned", .int 0], by cases look <;> kernel_rfl, by kernel_rfl, good_b (by decide +kernel)⟩
  | .int (.ofNat 0), .int (.ofNat 1), ga, gb => ⟨.tuple [.str "returned", .int 0], by cases look <;> kernel_rfl, by kernel_rfl, good_b (by decide +kernel)⟩
  | .int (.ofNat 0), .int (.ofNat 2), ga, gb => ⟨.tuple [.str "returned", .int 0], by cases look <;> kernel_rfl, by kernel_rfl, good_b (by decide +kernel)⟩
  | .int (.ofNat 0), .int (.ofNat 3), ga, gb => ⟨.tuple [.str "returned", .int 0], by cases look <;> kernel_rfl, by kernel_rfl, good_b (by decide +kernel)⟩
  | .int (.ofNat 1), .none, ga, gb => ⟨.tuple [.str "BadMark", .none, .bool true, .bool false], by cases look <;> kernel_rfl, by kernel_rfl, bmG gb⟩
  | .int (.ofNat 1), .bool x, ga, gb => ⟨.tuple [.str "BadMark", .bool x, .bool true, .bool false], by cases look <;> kernel_rfl, by kernel_rfl, bmG gb⟩
  | .int (.ofNat 1), .str x, ga, gb => ⟨.tuple [.str "BadMark", .str x, .bool true, .bool false], by cases look <;> kernel_rfl, by kernel_rfl, bmG gb⟩
  | .int (.ofNat 1), .list x, ga, gb => ⟨.tuple [.str "BadMark", .list x, .bool true, .bool false], by cases look <;> kernel_rfl, by kernel_rfl, bmG gb⟩
  | .int (.ofNat 1), .tuple x, ga, gb => ⟨.tuple [.str "BadMark", .tuple x, .bool true, .bool false], by cases look <;> kernel_rfl, by kernel_rfl, bmG gb⟩
  | .int (.ofNat 1), .dict x, ga, gb => ⟨.tuple [.str "BadMark", .dict x, .bool true, .bool false], by cases look <;> kernel_rfl, by kernel_rfl, bmG gb⟩
  | .int (.ofNat 1), .int (.negSucc x), ga, gb => ⟨.tuple [.str "BadMark", .int (.negSucc x), .bool true, .bool false], by cases look <;> kernel_rfl, by kernel_rfl, bmG gb⟩
  | .int (.ofNat 1), .int (.ofNat (x + 4)), ga, gb => ⟨.tuple [.str "BadMark", .int (.ofNat (x + 4)), .bool true, .bool false], by cases look <;> kernel_rfl, by kernel_rfl, bmG gb⟩
  | .int (.ofNat 1), .int (.ofNat 0), ga, gb => ⟨.tuple [.str "returned", .int 0], by cases look <;> kernel_rfl, by kernel_rfl, good_b (by decide +kernel)⟩
  | .int (.ofNat 1), .int (.ofNat 1), ga, gb => ⟨.tuple [.str "returned", .int 1], by cases look <;> kernel_rfl, by kernel_rfl, good_b (by decide +kernel)⟩
  | .int (.ofNat 1), .int (.ofNat 2), ga, gb => ⟨.tuple [.str "returned", .int 2], by cases look <;> kernel_rfl, by kernel_rfl, good_b (by decide +kernel)⟩
  | .int (.ofNat 1), .int (.ofNat 3), ga, gb => ⟨.tuple [.str "returned", .int 3], by cases look <;> kernel_rfl, by kernel_rfl, good_b (by decide +kernel)⟩
  | .int (.ofNat 2), .none, ga, gb => ⟨.tuple [.str "BadMark", .none, .bool true, .bool false], by cases look <;> kernel_rfl, by kernel_rfl, bmG gb⟩
  | .int (.ofNat 2), .bool x, ga, gb => ⟨.tuple [.str "BadMark", .bool x, .bool true, .bool false], by cases look <;> kernel_rfl, by kernel_rfl, bmG gb⟩
  | .int (.ofNat 2), .str x, ga, gb => ⟨.tuple [.str "BadMark", .str x, .bool true, .bool false], by cases look <;> kernel_rfl, by kernel_rfl, bmG gb⟩
  | .int (.ofNat 2), .list x, ga, gb => ⟨.tuple [.str "BadMark", .list x, .bool true, .bool false], by cases look <;> kernel_rfl, by kernel_rfl, bmG gb⟩
  | .int (.ofNat 2), .tuple x, ga, gb => ⟨.tuple [.str "BadMark", .tuple x, .bool true, .bool false], by cases look <;> kernel_rfl, by kernel_rfl, bmG gb⟩
  | .int (.ofNat 2), .dict x, ga, gb => ⟨.tuple [.str "BadMark", .dict x, .bool true, .bool false], by cases look <;> kernel_rfl, by kernel_rfl, bmG gb⟩
  | .int (.ofNat 2), .int (.negSucc x), ga, gb => ⟨.tuple [.str "BadMark", .int (.negSucc x), .bool true, .bool false], by cases look <;> kernel_rfl, by kernel_rfl, bmG gb⟩
  | .int (.ofNat 2), .int (.ofNat (x + 4)), ga, gb => ⟨.tuple [.str "BadMark", .int (.ofNat (x + 4)), .bool true, .bool false], by cases look <;> kernel_rfl, by kernel_rfl, bmG gb⟩
  | .int (.ofNat 2), .int (.ofNat 0), ga, gb => ⟨.tuple [.str "returned", .int 0], by cases look <;> kernel_rfl, by kernel_rfl, good_b (by decide +kernel)⟩
  | .int (.ofNat 2), .int (.ofNat 1), ga, gb => ⟨.tuple [.str "returned", .int 2], by cases look <;> kernel_rfl, by kernel_rfl, good_b (by decide +kernel)⟩
  | .int (.ofNat 2), .int (.ofNat 2), ga, gb => ⟨.tuple [.str "returned", .int 3], by cases look <;> kernel_rfl, by kernel_rfl, good_b (by decide +kernel)⟩
  | .int (.ofNat 2), .int (.ofNat 3), ga, gb => ⟨.tuple [.str "returned", .int 1], by cases look <;> kernel_rfl, by kernel_rfl, good_b (by decide +kernel)⟩
  | .int (.ofNat 3), .none, ga, gb => ⟨.tuple [.str "BadMark", .none, .bool true, .bool false], by cases look <;> kernel_rfl, by kernel_rfl, bmG gb⟩
  | .int (.ofNat 3), .bool x, ga, gb => ⟨.tuple [.str "BadMark", .bool x, .bool true, .bool false], by cases look <;> kernel_rfl, by kernel_rfl, bmG gb⟩
  | .int (.ofNat 3), .str x, ga, gb => ⟨.tuple [.str "BadMark", .str x, .bool true, .bool false], by cases look <;> kernel_rfl, by kernel_rfl, bmG gb⟩
  | .int (.ofNat 3), .list x, ga, gb => ⟨.tuple [.str "BadMark", .list x, .bool true, .bool false], by cases look <;> kernel_rfl, by kernel_rfl, bmG gb⟩
  | .int (.ofNat 3), .tuple x, ga, gb => ⟨.tuple [.str "BadMark", .tuple x, .bool true, .bool false], by cases look <;> kernel_rfl, by kernel_rfl, bmG gb⟩
  | .int (.ofNat 3), .dict x, ga, gb => ⟨.tuple [.str "BadMark", .dict x, .bool true, .bool false], by cases look <;> kernel_rfl, by kernel_rfl, bmG gb⟩
  | .int (.ofNat 3), .int (.negSucc x), ga, gb => ⟨.tuple [.str "BadMark", .int (.negSucc x), .bool true, .bool false], by cases look <;> kernel_rfl, by kernel_rfl, bmG gb⟩
  | .int (.ofNat 3), .int (.ofNat (x + 4)), ga, gb => ⟨.tuple [.str "BadMark", .int (.ofNat (x + 4)), .bool true, .bool false], by cases look <;> kernel_rfl, by kernel_rfl, bmG gb⟩
  | .int (.ofNat 3), .int (.ofNat 0), ga, gb => ⟨.tuple [.str "returned", .int 0], by cases look <;> kernel_rfl, by kernel_rfl, good_b (by decide +kernel)⟩
  | .int (.ofNat 3), .int (.ofNat 1), ga, gb => ⟨.tuple [.str "returned", .int 3], by cases look <;> kernel_rfl, by kernel_rfl, good_b (by decide +kernel)⟩
  | .int (.ofNat 3), .int (.ofNat 2), ga, gb => ⟨.tuple [.str "returned", .int 1], by cases look <;> kernel_rfl, by kernel_rfl, good_b (by decide +kernel)⟩
  | .int (.ofNat 3), .int (.ofNat 3), ga, gb => ⟨.tuple [.str "returned", .int 2], by cases look <;> kernel_rfl, by kernel_rfl, good_b (by decide +kernel)⟩
theorem cd_four_2 (S : Sto) (look : Bool) : ∀ a b : PyData, GD a → GD b → CD 2 look (.str "four") a b S
  | .none, b, ga, gb => ⟨.tuple [.str "BadMark", .none, .bool true, .bool false], by cases look <;> kernel_rfl, by kernel_rfl, bmG ga⟩
  | .bool x, b, ga, gb => ⟨.tuple [.str "BadMark", .bool x, .bool true, .bool false], by cases look <;> kernel_rfl, by kernel_rfl, bmG ga⟩
  | .str x, b, ga, gb => ⟨.tuple [.str "BadMark", .str x, .bool true, .bool false], by cases look <;> kernel_rfl, by kernel_rfl, bmG ga⟩
  | .list x, b, ga, gb => ⟨.tuple [.str "BadMark", .list x, .bool true, .bool false], by cases look <;> kernel_rfl, by kernel_rfl, bmG ga⟩
  | .tuple x, b, ga, gb => ⟨.tuple [.str "BadMark", .tuple x, .bool true, .bool false], by cases look <;> kernel_rfl, by kernel_rfl, bmG ga⟩
  | .dict x, b, ga, gb => ⟨.tuple [.str "BadMark", .dict x, .bool true, .bool false], by cases look <;> kernel_rfl, by kernel_rfl, bmG ga⟩
  | .int (.negSucc x), b, ga, gb => ⟨.tuple [.str "BadMark", .int (.negSucc x), .bool true, .bool false], by cases look <;> kernel_rfl, by kernel_rfl, bmG ga⟩
  | .int (.ofNat (x + 4)), b, ga, gb => ⟨.tuple [.str "BadMark", .int (.ofNat (x + 4)), .bool true, .bool false], by cases look <;> kernel_rfl, by kernel_rfl, bmG ga⟩
  | .int (.ofNat 0), b, ga, gb => ⟨.tuple [.str "returned", .int 0], by cases look <;> kernel_rfl, by kernel_rfl, good_b (by decide +kernel)⟩
  | .int (.ofNat 1), b, ga, gb => ⟨.tuple [.str "returned", .int 1], by cases look <;> kernel_rfl, by kernel_rfl, good_b (by decide +kernel)⟩
  | .int (.ofNat 2), b, ga, gb => ⟨.tuple [.str "returned", .int 3], by cases look <;> kernel_rfl, by kernel_rfl, good_b (by decide +kernel)⟩
  | .int (.ofNat 3), b, ga, gb => ⟨.tuple [.str "returned", .int 2], by cases look <;> kernel_rfl, by kernel_rfl, good_b (by decide +kernel)⟩
theorem cd_four_3 (S : Sto) (look : Bool) : ∀ a b : PyData, GD a → GD b → CD 3 look (.str "four") a b S
  | .none, b, ga, gb => ⟨.tuple [.str "BadMark", .none, .bool true, .bool false], by cases look <;> kernel_rfl, by kernel_rfl, bmG ga⟩
  | .bool x, b, ga, gb => ⟨.tuple [.str "BadMark", .bool x, .bool true, .bool false], by cases look <;> kernel_rfl, by kernel_rfl, bmG ga⟩
  | .str x, b, ga, gb => ⟨.tuple [.str "BadMark", .str x, .bool true, .bool false], by cases look <;> kernel_rfl, by kernel_rfl, bmG ga⟩
  | .list x, b, ga, gb => ⟨.tuple [.str "BadMark", .list x, .bool true, .bool false], by cases look <;> kernel_rfl, by kernel_rfl, bmG ga⟩
  | .tuple x, b, ga, gb => ⟨.tuple [.str "BadMark", .tuple x, .bool true, .bool false], by cases look <;> kernel_rfl, by kernel_rfl, bmG ga⟩
  | .dict x, b, ga, gb => ⟨.tuple [.str "BadMark", .dict x, .bool true, .bool false], by cases look <;> kernel_rfl, by kernel_rfl, bmG ga⟩
  | .int (.negSucc x), b, ga, gb => ⟨.tuple [.str "BadMark", .int (.negSucc x), .bool true, .bool false], by cases look <;> kernel_rfl, by kernel_rfl, bmG ga⟩
  | .int (.ofNat (x + 4)), b, ga, gb => ⟨.tuple [.str "BadMark", .int (.ofNat (x + 4)), .bool true, .bool false], by cases look <;> kernel_rfl, by kernel_rfl, bmG ga⟩
  | .int (.ofNat 0), b, ga, gb => ⟨.tuple [.str "BadMark", .int (.ofNat 0), .bool true, .bool false], by cases look <;> kernel_rfl, by kernel_rfl, bmG ga⟩
  | .int (.ofNat 1), b, ga, gb => ⟨.tuple [.str "returned", .int 1], by cases look <;> kernel_rfl, by kernel_rfl, good_b (by decide +kernel)⟩
  | .int (.ofNat 2), b, ga, gb => ⟨.tuple [.str "returned", .int 3], by cases look <;> kernel_rfl, by kernel_rfl, good_b (by decide +kernel)⟩
  | .int (.ofNat 3), b, ga, gb => ⟨.tuple [.str "returned", .int 2], by cases look <;> kernel_rfl, by kernel_rfl, good_b (by decide +kernel)⟩
theorem cd_four_4 (S : Sto) (look : Bool) : ∀ a b : PyData, GD a → GD b → CD 4 look (.str "four") a b S
  | a, b, ga, gb => ⟨.tuple [.str "returned", .int 4], by cases look <;> kernel_rfl, by kernel_rfl, good_b (by decide +kernel)⟩
theorem cd_four_5 (S : Sto) (look : Bool) : ∀ a b : PyData, GD a → GD b → CD 5 look (.str "four") a b S
  | a, b, ga, gb => ⟨.tuple [.str "returned", .tuple [.int 1, .int 2, .int 3]], by cases look <;> kernel_rfl, by kernel_rfl, good_b (by decide +kernel)⟩
end K08

end
section
set_option maxRecDepth 100000
set_option maxHeartbeats 0
namespace K08
open PySem PySem.Spec L2 Mr
open PyProof.Rows hiding St
theorem cd_ring_0 (S : Sto) (look : Bool) : ∀ a b : PyData, GD a → GD b → CD 0 look (.str "ring") a b S
  | .none, b, ga, gb => ⟨.tuple [.str "BadMark", .none, .bool true, .bool false], by cases look <;> kernel_rfl, by kernel_rfl, bmG ga⟩
  | .bool x, b, ga, gb => ⟨.tuple [.str "BadMark", .bool x, .bool true, .bool false], by cases look <;> kernel_rfl, by kernel_rfl, bmG ga⟩
  | .str x, b, ga, gb => ⟨.tuple [.str "BadMark", .str x, .bool true, .bool false], by cases look <;> kernel_rfl, by kernel_rfl, bmG ga⟩
  | .list x, b, ga, gb => ⟨.tuple [.str "BadMark", .list x, .bool true, .bool false], by cases look <;> kernel_rfl, by kernel_rfl, bmG ga⟩
  | .tuple x, b, ga, gb => ⟨.tuple [.str "BadMark", .tuple x, .bool true, .bool false], by cases look <;> kernel_rfl, by kernel_rfl, bmG ga⟩
  | .dict x, b, ga, gb => ⟨.tuple [.str "BadMark", .dict x, .bool true, .bool false], by cases look <;> kernel_rfl, by kernel_rfl, bmG ga⟩
  | .int (.negSucc x), b, ga, gb => ⟨.tuple [.str "BadMark", .int (.negSucc x), .bool true, .bool false], by cases look <;> kernel_rfl, by kernel_rfl, bmG ga⟩
  | .int (.ofNat (x + 4)), b, ga, gb => ⟨.tuple [.str "BadMark", .int (.ofNat (x + 4)), .bool true, .bool false], by cases look <;> kernel_rfl, by kernel_rfl, bmG ga⟩
  | .int (.ofNat 0), .none, ga, gb => ⟨.tuple [.str "BadMark", .none, .bool true, .bool false], by cases look <;> kernel_rfl, by kernel_rfl, bmG gb⟩
  | .int (.ofNat 0), .bool x, ga, gb => ⟨.tuple [.str "BadMark", .bool x, .bool true, .bool false], by cases look <;> kernel_rfl, by kernel_rfl, bmG gb⟩
  | .int (.ofNat 0), .str x, ga, gb => ⟨.tuple [.str "BadMark", .str x, .bool true, .bool false], by cases look <;> kernel_rfl, by kernel_rfl, bmG gb⟩
  | .int (.ofNat 0), .list x, ga, gb => ⟨.tuple [.str "BadMark", .list x, .bool true, .bool false], by cases look <;> kernel_rfl, by kernel_rfl, bmG gb⟩
  | .int (.ofNat 0), .tuple x, ga, gb => ⟨.tuple [.str "BadMark", .tuple x, .bool true, .bool false], by cases look <;> kernel_rfl, by kernel_rfl, bmG gb⟩
  | .int (.ofNat 0), .dict x, ga, gb => ⟨.tuple [.str "BadMark", .dict x, .bool true, .bool false], by cases look <;> kernel_rfl, by kernel_rfl, bmG gb⟩
  | .int (.ofNat 0), .int (.negSucc x), ga, gb => ⟨.tuple [.str "BadMark", .int (.negSucc x), .bool true, .bool false], by cases look <;> kernel_rfl, by kernel_rfl, bmG gb⟩
  | .int (.ofNat 0), .int (.ofNat (x + 4)), ga, gb => ⟨.tuple [.str "BadMark", .int (.ofNat (x + 4)), .bool true, .bool false], by cases look <;> kernel_rfl, by kernel_rfl, bmG gb⟩
  | .int (.ofNat 0), .int (.ofNat 0), ga, gb => ⟨.tuple [.str "returned", .int 0], by cases look <;> kernel_rfl, by kernel_rfl, good_b (by decide +kernel)⟩
  | .int (.ofNat 0), .int (.ofNat 1), ga, gb => ⟨.tuple [.str "returned", .int 1], by cases look <;> kernel_rfl, by kernel_rfl, good_b (by decide +kernel)⟩
  | .int (.ofNat 0), .int (.ofNat 2), ga, gb => ⟨.tuple [.str "returned", .int 2], by cases look <;> kernel_rfl, by kernel_rfl, good_b (by decide +kernel)⟩
  | .int (.ofNat 0), .int (.ofNat 3), ga, gb => ⟨.tuple [.str "returned", .int 3], by cases look <;> kernel_rfl, by kernel_rfl, good_b (by decide +kernel)⟩
  | .int (.ofNat 1), .none, ga, gb => ⟨.tuple [.str "BadMark", .none, .bool true, .bool false], by cases look <;> kernel_rfl, by kernel_rfl, bmG gb⟩
  | .int (.ofNat 1), .bool x, ga, gb => ⟨.tuple [.str "BadMark", .bool x, .bool true, .bool false], by cases look <;> kernel_rfl, by kernel_rfl, bmG gb⟩
  | .int (.ofNat 1), .str x, ga, gb => ⟨.tuple [.str "BadMark", .str x, .bool true, .bool false], by cases look <;> kernel_rfl, by kernel_rfl, bmG gb⟩
  | .int (.ofNat 1), .list x, ga, gb => ⟨.tuple [.str "BadMark", .list x, .bool true, .bool false], by cases look <;> kernel_rfl, by kernel_rfl, bmG gb⟩
  | .int (.ofNat 1), .tuple x, ga, gb => ⟨.tuple [.str "BadMark", .tuple x, .bool true, .bool false], by cases look <;> kernel_rfl, by kernel_rfl, bmG gb⟩
  | .int (.ofNat 1), .dict x, ga, gb => ⟨.tuple [.str "BadMark", .dict x, .bool true, .bool false], by cases look <;> kernel_rfl, by kernel_rfl, bmG gb⟩
  | .int (.ofNat 1), .int (.negSucc x), ga, gb => ⟨.tuple [.str "BadMark", .int (.negSucc x), .bool true, .bool false], by cases look <;> kernel_rfl, by kernel_rfl, bmG gb⟩
  | .int (.ofNat 1), .int (.ofNat (x + 4)), ga, gb => ⟨.tuple [.str "BadMark", .int (.ofNat (x + 4)), .bool true, .bool false], by cases look <;> kernel_rfl, by kernel_rfl, bmG gb⟩
  | .int (.ofNat 1), .int (.ofNat 0), ga, gb => ⟨.tuple [.str "returned", .int 1], by cases look <;> kernel_rfl, by kernel_rfl, good_b (by decide +kernel)⟩
  | .int (.ofNat 1), .int (.ofNat 1), ga, gb => ⟨.tuple [.str "returned", .int 2], by cases look <;> kernel_rfl, by kernel_rfl, good_b (by decide +kernel)⟩
  | .int (.ofNat 1), .int (.ofNat 2), ga, gb => ⟨.tuple [.str "returned", .int 3], by cases look <;> kernel_rfl, by kernel_rfl, good_b (by decide +kernel)⟩
  | .int (.ofNat 1), .int (.ofNat 3), ga, gb => ⟨.tuple [.str "returned", .int 0], by cases look <;> kernel_rfl, by kernel_rfl, good_b (by decide +kernel)⟩
  | .int (.ofNat 2), .none, ga, gb => ⟨.tuple [.str "BadMark", .none, .bool true, .bool false], by cases look <;> kernel_rfl, by kernel_rfl, bmG gb⟩
  | .int (.ofNat 2), .bool x, ga, gb => ⟨.tuple [.str "BadMark", .bool x, .bool true, .bool false], by cases look <;> kernel_rfl, by kernel_rfl, bmG gb⟩
  | .int (.ofNat 2), .str x, ga, gb => ⟨.tuple [.str "BadMark", .str x, .bool true, .bool false], by cases look <;> kernel_rfl, by kernel_rfl, bmG gb⟩
  | .int (.ofNat 2), .list x, ga, gb => ⟨.tuple [.str "BadMark", .list x, .bool true, .bool false], by cases look <;> kernel_rfl, by kernel_rfl, bmG gb⟩
  | .int (.ofNat 2), .tuple x, ga, gb => ⟨.tuple [.str "BadMark", .tuple x, .bool true, .bool false], by cases look <;> kernel_rfl, by kernel_rfl, bmG gb⟩
  | .int (.ofNat 2), .dict x, ga, gb => ⟨.tuple [.str "BadMark", .dict x, .bool true, .bool false], by cases look <;> kernel_rfl, by kernel_rfl, bmG gb⟩
  | .int (.ofNat 2), .int (.negSucc x), ga, gb => ⟨.tuple [.str "BadMark", .int (.negSucc x), .bool true, .bool false], by cases look <;> kernel_rfl, by kernel_rfl, bmG gb⟩
  | .int (.ofNat 2), .int (.ofNat (x + 4)), ga, gb => ⟨.tuple [.str "BadMark", .int (.ofNat (x + 4)), .bool true, .bool false], by cases look <;> kernel_rfl, by kernel_rfl, bmG gb⟩
  | .int (.ofNat 2), .int (.ofNat 0), ga, gb => ⟨.tuple [.str "returned", .int 2], by cases look <;> kernel_rfl, by kernel_rfl, good_b (by decide +kernel)⟩
  | .int (.ofNat 2), .int (.ofNat 1), ga, gb => ⟨.tuple [.str "returned", .int 3], by cases look <;> kernel_rfl, by kernel_rfl, good_b (by decide +kernel)⟩
  | .int (.ofNat 2), .int (.ofNat 2), ga, gb => ⟨.tuple [.str "returned", .int 0], by cases look <;> kernel_rfl, by kernel_rfl, good_b (by decide +kernel)⟩
  | .int (.ofNat 2), .int (.ofNat 3), ga, gb => ⟨.tuple [.str "returned", .int 1], by cases look <;> kernel_rfl, by kernel_rfl, good_b (by decide +kernel)⟩
  | .int (.ofNat 3), .none, ga, gb => ⟨.tuple [.str "BadMark", .none, .bool true, .bool false], by cases look <;> kernel_rfl, by kernel_rfl, bmG gb⟩
  | .int (.ofNat 3), .bool x, ga, gb => ⟨.tuple [.str "BadMark", .bool x, .bool true, .bool false], by cases look <;> kernel_rfl, by kernel_rfl, bmG gb⟩
  | .int (.ofNat 3), .str x, ga, gb => ⟨.tuple [.str "BadMark", .str x, .bool true, .bool false], by cases look <;> kernel_rfl, by kernel_rfl, bmG gb⟩
  | .int (.ofNat 3), .list x, ga, gb => ⟨.tuple [.str "BadMark", .list x, .bool true, .bool false], by cases look <;> kernel_rfl, by kernel_rfl, bmG gb⟩
  | .int (.ofNat 3), .tuple x, ga, gb => ⟨.tuple [.str "BadMark", .tuple x, .bool true, .bool false], by cases look <;> kernel_rfl, by kernel_rfl, bmG gb⟩
  | .int (.ofNat 3), .dict x, ga, gb => ⟨.tuple [.str "BadMark", .dict x, .bool true, .bool false], by cases look <;> kernel_rfl, by kernel_rfl, bmG gb⟩
  | .int (.ofNat 3), .int (.negSucc x), ga, gb => ⟨.tuple [.str "BadMark", .int (.negSucc x), .bool true, .bool false], by cases look <;> kernel_rfl, by kernel_rfl, bmG gb⟩
  | .int (.ofNat 3), .int (.ofNat (x + 4)), ga, gb => ⟨.tuple [.str "BadMark", .int (.ofNat (x + 4)), .bool true, .bool false], by cases look <;> kernel_rfl, by kernel_rfl, bmG gb⟩
  | .int (.ofNat 3), .int (.ofNat 0), ga, gb => ⟨.tuple [.str "returned", .int 3], by cases look <;> kernel_rfl, by kernel_rfl, good_b (by decide +kernel)⟩
  | .int (.ofNat 3), .int (.ofNat 1), ga, gb => ⟨.tuple [.str "returned", .int 0], by cases look <;> kernel_rfl, by kernel_rfl, good_b (by decide +kernel)⟩
  | .int (.ofNat 3), .int (.ofNat 2), ga, gb => ⟨.tuple [.str "returned", .int 1], by cases look <;> kernel_rfl, by kernel_rfl, good_b (by decide +kernel)⟩
  | .int (.ofNat 3), .int (.ofNat 3), ga, gb => ⟨.tuple [.str "returned", .int 2], by cases look <;> kernel_rfl, by kernel_rfl, good_b (by decide +kernel)⟩
theorem cd_ring_1 (S : Sto) (look : Bool) : ∀ a b : PyData, GD a → GD b → CD 1 look (.str "ring") a b S
  | .none, b, ga, gb => ⟨.tuple [.str "BadMark", .none, .bool true, .bool false], by cases look <;> kernel_rfl, by kernel_rfl, bmG ga⟩
  | .bool x, b, ga, gb => ⟨.tuple [.str "BadMark", .bool x, .bool true, .bool false], by cases look <;> kernel_rfl, by kernel_rfl, bmG ga⟩
  | .str x, b, ga, gb => ⟨.tuple [.str "BadMark", .str x, .bool true, .bool false], by cases look <;> kernel_rfl, by kernel_rfl, bmG ga⟩
  | .list x, b, ga, gb => ⟨.tuple [.str "BadMark", .list x, .bool true, .bool false], by cases look <;> kernel_rfl, by kernel_rfl, bmG ga⟩
  | .tuple x, b, ga, gb => ⟨.tuple [.str "BadMark", .tuple x, .bool true, .bool false], by cases look <;> kernel_rfl, by kernel_rfl, bmG ga⟩
  | .dict x, b, ga, gb => ⟨.tuple [.str "BadMark", .dict x, .bool true, .bool false], by cases look <;> kernel_rfl, by kernel_rfl, bmG ga⟩
  | .int (.negSucc x), b, ga, gb => ⟨.tuple [.str "BadMark", .int (.negSucc x), .bool true, .bool false], by cases look <;> kernel_rfl, by kernel_rfl, bmG ga⟩
  | .int (.ofNat (x + 4)), b, ga, gb => ⟨.tuple [.str "BadMark", .int (.ofNat (x + 4)), .bool true, .bool false], by cases look <;> kernel_rfl, by kernel_rfl, bmG ga⟩
  | .int (.ofNat 0), .none, ga, gb => ⟨.tuple [.str "BadMark", .none, .bool true, .bool false], by cases look <;> kernel_rfl, by kernel_rfl, bmG gb⟩
  | .int (.ofNat 0), .bool x, ga, gb => ⟨.tuple [.str "BadMark", .bool x, .bool true, .bool false], by cases look <;> kernel_rfl, by kernel_rfl, bmG gb⟩
  | .int (.ofNat 0), .str x, ga, gb => ⟨.tuple [.str "BadMark", .str x, .bool true, .bool false], by cases look <;> kernel_rfl, by kernel_rfl, bmG gb⟩
  | .int (.ofNat 0), .list x, ga, gb => ⟨.tuple [.str "BadMark", .list x, .bool true, .bool false], by cases look <;> kernel_rfl, by kernel_rfl, bmG gb⟩
  | .int (.ofNat 0), .tuple x, ga, gb => ⟨.tuple [.str "BadMark", .tuple x, .bool true, .bool false], by cases look <;> kernel_rfl, by kernel_rfl, bmG gb⟩
  | .int (.ofNat 0), .dict x, ga, gb => ⟨.tuple [.str "BadMark", .dict x, .bool true, .bool false], by cases look <;> kernel_rfl, by kernel_rfl, bmG gb⟩
  | .int (.ofNat 0), .int (.negSucc x), ga, gb => ⟨.tuple [.str "BadMark", .int (.negSucc x), .bool true, .bool false], by cases look <;> kernel_rfl, by kernel_rfl, bmG gb⟩
  | .int (.ofNat 0), .int (.ofNat (x + 4)), ga, gb => ⟨.tuple [.str "BadMark", .int (.ofNat (x + 4)), .bool true, .bool false], by cases look <;> kernel_rfl, by kernel_rfl, bmG gb⟩
  | .int (.ofNat 0), .int (.ofNat 0), ga, gb => ⟨.tuple [.str "returned", .int 0], by cases look <;> kernel_rfl, by kernel_rfl, good_b (by decide +kernel)⟩
  | .int (.ofNat 0), .int (.ofNat 1), ga, gb => ⟨.tuple [.str "returned", .int 0], by cases look <;> kernel_rfl, by kernel_rfl, good_b (by decide +kernel)⟩
  | .int (.ofNat 0), .int (.ofNat 2), ga, gb => ⟨.tuple [.str "returned", .int 0], by cases look <;> kernel_rfl, by kernel_rfl, good_b (by decide +kernel)⟩
  | .int (.ofNat 0), .int (.ofNat 3), ga, gb => ⟨.tuple [.str "returned", .int 0], by cases look <;> kernel_rfl, by kernel_rfl, good_b (by decide +kernel)⟩
  | .int (.ofNat 1), .none, ga, gb => ⟨.tuple [.str "BadMark", .none, .bool true, .bool false], by cases look <;> kernel_rfl, by kernel_rfl, bmG gb⟩
  | .int (.ofNat 1), .bool x, ga, gb => ⟨.tuple [.str "BadMark", .bool x, .bool true, .bool false], by cases look <;> kernel_rfl, by kernel_rfl, bmG gb⟩
  | .int (.ofNat 1), .str x, ga, gb => ⟨.tuple [.str "BadMark", .str x, .bool true, .bool false], by cases look <;> kernel_rfl, by kernel_rfl, bmG gb⟩
  | .int (.ofNat 1), .list x, ga, gb => ⟨.tuple [.str "BadMark", .list x, .bool true, .bool false], by cases look <;> kernel_rfl, by kernel_rfl, bmG gb⟩
  | .int (.ofNat 1), .tuple x, ga, gb => ⟨.tuple [.str "BadMark", .tuple x, .bool true, .bool false], by cases look <;> kernel_rfl, by kernel_rfl, bmG gb⟩
  | .int (.ofNat 1), .dict x, ga, gb => ⟨.tuple [.str "BadMark", .dict x, .bool true, .bool false], by cases look <;> kernel_rfl, by kernel_rfl, bmG gb⟩
  | .int (.ofNat 1), .int (.negSucc x), ga, gb => ⟨.tuple [.str "BadMark", .int (.negSucc x), .bool true, .bool false], by cases look <;> kernel_rfl, by kernel_rfl, bmG gb⟩
  | .int (.ofNat 1), .int (.ofNat (x + 4)), ga, gb => ⟨.tuple [.str "BadMark", .int (.ofNat (x + 4)), .bool true, .bool false], by cases look <;> kernel_rfl, by kernel_rfl, bmG gb⟩
  | .int (.ofNat 1), .int (.ofNat 0), ga, gb => ⟨.tuple [.str "returned", .int 0], by cases look <;> kernel_rfl, by kernel_rfl, good_b (by decide +kernel)⟩
  | .int (.ofNat 1), .int (.ofNat 1), ga, gb => ⟨.tuple [.str "returned", .int 1], by cases look <;> kernel_rfl, by kernel_rfl, good_b (by decide +kernel)⟩
  | .int (.ofNat 1), .int (.ofNat 2), ga, gb => ⟨.tuple [.str "returned", .int 2], by cases look <;> kernel_rfl, by kernel_rfl, good_b (by decide +kernel)⟩
  | .int (.ofNat 1), .int (.ofNat 3), ga, gb => ⟨.tuple [.str "returned", .int 3], by cases look <;> kernel_rfl, by kernel_rfl, good_b (by decide +kernel)⟩
  | .int (.ofNat 2), .none, ga, gb => ⟨.tuple [.str "BadMark", .none, .bool true, .bool false], by cases look <;> kernel_rfl, by kernel_rfl, bmG gb⟩
  | .int (.ofNat 2), .bool x, ga, gb => ⟨.tuple [.str "BadMark", .bool x, .bool true, .bool false], by cases look <;> kernel_rfl, by kernel_rfl, bmG gb⟩
  | .int (.ofNat 2), .str x, ga, gb => ⟨.tuple [.str "BadMark", .str x, .bool true, .bool false], by cases look <;> kernel_rfl, by kernel_rfl, bmG gb⟩
  | .int (.ofNat 2), .list x, ga, gb => ⟨.tuple [.str "BadMark", .list x, .bool true, .bool false], by cases look <;> kernel_rfl, by kernel_rfl, bmG gb⟩
  | .int (.ofNat 2), .tuple x, ga, gb => ⟨.tuple [.str "BadMark", .tuple x, .bool true, .bool false], by cases look <;> kernel_rfl, by kernel_rfl, bmG gb⟩
  | .int (.ofNat 2), .dict x, ga, gb => ⟨.tuple [.str "BadMark", .dict x, .bool true, .bool false], by cases look <;> kernel_rfl, by kernel_rfl, bmG gb⟩
  | .int (.ofNat 2), .int (.negSucc x), ga, gb => ⟨.tuple [.str "BadMark", .int (.negSucc x), .bool true, .bool false], by cases look <;> kernel_rfl, by kernel_rfl, bmG gb⟩
  | .int (.ofNat 2), .int (.ofNat (x + 4)), ga, gb => ⟨.tuple [.str "BadMark", .int (.ofNat (x + 4)), .bool true, .bool false], by cases look <;> kernel_rfl, by kernel_rfl, bmG gb⟩
  | .int (.ofNat 2), .int (.ofNat 0), ga, gb => ⟨.tuple [.str "returned", .int 0], by cases look <;> kernel_rfl, by kernel_rfl, good_b (by decide +kernel)⟩
  | .int (.ofNat 2), .int (.ofNat 1), ga, gb => ⟨.tuple [.str "returned", .int 2], by cases look <;> kernel_rfl, by kernel_rfl, good_b (by decide +kernel)⟩
  | .int (.ofNat 2), .int (.ofNat 2), ga, gb => ⟨.tuple [.str "returned", .int 0], by cases look <;> kernel_rfl, by kernel_rfl, good_b (by decide +kernel)⟩
  | .int (.ofNat 2), .int (.ofNat 3), ga, gb => ⟨.tuple [.str "returned", .int 2], by cases look <;> kernel_rfl, by kernel_rfl, good_b (by decide +kernel)⟩
  | .int (.ofNat 3), .none, ga, gb => ⟨.tuple [.str "BadMark", .none, .bool true, .bool false], by cases look <;> kernel_rfl, by kernel_rfl, bmG gb⟩
  | .int (.ofNat 3), .bool x, ga, gb => ⟨.tuple [.str "BadMark", .bool x, .bool true, .bool false], by cases look <;> kernel_rfl, by kernel_rfl, bmG gb⟩
  | .int (.ofNat 3), .str x, ga, gb => ⟨.tuple [.str "BadMark", .str x, .bool true, .bool false], by cases look <;> kernel_rfl, by kernel_rfl, bmG gb⟩
  | .int (.ofNat 3), .list x, ga, gb => ⟨.tuple [.str "BadMark", .list x, .bool true, .bool false], by cases look <;> kernel_rfl, by kernel_rfl, bmG gb⟩
  | .int (.ofNat 3), .tuple x, ga, gb => ⟨.tuple [.str "BadMark", .tuple x, .bool true, .bool false], by cases look <;> kernel_rfl, by kernel_rfl, bmG gb⟩
  | .int (.ofNat 3), .dict x, ga, gb => ⟨.tuple [.str "BadMark", .dict x, .bool true, .bool false], by cases look <;> kernel_rfl, by kernel_rfl, bmG gb⟩
  | .int (.ofNat 3), .int (.negSucc x), ga, gb => ⟨.tuple [.str "BadMark", .int (.negSucc x), .bool true, .bool false], by cases look <;> kernel_rfl, by kernel_rfl, bmG gb⟩
  | .int (.ofNat 3), .int (.ofNat (x + 4)), ga, gb => ⟨.tuple [.str "BadMark", .int (.ofNat (x + 4)), .bool true, .bool false], by cases look <;> kernel_rfl, by kernel_rfl, bmG gb⟩
  | .int (.ofNat 3), .int (.ofNat 0), ga, gb => ⟨.tuple [.str "returned", .int 0], by cases look <;> kernel_rfl, by kernel_rfl, good_b (by decide +kernel)⟩
  | .int (.ofNat 3), .int (.ofNat 1), ga, gb => ⟨.tuple [.str "returned", .int 3], by cases look <;> kernel_rfl, by kernel_rfl, good_b (by decide +kernel)⟩
  | .int (.ofNat 3), .int (.ofNat 2), ga, gb => ⟨.tuple [.str "returned", .int 2], by cases look <;> kernel_rfl, by kernel_rfl, good_b (by decide +kernel)⟩
  | .int (.ofNat 3), .int (.ofNat 3), ga, gb => ⟨.tuple [.str "returned", .int 1], by cases look <;> kernel_rfl, by kernel_rfl, good_b (by decide +kernel)⟩
theorem cd_ring_2 (S : Sto) (look : Bool) : ∀ a b : PyData, GD a → GD b → CD 2 look (.str "ring") a b S
  | .none, b, ga, gb => ⟨.tuple [.str "BadMark", .none, .bool true, .bool false], by cases look <;> kernel_rfl, by kernel_rfl, bmG ga⟩
  | .bool x, b, ga, gb => ⟨.tuple [.str "BadMark", .bool x, .bool true, .bool false], by cases look <;> kernel_rfl, by kernel_rfl, bmG ga⟩
  | .str x, b, ga, gb => ⟨.tuple [.str "BadMark", .str x, .bool true, .bool false], by cases look <;> kernel_rfl, by kernel_rfl, bmG ga⟩
  | .list x, b, ga, gb => ⟨.tuple [.str "BadMark", .list x, .bool true, .bool false], by cases look <;> kernel_rfl, by kernel_rfl, bmG ga⟩
  | .tuple x, b, ga, gb => ⟨.tuple [.str "BadMark", .tuple x, .bool true, .bool false], by cases look <;> kernel_rfl, by kernel_rfl, bmG ga⟩
  | .dict x, b, ga, gb => ⟨.tuple [.str "BadMark", .dict x, .bool true, .bool false], by cases look <;> kernel_rfl, by kernel_rfl, bmG ga⟩
  | .int (.negSucc x), b, ga, gb => ⟨.tuple [.str "BadMark", .int (.negSucc x), .bool true, .bool false], by cases look <;> kernel_rfl, by kernel_rfl, bmG ga⟩
  | .int (.ofNat (x + 4)), b, ga, gb => ⟨.tuple [.str "BadMark", .int (.ofNat (x + 4)), .bool true, .bool false], by cases look <;> kernel_rfl, by kernel_rfl, bmG ga⟩
  | .int (.ofNat 0), b, ga, gb => ⟨.tuple [.str "returned", .int 0], by cases look <;> kernel_rfl, by kernel_rfl, good_b (by decide +kernel)⟩
  | .int (.ofNat 1), b, ga, gb => ⟨.tuple [.str "returned", .int 1], by cases look <;> kernel_rfl, by kernel_rfl, good_b (by decide +kernel)⟩
  | .int (.ofNat 2), b, ga, gb => ⟨.tuple [.str "returned", .int 2], by cases look <;> kernel_rfl, by kernel_rfl, good_b (by decide +kernel)⟩
  | .int (.ofNat 3), b, ga, gb => ⟨.tuple [.str "returned", .int 3], by cases look <;> kernel_rfl, by kernel_rfl, good_b (by decide +kernel)⟩
theorem cd_ring_3 (S : Sto) (look : Bool) : ∀ a b : PyData, GD a → GD b → CD 3 look (.str "ring") a b S
  | .none, b, ga, gb => ⟨.tuple [.str "BadMark", .none, .bool true, .bool false], by cases look <;> kernel_rfl, by kernel_rfl, bmG ga⟩
  | .bool x, b, ga, gb => ⟨.tuple [.str "BadMark", .bool x, .bool true, .bool false], by cases look <;> kernel_rfl, by kernel_rfl, bmG ga⟩
  | .str x, b, ga, gb => ⟨.tuple [.str "BadMark", .str x, .bool true, .bool false], by cases look <;> kernel_rfl, by kernel_rfl, bmG ga⟩
  | .list x, b, ga, gb => ⟨.tuple [.str "BadMark", .list x, .bool true, .bool false], by cases look <;> kernel_rfl, by kernel_rfl, bmG ga⟩
  | .tuple x, b, ga, gb => ⟨.tuple [.str "BadMark", .tuple x, .bool true, .bool false], by cases look <;> kernel_rfl, by kernel_rfl, bmG ga⟩
  | .dict x, b, ga, gb => ⟨.tuple [.str "BadMark", .dict x, .bool true, .bool false], by cases look <;> kernel_rfl, by kernel_rfl, bmG ga⟩
  | .int (.negSucc x), b, ga, gb => ⟨.tuple [.str "BadMark", .int (.negSucc x), .bool true, .bool false], by cases look <;> kernel_rfl, by kernel_rfl, bmG ga⟩
  | .int (.ofNat (x + 4)), b, ga, gb => ⟨.tuple [.str "BadMark", .int (.ofNat (x + 4)), .bool true, .bool false], by cases look <;> kernel_rfl, by kernel_rfl, bmG ga⟩
  | .int (.ofNat 0), b, ga, gb => ⟨.tuple [.str "BadMark", .int (.ofNat 0), .bool true, .bool false], by cases look <;> kernel_rfl, by kernel_rfl, bmG ga⟩
  | .int (.ofNat 1), b, ga, gb => ⟨.tuple [.str "returned", .int 1], by cases look <;> kernel_rfl, by kernel_rfl, good_b (by decide +kernel)⟩
  | .int (.ofNat 2), b, ga, gb => ⟨.tuple [.str "BadMark", .int (.ofNat 2), .bool true, .bool false], by cases look <;> kernel_rfl, by kernel_rfl, bmG ga⟩
  | .int (.ofNat 3), b, ga, gb => ⟨.tuple [.str "returned", .int 3], by cases look <;> kernel_rfl, by kernel_rfl, good_b (by decide +kernel)⟩
theorem cd_ring_4 (S : Sto) (look : Bool) : ∀ a b : PyData, GD a → GD b → CD 4 look (.str "ring") a b S
  | a, b, ga, gb => ⟨.tuple [.str "returned", .int 4], by cases look <;> kernel_rfl, by kernel_rfl, good_b (by decide +kernel)⟩
theorem cd_ring_5 (S : Sto) (look : Bool) : ∀ a b : PyData, GD a → GD b → CD 5 look (.str "ring") a b S
  | a, b, ga, gb => ⟨.tuple [.str "returned", .tuple [.int 1, .int 3]], by cases look <;> kernel_rfl, by kernel_rfl, good_b (by decide +kernel)⟩
end K08

end
section
set_option maxRecDepth 100000
set_option maxHeartbeats 0
namespace K08
open PySem PySem.Spec L2 Mr
open PyProof.Rows hiding St
theorem seq_rz {a b : Env1 → Sto → Out} {e e2 : Env1} {S S2 : Sto} {c : Nat} {x : Option (Str × PyData)} (h : a e S = .rz c x e2 S2) : sSeq a b e S = .rz c x e2 S2 := by
  unfold sSeq
  rw [h]
  rfl
theorem expr_rz {f : Env1 → Sto → R M} {e : Env1} {S S2 : Sto} {c : Nat} {x : Option (Str × PyData)} (h : f e S = .rz c x S2) : sExpr f e S = .rz c x e S2 := by
  unfold sExpr
  rw [h]
  rfl
theorem ck_call {f : List M → Sto → R M} {perm : List Nat} {fs : Env1 → Sto → R (List M)} {e : Env1} {S S1 : Sto} {ms : List M} (h : fs e S = .ok ms S1) : eCallK perm f fs e S = f (permL (.d .none) perm ms) S1 := by
  unfold eCallK
  rw [h]
  rfl
theorem or_f {a b : Env1 → Sto → R Bool} {e : Env1} {S S2 : Sto} (h : a e S = .ok false S2) : tOrM a b e S = b e S2 := by
  unfold tOrM
  rw [h]
  rfl
def kindsD : List PyData := [.str "two", .str "three", .str "four", .str "ring"]
theorem isk {s : Str} (S : Sto) : f_is_kind [.d (.str s)] S = .ok (.d (.bool (kindsD.any fun z => PyData.eqv z (.str s)))) S := by kernel_rfl
theorem chk {s : Str} (h : (kindsD.any fun z => PyData.eqv z (.str s)) = false) (S : Sto) : f_check_kind [.d (.str s)] S = .rz 1 (some ("thing", .str s)) S := by
  unfold f_check_kind fnM
  show ansOf (m_check_kind [some (.d (.str s))] S) = _
  unfold m_check_kind
  have t : tNotM (Mr.tB (eCall f_is_kind (aC (eV 0) aN))) [some (.d (.str s))] S = .ok true S := by
    unfold tNotM Mr.tB
    rw [c_call (a_cons (v_at rfl) a_nil), isk, h]
    rfl
  rw [if_t t]
  rfl
theorem due_str {s : Str} (h : (kindsD.any fun z => PyData.eqv z (.str s)) = false) (w : Int) (a b : PyData) (S : Sto) : f__law_due [.d (.int w), .d (.str s), .d a, .d b] S = .ok (.d (.tuple [.str "BadKind", .str s, .bool true, .bool false])) S := by
  show ansOf (m__law_due [some (.d (.int w)), some (.d (.str s)), some (.d a), some (.d b), none, none, none, none, none] S) = _
  unfold m__law_due
  have t2 : opNotIn (.d (.str s)) (.d (.tuple kindsD)) S = some (.d (.bool true)) := by
    have e : opNotIn (.d (.str s)) (.d (.tuple kindsD)) S = some (.d (.bool (!(kindsD.any fun z => PyData.eqv z (.str s))))) := by kernel_rfl
    rw [e, h]
    rfl
  have t : tOrM (tNotM (Mr.tB (ePrim pIsi (aC (eV 1) (aC (eC (.ty "str")) aN))))) (Mr.tB (e2 opNotIn (eV 1) (eTup (aC (eC (.d (.str "two"))) (aC (eC (.d (.str "three"))) (aC (eC (.d (.str "four"))) (aC (eC (.d (.str "ring"))) aN)))))))
      [some (.d (.int w)), some (.d (.str s)), some (.d a), some (.d b), none, none, none, none, none] S = .ok true S := by
    have q1 : tNotM (Mr.tB (ePrim pIsi (aC (eV 1) (aC (eC (.ty "str")) aN)))) [some (.d (.int w)), some (.d (.str s)), some (.d a), some (.d b), none, none, none, none, none] S = .ok false S := by kernel_rfl
    rw [or_f q1]
    exact t_op (v_at rfl) (b := .d (.tuple kindsD)) (S2 := S) (by kernel_rfl) t2
  exact congrArg ansOf (seq_rt ((if_t t).trans (by kernel_rfl)))
theorem tr_bad {r : R M} {x : PyData} {S : Sto} (h : r = .rz 1 (some ("thing", x)) S) : trO r = .ok (.d (.tuple [.str "BadKind", x, .bool true, .bool false])) S := by
  rw [h]
  kernel_rfl
theorem bad_sum_of {k a b : PyData} {S : Sto} (h : f_check_kind [.d k] S = .rz 1 (some ("thing", k)) S) : f_sum_of [.d k, .d a, .d b] S = .rz 1 (some ("thing", k)) S := by
  show ansOf (m_sum_of [some (.d k), some (.d a), some (.d b)] S) = _
  unfold m_sum_of
  rw [seq_rz (expr_rz ((c_call (a_cons (v_at rfl) a_nil)).trans h))]
  rfl
theorem bad_product_of {k a b : PyData} {S : Sto} (h : f_check_kind [.d k] S = .rz 1 (some ("thing", k)) S) : f_product_of [.d k, .d a, .d b] S = .rz 1 (some ("thing", k)) S := by
  show ansOf (m_product_of [some (.d k), some (.d a), some (.d b)] S) = _
  unfold m_product_of
  rw [seq_rz (expr_rz ((c_call (a_cons (v_at rfl) a_nil)).trans h))]
  rfl
theorem bad_turned_mark {k a b : PyData} {S : Sto} (h : f_check_kind [.d k] S = .rz 1 (some ("thing", k)) S) : f_turned_mark [.d k, .d a] S = .rz 1 (some ("thing", k)) S := by
  show ansOf (m_turned_mark [some (.d k), some (.d a)] S) = _
  unfold m_turned_mark
  rw [seq_rz (expr_rz ((c_call (a_cons (v_at rfl) a_nil)).trans h))]
  rfl
theorem bad_inverse_of {k a b : PyData} {S : Sto} (h : f_check_kind [.d k] S = .rz 1 (some ("thing", k)) S) : f_inverse_of [.d k, .d a] S = .rz 1 (some ("thing", k)) S := by
  show ansOf (m_inverse_of [some (.d k), some (.d a)] S) = _
  unfold m_inverse_of
  rw [seq_rz (expr_rz ((c_call (a_cons (v_at rfl) a_nil)).trans h))]
  rfl
theorem bad_size_of {k a b : PyData} {S : Sto} (h : f_check_kind [.d k] S = .rz 1 (some ("thing", k)) S) : f_size_of [.d k] S = .rz 1 (some ("thing", k)) S := by
  show ansOf (m_size_of [some (.d k)] S) = _
  unfold m_size_of
  rw [seq_rz (expr_rz ((c_call (a_cons (v_at rfl) a_nil)).trans h))]
  rfl
theorem bad_units_of {k a b : PyData} {S : Sto} (h : f_check_kind [.d k] S = .rz 1 (some ("thing", k)) S) : f_units_of [.d k] S = .rz 1 (some ("thing", k)) S := by
  show ansOf (m_units_of [some (.d k)] S) = _
  unfold m_units_of
  rw [seq_rz (expr_rz ((c_call (a_cons (v_at rfl) a_nil)).trans h))]
  rfl
theorem cs_0_true {s : Str} (h : (kindsD.any fun z => PyData.eqv z (.str s)) = false) (a b : PyData) (S : Sto) : f__law_called [.d (.int 0), .d (.bool true), .d (.str s), .d a, .d b] S = .ok (.d (.tuple [.str "BadKind", .str s, .bool true, .bool false])) S := by
  show ansOf (m__law_called [some (.d (.int 0)), some (.d (.bool true)), some (.d (.str s)), some (.d a), some (.d b)] S) = _
  unfold m__law_called
  have hb := bad_sum_of (k := .str s) (a := a) (b := b) (chk h S)
  exact congrArg ansOf (seq_rt ((if_t (t := Mr.tB (e2 opEqU (eV 0) (eC (.d (.int 0))))) (S2 := S) (by kernel_rfl)).trans (ret_v (show eLam tr _ _ _ = _ from tr_bad ((eif_t (t := Mr.tB (eV 1)) rfl).trans ((c_call rfl).trans hb))))))
theorem cs_0_false {s : Str} (h : (kindsD.any fun z => PyData.eqv z (.str s)) = false) (a b : PyData) (S : Sto) : f__law_called [.d (.int 0), .d (.bool false), .d (.str s), .d a, .d b] S = .ok (.d (.tuple [.str "BadKind", .str s, .bool true, .bool false])) S := by
  show ansOf (m__law_called [some (.d (.int 0)), some (.d (.bool false)), some (.d (.str s)), some (.d a), some (.d b)] S) = _
  unfold m__law_called
  have hb := bad_sum_of (k := .str s) (a := a) (b := b) (chk h S)
  exact congrArg ansOf (seq_rt ((if_t (t := Mr.tB (e2 opEqU (eV 0) (eC (.d (.int 0))))) (S2 := S) (by kernel_rfl)).trans (ret_v (show eLam tr _ _ _ = _ from tr_bad ((eif_f (t := Mr.tB (eV 1)) rfl).trans ((ck_call rfl).trans hb))))))
theorem cs_1_true {s : Str} (h : (kindsD.any fun z => PyData.eqv z (.str s)) = false) (a b : PyData) (S : Sto) : f__law_called [.d (.int 1), .d (.bool true), .d (.str s), .d a, .d b] S = .ok (.d (.tuple [.str "BadKind", .str s, .bool true, .bool false])) S := by
  show ansOf (m__law_called [some (.d (.int 1)), some (.d (.bool true)), some (.d (.str s)), some (.d a), some (.d b)] S) = _
  unfold m__law_called
  have hb := bad_product_of (k := .str s) (a := a) (b := b) (chk h S)
  rw [seq_nx (if_fn (t := Mr.tB (e2 opEqU (eV 0) (eC (.d (.int 0))))) (S2 := S) (by kernel_rfl))]
  exact congrArg ansOf (seq_rt ((if_t (t := Mr.tB (e2 opEqU (eV 0) (eC (.d (.int 1))))) (S2 := S) (by kernel_rfl)).trans (ret_v (show eLam tr _ _ _ = _ from tr_bad ((eif_t (t := Mr.tB (eV 1)) rfl).trans ((c_call rfl).trans hb))))))
theorem cs_1_false {s : Str} (h : (kindsD.any fun z => PyData.eqv z (.str s)) = false) (a b : PyData) (S : Sto) : f__law_called [.d (.int 1), .d (.bool false), .d (.str s), .d a, .d b] S = .ok (.d (.tuple [.str "BadKind", .str s, .bool true, .bool false])) S := by
  show ansOf (m__law_called [some (.d (.int 1)), some (.d (.bool false)), some (.d (.str s)), some (.d a), some (.d b)] S) = _
  unfold m__law_called
  have hb := bad_product_of (k := .str s) (a := a) (b := b) (chk h S)
  rw [seq_nx (if_fn (t := Mr.tB (e2 opEqU (eV 0) (eC (.d (.int 0))))) (S2 := S) (by kernel_rfl))]
  exact congrArg ansOf (seq_rt ((if_t (t := Mr.tB (e2 opEqU (eV 0) (eC (.d (.int 1))))) (S2 := S) (by kernel_rfl)).trans (ret_v (show eLam tr _ _ _ = _ from tr_bad ((eif_f (t := Mr.tB (eV 1)) rfl).trans ((ck_call rfl).trans hb))))))
theorem cs_2_true {s : Str} (h : (kindsD.any fun z => PyData.eqv z (.str s)) = false) (a b : PyData) (S : Sto) : f__law_called [.d (.int 2), .d (.bool true), .d (.str s), .d a, .d b] S = .ok (.d (.tuple [.str "BadKind", .str s, .bool true, .bool false])) S := by
  show ansOf (m__law_called [some (.d (.int 2)), some (.d (.bool true)), some (.d (.str s)), some (.d a), some (.d b)] S) = _
  unfold m__law_called
  have hb := bad_turned_mark (k := .str s) (a := a) (b := b) (chk h S)
  rw [seq_nx (if_fn (t := Mr.tB (e2 opEqU (eV 0) (eC (.d (.int 0))))) (S2 := S) (by kernel_rfl))]
  rw [seq_nx (if_fn (t := Mr.tB (e2 opEqU (eV 0) (eC (.d (.int 1))))) (S2 := S) (by kernel_rfl))]
  exact congrArg ansOf (seq_rt ((if_t (t := Mr.tB (e2 opEqU (eV 0) (eC (.d (.int 2))))) (S2 := S) (by kernel_rfl)).trans (ret_v (show eLam tr _ _ _ = _ from tr_bad ((eif_t (t := Mr.tB (eV 1)) rfl).trans ((c_call rfl).trans hb))))))
theorem cs_2_false {s : Str} (h : (kindsD.any fun z => PyData.eqv z (.str s)) = false) (a b : PyData) (S : Sto) : f__law_called [.d (.int 2), .d (.bool false), .d (.str s), .d a, .d b] S = .ok (.d (.tuple [.str "BadKind", .str s, .bool true, .bool false])) S := by
  show ansOf (m__law_called [some (.d (.int 2)), some (.d (.bool false)), some (.d (.str s)), some (.d a), some (.d b)] S) = _
  unfold m__law_called
  have hb := bad_turned_mark (k := .str s) (a := a) (b := b) (chk h S)
  rw [seq_nx (if_fn (t := Mr.tB (e2 opEqU (eV 0) (eC (.d (.int 0))))) (S2 := S) (by kernel_rfl))]
  rw [seq_nx (if_fn (t := Mr.tB (e2 opEqU (eV 0) (eC (.d (.int 1))))) (S2 := S) (by kernel_rfl))]
  exact congrArg ansOf (seq_rt ((if_t (t := Mr.tB (e2 opEqU (eV 0) (eC (.d (.int 2))))) (S2 := S) (by kernel_rfl)).trans (ret_v (show eLam tr _ _ _ = _ from tr_bad ((eif_f (t := Mr.tB (eV 1)) rfl).trans ((ck_call rfl).trans hb))))))
theorem cs_3_true {s : Str} (h : (kindsD.any fun z => PyData.eqv z (.str s)) = false) (a b : PyData) (S : Sto) : f__law_called [.d (.int 3), .d (.bool true), .d (.str s), .d a, .d b] S = .ok (.d (.tuple [.str "BadKind", .str s, .bool true, .bool false])) S := by
  show ansOf (m__law_called [some (.d (.int 3)), some (.d (.bool true)), some (.d (.str s)), some (.d a), some (.d b)] S) = _
  unfold m__law_called
  have hb := bad_inverse_of (k := .str s) (a := a) (b := b) (chk h S)
  rw [seq_nx (if_fn (t := Mr.tB (e2 opEqU (eV 0) (eC (.d (.int 0))))) (S2 := S) (by kernel_rfl))]
  rw [seq_nx (if_fn (t := Mr.tB (e2 opEqU (eV 0) (eC (.d (.int 1))))) (S2 := S) (by kernel_rfl))]
  rw [seq_nx (if_fn (t := Mr.tB (e2 opEqU (eV 0) (eC (.d (.int 2))))) (S2 := S) (by kernel_rfl))]
  exact congrArg ansOf (seq_rt ((if_t (t := Mr.tB (e2 opEqU (eV 0) (eC (.d (.int 3))))) (S2 := S) (by kernel_rfl)).trans (ret_v (show eLam tr _ _ _ = _ from tr_bad ((eif_t (t := Mr.tB (eV 1)) rfl).trans ((c_call rfl).trans hb))))))
theorem cs_3_false {s : Str} (h : (kindsD.any fun z => PyData.eqv z (.str s)) = false) (a b : PyData) (S : Sto) : f__law_called [.d (.int 3), .d (.bool false), .d (.str s), .d a, .d b] S = .ok (.d (.tuple [.str "BadKind", .str s, .bool true, .bool false])) S := by
  show ansOf (m__law_called [some (.d (.int 3)), some (.d (.bool false)), some (.d (.str s)), some (.d a), some (.d b)] S) = _
  unfold m__law_called
  have hb := bad_inverse_of (k := .str s) (a := a) (b := b) (chk h S)
  rw [seq_nx (if_fn (t := Mr.tB (e2 opEqU (eV 0) (eC (.d (.int 0))))) (S2 := S) (by kernel_rfl))]
  rw [seq_nx (if_fn (t := Mr.tB (e2 opEqU (eV 0) (eC (.d (.int 1))))) (S2 := S) (by kernel_rfl))]
  rw [seq_nx (if_fn (t := Mr.tB (e2 opEqU (eV 0) (eC (.d (.int 2))))) (S2 := S) (by kernel_rfl))]
  exact congrArg ansOf (seq_rt ((if_t (t := Mr.tB (e2 opEqU (eV 0) (eC (.d (.int 3))))) (S2 := S) (by kernel_rfl)).trans (ret_v (show eLam tr _ _ _ = _ from tr_bad ((eif_f (t := Mr.tB (eV 1)) rfl).trans ((ck_call rfl).trans hb))))))
theorem cs_4_true {s : Str} (h : (kindsD.any fun z => PyData.eqv z (.str s)) = false) (a b : PyData) (S : Sto) : f__law_called [.d (.int 4), .d (.bool true), .d (.str s), .d a, .d b] S = .ok (.d (.tuple [.str "BadKind", .str s, .bool true, .bool false])) S := by
  show ansOf (m__law_called [some (.d (.int 4)), some (.d (.bool true)), some (.d (.str s)), some (.d a), some (.d b)] S) = _
  unfold m__law_called
  have hb := bad_size_of (k := .str s) (a := a) (b := b) (chk h S)
  rw [seq_nx (if_fn (t := Mr.tB (e2 opEqU (eV 0) (eC (.d (.int 0))))) (S2 := S) (by kernel_rfl))]
  rw [seq_nx (if_fn (t := Mr.tB (e2 opEqU (eV 0) (eC (.d (.int 1))))) (S2 := S) (by kernel_rfl))]
  rw [seq_nx (if_fn (t := Mr.tB (e2 opEqU (eV 0) (eC (.d (.int 2))))) (S2 := S) (by kernel_rfl))]
  rw [seq_nx (if_fn (t := Mr.tB (e2 opEqU (eV 0) (eC (.d (.int 3))))) (S2 := S) (by kernel_rfl))]
  exact congrArg ansOf (seq_rt ((if_t (t := Mr.tB (e2 opEqU (eV 0) (eC (.d (.int 4))))) (S2 := S) (by kernel_rfl)).trans (ret_v (show eLam tr _ _ _ = _ from tr_bad ((eif_t (t := Mr.tB (eV 1)) rfl).trans ((c_call rfl).trans hb))))))
theorem cs_4_false {s : Str} (h : (kindsD.any fun z => PyData.eqv z (.str s)) = false) (a b : PyData) (S : Sto) : f__law_called [.d (.int 4), .d (.bool false), .d (.str s), .d a, .d b] S = .ok (.d (.tuple [.str "BadKind", .str s, .bool true, .bool false])) S := by
  show ansOf (m__law_called [some (.d (.int 4)), some (.d (.bool false)), some (.d (.str s)), some (.d a), some (.d b)] S) = _
  unfold m__law_called
  have hb := bad_size_of (k := .str s) (a := a) (b := b) (chk h S)
  rw [seq_nx (if_fn (t := Mr.tB (e2 opEqU (eV 0) (eC (.d (.int 0))))) (S2 := S) (by kernel_rfl))]
  rw [seq_nx (if_fn (t := Mr.tB (e2 opEqU (eV 0) (eC (.d (.int 1))))) (S2 := S) (by kernel_rfl))]
  rw [seq_nx (if_fn (t := Mr.tB (e2 opEqU (eV 0) (eC (.d (.int 2))))) (S2 := S) (by kernel_rfl))]
  rw [seq_nx (if_fn (t := Mr.tB (e2 opEqU (eV 0) (eC (.d (.int 3))))) (S2 := S) (by kernel_rfl))]
  exact congrArg ansOf (seq_rt ((if_t (t := Mr.tB (e2 opEqU (eV 0) (eC (.d (.int 4))))) (S2 := S) (by kernel_rfl)).trans (ret_v (show eLam tr _ _ _ = _ from tr_bad ((eif_f (t := Mr.tB (eV 1)) rfl).trans ((ck_call rfl).trans hb))))))
theorem cs_5_true {s : Str} (h : (kindsD.any fun z => PyData.eqv z (.str s)) = false) (a b : PyData) (S : Sto) : f__law_called [.d (.int 5), .d (.bool true), .d (.str s), .d a, .d b] S = .ok (.d (.tuple [.str "BadKind", .str s, .bool true, .bool false])) S := by
  show ansOf (m__law_called [some (.d (.int 5)), some (.d (.bool true)), some (.d (.str s)), some (.d a), some (.d b)] S) = _
  unfold m__law_called
  have hb := bad_units_of (k := .str s) (a := a) (b := b) (chk h S)
  rw [seq_nx (if_fn (t := Mr.tB (e2 opEqU (eV 0) (eC (.d (.int 0))))) (S2 := S) (by kernel_rfl))]
  rw [seq_nx (if_fn (t := Mr.tB (e2 opEqU (eV 0) (eC (.d (.int 1))))) (S2 := S) (by kernel_rfl))]
  rw [seq_nx (if_fn (t := Mr.tB (e2 opEqU (eV 0) (eC (.d (.int 2))))) (S2 := S) (by kernel_rfl))]
  rw [seq_nx (if_fn (t := Mr.tB (e2 opEqU (eV 0) (eC (.d (.int 3))))) (S2 := S) (by kernel_rfl))]
  rw [seq_nx (if_fn (t := Mr.tB (e2 opEqU (eV 0) (eC (.d (.int 4))))) (S2 := S) (by kernel_rfl))]
  exact congrArg ansOf (ret_v (show eLam tr _ _ _ = _ from tr_bad ((eif_t (t := Mr.tB (eV 1)) rfl).trans ((c_call rfl).trans hb))))
theorem cs_5_false {s : Str} (h : (kindsD.any fun z => PyData.eqv z (.str s)) = false) (a b : PyData) (S : Sto) : f__law_called [.d (.int 5), .d (.bool false), .d (.str s), .d a, .d b] S = .ok (.d (.tuple [.str "BadKind", .str s, .bool true, .bool false])) S := by
  show ansOf (m__law_called [some (.d (.int 5)), some (.d (.bool false)), some (.d (.str s)), some (.d a), some (.d b)] S) = _
  unfold m__law_called
  have hb := bad_units_of (k := .str s) (a := a) (b := b) (chk h S)
  rw [seq_nx (if_fn (t := Mr.tB (e2 opEqU (eV 0) (eC (.d (.int 0))))) (S2 := S) (by kernel_rfl))]
  rw [seq_nx (if_fn (t := Mr.tB (e2 opEqU (eV 0) (eC (.d (.int 1))))) (S2 := S) (by kernel_rfl))]
  rw [seq_nx (if_fn (t := Mr.tB (e2 opEqU (eV 0) (eC (.d (.int 2))))) (S2 := S) (by kernel_rfl))]
  rw [seq_nx (if_fn (t := Mr.tB (e2 opEqU (eV 0) (eC (.d (.int 3))))) (S2 := S) (by kernel_rfl))]
  rw [seq_nx (if_fn (t := Mr.tB (e2 opEqU (eV 0) (eC (.d (.int 4))))) (S2 := S) (by kernel_rfl))]
  exact congrArg ansOf (ret_v (show eLam tr _ _ _ = _ from tr_bad ((eif_f (t := Mr.tB (eV 1)) rfl).trans ((ck_call rfl).trans hb))))
def isK : PyData → Bool
  | .str s => kindsD.any fun z => PyData.eqv z (.str s)
  | _ => false
theorem bk_0 (S : Sto) (look : Bool) : ∀ k a b : PyData, isK k = false → GD k → CD 0 look k a b S
  | .none, a, b, h, g => ⟨.tuple [.str "BadKind", .none, .bool true, .bool false], by cases look <;> kernel_rfl, by kernel_rfl, bkG g⟩
  | .bool x, a, b, h, g => ⟨.tuple [.str "BadKind", .bool x, .bool true, .bool false], by cases look <;> kernel_rfl, by kernel_rfl, bkG g⟩
  | .int x, a, b, h, g => ⟨.tuple [.str "BadKind", .int x, .bool true, .bool false], by cases look <;> kernel_rfl, by kernel_rfl, bkG g⟩
  | .list x, a, b, h, g => ⟨.tuple [.str "BadKind", .list x, .bool true, .bool false], by cases look <;> kernel_rfl, by kernel_rfl, bkG g⟩
  | .tuple x, a, b, h, g => ⟨.tuple [.str "BadKind", .tuple x, .bool true, .bool false], by cases look <;> kernel_rfl, by kernel_rfl, bkG g⟩
  | .dict x, a, b, h, g => ⟨.tuple [.str "BadKind", .dict x, .bool true, .bool false], by cases look <;> kernel_rfl, by kernel_rfl, bkG g⟩
  | .str s, a, b, h, g => ⟨.tuple [.str "BadKind", .str s, .bool true, .bool false], by cases look; exact cs_0_false h a b S; exact cs_0_true h a b S, due_str h _ a b S, bkG g⟩
theorem bk_1 (S : Sto) (look : Bool) : ∀ k a b : PyData, isK k = false → GD k → CD 1 look k a b S
  | .none, a, b, h, g => ⟨.tuple [.str "BadKind", .none, .bool true, .bool false], by cases look <;> kernel_rfl, by kernel_rfl, bkG g⟩
  | .bool x, a, b, h, g => ⟨.tuple [.str "BadKind", .bool x, .bool true, .bool false], by cases look <;> kernel_rfl, by kernel_rfl, bkG g⟩
  | .int x, a, b, h, g => ⟨.tuple [.str "BadKind", .int x, .bool true, .bool false], by cases look <;> kernel_rfl, by kernel_rfl, bkG g⟩
  | .list x, a, b, h, g => ⟨.tuple [.str "BadKind", .list x, .bool true, .bool false], by cases look <;> kernel_rfl, by kernel_rfl, bkG g⟩
  | .tuple x, a, b, h, g => ⟨.tuple [.str "BadKind", .tuple x, .bool true, .bool false], by cases look <;> kernel_rfl, by kernel_rfl, bkG g⟩
  | .dict x, a, b, h, g => ⟨.tuple [.str "BadKind", .dict x, .bool true, .bool false], by cases look <;> kernel_rfl, by kernel_rfl, bkG g⟩
  | .str s, a, b, h, g => ⟨.tuple [.str "BadKind", .str s, .bool true, .bool false], by cases look; exact cs_1_false h a b S; exact cs_1_true h a b S, due_str h _ a b S, bkG g⟩
theorem bk_2 (S : Sto) (look : Bool) : ∀ k a b : PyData, isK k = false → GD k → CD 2 look k a b S
  | .none, a, b, h, g => ⟨.tuple [.str "BadKind", .none, .bool true, .bool false], by cases look <;> kernel_rfl, by kernel_rfl, bkG g⟩
  | .bool x, a, b, h, g => ⟨.tuple [.str "BadKind", .bool x, .bool true, .bool false], by cases look <;> kernel_rfl, by kernel_rfl, bkG g⟩
  | .int x, a, b, h, g => ⟨.tuple [.str "BadKind", .int x, .bool true, .bool false], by cases look <;> kernel_rfl, by kernel_rfl, bkG g⟩
  | .list x, a, b, h, g => ⟨.tuple [.str "BadKind", .list x, .bool true, .bool false], by cases look <;> kernel_rfl, by kernel_rfl, bkG g⟩
  | .tuple x, a, b, h, g => ⟨.tuple [.str "BadKind", .tuple x, .bool true, .bool false], by cases look <;> kernel_rfl, by kernel_rfl, bkG g⟩
  | .dict x, a, b, h, g => ⟨.tuple [.str "BadKind", .dict x, .bool true, .bool false], by cases look <;> kernel_rfl, by kernel_rfl, bkG g⟩
  | .str s, a, b, h, g => ⟨.tuple [.str "BadKind", .str s, .bool true, .bool false], by cases look; exact cs_2_false h a b S; exact cs_2_true h a b S, due_str h _ a b S, bkG g⟩
theorem bk_3 (S : Sto) (look : Bool) : ∀ k a b : PyData, isK k = false → GD k → CD 3 look k a b S
  | .none, a, b, h, g => ⟨.tuple [.str "BadKind", .none, .bool true, .bool false], by cases look <;> kernel_rfl, by kernel_rfl, bkG g⟩
  | .bool x, a, b, h, g => ⟨.tuple [.str "BadKind", .bool x, .bool true, .bool false], by cases look <;> kernel_rfl, by kernel_rfl, bkG g⟩
  | .int x, a, b, h, g => ⟨.tuple [.str "BadKind", .int x, .bool true, .bool false], by cases look <;> kernel_rfl, by kernel_rfl, bkG g⟩
  | .list x, a, b, h, g => ⟨.tuple [.str "BadKind", .list x, .bool true, .bool false], by cases look <;> kernel_rfl, by kernel_rfl, bkG g⟩
  | .tuple x, a, b, h, g => ⟨.tuple [.str "BadKind", .tuple x, .bool true, .bool false], by cases look <;> kernel_rfl, by kernel_rfl, bkG g⟩
  | .dict x, a, b, h, g => ⟨.tuple [.str "BadKind", .dict x, .bool true, .bool false], by cases look <;> kernel_rfl, by kernel_rfl, bkG g⟩
  | .str s, a, b, h, g => ⟨.tuple [.str "BadKind", .str s, .bool true, .bool false], by cases look; exact cs_3_false h a b S; exact cs_3_true h a b S, due_str h _ a b S, bkG g⟩
theorem bk_4 (S : Sto) (look : Bool) : ∀ k a b : PyData, isK k = false → GD k → CD 4 look k a b S
  | .none, a, b, h, g => ⟨.tuple [.str "BadKind", .none, .bool true, .bool false], by cases look <;> kernel_rfl, by kernel_rfl, bkG g⟩
  | .bool x, a, b, h, g => ⟨.tuple [.str "BadKind", .bool x, .bool true, .bool false], by cases look <;> kernel_rfl, by kernel_rfl, bkG g⟩
  | .int x, a, b, h, g => ⟨.tuple [.str "BadKind", .int x, .bool true, .bool false], by cases look <;> kernel_rfl, by kernel_rfl, bkG g⟩
  | .list x, a, b, h, g => ⟨.tuple [.str "BadKind", .list x, .bool true, .bool false], by cases look <;> kernel_rfl, by kernel_rfl, bkG g⟩
  | .tuple x, a, b, h, g => ⟨.tuple [.str "BadKind", .tuple x, .bool true, .bool false], by cases look <;> kernel_rfl, by kernel_rfl, bkG g⟩
  | .dict x, a, b, h, g => ⟨.tuple [.str "BadKind", .dict x, .bool true, .bool false], by cases look <;> kernel_rfl, by kernel_rfl, bkG g⟩
  | .str s, a, b, h, g => ⟨.tuple [.str "BadKind", .str s, .bool true, .bool false], by cases look; exact cs_4_false h a b S; exact cs_4_true h a b S, due_str h _ a b S, bkG g⟩
theorem bk_5 (S : Sto) (look : Bool) : ∀ k a b : PyData, isK k = false → GD k → CD 5 look k a b S
  | .none, a, b, h, g => ⟨.tuple [.str "BadKind", .none, .bool true, .bool false], by cases look <;> kernel_rfl, by kernel_rfl, bkG g⟩
  | .bool x, a, b, h, g => ⟨.tuple [.str "BadKind", .bool x, .bool true, .bool false], by cases look <;> kernel_rfl, by kernel_rfl, bkG g⟩
  | .int x, a, b, h, g => ⟨.tuple [.str "BadKind", .int x, .bool true, .bool false], by cases look <;> kernel_rfl, by kernel_rfl, bkG g⟩
  | .list x, a, b, h, g => ⟨.tuple [.str "BadKind", .list x, .bool true, .bool false], by cases look <;> kernel_rfl, by kernel_rfl, bkG g⟩
  | .tuple x, a, b, h, g => ⟨.tuple [.str "BadKind", .tuple x, .bool true, .bool false], by cases look <;> kernel_rfl, by kernel_rfl, bkG g⟩
  | .dict x, a, b, h, g => ⟨.tuple [.str "BadKind", .dict x, .bool true, .bool false], by cases look <;> kernel_rfl, by kernel_rfl, bkG g⟩
  | .str s, a, b, h, g => ⟨.tuple [.str "BadKind", .str s, .bool true, .bool false], by cases look; exact cs_5_false h a b S; exact cs_5_true h a b S, due_str h _ a b S, bkG g⟩
end K08

end
section
set_option maxRecDepth 100000
set_option maxHeartbeats 4000000
namespace K08
open PySem PySem.Spec L2 Mr
open PyProof.Rows hiding St
theorem for_inv {I : Env1 → Sto → Prop} {ft : M → Env1 → Option Env1} {fb : Env1 → Sto → Out} : ∀ (items : List M), (∀ m ∈ items, ∀ e S, I e S → ∃ e1 e2 S2, ft m e = some e1 ∧ fb e1 S = .nx e2 S2 ∧ I e2 S2) → ∀ e S, I e S → ∃ e2 S2, forL ft fb items e S = .nx e2 S2 ∧ I e2 S2
  | [], _, e, S, h => ⟨e, S, rfl, h⟩
  | m :: ms, hb, e, S, h => by
    obtain ⟨e1, e2, S2, a, b, c⟩ := hb m List.mem_cons_self e S h
    obtain ⟨e3, S3, d, i⟩ := for_inv ms (fun m hm => hb m (List.mem_cons_of_mem _ hm)) e2 S2 c
    refine ⟨e3, S3, ?_, i⟩
    unfold forL
    rw [a]
    show (match fb e1 S with
      | .nx e2 S2 => forL ft fb ms e2 S2
      | .ct e2 S2 => forL ft fb ms e2 S2
      | .bk e2 S2 => .nx e2 S2
      | o => o) = _
    rw [b]
    exact d
theorem for_v {fi : Env1 → Sto → R (List M)} {ft : M → Env1 → Option Env1} {fb : Env1 → Sto → Out} {e : Env1} {S S1 : Sto} {items : List M} (h : fi e S = .ok items S1) : sFor fi ft fb e S = forL ft fb items e S1 := by
  unfold sFor
  rw [h]
  rfl
theorem draw_ci {i : Nat} {e : Env1} {cs : List Int} {mx dr : Int} {f : Env1 → Sto → R M} {q : Int} (h0 : e[i]? = some (some (.loc 1))) (hf : f e (deckS cs mx dr) = .ok (.d (.int q)) (deckS cs mx dr)) (hl : cs.length ≤ 63) (h1 : 1 ≤ q) (h2 : q < 1000) :
    ∃ (r : Int) (cs2 : List Int) (dr2 : Int), eCall f__law_draw (aC (eV i) (aC f aN)) e (deckS cs mx dr) = .ok (.d (.int r)) (deckS cs2 mx dr2) ∧ (0 ≤ r ∧ r < q) ∧ cs2.length ≤ 63 := by
  obtain ⟨r, cs2, dr2, a, b, c, d⟩ := draw_ok cs mx dr q hl h1 h2
  exact ⟨r, cs2, dr2, (c_call (a_cons (v_at h0) (a_cons hf a_nil))).trans a, ⟨b, c⟩, d⟩
theorem kq_mem : ∀ x ∈ kindsD, ∃ k q, x = .str k ∧ KQ k q := by
  intro x hx
  simp only [kindsD, List.mem_cons, List.not_mem_nil, or_false] at hx
  rcases hx with rfl | rfl | rfl | rfl
  · exact ⟨_, 2, rfl, .inl ⟨rfl, rfl⟩⟩
  · exact ⟨_, 3, rfl, .inr (.inl ⟨rfl, rfl⟩)⟩
  · exact ⟨_, 4, rfl, .inr (.inr (.inl ⟨rfl, rfl⟩))⟩
  · exact ⟨_, 4, rfl, .inr (.inr (.inr ⟨rfl, rfl⟩))⟩
theorem isK_kq {d : PyData} (h : isK d = true) : ∃ k q, d = .str k ∧ KQ k q := by
  cases d with
  | str s =>
    have h : (kindsD.any fun z => PyData.eqv z (.str s)) = true := h
    obtain ⟨z, hz, e⟩ := List.any_eq_true.mp h
    obtain ⟨k, q, rfl, kq⟩ := kq_mem z hz
    have e : (k == s) = true := e
    rw [beq_iff_eq.mp e] at kq
    exact ⟨s, q, rfl, kq⟩
  | _ => cases h
theorem cd_all {w : Int} (hw : 0 ≤ w ∧ w < 6) (look : Bool) (k a b : PyData) (gk : GD k) (ga : GD a) (gb : GD b) (S : Sto) : CD w look k a b S := by
  have hw6 : w = 0 ∨ w = 1 ∨ w = 2 ∨ w = 3 ∨ w = 4 ∨ w = 5 := by omega
  cases hk : isK k with
  | false =>
    rcases hw6 with rfl | rfl | rfl | rfl | rfl | rfl
    · exact bk_0 S look k a b hk gk
    · exact bk_1 S look k a b hk gk
    · exact bk_2 S look k a b hk gk
    · exact bk_3 S look k a b hk gk
    · exact bk_4 S look k a b hk gk
    · exact bk_5 S look k a b hk gk
  | true =>
    obtain ⟨s, q, rfl, kq⟩ := isK_kq hk
    rcases kq with ⟨rfl, rfl⟩ | ⟨rfl, rfl⟩ | ⟨rfl, rfl⟩ | ⟨rfl, rfl⟩
    · rcases hw6 with rfl | rfl | rfl | rfl | rfl | rfl
      · exact cd_two_0 S look a b ga gb
      · exact cd_two_1 S look a b ga gb
      · exact cd_two_2 S look a b ga gb
      · exact cd_two_3 S look a b ga gb
      · exact cd_two_4 S look a b ga gb
      · exact cd_two_5 S look a b ga gb
    · rcases hw6 with rfl | rfl | rfl | rfl | rfl | rfl
      · exact cd_three_0 S look a b ga gb
      · exact cd_three_1 S look a b ga gb
      · exact cd_three_2 S look a b ga gb
      · exact cd_three_3 S look a b ga gb
      · exact cd_three_4 S look a b ga gb
      · exact cd_three_5 S look a b ga gb
    · rcases hw6 with rfl | rfl | rfl | rfl | rfl | rfl
      · exact cd_four_0 S look a b ga gb
      · exact cd_four_1 S look a b ga gb
      · exact cd_four_2 S look a b ga gb
      · exact cd_four_3 S look a b ga gb
      · exact cd_four_4 S look a b ga gb
      · exact cd_four_5 S look a b ga gb
    · rcases hw6 with rfl | rfl | rfl | rfl | rfl | rfl
      · exact cd_ring_0 S look a b ga gb
      · exact cd_ring_1 S look a b ga gb
      · exact cd_ring_2 S look a b ga gb
      · exact cd_ring_3 S look a b ga gb
      · exact cd_ring_4 S look a b ga gb
      · exact cd_ring_5 S look a b ga gb
/-! ### the deck -/
theorem cut_map {α β : Type} (f : α → β) (xs : List α) (lo hi : Option Int) : Mr.cutD (xs.map f) lo hi = (Mr.cutD xs lo hi).map f := by
  unfold Mr.cutD
  simp [List.map_take, List.map_drop]
theorem cut_len {α : Type} (xs : List α) (lo hi : Option Int) : (Mr.cutD xs lo hi).length ≤ xs.length := by
  unfold Mr.cutD
  simp only [List.length_take, List.length_drop]
  omega
theorem sl_ok (ns : List Int) (r : Env1) (S : Sto) : eSl (eV 0) oN (oS (eC (.d (.int 63)))) (some (.ro (ns.map .int)) :: r) S = .ok (.d (.list ((Mr.cutD ns none (some 63)).map .int))) S := by
  rw [← cut_map]
  rfl
theorem dp_cons {fk fv : Env1 → Sto → R M} {r : Prs} {e : Env1} {S S1 S2 S3 : Sto} {k v : M} {kk : Key} {kvs : List (Key × M)} (h1 : fk e S = .ok k S1) (h2 : fv e S1 = .ok v S2) (h3 : keyM k = some kk) (h4 : dPairs r e S2 = .ok kvs S3) : dPairs ((fk, fv) :: r) e S = .ok ((kk, v) :: kvs) S3 := by
  unfold dPairs
  simp only [R.bind, h1, h2, h3, h4]
def mixB : Env1 → Sto → Out := sSet 1 (e2 opMod (ePrim pInt (aC (e2 opAdd (e2 opAdd (e2 opMul (eV 1) (eC (.d (.int 48271)))) (e2 opMod (ePrim pInt (aC (eV 2) aN)) (eC (.d (.int 2147483629))))) (eC (.d (.int 69)))) aN)) (eC (.d (.int 2147483587))))
theorem mix_ok (x : Option M) (m z : Int) (S : Sto) : ∃ m2 : Int, mixB [x, some (.d (.int m)), some (.d (.int z))] S = .nx [x, some (.d (.int m2)), some (.d (.int z))] S :=
  ⟨_, set_v (v_op (p_call (a_cons (v_op (v_op (v_op (v_at rfl) c_v (mulK m 48271 (.inr (by decide)) S)) (v_op (p_call (a_cons (v_at rfl) a_nil) (intI z S)) c_v (modI z 2147483629 (by decide) S)) (addI _ _ S)) c_v (addI _ _ S)) a_nil) (intI _ S)) c_v (modI _ 2147483587 (by decide) S))⟩
theorem deck_ok (ns : List Int) (hl : ns.length ≤ 63) : ∃ (cs : List Int) (mx : Int), f__law_deck [.ro (ns.map .int)] [] = .ok (.loc 1) (deckS cs mx 0) ∧ cs.length ≤ 63 := by
  obtain ⟨e2, S2, hf, m, z, rfl, rfl⟩ := for_inv (I := fun e S => ∃ (m : Int) (z : Option M), e = [some (.ro (ns.map .int)), some (.d (.int m)), z] ∧ S = []) (ft := tgN 2) (fb := mixB) (((Mr.cutD ns none (some 63)).map PyData.int).map M.d) (fun m hm e S h => by
    obtain ⟨x, z, rfl, rfl⟩ := h
    obtain ⟨y, hy, rfl⟩ := List.mem_map.mp hm
    obtain ⟨i, hi, rfl⟩ := List.mem_map.mp hy
    obtain ⟨m2, q⟩ := mix_ok (some (.ro (ns.map .int))) x i []
    exact ⟨_, _, _, rfl, q, m2, _, rfl, rfl⟩) [some (.ro (ns.map .int)), some (.d (.int 10885815)), none] [] ⟨_, _, rfl, rfl⟩
  refine ⟨(Mr.cutD ns none (some 63)).reverse, m, ?_, by rw [List.length_reverse]; exact Nat.le_trans (cut_len _ _ _) hl⟩
  show ansOf (m__law_deck [some (.ro (ns.map .int)), none, none] []) = _
  unfold m__law_deck
  rw [seq_nx (set_v c_v)]
  show ansOf (sSeq (sFor (iSeq (eSl (eV 0) oN (oS (eC (.d (.int 63)))))) (tgN 2) mixB) _ [some (.ro (ns.map .int)), some (.d (.int 10885815)), none] []) = _
  have it : iSeq (eSl (eV 0) oN (oS (eC (.d (.int 63))))) [some (.ro (ns.map .int)), some (.d (.int 10885815)), none] [] = .ok (((Mr.cutD ns none (some 63)).map PyData.int).map M.d) [] := by
    unfold iSeq
    rw [sl_ok]
    rfl
  rw [seq_nx ((for_v it).trans hf)]
  have r1 : eRevO (ePrim pList (aC (eSl (eV 0) oN (oS (eC (.d (.int 63))))) aN)) [some (.ro (ns.map .int)), some (.d (.int m)), z] [] = .ok (.loc 0) [.lst ((Mr.cutD ns none (some 63)).reverse.map fun i => .d (.int i))] := by
    unfold eRevO
    rw [p_call (a_cons (sl_ok ns _ []) a_nil) rfl]
    simp [R.bind, List.map_reverse]
  have mg : mergeM [(.inr "cells", .loc 0), (.inr "mixed", .d (.int m)), (.inr "draws", .d (.int 0))] = [(.inr "cells", .loc 0), (.inr "mixed", .d (.int m)), (.inr "draws", .d (.int 0))] := by
    simp [mergeM, putM, kn1, kn2, kn3, kn1', kn2', kn3']
  refine congrArg ansOf (ret_v (m := .loc 1) (S2 := deckS (Mr.cutD ns none (some 63)).reverse m 0) ?_)
  unfold eDicO
  have pr : dPairs [(eC (.d (.str "cells")), eRevO (ePrim pList (aC (eSl (eV 0) oN (oS (eC (.d (.int 63))))) aN))), (eC (.d (.str "mixed")), eV 1), (eC (.d (.str "draws")), eC (.d (.int 0)))] [some (.ro (ns.map .int)), some (.d (.int m)), z] [] =
      .ok [(.inr "cells", .loc 0), (.inr "mixed", .d (.int m)), (.inr "draws", .d (.int 0))] [.lst ((Mr.cutD ns none (some 63)).reverse.map fun i => .d (.int i))] := by
    exact dp_cons c_v r1 rfl (dp_cons c_v (v_at rfl) rfl (dp_cons c_v c_v rfl rfl))
  rw [pr]
  show R.ok _ _ = _
  rw [mg]
  rfl
abbrev KD : M := .d (.tuple kindsD)
def ok10 (e : Env1) : Prop := ∃ x0 a3 a4 a5 a6 a7 a8 a9 : Option M, e = [x0, some (.loc 1), some KD, a3, a4, a5, a6, a7, a8, a9]
def InvL (mx : Int) (e : Env1) (S : Sto) : Prop := ok10 e ∧ ∃ (cs : List Int) (dr : Int), S = deckS cs mx dr ∧ cs.length ≤ 63
theorem pick_kind {e : Env1} {cs : List Int} {mx dr : Int} (h1 : e[1]? = some (some (.loc 1))) (h2 : e[2]? = some (some KD)) (hl : cs.length ≤ 63) : ∃ (k : Str) (q : Int) (cs2 : List Int) (dr2 : Int), eCall f__law_pick (aC (eV 1) (aC (eV 2) aN)) e (deckS cs mx dr) = .ok (.d (.str k)) (deckS cs2 mx dr2) ∧ KQ k q ∧ cs2.length ≤ 63 := by
  obtain ⟨x, cs2, dr2, q, ⟨k, q2, e2, kq⟩, l⟩ := pick_t (P := fun x => ∃ k q, x = .str k ∧ KQ k q) cs mx dr hl kindsD (show 1 ≤ 4 by decide) (show 4 < 1000 by decide) kq_mem
  subst e2
  exact ⟨k, q2, cs2, dr2, (c_call (a_cons (v_at h1) (a_cons (v_at h2) a_nil))).trans q, kq, l⟩
theorem not_f {f : Env1 → Sto → R M} {e : Env1} {S S2 : Sto} (h : f e S = .ok (.d (.bool true)) S2) : tNotM (Mr.tB f) e S = .ok false S2 := by
  unfold tNotM Mr.tB
  rw [h]
  rfl
def body4 : Env1 → Sto → Out := (sSeq (sSet 3 (eCall f__law_pick (aC (eV 1) (aC (eV 2) aN))))
    (sSeq (sSet 5 (eCall f__law_size (aC (eV 3) aN)))
    (sIf (tNotM (Mr.tB (eCall f__law_are_three_right (aC (eV 3) (aC (eCall f__law_draw (aC (eV 1) (aC (eV 5) aN))) (aC (eCall f__law_draw (aC (eV 1) (aC (eV 5) aN))) (aC (eCall f__law_draw (aC (eV 1) (aC (eV 5) aN))) aN))))))) (sRet (eC (.d (.bool false)))) sNx)))
theorem body4_ok {mx : Int} {e : Env1} {S : Sto} (h : InvL mx e S) : ∃ e2 S2, body4 e S = .nx e2 S2 ∧ InvL mx e2 S2 := by
  obtain ⟨⟨x0, a3, a4, a5, a6, a7, a8, a9, rfl⟩, cs, dr, rfl, hl⟩ := h
  obtain ⟨k, q, cs1, dr1, q1, kq, l1⟩ := pick_kind (e := [x0, some (.loc 1), some KD, a3, a4, a5, a6, a7, a8, a9]) (mx := mx) (dr := dr) rfl rfl hl
  have hq := kq.q
  have q2 : eCall f__law_size (aC (eV 3) aN) [x0, some (.loc 1), some KD, some (.d (.str k)), a4, a5, a6, a7, a8, a9] (deckS cs1 mx dr1) = .ok (.d (.int q)) (deckS cs1 mx dr1) := (c_call (a_cons (v_at rfl) a_nil)).trans (size_ok kq _)
  obtain ⟨a, cs2, dr2, e2, ha, l2⟩ := draw_ci (i := 1) (f := eV 5) (q := q) (e := [x0, some (.loc 1), some KD, some (.d (.str k)), a4, some (.d (.int q)), a6, a7, a8, a9]) (mx := mx) (dr := dr1) rfl (v_at rfl) l1 (by omega) (by omega)
  obtain ⟨b, cs3, dr3, e3, hb, l3⟩ := draw_ci (i := 1) (f := eV 5) (q := q) (e := [x0, some (.loc 1), some KD, some (.d (.str k)), a4, some (.d (.int q)), a6, a7, a8, a9]) (mx := mx) (dr := dr2) rfl (v_at rfl) l2 (by omega) (by omega)
  obtain ⟨c, cs4, dr4, e4, hc, l4⟩ := draw_ci (i := 1) (f := eV 5) (q := q) (e := [x0, some (.loc 1), some KD, some (.d (.str k)), a4, some (.d (.int q)), a6, a7, a8, a9]) (mx := mx) (dr := dr3) rfl (v_at rfl) l3 (by omega) (by omega)
  refine ⟨[x0, some (.loc 1), some KD, some (.d (.str k)), a4, some (.d (.int q)), a6, a7, a8, a9], deckS cs4 mx dr4, ?_, ⟨_, _, _, _, _, _, _, _, rfl⟩, cs4, dr4, rfl, l4⟩
  unfold body4
  rw [seq_nx (set_v q1)]
  show sSeq _ _ [x0, some (.loc 1), some KD, some (.d (.str k)), a4, a5, a6, a7, a8, a9] _ = _
  rw [seq_nx (set_v q2)]
  show sIf _ _ _ [x0, some (.loc 1), some KD, some (.d (.str k)), a4, some (.d (.int q)), a6, a7, a8, a9] _ = _
  exact if_fn (not_f ((c_call (a_cons (v_at rfl) (a_cons e2 (a_cons e3 (a_cons e4 a_nil))))).trans (three_ok kq ha hb hc _)))
theorem par2 {i j : Nat} {f k : Env1 → Sto → R M} {e : Env1} {S S1 S2 : Sto} {a b : M} (h : f e S = .ok a S1) (h2 : k e S1 = .ok b S2) : sPar i j (aC f (aC k aN)) e S = .nx ((e.set i (some a)).set j (some b)) S2 := by
  unfold sPar
  rw [a_cons h (a_cons h2 a_nil)]
  rfl
def badL : List PyData := [.str "Two", .str "two ", .str "", .str "five", .tuple [.str "two"], .list [.str "two"], .dict [], .int 2, .none, .bool true, .dict [(.str "two", .int 1)], .str "ringthree"]
theorem gBad : ∀ x ∈ badL, Good 4 60 x := goodAll_b (by decide +kernel)
theorem gKind {k : Str} {q : Int} (h : KQ k q) : GD (.str k) := by
  rcases h with ⟨rfl, _⟩ | ⟨rfl, _⟩ | ⟨rfl, _⟩ | ⟨rfl, _⟩ <;> exact good_b (by decide +kernel)
def m5a : Env1 → Sto → Out := (sPar 6 7 (aC (eCall f__law_odd (aC (eV 1) (aC (eCall f__law_size (aC (eV 3) aN)) aN))) (aC (eCall f__law_odd (aC (eV 1) (aC (eCall f__law_size (aC (eV 3) aN)) aN))) aN)))
def m5b : Env1 → Sto → Out := (sIf (Mr.tB (e2 opEqU (eCall f__law_draw (aC (eV 1) (aC (eC (.d (.int 5))) aN))) (eC (.d (.int 0))))) (sSet 3 (eCall f__law_pick (aC (eV 1) (aC (eLst (aC (eC (.d (.str "Two"))) (aC (eC (.d (.str "two "))) (aC (eC (.d (.str ""))) (aC (eC (.d (.str "five"))) (aC (eTup (aC (eC (.d (.str "two"))) aN)) (aC (eLst (aC (eC (.d (.str "two"))) aN)) (aC (eC (.d (.dict []))) (aC (eC (.d (.int 2))) (aC (eC (.d .none)) (aC (eC (.d (.bool true))) (aC (eDic (((eC (.d (.str "two"))), (eC (.d (.int 1)))) :: [])) (aC (eC (.d (.str "ringthree"))) aN))))))))))))) aN)))) sNx)
def m5c : Env1 → Sto → Out := (sIf (Mr.tB (e2 opEqU (eCall f__law_draw (aC (eV 1) (aC (eC (.d (.int 16))) aN))) (eC (.d (.int 0))))) (sSet 3 (eCall (f__law_any 4) (aC (eV 1) (aC (eC (.d (.int 2))) aN)))) sNx)
def m5d : Env1 → Sto → Out := (sPar 8 9 (aC (eCall f__law_draw (aC (eV 1) (aC (eC (.d (.int 6))) aN))) (aC (e2 opEqU (eCall f__law_draw (aC (eV 1) (aC (eC (.d (.int 2))) aN))) (eC (.d (.int 0)))) aN)))
def m5e : Env1 → Sto → Out := (sIf (Mr.tB (e2 opNeU (ePrim pRepr (aC (eCall f__law_called (aC (eV 8) (aC (eV 9) (aC (eV 3) (aC (eV 6) (aC (eV 7) aN)))))) aN)) (ePrim pRepr (aC (eCall f__law_due (aC (eV 8) (aC (eV 3) (aC (eV 6) (aC (eV 7) aN))))) aN)))) (sRet (eC (.d (.bool false)))) sNx)
def body5 : Env1 → Sto → Out := (sSeq (sSet 3 (eCall f__law_pick (aC (eV 1) (aC (eV 2) aN)))) (sSeq m5a (sSeq m5b (sSeq m5c (sSeq m5d m5e)))))
theorem tst0 {e : Env1} {f : Env1 → Sto → R M} {S S1 : Sto} {r : Int} (h : f e S = .ok (.d (.int r)) S1) {c : Bool} (hc : decide (r = 0) = c) : Mr.tB (e2 opEqU f (eC (.d (.int 0)))) e S = .ok c S1 := t_op h c_v (by rw [eqI, hc])
theorem m5b_ok {x0 k a4 a5 a6 a7 a8 a9 : Option M} {d : PyData} (g : GD d) (cs : List Int) (mx dr : Int) (hl : cs.length ≤ 63) : ∃ (d2 : PyData) (cs2 : List Int) (dr2 : Int), m5b [x0, some (.loc 1), some KD, some (.d d), a4, a5, a6, a7, a8, a9] (deckS cs mx dr) = .nx [x0, some (.loc 1), some KD, some (.d d2), a4, a5, a6, a7, a8, a9] (deckS cs2 mx dr2) ∧ GD d2 ∧ cs2.length ≤ 63 := by
  obtain ⟨r, cs1, dr1, q1, hr, l1⟩ := draw_ci (i := 1) (f := eC (.d (.int 5))) (e := [x0, some (.loc 1), some KD, some (.d d), a4, a5, a6, a7, a8, a9]) (mx := mx) (dr := dr) rfl c_v hl (by decide) (by decide)
  by_cases h : r = 0
  · obtain ⟨x, cs2, dr2, q2, gx, l2⟩ := pick_l (P := Good 4 60) cs1 mx dr1 l1 badL (show 1 ≤ 12 by decide) (show 12 < 1000 by decide) gBad
    refine ⟨x, cs2, dr2, ?_, gx.mono (by decide) (by decide), l2⟩
    exact (if_t (tst0 q1 (decide_eq_true h))).trans (set_v ((c_call (a_cons (v_at rfl) (a_cons (m := .d (.list badL)) (by kernel_rfl) a_nil))).trans q2))
  · exact ⟨d, cs1, dr1, if_fn (tst0 q1 (decide_eq_false h)), g, l1⟩
theorem m5c_ok {x0 k a4 a5 a6 a7 a8 a9 : Option M} {d : PyData} (g : GD d) (cs : List Int) (mx dr : Int) (hl : cs.length ≤ 63) : ∃ (d2 : PyData) (cs2 : List Int) (dr2 : Int), m5c [x0, some (.loc 1), some KD, some (.d d), a4, a5, a6, a7, a8, a9] (deckS cs mx dr) = .nx [x0, some (.loc 1), some KD, some (.d d2), a4, a5, a6, a7, a8, a9] (deckS cs2 mx dr2) ∧ GD d2 ∧ cs2.length ≤ 63 := by
  obtain ⟨r, cs1, dr1, q1, hr, l1⟩ := draw_ci (i := 1) (f := eC (.d (.int 16))) (e := [x0, some (.loc 1), some KD, some (.d d), a4, a5, a6, a7, a8, a9]) (mx := mx) (dr := dr) rfl c_v hl (by decide) (by decide)
  by_cases h : r = 0
  · obtain ⟨x, cs2, dr2, q2, gx, l2⟩ := any_ok mx 4 2 cs1 dr1 (by decide) l1
    refine ⟨x, cs2, dr2, ?_, gx.mono (by decide) (by decide), l2⟩
    exact (if_t (tst0 q1 (decide_eq_true h))).trans (set_v ((c_call (a_cons (v_at rfl) (a_cons c_v a_nil))).trans q2))
  · exact ⟨d, cs1, dr1, if_fn (tst0 q1 (decide_eq_false h)), g, l1⟩
theorem body5_ok {mx : Int} {e : Env1} {S : Sto} (h : InvL mx e S) : ∃ e2 S2, body5 e S = .nx e2 S2 ∧ InvL mx e2 S2 := by
  obtain ⟨⟨x0, a3, a4, a5, a6, a7, a8, a9, rfl⟩, cs, dr, rfl, hl⟩ := h
  obtain ⟨k, q, cs1, dr1, q1, kq, l1⟩ := pick_kind (e := [x0, some (.loc 1), some KD, a3, a4, a5, a6, a7, a8, a9]) (mx := mx) (dr := dr) rfl rfl hl
  have sz : ∀ S, eCall f__law_size (aC (eV 3) aN) [x0, some (.loc 1), some KD, some (.d (.str k)), a4, a5, a6, a7, a8, a9] S = .ok (.d (.int q)) S := fun S => (c_call (a_cons (v_at rfl) a_nil)).trans (size_ok kq _)
  obtain ⟨a, cs2, dr2, e2, ga, l2⟩ := odd_ok kq cs1 mx dr1 l1
  obtain ⟨b, cs3, dr3, e3, gb, l3⟩ := odd_ok kq cs2 mx dr2 l2
  have s2 : m5a [x0, some (.loc 1), some KD, some (.d (.str k)), a4, a5, a6, a7, a8, a9] (deckS cs1 mx dr1) = .nx [x0, some (.loc 1), some KD, some (.d (.str k)), a4, a5, some (.d a), some (.d b), a8, a9] (deckS cs3 mx dr3) :=
    par2 ((c_call (a_cons (v_at rfl) (a_cons (sz _) a_nil))).trans e2) ((c_call (a_cons (v_at rfl) (a_cons (sz _) a_nil))).trans e3)
  obtain ⟨d1, cs4, dr4, s3, g1, l4⟩ := m5b_ok (x0 := x0) (k := none) (a4 := a4) (a5 := a5) (a6 := some (.d a)) (a7 := some (.d b)) (a8 := a8) (a9 := a9) (gKind kq) cs3 mx dr3 l3
  obtain ⟨d2, cs5, dr5, s4, g2, l5⟩ := m5c_ok (x0 := x0) (k := none) (a4 := a4) (a5 := a5) (a6 := some (.d a)) (a7 := some (.d b)) (a8 := a8) (a9 := a9) g1 cs4 mx dr4 l4
  obtain ⟨w, cs6, dr6, e6, hw, l6⟩ := draw_ci (i := 1) (f := eC (.d (.int 6))) (e := [x0, some (.loc 1), some KD, some (.d d2), a4, a5, some (.d a), some (.d b), a8, a9]) (mx := mx) (dr := dr5) rfl c_v l5 (by decide) (by decide)
  obtain ⟨lk, cs7, dr7, e7, hlk, l7⟩ := draw_ci (i := 1) (f := eC (.d (.int 2))) (e := [x0, some (.loc 1), some KD, some (.d d2), a4, a5, some (.d a), some (.d b), a8, a9]) (mx := mx) (dr := dr6) rfl c_v l6 (by decide) (by decide)
  have s5 : m5d [x0, some (.loc 1), some KD, some (.d d2), a4, a5, some (.d a), some (.d b), a8, a9] (deckS cs5 mx dr5) = .nx [x0, some (.loc 1), some KD, some (.d d2), a4, a5, some (.d a), some (.d b), some (.d (.int w)), some (.d (.bool (decide (lk = 0))))] (deckS cs7 mx dr7) :=
    par2 e6 (v_op e7 c_v (eqI _ _ _))
  obtain ⟨y, yc, yd, gy⟩ := cd_all hw (decide (lk = 0)) d2 a b g2 ga gb (deckS cs7 mx dr7)
  have ry : pRepr [.d y] (deckS cs7 mx dr7) = some (.d (.str y.shown)) := by
    show (if reprable y then some (M.d (.str y.shown)) else none) = _
    rw [good_rep gy (by decide) (by decide)]
    rfl
  have s6 : m5e [x0, some (.loc 1), some KD, some (.d d2), a4, a5, some (.d a), some (.d b), some (.d (.int w)), some (.d (.bool (decide (lk = 0))))] (deckS cs7 mx dr7) = .nx [x0, some (.loc 1), some KD, some (.d d2), a4, a5, some (.d a), some (.d b), some (.d (.int w)), some (.d (.bool (decide (lk = 0))))] (deckS cs7 mx dr7) := by
    refine if_fn (t_op (p_call (a_cons ((c_call (a_cons (v_at rfl) (a_cons (v_at rfl) (a_cons (v_at rfl) (a_cons (v_at rfl) (a_cons (v_at rfl) a_nil)))))).trans yc) a_nil) ry) (p_call (a_cons ((c_call (a_cons (v_at rfl) (a_cons (v_at rfl) (a_cons (v_at rfl) (a_cons (v_at rfl) a_nil))))).trans yd) a_nil) ry) ?_)
    show some (M.d (.bool (!decide (y.shown = y.shown)))) = _
    rw [decide_eq_true (rfl : y.shown = y.shown)]
    rfl
  refine ⟨[x0, some (.loc 1), some KD, some (.d d2), a4, a5, some (.d a), some (.d b), some (.d (.int w)), some (.d (.bool (decide (lk = 0))))], deckS cs7 mx dr7, ?_, ⟨_, _, _, _, _, _, _, _, rfl⟩, cs7, dr7, rfl, l7⟩
  unfold body5
  rw [seq_nx (set_v q1)]
  show sSeq _ _ [x0, some (.loc 1), some KD, some (.d (.str k)), a4, a5, a6, a7, a8, a9] _ = _
  rw [seq_nx s2, seq_nx s3, seq_nx s4, seq_nx s5]
  exact s6
def body3 : Env1 → Sto → Out := (sIf (tNotM (Mr.tB (eCall f__law_are_all_right (aC (eV 3) aN)))) (sRet (eC (.d (.bool false)))) sNx)
theorem all_ok {k : Str} {q : Int} (h : KQ k q) (S : Sto) : f__law_are_all_right [.d (.str k)] S = .ok (.d (.bool true)) S := by
  rcases h with ⟨rfl, rfl⟩ | ⟨rfl, rfl⟩ | ⟨rfl, rfl⟩ | ⟨rfl, rfl⟩
  · exact all_two S
  · exact all_three S
  · exact all_four S
  · exact all_ring S
theorem law_true (ns : List Int) (hl : ns.length ≤ 63) : LawTrue f_law ns := by
  obtain ⟨cs, mx, dk, l0⟩ := deck_ok ns hl
  have I0 : InvL mx [some (.ro (ns.map .int)), some (.loc 1), some KD, none, none, none, none, none, none, none] (deckS cs mx 0) := ⟨⟨_, _, _, _, _, _, _, _, rfl⟩, cs, 0, rfl, l0⟩
  obtain ⟨e3, S3, f3, I3⟩ := for_inv (I := InvL mx) (ft := tgN 3) (fb := body3) (kindsD.map M.d) (fun m hm e S h => by
    obtain ⟨⟨x0, a3, a4, a5, a6, a7, a8, a9, rfl⟩, cs, dr, rfl, hl⟩ := h
    obtain ⟨y, hy, rfl⟩ := List.mem_map.mp hm
    obtain ⟨k, q, rfl, kq⟩ := kq_mem y hy
    refine ⟨_, _, _, rfl, if_fn (not_f ((c_call (a_cons (v_at rfl) a_nil)).trans (all_ok kq _))), ⟨_, _, _, _, _, _, _, _, rfl⟩, cs, dr, rfl, hl⟩) _ _ I0
  obtain ⟨e4, S4, f4, I4⟩ := for_inv (I := InvL mx) (ft := tgN 4) (fb := body4) (rngL 0 8) (fun m hm e S h => by
    obtain ⟨⟨x0, a3, a4, a5, a6, a7, a8, a9, rfl⟩, r⟩ := h
    obtain ⟨e2, S2, q, i⟩ := body4_ok (mx := mx) (e := [x0, some (.loc 1), some KD, a3, some m, a5, a6, a7, a8, a9]) ⟨⟨_, _, _, _, _, _, _, _, rfl⟩, r⟩
    exact ⟨_, e2, S2, rfl, q, i⟩) _ _ I3
  obtain ⟨e5, S5, f5, I5⟩ := for_inv (I := InvL mx) (ft := tgN 4) (fb := body5) (rngL 0 40) (fun m hm e S h => by
    obtain ⟨⟨x0, a3, a4, a5, a6, a7, a8, a9, rfl⟩, r⟩ := h
    obtain ⟨e2, S2, q, i⟩ := body5_ok (mx := mx) (e := [x0, some (.loc 1), some KD, a3, some m, a5, a6, a7, a8, a9]) ⟨⟨_, _, _, _, _, _, _, _, rfl⟩, r⟩
    exact ⟨_, e2, S2, rfl, q, i⟩) _ _ I4
  refine ⟨S5, ?_⟩
  show ansOf (m_law [some (.ro (ns.map .int)), none, none, none, none, none, none, none, none, none] []) = _
  unfold m_law
  rw [seq_nx (set_v ((c_call (a_cons (v_at rfl) a_nil)).trans dk))]
  show ansOf (sSeq (sSet 2 _) _ [some (.ro (ns.map .int)), some (.loc 1), none, none, none, none, none, none, none, none] (deckS cs mx 0)) = _
  rw [seq_nx (set_v (m := KD) (S2 := deckS cs mx 0) (by kernel_rfl))]
  show ansOf (sSeq (sFor (iSeq (eV 2)) (tgN 3) body3) _ [some (.ro (ns.map .int)), some (.loc 1), some KD, none, none, none, none, none, none, none] (deckS cs mx 0)) = _
  rw [seq_nx ((for_v (show iSeq (eV 2) [some (.ro (ns.map .int)), some (.loc 1), some KD, none, none, none, none, none, none, none] (deckS cs mx 0) = .ok (kindsD.map M.d) (deckS cs mx 0) from rfl)).trans f3)]
  show ansOf (sSeq (sFor (iRng (aC (eC (.d (.int 8))) aN)) (tgN 4) body4) _ e3 S3) = _
  rw [seq_nx ((for_v (show iRng (aC (eC (.d (.int 8))) aN) e3 S3 = .ok (rngL 0 8) S3 from rfl)).trans f4)]
  show ansOf (sSeq (sFor (iRng (aC (eC (.d (.int 40))) aN)) (tgN 4) body5) _ e4 S4) = _
  rw [seq_nx ((for_v (show iRng (aC (eC (.d (.int 40))) aN) e4 S4 = .ok (rngL 0 40) S4 from rfl)).trans f5)]
  rfl
end K08

end
set_option maxRecDepth 100000 in
set_option maxHeartbeats 0 in
theorem PySem.Challenge.cw_ownpartners_k08_marks_of_all_kinds_holds : PySem.Challenge.rw_ownpartners_k08_marks_of_all_kinds.Holds := by
  exact k08_of fun ns hl _ => K08.law_true ns hl
