import PyProof.Rows.All
import Wide.All
import OpenK.AllK
import Wide.FinOn
import Lean
import PyProof.EqAt
import PyProof.EqKinds
import PyProof.TupleCall
import PyProof.NeKinds
import PyProof.WalksEnum
import PyProof.EnumMake
import PyProof.CompFree
import PyProof.DictWalks
import PyProof.Rows.SortPure
import PyProof.Rows.SortRunK
import KE.KSortTup
import PyProof.Rows.SumAny
import PyProof.ZipIter
import PyProof.Rows.ZipGen
import PyProof.Rows.TupAdd
import PyProof.Conv_int_bool
import PyProof.ExcClass3
import PyProof.StationsW
import PyProof.PassesOwn
import PyProof.RulesAs
import PyProof.NsDelKeeps
import PyProof.Rows.Own
import PyProof.ExcBaseAll.ValueError
import PyProof.ExcArgsOwn
import PyProof.Rows.FStr
import PyProof.ConsumeWalk
import PyProof.StrCalls
import KE.KDictSum
import KE.KRevIter
import PyProof.ListRange
import PyProof.ReprHeadsTuple
import PyProof.ReprLen
import PySem.Challenge.RW_cutway_k14_whole_must_have_held
set_option Elab.async false
set_option linter.all false
set_option maxRecDepth 100000
namespace L2
open PySem PySem.Spec PyProof.Rows
noncomputable abbrev Key := Sum Int Str
noncomputable def keyIs : Key → Value → Bool
 | .inl k, v => Value.isInt k v
 | .inr x, v => Value.isStrOf x v
noncomputable def keyH (w : World) : Key → Int
 | .inl k => hashInt k
 | .inr x => hashStr w x
theorem keyIs_shape : ∀ {k : Key} {v : Value}, keyIs k v = true → (∃ i t, k = Sum.inl i ∧ v = Value.int i t) ∨ (∃ x t, k = Sum.inr x ∧ v = Value.str x t)
 | .inl i, v, h => by
  obtain ⟨t, e⟩ := Value.isInt_shape (k := i) (v := v) h
  exact .inl ⟨i, t, rfl, e⟩
 | .inr x, v, h => by
  obtain ⟨t, e⟩ := Value.isStrOf_shape (x := x) (v := v) h
  exact .inr ⟨x, t, rfl, e⟩
theorem keyIs_int (i : Int) (t : Tok) : keyIs (.inl i) (.int i t) = true := by simp [keyIs, Value.isInt]
theorem keyIs_str (x : Str) (t : Tok) : keyIs (.inr x) (.str x t) = true := by simp [keyIs, Value.isStrOf]
theorem key_ll (a b : Int) : decide ((Sum.inl a : Key) = Sum.inl b) = (a == b) := by
 by_cases e : a = b
 ·subst e; simp
 ·have h : ¬ (Sum.inl a : Key) = Sum.inl b := fun q => e (Sum.inl.inj q)
  rw [decide_eq_false h]
  exact (beq_eq_false_iff_ne.mpr e).symm
theorem key_rr (a b : Str) : decide ((Sum.inr a : Key) = Sum.inr b) = decide (a = b) := by
 by_cases e : a = b
 ·subst e; simp
 ·have h : ¬ (Sum.inr a : Key) = Sum.inr b := fun q => e (Sum.inr.inj q)
  rw [decide_eq_false h, decide_eq_false e]
theorem key_lr (a : Int) (b : Str) : decide ((Sum.inl a : Key) = Sum.inr b) = false := decide_eq_false (fun q => nomatch q)
theorem key_rl (a : Str) (b : Int) : decide ((Sum.inr a : Key) = Sum.inl b) = false := decide_eq_false (fun q => nomatch q)
noncomputable def mixKind (prog : Program) (w : World) : PySem.KeyKind prog w Key where
 is := keyIs
 hash := keyH w
 inj := fun v a b ha hb => by
  rcases keyIs_shape ha with ⟨i, t, rfl, rfl⟩ | ⟨x, t, rfl, rfl⟩
  ·rcases keyIs_shape hb with ⟨j, u, rfl, e⟩ | ⟨y, u, rfl, e⟩
   ·injection e with e1 _; rw [e1]
   ·exact nomatch e
  ·rcases keyIs_shape hb with ⟨j, u, rfl, e⟩ | ⟨y, u, rfl, e⟩
   ·exact nomatch e
   ·injection e with e1 _; rw [e1]
 byValue := fun k v h => by
  rcases keyIs_shape h with ⟨i, t, rfl, rfl⟩ | ⟨x, t, rfl, rfl⟩ <;> rfl
 pyHash := fun hv h => by
  rcases keyIs_shape hv with ⟨i, t, rfl, rfl⟩ | ⟨x, t, rfl, rfl⟩
  ·exact wpAny_pyHash_int h
  ·exact wpAny_pyHash_str h
 eqBool := fun hu hv h => by
  rcases keyIs_shape hu with ⟨i, t, rfl, rfl⟩ | ⟨x, t, rfl, rfl⟩
  ·rcases keyIs_shape hv with ⟨j, u, rfl, rfl⟩ | ⟨y, u, rfl, rfl⟩
   ·rw [key_ll] at h; exact wpAny_eqBool_int h
   ·rw [key_lr] at h; exact SeqAt.EqAt.int_str i t y u _ _ _ _ h
  ·rcases keyIs_shape hv with ⟨j, u, rfl, rfl⟩ | ⟨y, u, rfl, rfl⟩
   ·rw [key_rl] at h; exact SeqAt.EqAt.str_int x t j u _ _ _ _ h
   ·rw [key_rr] at h; exact wpAny_eqBool_str h
 «strs» := fun k x t v h => by
  rcases keyIs_shape h with ⟨i, u, rfl, e⟩ | ⟨y, u, rfl, e⟩
  ·exact nomatch e
  ·injection e with e1 _
   subst e1
   cases v <;> rfl
theorem mixKind_int (prog : Program) (w : World) (i : Int) (t : Tok) : (mixKind prog w).is (.inl i) (.int i t) = true := keyIs_int i t
theorem mixKind_str (prog : Program) (w : World) (x : Str) (t : Tok) : (mixKind prog w).is (.inr x) (.str x t) = true := keyIs_str x t
inductive V where
 | non | bl (b : Bool) | int (i : Int) | str (x : Str) | byt (b : Array UInt8) | flt (b : UInt64) | ref (a : Addr) | ty (n : String)
 deriving DecidableEq
noncomputable def RelV : V → Value → Prop
 | .non, u => u = Value.none
 | .bl b, u => u = Value.bool b
 | .int i, u => ∃ t, u = Value.int i t
 | .str x, u => ∃ t, u = Value.str x t
 | .byt b, u => ∃ t, u = Value.bytes b t
 | .flt b, u => ∃ t, u = Value.float b t
 | .ref a, u => u = Value.ref a
 | .ty n, u => u = Value.type n
noncomputable abbrev Vals : List V → List Value → Prop := Paired RelV
theorem Vals.length {xs : List V} {us : List Value} (r : Vals xs us) : xs.length = us.length := Paired.length r
theorem Vals.get : ∀ {xs : List V} {us : List Value} {i : Nat} {x : V}, Vals xs us → xs[i]? = some x → ∃ u, us[i]? = some u ∧ RelV x u
 | _, _, _, _, .nil, e => by simp at e
 | _, _, 0, _, .cons r _, e => by simp at e; subst e; exact ⟨_, rfl, r⟩
 | _, _, i + 1, x, .cons _ t, e => by
  obtain ⟨u, h1, h2⟩ := Vals.get (i := i) (x := x) t (by simpa using e)
  exact ⟨u, by simpa using h1, h2⟩
theorem Vals.set {x : V} {u : Value} (r : RelV x u) : ∀ {xs : List V} {us : List Value} (i : Nat), Vals xs us → Vals (xs.set i x) (us.set i u)
 | _, _, _, .nil => .nil
 | _, _, 0, .cons _ t => .cons r t
 | _, _, i + 1, .cons q t => .cons q (Vals.set r i t)
theorem Vals.append {xs ys : List V} {us ws : List Value} (h : Vals xs us) (s : Vals ys ws) : Vals (xs ++ ys) (us ++ ws) := by
 induction h with
 | nil => exact s
 | cons r t ih => exact .cons r ih
theorem Vals.take : ∀ {xs : List V} {us : List Value} (n : Nat), Vals xs us → Vals (xs.take n) (us.take n)
 | _, _, 0, _ => .nil
 | _, _, _ + 1, .nil => .nil
 | _, _, n + 1, .cons r t => .cons r (Vals.take n t)
theorem Vals.drop : ∀ {xs : List V} {us : List Value} (n : Nat), Vals xs us → Vals (xs.drop n) (us.drop n)
 | _, _, 0, r => r
 | _, _, _ + 1, .nil => .nil
 | _, _, n + 1, .cons _ t => Vals.drop n t
noncomputable def RelO : Option V → Option Value → Prop
 | some v, some u => RelV v u
 | none, none => True
 | _, _ => False
noncomputable def KV {κ : Type} : List (κ × V) → List (κ × Value) → Prop := Paired fun (p : κ × V) (q : κ × Value) => p.1 = q.1 ∧ RelV p.2 q.2
noncomputable def kV : Key → V
 | .inl i => .int i
 | .inr x => .str x
inductive HO where
  | lst (xs : List V)
  | tup (xs : List V)
  | dK (kvs : List (Key × V)) | dT (kvs : List (List Key × V))
  | set (S : Int → Bool) (n : Nat)
  | ins (C dx : Addr) (fs : List (Str × V))
  | own (x : Addr)
  | xd (fs : List (Str × V))
  | met (f x : Addr)
  | rng (lo hi : Int)
  | frz (o : Obj) (u : HO)
  | tbl (ps : Array Value)
  | ext (φ : Heap → Prop)
noncomputable abbrev Hp := Addr → Option HO
noncomputable def upd (H : Hp) (a : Addr) (o : HO) : Hp := fun b => if b = a then some o else H b
theorem upd_same {H : Hp} {a : Addr} {o : HO} : upd H a o a = some o := by unfold upd; rw [if_pos rfl]
theorem upd_ne {H : Hp} {a b : Addr} {o : HO} (h : b ≠ a) : upd H a o b = H b := by unfold upd; rw [if_neg h]
theorem ne_of {H : Hp} {a b : Addr} {o u : HO} (h : H a = some o) (h' : H b = some u) (d : o ≠ u) : a ≠ b := by
 intro e; subst e; rw [h] at h'; exact d (Option.some.inj h')
theorem ne_of_none {H : Hp} {a b : Addr} {o : HO} (h : H a = some o) (h' : H b = none) : a ≠ b := by
 intro e; subst e; rw [h] at h'; cases h'
section
variable (P : Program) (w : World)
noncomputable def ObjOk (H : Hp) (h : Heap) (a : Addr) : HO → Prop
 | .lst xs => xs.length ≤ sizeLine ∧ ∃ (its : List Value) (n : Nat), Vals xs its ∧ h.get? a = some { cls := .type "list", data := .seq its.toArray n }
 | .tup xs => xs.length ≤ sizeLine ∧ ∃ its : List Value, Vals xs its ∧ IsTup h a its.toArray
 | .dK kvs => kvs.length ≤ sizeLine ∧ (a == sysModules) = false ∧ ∃ vs, KV kvs vs ∧ h.DictOf (mixKind P w) a vs
 | .dT kvs => kvs.length ≤ sizeLine ∧ (a == sysModules) = false ∧ ∃ xs : List (List Key × Addr × Value),
   Paired (fun (p : List Key × V) (q : List Key × Addr × Value) => p.1 = q.1 ∧ H q.2.1 = some (.tup (p.1.map kV)) ∧ RelV p.2 q.2.2) kvs xs ∧
   ∃ o es ep, h.get? a = some o ∧ o.ExactDict ∧ o.data = .dict es ep ∧ es.toList = xs.map (entryOfKey (tupleKind (mixKind P w))) ∧ (xs.map (·.1)).Nodup
 | .set S n => h.SetOf (intKind P w) a S n
 | .ins C dx fs => H dx = some (.own a) ∧ fs.length ≤ 1000 ∧ dx ≠ a ∧ h.get? a = some (PySem.W.instObj C dx) ∧
   ∃ mA, h.Ns1 dx mA ∧ (∀ f, RelO (fs.lookup f) (mA f)) ∧ PySem.Within mA (fs.map (·.1))
 | .own _ => ∃ o, h.get? a = some o
 | .xd fs => ∃ mA, h.Ns1 a mA ∧ ∀ f, RelO (fs.lookup f) (mA f)
 | .rng lo hi => ∃ t u v, h.get? a = some { cls := .type "range", data := .fields #[.int lo t, .int hi u, .int 1 v] }
 | .frz o u => h.get? a = some o ∧ ObjOk H h a u
 | .tbl ps => h.get? a = some { cls := .none, data := .fields ps }
 | .met f x => h.get? a = some (PySem.W.methodObj (.ref f) (.ref x))
 | .ext φ => φ h ∧ (∃ o, h.get? a = some o) ∧ ∀ h1 h2 : Heap, φ h1 → (∀ o, h1.get? a = some o → h2.get? a = some o) → φ h2
noncomputable def HOk (H : Hp) (h : Heap) : Prop := ∀ a o, H a = some o → ObjOk P w H h a o
end
section
variable {P : Program} {w : World} {H H' : Hp} {h h' : Heap} {a : Addr} {o : HO}
theorem ObjOk.lt (x : ObjOk P w H h a o) : a < h.objs.size := by
 cases o with
 | lst xs => obtain ⟨_, _, _, _, e⟩ := x; exact Heap.lt_size e
 | tup xs => obtain ⟨_, _, _, p⟩ := x; exact p.lt
 | dK kvs => obtain ⟨_, _, _, _, o, _, _, e, _⟩ := x; exact Heap.lt_size e
 | dT kvs => obtain ⟨_, _, _, _, o, _, _, e, _⟩ := x; exact Heap.lt_size e
 | set S n => obtain ⟨o, _, _, _, e, _⟩ := x; exact Heap.lt_size e
 | ins C dx fs => obtain ⟨_, _, _, e, _⟩ := x; exact Heap.lt_size e
 | own y => obtain ⟨_, e⟩ := x; exact Heap.lt_size e
 | xd fs => obtain ⟨_, ⟨_, _, _, e, _⟩, _⟩ := x; exact Heap.lt_size e
 | rng lo hi => obtain ⟨_, _, _, e⟩ := x; exact Heap.lt_size e
 | frz ob u => obtain ⟨e, _⟩ := x; exact Heap.lt_size e
 | tbl ps => exact Heap.lt_size (show h.get? a = some _ from x)
 | met f y => exact Heap.lt_size (show h.get? a = some _ from x)
 | ext φ => obtain ⟨_, ⟨_, e⟩, _⟩ := x; exact Heap.lt_size e
theorem Paired.mapP {α β : Type} {F G : α → β → Prop} {l₁ : List α} {l₂ : List β} (h : Paired F l₁ l₂) (f : ∀ a b, F a b → G a b) : Paired G l₁ l₂ := by
 induction h with
 | nil => exact .nil
 | cons r t ih => exact .cons (f _ _ r) ih
theorem ObjOk.stay (x : ObjOk P w H h a o) (k : ∀ b u, (b = a ∨ H b = some (.own a)) → h.get? b = some u → h'.get? b = some u)
  (ho : ∀ b, H b = some (.own a) → H' b = some (.own a)) (ht : ∀ b xs, H b = some (.tup xs) → H' b = some (.tup xs)) : ObjOk P w H' h' a o := by
 induction o with
 | lst xs => obtain ⟨z, its, n, r, e⟩ := x; exact ⟨z, its, n, r, k _ _ (.inl rfl) e⟩
 | tup xs => obtain ⟨z, its, r, ob, e, c⟩ := x; exact ⟨z, its, r, ob, k _ _ (.inl rfl) e, c⟩
 | dK kvs => obtain ⟨z, y, vs, r, ob, es, ep, e, c⟩ := x; exact ⟨z, y, vs, r, ob, es, ep, k _ _ (.inl rfl) e, c⟩
 | dT kvs =>
  obtain ⟨z, y, xs, r, ob, es, ep, e, c⟩ := x
  exact ⟨z, y, xs, Paired.mapP r fun p q z => ⟨z.1, ht _ _ z.2.1, z.2.2⟩, ob, es, ep, k _ _ (.inl rfl) e, c⟩
 | set S n => obtain ⟨ob, es, ep, t, e, c⟩ := x; exact ⟨ob, es, ep, t, k _ _ (.inl rfl) e, c⟩
 | ins C dx fs =>
  obtain ⟨d, z, ne, e, mA, ⟨od, es, ep, e2, c⟩, r⟩ := x
  exact ⟨ho _ d, z, ne, k _ _ (.inl rfl) e, mA, ⟨od, es, ep, k _ _ (.inr d) e2, c⟩, r⟩
 | own y => obtain ⟨ob, e⟩ := x; exact ⟨ob, k _ _ (.inl rfl) e⟩
 | xd fs => obtain ⟨mA, ⟨od, es, ep, e, c⟩, r⟩ := x; exact ⟨mA, ⟨od, es, ep, k _ _ (.inl rfl) e, c⟩, r⟩
 | rng lo hi => obtain ⟨t, u, v, e⟩ := x; exact ⟨t, u, v, k _ _ (.inl rfl) e⟩
 | frz ob u ih => obtain ⟨e, q⟩ := x; exact ⟨k _ _ (.inl rfl) e, ih q⟩
 | tbl ps =>
  have e : h.get? a = some { cls := .none, data := .fields ps } := x
  show h'.get? a = some { cls := .none, data := .fields ps }
  exact k a _ (.inl rfl) e
 | met f y =>
  have e : h.get? a = some (PySem.W.methodObj (.ref f) (.ref y)) := x
  show h'.get? a = some (PySem.W.methodObj (.ref f) (.ref y))
  exact k a _ (.inl rfl) e
 | ext φ => obtain ⟨p, ⟨o, e⟩, st⟩ := x; exact ⟨st _ _ p fun o q => k _ _ (.inl rfl) q, ⟨o, k _ _ (.inl rfl) e⟩, st⟩
theorem HOk.lt (x : HOk P w H h) (e : H a = some o) : a < h.objs.size := (x a o e).lt
theorem HOk.fresh (x : HOk P w H h) (e : h.objs.size ≤ a) : H a = none := by
 cases q : H a with
 | none => rfl
 | some u => exact absurd (Nat.lt_of_lt_of_le (x.lt q) e) (Nat.lt_irrefl _)
theorem HOk.kept (x : HOk P w H h) (k : ∀ b u, h.get? b = some u → h'.get? b = some u) : HOk P w H h' := fun a o e =>
 (x a o e).stay (fun b u _ q => k b u q) (fun _ q => q) fun _ _ q => q
theorem HOk.laid (x : HOk P w H h) (k : ∀ b u, h.get? b = some u → h'.get? b = some u) (hp : h.objs.size ≤ a) (new : ObjOk P w (upd H a o) h' a o) : HOk P w (upd H a o) h' := fun b u e => by
 have hn := x.fresh hp
 by_cases hb : b = a
 ·subst hb; rw [upd_same] at e; cases e; exact new
 ·rw [upd_ne hb] at e
  exact (x b u e).stay (fun c v _ q => k c v q) (fun c q => by rw [upd_ne (ne_of_none q hn)]; exact q) fun c xs q => by rw [upd_ne (ne_of_none q hn)]; exact q
end
noncomputable def Rd (H : Hp) (a : Addr) (u : HO) : Prop := H a = some u ∨ ∃ o, H a = some (.frz o u)
theorem Rd.ok {P : Program} {w : World} {H : Hp} {h : Heap} {a : Addr} {u : HO} (r : Rd H a u) (x : HOk P w H h) : ObjOk P w H h a u := by
 rcases r with r | ⟨o, r⟩
 ·exact x a u r
 ·obtain ⟨_, q⟩ := x a _ r
  exact q
noncomputable def Mut : Option HO → Prop
 | some (.lst _) => True
 | some (.dK _) => True
 | some (.dT _) => True
 | some (.set _ _) => True
 | some (.ins _ _ _) => True
 | some (.ext _) => True
 | _ => False
section
variable {P : Program} {w : World} {H : Hp} {h h' : Heap} {x e : Addr} {o' : HO}
theorem HOk.write (ok : HOk P w H h) (mu : Mut (H x)) (he : e = x ∨ H e = some (.own x)) (k : ∀ b u, b ≠ e → h.get? b = some u → h'.get? b = some u) (heo : ∃ u, h'.get? e = some u)
  (new : ObjOk P w (upd H x o') h' x o') : HOk P w (upd H x o') h' := fun b u q => by
 have nown : ∀ c y, H c = some (.own y) → c ≠ x := fun c y r z => by subst z; rw [r] at mu; exact mu
 have ntup : ∀ c xs, H c = some (.tup xs) → c ≠ x := fun c xs r z => by subst z; rw [r] at mu; exact mu
 by_cases hb : b = x
 ·subst hb; rw [upd_same] at q; cases q; exact new
 ·rw [upd_ne hb] at q
  by_cases hbe : b = e
  ·have q' : H b = some (.own x) := by
    rcases he with z | z
    ·exact absurd (hbe.trans z) hb
    ·rw [hbe]; exact z
   rw [q] at q'; cases q'
   obtain ⟨v, hv⟩ := heo
   exact ⟨v, by rw [hbe]; exact hv⟩
  ·refine (ok b u q).stay (fun c v hc r => k c v ?_ r) (fun c r => by rw [upd_ne (nown c b r)]; exact r) fun c xs r => by rw [upd_ne (ntup c xs r)]; exact r
   rcases hc with rfl | hc
   ·exact hbe
   ·rintro rfl
    rcases he with z | z
    ·exact nown c b hc z
    ·rw [hc] at z; cases z; exact hb rfl
end
structure Un (fs ex : List Addr) (H H' : Hp) (h h' : Heap) : Prop where
 keep : ∀ b o, h.get? b = some o → H b = none → b ∉ fs → b ∉ ex → h'.get? b = some o
 slot : ∀ b o, h.get? b = some o → H b = none → b ∈ fs → b ∉ ex → ∃ sl, h'.get? b = some { o with slots := sl }
 free : ∀ b o, h.get? b = some o → H b = none → b ∉ ex → H' b = none
 there : ∀ b o, h.get? b = some o → b ∉ ex → ∃ o', h'.get? b = some o'
 tups : ∀ b xs, H b = some (.tup xs) → H' b = some (.tup xs)
 frzs : ∀ b o u, H b = some (.frz o u) → H' b = some (.frz o u)
 tbls : ∀ b ps, H b = some (.tbl ps) → ∃ more, H' b = some (.tbl (ps ++ more))
section
variable {fs fs' ex ex' : List Addr} {H H1 H2 : Hp} {h h1 h2 h' : Heap} {a x e : Addr} {o : HO}
theorem Un.any (u : Un fs ex H H1 h h1) {b : Addr} {ob : Obj} (q : h.get? b = some ob) (n : H b = none) (hx : b ∉ ex) : ∃ sl, h1.get? b = some { ob with slots := sl } := by
 by_cases hb : b ∈ fs
 ·exact u.slot b ob q n hb hx
 ·exact ⟨ob.slots, u.keep b ob q n hb hx⟩
theorem Un.kept (k : ∀ b u, h.get? b = some u → h'.get? b = some u) : Un fs ex H H h h' :=
 ⟨fun b ob q _ _ _ => k b ob q, fun b ob q _ _ _ => ⟨ob.slots, k b ob q⟩, fun _ _ _ n _ => n, fun b ob q _ => ⟨ob, k b ob q⟩, fun _ _ q => q, fun _ _ _ q => q, fun _ ps q => ⟨#[], by rw [q]; simp⟩⟩
theorem Un.refl : Un fs ex H H h h := Un.kept fun _ _ q => q
theorem Un.laid (k : ∀ b u, h.get? b = some u → h'.get? b = some u) (hp : h.objs.size ≤ a) (hn : H a = none) : Un fs ex H (upd H a o) h h' where
 keep := fun b u q _ _ _ => k b u q
 slot := fun b u q _ _ _ => ⟨u.slots, k b u q⟩
 free := fun b u q n _ => by rw [upd_ne (Nat.ne_of_lt (Nat.lt_of_lt_of_le (Heap.lt_size q) hp))]; exact n
 there := fun b u q _ => ⟨u, k b u q⟩
 tups := fun b xs q => by rw [upd_ne (ne_of_none q hn)]; exact q
 frzs := fun b u xs q => by rw [upd_ne (ne_of_none q hn)]; exact q
 tbls := fun b ps q => ⟨#[], by rw [upd_ne (ne_of_none q hn), q]; simp⟩
theorem Un.write (mu : Mut (H x)) (he : e = x ∨ H e = some (.own x)) (k : ∀ b u, b ≠ e → h.get? b = some u → h'.get? b = some u) (heo : ∃ u, h'.get? e = some u) : Un fs ex H (upd H x o) h h' := by
 have hx : ∀ b, H b = none → b ≠ x := fun b n z => by subst z; rw [n] at mu; exact mu
 have hb : ∀ b, H b = none → b ≠ e := fun b n z => by
  subst z
  rcases he with r | r
  ·exact hx b n r
  ·rw [n] at r; cases r
 have hm : ∀ b u, H b = some u → ¬ Mut (some u) → b ≠ x := fun b u q nm z => by subst z; rw [q] at mu; exact nm mu
 refine ⟨fun b u q n _ _ => k b u (hb b n) q, fun b u q n _ _ => ⟨u.slots, k b u (hb b n) q⟩, fun b u q n _ => by rw [upd_ne (hx b n)]; exact n, fun b u q _ => ?_,
  fun b xs q => by rw [upd_ne (hm b _ q fun z => z)]; exact q, fun b u xs q => by rw [upd_ne (hm b _ q fun z => z)]; exact q, fun b ps q => ⟨#[], by rw [upd_ne (hm b _ q fun z => z), q]; simp⟩⟩
 by_cases hbe : b = e
 ·subst hbe; exact heo
 ·exact ⟨u, k b u hbe q⟩
end
noncomputable def trk (h : Heap) (H : Hp) : List Addr := (List.range h.objs.size).filter fun a => (H a).isSome
noncomputable def hidT (h : Heap) (H : Hp) : Heap := PySem.W.hideAll h (trk h H)
theorem hidT_size (h : Heap) (H : Hp) : (hidT h H).objs.size = h.objs.size := PySem.W.hideAll_size _ _
theorem hidT_get {h : Heap} {H : Hp} {b : Addr} {o : Obj} (e : h.get? b = some o) (n : H b = none) : (hidT h H).get? b = some o :=
 PySem.W.hideAll_get _ e fun hm => by
  have q : (H b).isSome = true := (List.mem_filter.mp hm).2
  rw [n] at q; simp at q
theorem of_hidT {h : Heap} {H : Hp} {b : Addr} {o : Obj} (e : (hidT h H).get? b = some o) : h.get? b = some o ∧ H b = none := by
 have e' : h.get? b = some o := PySem.W.of_hideAll (trk h H) e
 refine ⟨e', ?_⟩
 cases q : H b with
 | none => rfl
 | some x =>
  have hm : b ∈ trk h H := List.mem_filter.mpr ⟨List.mem_range.mpr (Heap.lt_size e'), by simp [q]⟩
  have z : (hidT h H).get? b = none := PySem.W.hideAll_none (trk h H) hm
  rw [z] at e; cases e
structure Mod (K : PySem.W.Frag) (mg : Str → Option Value) (base : Heap) : Prop where
 kin : K.In base
 glob : base.Ns mainGlobals mg
 blt : ∃ mb, base.Ns builtinsNs mb ∧ ∀ x : Str, x ≠ "__name__" → mb x = bootBuiltins x
 nolimit : base.NoLimit
structure Cx where
 prog : Program
 w : World
 K : PySem.W.Frag
 mg : Str → Option Value
 base : Heap
 A : Around
 N : List Str
 s₀ : Shared
 H₀ : Hp
 env : Env
 outer : List Env
 stack : List Env
 ex : List Addr
 fn : Str → Bool
 calm : Bool
 pn : List (Addr × Obj)
 xe : Value → Shared → Prop
noncomputable def frs (l : List Env) : List Addr := l.filterMap (·.frame)
noncomputable abbrev Cx.fs (X : Cx) : List Addr := frs X.outer
noncomputable def Vis (sc : Scope) (x : Str) : Prop := sc.names.lookup x = some .local ∨ sc.names.lookup x = some .cell ∨ sc.names.lookup x = some .free
noncomputable def Loc (sc : Scope) (x : Str) : Prop := sc.names.lookup x = some .local ∨ sc.names.lookup x = some .cell
noncomputable def Look (env : Env) (h : Heap) (m : Str → Option Value) (x : Str) (u : Value) : Prop :=
 (env.kindOf x = some .local ∧ m x = some u) ∨ ((env.kindOf x = some .cell ∨ env.kindOf x = some .free) ∧ ∃ c, env.cells.lookup x = some c ∧ h.IsCell c (some u))
structure Cx.Ok (X : Cx) : Prop where
 mod : Mod X.K X.mg X.base
 kind : X.env.scope.kind = .function
 glob : X.env.globals = mainGlobals
 blt : X.env.builtins = builtinsNs
 above : X.s₀.heap.objs.size ≤ X.env.locals
 inj : ∀ x y c, X.env.cells.lookup x = some c → X.env.cells.lookup y = some c → x = y
 has : ∀ x, (X.env.kindOf x = some .cell ∨ X.env.kindOf x = some .free) → ∃ c, X.env.cells.lookup x = some c
 cab : ∀ x c, X.fn x = true → X.env.cells.lookup x = some c → X.s₀.heap.objs.size ≤ c
 hd : X.calm = true → X.A.handled = none
 frames : X.A.frames = some X.stack
 stk : X.stack = X.outer ∨ (X.stack = X.env :: X.outer ∧ X.env.frame = some X.env.locals)
 exf : ∀ b ∈ X.ex, b ≠ X.env.locals ∧ ∀ x c, X.env.cells.lookup x = some c → c ≠ b
 bs : ∀ b o, X.base.get? b = some o → X.s₀.heap.get? b = some o ∧ X.H₀ b = none
 bsz : X.base.objs.size ≤ X.s₀.heap.objs.size
 noex : ∀ b o, X.base.get? b = some o → b ∉ X.ex
 exfs : ∀ b ∈ X.ex, b ∉ X.fs
 funs : X.s₀.heap.FunFrames X.base X.outer
 frf : ∀ b ∈ X.fs, X.H₀ b = none
structure Inv (X : Cx) (pins : List (Addr × Obj)) (σ : List (Option V)) (H : Hp) (s : Shared) : Prop where
 ok : X.Ok
 os : s.os = X.s₀.os
 bare : AllBare s.gens
 base : Un X.fs X.ex X.H₀ H X.s₀.heap s.heap
 loc : ∃ m, s.heap.Ns X.env.locals m ∧ ∀ (i : Nat) (x : Str) (v : V), X.N[i]? = some x → σ[i]? = some (some v) → Vis X.env.scope x → ∃ u, RelV v u ∧ Look X.env s.heap m x u
 cell : ∀ x c, X.env.cells.lookup x = some c → ∃ v, s.heap.IsCell c v
 free : H X.env.locals = none
 freeC : ∀ x c, X.env.cells.lookup x = some c → H c = none
 pin : ∀ p ∈ X.pn ++ pins, s.heap.get? p.1 = some p.2 ∧ H p.1 = none ∧ p.1 ≠ X.env.locals ∧ p.1 ∉ X.fs ∧ ∀ v, p.2.data ≠ .cell v
 hok : HOk X.prog X.w H s.heap
 len : σ.length = X.N.length
section
variable {X : Cx} {pins : List (Addr × Obj)} {σ : List (Option V)} {H H' : Hp} {s : Shared} {h' : Heap}
theorem Cx.Ok.nofr (ok : X.Ok) {b : Addr} {o : Obj} (e : X.base.get? b = some o) : b ∉ X.fs := fun hb => by
 have := (ok.funs.mem hb).1
 rw [e] at this; cases this
theorem Inv.bs (I : Inv X pins σ H s) : ∀ b o, X.base.get? b = some o → s.heap.get? b = some o ∧ H b = none := fun b o e =>
 ⟨I.base.keep b o (I.ok.bs b o e).1 (I.ok.bs b o e).2 (I.ok.nofr e) (I.ok.noex b o e), I.base.free b o (I.ok.bs b o e).1 (I.ok.bs b o e).2 (I.ok.noex b o e)⟩
theorem Inv.bk (I : Inv X pins σ H s) : ∀ b o, X.base.get? b = some o → s.heap.get? b = some o := fun b o e => (I.bs b o e).1
theorem Inv.mod (I : Inv X pins σ H s) : Mod X.K X.mg X.base := I.ok.mod
theorem Inv.kIn (I : Inv X pins σ H s) : X.K.In s.heap := I.ok.mod.kin.keeps I.bk
theorem Inv.lt (I : Inv X pins σ H s) : X.env.locals < s.heap.objs.size := let ⟨_, hn, _⟩ := I.loc; hn.lt
theorem Inv.sz (I : Inv X pins σ H s) : X.s₀.heap.objs.size ≤ s.heap.objs.size := Nat.le_trans I.ok.above (Nat.le_of_lt I.lt)
theorem Inv.nofs (I : Inv X pins σ H s) {a : Addr} (h : s.heap.objs.size ≤ a) : a ∉ X.fs := fun hb => by
 obtain ⟨_, o, ho, _⟩ := I.ok.funs.mem hb
 exact absurd (Nat.lt_of_lt_of_le (Heap.lt_size ho) (Nat.le_trans I.sz h)) (Nat.lt_irrefl _)
theorem Inv.cne (I : Inv X pins σ H s) : ∀ x c, X.env.cells.lookup x = some c → c ≠ X.env.locals := fun x c e z => by
 obtain ⟨v, o, ho, hd⟩ := I.cell x c e
 obtain ⟨m, ⟨o', es, ep, ho', hd', _⟩, _⟩ := I.loc
 rw [z, ho'] at ho; cases ho; rw [hd'] at hd; cases hd
theorem Inv.funs (I : Inv X pins σ H s) : s.heap.FunFrames X.base X.outer := by
 have all : ∀ (l : List Env), (∀ b ∈ frs l, b ∈ X.fs) → X.s₀.heap.FunFrames X.base l → s.heap.FunFrames X.base l := by
  intro l
  induction l with
  | nil => intro _ _; trivial
  | cons env r ih =>
   intro hs hl
   obtain ⟨hk, ⟨L, o, hf, hn, ho, hd⟩, hr⟩ := hl
   have hL : L ∈ X.fs := hs L (by unfold frs; rw [List.filterMap_cons, hf]; exact List.mem_cons_self)
   obtain ⟨sl, e⟩ := I.base.slot L o ho (I.ok.frf L hL) hL fun z => I.ok.exfs L z hL
   exact ⟨hk, ⟨L, _, hf, hn, e, hd⟩, ih (fun b hb => hs b (by unfold frs; rw [List.filterMap_cons, hf]; exact List.mem_cons_of_mem _ hb)) hr⟩
 exact all X.outer (fun _ hb => hb) I.ok.funs
theorem Inv.stack (I : Inv X pins σ H s) : s.heap.FunFrames X.base X.stack := by
 rcases I.ok.stk with e | ⟨e, hf⟩
 ·rw [e]; exact I.funs
 ·rw [e]
  obtain ⟨m, hn, _⟩ := I.loc
  refine .cons (by rw [I.ok.kind]; decide) hf hn ?_ I.funs
  exact Heap.get?_none_of_le (Nat.le_trans I.ok.bsz I.ok.above)
theorem Inv.stkSub (I : Inv X pins σ H s) : ∀ b ∈ frs X.stack, b ∈ X.env.locals :: X.fs := fun b hb => by
 rcases I.ok.stk with e | ⟨e, hf⟩
 ·rw [e] at hb; exact List.mem_cons_of_mem _ hb
 ·rw [e] at hb
  unfold frs at hb
  rw [List.filterMap_cons, hf] at hb
  exact hb
theorem Inv.stkFree (I : Inv X pins σ H s) : ∀ b ∈ frs X.stack, H b = none := fun b hb => by
 rcases List.mem_cons.mp (I.stkSub b hb) with e | hb
 ·rw [e]; exact I.free
 ·obtain ⟨_, o, ho, _⟩ := I.ok.funs.mem hb
  exact I.base.free b o ho (I.ok.frf b hb) fun z => I.ok.exfs b z hb
theorem Inv.step {g' : Array GenState} {t' : Nat} {d' : Drawn} {ch : List Addr} (I : Inv X pins σ H s)
  (hch : ∀ b ∈ ch, (b ∈ X.ex ∨ X.s₀.heap.objs.size ≤ b) ∧ b ≠ X.env.locals ∧ (∀ x c, X.env.cells.lookup x = some c → c ≠ b) ∧ ∀ p ∈ X.pn ++ pins, p.1 ≠ b)
  (keep : ∀ b o, b ≠ X.env.locals → b ∉ X.fs → b ∉ ch → s.heap.get? b = some o → H b = none → h'.get? b = some o)
  (slot : ∀ b o, b ≠ X.env.locals → b ∈ X.fs → b ∉ ch → s.heap.get? b = some o → H b = none → ∃ sl, h'.get? b = some { o with slots := sl }) (free : ∀ b o, b ∉ ch → s.heap.get? b = some o → H b = none → H' b = none)
  (there : ∀ b o, b ∉ ch → s.heap.get? b = some o → ∃ o', h'.get? b = some o')
  (tups : ∀ b xs, H b = some (.tup xs) → H' b = some (.tup xs)) (frzs : ∀ b o u, H b = some (.frz o u) → H' b = some (.frz o u)) (tbls : ∀ b ps, H b = some (.tbl ps) → ∃ more, H' b = some (.tbl (ps ++ more)))
  (ns : ∀ m, s.heap.Ns X.env.locals m → h'.Ns X.env.locals m) (hok : HOk X.prog X.w H' h') (hg : AllBare g') :
  Inv X pins σ H' { s with heap := h', gens := g', drawn := d', toks := t' } := by
 have neL : ∀ b o, X.s₀.heap.get? b = some o → b ≠ X.env.locals := fun b o e => Nat.ne_of_lt (Nat.lt_of_lt_of_le (Heap.lt_size e) I.ok.above)
 have neC : ∀ b o, X.s₀.heap.get? b = some o → b ∉ X.ex → b ∉ ch := fun b o e hx hb => by
  rcases (hch b hb).1 with z | z
  ·exact hx z
  ·exact absurd (Nat.lt_of_lt_of_le (Heap.lt_size e) z) (Nat.lt_irrefl _)
 have cellK : ∀ x c, X.env.cells.lookup x = some c → ∀ v, s.heap.IsCell c v → h'.IsCell c v := fun x c e v ⟨o, ho, hd⟩ => by
  have nch : c ∉ ch := fun z => (hch c z).2.2.1 x c e rfl
  by_cases hc : c ∈ X.fs
  ·obtain ⟨sl, q⟩ := slot c o (I.cne x c e) hc nch ho (I.freeC x c e)
   exact ⟨_, q, hd⟩
  ·exact ⟨o, keep c o (I.cne x c e) hc nch ho (I.freeC x c e), hd⟩
 refine ⟨I.ok, I.os, hg, ⟨fun b o e n hb hx => ?_, fun b o e n hb hx => ?_, fun b o e n hx => ?_, fun b o e hx => ?_, fun b xs e => tups b xs (I.base.tups b xs e), fun b o xs e => frzs b o xs (I.base.frzs b o xs e), fun b ps e => ?_⟩, ?_, fun x c e => ?_, ?_, fun x c e => ?_, fun p hp => ?_, hok, I.len⟩
 ·exact keep b o (neL b o e) hb (neC b o e hx) (I.base.keep b o e n hb hx) (I.base.free b o e n hx)
 ·obtain ⟨sl, e1⟩ := I.base.slot b o e n hb hx
  obtain ⟨sl', e2⟩ := slot b _ (neL b o e) hb (neC b o e hx) e1 (I.base.free b o e n hx)
  exact ⟨sl', e2⟩
 ·obtain ⟨o', e1⟩ := I.base.there b o e hx
  exact free b o' (neC b o e hx) e1 (I.base.free b o e n hx)
 ·obtain ⟨o', e1⟩ := I.base.there b o e hx
  exact there b o' (neC b o e hx) e1
 ·obtain ⟨m1, e1⟩ := I.base.tbls b ps e
  obtain ⟨m2, e2⟩ := tbls b _ e1
  exact ⟨m1 ++ m2, by rw [e2, Array.append_assoc]⟩
 ·obtain ⟨m, hn, hl⟩ := I.loc
  refine ⟨m, ns m hn, fun i x v e1 e2 e3 => ?_⟩
  obtain ⟨u, r, l⟩ := hl i x v e1 e2 e3
  refine ⟨u, r, ?_⟩
  rcases l with l | ⟨k, c, e, z⟩
  ·exact .inl l
  ·exact .inr ⟨k, c, e, cellK x c e _ z⟩
 ·obtain ⟨v, z⟩ := I.cell x c e
  exact ⟨v, cellK x c e v z⟩
 ·obtain ⟨m, ⟨o, _, _, ho, _⟩, _⟩ := I.loc
  exact free _ o (fun z => (hch _ z).2.1 rfl) ho I.free
 ·obtain ⟨v, o, ho, hd⟩ := I.cell x c e
  exact free c o (fun z => (hch c z).2.2.1 x c e rfl) ho (I.freeC x c e)
 ·obtain ⟨e, n, ne, nf, d⟩ := I.pin p hp
  have nch : p.1 ∉ ch := fun z => (hch p.1 z).2.2.2 p hp rfl
  exact ⟨keep p.1 p.2 ne nf nch e n, free p.1 p.2 nch e n, ne, nf, d⟩
theorem Inv.un {t' : Nat} (I : Inv X pins σ H s) (u : Un X.fs [] H H' s.heap h') (hok : HOk X.prog X.w H' h') : Inv X pins σ H' { s with heap := h', toks := t' } := by
 obtain ⟨m, ⟨o, es, ep, ho, r⟩, _⟩ := id I.loc
 obtain ⟨sl, hL⟩ := u.any ho I.free (by simp)
 exact I.step (g' := s.gens) (d' := s.drawn) (ch := []) (fun _ z => nomatch z) (fun b o _ hb _ e n => u.keep b o e n hb (by simp)) (fun b o _ hb _ e n => u.slot b o e n hb (by simp)) (fun b o _ e n => u.free b o e n (by simp)) (fun b o _ e => u.there b o e (by simp)) u.tups u.frzs u.tbls (fun m' hm => by
  obtain ⟨o', es', ep', ho', r'⟩ := hm
  rw [ho] at ho'; cases ho'
  exact ⟨_, es', ep', hL, r'⟩) hok I.bare
theorem Inv.call {g' : Array GenState} {t' : Nat} {d' : Drawn} {ch : List Addr} (I : Inv X pins σ H s) (u : Un (frs X.stack) ch H H' s.heap h') (hok : HOk X.prog X.w H' h') (hg : AllBare g')
  (hch : ∀ b ∈ ch, (b ∈ X.ex ∨ X.s₀.heap.objs.size ≤ b) ∧ b ≠ X.env.locals ∧ (∀ x c, X.env.cells.lookup x = some c → c ≠ b) ∧ ∀ p ∈ X.pn ++ pins, p.1 ≠ b) :
  Inv X pins σ H' { s with heap := h', gens := g', drawn := d', toks := t' } := by
 obtain ⟨m, ⟨o, es, ep, ho, r⟩, _⟩ := id I.loc
 obtain ⟨sl, hL⟩ := u.any ho I.free fun z => (hch _ z).2.1 rfl
 exact I.step (ch := ch) hch (fun b o hL hb hc e n => u.keep b o e n (fun z => (List.mem_cons.mp (I.stkSub b z)).elim hL hb) hc) (fun b o _ _ hc e n => u.any e n hc) (fun b o hc e n => u.free b o e n hc) (fun b o hc e => u.there b o e hc) u.tups u.frzs u.tbls (fun m' hm => by
  obtain ⟨o', es', ep', ho', r'⟩ := hm
  rw [ho] at ho'; cases ho'
  exact ⟨_, es', ep', hL, r'⟩) hok hg
theorem Inv.turned {t' : Nat} {it : Addr} (I : Inv X pins σ H s) (k : ∀ b o, b ≠ it → s.heap.get? b = some o → h'.get? b = some o) (hn : H it = none) (hL : it ≠ X.env.locals)
  (h1 : it ∈ X.ex ∨ X.s₀.heap.objs.size ≤ it) (h2 : ∀ x c, X.env.cells.lookup x = some c → c ≠ it) (h3 : ∀ p ∈ X.pn ++ pins, p.1 ≠ it) : Inv X pins σ H { s with heap := h', toks := t' } := by
 have nit : ∀ b u, H b = some u → b ≠ it := fun b u e z => by rw [z, hn] at e; cases e
 refine I.step (g' := s.gens) (d' := s.drawn) (ch := [it]) (fun b hb => ?_) (fun b o _ _ hc e _ => k b o (fun z => hc (by simp [z])) e) (fun b o _ _ hc e _ => ⟨o.slots, k b o (fun z => hc (by simp [z])) e⟩) (fun _ _ _ _ n => n)
  (fun b o hc e => ⟨o, k b o (fun z => hc (by simp [z])) e⟩) (fun _ _ e => e) (fun _ _ _ e => e) (fun b ps e => ⟨#[], by rw [e]; simp⟩) (fun m hm => ?_) (fun b u e => ?_) I.bare
 ·have e : b = it := by simpa using hb
  subst e
  exact ⟨h1, hL, h2, h3⟩
 ·obtain ⟨o, es, ep, ho, r⟩ := hm
  exact ⟨o, es, ep, k _ o (Ne.symm hL) ho, r⟩
 ·refine (I.hok b u e).stay (fun c v hc q => k c v ?_ q) (fun _ q => q) fun _ _ q => q
  rcases hc with z | z
  ·rw [z]; exact nit b u e
  ·exact nit c _ z
theorem Inv.tok (I : Inv X pins σ H s) (t : Nat) : Inv X pins σ H { s with toks := t } := I.un (h' := s.heap) (t' := t) Un.refl I.hok
theorem Inv.kept {t' : Nat} (I : Inv X pins σ H s) (k : ∀ b u, s.heap.get? b = some u → h'.get? b = some u) : Inv X pins σ H { s with heap := h', toks := t' } := I.un (Un.kept k) (I.hok.kept k)
theorem Inv.laid {a : Addr} {o : HO} {t' : Nat} (I : Inv X pins σ H s) (k : ∀ b u, s.heap.get? b = some u → h'.get? b = some u) (hp : s.heap.objs.size ≤ a) (new : ObjOk X.prog X.w (upd H a o) h' a o) :
  Inv X pins σ (upd H a o) { s with heap := h', toks := t' } := I.un (Un.laid k hp (I.hok.fresh hp)) (I.hok.laid k hp new)
theorem Inv.write {x e : Addr} {o : HO} {t' : Nat} (I : Inv X pins σ H s) (mu : Mut (H x)) (he : e = x ∨ H e = some (.own x)) (k : ∀ b u, b ≠ e → s.heap.get? b = some u → h'.get? b = some u) (heo : ∃ u, h'.get? e = some u)
  (new : ObjOk X.prog X.w (upd H x o) h' x o) : Inv X pins σ (upd H x o) { s with heap := h', toks := t' } := I.un (Un.write mu he k heo) (I.hok.write mu he k heo new)
theorem Inv.pins_of {pins' : List (Addr × Obj)} (I : Inv X pins σ H s) (h : ∀ p ∈ pins', s.heap.get? p.1 = some p.2 ∧ H p.1 = none ∧ p.1 ≠ X.env.locals ∧ p.1 ∉ X.fs ∧ ∀ v, p.2.data ≠ .cell v) : Inv X pins' σ H s :=
 ⟨I.ok, I.os, I.bare, I.base, I.loc, I.cell, I.free, I.freeC, fun p hp => (List.mem_append.mp hp).elim (fun z => I.pin p (List.mem_append_left _ z)) (h p), I.hok, I.len⟩
theorem nodup_ix {N : List Str} (hN : N.Nodup) {i j : Nat} {x : Str} (a : N[i]? = some x) (b : N[j]? = some x) : i = j := by
 obtain ⟨h1, e1⟩ := List.getElem?_eq_some_iff.mp a
 obtain ⟨h2, e2⟩ := List.getElem?_eq_some_iff.mp b
 exact (List.getElem_inj hN).mp (e1.trans e2.symm)
theorem store_ok2 {M : Model} {A : Around} {E : Value → Shared → Prop} {i : Nat} {x : Str} {v : V} {u : Value} {Q : Unit → Shared → Prop} (I : Inv X pins σ H s) (hN : X.N.Nodup) (hi : X.N[i]? = some x) (hx : Loc X.env.scope x) (r : RelV v u)
  (h : ∀ s', Inv X pins (σ.set i (some v)) H s' → (∃ a, Heap.SameBut a s.heap s'.heap ∧ (a = X.env.locals ∨ X.env.cells.lookup x = some a)) → Q () s') (hf : X.fn x = true ∨ X.env.scope.names.lookup x = some .local := by first | exact .inl rfl | exact .inr rfl | assumption) : wpAny M A (storeName X.env x u) Q E s := by
 obtain ⟨m, hn, hl⟩ := id I.loc
 have hcls : (X.env.scope.kind == .class || (X.env.scope.kind == .module && X.env.locals != X.env.globals)) = false := by rw [I.ok.kind]; rfl
 have hiσ : i < σ.length := by rw [I.len]; exact (List.getElem?_eq_some_iff.mp hi).1
 have cne := I.cne
 have tracked : ∀ {a : Addr} {h' : Heap}, (∃ o, s.heap.get? a = some o ∧ H a = none) → Heap.SameBut a s.heap h' → HOk X.prog X.w H h' := fun {a h'} ha hs b ob e => by
  obtain ⟨_, _, hfree⟩ := ha
  refine (I.hok b ob e).stay (fun c w' hc q => (hs.2 c ?_).trans q) (fun _ q => q) fun _ _ q => q
  rintro rfl
  rcases hc with rfl | hc
  ·rw [hfree] at e; cases e
  ·rw [hfree] at hc; cases hc
 rcases hx with hk | hk
 ·refine wpAny_storeName_local hk hn (fun h' hn' hs => ?_) hcls
  obtain ⟨oL, _, _, hoL, _⟩ := id hn
  refine h _ ⟨I.ok, I.os, I.bare, ⟨fun b o e n hb hx => ?_, fun b o e n hb hx => ?_, I.base.free, fun b o e hx => ?_, I.base.tups, I.base.frzs, I.base.tbls⟩, ⟨_, hn', fun j y v' e1 e2 e3 => ?_⟩, fun y c e => ?_, I.free, I.freeC, fun p hp => ?_, tracked ⟨oL, hoL, I.free⟩ hs, by simpa using I.len⟩ ⟨_, hs, .inl rfl⟩
  ·exact (hs.2 b (Nat.ne_of_lt (Nat.lt_of_lt_of_le (Heap.lt_size e) I.ok.above))).trans (I.base.keep b o e n hb hx)
  ·obtain ⟨sl, e1⟩ := I.base.slot b o e n hb hx
   exact ⟨sl, (hs.2 b (Nat.ne_of_lt (Nat.lt_of_lt_of_le (Heap.lt_size e) I.ok.above))).trans e1⟩
  ·obtain ⟨o', e1⟩ := I.base.there b o e hx
   exact ⟨o', (hs.2 b (Nat.ne_of_lt (Nat.lt_of_lt_of_le (Heap.lt_size e) I.ok.above))).trans e1⟩
  ·by_cases hj : j = i
   ·subst hj
    rw [hi] at e1; cases e1
    rw [List.getElem?_set_self hiσ] at e2
    cases e2
    exact ⟨u, r, .inl ⟨hk, by simp⟩⟩
   ·rw [List.getElem?_set_ne (Ne.symm hj)] at e2
    obtain ⟨u', r', q⟩ := hl j y v' e1 e2 e3
    refine ⟨u', r', ?_⟩
    rcases q with ⟨k, e⟩ | ⟨k, c, e, z⟩
    ·refine .inl ⟨k, ?_⟩
     have : y ≠ x := fun e => hj (nodup_ix hN e1 (e ▸ hi))
     simp [this, e]
    ·exact .inr ⟨k, c, e, z.sameBut hs (cne y c e)⟩
  ·obtain ⟨w', z⟩ := I.cell y c e
   exact ⟨w', z.sameBut hs (cne y c e)⟩
  ·obtain ⟨e, n, ne, nf, d⟩ := I.pin p hp
   exact ⟨(hs.2 p.1 ne).trans e, n, ne, nf, d⟩
 ·have hfn : X.fn x = true := by
   rcases hf with z | z
   ·exact z
   ·rw [z] at hk; cases hk
  obtain ⟨c, hc⟩ := I.ok.has x (.inl hk)
  obtain ⟨w', z⟩ := I.cell x c hc
  refine wpAny_storeName_cell I.ok.kind hk hc z (fun h' hc' hs => ?_)
  obtain ⟨oc, hoc, hocd⟩ := id z
  refine h { s with heap := h' } ⟨I.ok, I.os, I.bare, ⟨fun b o e n hb hx => ?_, fun b o e n hb hx => ?_, I.base.free, fun b o e hx => ?_, I.base.tups, I.base.frzs, I.base.tbls⟩, ⟨m, hn.sameBut hs (Ne.symm (cne x c hc)), fun j y v' e1 e2 e3 => ?_⟩, fun y c' e => ?_, I.free, I.freeC, fun p hp => ?_, tracked ⟨oc, hoc, I.freeC x c hc⟩ hs, by simpa using I.len⟩ ⟨c, hs, .inr hc⟩
  ·exact (hs.2 b (Nat.ne_of_lt (Nat.lt_of_lt_of_le (Heap.lt_size e) (I.ok.cab x c hfn hc)))).trans (I.base.keep b o e n hb hx)
  ·obtain ⟨sl, e1⟩ := I.base.slot b o e n hb hx
   exact ⟨sl, (hs.2 b (Nat.ne_of_lt (Nat.lt_of_lt_of_le (Heap.lt_size e) (I.ok.cab x c hfn hc)))).trans e1⟩
  ·obtain ⟨o', e1⟩ := I.base.there b o e hx
   exact ⟨o', (hs.2 b (Nat.ne_of_lt (Nat.lt_of_lt_of_le (Heap.lt_size e) (I.ok.cab x c hfn hc)))).trans e1⟩
  ·by_cases hj : j = i
   ·subst hj
    rw [hi] at e1; cases e1
    rw [List.getElem?_set_self hiσ] at e2
    cases e2
    exact ⟨u, r, .inr ⟨.inl hk, c, hc, hc'⟩⟩
   ·rw [List.getElem?_set_ne (Ne.symm hj)] at e2
    obtain ⟨u', r', q⟩ := hl j y v' e1 e2 e3
    refine ⟨u', r', ?_⟩
    rcases q with q | ⟨k, c', e, z'⟩
    ·exact .inl q
    ·refine .inr ⟨k, c', e, z'.sameBut hs ?_⟩
     rintro rfl
     exact hj (nodup_ix hN e1 (I.ok.inj _ _ _ e hc ▸ hi))
  ·by_cases hcc : c' = c
   ·subst hcc; exact ⟨_, hc'⟩
   ·obtain ⟨w2, z2⟩ := I.cell y c' e
    exact ⟨w2, z2.sameBut hs hcc⟩
  ·obtain ⟨e, n, ne, nf, d⟩ := I.pin p hp
   refine ⟨(hs.2 p.1 ?_).trans e, n, ne, nf, d⟩
   intro q
   rw [q, hoc] at e
   have q' : oc = p.2 := Option.some.inj e
   exact d w' (by rw [← q']; exact hocd)
theorem store_ok {M : Model} {A : Around} {E : Value → Shared → Prop} {i : Nat} {x : Str} {v : V} {u : Value} {Q : Unit → Shared → Prop} (I : Inv X pins σ H s) (hN : X.N.Nodup) (hi : X.N[i]? = some x) (hx : Loc X.env.scope x) (r : RelV v u)
  (h : ∀ s', Inv X pins (σ.set i (some v)) H s' → Q () s') (hf : X.fn x = true ∨ X.env.scope.names.lookup x = some .local := by first | exact .inl rfl | exact .inr rfl | assumption) : wpAny M A (storeName X.env x u) Q E s :=
 store_ok2 I hN hi hx r (fun s' I' _ => h s' I') hf
theorem Inv.call' {s' : Shared} {ch : List Addr} (I : Inv X pins σ H s) (ho : s'.os = s.os) (u : Un (frs X.stack) ch H H' s.heap s'.heap) (hok : HOk X.prog X.w H' s'.heap) (hg : AllBare s'.gens)
  (hch : ∀ b ∈ ch, (b ∈ X.ex ∨ X.s₀.heap.objs.size ≤ b) ∧ b ≠ X.env.locals ∧ (∀ x c, X.env.cells.lookup x = some c → c ≠ b) ∧ ∀ p ∈ X.pn ++ pins, p.1 ≠ b) : Inv X pins σ H' s' := by
 obtain ⟨h', g', d', t', o'⟩ := s'
 have e : o' = s.os := ho
 subst e
 exact I.call (g' := g') (t' := t') (d' := d') u hok hg hch
end
noncomputable abbrev XK := Value → Option Addr → Hp → Prop
noncomputable abbrev St := List (Option V)
noncomputable abbrev VK := V → Hp → Prop
noncomputable abbrev TE := St → Hp → VK → Prop
noncomputable abbrev TT := St → Hp → (Bool → Hp → Prop) → Prop
noncomputable abbrev TA := St → Hp → (List V → Hp → Prop) → Prop
structure Ends where
 nx : St → Hp → Prop
 rt : VK
 bk : St → Hp → Prop := fun _ _ => False
 ct : St → Hp → Prop := fun _ _ => False
noncomputable abbrev TS := Ends → St → Hp → Prop
noncomputable def Ends.sq (D : Ends) (u : TS) : Ends := { D with nx := u D }
noncomputable def Ends.lp (D : Ends) (N : St → Hp → Prop) : Ends := { D with nx := N, ct := N, bk := D.nx }
inductive EP (X : Cx) (pins : List (Addr × Obj)) (σ : St) (Q : VK) (u : Value) (s' : Shared) : Prop
 | mk (v : V) (H' : Hp) (i : Inv X pins σ H' s') (r : RelV v u) (q : Q v H')
inductive TP (X : Cx) (pins : List (Addr × Obj)) (σ : St) (Q : Bool → Hp → Prop) (b : Bool) (s' : Shared) : Prop
 | mk (H' : Hp) (i : Inv X pins σ H' s') (q : Q b H')
inductive AP (X : Cx) (pins : List (Addr × Obj)) (σ : St) (Q : List V → Hp → Prop) (us : List Value) (s' : Shared) : Prop
 | mk (vs : List V) (H' : Hp) (i : Inv X pins σ H' s') (r : Vals vs us) (q : Q vs H')
noncomputable def SP (X : Cx) (pins : List (Addr × Obj)) (D : Ends) (f : Flow) (s' : Shared) : Prop :=
 match f with
 | .next => ∃ σ' H', Inv X pins σ' H' s' ∧ D.nx σ' H'
 | .brk => ∃ σ' H', Inv X pins σ' H' s' ∧ D.bk σ' H'
 | .cont => ∃ σ' H', Inv X pins σ' H' s' ∧ D.ct σ' H'
 | .ret u => ∃ v σ' H', Inv X pins σ' H' s' ∧ RelV v u ∧ D.rt v H'
noncomputable def PE (X : Cx) (e : Expr) (t : TE) : Prop :=
 ∀ (pins : List (Addr × Obj)) (s : Shared) (σ : St) (H : Hp) (Q : VK), Inv X pins σ H s → t σ H Q → wpAny (model X.prog X.w) X.A (eval e X.env) (EP X pins σ Q) X.xe s
noncomputable def PT (X : Cx) (e : Expr) (t : TT) : Prop :=
 ∀ (pins : List (Addr × Obj)) (s : Shared) (σ : St) (H : Hp) (Q : Bool → Hp → Prop), Inv X pins σ H s → t σ H Q → wpAny (model X.prog X.w) X.A (isTrue e X.env (eval e X.env)) (TP X pins σ Q) X.xe s
noncomputable def PW (X : Cx) (e : Expr) (t : TT) : Prop :=
 ∀ (whole : Sem Value) (pins : List (Addr × Obj)) (s : Shared) (σ : St) (H : Hp) (Q : Bool → Hp → Prop), Inv X pins σ H s → t σ H Q → wpAny (model X.prog X.w) X.A (isTrue e X.env whole) (TP X pins σ Q) X.xe s
theorem PW.pt {X : Cx} {e : Expr} {t : TT} (h : PW X e t) : PT X e t := h _
noncomputable def PA (X : Cx) (es : List Expr) (t : TA) : Prop :=
 ∀ (pos : Pos) (pins : List (Addr × Obj)) (s : Shared) (σ : St) (H : Hp) (Q : List V → Hp → Prop), Inv X pins σ H s → t σ H Q → wpAny (model X.prog X.w) X.A (spliced (backTo pos (starEach es X.env))) (AP X pins σ Q) X.xe s
noncomputable def PS (X : Cx) (st : Stmt) (t : TS) : Prop :=
 ∀ (pins : List (Addr × Obj)) (s : Shared) (σ : St) (H : Hp) (D : Ends), Inv X pins σ H s → t D σ H → wpAny (model X.prog X.w) X.A (exec st X.env) (SP X pins D) X.xe s
noncomputable def PSs (X : Cx) (st : List Stmt) (t : TS) : Prop :=
 ∀ (pins : List (Addr × Obj)) (s : Shared) (σ : St) (H : Hp) (D : Ends), Inv X pins σ H s → t D σ H → wpAny (model X.prog X.w) X.A (execs st X.env) (SP X pins D) X.xe s
theorem thn {α : Type} {t : Sem α} {Q Q' : α → Shared → Prop} {M : Model} {A : Around} {E : Value → Shared → Prop} {s : Shared} (h : wpAny M A t Q E s) (hQ : ∀ a s, Q a s → Q' a s) : wpAny M A t Q' E s := wpAny_mono h hQ fun _ _ x => x
section
variable {X : Cx}
inductive tVarP (i : Nat) (σ : St) (H : Hp) (Q : VK) : Prop
 | mk (v : _) (h_0 : σ[i]? = some (some v)) (h_1 : Q v H)
noncomputable def tVar (i : Nat) : TE := fun σ H Q => tVarP i σ H Q
noncomputable def tC (v : V) : TE := fun _ H Q => Q v H
theorem pe_var {i : Nat} {x : Str} {pos : Pos} (hN : X.N[i]? = some x) (hv : Vis X.env.scope x) (hd : (x == ("__debug__" : Str)) = false := by decide) (hcd : (x == ("__classdict__" : Str)) = false := by decide) : PE X (.Name x pos) (tVar i) := by
 intro pins s σ H Q I h
 obtain ⟨v, e, h⟩ := h
 obtain ⟨m, hn, hl⟩ := I.loc
 obtain ⟨u, r, l⟩ := hl i x v hN e hv
 have fin : EP X pins σ Q u s := ⟨v, H, I, r, h⟩
 rcases l with ⟨hk, hm⟩ | ⟨hk, c, hc, hcell⟩
 ·exact wpAny_Name (wpAny_loadName_local I.ok.kind hk hn hm fin) hd
 ·rcases hk with hk | hk
  ·exact wpAny_Name (wpAny_loadName_cell I.ok.kind hk hc hcell fin) hd
  ·exact wpAny_Name (wpAny_loadName_free I.ok.kind hk hc hcell fin hcd) hd
theorem pe_int {i j pos} : PE X (.Constant (.int i) j pos) (tC (.int i)) := fun _ _ _ H _ I h => wpAny_Constant_int ⟨.int i, H, I.tok _, ⟨_, rfl⟩, h⟩
theorem pe_bl {b j pos} : PE X (.Constant (.bool b) j pos) (tC (.bl b)) := fun _ _ _ H _ I h => Constant_bool ⟨.bl b, H, I, rfl, h⟩
theorem pe_non {j pos} : PE X (.Constant .none j pos) (tC .non) := fun _ _ _ H _ I h => Constant_none ⟨.non, H, I, rfl, h⟩
theorem pe_str {x j pos} : PE X (.Constant (.str x) j pos) (tC (.str x)) := fun _ _ _ H _ I h => Calls.Constant_str ⟨.str x, H, I.tok _, ⟨_, rfl⟩, h⟩
noncomputable def Gl (X : Cx) (x : Str) : Prop := X.env.kindOf x = some .globalImplicit
theorem ld_glob {E : Value → Shared → Prop} {pins : List (Addr × Obj)} {s : Shared} {σ : St} {H : Hp} {x : Str} {u : Value} {pos : Pos} {Q : Value → Shared → Prop} (I : Inv X pins σ H s) (hg : Gl X x) (hm : X.mg x = some u) (h : Q u s)
  (hd : (x == ("__debug__" : Str)) = false := by decide) : wpAny (model X.prog X.w) X.A (eval (.Name x pos) X.env) Q E s :=
 Calls.Name_function_global I.ok.kind hg (Calls.loadGlobal_global (by rw [I.ok.glob]; exact I.mod.glob.keeps I.bk) hm h) hd
theorem ld_blt {E : Value → Shared → Prop} {pins : List (Addr × Obj)} {s : Shared} {σ : St} {H : Hp} {x : Str} {u : Value} {pos : Pos} {Q : Value → Shared → Prop} (I : Inv X pins σ H s) (hg : Gl X x) (hm : X.mg x = none) (hv : bootBuiltins x = some u) (h : Q u s)
  (hn : x ≠ "__name__" := by decide) (hd : (x == ("__debug__" : Str)) = false := by decide) : wpAny (model X.prog X.w) X.A (eval (.Name x pos) X.env) Q E s := by
 obtain ⟨mb, h1, h2⟩ := I.mod.blt
 exact Calls.Name_function_global I.ok.kind hg (Calls.loadGlobal_builtin (by rw [I.ok.glob]; exact I.mod.glob.keeps I.bk) hm (by rw [I.ok.blt]; exact h1.keeps I.bk) ((h2 x hn).trans hv) h) hd
theorem pe_bltn {x : Str} {v : V} {u : Value} {pos : Pos} (hg : Gl X x) (hm : X.mg x = none) (hv : bootBuiltins x = some u) (r : RelV v u) (hn : x ≠ "__name__" := by decide) (hd : (x == ("__debug__" : Str)) = false := by decide) : PE X (.Name x pos) (tC v) :=
 fun _ _ _ H _ I h => ld_blt I hg hm hv ⟨v, H, I, r, h⟩ hn hd
variable {a b : Expr} {ta tb : TE} {pos : Pos}
noncomputable def PC (X : Cx) (op : CmpOp) (a b : Expr) (t : TE) : Prop :=
 ∀ (pins : List (Addr × Obj)) (s : Shared) (σ : St) (H : Hp) (Q : VK), Inv X pins σ H s → t σ H Q →
  wpAny (model X.prog X.w) X.A (eval a X.env) (fun v s₁ => wpAny (model X.prog X.w) X.A (eval b X.env) (fun u s₂ => wpAny (model X.prog X.w) X.A (compareOp op v u) (EP X pins σ Q) X.xe s₂) X.xe s₁) X.xe s
inductive BoolP (x : V) (H : Hp) (Q : Bool → Hp → Prop) : Prop
 | mk (c : Bool) (h : x = .bl c) (q : Q c H)
noncomputable def tB (t : TE) : TT := fun σ H Q => t σ H fun x H1 => BoolP x H1 Q
theorem pe_cmp {op : CmpOp} {t : TE} (h : PC X op a b t) (h1 : behindInMarks op b = false := by first | exact nobehind _ (by decide) (by decide) | rfl) : PE X (.Compare a [op] [b] pos) t := fun pins s σ H Q I hw => wpAny_Compare1 (h pins s σ H Q I hw) h1
theorem pt_cmp {op : CmpOp} {t : TE} (h : PC X op a b t) (h1 : behindInMarks op b = false := by first | exact nobehind _ (by decide) (by decide) | rfl) : PT X (.Compare a [op] [b] pos) (tB t) := by
 intro pins s σ H Q I hw
 refine wpAny_isTrue_Compare1 (thn (h pins s σ H _ I hw) fun v s1 h1 => thn h1 fun u s2 h2 => thn h2 fun c s3 ⟨x, H1, I1, r1, q1⟩ => ?_) h1
 obtain ⟨d, rfl, q⟩ := q1
 cases r1
 exact wpAny_truthy_bool ⟨H1, I1, q⟩
theorem pt_val {e : Expr} {t : TE} (h : PE X e t) (he : ∀ whole, isTrue e X.env whole = (do let v ← whole; standAt e.pos; holding [v] (truthy v)) := by intro _; rfl) : PT X e (tB t) := by
 intro pins s σ H Q I hw
 refine isTrue_plain (thn (h pins s σ H _ I hw) fun v s1 ⟨x, H1, I1, r1, q1⟩ => ?_) (he _)
 obtain ⟨d, rfl, q⟩ := q1
 cases r1
 exact wpAny_truthy_bool ⟨H1, I1, q⟩
variable {tA tB' : TT} {rest : List Expr}
noncomputable def tAnd (t u : TT) : TT := fun σ H Q => t σ H fun c H1 => if c = true then u σ H1 Q else Q false H1
noncomputable def tOr (t u : TT) : TT := fun σ H Q => t σ H fun c H1 => if c = true then Q true H1 else u σ H1 Q
noncomputable def tNot (t : TT) : TT := fun σ H Q => t σ H fun c H1 => Q (!c) H1
theorem pw_and1 (ha : PT X a tA) : PW X (.BoolOp .And [a] pos) tA := by
 intro wh pins s σ H Q I h
 refine isTrue_and (thn (ha pins s σ H Q I h) fun c s1 e => ?_)
 cases c with
 | true => exact isTrue_and_nil e
 | false => exact e
theorem pw_or1 (ha : PT X a tA) : PW X (.BoolOp .Or [a] pos) tA := by
 intro wh pins s σ H Q I h
 refine isTrue_or (thn (ha pins s σ H Q I h) fun c s1 e => ?_)
 cases c with
 | false => exact isTrue_or_nil e
 | true => exact e
theorem pw_and (ha : PT X a tA) (hb : PW X (.BoolOp .And (b :: rest) pos) tB') : PW X (.BoolOp .And (a :: b :: rest) pos) (tAnd tA tB') := by
 intro wh pins s σ H Q I h
 refine isTrue_and (thn (ha pins s σ H _ I h) fun c s1 z_ => ?_)
 obtain ⟨H1, I1, q1⟩ := z_
 cases c with
 | true => exact hb wh pins s1 σ H1 Q I1 q1
 | false => exact ⟨H1, I1, q1⟩
theorem pw_or (ha : PT X a tA) (hb : PW X (.BoolOp .Or (b :: rest) pos) tB') : PW X (.BoolOp .Or (a :: b :: rest) pos) (tOr tA tB') := by
 intro wh pins s σ H Q I h
 refine isTrue_or (thn (ha pins s σ H _ I h) fun c s1 z_ => ?_)
 obtain ⟨H1, I1, q1⟩ := z_
 cases c with
 | true => exact ⟨H1, I1, q1⟩
 | false => exact hb wh pins s1 σ H1 Q I1 q1
theorem pt_not (ha : PT X a tA) : PT X (.UnaryOp .Not a pos) (tNot tA) := by
 intro pins s σ H Q I h
 exact isTrue_not (thn (ha pins s σ H (fun c H1 => Q (!c) H1) I h) fun c s1 ⟨H1, I1, q1⟩ => ⟨H1, I1, q1⟩)
noncomputable def tAndV (ta tb : TE) : TE := fun σ H Q => ta σ H fun x H1 => BoolP x H1 fun c H1 => if c = true then tb σ H1 Q else Q (.bl false) H1
noncomputable def tOrV (ta tb : TE) : TE := fun σ H Q => ta σ H fun x H1 => BoolP x H1 fun c H1 => if c = true then Q (.bl true) H1 else tb σ H1 Q
noncomputable def tNotV (ta : TE) : TE := fun σ H Q => ta σ H fun x H1 => BoolP x H1 fun c H1 => Q (.bl (!c)) H1
theorem pe_one {op} {t : TE} (h : PE X a t) : PE X (.BoolOp op [a] pos) t := fun pins s σ H Q I hw => BoolOp_one (h pins s σ H Q I hw)
theorem pe_and (ha : PE X a ta) (hb : PE X (.BoolOp .And (b :: rest) pos) tb) : PE X (.BoolOp .And (a :: b :: rest) pos) (tAndV ta tb) := by
 intro pins s σ H Q I h
 refine BoolOp_and (thn (ha pins s σ H _ I h) fun v s1 z_ => ?_)
 obtain ⟨x, H1, I1, r1, q1⟩ := z_
 obtain ⟨c, rfl, q1⟩ := q1
 cases r1
 refine wpAny_truthy_bool ?_
 cases c with
 | true => exact hb pins s1 σ H1 Q I1 q1
 | false => exact ⟨.bl false, H1, I1, rfl, q1⟩
theorem pe_or (ha : PE X a ta) (hb : PE X (.BoolOp .Or (b :: rest) pos) tb) : PE X (.BoolOp .Or (a :: b :: rest) pos) (tOrV ta tb) := by
 intro pins s σ H Q I h
 refine BoolOp_or (thn (ha pins s σ H _ I h) fun v s1 z_ => ?_)
 obtain ⟨x, H1, I1, r1, q1⟩ := z_
 obtain ⟨c, rfl, q1⟩ := q1
 cases r1
 refine wpAny_truthy_bool ?_
 cases c with
 | false => exact hb pins s1 σ H1 Q I1 q1
 | true => exact ⟨.bl true, H1, I1, rfl, q1⟩
theorem pe_not (ha : PE X a ta) : PE X (.UnaryOp .Not a pos) (tNotV ta) := by
 intro pins s σ H Q I h
 refine UnaryOp_ (thn (ha pins s σ H _ I h) fun v s1 z_ => ?_)
 obtain ⟨x, H1, I1, r1, q1⟩ := z_
 obtain ⟨c, rfl, q1⟩ := q1
 cases r1
 exact not_of (wpAny_truthy_bool ⟨.bl (!c), H1, I1, rfl, q1⟩)
end
noncomputable def SqL (K : PySem.W.Frag) (H : Hp) (a : Addr) (xs : List V) : Prop :=
 Rd H a (.lst xs) ∨
  ∃ (o : Obj) (its : Array Value) (n : Nat), K.lookup a = some o ∧ o.cls = .type "list" ∧ o.dict = none ∧ o.data = .seq its n ∧ its.size ≤ sizeLine ∧ Vals xs its.toList
noncomputable def SqT (K : PySem.W.Frag) (H : Hp) (a : Addr) (xs : List V) : Prop :=
 Rd H a (.tup xs) ∨
  ∃ (o : Obj) (its : Array Value) (n : Nat), K.lookup a = some o ∧ o.cls = .type "tuple" ∧ o.data = .seq its n ∧ its.size ≤ sizeLine ∧ Vals xs its.toList
noncomputable def absV : Value → Option V
 | .none => some .non
 | .bool b => some (.bl b)
 | .int i _ => some (.int i)
 | .str x _ => some (.str x)
 | .bytes b _ => some (.byt b)
 | .float b _ => some (.flt b)
 | .ref a => some (.ref a)
 | .type n => some (.ty n)
 | _ => none
theorem RelV.abs {x : V} {u : Value} (r : RelV x u) : absV u = some x := by
 cases x with
 | non => cases r; rfl
 | bl _ => cases r; rfl
 | int _ => obtain ⟨t, rfl⟩ := r; rfl
 | str _ => obtain ⟨t, rfl⟩ := r; rfl
 | byt _ => obtain ⟨t, rfl⟩ := r; rfl
 | flt _ => obtain ⟨t, rfl⟩ := r; rfl
 | ref _ => cases r; rfl
 | ty _ => cases r; rfl
theorem RelV.inj {x y : V} {u : Value} (r : RelV x u) (q : RelV y u) : x = y := Option.some.inj (r.abs.symm.trans q.abs)
theorem Vals.inj {xs ys : List V} {us : List Value} (h : Vals xs us) (k : Vals ys us) : xs = ys := by
 induction h generalizing ys with
 | nil => cases k; rfl
 | cons r t ih => cases k with
  | cons r' t' => rw [r.inj r', ih t']
section
variable {X : Cx} {pins : List (Addr × Obj)} {σ : St} {H : Hp} {s : Shared} {a : Addr} {xs ys : List V}
theorem SqL.of {K : PySem.W.Frag} (h : H a = some (.lst xs)) : SqL K H a xs := .inl (.inl h)
theorem SqT.of {K : PySem.W.Frag} (h : H a = some (.tup xs)) : SqT K H a xs := .inl (.inl h)
theorem Inv.list (I : Inv X pins σ H s) (h : SqL X.K H a xs) : ∃ its : List Value, Vals xs its ∧ PlainL s.heap a its.toArray ∧ xs.length ≤ sizeLine := by
 rcases h with h | ⟨o, its, n, hk, hc, hd, hs, hz, r⟩
 ·obtain ⟨z, its, n, r, e⟩ := h.ok I.hok
  exact ⟨its, r, ⟨_, n, e, rfl, rfl, rfl⟩, z⟩
 ·refine ⟨its.toList, r, ⟨o, n, I.kIn a o hk, hc, hd, by simpa using hs⟩, ?_⟩
  have e := r.length
  simp only [Array.length_toList] at e
  lia
theorem Inv.tuple (I : Inv X pins σ H s) (h : SqT X.K H a xs) : ∃ its : List Value, Vals xs its ∧ IsTup s.heap a its.toArray ∧ xs.length ≤ sizeLine := by
 rcases h with h | ⟨o, its, n, hk, hc, hs, hz, r⟩
 ·obtain ⟨z, its, r, p⟩ := h.ok I.hok
  exact ⟨its, r, p, z⟩
 ·refine ⟨its.toList, r, ⟨o, I.kIn a o hk, hc, n, by simpa using hs⟩, ?_⟩
  have e := r.length
  simp only [Array.length_toList] at e
  lia
theorem Inv.list_inj (I : Inv X pins σ H s) (h : SqL X.K H a xs) (h' : SqL X.K H a ys) : xs = ys := by
 obtain ⟨its, r, ⟨o, n, e, _, _, d⟩, _⟩ := I.list h
 obtain ⟨its', r', ⟨o', n', e', _, _, d'⟩, _⟩ := I.list h'
 rw [e] at e'; cases e'
 rw [d] at d'
 injection d' with d1 _
 have : its = its' := by simpa using congrArg Array.toList d1
 subst this
 exact r.inj r'
end
noncomputable abbrev Cx.wish (X : Cx) (E : Value → Shared → Prop) : Cx := { X with xe := E }
noncomputable abbrev Cx.nox (X : Cx) : Cx := X.wish fun _ _ => False
theorem Cx.Ok.wish {X : Cx} (ok : X.Ok) (E : Value → Shared → Prop) : (X.wish E).Ok :=
 ⟨ok.mod, ok.kind, ok.glob, ok.blt, ok.above, ok.inj, ok.has, ok.cab, ok.hd, ok.frames, ok.stk, ok.exf, ok.bs, ok.bsz, ok.noex, ok.exfs, ok.funs, ok.frf⟩
theorem Cx.Ok.unwish {X : Cx} {E : Value → Shared → Prop} (ok : (X.wish E).Ok) : X.Ok :=
 ⟨ok.mod, ok.kind, ok.glob, ok.blt, ok.above, ok.inj, ok.has, ok.cab, ok.hd, ok.frames, ok.stk, ok.exf, ok.bs, ok.bsz, ok.noex, ok.exfs, ok.funs, ok.frf⟩
section
variable {X : Cx} {pins : List (Addr × Obj)} {σ : St} {H : Hp} {s : Shared} {E : Value → Shared → Prop}
theorem Inv.wish (I : Inv X pins σ H s) (E : Value → Shared → Prop) : Inv (X.wish E) pins σ H s := ⟨I.ok.wish E, I.os, I.bare, I.base, I.loc, I.cell, I.free, I.freeC, I.pin, I.hok, I.len⟩
theorem Inv.unwish (I : Inv (X.wish E) pins σ H s) : Inv X pins σ H s := ⟨I.ok.unwish, I.os, I.bare, I.base, I.loc, I.cell, I.free, I.freeC, I.pin, I.hok, I.len⟩
theorem SP.unwish {D : Ends} {f : Flow} {s' : Shared} (h : SP (X.wish E) pins D f s') : SP X pins D f s' := by
 cases f with
 | next => obtain ⟨σ', H', I, q⟩ := h; exact ⟨σ', H', I.unwish, q⟩
 | brk => obtain ⟨σ', H', I, q⟩ := h; exact ⟨σ', H', I.unwish, q⟩
 | cont => obtain ⟨σ', H', I, q⟩ := h; exact ⟨σ', H', I.unwish, q⟩
 | ret u => obtain ⟨v, σ', H', I, r, q⟩ := h; exact ⟨v, σ', H', I.unwish, r, q⟩
theorem PSs.nox {st : List Stmt} {t : TS} (h : PSs X.nox st t) : PSs X st t := fun pins s σ H D I hw =>
 wpAny_mono (h pins s σ H D (I.wish _) hw) (fun _ _ q => q.unwish) fun _ _ z => False.elim z
end
section
variable {X : Cx} {st : Stmt} {rest : List Stmt} {t u : TS} {e : Expr} {te : TE} {pos : Pos}
noncomputable def tNext : TS := fun D σ H => D.nx σ H
noncomputable def tSeq (t u : TS) : TS := fun D σ H => t (D.sq u) σ H
theorem pss_nil : PSs X [] tNext := fun _ _ σ H _ I h => wpAny_execs_nil ⟨σ, H, I, h⟩
theorem pss_cons (h1 : PS X st t) (h2 : PSs X rest u) : PSs X (st :: rest) (tSeq t u) := by
 intro pins s σ H D I h
 refine wpAny_execs_cons (thn (h1 pins s σ H (D.sq u) I h) fun f s1 q => ?_)
 cases f with
 | next =>
  obtain ⟨σ', H', I', q⟩ := q
  exact h2 pins s1 σ' H' D I' q
 | ret v => exact q
 | brk => exact q
 | cont => exact q
theorem pss_one (h1 : PS X st t) : PSs X [st] t := by
 intro pins s σ H D I h
 refine wpAny_execs_cons (thn (h1 pins s σ H D I h) fun f s1 q => ?_)
 cases f with
 | next => exact wpAny_execs_nil q
 | ret v => exact q
 | brk => exact q
 | cont => exact q
theorem Inv.quiet {pins : List (Addr × Obj)} {σ : St} {H : Hp} {s : Shared} (I : Inv X pins σ H s) : interactive X.env = false := by simp [interactive, I.ok.kind]
noncomputable def tDrop (te : TE) : TS := fun D σ H => te σ H fun _ H1 => D.nx σ H1
theorem ps_expr (he : PE X e te) (hs : swapsWith e none pos.line X.env = pure false := by rfl) : PS X (.Expr e pos) (tDrop te) := by
 intro pins s σ H D I h
 exact wpAny_Expr_any (thn (he pins s σ H _ I h) fun v s1 ⟨x, H1, I1, r1, q1⟩ => ⟨σ, H1, I1, q1⟩) I.quiet hs
noncomputable def tRet (te : TE) : TS := fun D σ H => te σ H D.rt
theorem ps_ret (he : PE X e te) : PS X (.Return (some e) pos) (tRet te) := by
 intro pins s σ H D I h
 exact wpAny_Return_some (thn (he pins s σ H _ I h) fun v s1 ⟨x, H1, I1, r1, q1⟩ => ⟨x, σ, H1, I1, r1, q1⟩)
noncomputable def tIfS (c : TT) (t u : TS) : TS := fun D σ H => c σ H fun b H1 => if b = true then t D σ H1 else u D σ H1
theorem ps_if {c : Expr} {a b : List Stmt} {tc : TT} (hc : PT X c tc) (ha : PSs X a t) (hb : PSs X b u) : PS X (.If c a b pos) (tIfS tc t u) := by
 intro pins s σ H D I h
 refine wpAny_If (thn (hc pins s σ H _ I h) fun d s1 z_ => ?_)
 obtain ⟨H1, I1, q1⟩ := z_
 cases d with
 | true => exact ha pins s1 σ H1 D I1 q1
 | false => exact hb pins s1 σ H1 D I1 q1
noncomputable def tNever : TS := fun _ _ _ => False
theorem ps_never : PS X st tNever := fun _ _ _ _ _ _ h => h.elim
end
noncomputable abbrev TG := V → St → Hp → (St → Hp → Prop) → Prop
noncomputable abbrev TGs := List V → St → Hp → (St → Hp → Prop) → Prop
noncomputable def PG (X : Cx) (target : Expr) (t : TG) : Prop :=
 ∀ (pins : List (Addr × Obj)) (s : Shared) (σ : St) (H : Hp) (v : V) (u : Value) (Q : St → Hp → Prop), Inv X pins σ H s → RelV v u → t v σ H Q →
  wpAny (model X.prog X.w) X.A (assign target X.env u) (fun _ s' => ∃ σ' H', Inv X pins σ' H' s' ∧ Q σ' H') X.xe s
noncomputable def PGs (X : Cx) (ts : List Expr) (t : TGs) : Prop :=
 ∀ (pins : List (Addr × Obj)) (s : Shared) (σ : St) (H : Hp) (vs : List V) (us : List Value) (Q : St → Hp → Prop), Inv X pins σ H s → Vals vs us → t vs σ H Q →
  wpAny (model X.prog X.w) X.A (assignInOrder ((assignEach ts X.env).map (·.2)) us) (fun _ s' => ∃ σ' H', Inv X pins σ' H' s' ∧ Q σ' H') X.xe s
noncomputable abbrev TSet := V → V → V → Hp → (Hp → Prop) → Prop
noncomputable def PSet (X : Cx) (t : TSet) : Prop :=
 ∀ (pins : List (Addr × Obj)) (s : Shared) (σ : St) (H : Hp) (o i v : V) (ov iv u : Value) (Q : Hp → Prop), Inv X pins σ H s → RelV o ov → RelV i iv → RelV v u → t o i v H Q →
  wpAny (model X.prog X.w) X.A (setItem ov iv u) (fun _ s' => ∃ H', Inv X pins σ H' s' ∧ Q H') X.xe s
noncomputable abbrev TIp := V → V → Hp → VK → Prop
noncomputable def PIp (X : Cx) (op : Operator) (t : TIp) : Prop :=
 ∀ (pins : List (Addr × Obj)) (s : Shared) (σ : St) (H : Hp) (x y : V) (v u : Value) (Q : VK), Inv X pins σ H s → RelV x v → RelV y u → t x y H Q →
  wpAny (model X.prog X.w) X.A (inplaceOp op v u) (EP X pins σ Q) X.xe s
section
variable {X : Cx} {pos : Pos}
noncomputable def gName (i : Nat) : TG := fun v σ H Q => Q (σ.set i (some v)) H
theorem pg_name {i : Nat} {x : Str} (hN : X.N.Nodup) (hi : X.N[i]? = some x) (hx : Loc X.env.scope x) (hf : X.fn x = true ∨ X.env.scope.names.lookup x = some .local := by first | exact .inl rfl | exact .inr rfl | assumption) : PG X (.Name x pos) (gName i) := by
 intro pins s σ H v u Q I r h
 exact wpAny_assign_Name (store_ok I hN hi hx r (fun s' I' => ⟨_, H, I', h⟩) hf)
noncomputable def gNil : TGs := fun vs σ H Q => vs = [] ∧ Q σ H
noncomputable def gCons (t : TG) (u : TGs) : TGs := fun vs σ H Q => ∃ v r, vs = v :: r ∧ t v σ H fun σ' H' => u r σ' H' Q
theorem pgs_nil : PGs X [] gNil := by
 intro pins s σ H vs us Q I r h
 obtain ⟨e, h⟩ := h
 subst e
 cases r
 exact assignInOrder_nil ⟨σ, H, I, h⟩
theorem pgs_cons {e : Expr} {es : List Expr} {t : TG} {u : TGs} (h1 : PG X e t) (h2 : PGs X es u)
  (hs : (assignEach (e :: es) X.env).map (·.2) = assign e X.env :: (assignEach es X.env).map (·.2) := by rfl) : PGs X (e :: es) (gCons t u) := by
 intro pins s σ H vs us Q I r h
 obtain ⟨v, vr, e1, h⟩ := h
 subst e1
 cases r with
 | cons r rr =>
  rw [hs]
  refine assignInOrder_cons (thn (h1 pins s σ H _ _ _ I r h) fun _ s1 z_ => ?_)
  obtain ⟨σ1, H1, I1, q1⟩ := z_
  exact h2 pins s1 σ1 H1 _ _ Q I1 rr q1
noncomputable def gTup (K : PySem.W.Frag) (n : Nat) (t : TGs) : TG := fun v σ H Q => ∃ a xs, v = .ref a ∧ SqT K H a xs ∧ xs.length = n ∧ t xs σ H Q
theorem pg_tup {es : List Expr} {k : Nat} {t : TGs} {n : Nat} (hc : X.calm = true) (h : PGs X es t)
  (hn : (assignEach es X.env).length = n := by rfl) (hst : (assignEach es X.env).findIdx? (·.1) = none := by rfl) : PG X (.Tuple es k pos) (gTup X.K n t) := by
 intro pins s σ H v u Q I r hw
 obtain ⟨a, xs, e1, hq, hl, hw⟩ := hw
 subst e1
 cases r
 obtain ⟨its, rv, ht, hz⟩ := I.tuple hq
 refine assign_Tuple_tuple (I.ok.hd hc) ht (by simp [hn, ← hl, rv.length]) hst fun h' hx => ?_
 have I1 : Inv X pins σ H { s with heap := h' } := I.kept (t' := s.toks) fun b o e => hx b o (Nat.ne_of_lt (Heap.lt_size e)) e
 exact h pins _ σ H xs _ Q I1 (by simpa using rv) hw
noncomputable def gSub (to ti : TE) (t : TSet) : TG := fun v σ H Q => to σ H fun o H1 => ti σ H1 fun i H2 => t o i v H2 fun H3 => Q σ H3
theorem pg_sub {o i : Expr} {to ti : TE} {t : TSet} (ho : PE X o to) (hi : PE X i ti) (hs : PSet X t)
  (ha : ∀ v, assign (.Subscript o i pos) X.env v = (do
   let ov ← holding [v] (eval o X.env)
   let iv ← holding [v, ov] (eval i X.env)
   standAt pos
   holding [v, ov, iv] (setItem ov iv v)
   release [v, ov, iv] []) := by intro _; rfl) : PG X (.Subscript o i pos) (gSub to ti t) := by
 intro pins s σ H v u Q I r h
 rw [ha]
 refine wpAny_bind (wpAny_holding (thn (ho pins s σ H _ I h) fun ov s1 z_ => ?_))
 obtain ⟨x, H1, I1, r1, q1⟩ := z_
 refine wpAny_bind (wpAny_holding (thn (hi pins s1 σ H1 _ I1 q1) fun iv s2 z_ => ?_))
 obtain ⟨y, H2, I2, r2, q2⟩ := z_
 refine wpAny_bind (wpAny_standAt (wpAny_bind (wpAny_holding (thn (hs pins s2 σ H2 x y v ov iv u _ I2 r1 r2 r q2) fun _ s3 z_ => ?_))))
 obtain ⟨H3, I3, q3⟩ := z_
 exact wpAny_release ⟨σ, H3, I3, q3⟩
noncomputable def tAsg (te : TE) (g : TG) : TS := fun D σ H => te σ H fun x H1 => g x σ H1 D.nx
theorem ps_asg {tg e : Expr} {te : TE} {g : TG} (he : PE X e te) (hg : PG X tg g) (hs : swapsWithSole [tg] e pos.line X.env = pure false := by rfl) (hw : swappedStores [tg] e X.env = pure none := by rfl)
  (h1 : (assignEach [tg] X.env).map (·.2) = [assign tg X.env] := by rfl) : PS X (.Assign [tg] e pos) (tAsg te g) := by
 intro pins s σ H D I h
 refine wpAny_Assign_stores (thn (he pins s σ H _ I h) fun v s1 ⟨x, H1, I1, r1, q1⟩ => ?_) hs hw
 rw [h1]
 exact thn (hg pins s1 σ H1 x v _ I1 r1 q1) fun _ s2 q => q
theorem ps_set {i : Nat} {x : Str} {e : Expr} {te : TE} {pos' : Pos} (hN : X.N.Nodup) (hi : X.N[i]? = some x) (hx : Loc X.env.scope x) (he : PE X e te) (hs : swapsWith e (some (.Name x pos')) pos.line X.env = pure false := by rfl) (hf : X.fn x = true ∨ X.env.scope.names.lookup x = some .local := by first | exact .inl rfl | exact .inr rfl | assumption) :
  PS X (.Assign [.Name x pos'] e pos) (tAsg te (gName i)) := by
 intro pins s σ H D I h
 refine wpAny_Assign_Name (thn (he pins s σ H _ I h) fun v s1 ⟨y, H1, I1, r1, q1⟩ => ?_) hs
 exact store_ok I1 hN hi hx r1 (fun s2 I2 => ⟨_, H1, I2, q1⟩) hf
noncomputable def tAugS (to ti te : TE) (tget : V → V → Hp → VK → Prop) (tip : TIp) (tset : TSet) : TS := fun D σ H => to σ H fun o H1 => ti σ H1 fun i H2 => tget o i H2 fun x H3 => te σ H3 fun y H4 => tip x y H4 fun z H5 => tset o i z H5 fun H6 => D.nx σ H6
noncomputable def PGet (X : Cx) (t : V → V → Hp → VK → Prop) : Prop :=
 ∀ (pins : List (Addr × Obj)) (s : Shared) (σ : St) (H : Hp) (o i : V) (ov iv : Value) (Q : VK), Inv X pins σ H s → RelV o ov → RelV i iv → t o i H Q →
  wpAny (model X.prog X.w) X.A (getItem ov iv) (EP X pins σ Q) X.xe s
theorem ps_augS {o i e : Expr} {to ti te : TE} {tget : V → V → Hp → VK → Prop} {tip : TIp} {tset : TSet} {op : Operator} {tpos : Pos} (ho : PE X o to) (hi : PE X i ti) (hg : PGet X tget) (he : PE X e te) (hp : PIp X op tip) (hs : PSet X tset)
  (ha : ∀ ov iv new, augStore i ov iv new = (do holding [new, ov, iv] (setItem ov iv new); release [new, ov, iv] []; pure .next) := by intros; rfl) : PS X (.AugAssign (.Subscript o i tpos) op e pos) (tAugS to ti te tget tip tset) := by
 intro pins s σ H D I h
 refine wpAny_AugAssign_SubscriptAny (thn (ho pins s σ H _ I h) fun ov s1 ⟨x1, H1, I1, r1, q1⟩ => ?_) ha
 refine thn (hi pins s1 σ H1 _ I1 q1) fun iv s2 z_ => ?_
 obtain ⟨x2, H2, I2, r2, q2⟩ := z_
 refine thn (hg pins s2 σ H2 x1 x2 ov iv _ I2 r1 r2 q2) fun old s3 z_ => ?_
 obtain ⟨x3, H3, I3, r3, q3⟩ := z_
 refine thn (he pins s3 σ H3 _ I3 q3) fun v s4 z_ => ?_
 obtain ⟨x4, H4, I4, r4, q4⟩ := z_
 refine thn (hp pins s4 σ H4 x3 x4 old v _ I4 r3 r4 q4) fun new s5 z_ => ?_
 obtain ⟨x5, H5, I5, r5, q5⟩ := z_
 exact thn (hs pins s5 σ H5 x1 x2 x5 ov iv new _ I5 r1 r2 r5 q5) fun _ s6 ⟨H6, I6, q6⟩ => ⟨σ, H6, I6, q6⟩
noncomputable def ipI (f : Int → Int → Int) : TIp := fun x y H Q => ∃ i j, x = .int i ∧ y = .int j ∧ Q (.int (f i j)) H
theorem ip_add : PIp X .Add (ipI fun i j => i + j) := by
 intro pins s σ H x y v u Q I r1 r2 h
 obtain ⟨i, j, e1, e2, q⟩ := h
 subst e1; subst e2
 obtain ⟨t, rfl⟩ := r1
 obtain ⟨t', rfl⟩ := r2
 exact iadd_int ⟨.int _, H, I.tok _, ⟨_, rfl⟩, q⟩
end
section
variable {X : Cx} {pos : Pos}
noncomputable def tWhile (c : TT) (tb : TS) : TS := fun D σ H => ∃ W : Nat → St → Hp → Prop, (∃ m, W m σ H) ∧ ∀ m σ H, W m σ H →
 c σ H fun b H1 => if b = true then ∃ N : St → Hp → Prop, (∀ σ' H', N σ' H' → ∃ m', m' < m ∧ W m' σ' H') ∧ tb (D.lp N) σ H1 else D.nx σ H1
theorem ps_while {c : Expr} {body : List Stmt} {tc : TT} {tb : TS} (hp : PassesOwn (model X.prog X.w) X.A X.env X.xe) (hc : PT X c tc) (hb : PSs X body tb) : PS X (.While c body [] pos) (tWhile tc tb) := by
 intro pins s σ H D I h
 obtain ⟨W, ⟨m0, w0⟩, turn⟩ := h
 refine wpAny_While (codeAny_whileLoop (fun n s' => ∃ σ' H', Inv X pins σ' H' s' ∧ W n σ' H') ?_ m0 ⟨σ, H, I, w0⟩)
 rintro n s1 ⟨σ1, H1, I1, w1⟩
 refine wpAny_passesOwn hp (thn (hc pins s1 σ1 H1 _ I1 (turn n σ1 H1 w1)) fun b s2 z_ => ?_)
 obtain ⟨H2, I2, q2⟩ := z_
 cases b with
 | true =>
  obtain ⟨N, hN, q2⟩ := q2
  rw [if_pos rfl]
  refine wpAny_passesOwn hp (thn (hb pins s2 σ1 H2 _ I2 q2) fun f s3 q3 => ?_)
  cases f with
  | next =>
   obtain ⟨σ3, H3, I3, n3⟩ := q3
   obtain ⟨m', hm, w3⟩ := hN σ3 H3 n3
   exact ⟨m', hm, σ3, H3, I3, w3⟩
  | cont =>
   obtain ⟨σ3, H3, I3, n3⟩ := q3
   obtain ⟨m', hm, w3⟩ := hN σ3 H3 n3
   exact ⟨m', hm, σ3, H3, I3, w3⟩
  | brk => exact q3
  | ret v => exact q3
 | false =>
  rw [if_neg Bool.false_ne_true]
  exact wpAny_execs_nil ⟨σ1, H2, I2, q2⟩
end
structure It where
 go : Nat → Hp → Prop
 yld : Nat → Hp → V → Hp → Prop
 stop : Nat → Hp → Prop
noncomputable def FpOk (X : Cx) (pins : List (Addr × Obj)) (H : Hp) (b : Addr) : Prop :=
 H b = none ∧ b ≠ X.env.locals ∧ b ∉ X.fs ∧ (b ∈ X.ex ∨ X.s₀.heap.objs.size ≤ b) ∧ (∀ x c, X.env.cells.lookup x = some c → c ≠ b) ∧ ∀ p ∈ X.pn ++ pins, p.1 ≠ b
theorem Inv.fpOk {X : Cx} {pins : List (Addr × Obj)} {σ : St} {H H' : Hp} {s : Shared} {b : Addr} (I : Inv X pins σ H s) (hb : s.heap.objs.size ≤ b) (hn : H' b = none) : FpOk X pins H' b := by
 refine ⟨hn, Nat.ne_of_gt (Nat.lt_of_lt_of_le I.lt hb), I.nofs hb, .inr (Nat.le_trans I.sz hb), fun x c e z => ?_, fun p hp z => ?_⟩
 ·obtain ⟨v, q⟩ := I.cell x c e
  exact absurd (Nat.lt_of_lt_of_le q.lt (by rw [z]; exact hb)) (Nat.lt_irrefl _)
 ·exact absurd (Nat.lt_of_lt_of_le (Heap.lt_size (I.pin p hp).1) (by rw [z]; exact hb)) (Nat.lt_irrefl _)
structure Turn (P : Program) (w : World) (K : PySem.W.Frag) (tg : Expr) (J : It) (fp : List Addr) (it : Addr) (tn : Nat → Heap → Prop) : Prop where
 mem : it ∈ fp
 obj : ∀ i h, tn i h → ∀ b ∈ fp, ∃ o, h.get? b = some o ∧ ∀ v, o.data ≠ .cell v
 keep : ∀ i h h', tn i h → (∀ b ∈ fp, ∀ o, h.get? b = some o → h'.get? b = some o) → tn i h'
 item : ∀ (X : Cx), X.prog = P → X.w = w → X.K = K → X.calm = true → ∀ (i : Nat) (pins : List (Addr × Obj)) (s : Shared) (σ : St) (H : Hp) (E : Value → Shared → Prop), Inv X pins σ H s → (∀ b ∈ fp, FpOk X pins H b) → tn i s.heap → J.go i H →
  wpAny (model P w) X.A (pyNext (.ref it)) (fun r s1 => ∃ u, r = some u ∧
   wpAny (model P w) X.A (letOwnedTupleGo tg (.ref it) u) (fun _ s2 => ∃ x H', Inv X pins σ H' s2 ∧ RelV x u ∧ J.yld i H x H' ∧ tn (i + 1) s2.heap ∧ ∀ b ∈ fp, H' b = none) E s1) E s
 done : ∀ (X : Cx), X.prog = P → X.w = w → X.K = K → X.calm = true → ∀ (i : Nat) (pins : List (Addr × Obj)) (s : Shared) (σ : St) (H : Hp) (E : Value → Shared → Prop), Inv X pins σ H s → (∀ b ∈ fp, FpOk X pins H b) → tn i s.heap → J.stop i H →
  wpAny (model P w) X.A (pyNext (.ref it)) (fun r s1 => r = none ∧ Inv X pins σ H s1) E s
 self : ∀ (A : Around) (i : Nat) (s : Shared) (Q : Value → Shared → Prop) (E : Value → Shared → Prop), tn i s.heap → Q (.ref it) s → wpAny (model P w) A (pyIter (.ref it)) Q E s
noncomputable abbrev TI := St → Hp → (It → Hp → Prop) → Prop
noncomputable def PIE (X : Cx) (pins : List (Addr × Obj)) (σ : St) (tg : Expr) (R : It → Hp → Prop) (itv : Value) (s2 : Shared) : Prop :=
 ∃ (it : Addr) (fp : List Addr) (tn : Nat → Heap → Prop) (J : It) (H' : Hp), itv = .ref it ∧ Inv X pins σ H' s2 ∧ Turn X.prog X.w X.K tg J fp it tn ∧ tn 0 s2.heap ∧ (∀ b ∈ fp, FpOk X pins H' b) ∧ R J H'
noncomputable def PI (X : Cx) (tg iter : Expr) (wi : TI) : Prop :=
 ∀ (pins : List (Addr × Obj)) (s : Shared) (σ : St) (H : Hp) (R : It → Hp → Prop), Inv X pins σ H s → wi σ H R →
  wpAny (model X.prog X.w) X.A (eval iter X.env) (fun v s1 => wpAny (model X.prog X.w) X.A (pyIter v) (PIE X pins σ tg R) X.xe s1) X.xe s
theorem go_of {M : Model} {A : Around} {E : Value → Shared → Prop} {s : Shared} {tg : Expr} {it : Addr} {u : Value} {o : Obj} {n : String} {vs : Array Value} {Q : Unit → Shared → Prop} (ho : s.heap.get? it = some o) (hc : o.cls = .type n) (hd : o.data = .fields vs)
  (hn : ["enumerate", "zip", "dict_itemiterator", "dict_reverseitemiterator", "odict_iterator", "itertools.zip_longest", "itertools.pairwise"].contains n = false) (hQ : Q () s) : wpAny M A (letOwnedTupleGo tg (.ref it) u) Q E s := by
 unfold letOwnedTupleGo
 cases tg <;> first
  | exact wpAny_pure hQ
  | (cases u <;> first
    | exact wpAny_pure hQ
    | (refine wpAny_bind (wpAny_load ho ?_)
       rw [hc, hd]
       show wpAny M A (if (["enumerate", "zip", "dict_itemiterator", "dict_reverseitemiterator", "odict_iterator", "itertools.zip_longest", "itertools.pairwise"].contains n && vs[0]? == some (rawInt _)) = true then _ else _) Q E s
       rw [if_neg (by intro h; rw [hn, Bool.false_and] at h; cases h)]
       exact wpAny_pure hQ))
noncomputable def Itl (K : PySem.W.Frag) (a : Addr) : It :=
 ⟨fun i H => ∃ xs x, SqL K H a xs ∧ xs[i]? = some x, fun i H x H' => H' = H ∧ ∀ xs, SqL K H a xs → xs[i]? = some x, fun i H => ∃ xs, SqL K H a xs ∧ xs.length ≤ i⟩
noncomputable def Itr (lo : Int) (n : Nat) : It := ⟨fun i _ => i < n, fun i H x H' => H' = H ∧ x = .int (lo + i), fun i _ => n ≤ i⟩
theorem turn_list {P : Program} {w : World} {K : PySem.W.Frag} {tg : Expr} (a it : Addr) : Turn P w K tg (Itl K a) [it] it (fun i h => h.IsListIter it a i) where
 mem := by simp
 obj := fun i h st b hb => by
  have e : b = it := by simpa using hb
  subst e
  obtain ⟨o, e, c, d⟩ := st
  exact ⟨o, e, fun v z => by rw [d] at z; cases z⟩
 keep := fun i h h' st k => st.at fun o e => k it (by simp) o e
 item := by
  intro X hP hw hK hc i pins s σ H E I hf st hg
  subst hP hw hK
  obtain ⟨xs, x, hq, hx⟩ := hg
  obtain ⟨its, rv, p, hz⟩ := I.list hq
  obtain ⟨u, hu, ru⟩ := rv.get hx
  obtain ⟨f0, f1, f2, f3, f4, f5⟩ := hf it (by simp)
  refine wpAny_pyNext_list_item st p.isList (x := u) (by simpa using hu) fun h' st' sb => ?_
  have I1 : Inv X pins σ H { s with heap := h' } := I.turned (t' := s.toks) (fun b o hb e => (sb.2 b hb).trans e) f0 f1 f3 f4 f5
  obtain ⟨o, e, c, d⟩ := id st'
  exact ⟨u, rfl, go_of (s := { s with heap := h' }) e c d (by decide) ⟨x, H, I1, ru, ⟨rfl, fun ys hy => by rw [I.list_inj hy hq]; exact hx⟩, st', fun b hb => (hf b hb).1⟩⟩
 done := by
  intro X hP hw hK hc i pins s σ H E I hf st hg
  subst hP hw hK
  obtain ⟨xs, hq, hx⟩ := hg
  obtain ⟨its, rv, p, hz⟩ := I.list hq
  obtain ⟨f0, f1, f2, f3, f4, f5⟩ := hf it (by simp)
  have hl := rv.length
  exact wpAny_pyNext_list_end (I.ok.hd hc) st p.isList (by simp; lia) fun h' eb => ⟨rfl, I.turned (t' := s.toks) (fun b o hb e => eb b o hb e) f0 f1 f3 f4 f5⟩
 self := fun _ _ _ _ _ st h => wpAny_pyIter_listiter st h
theorem turn_range {P : Program} {w : World} {K : PySem.W.Frag} {tg : Expr} (it : Addr) (lo : Int) (n : Nat) : Turn P w K tg (Itr lo n) [it] it (fun i h => IsRangeIter h it (lo + (i : Nat) * 1) ((n : Int) - (i : Nat)) 1) where
 mem := by simp
 obj := fun i h st b hb => by
  have e : b = it := by simpa using hb
  subst e
  exact ⟨_, st, fun v z => by
   have z' : Data.fields _ = Data.cell v := z
   cases z'⟩
 keep := fun i h h' st k => k it (by simp) _ st
 item := by
  intro X hP hw hK hc i pins s σ H E I hf st hg
  subst hP hw hK
  obtain ⟨f0, f1, f2, f3, f4, f5⟩ := hf it (by simp)
  have W := Walks.range (prog := X.prog) (w := X.w) (I.ok.hd hc) it lo 1 n
  refine W.item i s _ _ hg st fun v h' tk hv st' kk => ?_
  obtain ⟨t, rfl⟩ := hv
  have I1 : Inv X pins σ H { s with heap := h', toks := tk } := I.turned (fun b o hb e => kk b o (by simpa using hb) e) f0 f1 f3 f4 f5
  refine ⟨_, rfl, go_of (s := { s with heap := h', toks := tk }) (n := "range_iterator") st' rfl rfl (by decide) ⟨.int (lo + i), H, I1, ⟨t, ?_⟩, ⟨rfl, rfl⟩, st', fun b hb => (hf b hb).1⟩⟩
  rw [Int.mul_one]
 done := by
  intro X hP hw hK hc i pins s σ H E I hf st hg
  subst hP hw hK
  obtain ⟨f0, f1, f2, f3, f4, f5⟩ := hf it (by simp)
  exact wpAny_pyNext_range_end (I.ok.hd hc) st (by have : n ≤ i := hg; lia) fun h' eb => ⟨rfl, I.turned (t' := s.toks) (fun b o hb e => eb b o hb e) f0 f1 f3 f4 f5⟩
 self := fun _ _ _ _ _ st h => wpAny_pyIter_rangeiter st h
section
variable {X : Cx} {tg : Expr}
noncomputable def iList (K : PySem.W.Frag) (tl : TE) : TI := fun σ H R => tl σ H fun x H1 => ∃ a, x = .ref a ∧ (∃ xs, SqL K H1 a xs) ∧ R (Itl K a) H1
theorem pi_list {l : Expr} {tl : TE} (hl : PE X l tl) : PI X tg l (iList X.K tl) := by
 intro pins s σ H R I h
 refine thn (hl pins s σ H _ I h) fun v s1 z_ => ?_
 obtain ⟨x, H1, I1, r1, q1⟩ := z_
 obtain ⟨a, e, ⟨xs, hq⟩, q⟩ := q1
 subst e
 cases r1
 obtain ⟨its, rv, p, hz⟩ := I1.list hq
 refine wpAny_pyIter_list p.isList ?_
 refine ⟨s1.heap.objs.size, [s1.heap.objs.size], _, _, H1, rfl, I1.kept (t' := s1.toks) fun b o e => Heap.get?_push_of_some _ e, turn_list a _, ⟨_, Heap.get?_push_size _ rfl, rfl, rfl⟩, fun b hb => ?_, q⟩
 have e : b = s1.heap.objs.size := by simpa using hb
 subst e
 exact I1.fpOk (Nat.le_refl _) (I1.hok.fresh (Nat.le_refl _))
theorem range_it {pins : List (Addr × Obj)} {σ : St} {H : Hp} {s : Shared} {R : It → Hp → Prop} {E : Value → Shared → Prop} {lo hi : Int} {t u v : Tok} {tk : Nat} (I : Inv X pins σ H s) (h1 : -(2 ^ 62) ≤ lo) (h2 : lo < 2 ^ 62) (h3 : -(2 ^ 62) ≤ hi) (h4 : hi < 2 ^ 62)
  (q : R (Itr lo (hi - lo).toNat) H) : wpAny (model X.prog X.w) X.A (pyIter (.ref s.heap.objs.size)) (PIE X pins σ tg R) E { s with heap := s.heap.push { cls := .type "range", data := .fields #[.int lo t, .int hi u, .int 1 v] }, toks := tk } := by
 refine wpAny_pyIter_range (IsRange.new ..) (small_one h1 h2 h3 h4) ?_
 have I1 : Inv X pins σ H { s with heap := s.heap.push { cls := .type "range", data := .fields #[.int lo t, .int hi u, .int 1 v] }, toks := tk } := I.kept fun b o e => Heap.get?_push_of_some _ e
 refine ⟨(s.heap.push { cls := .type "range", data := .fields #[.int lo t, .int hi u, .int 1 v] }).objs.size, [(s.heap.push { cls := .type "range", data := .fields #[.int lo t, .int hi u, .int 1 v] }).objs.size], _, _, H, rfl,
  I1.kept (t' := tk) fun b o e => Heap.get?_push_of_some _ e, turn_range _ lo (hi - lo).toNat, ?_, fun b hb => ?_, q⟩
 ·have e1 : lo + ((0 : Nat) : Int) * 1 = lo := by simp
  have e2 : (((hi - lo).toNat : Nat) : Int) - ((0 : Nat) : Int) = Builtin.Range.rangeSize lo hi 1 := by rw [rangeSize_one]; split <;> lia
  show IsRangeIter _ _ (lo + ((0 : Nat) : Int) * 1) ((((hi - lo).toNat : Nat) : Int) - ((0 : Nat) : Int)) 1
  rw [e1, e2]
  exact Heap.get?_push_size _ rfl
 ·have e : b = (s.heap.push { cls := .type "range", data := .fields #[.int lo t, .int hi u, .int 1 v] }).objs.size := by simpa using hb
  subst e
  exact I1.fpOk (Nat.le_refl _) (I1.hok.fresh (Nat.le_refl _))
inductive Rng1P (vs : List V) (H1 : Hp) (R : It → Hp → Prop) : Prop
 | mk (j : Int) (h0 : vs = [.int j]) (h1 : -(2 ^ 62) ≤ j) (h2 : j < 2 ^ 62) (q : R (Itr 0 j.toNat) H1)
noncomputable def iRng1 (ta : TA) : TI := fun σ H R => ta σ H fun vs H1 => Rng1P vs H1 R
theorem pi_range1 {a : Expr} {ta : TA} {p pos : Pos} (hg : Gl X "range") (hm : X.mg "range" = none) (ha : PA X [a] ta) (hs : starEach [a] X.env = [(false, eval a X.env)] := by rfl) : PI X tg (.Call (.Name "range" p) [a] [] pos) (iRng1 ta) := by
 intro pins s σ H R I h
 refine Call_ (ld_blt I hg hm boot_range (PyProof.Rows.callWith_type1 (thn (ha pos pins s σ H _ I h) fun us s1 ⟨vs, H1, I1, r1, q1⟩ => ?_) hs rfl))
 obtain ⟨j, e, q1, q2, q⟩ := q1
 subst e
 cases r1 with
 | cons r rr =>
  cases rr
  obtain ⟨t, rfl⟩ := r
  exact call_range_1 (range_it I1 (by lia) (by lia) q1 q2 (by simpa using q))
noncomputable def tFor (wi : TI) (g : TG) (tb : TS) : TS := fun D σ H => wi σ H fun J H1 => ∃ W : Nat → Nat → St → Hp → Prop, (∃ m, W 0 m σ H1) ∧ ∀ i m σ H, W i m σ H →
 (J.stop i H ∧ D.nx σ H) ∨ (J.go i H ∧ ∃ N : St → Hp → Prop, (∀ σ' H', N σ' H' → ∃ m', m' < m ∧ W (i + 1) m' σ' H') ∧ ∀ x H', J.yld i H x H' → g x σ H' fun σ2 H2 => tb (D.lp N) σ2 H2)
noncomputable def pinsAt (fp : List Addr) (h : Heap) : List (Addr × Obj) := fp.filterMap fun b => (h.get? b).map fun o => (b, o)
theorem mem_pinsAt {fp : List Addr} {h : Heap} {b : Addr} {o : Obj} (hb : b ∈ fp) (e : h.get? b = some o) : (b, o) ∈ pinsAt fp h := List.mem_filterMap.mpr ⟨b, hb, by rw [e]; rfl⟩
theorem of_pinsAt {fp : List Addr} {h : Heap} {p : Addr × Obj} (hp : p ∈ pinsAt fp h) : p.1 ∈ fp ∧ h.get? p.1 = some p.2 := by
 obtain ⟨b, hb, e⟩ := List.mem_filterMap.mp hp
 cases q : h.get? b with
 | none => rw [q] at e; cases e
 | some o =>
  rw [q] at e
  have e' : (b, o) = p := Option.some.inj e
  subst e'
  exact ⟨hb, q⟩
theorem Inv.pinned {pins : List (Addr × Obj)} {σ : St} {H : Hp} {s : Shared} {fp : List Addr} (I : Inv X pins σ H s) (hf : ∀ b ∈ fp, FpOk X pins H b) (ho : ∀ b ∈ fp, ∃ o, s.heap.get? b = some o ∧ ∀ v, o.data ≠ .cell v) : Inv X (pins ++ pinsAt fp s.heap) σ H s :=
 I.pins_of fun p hp => (List.mem_append.mp hp).elim (fun z => I.pin p (List.mem_append_right _ z)) fun z => by
  obtain ⟨hb, e⟩ := of_pinsAt z
  obtain ⟨f0, f1, f2, _⟩ := hf p.1 hb
  obtain ⟨o, e', d⟩ := ho p.1 hb
  rw [e] at e'; cases e'
  exact ⟨e, f0, f1, f2, d⟩
theorem Inv.unpinned {pins pl : List (Addr × Obj)} {σ : St} {H : Hp} {s : Shared} (I : Inv X (pins ++ pl) σ H s) : Inv X pins σ H s := I.pins_of fun p hp => I.pin p (List.mem_append_right _ (List.mem_append_left _ hp))
theorem ps_for {iter : Expr} {body : List Stmt} {wi : TI} {g : TG} {tb : TS} {pos : Pos} (hp : PassesOwn (model X.prog X.w) X.A X.env X.xe) (hc : X.calm = true) (hi : PI X tg iter wi) (hg : PG X tg g) (hb : PSs X body tb)
  (hs : ∀ x, foldedSetIterable iter X.env x = pure x := by intro _; rfl) : PS X (.For tg iter body [] pos) (tFor wi g tb) := by
 intro pins s σ H D I h
 refine wpAny_For (thn (hi pins s σ H _ I h) fun v s1 h1 => thn h1 fun itv s2 h2 => ?_) hs
 obtain ⟨it, fp, tn, J, H2, e, I2, T, st2, f2, W, ⟨m0, w0⟩, turn⟩ := h2
 subst e
 -- what stays true of the iterator's objects through the loop
 have stat : ∀ {H' : Hp}, (∀ b ∈ fp, H' b = none) → ∀ b ∈ fp, FpOk X pins H' b := fun hn b hb => ⟨hn b hb, (f2 b hb).2⟩
 refine codeAny_forLoop_any (fun n s' => ∃ i σ' H', Inv X pins σ' H' s' ∧ tn i s'.heap ∧ (∀ b ∈ fp, H' b = none) ∧ W i n σ' H') ?_ m0 ⟨0, σ, H2, I2, st2, fun b hb => (f2 b hb).1, w0⟩
 rintro n s3 ⟨i, σ3, H3, I3, st3, fr3, w3⟩
 rcases turn i n σ3 H3 w3 with ⟨stop, qn⟩ | ⟨go, N, hN, step⟩
 ·refine wpAny_passesOwn hp (thn (T.done X rfl rfl rfl hc i pins s3 σ3 H3 X.xe I3 (stat fr3) st3 stop) fun r s4 z_ => ?_)
  obtain ⟨hr, I4⟩ := z_
  subst hr
  exact wpAny_execs_nil ⟨σ3, H3, I4, qn⟩
 ·refine wpAny_passesOwn hp (thn (T.item X rfl rfl rfl hc i pins s3 σ3 H3 X.xe I3 (stat fr3) st3 go) fun r s4 z_ => ?_)
  obtain ⟨u, hr, h4⟩ := z_
  subst hr
  refine wpAny_passesOwn hp (thn h4 fun _ s5 z_ => ?_)
  obtain ⟨x, H5, I5, r5, y5, st5, fr5⟩ := z_
  have I5' := I5.pinned (stat fr5) (T.obj _ _ st5)
  refine wpAny_passesOwn hp (thn (hg _ s5 σ3 H5 x u _ I5' r5 (step x H5 y5)) fun _ s6 z_ => ?_)
  obtain ⟨σ6, H6, I6, q6⟩ := z_
  refine wpAny_passesOwn hp (thn (hb _ s6 σ6 H6 _ I6 q6) fun f s7 q7 => ?_)
  have again : ∀ {σ7 : St} {H7 : Hp}, Inv X (pins ++ pinsAt fp s5.heap) σ7 H7 s7 → N σ7 H7 → ∃ m, m < n ∧ ∃ i σ' H', Inv X pins σ' H' s7 ∧ tn i s7.heap ∧ (∀ b ∈ fp, H' b = none) ∧ W i m σ' H' := fun {σ7 H7} I7 n7 => by
   obtain ⟨m', hm, w7⟩ := hN σ7 H7 n7
   refine ⟨m', hm, i + 1, σ7, H7, I7.unpinned, T.keep _ _ _ st5 fun b hb o e => (I7.pin (b, o) (List.mem_append_right _ (List.mem_append_right _ (mem_pinsAt hb e)))).1, fun b hb => ?_, w7⟩
   obtain ⟨o, e, d⟩ := T.obj _ _ st5 b hb
   exact (I7.pin (b, o) (List.mem_append_right _ (List.mem_append_right _ (mem_pinsAt hb e)))).2.1
  cases f with
  | next => obtain ⟨σ7, H7, I7, n7⟩ := q7; exact again I7 n7
  | cont => obtain ⟨σ7, H7, I7, n7⟩ := q7; exact again I7 n7
  | brk => obtain ⟨σ7, H7, I7, q7⟩ := q7; exact ⟨σ7, H7, I7.unpinned, q7⟩
  | ret v => obtain ⟨x7, σ7, H7, I7, r7, q7⟩ := q7; exact ⟨x7, σ7, H7, I7.unpinned, r7, q7⟩
end
theorem for_list {K : PySem.W.Frag} {a : Addr} {xs : List V} {g : TG} {tb : TS} {D : Ends} {σ : St} {H : Hp} (Pv : Nat → St → Hp → Prop) (h0 : Pv 0 σ H) (hl : ∀ i σ H, i ≤ xs.length → Pv i σ H → SqL K H a xs)
  (hs : ∀ i x σ H, xs[i]? = some x → Pv i σ H → g x σ H fun σ2 H2 => tb (D.lp (Pv (i + 1))) σ2 H2) (hd : ∀ σ H, Pv xs.length σ H → D.nx σ H) :
  ∃ W : Nat → Nat → St → Hp → Prop, (∃ m, W 0 m σ H) ∧ ∀ i m σ H, W i m σ H →
   ((Itl K a).stop i H ∧ D.nx σ H) ∨ ((Itl K a).go i H ∧ ∃ N : St → Hp → Prop, (∀ σ' H', N σ' H' → ∃ m', m' < m ∧ W (i + 1) m' σ' H') ∧ ∀ x H', (Itl K a).yld i H x H' → g x σ H' fun σ2 H2 => tb (D.lp N) σ2 H2) := by
 refine ⟨fun i m σ H => m = xs.length - i ∧ i ≤ xs.length ∧ Pv i σ H, ⟨xs.length, by simp, Nat.zero_le _, h0⟩, ?_⟩
 rintro i m σ H ⟨rfl, hi, p⟩
 have q := hl i σ H hi p
 by_cases hlt : i < xs.length
 ·refine .inr ⟨⟨xs, xs[i], q, by simp [hlt]⟩, Pv (i + 1), fun σ' H' p' => ⟨xs.length - (i + 1), by lia, rfl, hlt, p'⟩, fun x H' y => ?_⟩
  obtain ⟨e, y⟩ := y
  subst e
  exact hs i x σ _ (y xs q) p
 ·have e : i = xs.length := by lia
  subst e
  exact .inl ⟨⟨xs, q, Nat.le_refl _⟩, hd σ H p⟩
theorem for_range {lo : Int} {n : Nat} {g : TG} {tb : TS} {D : Ends} {σ : St} {H : Hp} (Pv : Nat → St → Hp → Prop) (h0 : Pv 0 σ H)
  (hs : ∀ i σ H, i < n → Pv i σ H → g (.int (lo + i)) σ H fun σ2 H2 => tb (D.lp (Pv (i + 1))) σ2 H2) (hd : ∀ σ H, Pv n σ H → D.nx σ H) :
  ∃ W : Nat → Nat → St → Hp → Prop, (∃ m, W 0 m σ H) ∧ ∀ i m σ H, W i m σ H →
   ((Itr lo n).stop i H ∧ D.nx σ H) ∨ ((Itr lo n).go i H ∧ ∃ N : St → Hp → Prop, (∀ σ' H', N σ' H' → ∃ m', m' < m ∧ W (i + 1) m' σ' H') ∧ ∀ x H', (Itr lo n).yld i H x H' → g x σ H' fun σ2 H2 => tb (D.lp N) σ2 H2) := by
 refine ⟨fun i m σ H => m = n - i ∧ i ≤ n ∧ Pv i σ H, ⟨n, by simp, Nat.zero_le _, h0⟩, ?_⟩
 rintro i m σ H ⟨rfl, hi, p⟩
 by_cases hlt : i < n
 ·refine .inr ⟨hlt, Pv (i + 1), fun σ' H' p' => ⟨n - (i + 1), by lia, rfl, hlt, p'⟩, fun x H' y => ?_⟩
  obtain ⟨e, y⟩ := y
  subst e y
  exact hs i σ _ hlt p
 ·have e : i = n := by lia
  subst e
  exact .inl ⟨Nat.le_refl _, hd σ H p⟩
noncomputable abbrev R2 := V → V → Hp → VK → Prop
noncomputable def OpR (X : Cx) (f : Value → Value → Sem Value) (r : R2) : Prop :=
 ∀ (pins : List (Addr × Obj)) (s : Shared) (σ : St) (H : Hp) (x y : V) (v u : Value) (Q : VK), Inv X pins σ H s → RelV x v → RelV y u → r x y H Q →
  wpAny (model X.prog X.w) X.A (f v u) (EP X pins σ Q) X.xe s
noncomputable def UnR (X : Cx) (f : Value → Sem Value) (r : V → Hp → VK → Prop) : Prop :=
 ∀ (pins : List (Addr × Obj)) (s : Shared) (σ : St) (H : Hp) (x : V) (v : Value) (Q : VK), Inv X pins σ H s → RelV x v → r x H Q →
  wpAny (model X.prog X.w) X.A (f v) (EP X pins σ Q) X.xe s
noncomputable def CallR (X : Cx) (f : Value) (r : List V → Hp → VK → Prop) : Prop :=
 ∀ (pins : List (Addr × Obj)) (s : Shared) (σ : St) (H : Hp) (xs : List V) (us : List Value) (Q : VK), Inv X pins σ H s → Vals xs us → r xs H Q →
  wpAny (model X.prog X.w) X.A (call f us) (EP X pins σ Q) X.xe s
noncomputable def tOp (r : R2) (ta tb : TE) : TE := fun σ H Q => ta σ H fun x H1 => tb σ H1 fun y H2 => r x y H2 Q
noncomputable def tUn (r : V → Hp → VK → Prop) (ta : TE) : TE := fun σ H Q => ta σ H fun x H1 => r x H1 Q
inductive rIP (C : Int → Int → Prop) (g : Int → Int → V) (x : V) (y : V) (H : Hp) (Q : VK) : Prop
 | mk (i : _) (j : _) (h_0 : x = .int i) (h_1 : y = .int j) (h_2 : C i j) (h_3 : Q (g i j) H)
noncomputable def rI (C : Int → Int → Prop) (g : Int → Int → V) : R2 := fun x y H Q => rIP C g x y H Q
inductive rI0P (g : Int → Int → V) (x : V) (y : V) (H : Hp) (Q : VK) : Prop
 | mk (i : _) (j : _) (h_0 : x = .int i) (h_1 : y = .int j) (h_2 : Q (g i j) H)
noncomputable def rI0 (g : Int → Int → V) : R2 := fun x y H Q => rI0P g x y H Q
inductive rUP (g : Int → V) (x : V) (H : Hp) (Q : VK) : Prop
 | mk (i : _) (h_0 : x = .int i) (h_1 : Q (g i) H)
noncomputable def rU (g : Int → V) : V → Hp → VK → Prop := fun x H Q => rUP g x H Q
section
variable {X : Cx} {a b c : Expr} {ta tb tc : TE} {pos : Pos}
theorem binT (ha : PE X a ta) (hb : PE X b tb) {pins : List (Addr × Obj)} {s : Shared} {σ : St} {H : Hp} {R : V → V → Hp → Prop} (I : Inv X pins σ H s)
  (h : ta σ H fun x H1 => tb σ H1 fun y H2 => R x y H2) {Q : Value → Shared → Prop} {f : Value → Value → Sem Value}
  (hf : ∀ v u s2 x y H2, Inv X pins σ H2 s2 → RelV x v → RelV y u → R x y H2 → wpAny (model X.prog X.w) X.A (f v u) Q X.xe s2) :
  wpAny (model X.prog X.w) X.A (eval a X.env) (fun v s₁ => wpAny (model X.prog X.w) X.A (eval b X.env) (fun u s₂ => wpAny (model X.prog X.w) X.A (f v u) Q X.xe s₂) X.xe s₁) X.xe s := by
 refine thn (ha pins s σ H _ I h) fun v s1 z_ => ?_
 obtain ⟨x, H1, I1, r1, q1⟩ := z_
 refine thn (hb pins s1 σ H1 _ I1 q1) fun u s2 z_ => ?_
 obtain ⟨y, H2, I2, r2, q2⟩ := z_
 exact hf v u s2 x y H2 I2 r1 r2 q2
theorem pe_op {op : Operator} {r : R2} (ho : OpR X (binaryOp op) r) (ha : PE X a ta) (hb : PE X b tb) : PE X (.BinOp a op b pos) (tOp r ta tb) := by
 intro pins s σ H Q I h
 exact wpAny_BinOp (binT ha hb I h fun v u s2 x y H2 I2 rx ry q => ho pins s2 σ H2 x y v u Q I2 rx ry q)
theorem pe_un {op : UnaryOp} {r : V → Hp → VK → Prop} (ho : UnR X (unaryOp op) r) (ha : PE X a ta) : PE X (.UnaryOp op a pos) (tUn r ta) := by
 intro pins s σ H Q I h
 exact UnaryOp_ (thn (ha pins s σ H _ I h) fun v s1 ⟨x, H1, I1, r1, q1⟩ => ho pins s1 σ H1 x v Q I1 r1 q1)
theorem opI {f : Value → Value → Sem Value} {C : Int → Int → Prop} {g : Int → Int → Int}
  (rule : ∀ (i j : Int) (t u : Tok) (s : Shared) (Q : Value → Shared → Prop) (E : Value → Shared → Prop), C i j → Q (.int (g i j) s.toks) { s with toks := s.toks + 1 } → wpAny (model X.prog X.w) X.A (f (.int i t) (.int j u)) Q E s) :
  OpR X f (rI C fun i j => .int (g i j)) := by
 intro pins s σ H x y v u Q I rx ry h
 obtain ⟨i, j, rfl, rfl, hc, q⟩ := h
 obtain ⟨t, rfl⟩ := rx
 obtain ⟨t', rfl⟩ := ry
 exact rule i j t t' s _ _ hc ⟨.int (g i j), H, I.tok _, ⟨_, rfl⟩, q⟩
theorem opI0 {f : Value → Value → Sem Value} {g : Int → Int → Int}
  (rule : ∀ (i j : Int) (t u : Tok) (s : Shared) (Q : Value → Shared → Prop) (E : Value → Shared → Prop), Q (.int (g i j) s.toks) { s with toks := s.toks + 1 } → wpAny (model X.prog X.w) X.A (f (.int i t) (.int j u)) Q E s) :
  OpR X f (rI0 fun i j => .int (g i j)) := by
 intro pins s σ H x y v u Q I rx ry h
 obtain ⟨i, j, rfl, rfl, q⟩ := h
 obtain ⟨t, rfl⟩ := rx
 obtain ⟨t', rfl⟩ := ry
 exact rule i j t t' s _ _ ⟨.int (g i j), H, I.tok _, ⟨_, rfl⟩, q⟩
theorem opB0 {f : Value → Value → Sem Value} {g : Int → Int → Bool}
  (rule : ∀ (i j : Int) (t u : Tok) (s : Shared) (Q : Value → Shared → Prop) (E : Value → Shared → Prop), Q (.bool (g i j)) s → wpAny (model X.prog X.w) X.A (f (.int i t) (.int j u)) Q E s) :
  OpR X f (rI0 fun i j => .bl (g i j)) := by
 intro pins s σ H x y v u Q I rx ry h
 obtain ⟨i, j, rfl, rfl, q⟩ := h
 obtain ⟨t, rfl⟩ := rx
 obtain ⟨t', rfl⟩ := ry
 exact rule i j t t' s _ _ ⟨.bl (g i j), H, I, rfl, q⟩
noncomputable def CDiv (i j : Int) : Prop := 0 < j ∧ j < 1073741824
noncomputable def CMul (i j : Int) : Prop := (-(2 ^ 64) < i ∧ i < 2 ^ 64) ∨ (-(2 ^ 64) < j ∧ j < 2 ^ 64)
theorem CMul.ok {i j : Int} (h : CMul i j) : IntMulOk i j := by
 rcases h with ⟨h1, h2⟩ | ⟨h1, h2⟩
 ·exact .of_left (intBits_le_64 h1 h2)
 ·exact .of_right (intBits_le_64 h1 h2)
theorem op_add : OpR X (binaryOp .Add) (rI0 fun i j => .int (i + j)) := opI0 fun _ _ _ _ _ _ _ q => add_int q
theorem op_sub : OpR X (binaryOp .Sub) (rI0 fun i j => .int (i - j)) := opI0 fun _ _ _ _ _ _ _ q => sub_int q
theorem op_mul : OpR X (binaryOp .Mult) (rI CMul fun i j => .int (i * j)) := opI fun _ _ _ _ _ _ _ hc q => mul_int q hc.ok
theorem op_fdiv : OpR X (binaryOp .FloorDiv) (rI CDiv fun i j => .int (i / j)) := opI fun i j _ _ _ _ _ hc q => by
 have h1 : (0 : Int) < j := hc.1
 have h2 : j < 1073741824 := hc.2
 exact floordiv_int (by lia) (by rw [Int.fdiv_eq_ediv_of_nonneg i (by lia)]; exact q) (.inl (PyProof.noPylong_small (by lia)))
theorem op_mod : OpR X (binaryOp .Mod) (rI (fun _ j => 0 < j) fun i j => .int (i % j)) := opI fun i j _ _ _ _ _ hc q => by
 have h1 : (0 : Int) < j := hc
 exact mod_int' (by lia) (by rw [Int.fmod_eq_emod_of_nonneg i (by lia)]; exact q)
theorem unI {f : Value → Sem Value} {g : Int → Int}
  (rule : ∀ (i : Int) (t : Tok) (s : Shared) (Q : Value → Shared → Prop) (E : Value → Shared → Prop), Q (.int (g i) s.toks) { s with toks := s.toks + 1 } → wpAny (model X.prog X.w) X.A (f (.int i t)) Q E s) :
  UnR X f (rU fun i => .int (g i)) := by
 intro pins s σ H x v Q I rx h
 obtain ⟨i, rfl, q⟩ := h
 obtain ⟨t, rfl⟩ := rx
 exact rule i t s _ _ ⟨.int (g i), H, I.tok _, ⟨_, rfl⟩, q⟩
theorem un_neg : UnR X (unaryOp .USub) (rU fun i => .int (-i)) := unI fun _ _ _ _ _ q => neg_int q
end
noncomputable def scal : V → V → Bool
 | .non, .non => true | .non, .int _ => true | .int _, .non => true | .non, .bl _ => true | .bl _, .non => true | .non, .str _ => true | .str _, .non => true
 | .int _, .int _ => true | .bl _, .bl _ => true | .str _, .str _ => true | .byt _, .byt _ => true
 | .int _, .str _ => true | .str _, .int _ => true | .bl _, .str _ => true | .str _, .bl _ => true
 | _, _ => false
noncomputable def rEq : R2 := fun x y H Q => scal x y = true ∧ Q (.bl (decide (x = y))) H
noncomputable def rNe : R2 := fun x y H Q => scal x y = true ∧ Q (.bl (!decide (x = y))) H
theorem dec_int {i j : Int} : decide (V.int i = V.int j) = (i == j) := by
 rw [Bool.eq_iff_iff]
 simp
theorem dec_bl {i j : Bool} : decide (V.bl i = V.bl j) = (i == j) := by
 rw [Bool.eq_iff_iff]
 simp
theorem dec_str {i j : Str} : decide (V.str i = V.str j) = (i == j) := by
 rw [Bool.eq_iff_iff]
 simp
theorem dec_byt {i j : Array UInt8} : decide (V.byt i = V.byt j) = (i.toList == j.toList) := by
 rw [Bool.eq_iff_iff]
 cases i
 cases j
 simp
section
variable {X : Cx} {a b c : Expr} {ta tb tc : TE} {pos : Pos}
theorem fin_bl {pins : List (Addr × Obj)} {σ : St} {H : Hp} {s : Shared} {Q : VK} {k k' : Bool} (I : Inv X pins σ H s) (q : Q (.bl k) H) (e : k = k') : EP X pins σ Q (.bool k') s := by
 subst e
 exact ⟨.bl k, H, I, rfl, q⟩
theorem op_eq : OpR X (compareOp .Eq) rEq := by
 intro pins s σ H x y v u Q I rx ry h
 obtain ⟨hs, q⟩ := h
 cases x with
 | non =>
  cases rx
  cases y with
  | non => cases ry; exact PySem.EqNone.eq_none_none (fin_bl I q (by simp))
  | bl j => cases ry; exact PySem.EqNone.eq_none_bool (fin_bl I q (by simp))
  | int j => obtain ⟨t', rfl⟩ := ry; exact PySem.EqNone.eq_none_int (fin_bl I q (by simp))
  | str j => obtain ⟨t', rfl⟩ := ry; exact PySem.EqNone.eq_none_str (fin_bl I q (by simp))
  | _ => exact absurd (show false = true from hs) Bool.false_ne_true
 | bl i =>
  cases rx
  cases y with
  | non => cases ry; exact PySem.EqNone.eq_bool_none (fin_bl I q (by simp))
  | bl j => cases ry; exact eq_bool (fin_bl I q dec_bl)
  | str j => obtain ⟨t', rfl⟩ := ry; exact PySem.EqMixed.eq_bool_str (fin_bl I q (by simp))
  | _ => exact absurd (show false = true from hs) Bool.false_ne_true
 | int i =>
  obtain ⟨t, rfl⟩ := rx
  cases y with
  | non => cases ry; exact PySem.EqNone.eq_int_none (fin_bl I q (by simp))
  | int j => obtain ⟨t', rfl⟩ := ry; exact eq_int (fin_bl I q dec_int)
  | str j => obtain ⟨t', rfl⟩ := ry; exact PySem.EqMixed.eq_int_str (fin_bl I q (by simp))
  | _ => exact absurd (show false = true from hs) Bool.false_ne_true
 | str i =>
  obtain ⟨t, rfl⟩ := rx
  cases y with
  | non => cases ry; exact PySem.EqNone.eq_str_none (fin_bl I q (by simp))
  | bl j => cases ry; exact PySem.EqMixed.eq_str_bool (fin_bl I q (by simp))
  | int j => obtain ⟨t', rfl⟩ := ry; exact PySem.EqMixed.eq_str_int (fin_bl I q (by simp))
  | str j => obtain ⟨t', rfl⟩ := ry; exact eq_str (fin_bl I q dec_str)
  | _ => exact absurd (show false = true from hs) Bool.false_ne_true
 | byt i =>
  obtain ⟨t, rfl⟩ := rx
  cases y with
  | byt j => obtain ⟨t', rfl⟩ := ry; exact PySem.W.eq_bytes (fin_bl I q dec_byt)
  | _ => exact absurd (show false = true from hs) Bool.false_ne_true
 | _ => cases y <;> exact absurd (show false = true from hs) Bool.false_ne_true
theorem op_ne : OpR X (compareOp .NotEq) rNe := by
 intro pins s σ H x y v u Q I rx ry h
 obtain ⟨hs, q⟩ := h
 cases x with
 | non =>
  cases rx
  cases y with
  | non => cases ry; exact PySem.EqNone.ne_none_none (fin_bl I q (by simp))
  | bl j => cases ry; exact PySem.EqNone.ne_none_bool (fin_bl I q (by simp))
  | int j => obtain ⟨t', rfl⟩ := ry; exact PySem.EqNone.ne_none_int (fin_bl I q (by simp))
  | str j => obtain ⟨t', rfl⟩ := ry; exact PySem.EqNone.ne_none_str (fin_bl I q (by simp))
  | _ => exact absurd (show false = true from hs) Bool.false_ne_true
 | bl i =>
  cases rx
  cases y with
  | non => cases ry; exact PySem.EqNone.ne_bool_none (fin_bl I q (by simp))
  | bl j => cases ry; exact ne_bool (fin_bl I q (congrArg not dec_bl))
  | str j => obtain ⟨t', rfl⟩ := ry; exact PySem.EqMixed.ne_bool_str (fin_bl I q (by simp))
  | _ => exact absurd (show false = true from hs) Bool.false_ne_true
 | int i =>
  obtain ⟨t, rfl⟩ := rx
  cases y with
  | non => cases ry; exact PySem.EqNone.ne_int_none (fin_bl I q (by simp))
  | int j => obtain ⟨t', rfl⟩ := ry; exact ne_int (fin_bl I q (congrArg not dec_int))
  | str j => obtain ⟨t', rfl⟩ := ry; exact PySem.EqMixed.ne_int_str (fin_bl I q (by simp))
  | _ => exact absurd (show false = true from hs) Bool.false_ne_true
 | str i =>
  obtain ⟨t, rfl⟩ := rx
  cases y with
  | non => cases ry; exact PySem.EqNone.ne_str_none (fin_bl I q (by simp))
  | bl j => cases ry; exact PySem.EqMixed.ne_str_bool (fin_bl I q (by simp))
  | int j => obtain ⟨t', rfl⟩ := ry; exact PySem.EqMixed.ne_str_int (fin_bl I q (by simp))
  | str j => obtain ⟨t', rfl⟩ := ry; exact ne_str (fin_bl I q (congrArg not dec_str))
  | _ => exact absurd (show false = true from hs) Bool.false_ne_true
 | byt i =>
  obtain ⟨t, rfl⟩ := rx
  cases y with
  | byt j => obtain ⟨t', rfl⟩ := ry; exact PySem.W.ne_bytes (fin_bl I q (congrArg not dec_byt))
  | _ => exact absurd (show false = true from hs) Bool.false_ne_true
 | _ => cases y <;> exact absurd (show false = true from hs) Bool.false_ne_true
theorem op_lt : OpR X (compareOp .Lt) (rI0 fun i j => .bl (decide (i < j))) := opB0 fun _ _ _ _ _ _ _ q => lt_int q
theorem op_le : OpR X (compareOp .LtE) (rI0 fun i j => .bl (decide (i ≤ j))) := opB0 fun _ _ _ _ _ _ _ q => le_int q
theorem op_gt : OpR X (compareOp .Gt) (rI0 fun i j => .bl (decide (j < i))) := opB0 fun _ _ _ _ _ _ _ q => gt_int q
theorem op_ge : OpR X (compareOp .GtE) (rI0 fun i j => .bl (decide (j ≤ i))) := opB0 fun _ _ _ _ _ _ _ q => ge_int q
theorem op_isN : OpR X (compareOp .Is) (fun x y H Q => y = .non ∧ Q (.bl (decide (x = .non))) H) := by
 intro pins s σ H x y v u Q I rx ry h
 obtain ⟨rfl, q⟩ := h
 cases ry
 refine is_none_gen (fin_bl I q ?_)
 cases x <;> first
  | (cases rx; rfl)
  | (obtain ⟨t, rfl⟩ := rx; rfl)
theorem op_notN : OpR X (compareOp .IsNot) (fun x y H Q => y = .non ∧ Q (.bl (!decide (x = .non))) H) := by
 intro pins s σ H x y v u Q I rx ry h
 obtain ⟨rfl, q⟩ := h
 cases ry
 refine isnot_none_gen (fin_bl I q ?_)
 cases x <;> first
  | (cases rx; rfl)
  | (obtain ⟨t, rfl⟩ := rx; rfl)
theorem nomark (b : Expr) {op : CmpOp} (h : op ≠ .In := by decide) (h2 : op ≠ .NotIn := by decide) : behindInMarks op b = false := by
 have e1 : (op == CmpOp.In) = false := by cases op <;> first | rfl | exact absurd rfl h
 have e2 : (op == CmpOp.NotIn) = false := by cases op <;> first | rfl | exact absurd rfl h2
 cases b <;> simp [behindInMarks, e1, e2]
theorem pe_cmpR {op : CmpOp} {r : R2} (ho : OpR X (compareOp op) r) (ha : PE X a ta) (hb : PE X b tb) (hm : behindInMarks op b = false) : PE X (.Compare a [op] [b] pos) (tOp r ta tb) := by
 intro pins s σ H Q I h
 exact wpAny_Compare1 (binT ha hb I h fun v u s2 x y H2 I2 rx ry q => ho pins s2 σ H2 x y v u Q I2 rx ry q) hm
noncomputable def tTest (t : TE) : TT := fun σ H Q => t σ H fun x H' => BoolP x H' Q
theorem pt_cmpR {op : CmpOp} {r : R2} (ho : OpR X (compareOp op) r) (ha : PE X a ta) (hb : PE X b tb) (hm : behindInMarks op b = false) : PT X (.Compare a [op] [b] pos) (tTest (tOp r ta tb)) := by
 intro pins s σ H Q I h
 refine wpAny_isTrue_Compare1 (thn (ha pins s σ H _ I h) fun v s1 ⟨x, H1, I1, r1, q1⟩ => thn (hb pins s1 σ H1 _ I1 q1) fun u s2 ⟨y, H2, I2, r2, q2⟩ =>
  thn (ho pins s2 σ H2 x y v u _ I2 r1 r2 q2) fun c s3 ⟨z, H3, I3, r3, k, e, q3⟩ => ?_) hm
 subst e
 cases r3
 exact wpAny_truthy_bool ⟨H3, I3, q3⟩
noncomputable def tChain (r r' : R2) (ta tb tc : TE) : TE := fun σ H Q => ta σ H fun x H1 => tb σ H1 fun y H2 => r x y H2 fun z H3 => ∃ k, z = .bl k ∧
 (if k = true then tc σ H3 fun w' H4 => r' y w' H4 Q else Q (.bl false) H3)
theorem pt_chain {op op' : CmpOp} {r r' : R2} (ho : OpR X (compareOp op) r) (ho' : OpR X (compareOp op') r') (ha : PE X a ta) (hb : PE X b tb) (hc : PE X c tc)
  (hm : lastMarks [op, op'] [b, c] = false := by with_unfolding_all rfl) : PT X (.Compare a [op, op'] [b, c] pos) (tTest (tChain r r' ta tb tc)) := by
 intro pins s σ H Q I h
 refine isTrue_chain (thn (ha pins s σ H _ I h) fun v s1 ⟨x, H1, I1, r1, q1⟩ => test_link (thn (hb pins s1 σ H1 _ I1 q1) fun u s2 ⟨y, H2, I2, r2, q2⟩ =>
  thn (ho pins s2 σ H2 x y v u _ I2 r1 r2 q2) fun d s3 ⟨z, H3, I3, r3, k, e, q3⟩ => ?_)) hm
 subst e
 cases r3
 refine wpAny_truthy_bool ?_
 cases k with
 | false =>
  obtain ⟨k', e', q'⟩ := q3
  cases e'
  exact ite_ff ⟨H3, I3, q'⟩
 | true =>
  refine ite_tt (test_last (thn (hc pins s3 σ H3 _ I3 q3) fun w' s4 ⟨z', H4, I4, r4, q4⟩ => thn (ho' pins s4 σ H4 y z' u w' _ I4 r2 r4 q4) fun d' s5 z_ => ?_))
  obtain ⟨z2, H5, I5, r5, k2, e2, q5⟩ := z_
  subst e2
  cases r5
  exact wpAny_truthy_bool ⟨H5, I5, q5⟩
theorem line63 : (sizeLine : Nat) < 2 ^ 63 := by rw [sizeLine_eq]; decide
theorem vals1 {x : V} {us : List Value} (r : Vals [x] us) : ∃ u, us = [u] ∧ RelV x u := by
 cases r with
 | cons r1 r2 => cases r2; exact ⟨_, rfl, r1⟩
theorem vals2 {x y : V} {us : List Value} (r : Vals [x, y] us) : ∃ u w', us = [u, w'] ∧ RelV x u ∧ RelV y w' := by
 cases r with
 | cons r1 r2 =>
  cases r2 with
  | cons r3 r4 => cases r4; exact ⟨_, _, rfl, r1, r3⟩
end
structure ObjM (h : Heap) (x dx C : Addr) (mA : Str → Option Value) : Prop where
 obj : h.get? x = some (PySem.W.instObj C dx)
 ns : h.Ns1 dx mA
 ne : dx ≠ x
theorem lookIn_ns {h : Heap} {dx : Addr} {mA : Str → Option Value} (n : h.Ns1 dx mA) : ∃ od, h.get? dx = some od ∧ ∀ name, PySem.W.lookIn name od = some (mA name) := by
 obtain ⟨o, es, ep, ho, hd, hk, _, hm⟩ := n
 refine ⟨o, ho, fun name => ?_⟩
 have e := hm name
 unfold nsFind findBy at e
 rw [← Array.find?_toList] at e
 unfold PySem.W.lookIn
 rw [hd]
 dsimp only
 split
 ·rename_i y q
  rw [q] at e
  exact congrArg some e
 ·rename_i q
  rw [q] at e
  have a : es.toList.any (·.refKey) = false := by
   rw [List.any_eq_false]
   intro y hy
   obtain ⟨z, t, hkey⟩ := hk y (Array.mem_toList_iff.mp hy)
   simp [DictEntry.refKey, hkey]
  have a' : ¬ es.toList.any (·.refKey) = true := by rw [a]; exact Bool.false_ne_true
  rw [if_neg a']
  exact congrArg some e
theorem ObjM.look {h : Heap} {x dx C : Addr} {mA : Str → Option Value} (I : ObjM h x dx C mA) : ∃ od, PySem.W.InstAt h x (PySem.W.instObj C dx) C (some od) ∧ ∀ name, PySem.W.lookIn name od = some (mA name) :=
 let ⟨od, ho, hl⟩ := lookIn_ns I.ns
 ⟨od, ⟨I.obj, rfl, rfl, ho⟩, hl⟩
section
variable {prog : Program} {w : World} {A : Around} {E : Value → Shared → Prop} {s : Shared} {K : PySem.W.Frag} {x dx C f : Addr} {mA : Str → Option Value} {name : Str} {v : Value}
theorem get_map {expr : Bool} {Q : Value → Shared → Prop} (X : K.In s.heap) (I : ObjM s.heap x dx C mA) (hg : PySem.W.plainGet K C name = true) (hh : PySem.W.hasDictIn K C = true)
  (ha : PySem.W.findIn K (.ref C) name = some none) (hv : mA name = some v) (hv' : PySem.W.handedIn v = true) (h : Q v { s with toks := s.toks + 1 }) :
  wpAny (model prog w) A (getAttr (.ref x) name expr) Q E s := by
 obtain ⟨od, J, hl⟩ := I.look
 exact PySem.W.get_value X J (PySem.W.plainGet_of hg).1 (PySem.W.findObj_own hh ha rfl (by rw [hl, hv])) hv' h
theorem get_meth {pl : Sem Bool} {Q : Value × List Value → Shared → Prop} (X : K.In s.heap) (I : ObjM s.heap x dx C mA) (hg : PySem.W.plainGet K C name = true)
  (hf : PySem.W.findIn K (.ref C) name = some (some (.ref f))) (ht : PySem.W.isFn K (.ref f) = true) (hv : mA name = none) (h : Q (.ref f, [.ref x]) s) :
  wpAny (model prog w) A (getMethod (.ref x) name pl) Q E s := by
 obtain ⟨od, J, hl⟩ := I.look
 exact PySem.W.method_fn X J (PySem.W.plainGet_of hg).1 (PySem.W.plainGet_of hg).2 hf (beq_iff_eq.mp ht) (by show (PySem.W.lookIn name od).map (·.isSome) = some false; rw [hl, hv]; rfl) h
theorem set_map {ns : List Str} {Q : Unit → Shared → Prop} (X : K.In s.heap) (I : ObjM s.heap x dx C mA)
  (hs : PySem.W.findIn K (.ref C) "__setattr__" = some (some (.builtin "object.__setattr__"))) (hp : PySem.W.plainOver K C = true) (ht : PySem.W.takerIn K C name = some none) (hh : PySem.W.hasDictIn K C = true)
  (hw : PySem.Within mA ns) (hsz : ns.length ≤ sizeLine)
  (h : ∀ h', ObjM h' x dx C (fun y => if y = name then some v else mA y) → Heap.SameBut dx s.heap h' → Q () { s with heap := h', toks := s.toks + 2 }) :
  wpAny (model prog w) A (setAttr (.ref x) name v) Q E s := by
 obtain ⟨od, J, hl⟩ := I.look
 refine PySem.W.set_plain X J hs (PySem.W.osa_open (s := { s with toks := s.toks + 1 }) (r := none) X J hp ht fun b => ?_)
 obtain ⟨cd, hc, hd'⟩ := PySem.W.any_some hh
 have hx : s.heap.get? x = some ⟨.ref C, some dx, .plain, #[]⟩ := I.obj
 refine wpAny_bind (wpAny_pure (wpAny_bind (wpAny_bind (wpAny_loadPart hx (wpAny_bind (PySem.W.Looks.here (s := { s with toks := s.toks + 1 }) (PySem.W.looks_clsIn X hc) ?_))))))
 rw [hd']
 refine wpAny_pure (a := some dx) (wpAny_bind (wpAny_pure (wpAny_bind ?_)))
 refine wpAny_nsSet1 (s := { s with toks := s.toks + 1 }) I.ns fun h' hn2 hs2 => ?_
 obtain ⟨oD, esD, epD, hoD, hdD, hcD⟩ := hn2.count (PySem.Within.cons name v hw)
 refine wpAny_bind (wpAny_lookBehind hoD (by rw [hdD]; exact pastItsLine_dict (Nat.le_trans hcD (by rw [List.length_cons]; lia))) ?_)
 exact wpAny_pure (h _ ⟨(hs2.2 _ (Ne.symm I.ne)).trans I.obj, hn2, I.ne⟩ hs2)
theorem make_map {R : Result → Shared → Prop} {vs : List Value} {kw : List (Str × Value)} (X : K.In s.heap) (hm : PySem.W.makesIn K C = true)
  (hi : PySem.W.findIn K (.ref C) "__init__" = some (some (.ref f))) (hf : PySem.W.typeIn K (.ref f) = some (.type "function"))
  (h : codeAny (model prog w) (A.under (.builtin "type.__call__" ⟨.ref C :: vs, kw⟩)) (.call (.ref f) ⟨.ref (s.heap.objs.size + 1) :: vs, kw⟩) (PySem.W.InitBack (s.heap.objs.size + 1) R)
   { s with heap := (s.heap.push PySem.W.emptyDict).push (PySem.W.instObj C s.heap.objs.size) }) :
  codeAny (model prog w) A (.call (.ref C) ⟨vs, kw⟩) R s := by
 obtain ⟨hh, g, d, t, os⟩ := s
 exact PySem.W.make_core (PySem.W.makes_of X hm) (PySem.W.looks_findIn X hi) (fun self => PySem.W.bind_fn X self hf) (.inl rfl) h
end
noncomputable def putF (f : Str) (v : V) : List (Str × V) → List (Str × V)
 | [] => [(f, v)]
 | (g, x) :: r => if g = f then (g, v) :: r else (g, x) :: putF f v r
theorem lookup_putF (f g : Str) (v : V) : ∀ fs : List (Str × V), (putF f v fs).lookup g = if g = f then some v else fs.lookup g
 | [] => by
  show List.lookup g [(f, v)] = _
  by_cases h : g = f
  ·have hb : (g == f) = true := beq_iff_eq.mpr h
   simp only [List.lookup, hb, if_pos h]
  ·have hb : (g == f) = false := beq_eq_false_iff_ne.mpr h
   simp only [List.lookup, hb, if_neg h]
 | (k, x) :: r => by
  have ih := lookup_putF f g v r
  rw [show putF f v ((k, x) :: r) = (if k = f then (k, v) :: r else (k, x) :: putF f v r) from rfl]
  by_cases hk : k = f
  ·rw [if_pos hk]
   by_cases h : g = k
   ·have hb : (g == k) = true := beq_iff_eq.mpr h
    simp only [List.lookup, hb, if_pos (h.trans hk)]
   ·have hb : (g == k) = false := beq_eq_false_iff_ne.mpr h
    simp only [List.lookup, hb, if_neg (fun e : g = f => h (e.trans hk.symm))]
  ·rw [if_neg hk]
   by_cases h : g = k
   ·have hb : (g == k) = true := beq_iff_eq.mpr h
    simp only [List.lookup, hb, if_neg (fun e : g = f => hk (h.symm.trans e))]
   ·have hb : (g == k) = false := beq_eq_false_iff_ne.mpr h
    simp only [List.lookup, hb]
    exact ih
theorem keys_putF (f : Str) (v : V) : ∀ fs : List (Str × V), f ∈ (putF f v fs).map (·.1) ∧ ∀ g, g ∈ fs.map (·.1) → g ∈ (putF f v fs).map (·.1)
 | [] => ⟨by simp [putF], fun g h => by simp at h⟩
 | (k, x) :: r => by
  obtain ⟨i1, i2⟩ := keys_putF f v r
  rw [show putF f v ((k, x) :: r) = (if k = f then (k, v) :: r else (k, x) :: putF f v r) from rfl]
  by_cases hk : k = f
  ·rw [if_pos hk]
   subst hk
   exact ⟨by simp, fun g h => by simpa using h⟩
  ·rw [if_neg hk]
   refine ⟨?_, fun g h => ?_⟩
   ·rw [List.map_cons]
    exact List.mem_cons_of_mem _ i1
   ·rw [List.map_cons] at h ⊢
    rcases List.mem_cons.mp h with e | e
    ·exact List.mem_cons.mpr (.inl e)
    ·exact List.mem_cons_of_mem _ (i2 g e)
theorem length_putF (f : Str) (v : V) : ∀ fs : List (Str × V), (putF f v fs).length ≤ fs.length + 1
 | [] => by simp [putF]
 | (k, x) :: r => by
  have ih := length_putF f v r
  rw [show putF f v ((k, x) :: r) = (if k = f then (k, v) :: r else (k, x) :: putF f v r) from rfl]
  by_cases hk : k = f
  ·rw [if_pos hk, List.length_cons, List.length_cons]; lia
  ·rw [if_neg hk, List.length_cons, List.length_cons]; lia
theorem RelO.some_of {v : V} {o : Option Value} (r : RelO (some v) o) : ∃ u, o = some u ∧ RelV v u := by
 cases o with
 | none => exact (show False from r).elim
 | some u => exact ⟨u, rfl, r⟩
theorem RelO.none_of {o : Option Value} (r : RelO none o) : o = none := by
 cases o with
 | none => rfl
 | some u => exact (show False from r).elim
theorem handed_of {v : V} {u : Value} (r : RelV v u) : PySem.W.handedIn u = true := by
 cases v with
 | non => cases (show u = Value.none from r); rfl
 | bl b => cases (show u = Value.bool b from r); rfl
 | int i => obtain ⟨t, e⟩ := (show ∃ t, u = Value.int i t from r); cases e; rfl
 | str x => obtain ⟨t, e⟩ := (show ∃ t, u = Value.str x t from r); cases e; rfl
 | byt b => obtain ⟨t, e⟩ := (show ∃ t, u = Value.bytes b t from r); cases e; rfl
 | flt b => obtain ⟨t, e⟩ := (show ∃ t, u = Value.float b t from r); cases e; rfl
 | ref a => cases (show u = Value.ref a from r); rfl
 | ty n => cases (show u = Value.type n from r); rfl
section
variable {P : Program} {w : World} {H H' : Hp} {h h' : Heap} {a C dx : Addr} {fs fs' : List (Str × V)}
theorem ins_get (hok : HOk P w H h) (e : H a = some (.ins C dx fs)) : ∃ mA, ObjM h a dx C mA ∧ (∀ f, RelO (fs.lookup f) (mA f)) ∧ PySem.Within mA (fs.map (·.1)) ∧ fs.length ≤ 1000 ∧ H dx = some (.own a) := by
 obtain ⟨d, z, ne, ob, mA, n, r, q⟩ := (show ObjOk P w H h a (.ins C dx fs) from hok a _ e)
 exact ⟨mA, ⟨ob, n, ne⟩, r, q, z, d⟩
end
structure Cls (K : PySem.W.Frag) (C : Addr) : Prop where
 pg : PySem.W.plainGet K C Str.empty = true
 hd : PySem.W.hasDictIn K C = true
 po : PySem.W.plainOver K C = true
 sa : PySem.W.findIn K (.ref C) "__setattr__" = some (some (.builtin "object.__setattr__"))
theorem Cls.get {K : PySem.W.Frag} {C : Addr} (c : Cls K C) (f : Str) : PySem.W.plainGet K C f = true := c.pg
noncomputable def NoAttr (K : PySem.W.Frag) (C : Addr) (f : Str) : Prop := PySem.W.findIn K (.ref C) f = some none
theorem NoAttr.taker {K : PySem.W.Frag} {C : Addr} {f : Str} (n : NoAttr K C f) : PySem.W.takerIn K C f = some none := by
 unfold PySem.W.takerIn
 rw [show PySem.W.findIn K (.ref C) f = some none from n]
 rfl
structure Meth (K : PySem.W.Frag) (C : Addr) (m : Str) (f : Addr) : Prop where
 at_ : PySem.W.findIn K (.ref C) m = some (some (.ref f))
 fn : PySem.W.isFn K (.ref f) = true
 kp : PySem.W.keepIn K (.ref f) = true
section
variable {X : Cx} {pins : List (Addr × Obj)} {σ : St} {H : Hp} {s : Shared} {a C dx : Addr} {fs : List (Str × V)} {f : Str} {v : V} {A : Around} {E : Value → Shared → Prop}
theorem getattr_ok {b : Bool} {Q : Value → Shared → Prop} (I : Inv X pins σ H s) (e : H a = some (.ins C dx fs)) (c : Cls X.K C) (n : NoAttr X.K C f) (l : fs.lookup f = some v)
  (h : ∀ u s', Inv X pins σ H s' → RelV v u → Q u s') : wpAny (model X.prog X.w) A (getAttr (.ref a) f b) Q E s := by
 obtain ⟨mA, O, r, _, _, _⟩ := ins_get I.hok e
 obtain ⟨u, hu, ru⟩ := RelO.some_of (v := v) (o := mA f) (by rw [← l]; exact r f)
 exact get_map I.kIn O (c.get f) c.hd n hu (handed_of ru) (h u _ (I.tok _) ru)
theorem getmeth_ok {m : Str} {g : Addr} {pl : Sem Bool} {Q : Value × List Value → Shared → Prop} (I : Inv X pins σ H s) (e : H a = some (.ins C dx fs)) (c : Cls X.K C) (k : Meth X.K C m g) (l : fs.lookup m = none)
  (h : Q (.ref g, [.ref a]) s) : wpAny (model X.prog X.w) A (getMethod (.ref a) m pl) Q E s := by
 obtain ⟨mA, O, r, _, _, _⟩ := ins_get I.hok e
 have hn : mA m = none := RelO.none_of (by rw [← l]; exact r m)
 exact get_meth I.kIn O (c.get m) k.at_ k.fn hn h
theorem setattr_ok {y : V} {u : Value} {Q : Unit → Shared → Prop} (I : Inv X pins σ H s) (e : H a = some (.ins C dx fs)) (c : Cls X.K C) (n : NoAttr X.K C f) (hl : fs.length < 1000) (ry : RelV y u)
  (h : ∀ s', Inv X pins σ (upd H a (.ins C dx (putF f y fs))) s' → Q () s') : wpAny (model X.prog X.w) A (setAttr (.ref a) f u) Q E s := by
 obtain ⟨mA, O, r, wi, _, ho⟩ := ins_get I.hok e
 have hz : (fs.map (·.1)).length ≤ sizeLine := by rw [List.length_map, sizeLine_eq]; lia
 refine set_map I.kIn O c.sa c.po n.taker c.hd wi hz fun h' O' sb => h _ ?_
 have hd : ∃ o, h'.get? dx = some o := let ⟨o, _, _, e', _⟩ := O'.ns; ⟨o, e'⟩
 refine I.write (x := a) (e := dx) (by rw [e]; exact True.intro) (.inr ho) (fun b q hb z => (sb.2 b hb).trans z) hd ?_
 refine ⟨by rw [upd_ne O.ne]; exact ho, ?_, O.ne, O'.obj, _, O'.ns, fun g => ?_, fun g hg => ?_⟩
 ·have := length_putF f y fs; lia
 ·show RelO ((putF f y fs).lookup g) (if g = f then some u else mA g)
  rw [lookup_putF]
  by_cases q : g = f
  ·rw [if_pos q, if_pos q]; exact ry
  ·rw [if_neg q, if_neg q]; exact r g
 ·by_cases q : g = f
  ·rw [q]; exact (keys_putF f y fs).1
  ·refine (keys_putF f y fs).2 g (wi g fun z => hg ?_)
   show (if g = f then some u else mA g) = none
   rw [if_neg q]; exact z
theorem Inv.made (I : Inv X pins σ H s) : Inv X pins σ (upd (upd H s.heap.objs.size (.own (s.heap.objs.size + 1))) (s.heap.objs.size + 1) (.ins C s.heap.objs.size []))
  { s with heap := (s.heap.push PySem.W.emptyDict).push (PySem.W.instObj C s.heap.objs.size) } := by
 have e1 : (s.heap.push PySem.W.emptyDict).get? s.heap.objs.size = some PySem.W.emptyDict := Heap.get?_push_size s.heap rfl
 have e2 : ((s.heap.push PySem.W.emptyDict).push (PySem.W.instObj C s.heap.objs.size)).get? (s.heap.objs.size + 1) = some (PySem.W.instObj C s.heap.objs.size) := by
  have := Heap.get?_push_size (s.heap.push PySem.W.emptyDict) (o := PySem.W.instObj C s.heap.objs.size) rfl
  rwa [Heap.size_push] at this
 have e3 : (s.heap.push PySem.W.emptyDict).Ns s.heap.objs.size (fun _ => none) := ⟨PySem.W.emptyDict, #[], _, e1, rfl, (fun e he => absurd he (by simp)), fun _ => rfl⟩
 have I1 := I.laid (a := s.heap.objs.size) (o := .own (s.heap.objs.size + 1)) (h' := s.heap.push PySem.W.emptyDict) (t' := s.toks) (fun b u q => Heap.get?_push_of_some _ q) (Nat.le_refl _) ⟨_, e1⟩
 refine I1.laid (a := s.heap.objs.size + 1) (o := .ins C s.heap.objs.size []) (t' := s.toks) (fun b u q => Heap.get?_push_of_some _ q) (Nat.le_of_eq (Heap.size_push _ _)) ?_
 have ne : s.heap.objs.size ≠ s.heap.objs.size + 1 := Nat.ne_of_lt (Nat.lt_succ_self _)
 refine ⟨by rw [upd_ne ne, upd_same], Nat.zero_le _, ne, e2, fun _ => none, (Heap.Ns1.of_empty e3).at fun o q => Heap.get?_push_of_some _ q, fun _ => True.intro, fun y hy => absurd rfl hy⟩
theorem attr_of {prog : Program} {w : World} {env : Env} {e : Expr} {f : Str} {pos : Pos} {s : Shared} {Q : Value → Shared → Prop} (hb : attributeBase e f env (eval e env) = eval e env)
  (h : wpAny (model prog w) A (eval e env) (fun o s₁ => wpAny (model prog w) A (getAttr o f true) Q E s₁) E s) : wpAny (model prog w) A (eval (.Attribute e f pos) env) Q E s :=
 Attribute_any_ h (by rw [arm_eval_Attribute, hb])
end
inductive FldP (K : PySem.W.Frag) (f : Str) (x : V) (H1 : Hp) (Q : VK) : Prop
 | mk (a : Addr) (C : Addr) (dx : Addr) (fs : _) (v : V) (h0 : x = .ref a) (h1 : H1 a = some (.ins C dx fs)) (h2 : Cls K C) (h3 : NoAttr K C f) (h4 : fs.lookup f = some v) (q : Q v H1)
noncomputable def tFld (K : PySem.W.Frag) (ta : TE) (f : Str) : TE := fun σ H Q => ta σ H fun x H1 => FldP K f x H1 Q
noncomputable def sFld (K : PySem.W.Frag) (ta tv : TE) (f : Str) : TS := fun D σ H => tv σ H fun y H1 => ta σ H1 fun x H2 => ∃ a C dx fs, x = .ref a ∧ H2 a = some (.ins C dx fs) ∧ Cls K C ∧ NoAttr K C f ∧ fs.length < 1000 ∧
 D.nx σ (upd H2 a (.ins C dx (putF f y fs)))
section
variable {X : Cx} {o e value : Expr} {f : Str} {pos pos' tpos : Pos} {ta tv : TE}
theorem pe_fld (he : PE X e ta) (hb : attributeBase e f X.env (eval e X.env) = eval e X.env) : PE X (.Attribute e f pos) (tFld X.K ta f) := by
 intro pins s σ H Q I h
 refine attr_of hb (thn (he pins s σ H _ I h) fun u s1 z_ => ?_)
 obtain ⟨x, H1, I1, rx, a, C, dx, fs, v, ex, ea, c, n, l, q⟩ := z_
 subst ex
 obtain rfl : u = Value.ref a := rx
 exact getattr_ok I1 ea c n l fun u' s2 I2 ru => ⟨v, H1, I2, ru, q⟩
theorem ps_fld (ha : PE X o ta) (hv : PE X value tv) (hs : swapsWith value (some (.Attribute o f pos')) pos.line X.env = pure false) : PS X (.Assign [.Attribute o f pos'] value pos) (sFld X.K ta tv f) := by
 intro pins s σ H D I h
 refine plainObj_wpAny_Assign_Attribute (thn (hv pins s σ H _ I h) fun u s1 ⟨y, H1, I1, ry, q⟩ => thn (ha pins s1 σ H1 _ I1 q) fun ov s2 ⟨x, H2, I2, rx, a, C, dx, fs, ex, ea, c, n, l, q2⟩ => ?_) hs
 subst ex
 obtain rfl : ov = Value.ref a := rx
 exact setattr_ok I2 ea c n l ry fun s3 I3 => ⟨σ, _, I3, q2⟩
end
section
variable {X : Cx} {pins : List (Addr × Obj)} {σ : St} {H : Hp} {s : Shared} {A : Around} {E : Value → Shared → Prop} {Q : Value → Shared → Prop} {c : Value} {b : Bool}
inductive TyOf (K : PySem.W.Frag) (H : Hp) : V → Value → Prop where
 | non : TyOf K H .non (.type "NoneType")
 | bl (x : Bool) : TyOf K H (.bl x) (.type "bool")
 | int (i : Int) : TyOf K H (.int i) (.type "int")
 | str (x : Str) : TyOf K H (.str x) (.type "str")
 | flt (x : UInt64) : TyOf K H (.flt x) (.type "float")
 | lst {a : Addr} {xs : List V} (e : H a = some (.lst xs)) : TyOf K H (.ref a) (.type "list")
 | frz {a : Addr} {o : Obj} {xs : List V} (e : H a = some (.frz o (.lst xs))) : TyOf K H (.ref a) (.type "list")
 | tup {a : Addr} {xs : List V} (e : H a = some (.tup xs)) : TyOf K H (.ref a) (.type "tuple")
 | dK {a : Addr} {kvs : List (Key × V)} (e : H a = some (.dK kvs)) : TyOf K H (.ref a) (.type "dict")
 | dT {a : Addr} {kvs : List (List Key × V)} (e : H a = some (.dT kvs)) : TyOf K H (.ref a) (.type "dict")
 | ins {a C dx : Addr} {fs : List (Str × V)} (e : H a = some (.ins C dx fs)) (cl : Cls K C) (ha : PySem.W.findIn K (.ref C) "__class__" = some (some (.builtin "object.__class__")))
   (hn : PySem.W.specialIn K (.builtin "object.__class__") "__get__" = some (some (.builtin "getset_descriptor.__get__"))) (htk : PySem.W.takesIn K (.builtin "object.__class__") = some true)
   (hm : PySem.W.mroIn K C (.type "object") = some true) : TyOf K H (.ref a) (.ref C)
theorem isinst_ok {x : V} {u t : Value} (I : Inv X pins σ H s) (rx : RelV x u) (ty : TyOf X.K H x t) (e : PySem.W.kitOne X.K t c = some b) (h : ∀ tk, Q (.bool b) { s with toks := tk }) :
  wpAny (model X.prog X.w) A (call (.builtin "isinstance") [u, c]) Q E s := by
 cases ty with
 | non => cases (show u = Value.none from rx); exact PySem.W.kia_one PySem.W.kitx_none I.kIn True.intro e (fun z => nomatch z) h
 | bl y => cases (show u = Value.bool y from rx); exact PySem.W.kia_one PySem.W.kitx_bool I.kIn True.intro e (fun z => nomatch z) h
 | int i => obtain ⟨t, q⟩ := (show ∃ t, u = Value.int i t from rx); cases q; exact PySem.W.kia_one PySem.W.kitx_int I.kIn True.intro e (fun z => nomatch z) h
 | str y => obtain ⟨t, q⟩ := (show ∃ t, u = Value.str y t from rx); cases q; exact PySem.W.kia_one PySem.W.kitx_str I.kIn True.intro e (fun z => nomatch z) h
 | flt y => obtain ⟨t, q⟩ := (show ∃ t, u = Value.float y t from rx); cases q; exact PySem.W.kia_one PySem.W.kitx_float I.kIn True.intro e (fun z => nomatch z) h
 | @lst a xs ea =>
  cases (show u = Value.ref a from rx)
  obtain ⟨_, _, n, _, h1⟩ := (show ObjOk X.prog X.w H s.heap a (.lst xs) from I.hok a _ ea)
  exact PySem.W.kia_one PySem.W.kitx_list I.kIn ⟨_, h1, rfl⟩ e (fun z => nomatch z) h
 | @frz a ob xs ea =>
  cases (show u = Value.ref a from rx)
  obtain ⟨_, _, _, n, _, h1⟩ := (show ObjOk X.prog X.w H s.heap a (.frz ob (.lst xs)) from I.hok a _ ea)
  exact PySem.W.kia_one PySem.W.kitx_list I.kIn ⟨_, h1, rfl⟩ e (fun z => nomatch z) h
 | @tup a xs ea =>
  cases (show u = Value.ref a from rx)
  obtain ⟨_, _, _, p⟩ := (show ObjOk X.prog X.w H s.heap a (.tup xs) from I.hok a _ ea)
  obtain ⟨o, h1, h2, _⟩ := p
  exact PySem.W.kia_one PySem.W.kitx_tuple I.kIn ⟨o, h1, h2⟩ e (fun z => nomatch z) h
 | @dK a kvs ea =>
  cases (show u = Value.ref a from rx)
  obtain ⟨_, _, vs, _, p⟩ := (show ObjOk X.prog X.w H s.heap a (.dK kvs) from I.hok a _ ea)
  obtain ⟨o, es, ep, h1, h2, _⟩ := p
  exact PySem.W.kia_one PySem.W.kitx_dict I.kIn ⟨o, h1, h2.1⟩ e (fun z => nomatch z) h
 | @dT a kvs ea =>
  cases (show u = Value.ref a from rx)
  obtain ⟨_, _, xs, _, o, es, ep, h1, h2, _⟩ := (show ObjOk X.prog X.w H s.heap a (.dT kvs) from I.hok a _ ea)
  exact PySem.W.kia_one PySem.W.kitx_dict I.kIn ⟨o, h1, h2.1⟩ e (fun z => nomatch z) h
 | @ins a C dx fs ea cl ha hn htk hm =>
  cases (show u = Value.ref a from rx)
  obtain ⟨mA, O, _⟩ := ins_get I.hok ea
  obtain ⟨od, J, _⟩ := O.look
  exact PySem.W.kia_one (PySem.W.kitx_own (cl.get _) cl.hd ha hn htk hm) I.kIn J e (fun z => nomatch z) h
end
structure Room (k : Nat) (A : Around) : Prop where
 hd : A.handled = none
 dp : A.depth + 3 * k + 5 < recursionLimit
 un : A.units + 16 * k + 200 < cLine
 gd : A.guards = some []
theorem Room.mono {j k : Nat} {A : Around} (r : Room k A) (h : j ≤ k) : Room j A := ⟨r.hd, by have := r.dp; lia, by have := r.un; lia, r.gd⟩
theorem Room.deeper {k : Nat} {A : Around} (r : Room (k + 1) A) (env : Env) : Room k (A.deeper env) :=
 ⟨r.hd, by have := r.dp; show A.depth + 1 + 3 * k + 5 < _; lia, by have := r.un; show A.units + 3 + 16 * k + 200 < _; lia, r.gd⟩
theorem make_depth {A : Around} {C : Addr} {us : List Value} {kw : List (Str × Value)} : (A.under (.builtin "type.__call__" ⟨.ref C :: us, kw⟩)).depth = A.depth + 1 := by
 first | rfl | simp [Around.under, Code.weight, Code.isCreation, Code.isGuard, Code.isCaller, Code.frames, Code.isFrame, guardIds]
theorem make_units {A : Around} {C : Addr} {us : List Value} {kw : List (Str × Value)} : (A.under (.builtin "type.__call__" ⟨.ref C :: us, kw⟩)).units = A.units + 1 := by
 first | rfl | simp [Around.under, Code.cUnits, Code.frames, Code.isFrame]
theorem Room.make {k : Nat} {A : Around} (r : Room (k + 1) A) (C : Addr) (us : List Value) (kw : List (Str × Value)) : Room k (A.under (.builtin "type.__call__" ⟨.ref C :: us, kw⟩)) :=
 ⟨r.hd, by have := r.dp; rw [make_depth]; lia, by have := r.un; rw [make_units]; lia, by simp [Around.under, Code.guards, Code.isGuard, guardIds, pushGuards, r.gd]⟩
theorem Room.depth {k : Nat} {A : Around} (r : Room k A) : A.depth < recursionLimit := by have := r.dp; lia
theorem Room.units {k : Nat} {A : Around} (r : Room k A) : A.units + 64 < cLine := by have := r.un; lia
noncomputable def tNil : TA := fun _ H Q => Q [] H
noncomputable def tCons (ta : TE) (tr : TA) : TA := fun σ H Q => ta σ H fun x H1 => tr σ H1 fun xs H2 => Q (x :: xs) H2
section
variable {X : Cx} {e : Expr} {es : List Expr} {te : TE} {t : TA} {pos : Pos}
theorem pa_nil : PA X [] tNil := fun _ _ _ _ H Q I h => Calls.spliced_nil ⟨[], H, I, .nil, h⟩
theorem pa_cons (ha : PE X e te) (hr : PA X es t) (hs : starEach (e :: es) X.env = (false, eval e X.env) :: starEach es X.env := by rfl) : PA X (e :: es) (tCons te t) := by
 intro pos pins s σ H Q I h
 rw [hs]
 show wpAny _ _ (spliced ((false, eval e X.env) :: backTo pos (starEach es X.env))) _ _ s
 refine Calls.spliced_cons (thn (ha pins s σ H _ I h) fun u s1 z_ => ?_)
 obtain ⟨x, H1, I1, r1, q1⟩ := z_
 exact thn (hr pos pins s1 σ H1 _ I1 q1) fun us s2 ⟨xs, H2, I2, r2, q2⟩ => ⟨x :: xs, H2, I2, .cons r1 r2, q2⟩
noncomputable def tTup (t : TA) : TE := fun σ H Q => t σ H fun xs H1 => xs.length ≤ sizeLine ∧ ∀ p, H1 p = none → Q (.ref p) (upd H1 p (.tup xs))
noncomputable def tLst (t : TA) : TE := fun σ H Q => t σ H fun xs H1 => xs.length ≤ sizeLine ∧ ∀ p, H1 p = none → Q (.ref p) (upd H1 p (.lst xs))
theorem pe_tup {x1} (h : PA X es t) : PE X (.Tuple es x1 pos) (tTup t) := by
 intro pins s σ H Q I hq
 refine wpAny_Tuple_spliced (thn (h pos pins s σ H _ I hq) fun us s1 ⟨xs, H1, I1, r, z, q⟩ => ⟨by rw [← r.length]; exact z, ?_⟩)
 have hf : H1 s1.heap.objs.size = none := I1.hok.fresh (Nat.le_refl _)
 refine ⟨.ref s1.heap.objs.size, upd H1 s1.heap.objs.size (.tup xs), I1.laid (t' := s1.toks) (fun b u e => Heap.get?_push_of_some _ e) (Nat.le_refl _) ?_, rfl, q _ hf⟩
 exact ⟨z, us, r, ⟨_, Heap.get?_push_size _ rfl, rfl, _, rfl⟩⟩
theorem pe_lst (h : PA X es t) : PE X (.List es pos) (tLst t) := by
 intro pins s σ H Q I hq
 refine wpAny_List_spliced (thn (h pos pins s σ H _ I hq) fun us s1 ⟨xs, H1, I1, r, z, q⟩ => ⟨by rw [← r.length]; exact z, ?_⟩)
 have hf : H1 s1.heap.objs.size = none := I1.hok.fresh (Nat.le_refl _)
 refine ⟨.ref s1.heap.objs.size, upd H1 s1.heap.objs.size (.lst xs), I1.laid (t' := s1.toks) (fun b u e => Heap.get?_push_of_some _ e) (Nat.le_refl _) ?_, rfl, q _ hf⟩
 exact ⟨z, us, 0, r, Heap.get?_push_size _ rfl⟩
end
noncomputable abbrev Sp := List V → Hp → VK → XK → Prop
noncomputable abbrev CXT := List Env → Hp → Shared → XK → Value → Shared → Prop
structure Env0 (P : Program) (w : World) (K : PySem.W.Frag) (mg : Str → Option Value) (base : Heap) (A : Around) (outer : List Env) (s : Shared) (H : Hp) : Prop where
 frames : A.frames = some outer
 mod : Mod K mg base
 bs : ∀ b o, base.get? b = some o → s.heap.get? b = some o ∧ H b = none
 bsz : base.objs.size ≤ s.heap.objs.size
 funs : s.heap.FunFrames base outer
 frf : ∀ b ∈ frs outer, H b = none
 hok : HOk P w H s.heap
 bare : AllBare s.gens
noncomputable def CE (outer : List Env) (P : Program) (w : World) (H : Hp) (s : Shared) (Q : VK) (u : Value) (s' : Shared) : Prop :=
 ∃ v H', s'.os = s.os ∧ AllBare s'.gens ∧ Un (frs outer) [] H H' s.heap s'.heap ∧ HOk P w H' s'.heap ∧ RelV v u ∧ Q v H'
noncomputable def CR (CX : CXT) (outer : List Env) (P : Program) (w : World) (H : Hp) (s : Shared) (Q : VK) (E : XK) (r : Result) (s' : Shared) : Prop :=
 match r with
 | .ok (.ret u) => CE outer P w H s Q u s'
 | .ok _ => False
 | .error e => CX outer H s E e s'
structure FnOk (P : Program) (w : World) (K : PySem.W.Frag) (mg : Str → Option Value) (base : Heap) (CX : CXT) (k : Nat) (f : Addr) (fd : FuncData) (ps : List Str) (sp : Sp) : Prop where
 len : ∀ vs H Q E, sp vs H Q E → vs.length = ps.length
 run : ∀ (A : Around) (outer : List Env) (s : Shared) (H : Hp) (args : Args) (us : List Value) (vs : List V) (Q : VK) (E : XK), Room k A → Env0 P w K mg base A outer s H → BindsTo s fd args (ps.zip us) → Vals vs us → sp vs H Q E →
  codeAny (model P w) A (.call (.ref f) args) (CR CX outer P w H s Q E) s
theorem FnOk.imp {P : Program} {w : World} {K : PySem.W.Frag} {mg : Str → Option Value} {base : Heap} {CX : CXT} {k : Nat} {f : Addr} {fd : FuncData} {ps : List Str} {sp sp' : Sp} (F : FnOk P w K mg base CX k f fd ps sp)
  (h : ∀ vs H Q E, sp' vs H Q E → sp vs H Q E) : FnOk P w K mg base CX k f fd ps sp' :=
 ⟨fun vs H Q E q => F.len vs H Q E (h _ _ _ _ q), fun A outer s H args us vs Q E hr he hb hv hs => F.run A outer s H args us vs Q E hr he hb hv (h _ _ _ _ hs)⟩
theorem Env0.make {P : Program} {w : World} {K : PySem.W.Frag} {mg : Str → Option Value} {base : Heap} {A : Around} {outer : List Env} {s : Shared} {H : Hp} (e : Env0 P w K mg base A outer s H) (C : Addr) (us : List Value) (kw : List (Str × Value)) :
  Env0 P w K mg base (A.under (.builtin "type.__call__" ⟨.ref C :: us, kw⟩)) outer s H := ⟨by first | exact e.frames | (simpa [Around.under, Code.envs, Code.isFrame, pushEnvs] using e.frames), e.mod, e.bs, e.bsz, e.funs, e.frf, e.hok, e.bare⟩
section
variable {X : Cx} {pins : List (Addr × Obj)} {σ : St} {H : Hp} {s s' : Shared}
theorem Inv.env0 (I : Inv X pins σ H s) : Env0 X.prog X.w X.K X.mg X.base X.A X.stack s H :=
 ⟨I.ok.frames, I.ok.mod, I.bs, Nat.le_trans I.ok.bsz I.sz, I.stack, I.stkFree, I.hok, I.bare⟩
theorem Inv.after {Q : VK} {u : Value} (I : Inv X pins σ H s) (h : CE X.stack X.prog X.w H s Q u s') : EP X pins σ Q u s' := by
 obtain ⟨v, H', os, bare, un, hok, r, q⟩ := h
 obtain ⟨hh, g, d, t, os'⟩ := s'
 obtain rfl : os' = s.os := os
 exact ⟨v, H', I.call (h' := hh) (g' := g) (d' := d) (t' := t) (ch := []) un hok bare (fun b z => absurd z (by simp)), r, q⟩
end
noncomputable def tCall (sp : Sp) (dvs : List V) (E : XK) (t : TA) : TE := fun σ H Q => t σ H fun vs H1 => sp (vs ++ dvs) H1 Q E
noncomputable def tMeth (C : Addr) (m : Str) (sp : Sp) (dvs : List V) (E : XK) (ta : TE) (t : TA) : TE := fun σ H Q => ta σ H fun x H1 => ∃ a dx fs, x = .ref a ∧ H1 a = some (.ins C dx fs) ∧ fs.lookup m = none ∧
 t σ H1 fun vs H2 => sp (x :: (vs ++ dvs)) H2 Q E
noncomputable def tMake (C : Addr) (sp : Sp) (dvs : List V) (E : XK) (t : TA) : TE := fun σ H Q => t σ H fun vs H1 => ∀ x dx, H1 x = none → H1 dx = none → dx ≠ x →
 sp (.ref x :: (vs ++ dvs)) (upd (upd H1 dx (.own x)) x (.ins C dx [])) (fun v H2 => v = .non ∧ Q (.ref x) H2) E
noncomputable def Binds (K : PySem.W.Frag) (fd : FuncData) (ps : List Str) (ds : List Value) : Prop :=
 ∀ (s : Shared) (us : List Value), K.In s.heap → (us ++ ds).length = ps.length → BindsTo s fd ⟨us, []⟩ (ps.zip (us ++ ds))
theorem Binds.all {K : PySem.W.Frag} {fd : FuncData} {ps : List Str} (h : ∀ us : List Value, us.length = ps.length → bindArgs fd ⟨us, []⟩ = pure (ps.zip us)) : Binds K fd ps [] := fun s us _ hl => by
 rw [List.append_nil] at hl ⊢
 exact .of_eq (h us hl)
noncomputable def Passes (CX : CXT) (X : Cx) (E : XK) : Prop := ∀ (pins : List (Addr × Obj)) (σ : St) (H : Hp) (s : Shared) (e : Value) (s' : Shared), Inv X pins σ H s → CX X.stack H s E e s' → X.xe e s'
section
variable {X : Cx} {CX : CXT} {k : Nat} {f C : Addr} {fd : FuncData} {ps : List Str} {sp : Sp} {dvs : List V} {ds : List Value} {E : XK} {x m : Str} {p pos apos : Pos} {e o : Expr} {es : List Expr} {ta : TE} {t : TA}
theorem run_fn {pins : List (Addr × Obj)} {σ : St} {H : Hp} {s : Shared} {Q : VK} {us : List Value} {vs : List V} (F : FnOk X.prog X.w X.K X.mg X.base CX k f fd ps sp) (hr : Room k X.A) (hb : Binds X.K fd ps ds) (hd : Vals dvs ds) (hx : Passes CX X E)
  (I : Inv X pins σ H s) (r : Vals vs us) (h : sp (vs ++ dvs) H Q E) : wpAny (model X.prog X.w) X.A (call (.ref f) us) (EP X pins σ Q) X.xe s := by
 have r2 : Vals (vs ++ dvs) (us ++ ds) := r.append hd
 have hl : (us ++ ds).length = ps.length := by rw [← r2.length]; exact F.len _ _ _ _ h
 refine wpAny_call (codeAny_mono (F.run X.A X.stack s H ⟨us, []⟩ (us ++ ds) (vs ++ dvs) Q E hr I.env0 (hb s us I.kIn hl) r2 h) fun r s' hq => ?_)
 cases r with
 | error e => exact hx pins σ H s e s' I hq
 | ok fl =>
  cases fl with
  | ret u => exact I.after hq
  | next => exact False.elim hq
  | brk => exact False.elim hq
  | cont => exact False.elim hq
theorem pe_call (F : FnOk X.prog X.w X.K X.mg X.base CX k f fd ps sp) (hr : Room k X.A) (hg : Gl X x) (hm : X.mg x = some (.ref f)) (hk : PySem.W.keepIn X.K (.ref f) = true) (hb : Binds X.K fd ps ds) (hd : Vals dvs ds) (hx : Passes CX X E)
  (ha : PA X (e :: es) t) (hdb : (x == ("__debug__" : Str)) = false := by decide) (he : starEach (e :: es) X.env = (false, eval e X.env) :: starEach es X.env := by rfl) (hpl : (backTo pos (starEach es X.env)).any (·.1) = false := by rfl) :
  PE X (.Call (.Name x p) (e :: es) [] pos) (tCall sp dvs E t) := by
 intro pins s σ H Q I h
 refine wpAny_Call_Name_kw (ld_glob I hg hm ?_ hdb)
 refine PySem.W.callWith_K (h₀ := X.base) I.ok.mod.kin hk (thn (ha pos pins s σ H _ I h) fun us s1 ⟨vs, H1, I1, r, q⟩ => ⟨I1.kIn, ?_⟩) he hpl
 exact run_fn F hr hb hd hx I1 r q
theorem pe_meth0 {pl : Sem Bool} (he : PE X o ta) (c : Cls X.K C) (hm : Meth X.K C m f) (F : FnOk X.prog X.w X.K X.mg X.base CX k f fd ps sp) (hr : Room k X.A) (hb : Binds X.K fd ps ds) (hd : Vals dvs ds) (hx : Passes CX X E)
  (ht : eval (.Call (.Attribute o m apos) [] [] pos) X.env = (do
   let ov ← eval o X.env
   standAt apos.atName
   let (f, first) ← holding [ov] (getMethod ov m pl)
   callWith pos f first (backTo pos (starEach [] X.env)) (backToKw pos (keywordEach [] X.env))) := by rfl) :
  PE X (.Call (.Attribute o m apos) [] [] pos) (tMeth C m sp dvs E ta tNil) := by
 intro pins s σ H Q I h
 refine PySem.W.methodCall_KW (pl := pl) (thn (he pins s σ H _ I h) fun u s1 ⟨x, H1, I1, rx, a, dx, fs, ex, ea, l, q⟩ => ?_) ht
 subst ex
 obtain rfl : u = Value.ref a := rx
 refine getmeth_ok I1 ea c hm l ?_
 exact PySem.W.callWith_K0 (first := [.ref a]) I1.kIn hm.kp (run_fn (us := [.ref a]) (vs := [.ref a]) F hr hb hd hx I1 (.cons rfl .nil) q)
structure Mk (K : PySem.W.Frag) (C f : Addr) : Prop where
 makes : PySem.W.makesIn K C = true
 init : PySem.W.findIn K (.ref C) "__init__" = some (some (.ref f))
 fn : PySem.W.isFn K (.ref f) = true
 kp : PySem.W.keepIn K (.ref C) = true
theorem run_make {pins : List (Addr × Obj)} {σ : St} {H : Hp} {s : Shared} {Q : VK} {us : List Value} {vs : List V} (M : Mk X.K C f) (F : FnOk X.prog X.w X.K X.mg X.base CX k f fd ps sp) (hr : Room (k + 1) X.A) (hb : Binds X.K fd ps ds) (hd : Vals dvs ds)
  (hx : Passes CX X E) (I : Inv X pins σ H s) (r : Vals vs us)
  (h : ∀ x dx, H x = none → H dx = none → dx ≠ x → sp (.ref x :: (vs ++ dvs)) (upd (upd H dx (.own x)) x (.ins C dx [])) (fun v H2 => v = .non ∧ Q (.ref x) H2) E) :
  wpAny (model X.prog X.w) X.A (call (.ref C) us) (EP X pins σ Q) X.xe s := by
 have hq := h (s.heap.objs.size + 1) s.heap.objs.size (I.hok.fresh (Nat.le_succ _)) (I.hok.fresh (Nat.le_refl _)) (Nat.ne_of_lt (Nat.lt_succ_self _))
 have I2 := Inv.made (C := C) I
 have r2 : Vals (V.ref (s.heap.objs.size + 1) :: (vs ++ dvs)) (Value.ref (s.heap.objs.size + 1) :: (us ++ ds)) := .cons rfl (r.append hd)
 have hl : (Value.ref (s.heap.objs.size + 1) :: us ++ ds).length = ps.length := by
  have e := r2.length
  rw [F.len _ _ _ _ hq] at e
  exact e.symm
 refine wpAny_call (make_map (f := f) I.kIn M.makes M.init (beq_iff_eq.mp M.fn) (codeAny_mono (F.run _ X.stack _ _ ⟨Value.ref (s.heap.objs.size + 1) :: us, []⟩ (Value.ref (s.heap.objs.size + 1) :: (us ++ ds)) _ _ E (hr.make C us [])
  (I2.env0.make C us []) (hb _ (Value.ref (s.heap.objs.size + 1) :: us) I2.kIn hl) r2 hq) fun r s' hq' => ?_))
 cases r with
 | error e => exact hx pins σ _ _ e s' I2 hq'
 | ok fl =>
  cases fl with
  | ret u =>
   obtain ⟨v, H', I3, rv, ev, q3⟩ := I2.after hq'
   subst ev
   exact ⟨rv, ⟨V.ref (s.heap.objs.size + 1), H', I3, rfl, q3⟩⟩
  | next => exact False.elim hq'
  | brk => exact False.elim hq'
  | cont => exact False.elim hq'
theorem pe_make (M : Mk X.K C f) (F : FnOk X.prog X.w X.K X.mg X.base CX k f fd ps sp) (hr : Room (k + 1) X.A) (hg : Gl X x) (hm : X.mg x = some (.ref C)) (hb : Binds X.K fd ps ds) (hd : Vals dvs ds) (hx : Passes CX X E)
  (ha : PA X (e :: es) t) (hdb : (x == ("__debug__" : Str)) = false := by decide) (he : starEach (e :: es) X.env = (false, eval e X.env) :: starEach es X.env := by rfl) (hpl : (backTo pos (starEach es X.env)).any (·.1) = false := by rfl) :
  PE X (.Call (.Name x p) (e :: es) [] pos) (tMake C sp dvs E t) := by
 intro pins s σ H Q I h
 refine wpAny_Call_Name_kw (ld_glob I hg hm ?_ hdb)
 refine PySem.W.callWith_K (h₀ := X.base) I.ok.mod.kin M.kp (thn (ha pos pins s σ H _ I h) fun us s1 ⟨vs, H1, I1, r, q⟩ => ⟨I1.kIn, ?_⟩) he hpl
 exact run_make M F hr hb hd hx I1 r q
end
section
variable {X : Cx} {CX : CXT} {k : Nat} {f C : Addr} {fd : FuncData} {ps ks : List Str} {sp : Sp} {E : XK} {x m : Str} {p pos apos kpos : Pos} {e o : Expr} {es : List Expr} {kws : List Keyword} {te ta : TE} {t tk : TA} {nm : Option Str}
variable {g : List Value → List Value → List Value} {gV : List V → List V → List V}
end
structure FnScope (N P : List Str) (sc : Scope) : Prop where
 kind : sc.kind = .function
 co : sc.isCoroutine = false
 gen : sc.isGenerator = false
 nd : N.Nodup
 pre : N.take P.length = P
 par : ∀ x ∈ P, sc.names.lookup x = some .local ∨ sc.names.lookup x = some .cell
 nofree : ∀ y ∈ sc.names, y.2 ≠ .free
theorem bindL_out {kindOf : Str → Option NameKind} {x : Str} : ∀ {binds : List (Str × Value)} {m : Str → Option Value}, (∀ v, (x, v) ∉ binds) → bindL kindOf binds m x = m x
 | [], _, _ => rfl
 | (n, v) :: r, m, h => by
  unfold bindL
  rw [bindL_out fun w hw => h w (List.mem_cons_of_mem _ hw)]
  split
  ·have : x ≠ n := by rintro rfl; exact h v List.mem_cons_self
   simp [this]
  ·rfl
theorem bindC_out {kindOf : Str → Option NameKind} {x : Str} : ∀ {binds : List (Str × Value)} {m : Str → Option Value}, (∀ v, (x, v) ∉ binds) → bindC kindOf binds m x = m x
 | [], _, _ => rfl
 | (n, v) :: r, m, h => by
  unfold bindC
  rw [bindC_out fun w hw => h w (List.mem_cons_of_mem _ hw)]
  split
  ·rfl
  ·have : x ≠ n := by rintro rfl; exact h v List.mem_cons_self
   simp [this]
theorem bindL_get {kindOf : Str → Option NameKind} {x : Str} {v : Value} : ∀ {P : List Str} {vs : List Value} {i : Nat} {m : Str → Option Value}, P.Nodup → P[i]? = some x → vs[i]? = some v → kindOf x = some .local →
  bindL kindOf (P.zip vs) m x = some v
 | [], _, _, _, _, h, _, _ => by simp at h
 | _ :: _, [], _, _, _, _, h, _ => by simp at h
 | p :: P, w :: vs, 0, m, nd, h1, h2, hk => by
  simp at h1 h2; subst h1; subst h2
  show bindL kindOf ((p, w) :: P.zip vs) m p = _
  unfold bindL
  rw [bindL_out fun v hv => (List.nodup_cons.mp nd).1 (List.of_mem_zip hv).1, if_pos hk]
  simp
 | p :: P, w :: vs, i + 1, m, nd, h1, h2, hk => by
  show bindL kindOf ((p, w) :: P.zip vs) m x = _
  unfold bindL
  exact bindL_get (i := i) (List.nodup_cons.mp nd).2 (by simpa using h1) (by simpa using h2) hk
theorem bindC_get {kindOf : Str → Option NameKind} {x : Str} {v : Value} : ∀ {P : List Str} {vs : List Value} {i : Nat} {m : Str → Option Value}, P.Nodup → P[i]? = some x → vs[i]? = some v → kindOf x ≠ some .local →
  bindC kindOf (P.zip vs) m x = some v
 | [], _, _, _, _, h, _, _ => by simp at h
 | _ :: _, [], _, _, _, _, h, _ => by simp at h
 | p :: P, w :: vs, 0, m, nd, h1, h2, hk => by
  simp at h1 h2; subst h1; subst h2
  show bindC kindOf ((p, w) :: P.zip vs) m p = _
  unfold bindC
  rw [bindC_out fun v hv => (List.nodup_cons.mp nd).1 (List.of_mem_zip hv).1, if_neg hk]
  simp
 | p :: P, w :: vs, i + 1, m, nd, h1, h2, hk => by
  show bindC kindOf ((p, w) :: P.zip vs) m x = _
  unfold bindC
  exact bindC_get (i := i) (List.nodup_cons.mp nd).2 (by simpa using h1) (by simpa using h2) hk
noncomputable def start (N : List Str) (vs : List V) : St := vs.map some ++ List.replicate (N.length - vs.length) none
noncomputable def cxOf (CX : CXT) (P : Program) (w : World) (K : PySem.W.Frag) (mg : Str → Option Value) (base : Heap) (N : List Str) (qual : Str) (scope : Scope) (f : Addr) (cd : Value) (A : Around) (outer : List Env) (s : Shared) (H : Hp) (E : XK) : Cx where
 prog := P
 w := w
 K := K
 mg := mg
 base := base
 A := A.deeper (envOfC qual scope s.heap.objs.size f cd)
 N := N
 s₀ := s
 H₀ := H
 env := envOfC qual scope s.heap.objs.size f cd
 outer := outer
 stack := envOfC qual scope s.heap.objs.size f cd :: outer
 ex := []
 calm := true
 fn := fun _ => true
 pn := []
 xe := fun e s' => wpAny (model P w) (A.deeper (envOfC qual scope s.heap.objs.size f cd)) (leaving (envOfC qual scope s.heap.objs.size f cd) e) (fun _ s'' => CX outer H s E e s'') (fun e' s'' => CX outer H s E e' s'') s'
theorem cell_has {sc : Scope} {n : Nat} {x : Str} (h : sc.names.lookup x = some .cell) : ∃ c, (cellsFrom n sc.names []).lookup x = some c := by
 have q := PySem.W.cellsFrom_some sc.names n [] (.inl h)
 exact Option.isSome_iff_exists.mp q
theorem inv_start {CX : CXT} {P : Program} {w : World} {K : PySem.W.Frag} {mg : Str → Option Value} {base : Heap} {N ps : List Str} {qual : Str} {scope : Scope} {f : Addr} {cd : Value} {A : Around} {outer : List Env} {s s1 : Shared} {H : Hp} {E : XK} {us : List Value} {vs : List V}
  (S : FnScope N ps scope) (hd : A.handled = none) (e0 : Env0 P w K mg base A outer s H) (hl : vs.length = ps.length) (r : Vals vs us)
  (x : InCallC s s.heap.objs.size (bindL (envOfC qual scope s.heap.objs.size f cd).kindOf (ps.zip us) fun _ => none) (cellsFrom (s.heap.objs.size + 1) scope.names []) (bindC (envOfC qual scope s.heap.objs.size f cd).kindOf (ps.zip us) fun _ => none) s1) :
  Inv (cxOf CX P w K mg base N qual scope f cd A outer s H E) [] (start N vs) H s1 := by
 have hpl : ps.length ≤ N.length := by have := congrArg List.length S.pre; rw [List.length_take] at this; lia
 obtain ⟨h1, tk, rfl, hk⟩ := x.done
 have noA : ∀ b : Addr, b ∉ (cxOf CX P w K mg base N qual scope f cd A outer s H E).ex := fun b z => absurd (show b ∈ ([] : List Addr) from z) (by simp)
 refine ⟨⟨e0.mod, S.kind, rfl, rfl, Nat.le_refl _, fun y z c h1 h2 => ?_, fun y hy => ?_, fun y c _ h => ?_, fun _ => hd, Around.frames_deeper e0.frames, .inr ⟨rfl, rfl⟩, fun b z => absurd z (noA b), e0.bs, e0.bsz, fun b _ _ => noA b, fun b z => absurd z (noA b), e0.funs, e0.frf⟩,
  rfl, e0.bare, Un.kept hk, ⟨_, x.toInCall.ns, fun i y v h1 h2 h3 => ?_⟩, fun y c h => ⟨_, x.cell y c h⟩, e0.hok.fresh (Nat.le_refl _), fun y c h => ?_, fun p hp => absurd (show p ∈ ([] : List (Addr × Obj)) from hp) (by simp), e0.hok.kept hk, ?_⟩
 ·exact name_of_addr x.apart (PySem.mem_of_lookup h1) (PySem.mem_of_lookup h2)
 ·have hy : scope.names.lookup y = some .cell ∨ scope.names.lookup y = some .free := hy
  rcases hy with hy | hy
  ·exact cell_has hy
  ·exact absurd rfl (S.nofree _ (PySem.mem_of_lookup hy))
 ·exact Nat.le_of_lt (x.above y c (PySem.mem_of_lookup h))
 ·have hi : i < vs.length := by
   unfold start at h2
   by_cases hi : i < vs.length
   ·exact hi
   ·rw [List.getElem?_append_right (by simpa using hi)] at h2
    rw [List.getElem?_replicate] at h2
    split at h2 <;> cases h2
  have ha : vs[i]? = some v := by
   unfold start at h2
   rw [List.getElem?_append_left (by simpa using hi), List.getElem?_map] at h2
   cases e : vs[i]? with
   | none => rw [e] at h2; cases h2
   | some a => rw [e] at h2; cases h2; rfl
  obtain ⟨u, hu, rv⟩ := r.get ha
  have hp : ps[i]? = some y := by
   rw [← S.pre, List.getElem?_take_of_lt (by lia)]; exact h1
  have ndP : ps.Nodup := by rw [← S.pre]; exact S.nd.sublist (List.take_sublist _ _)
  refine ⟨u, rv, ?_⟩
  rcases S.par y (List.mem_of_getElem? hp) with k | k
  ·exact .inl ⟨k, bindL_get ndP hp hu k⟩
  ·obtain ⟨c, e⟩ := cell_has (n := s.heap.objs.size + 1) k
   refine .inr ⟨.inl k, c, e, ?_⟩
   have q := x.cell y c e
   rw [bindC_get ndP hp hu (by show scope.names.lookup y ≠ _; rw [k]; decide)] at q
   exact q
 ·exact e0.hok.fresh (Nat.le_of_lt (x.above y c (PySem.mem_of_lookup h)))
 ·unfold start
  show _ = N.length
  rw [List.length_append, List.length_map, List.length_replicate]
  lia
theorem fn_of {CX : CXT} {P : Program} {w : World} {K : PySem.W.Frag} {mg : Str → Option Value} {base : Heap} {k : Nat} {f : Addr} {name qual : Str} {params : Arguments} {body : List Stmt} {scope : Scope} {dV kV doc pm cdv ct oc : Value} {an od : Option Addr}
  {osl : Array (Option Value)} {N ps : List Str} {sp : Sp} (lk : K.lookup f = some ⟨oc, od, .func (PySem.W.fnOf name qual params body scope dV kV doc pm an cdv ct), osl⟩) (hcd : PySem.W.codeIn K cdv qual = true) (S : FnScope N ps scope)
  (len : ∀ vs H Q E, sp vs H Q E → vs.length = ps.length)
  (hbody : ∀ (A : Around) (outer : List Env) (s : Shared) (H : Hp) (vs : List V) (Q : VK) (E : XK), Room k (A.deeper (envOfC qual scope s.heap.objs.size f cdv)) → sp vs H Q E →
   ∃ t, PSs (cxOf CX P w K mg base N qual scope f cdv A outer s H E) body t ∧ t { nx := fun _ H' => Q .non H', rt := Q } (start N vs) H) :
  FnOk P w K mg base CX (k + 1) f (PySem.W.fnOf name qual params body scope dV kV doc pm an cdv ct) ps sp := by
 refine ⟨len, fun A outer s H args us vs Q E hr e0 hb r hsp => ?_⟩
 have hl := len _ _ _ _ hsp
 have KX : K.In s.heap := e0.mod.kin.keeps fun b o e => (e0.bs b o e).1
 have lim : s.heap.NoLimit := e0.mod.nolimit.keeps fun b o e => (e0.bs b o e).1
 have hkind : ∀ y ∈ ps.zip us, scope.names.lookup y.1 = some .local ∨ (scope.names.lookup y.1 = some .cell ∧ ((cellsFrom (s.heap.objs.size + 1) scope.names []).lookup y.1).isSome = true) := fun ⟨n, v⟩ hy => by
  rcases S.par n (List.of_mem_zip hy).1 with q | q
  ·exact .inl q
  ·exact .inr ⟨q, PySem.W.cellsFrom_some _ _ _ (.inl q)⟩
 refine codeAny_call_function hr.depth (KX _ _ lk) rfl S.co S.gen rfl (PySem.W.codeRec_of KX hcd) (hb _ _ _ _ ?_)
 refine wpAny_newFunctionEnv_cells S.kind hkind fun env he s1 x => ?_
 subst he
 refine ⟨lim.keeps x.toInCall.keep, codeAny_func ?_⟩
 obtain ⟨t, ht, hq⟩ := hbody A outer s H vs Q E (hr.deeper _) hsp
 have I : Inv (cxOf CX P w K mg base N qual scope f cdv A outer s H E) [] (start N vs) H s1 := inv_start S hr.hd e0 hl r x
 refine wpAny_mono (ht [] s1 (start N vs) H _ I hq) (fun fl s' hs => ?_) fun e s' hs => hs
 have fin : ∀ {σ' : St} {H' : Hp} {v : V} {u : Value}, Inv (cxOf CX P w K mg base N qual scope f cdv A outer s H E) [] σ' H' s' → RelV v u → Q v H' → CE outer P w H s Q u s' :=
  fun {σ' H' v u} J rv q => ⟨v, H', J.os, J.bare, J.base, J.hok, rv, q⟩
 cases fl with
 | ret u =>
  obtain ⟨v, σ', H', J, rv, q⟩ := hs
  exact fin J rv q
 | next =>
  obtain ⟨σ', H', J, q⟩ := hs
  exact fin (v := V.non) (u := Value.none) J rfl q
 | brk =>
  obtain ⟨_, _, _, q⟩ := hs
  exact False.elim q
 | cont =>
  obtain ⟨_, _, _, q⟩ := hs
  exact False.elim q
section
variable {X : Cx} {x : Str} {p pos : Pos} {e : Expr} {es : List Expr} {t : TA} {id T : String} {r : List V → Hp → VK → Prop}
noncomputable def tCB (r : List V → Hp → VK → Prop) (t : TA) : TE := fun σ H Q => t σ H fun vs H1 => r vs H1 Q
theorem pe_callB (hc : CallR X (.builtin id) r) (hg : Gl X x) (hm : X.mg x = none) (hv : bootBuiltins x = some (.builtin id)) (ha : PA X (e :: es) t) (hn : x ≠ "__name__" := by decide) (hdb : (x == ("__debug__" : Str)) = false := by decide)
  (he : starEach (e :: es) X.env = (false, eval e X.env) :: starEach es X.env := by rfl) (hpl : (backTo pos (starEach es X.env)).any (·.1) = false := by rfl) : PE X (.Call (.Name x p) (e :: es) [] pos) (tCB r t) := by
 intro pins s σ H Q I h
 refine wpAny_Call_Name_kw (ld_blt I hg hm hv ?_ hn hdb)
 exact PyProof.Rows.callWith_builtin1 (thn (ha pos pins s σ H _ I h) fun us s1 ⟨vs, H1, I1, r1, q1⟩ => hc pins s1 σ H1 vs us Q I1 r1 q1) he hpl
theorem pe_callTy (hc : CallR X (.type T) r) (hg : Gl X x) (hm : X.mg x = none) (hv : bootBuiltins x = some (.type T)) (ha : PA X (e :: es) t) (hn : x ≠ "__name__" := by decide) (hdb : (x == ("__debug__" : Str)) = false := by decide)
  (he : starEach (e :: es) X.env = (false, eval e X.env) :: starEach es X.env := by rfl) (hpl : (backTo pos (starEach es X.env)).any (·.1) = false := by rfl) : PE X (.Call (.Name x p) (e :: es) [] pos) (tCB r t) := by
 intro pins s σ H Q I h
 refine wpAny_Call_Name_kw (ld_blt I hg hm hv ?_ hn hdb)
 exact PyProof.Rows.callWith_type1 (thn (ha pos pins s σ H _ I h) fun us s1 ⟨vs, H1, I1, r1, q1⟩ => hc pins s1 σ H1 vs us Q I1 r1 q1) he hpl
end
end L2
namespace HT
open PySem PyProof.Rows
noncomputable def lexLt : List Int → List Int → Bool
 | [], [] => false
 | [], _ :: _ => true
 | _ :: _, [] => false
 | x :: xs, y :: ys => if x = y then lexLt xs ys else decide (x < y)
theorem lexLt_cons (x y : Int) (xs ys : List Int) : lexLt (x :: xs) (y :: ys) = if x = y then lexLt xs ys else decide (x < y) := rfl
theorem lexLt_nil_nil : lexLt [] [] = false := rfl
theorem lexLt_nil_cons (y : Int) (ys : List Int) : lexLt [] (y :: ys) = true := rfl
theorem lexLt_cons_nil (x : Int) (xs : List Int) : lexLt (x :: xs) [] = false := rfl
theorem eqAt_int (A : Around) (s : Shared) (a : Int) (t : Tok) (c : Int) (u : Tok) : ∃ e, SeqAt.EqAt A s (.int a t) (.int c u) e ∧ (e = true ↔ a = c) :=
 ⟨(a == c), SeqAt.EqAt.int_int a t c u, by simp⟩
theorem rcLt_int (A : Around) (s : Shared) (a : Int) (t : Tok) (c : Int) (u : Tok) (prog : Program) (w : World) (E : Value → Shared → Prop) (Q : Value → Shared → Prop) (h : Q (.bool (decide (a < c))) s) :
  wpAny (model prog w) A (richCompare .Lt (.int a t) (.int c u)) Q E s :=
 (PyProof.Rows.lt_int h : wpAny (model prog w) A (compareOp .Lt (.int a t) (.int c u)) Q E s)
section
open PySem.SeqAt
open PySem.AutoSeq1 (wpAny_loadPart')
open PySem.MeetsSeq PySem.MeetsSeq2 PySem.MeetsSeq3
theorem tuple_lt_ints (l b : Addr) (items items2 : Array Value) (n n2 : Nat) (dd dd2 : Option Addr) (sl sl2 : Array (Option Value)) (ns ms : List Int) (hi : IntsAre items.toList ns) (hj : IntsAre items2.toList ms) :
  Meets (Builtin.«tuple.__lt__» ⟨[.ref l, .ref b], []⟩)
   (fun _ R s => s.heap.get? l = some { cls := .type "tuple", dict := dd, data := .seq items n, slots := sl } ∧ s.heap.get? b = some { cls := .type "tuple", dict := dd2, data := .seq items2 n2, slots := sl2 } ∧
    R (.ok (.ret (.bool (lexLt ns ms)))) s) :=
 .of_wp fun prog w A R s h => by
  obtain ⟨hp, g, d, tk, os⟩ := s; obtain ⟨hl, hb, h⟩ := h
  have f2 := AutoSeq1.sub_tuple_tuple
  have z1 : items.size = ns.length := by rw [← hi.length]; simp
  have z2 : items2.size = ms.length := by rw [← hj.length]; simp
  wp_walk using wpAny_loadPart' hl, wpAny_loadPart' hb, wpAny_forIn_list _ (fun rest b s' => b.1 = none ∧ s' = ⟨hp, g, d, tk, os⟩ ∧ ∃ (vs ws : List Value) (ns' ms' : List Int), rest = vs.zip ws ∧
   IntsAre vs ns' ∧ IntsAre ws ms' ∧ ns'.length + items2.size = ms'.length + items.size ∧ R (.ok (.ret (.bool (lexLt ns' ms')))) ⟨hp, g, d, tk, os⟩) _
  case turn =>
   rintro ⟨y, x⟩ rest b s' ⟨hb', rfl, vs, ws, ns', ms', hz, hvi, hwi, hlen, hR⟩
   cases hvi with
   | nil => rw [List.zip_nil_left] at hz; cases hz
   | cons a t hvi' =>
    cases hwi with
    | nil => rw [List.zip_nil_right] at hz; cases hz
    | cons c u hwi' =>
     rw [List.zip_cons_cons] at hz
     injection hz with hyx hrest
     injection hyx with hy hx
     subst hy hx
     rw [lexLt_cons] at hR
     simp only [List.length_cons] at hlen
     obtain ⟨e, he, hiff⟩ := eqAt_int A.in1 ⟨hp, g, d, tk, os⟩ a t c u
     refine wpAny_bind (he prog w _ _ ?_)
     cases e with
     | true =>
      rw [if_pos (hiff.mp rfl)] at hR
      wp_walk
      exact ⟨rfl, rfl, _, _, _, _, hrest, hvi', hwi', by lia, hR⟩
     | false =>
      rw [if_neg (fun q => absurd (hiff.mpr q) Bool.false_ne_true)] at hR
      have hri := rcLt_int A.in1 ⟨hp, g, d, tk, os⟩ a t c u prog w
      wp_walk using hri
      exact ⟨_, rfl, by simpa using hR⟩
  case fin =>
   rintro ⟨b1, b2⟩ s' ⟨hb', rfl, vs, ws, ns', ms', hz, hvi, hwi, hlen, hR⟩
   simp only at hb'
   subst hb'
   have hv : lexLt ns' ms' = decide (items.size < items2.size) := by
    cases hvi with
    | nil =>
     cases hwi with
     | nil =>
      simp only [List.length_nil] at hlen
      rw [lexLt_nil_nil]
      exact (decide_eq_false (by lia)).symm
     | cons c u hw =>
      simp only [List.length_nil, List.length_cons] at hlen
      rw [lexLt_nil_cons]
      exact (decide_eq_true (by lia)).symm
    | cons a t hv =>
     cases hwi with
     | nil =>
      simp only [List.length_nil, List.length_cons] at hlen
      rw [lexLt_cons_nil]
      exact (decide_eq_false (by lia)).symm
     | cons c u hw =>
      rw [List.zip_cons_cons] at hz
      cases hz
   rw [hv] at hR
   wp_walk
   exact ⟨_, rfl, by simpa [Builtin.Tuple.tupleCompareSizes] using hR⟩
  case h =>
   exact ⟨rfl, rfl, items.toList, items2.toList, ns, ms, rfl, hi, hj, by lia, h⟩
end
section
variable {prog : Program} {w : World} {A : Around} {E : Value → Shared → Prop} {s : Shared}
theorem lt_tupInts {l b : Addr} {items items2 : Array Value} {ns ms : List Int} {Q : Value → Shared → Prop} (hl : IsTup s.heap l items) (hb : IsTup s.heap b items2) (hi : IntsAre items.toList ns) (hj : IntsAre items2.toList ms)
  (hu : A.units < cLine) (h : Q (.bool (lexLt ns ms)) s) : wpAny (model prog w) A (compareOp .Lt (.ref l) (.ref b)) Q E s := by
 obtain ⟨⟨cls, dd, data, sl⟩, ho, hc, n, hd⟩ := id hl
 obtain ⟨⟨cls2, dd2, data2, sl2⟩, ho2, hc2, n2, hd2⟩ := id hb
 simp only at hc hd hc2 hd2
 subst hc hd hc2 hd2
 exact richCompare_meets_room (op := .Lt) ⟨_, ho, rfl⟩ ⟨_, ho2, rfl⟩ PySem.F.slot_tuple_lt PySem.F.entry_tuple_lt (PySem.F.args_tuple_lt_2 _ _) (tuple_lt_ints l b items items2 n n2 dd dd2 sl sl2 ns ms hi hj)
  ⟨ho, ho2, show Value.bool (lexLt ns ms) ≠ Value.notImplemented ∧ Q (.bool (lexLt ns ms)) s from ⟨(fun x => nomatch x), h⟩⟩ hu
theorem cat_tup {t b : Addr} {vs ws : List Value} {Q : Value → Shared → Prop} (ht : IsTup s.heap t vs.toArray) (hb : IsTup s.heap b ws.toArray) (hv : vs ≠ [])
  (h1 : ws = [] → Q (.ref t) s) (h2 : ws ≠ [] → Q (.ref s.heap.objs.size) { s with heap := s.heap.push { cls := .type "tuple", data := .seq (vs ++ ws).toArray } })
  (hsz : vs.length + ws.length ≤ sizeLine) : wpAny (model prog w) A (binaryOp .Add (.ref t) (.ref b)) Q E s := by
 obtain ⟨⟨cls, dd, data, sl⟩, ho, hc, n, hd⟩ := id ht
 obtain ⟨⟨cls2, dd2, data2, sl2⟩, ho2, hc2, n2, hd2⟩ := id hb
 simp only at hc hd hc2 hd2
 subst hc hd hc2 hd2
 have e : vs.toArray ++ ws.toArray = (vs ++ ws).toArray := by simp
 by_cases hw : ws = []
 ·exact concat_meets ⟨_, ho, rfl⟩ ⟨_, ho2, rfl⟩ noFill_tuple_add seq_tuple_add PySem.F.slot_tuple_add PySem.F.entry_tuple_add (PySem.F.args_tuple_add_2 _ _)
   (tuple_addW1 t b vs.toArray ws.toArray n n2 dd dd2 sl sl2 (by simpa using hv) (by simp [hw])) ⟨ho, ho2, h1 hw⟩
 ·refine concat_meets ⟨_, ho, rfl⟩ ⟨_, ho2, rfl⟩ noFill_tuple_add seq_tuple_add PySem.F.slot_tuple_add PySem.F.entry_tuple_add (PySem.F.args_tuple_add_2 _ _)
   (tuple_addW2 t b vs.toArray ws.toArray n n2 dd dd2 sl sl2 (by simpa using hv) (by simpa using hw) (by rw [List.size_toArray, List.size_toArray]; exact hsz)) ⟨ho, ho2, ?_⟩
  rw [e]
  exact h2 hw
noncomputable def sIx (n d : Nat) : Option Int → Nat
 | none => d
 | some v => if v < 0 then (v + (n : Int)).toNat else min v.toNat n
theorem sIx_none (n d : Nat) : sIx n d none = d := rfl
theorem sIx_nat (n d k : Nat) : sIx n d (some (k : Int)) = min k n := by
 show (if (k : Int) < 0 then ((k : Int) + (n : Int)).toNat else min (k : Int).toNat n) = min k n
 rw [if_neg (by lia), Int.toNat_natCast]
theorem sIx_le (n d : Nat) (hd : d ≤ n) (o : Option Int) : sIx n d o ≤ n := by
 cases o with
 | none => exact hd
 | some v =>
  show (if v < 0 then (v + (n : Int)).toNat else min v.toNat n) ≤ n
  by_cases hv : v < 0
  ·rw [if_pos hv]; lia
  ·rw [if_neg hv]; exact Nat.min_le_right _ _
theorem clip_eq (v : Int) (n d : Nat) : (if v < 0 then max (v + (n : Int)) 0 else min v (n : Int)) = ((sIx n d (some v) : Nat) : Int) := by
 show (if v < 0 then max (v + (n : Int)) 0 else min v (n : Int)) = (((if v < 0 then (v + (n : Int)).toNat else min v.toNat n) : Nat) : Int)
 by_cases hv : v < 0
 ·simp only [if_pos hv]; lia
 ·simp only [if_neg hv]; lia
theorem adjust_gen (lo hi : Option Int) (n : Nat) : Builtin.Slice.sliceAdjust lo hi 1 (n : Int) = (((sIx n 0 lo : Nat) : Int), ((sIx n n hi : Nat) : Int)) := by
 have h1 : ¬ ((1 : Int) < 0) := by lia
 unfold Builtin.Slice.sliceAdjust
 simp only [h1, if_false]
 refine Prod.ext ?_ ?_
 ·cases lo with
  | none => rfl
  | some v => exact clip_eq v n 0
 ·cases hi with
  | none => rfl
  | some v => exact clip_eq v n n
theorem places_gen (i j : Nat) : Builtin.Slice.slicePlaces (i : Int) (j : Int) 1 = j - i := by
 unfold Builtin.Slice.slicePlaces
 have h1 : (1 : Int) > 0 := by lia
 simp only [h1, if_true, Int.ediv_one]
 split <;> lia
theorem slicePart_ {v : Value} {o : Option Int} {Q : Option Int → Shared → Prop} (p : IsPart v o) (h : Q o s) : wpAny (model prog w) A (Builtin.Slice.slicePartIndex v) Q E s := by
 cases p with
 | none => exact slicePart_none h
 | int i t => exact slicePart_int h
theorem sliceApplied_gen {sl : Addr} {vl vu : Value} {lo hi : Option Int} {n : Nat} {Q : Int × Int × Nat → Shared → Prop} (hs : s.heap.IsSliceOf sl vl vu .none) (pl : IsPart vl lo) (pu : IsPart vu hi)
  (h : Q (((sIx n 0 lo : Nat) : Int), 1, sIx n n hi - sIx n 0 lo) s) : wpAny (model prog w) A (Builtin.Slice.sliceApplied (.ref sl) (pure (n : Int))) Q E s := by
 obtain ⟨os, hos, hcs, hds⟩ := id hs
 unfold Builtin.Slice.sliceApplied Builtin.Slice.sliceFields
 refine wpAny_bind (wpAny_bind (wpAny_field hos hds (x := vl) rfl (wpAny_bind (wpAny_field hos hds (x := vu) rfl (wpAny_bind (wpAny_field hos hds (x := .none) rfl (wpAny_pure ?_)))))))
 refine wpAny_bind (slicePart_none ?_)
 show wpAny _ _ (if ((1 : Int) == 0) = true then _ else _) _ _ s
 rw [if_neg (by decide)]
 refine wpAny_bind (slicePart_ pl (wpAny_bind (slicePart_ pu (wpAny_bind (wpAny_pure ?_)))))
 show wpAny _ _ (match Builtin.Slice.sliceAdjust lo hi 1 (n : Int) with | (lo, hi) => pure (lo, (1 : Int), Builtin.Slice.slicePlaces lo hi 1)) _ _ s
 rw [adjust_gen lo hi n]
 show wpAny _ _ (pure (((sIx n 0 lo : Nat) : Int), (1 : Int), Builtin.Slice.slicePlaces ((sIx n 0 lo : Nat) : Int) ((sIx n n hi : Nat) : Int) 1)) _ _ s
 rw [places_gen]
 exact wpAny_pure h
theorem pick_gen (xs : Array Value) (i k : Nat) : ((List.range k).filterMap fun (m : Nat) => xs[((i : Int) + (m : Int) * 1).toNat]?).toArray = ((xs.toList.drop i).take k).toArray := by
 have e : (fun (m : Nat) => xs[((i : Int) + (m : Int) * 1).toNat]?) = fun m => xs[i + m]? := by
  funext m
  have : ((i : Int) + (m : Int) * 1).toNat = i + m := by lia
  rw [this]
 rw [e]
 have := pick_run xs i k
 rw [List.filterMap_map] at this
 have e2 : ((fun x => xs[x]?) ∘ fun x => i + x) = fun m => xs[i + m]? := rfl
 rw [e2] at this
 rw [this]
theorem getItem_tuple_cut {t sl : Addr} {items : Array Value} {vl vu : Value} {lo hi : Option Int} {Q : Value → Shared → Prop} (ht : IsTup s.heap t items) (hs : s.heap.IsSliceOf sl vl vu .none) (pl : IsPart vl lo) (pu : IsPart vu hi)
  (hw : ¬ (sIx items.size 0 lo = 0 ∧ sIx items.size items.size hi = items.size))
  (h : Q (.ref s.heap.objs.size) { s with heap := s.heap.push { cls := .type "tuple", data := .seq ((items.toList.drop (sIx items.size 0 lo)).take (sIx items.size items.size hi - sIx items.size 0 lo)).toArray } })
  (hsz : items.size ≤ sizeLine) : wpAny (model prog w) A (getItem (.ref t) (.ref sl)) Q E s := by
 have htake : sizeOk (.seq ((items.toList.drop (sIx items.size 0 lo)).take (sIx items.size items.size hi - sIx items.size 0 lo)).toArray) := by
  show ((items.toList.drop (sIx items.size 0 lo)).take (sIx items.size items.size hi - sIx items.size 0 lo)).toArray.size ≤ sizeLine
  rw [List.size_toArray, List.length_take, List.length_drop, Array.length_toList]
  lia
 have hj : sIx items.size items.size hi ≤ items.size := sIx_le _ _ (Nat.le_refl _) hi
 obtain ⟨os, hos, hcs, hds⟩ := id hs
 have hTs : s.TypeIs (.ref sl) "slice" := ⟨os, hos, hcs⟩
 unfold getItem
 try with_reducible refine wpAny_holding ?_
 first | refine wpAny_bind (wpAny_pure ?_) | skip
 refine wpAny_bind (wpAny_sequenceKey ht.typeIs (by decide) ?_)
 refine wpAny_bind (wpAny_callSpecial?_slot (name := Str.ofString "__getitem__") ht.typeIs PyProof.Rows.slot_tuple_getitem
  (wpAny_call_entry PyProof.Rows.slot_tuple_getitem ht.typeIs entry_tuple_getitem ?_ (args_tuple_getitem _ _)))
 show wpAny _ _ (Builtin.Tuple.tupleItemsOf (.ref t) >>= _) _ _ s
 refine wpAny_bind (tupleItemsOf_ ht ?_)
 refine wpAny_bind (wpAny_typeOf hTs ?_)
 rw [if_pos (by decide)]
 refine wpAny_bind (sliceApplied_gen hs pl pu ?_)
 have hno : ¬ ((((sIx items.size 0 lo : Nat) : Int) == 0 && (1 : Int) == 1 && (sIx items.size items.size hi - sIx items.size 0 lo) == items.size) = true) := by
  intro q
  rw [Bool.and_eq_true, Bool.and_eq_true] at q
  have q1 : ((sIx items.size 0 lo : Nat) : Int) = 0 := eq_of_beq q.1.1
  have q2 : sIx items.size items.size hi - sIx items.size 0 lo = items.size := eq_of_beq q.2
  exact hw ⟨by lia, by lia⟩
 show wpAny _ _ (if (((sIx items.size 0 lo : Nat) : Int) == 0 && (1 : Int) == 1 && (sIx items.size items.size hi - sIx items.size 0 lo) == items.size) = true then _ else _) _ _ s
 rw [if_neg hno, pick_gen]
 first
  | exact wpAny_bind (m := Builtin.Tuple.tupleExact _) (wpAny_newObj_type (wpAny_pure ⟨_, rfl, wpAny_pure h⟩) htake)
  | exact wpAny_bind (m := Builtin.Tuple.tupleExact _) (wpAny_newObj_type (wpAny_bind (wpAny_pure (wpAny_pure ⟨_, rfl, wpAny_pure h⟩))) htake)
  | exact wpAny_bind (wpAny_bind (m := Builtin.Tuple.tupleExact _) (wpAny_newObj_type (wpAny_pure (wpAny_pure ⟨_, rfl, wpAny_pure h⟩)) htake))
  | exact wpAny_bind (wpAny_bind (m := Builtin.Tuple.tupleExact _) (wpAny_newObj_type (wpAny_pure ⟨_, rfl, wpAny_pure h⟩) htake))
end
end HT
namespace L2
open PySem PySem.Spec PyProof.Rows
noncomputable abbrev TO := St → Hp → (Option Int → Hp → Prop) → Prop
noncomputable def PO (X : Cx) (e : Option Expr) (t : TO) : Prop :=
 ∀ (pins : List (Addr × Obj)) (s : Shared) (σ : St) (H : Hp) (Q : Option Int → Hp → Prop), Inv X pins σ H s → t σ H Q →
  wpAny (model X.prog X.w) X.A (evalPart e X.env) (fun u s' => ∃ o H', Inv X pins σ H' s' ∧ IsPart u o ∧ Q o H') X.xe s
noncomputable def tNoPart : TO := fun _ H Q => Q none H
noncomputable def tPart (t : TE) : TO := fun σ H Q => t σ H fun x H1 => ∃ i, x = .int i ∧ Q (some i) H1
theorem intsAre_of {ns : List Int} : ∀ {us : List Value}, Vals (ns.map V.int) us → IntsAre us ns := by
 induction ns with
 | nil => intro us r; rw [List.map_nil] at r; cases r; exact .nil
 | cons n ns ih =>
  intro us r
  rw [List.map_cons] at r
  cases r with
  | cons r1 r2 =>
   obtain ⟨t, e⟩ := r1
   subst e
   exact .cons n t (ih r2)
section
variable {X : Cx} {e : Expr} {te : TE} {lo hi : Option Expr} {tl th : TO} {pos p2 : Pos}
theorem po_none : PO X none tNoPart := by
 intro pins s σ H Q I h
 rw [evalPart_none]
 exact wpAny_pure ⟨none, H, I, .none, h⟩
theorem po_some (h : PE X e te) : PO X (some e) (tPart te) := by
 intro pins s σ H Q I hw
 rw [evalPart_some]
 refine thn (h pins s σ H _ I hw) fun u s1 z_ => ?_
 obtain ⟨x, H1, I1, r1, q1⟩ := z_
 obtain ⟨i, rfl, q⟩ := q1
 obtain ⟨t, rfl⟩ := r1
 exact ⟨some i, H1, I1, .int i t, q⟩
noncomputable def SlR (X : Cx) (r : V → Option Int → Option Int → Hp → VK → Prop) : Prop :=
 ∀ (pins : List (Addr × Obj)) (s : Shared) (σ : St) (H : Hp) (x : V) (v vl vu : Value) (lo hi : Option Int) (sl : Addr) (Q : VK), Inv X pins σ H s → RelV x v → s.heap.IsSliceOf sl vl vu .none → IsPart vl lo → IsPart vu hi → r x lo hi H Q →
  ∃ T id, typeLookup (.type T) "__getitem__" = pure (some (.builtin id)) ∧ s.TypeIs v T ∧ wpAny (model X.prog X.w) X.A (getItem v (.ref sl)) (EP X pins σ Q) X.xe s
noncomputable def tSl (r : V → Option Int → Option Int → Hp → VK → Prop) (te : TE) (tl th : TO) : TE := fun σ H Q => te σ H fun x H1 => tl σ H1 fun l H2 => th σ H2 fun u H3 => r x l u H3 Q
theorem pe_slice {r : V → Option Int → Option Int → Hp → VK → Prop} (hr : SlR X r) (he : PE X e te) (hl : PO X lo tl) (hu : PO X hi th) : PE X (.Subscript e (.Slice lo hi none p2) pos) (tSl r te tl th) := by
 intro pins s σ H Q I h
 refine Subscript_ (thn (he pins s σ H _ I h) fun v s1 z_ => ?_)
 obtain ⟨x, H1, I1, r1, q1⟩ := z_
 refine wpAny_Slice (thn (hl pins s1 σ H1 _ I1 q1) fun vl s2 ⟨l, H2, I2, pl, q2⟩ => thn (hu pins s2 σ H2 _ I2 q2) fun vu s3 z_ => ?_)
 obtain ⟨u, H3, I3, pu, q3⟩ := z_
 rw [evalPart_none]
 refine wpAny_pure ?_
 have I4 : Inv X pins σ H3 { s3 with heap := s3.heap.push { cls := .type "slice", data := .fields #[vl, vu, .none] } } := I3.kept (t' := s3.toks) fun b ob q => Heap.get?_push_of_some _ q
 obtain ⟨T, id, hT, ht, hg⟩ := hr pins { s3 with heap := s3.heap.push { cls := .type "slice", data := .fields #[vl, vu, .none] } } σ H3 x v vl vu l u s3.heap.objs.size Q I4 r1 (Heap.IsSliceOf.new ..) pl pu q3
 show wpAny (model X.prog X.w) X.A (subscriptTail e (.Slice lo hi none p2) v (.ref s3.heap.objs.size)) (EP X pins σ Q) X.xe { s3 with heap := s3.heap.push { cls := .type "slice", data := .fields #[vl, vu, .none] } }
 exact tail_any (ops := [.ref s3.heap.objs.size, v]) ht hT hg (by with_unfolding_all rfl)
noncomputable def cutV (xs : List V) (lo hi : Option Int) : List V := (xs.drop (HT.sIx xs.length 0 lo)).take (HT.sIx xs.length xs.length hi - HT.sIx xs.length 0 lo)
theorem cutV_length (xs : List V) (lo hi : Option Int) : (cutV xs lo hi).length ≤ xs.length := by
 unfold cutV
 rw [List.length_take, List.length_drop]
 lia
inductive rSlTP (K : PySem.W.Frag) (x : V) (lo : Option Int) (hi : Option Int) (H : Hp) (Q : VK) : Prop
 | mk (a : _) (xs : _) (h_0 : x = .ref a) (h_1 : SqT K H a xs) (h_2 : ¬ (HT.sIx xs.length 0 lo = 0 ∧ HT.sIx xs.length xs.length hi = xs.length)) (h_3 : ∀ p, H p = none → Q (.ref p) (upd H p (.tup (cutV xs lo hi))))
noncomputable def rSlT (K : PySem.W.Frag) : V → Option Int → Option Int → Hp → VK → Prop := fun x lo hi H Q => rSlTP K x lo hi H Q
theorem sl_tup : SlR X (rSlT X.K) := by
 intro pins s σ H x v vl vu lo hi sl Q I rx hs pl pu h
 obtain ⟨a, xs, rfl, hx, hw, q⟩ := h
 cases rx
 obtain ⟨its, r, ht, hz⟩ := I.tuple hx
 have hlen : its.toArray.size = xs.length := by rw [List.size_toArray]; exact r.length.symm
 refine ⟨"tuple", _, PyProof.Rows.slot_tuple_getitem.lookup, ht.typeIs, ?_⟩
 refine HT.getItem_tuple_cut ht hs pl pu (by rw [hlen]; exact hw) ?_ (by rw [hlen]; exact hz)
 rw [hlen]
 refine ⟨.ref s.heap.objs.size, _, I.laid (t' := s.toks) (o := .tup (cutV xs lo hi)) (fun b ob q => Heap.get?_push_of_some _ q) (Nat.le_refl _) ?_, rfl, q _ (I.hok.fresh (Nat.le_refl _))⟩
 exact ⟨Nat.le_trans (cutV_length xs lo hi) hz, _, (r.drop (HT.sIx xs.length 0 lo)).take (HT.sIx xs.length xs.length hi - HT.sIx xs.length 0 lo), IsTup.new _ _⟩
inductive rCatTP (K : PySem.W.Frag) (x : V) (y : V) (H : Hp) (Q : VK) : Prop
 | mk (a : _) (b : _) (xs : _) (ys : _) (h_0 : x = .ref a) (h_1 : y = .ref b) (h_2 : SqT K H a xs) (h_3 : SqT K H b ys) (h_4 : xs ≠ []) (h_5 : xs.length + ys.length ≤ sizeLine) (h_6 : (ys = [] → Q (.ref a) H)) (h_7 : (ys ≠ [] → ∀ p, H p = none → Q (.ref p) (upd H p (.tup (xs ++ ys)))))
noncomputable def rCatT (K : PySem.W.Frag) : R2 := fun x y H Q => rCatTP K x y H Q
theorem Vals.nil_iff {xs : List V} {us : List Value} (r : Vals xs us) : us = [] ↔ xs = [] := by
 cases r with
 | nil => simp
 | cons _ _ => simp
theorem op_catT : OpR X (binaryOp .Add) (rCatT X.K) := by
 intro pins s σ H x y v u Q I rx ry h
 obtain ⟨a, b, xs, ys, rfl, rfl, ha, hb, hx, hz, q1, q2⟩ := h
 cases rx
 cases ry
 obtain ⟨its, r1, p1, _⟩ := I.tuple ha
 obtain ⟨its2, r2, p2, _⟩ := I.tuple hb
 refine HT.cat_tup p1 p2 (fun z => hx (r1.nil_iff.mp z)) (fun z => ⟨.ref a, H, I, rfl, q1 (r2.nil_iff.mp z)⟩) (fun z => ?_) (by rw [← r1.length, ← r2.length]; exact hz)
 refine ⟨.ref s.heap.objs.size, _, I.laid (t' := s.toks) (o := .tup (xs ++ ys)) (fun b ob q => Heap.get?_push_of_some _ q) (Nat.le_refl _) ?_, rfl, q2 (fun w => z (r2.nil_iff.mpr w)) _ (I.hok.fresh (Nat.le_refl _))⟩
 exact ⟨by rw [List.length_append]; exact hz, _, r1.append r2, IsTup.new _ _⟩
end
noncomputable def ixN (n : Nat) (i : Int) : Option Nat := if 0 ≤ i then (if i < n then some i.toNat else none) else if -(n : Int) ≤ i then some (i + n).toNat else none
noncomputable def atI {α : Type} (xs : List α) (i : Int) : Option α := (ixN xs.length i).bind fun j => xs[j]?
theorem ixN_seq {n : Nat} {i : Int} {j : Nat} (h : ixN n i = some j) : seqIndex? i n = some j ∧ j < n ∧ -(n : Int) ≤ i ∧ i < n := by
 unfold ixN at h
 by_cases h0 : 0 ≤ i
 ·rw [if_pos h0] at h
  by_cases h1 : i < n
  ·rw [if_pos h1] at h
   have e : i.toNat = j := Option.some.inj h
   exact ⟨by rw [seqIndex_of h0 h1, e], by lia, by lia, h1⟩
  ·rw [if_neg h1] at h; cases h
 ·rw [if_neg h0] at h
  by_cases h1 : -(n : Int) ≤ i
  ·rw [if_pos h1] at h
   have e : (i + n).toNat = j := Option.some.inj h
   exact ⟨by rw [seqIndex_neg (by lia) h1, e], by lia, h1, by lia⟩
  ·rw [if_neg h1] at h; cases h
theorem atI_get {α : Type} {xs : List α} {i : Int} {v : α} (h : atI xs i = some v) : ∃ j, seqIndex? i xs.length = some j ∧ xs[j]? = some v ∧ j < xs.length ∧ -(xs.length : Int) ≤ i ∧ i < xs.length := by
 unfold atI at h
 cases e : ixN xs.length i with
 | none => rw [e] at h; cases h
 | some j =>
  rw [e] at h
  obtain ⟨h1, h2, h3, h4⟩ := ixN_seq e
  exact ⟨j, h1, h, h2, h3, h4⟩
theorem atI_nat {α : Type} {xs : List α} {j : Nat} {v : α} (h : xs[j]? = some v) : atI xs (j : Int) = some v := by
 have hj : j < xs.length := (List.getElem?_eq_some_iff.mp h).1
 have e : ixN xs.length (j : Int) = some j := by
  unfold ixN
  rw [if_pos (by lia), if_pos (by lia)]; simp
 unfold atI; rw [e]; exact h
theorem atI_last {α : Type} (xs : List α) (v : α) : atI (xs ++ [v]) (-1) = some v := by
 have hl : (xs ++ [v]).length = xs.length + 1 := by simp
 have e : ixN (xs ++ [v]).length (-1) = some xs.length := by
  unfold ixN
  rw [hl, if_neg (by decide), if_pos (by lia)]
  congr 1
  lia
 unfold atI
 rw [e]
 show (xs ++ [v])[xs.length]? = some v
 simp
noncomputable def PlainIx (b : Expr) : Prop := ∀ o i, subscripted b false o i = operate [o, i] (getItem o i)
noncomputable def IxR (X : Cx) (r : R2) : Prop :=
 ∀ (value slice : Expr) (pins : List (Addr × Obj)) (s : Shared) (σ : St) (H : Hp) (x y : V) (v u : Value) (Q : VK), Inv X pins σ H s → RelV x v → RelV y u → r x y H Q →
  subscripted slice false v u = operate [v, u] (getItem v u) → wpAny (model X.prog X.w) X.A (subscriptTail value slice v u) (EP X pins σ Q) X.xe s
noncomputable def MtR (X : Cx) (id : String) (r : V → List V → Hp → VK → Prop) : Prop :=
 ∀ (pins : List (Addr × Obj)) (s : Shared) (σ : St) (H : Hp) (x : V) (xs : List V) (v : Value) (us : List Value) (Q : VK), Inv X pins σ H s → RelV x v → Vals xs us → r x xs H Q →
  wpAny (model X.prog X.w) X.A (call (.builtin id) (v :: us)) (EP X pins σ Q) X.xe s
section
variable {X : Cx} {a b : Expr} {ta tb : TE} {pos : Pos}
theorem pe_ix {r : R2} (hr : IxR X r) (ha : PE X a ta) (hb : PE X b tb) (hs : PlainIx b) : PE X (.Subscript a b pos) (tOp r ta tb) := by
 intro pins s σ H Q I h
 exact Subscript_ (binT ha hb I h fun v u s2 x y H2 I2 rx ry q => hr a b pins s2 σ H2 x y v u Q I2 rx ry q (hs _ _))
inductive rIxLP (K : PySem.W.Frag) (x : V) (y : V) (H : Hp) (Q : VK) : Prop
 | mk (p : _) (xs : _) (i : _) (v : _) (h_0 : x = .ref p) (h_1 : y = .int i) (h_2 : SqL K H p xs) (h_3 : atI xs i = some v) (h_4 : Q v H)
noncomputable def rIxL (K : PySem.W.Frag) : R2 := fun x y H Q => rIxLP K x y H Q
inductive rIxTP (K : PySem.W.Frag) (x : V) (y : V) (H : Hp) (Q : VK) : Prop
 | mk (p : _) (xs : _) (i : _) (v : _) (h_0 : x = .ref p) (h_1 : y = .int i) (h_2 : SqT K H p xs) (h_3 : atI xs i = some v) (h_4 : Q v H)
noncomputable def rIxT (K : PySem.W.Frag) : R2 := fun x y H Q => rIxTP K x y H Q
theorem ix_list : IxR X (rIxL X.K) := by
 intro value slice pins s σ H x y v u Q I rx ry h hs
 obtain ⟨p, xs, i, z, rfl, rfl, hq, he, q⟩ := h
 cases rx
 obtain ⟨t, rfl⟩ := ry
 obtain ⟨its, r, pl, hz⟩ := I.list hq
 obtain ⟨j, h1, h2, h3, h4, h5⟩ := atI_get he
 obtain ⟨w, ew, rw'⟩ := r.get h2
 have hl := r.length
 have hn := line63
 have fin : EP X pins σ Q w s := ⟨z, H, I, rw', q⟩
 by_cases h0 : 0 ≤ i
 ·have hj : i.toNat = j := by
   rw [seqIndex_of h0 h5] at h1
   exact Option.some.inj h1
  exact item_listR pl.isList h0 (by lia) (by rw [hj]; simpa using ew) fin hs
 ·have hj : (i + (its.toArray.size : Int)).toNat = j := by
   rw [seqIndex_neg (by lia) h4] at h1
   rw [List.size_toArray, ← hl]
   exact Option.some.inj h1
  exact subscriptTail_builtinR (x := w) pl.isList.typeIs slot_list_getitem.lookup
   (wpAny_getItem_list_neg (Q := fun r s' => r = w ∧ EP X pins σ Q r s') pl.isList (by lia) (by rw [List.size_toArray] <;> lia) (by lia) (by rw [hj]; simpa using ew) ⟨rfl, fin⟩) hs
theorem ix_tup : IxR X (rIxT X.K) := by
 intro value slice pins s σ H x y v u Q I rx ry h hs
 obtain ⟨p, xs, i, z, rfl, rfl, hq, he, q⟩ := h
 cases rx
 obtain ⟨t, rfl⟩ := ry
 obtain ⟨its, r, pl, hz⟩ := I.tuple hq
 obtain ⟨j, h1, h2, h3, h4, h5⟩ := atI_get he
 obtain ⟨w, ew, rw'⟩ := r.get h2
 have hl := r.length
 have hn := line63
 have fin : EP X pins σ Q w s := ⟨z, H, I, rw', q⟩
 exact subscriptTail_builtinR (x := w) pl.typeIs slot_tuple_getitem.lookup
  (getItem_tuple (j := j) (Q := fun r s' => r = w ∧ EP X pins σ Q r s') pl (by lia) (by lia) (by rw [List.size_toArray, ← hl]; exact h1) (by simpa using ew) ⟨rfl, fin⟩) hs
theorem mapSeq_set (its : List Value) (n j : Nat) (u : Value) : Obj.mapSeq (·.setIfInBounds j u) { cls := .type "list", data := .seq its.toArray n } = { cls := .type "list", data := .seq (its.set j u).toArray n } := by
 simp [Obj.mapSeq]
theorem Inv.lst {pins : List (Addr × Obj)} {σ : St} {H : Hp} {s : Shared} {p : Addr} {xs : List V} (I : Inv X pins σ H s) (h : H p = some (.lst xs)) :
  ∃ (its : List Value) (n : Nat), Vals xs its ∧ s.heap.get? p = some { cls := .type "list", data := .seq its.toArray n } ∧ xs.length ≤ sizeLine := by
 obtain ⟨z, its, n, r, e⟩ := I.hok p _ h
 exact ⟨its, n, r, e, z⟩
theorem Inv.lstUpd {pins : List (Addr × Obj)} {σ : St} {H : Hp} {s : Shared} {p : Addr} {xs ys : List V} {its its' : List Value} {n n' : Nat} {f : Obj → Obj} (I : Inv X pins σ H s) (h : H p = some (.lst xs))
  (ho : s.heap.get? p = some { cls := .type "list", data := .seq its.toArray n }) (hf : f { cls := .type "list", data := .seq its.toArray n } = { cls := .type "list", data := .seq its'.toArray n' }) (r : Vals ys its') (hz : ys.length ≤ sizeLine) (t : Nat) :
  Inv X pins σ (upd H p (.lst ys)) { s with heap := s.heap.update p f, toks := t } := by
 have e : (s.heap.update p f).get? p = some { cls := .type "list", data := .seq its'.toArray n' } := by
  rw [Heap.get?_update_self f ho (by rw [hf] <;> rfl), hf]
 refine I.write (x := p) (e := p) (by rw [h]; trivial) (.inl rfl) (fun b u hb q => (Heap.get?_update_other _ _ (Ne.symm hb)).trans q) ⟨_, e⟩ ?_
 exact ⟨hz, its', n', r, e⟩
inductive rSetLP (o : V) (i : V) (v : V) (H : Hp) (Q : (Hp → Prop)) : Prop
 | mk (p : _) (xs : _) (k : _) (j : _) (h_0 : o = .ref p) (h_1 : i = .int k) (h_2 : H p = some (.lst xs)) (h_3 : ixN xs.length k = some j) (h_4 : Q (upd H p (.lst (xs.set j v))))
noncomputable def rSetL : V → V → V → Hp → (Hp → Prop) → Prop := fun o i v H Q => rSetLP o i v H Q
theorem set_list : PSet X rSetL := by
 intro pins s σ H o i v ov iv u Q I ro ri rv h
 obtain ⟨p, xs, k, j, rfl, rfl, hp, hj, q⟩ := h
 cases ro
 obtain ⟨t, rfl⟩ := ri
 obtain ⟨its, n, r, ho, hz⟩ := I.lst hp
 obtain ⟨h1, h2, h3, h4⟩ := ixN_seq hj
 have hl := r.length
 have hn := line63
 have I' : Inv X pins σ (upd H p (.lst (xs.set j v))) { s with heap := s.heap.update p (Obj.mapSeq (·.setIfInBounds j u)) } :=
  I.lstUpd hp ho (mapSeq_set its n j u) (r.set rv j) (by rw [List.length_set]; exact hz) s.toks
 by_cases h0 : 0 ≤ k
 ·have hk : k.toNat = j := by
   rw [seqIndex_of h0 h4] at h1
   exact Option.some.inj h1
  exact PySem.W.ki_setAt ho h0 (by lia) (by rw [List.size_toArray, ← hl]; exact h4) (by rw [hk]; exact ⟨_, I', q⟩)
 ·have hk : (k + (its.toArray.size : Int)).toNat = j := by
   rw [seqIndex_neg (by lia) h3] at h1
   rw [List.size_toArray, ← hl]
   exact Option.some.inj h1
  exact PySem.W.ki_setBack ho (by lia) (by rw [List.size_toArray, ← hl]; exact h3) (by lia) (by rw [hk]; exact ⟨_, I', q⟩)
noncomputable def flatV : V → Bool
 | .non => true
 | .bl _ => true
 | .int _ => true
 | .str _ => true
 | _ => false
noncomputable def eqV : V → V → Bool
 | .non, .non => true
 | .bl a, .bl b => a == b
 | .bl a, .int b => (if a then 1 else 0) == b
 | .int a, .bl b => a == (if b then 1 else 0)
 | .int a, .int b => a == b
 | .str a, .str b => a == b
 | _, _ => false
theorem eqAt_V {A : Around} {s : Shared} {y x : V} {u v : Value} (ry : RelV y u) (rx : RelV x v) (fy : flatV y = true) (fx : flatV x = true) : SeqAt.EqAt A s u v (eqV y x) := by
 cases y with
 | non =>
  cases ry
  cases x with
  | non => cases rx; exact SeqAt.EqAt.same _
  | bl b => cases rx; exact SeqAt.EqAt.none_bool b
  | int b => obtain ⟨t, rfl⟩ := rx; exact SeqAt.EqAt.none_int b t
  | str b => obtain ⟨t, rfl⟩ := rx; exact SeqAt.EqAt.none_str b t
  | _ => exact absurd (show false = true from fx) Bool.false_ne_true
 | bl a =>
  cases ry
  cases x with
  | non => cases rx; exact SeqAt.EqAt.bool_none a
  | bl b => cases rx; exact SeqAt.EqAt.bool_bool a b
  | int b => obtain ⟨t, rfl⟩ := rx; exact SeqAt.EqAt.bool_int a b t
  | str b => obtain ⟨t, rfl⟩ := rx; exact SeqAt.EqAt.bool_str a b t
  | _ => exact absurd (show false = true from fx) Bool.false_ne_true
 | int a =>
  obtain ⟨t', rfl⟩ := ry
  cases x with
  | non => cases rx; exact SeqAt.EqAt.int_none a t'
  | bl b => cases rx; exact SeqAt.EqAt.int_bool a t' b
  | int b => obtain ⟨t, rfl⟩ := rx; exact SeqAt.EqAt.int_int a t' b t
  | str b => obtain ⟨t, rfl⟩ := rx; exact SeqAt.EqAt.int_str a t' b t
  | _ => exact absurd (show false = true from fx) Bool.false_ne_true
 | str a =>
  obtain ⟨t', rfl⟩ := ry
  cases x with
  | non => cases rx; exact SeqAt.EqAt.str_none a t'
  | bl b => cases rx; exact SeqAt.EqAt.str_bool a t' b
  | int b => obtain ⟨t, rfl⟩ := rx; exact SeqAt.EqAt.str_int a t' b t
  | str b => obtain ⟨t, rfl⟩ := rx; exact SeqAt.EqAt.str_str a t' b t
  | _ => exact absurd (show false = true from fx) Bool.false_ne_true
 | _ => exact absurd (show false = true from fy) Bool.false_ne_true
theorem call_len_seq : CallR X (.builtin "len") (fun xs H Q => ∃ p ys, xs = [.ref p] ∧ (SqL X.K H p ys ∨ SqT X.K H p ys) ∧ Q (.int ys.length) H) := by
 intro pins s σ H xs us Q I r h
 obtain ⟨p, ys, rfl, hq, q⟩ := h
 obtain ⟨u, rfl, rx⟩ := vals1 r
 cases rx
 have hn := line63
 rcases hq with hq | hq
 ·obtain ⟨its, r', pl, hz⟩ := I.list hq
  have hlen := r'.length
  exact Calls.call_len_list pl.isList (by simp only [List.size_toArray] <;> lia) ⟨.int ys.length, H, I.tok _, ⟨s.toks + 1, by rw [List.size_toArray, hlen]⟩, q⟩
 ·obtain ⟨its, r', pl, hz⟩ := I.tuple hq
  have hlen := r'.length
  exact len_tuple pl (by simp only [List.size_toArray] <;> lia) ⟨.int ys.length, H, I.tok _, ⟨s.toks + 1, by rw [List.size_toArray, hlen]⟩, q⟩
theorem call_list_of : CallR X (.type "list") (fun xs H Q => ∃ p ys, xs = [.ref p] ∧ (SqL X.K H p ys ∨ SqT X.K H p ys) ∧ ∀ l, H l = none → Q (.ref l) (upd H l (.lst ys))) := by
 intro pins s σ H xs us Q I r h
 obtain ⟨p, ys, rfl, hq, q⟩ := h
 obtain ⟨u, rfl, rx⟩ := vals1 r
 cases rx
 have fin : ∀ (its : List Value), Vals ys its → ys.length ≤ sizeLine → ∀ (h' : Heap) (c' : Nat), (∀ b o', s.heap.get? b = some o' → h'.get? b = some o') →
   h'.get? s.heap.objs.size = some { cls := .type "list", dict := none, data := .seq its.toArray c', slots := #[] } → EP X pins σ Q (.ref s.heap.objs.size) { s with heap := h' } := fun its r' hz h' c' kp e =>
  ⟨.ref s.heap.objs.size, _, I.laid (t' := s.toks) kp (Nat.le_refl _) (show ObjOk X.prog X.w _ h' _ (.lst ys) from ⟨hz, its, c', r', e⟩), rfl, q _ (I.hok.fresh (Nat.le_refl _))⟩
 rcases hq with hq | hq
 ·obtain ⟨its, r', pl, hz⟩ := I.list hq
  have hlen := r'.length
  obtain ⟨o, ho, hc, n, hd⟩ := pl.isList
  exact call_list_seq p (.inl rfl) ho hc hd (fun h' c' kp e => fin its r' hz h' c' kp e) (by simp only [List.size_toArray] <;> lia)
 ·obtain ⟨its, r', pl, hz⟩ := I.tuple hq
  have hlen := r'.length
  obtain ⟨o, ho, hc, n, hd⟩ := pl
  exact call_list_seq p (.inr rfl) ho hc hd (fun h' c' kp e => fin its r' hz h' c' kp e) (by simp only [List.size_toArray] <;> lia)
theorem call_tuple_of : CallR X (.type "tuple") (fun xs H Q => ∃ p ys, xs = [.ref p] ∧ ((SqL X.K H p ys ∧ ∀ l, H l = none → Q (.ref l) (upd H l (.tup ys))) ∨ (SqT X.K H p ys ∧ Q (.ref p) H))) := by
 intro pins s σ H xs us Q I r h
 obtain ⟨p, ys, rfl, h⟩ := h
 obtain ⟨u, rfl, rx⟩ := vals1 r
 cases rx
 rcases h with ⟨hq, q⟩ | ⟨hq, q⟩
 ·obtain ⟨its, r', pl, hz⟩ := I.list hq
  have hlen := r'.length
  refine call_tuple_list pl.isList (fun h' kp => ?_) (by simp only [List.size_toArray] <;> lia)
  have I1 : Inv X pins σ H { s with heap := h' } := I.kept (t' := s.toks) kp
  have I2 : Inv X pins σ (upd H h'.objs.size (.tup ys)) { s with heap := h'.push { cls := .type "tuple", data := .seq its.toArray } } :=
   I1.laid (t' := s.toks) (fun b o e => Heap.get?_push_of_some _ e) (Nat.le_refl _) (show ObjOk X.prog X.w _ _ _ (.tup ys) from ⟨hz, its, r', IsTup.new _ _⟩)
  exact ⟨.ref h'.objs.size, _, I2, rfl, q _ (I1.hok.fresh (Nat.le_refl _))⟩
 ·obtain ⟨its, r', pl, hz⟩ := I.tuple hq
  exact call_tuple_same pl ⟨.ref p, H, I, rfl, q⟩
noncomputable def tyV (K : PySem.W.Frag) (T : String) (x : V) (H : Hp) : Prop := match x with
 | .str _ => T = "str"
 | .int _ => T = "int"
 | .ref p => (T = "list" ∧ ∃ xs, SqL K H p xs) ∨ (T = "tuple" ∧ ∃ o, K.lookup p = some o ∧ o.cls = .type "tuple" ∧ o.dict = none) ∨
   (T = "dict" ∧ ((∃ kvs, H p = some (.dK kvs)) ∨ ∃ kvs, H p = some (.dT kvs))) ∨ (T = "set" ∧ ∃ S n, H p = some (.set S n))
 | _ => False
theorem tyV_is {pins : List (Addr × Obj)} {σ : St} {H : Hp} {s : Shared} {T : String} {x : V} {v : Value} (I : Inv X pins σ H s) (r : RelV x v) (ty : tyV X.K T x H) :
  s.TypeIs v T ∧ ∀ a, v = .ref a → ∃ ob, s.heap.get? a = some ob ∧ ob.dict = none := by
 cases x with
 | str z =>
  obtain ⟨t, rfl⟩ := r
  cases (show T = "str" from ty)
  exact ⟨typeIs_str s z t, fun _ e => nomatch e⟩
 | int i =>
  obtain ⟨t, rfl⟩ := r
  cases (show T = "int" from ty)
  exact ⟨typeIs_int s i t, fun _ e => nomatch e⟩
 | ref p =>
  cases r
  rcases ty with ⟨rfl, xs, hq⟩ | ⟨rfl, o, hk, hc, hd⟩ | ⟨rfl, hk⟩ | ⟨rfl, S, n, hk⟩
  ·obtain ⟨its, _, pl, _⟩ := I.list hq
   refine ⟨pl.isList.typeIs, fun a e => ?_⟩
   cases e
   obtain ⟨o, n, e, c, hd, _⟩ := pl
   exact ⟨o, e, hd⟩
  ·refine ⟨⟨o, I.kIn p o hk, hc⟩, fun a e => ?_⟩
   cases e
   exact ⟨o, I.kIn _ o hk, hd⟩
  ·have z : ∃ o, s.heap.get? p = some o ∧ o.ExactDict := by
    rcases hk with ⟨kvs, hk⟩ | ⟨kvs, hk⟩
    ·obtain ⟨_, _, _, _, o, _, _, e, ex, _⟩ := I.hok p _ hk
     exact ⟨o, e, ex⟩
    ·obtain ⟨_, _, _, _, o, _, _, e, ex, _⟩ := I.hok p _ hk
     exact ⟨o, e, ex⟩
   obtain ⟨o, e, ex⟩ := z
   refine ⟨⟨o, e, ex.1⟩, fun a e2 => ?_⟩
   cases e2
   exact ⟨o, e, ex.2.1⟩
  ·obtain ⟨o, _, _, _, e, ex, _⟩ := I.hok p _ hk
   refine ⟨⟨o, e, ex.1⟩, fun a e2 => ?_⟩
   cases e2
   exact ⟨o, e, ex.2.1⟩
 | _ => exact False.elim ty
noncomputable def tBM0 (K : PySem.W.Frag) (T : String) (r : V → List V → Hp → VK → Prop) (to : TE) : TE := fun σ H Q => to σ H fun x H1 => tyV K T x H1 ∧ r x [] H1 Q
noncomputable def tBM (K : PySem.W.Frag) (T : String) (r : V → List V → Hp → VK → Prop) (to : TE) (t : TA) : TE := fun σ H Q => to σ H fun x H1 => tyV K T x H1 ∧ t σ H1 fun xs H2 => r x xs H2 Q
variable {o e : Expr} {es : List Expr} {to : TE} {t : TA} {name : Str} {apos cpos : Pos} {T id : String} {r : V → List V → Hp → VK → Prop}
theorem pe_bm0 (pa : PlainAttrs T) (slot : Slot T name id) (hty : typeOf (.builtin id) = pure (.type "method_descriptor")) (hm : MtR X id r) (ho : PE X o to)
  (hbase : attributeBase o name X.env (eval o X.env) = eval o X.env := by rfl) (hline : (apos.endLine == cpos.line) = true := by rfl) : PE X (.Call (.Attribute o name apos) [] [] cpos) (tBM0 X.K T r to) := by
 intro pins s σ H Q I h
 refine wpAny_Call_method0_late hbase hline (thn (ho pins s σ H _ I h) fun v s1 z_ => ?_)
 obtain ⟨x, H1, I1, r1, ty, q1⟩ := z_
 obtain ⟨h1, h2⟩ := tyV_is I1 r1 ty
 exact ⟨T, id, pa, slot, hty, h1, h2, Calls.callWith_builtin rfl (PySem.evalArgs_none (hm pins s1 σ H1 x [] v [] Q I1 r1 .nil q1))⟩
theorem pe_bm (pa : PlainAttrs T) (slot : Slot T name id) (hty : typeOf (.builtin id) = pure (.type "method_descriptor")) (hm : MtR X id r) (ho : PE X o to) (ha : PA X (e :: es) t)
  (hbase : attributeBase o name X.env (eval o X.env) = eval o X.env := by rfl)
  (hfew : ((backTo cpos (starEach (e :: es) X.env)).all (fun x => !x.1) && (backToKw cpos (keywordEach [] X.env)).all (fun x => x.1.isSome)
   && decide ((e :: es).length + ([] : List Keyword).length + (if ([] : List Keyword).isEmpty then 0 else 1) < 30)) = true := by rfl)
  (hline : (apos.endLine == cpos.line) = true := by rfl) (hs : starEach (e :: es) X.env = (false, eval e X.env) :: starEach es X.env := by rfl) (hplain : (backTo cpos (starEach es X.env)).any (·.1) = false := by rfl) :
  PE X (.Call (.Attribute o name apos) (e :: es) [] cpos) (tBM X.K T r to t) := by
 intro pins s σ H Q I h
 refine wpAny_Call_method_late hbase hfew hline rfl (thn (ho pins s σ H _ I h) fun v s1 z_ => ?_)
 obtain ⟨x, H1, I1, r1, ty, q1⟩ := z_
 obtain ⟨h1, h2⟩ := tyV_is I1 r1 ty
 refine ⟨T, id, pa, slot, hty, h1, h2, ?_⟩
 have hA := ha cpos pins s1 σ H1 _ I1 q1
 rw [hs] at hA ⊢
 refine Calls.callWith_builtin (by show (false || (backTo cpos (starEach es X.env)).any (·.1)) = false; rw [hplain] <;> rfl) (Calls.evalArgs_plain ?_)
 exact thn hA fun us s2 ⟨vs, H2, I2, r2, q2⟩ => hm pins s2 σ H2 x vs v us Q I2 r1 r2 q2
end
noncomputable def MtM (X : Cx) (id : String) (r : V → List V → Hp → VK → Prop) : Prop :=
 ∀ (pins : List (Addr × Obj)) (s : Shared) (σ : St) (H : Hp) (x : V) (xs : List V) (v : Value) (us : List Value) (Q : VK), Inv X pins σ H s → RelV x v → Vals xs us → r x xs H Q →
  wpAny (model X.prog X.w) X.A (call (.builtin id) (v :: us)) (EP X pins σ Q) X.xe s
theorem Vals.one {x : V} {us : List Value} (h : Vals [x] us) : ∃ u, us = [u] ∧ RelV x u := by
 cases h with
 | cons r t => cases t; exact ⟨_, rfl, r⟩
theorem Vals.zero : ∀ {us : List Value}, Vals [] us → us = []
 | _, .nil => rfl
theorem Vals.dropLast {xs : List V} {us : List Value} (h : Vals xs us) : Vals xs.dropLast us.dropLast := by
 induction h with
 | nil => exact .nil
 | cons r t ih =>
  cases t with
  | nil => exact .nil
  | cons q t' => exact .cons r ih
theorem Vals.eraseIdx : ∀ {xs : List V} {us : List Value} (i : Nat), Vals xs us → Vals (xs.eraseIdx i) (us.eraseIdx i)
 | _, _, _, .nil => .nil
 | _, _, 0, .cons _ t => t
 | _, _, i + 1, .cons r t => .cons r (Vals.eraseIdx i t)
theorem erase_last {α : Type} (l : List α) : l.eraseIdx (l.length - 1) = l.dropLast := by
 induction l with
 | nil => rfl
 | cons a r ih =>
  cases r with
  | nil => rfl
  | cons b r =>
   have e : (a :: b :: r).length - 1 = ((b :: r).length - 1) + 1 := by
    have h1 : (a :: b :: r).length = r.length + 2 := rfl
    have h2 : (b :: r).length = r.length + 1 := rfl
    lia
   rw [e, List.eraseIdx_cons_succ, ih]
   all_goals rfl
theorem len_erase {α : Type} : ∀ (l : List α) (i : Nat), (l.eraseIdx i).length ≤ l.length
 | [], _ => Nat.le_refl _
 | _ :: _, 0 => Nat.le_succ _
 | _ :: r, i + 1 => Nat.succ_le_succ (len_erase r i)
section
variable {X : Cx} {pins : List (Addr × Obj)} {σ : St} {H : Hp} {s : Shared} {l b : Addr} {xs ys zs : List V}
theorem Inv.lset {its its' : List Value} {n : Nat} {f : Array Value → Array Value} {t' : Nat} (I : Inv X pins σ H s) (hH : H l = some (.lst xs))
  (e : s.heap.get? l = some { cls := .type "list", data := .seq its.toArray n }) (hf : f its.toArray = its'.toArray) (hv : Vals ys its') (hz : ys.length ≤ sizeLine) :
  Inv X pins σ (upd H l (.lst ys)) { s with heap := s.heap.update l (Obj.mapSeq f), toks := t' } := by
 have q := PySem.IsL.update e f
 rw [hf] at q
 refine I.write (x := l) (e := l) (by rw [hH]; exact trivial) (.inl rfl) (fun b' u hb hu => (Heap.get?_update_other s.heap (Obj.mapSeq f) (Ne.symm hb)).trans hu) ⟨_, q⟩ ?_
 exact ⟨hz, its', _, hv, q⟩
theorem Inv.lnew {its : List Value} {t' : Nat} (I : Inv X pins σ H s) (hv : Vals ys its) (hz : ys.length ≤ sizeLine) :
  Inv X pins σ (upd H s.heap.objs.size (.lst ys)) { s with heap := s.heap.push { cls := .type "list", data := .seq its.toArray }, toks := t' } :=
 I.laid (fun _ _ q => Heap.get?_push_of_some _ q) (Nat.le_refl _) ⟨hz, its, 0, hv, Heap.get?_push_size _ rfl⟩
theorem Inv.fresh (I : Inv X pins σ H s) : H s.heap.objs.size = none := I.hok.fresh (Nat.le_refl _)
theorem Inv.lstM (I : Inv X pins σ H s) (hH : H l = some (.lst xs)) : xs.length ≤ sizeLine ∧ ∃ (its : List Value) (n : Nat), Vals xs its ∧ xs.length = its.length ∧ s.heap.get? l = some { cls := .type "list", data := .seq its.toArray n } := by
 obtain ⟨z, its, n, r, e⟩ := I.hok l _ hH
 exact ⟨z, its, n, r, r.length, e⟩
end
section
variable {X : Cx}
inductive rAppendP (x : V) (vs : List V) (H : Hp) (Q : VK) : Prop
 | mk (l : _) (xs : _) (y : _) (h_0 : x = .ref l) (h_1 : vs = [y]) (h_2 : H l = some (.lst xs)) (h_3 : xs.length < sizeLine) (h_4 : Q .non (upd H l (.lst (xs ++ [y]))))
noncomputable def rAppend : V → List V → Hp → VK → Prop := fun x vs H Q => rAppendP x vs H Q
theorem mt_append : MtM X "list.append" rAppend := by
 intro pins s σ H x vs v us Q I rx rv h
 obtain ⟨l, xs, y, rfl, rfl, hH, hz, q⟩ := h
 cases rx
 obtain ⟨u, rfl, ru⟩ := rv.one
 obtain ⟨z, its, n, r, hl, e⟩ := I.lstM hH
 refine call_meets F.slot_list_append ⟨_, e, rfl⟩ F.entry_list_append (F.args_list_append_2 _ _) (PySem.list_append l its.toArray n u (by rw [List.size_toArray]; lia)) ⟨e, ?_⟩
 refine ⟨.non, _, I.lset (its' := its ++ [u]) hH e (by simp) (r.append (.cons ru .nil)) ?_, rfl, q⟩
 rw [List.length_append, List.length_singleton]
 lia
inductive rPopP (x : V) (vs : List V) (H : Hp) (Q : VK) : Prop
 | mk (l : _) (xs : _) (y : _) (h_0 : x = .ref l) (h_1 : vs = []) (h_2 : H l = some (.lst xs)) (h_3 : xs[xs.length - 1]? = some y) (h_4 : Q y (upd H l (.lst xs.dropLast)))
noncomputable def rPop : V → List V → Hp → VK → Prop := fun x vs H Q => rPopP x vs H Q
theorem mt_pop : MtM X "list.pop" rPop := by
 intro pins s σ H x vs v us Q I rx rv h
 obtain ⟨l, xs, y, rfl, rfl, hH, hy, q⟩ := h
 cases rx
 have hus := rv.zero
 subst hus
 obtain ⟨z, its, n, r, hl, e⟩ := I.lstM hH
 obtain ⟨u, hu, ru⟩ := r.get hy
 have hy' : its.toArray[its.toArray.size - 1]? = some u := by
  show its.toArray[its.length - 1]? = some u
  rw [← Array.getElem?_toList, ← hl]
  exact hu
 refine call_meets F.slot_list_pop ⟨_, e, rfl⟩ F.entry_list_pop (F.args_list_pop_1 _) (MeetsSeq.list_pop_last l its.toArray n u hy' (by rw [List.size_toArray]; lia)) ⟨e, ?_⟩
 refine ⟨y, _, I.lset (its' := its.dropLast) hH e ?_ r.dropLast ?_, ru, q⟩
 ·show its.toArray.eraseIdxIfInBounds (its.toArray.size - 1) = its.dropLast.toArray
  rw [List.size_toArray, List.eraseIdxIfInBounds_toArray, erase_last]
 ·rw [List.length_dropLast]
  lia
inductive rPopAtP (x : V) (vs : List V) (H : Hp) (Q : VK) : Prop
 | mk (l : _) (xs : _) (i : _) (k : _) (y : _) (h_0 : x = .ref l) (h_1 : vs = [.int i]) (h_2 : H l = some (.lst xs)) (h_3 : -(2 ^ 63) ≤ i) (h_4 : i < 2 ^ 63) (h_5 : seqIndex? i xs.length = some k) (h_6 : xs[k]? = some y) (h_7 : Q y (upd H l (.lst (xs.eraseIdx k))))
noncomputable def rPopAt : V → List V → Hp → VK → Prop := fun x vs H Q => rPopAtP x vs H Q
theorem mt_popAt : MtM X "list.pop" rPopAt := by
 intro pins s σ H x vs v us Q I rx rv h
 obtain ⟨l, xs, i, k, y, rfl, rfl, hH, h1, h2, hk, hy, q⟩ := h
 cases rx
 obtain ⟨u, rfl, ru⟩ := rv.one
 obtain ⟨t, rfl⟩ := ru
 obtain ⟨z, its, n, r, hl, e⟩ := I.lstM hH
 obtain ⟨w, hw, rw'⟩ := r.get hy
 refine call_meets F.slot_list_pop ⟨_, e, rfl⟩ F.entry_list_pop (F.args_list_pop_2 _ _)
  (MeetsSeq.list_pop_at l its.toArray n i t k w (fitsIndex_both h1 h2) (by rw [List.size_toArray, ← hl]; exact hk) (by rw [← Array.getElem?_toList]; exact hw) (by rw [List.size_toArray]; lia)) ⟨e, ?_⟩
 refine ⟨y, _, I.lset (its' := its.eraseIdx k) hH e ?_ (r.eraseIdx k) ?_, rw', q⟩
 ·show its.toArray.eraseIdxIfInBounds k = (its.eraseIdx k).toArray
  rw [List.eraseIdxIfInBounds_toArray]
 ·have := len_erase xs k
  lia
inductive rCatP (x : V) (y : V) (H : Hp) (Q : VK) : Prop
 | mk (l : _) (b : _) (xs : _) (zs : _) (h_0 : x = .ref l) (h_1 : y = .ref b) (h_2 : H l = some (.lst xs)) (h_3 : H b = some (.lst zs)) (h_4 : xs.length + zs.length ≤ sizeLine) (h_5 : ∀ p, H p = none → Q (.ref p) (upd H p (.lst (xs ++ zs))))
noncomputable def rCat : R2 := fun x y H Q => rCatP x y H Q
theorem op_cat : OpR X (binaryOp .Add) rCat := by
 intro pins s σ H x y v u Q I rx ry h
 obtain ⟨l, b, xs, zs, rfl, rfl, hH, hB, hz, q⟩ := h
 cases rx
 cases ry
 obtain ⟨z, its, n, r, hl, e⟩ := I.lstM hH
 obtain ⟨z2, its2, n2, r2, hl2, e2⟩ := I.lstM hB
 refine PySem.P.add_list e e2 ?_ (by rw [List.size_toArray, List.size_toArray]; lia)
 have ea : its.toArray ++ its2.toArray = (its ++ its2).toArray := by simp
 rw [ea]
 exact ⟨.ref _, _, I.lnew (t' := s.toks) (r.append r2) (by rw [List.length_append]; lia), rfl, q _ I.fresh⟩
end
section
variable {prog : Program} {w : World} {A : Around} {E : Value → Shared → Prop} {s : Shared}
set_option maxRecDepth 100000 in
end
section
variable {X : Cx}
end
section
variable {κ : Type} [DecidableEq κ]
noncomputable def valV (kvs : List (κ × V)) (k : κ) : Option V := (kvs.find? fun kv => decide (kv.1 = k)).map (·.2)
noncomputable def putK (kvs : List (κ × V)) (k : κ) (v : V) : List (κ × V) :=
 if (kvs.any fun kv => decide (kv.1 = k)) = true then kvs.map (fun kv => if kv.1 = k then (kv.1, v) else kv) else kvs ++ [(k, v)]
theorem valV_pos {p : κ × V} {r : List (κ × V)} {k : κ} (e : p.1 = k) : valV (p :: r) k = some p.2 := by simp [valV, List.find?_cons, e]
theorem valV_neg {p : κ × V} {r : List (κ × V)} {k : κ} (e : ¬ p.1 = k) : valV (p :: r) k = valV r k := by simp [valV, List.find?_cons, e]
theorem valV_any (k : κ) : ∀ kvs : List (κ × V), (kvs.any fun kv => decide (kv.1 = k)) = (valV kvs k).isSome
 | [] => rfl
 | p :: r => by
  rw [List.any_cons]
  by_cases e : p.1 = k
  ·simp only [valV_pos e, decide_eq_true e, Bool.true_or, Option.isSome_some]
  ·rw [valV_neg e, decide_eq_false e, Bool.false_or]; exact valV_any k r
theorem length_putK (kvs : List (κ × V)) (k : κ) (v : V) : (putK kvs k v).length ≤ kvs.length + 1 := by
 unfold putK
 split
 ·rw [List.length_map]; lia
 ·rw [List.length_append, List.length_cons, List.length_nil]; lia
theorem putK_new {kvs : List (κ × V)} {k : κ} (v : V) (h : valV kvs k = none) : putK kvs k v = kvs ++ [(k, v)] := by
 unfold putK
 rw [valV_any, h]
 exact if_neg (by decide)
theorem RelO.isSome_eq {o : Option V} {u : Option Value} (r : RelO o u) : o.isSome = u.isSome := by
 cases o with
 | none => cases u with
  | none => rfl
  | some _ => exact (show False from r).elim
 | some _ => cases u with
  | none => exact (show False from r).elim
  | some _ => rfl
theorem RelO.getD {o : Option V} {u : Option Value} {d : V} {d' : Value} (r : RelO o u) (rd : RelV d d') : RelV (o.getD d) (u.getD d') := by
 cases o with
 | none => cases u with
  | none => exact rd
  | some _ => exact (show False from r).elim
 | some _ => cases u with
  | none => exact (show False from r).elim
  | some _ => exact r
theorem KV.val {kvs : List (κ × V)} {vs : List (κ × Value)} (r : KV kvs vs) (k : κ) : RelO (valV kvs k) (valueAt vs k) := by
 unfold KV at r
 induction r with
 | nil => exact True.intro
 | @cons p q ps qs h t ih =>
  obtain ⟨h1, h2⟩ := h
  by_cases e : p.1 = k
  ·have e' : q.1 = k := h1.symm.trans e
   have b : valueAt (q :: qs) k = some q.2 := by simp [valueAt, List.find?_cons, e']
   rw [valV_pos e, b]; exact h2
  ·have e' : ¬ q.1 = k := fun z => e (h1.trans z)
   have b : valueAt (q :: qs) k = valueAt qs k := by simp [valueAt, List.find?_cons, e']
   rw [valV_neg e, b]; exact ih
theorem KV.any {kvs : List (κ × V)} {vs : List (κ × Value)} (r : KV kvs vs) (k : κ) : (kvs.any fun kv => decide (kv.1 = k)) = vs.any fun kv => decide (kv.1 = k) := by
 unfold KV at r
 induction r with
 | nil => rfl
 | cons h t ih => rw [List.any_cons, List.any_cons, ih, h.1]
theorem KV.repl {kvs : List (κ × V)} {vs : List (κ × Value)} (r : KV kvs vs) (k : κ) {y : V} {u : Value} (ry : RelV y u) :
  KV (kvs.map fun kv => if kv.1 = k then (kv.1, y) else kv) (vs.map fun kv => if kv.1 = k then (kv.1, u) else kv) := by
 unfold KV at r ⊢
 induction r with
 | nil => exact .nil
 | @cons p q ps qs h t ih =>
  rw [List.map_cons, List.map_cons]
  refine .cons ?_ ih
  obtain ⟨h1, h2⟩ := h
  by_cases e : p.1 = k
  ·rw [if_pos e, if_pos (h1.symm.trans e)]; exact ⟨h1, ry⟩
  ·rw [if_neg e, if_neg (fun z => e (h1.trans z))]; exact ⟨h1, h2⟩
theorem KV.put {kvs : List (κ × V)} {vs : List (κ × Value)} (r : KV kvs vs) (k : κ) {y : V} {u : Value} (ry : RelV y u) : KV (putK kvs k y) (stored vs k u) := by
 unfold putK stored
 rw [r.any k]
 by_cases e : (vs.any fun kv => decide (kv.1 = k)) = true
 ·rw [if_pos e, if_pos e]; exact r.repl k ry
 ·rw [if_neg e, if_neg e]; exact Paired.snoc r ⟨rfl, ry⟩
theorem KV.length {kvs : List (κ × V)} {vs : List (κ × Value)} (r : KV kvs vs) : kvs.length = vs.length := Paired.length r
end
theorem kV_is {P : Program} {w : World} {k : Key} {u : Value} (r : RelV (kV k) u) : (mixKind P w).is k u = true := by
 cases k with
 | inl i => obtain ⟨t, e⟩ := (show ∃ t, u = Value.int i t from r); subst e; exact mixKind_int P w i t
 | inr x => obtain ⟨t, e⟩ := (show ∃ t, u = Value.str x t from r); subst e; exact mixKind_str P w x t
theorem items_are {P : Program} {w : World} : ∀ {ks : List Key} {us : List Value}, Vals (ks.map kV) us → ItemsAre (mixKind P w) ks us
 | [], _, r => by rw [List.map_nil] at r; cases r; exact .nil
 | k :: ks, _, r => by
  rw [List.map_cons] at r
  cases r with
  | cons h t => exact .cons (kV_is h) (items_are t)
noncomputable abbrev KT (H : Hp) : List (List Key × V) → List (List Key × Addr × Value) → Prop := Paired fun p q => p.1 = q.1 ∧ H q.2.1 = some (.tup (p.1.map kV)) ∧ RelV p.2 q.2.2
theorem KT.val {H : Hp} {kvs : List (List Key × V)} {xs : List (List Key × Addr × Value)} (r : KT H kvs xs) (k : List Key) : RelO (valV kvs k) ((atKey xs k).map (·.2)) := by
 induction r with
 | nil => exact True.intro
 | @cons p q ps qs h t ih =>
  obtain ⟨h1, _, h2⟩ := h
  by_cases e : p.1 = k
  ·have e' : q.1 = k := h1.symm.trans e
   have b : atKey (q :: qs) k = some q.2 := by simp [atKey, List.find?_cons, e']
   rw [valV_pos e, b]; exact h2
  ·have e' : ¬ q.1 = k := fun z => e (h1.trans z)
   have b : atKey (q :: qs) k = atKey qs k := by simp [atKey, List.find?_cons, e']
   rw [valV_neg e, b]; exact ih
theorem KT.repl {H : Hp} {kvs : List (List Key × V)} {xs : List (List Key × Addr × Value)} (r : KT H kvs xs) (k : List Key) {y : V} {u : Value} (ry : RelV y u) :
  KT H (kvs.map fun kv => if kv.1 = k then (kv.1, y) else kv) (xs.map (putAt k u)) := by
 induction r with
 | nil => exact .nil
 | @cons p q ps qs h t ih =>
  rw [List.map_cons, List.map_cons]
  refine .cons ?_ ih
  obtain ⟨h1, h2, h3⟩ := h
  unfold putAt
  by_cases e : p.1 = k
  ·rw [if_pos e, if_pos (h1.symm.trans e)]; exact ⟨h1, h2, ry⟩
  ·rw [if_neg e, if_neg (fun z => e (h1.trans z))]; exact ⟨h1, h2, h3⟩
theorem KT.put {H : Hp} {kvs : List (List Key × V)} {xs : List (List Key × Addr × Value)} (r : KT H kvs xs) (k : List Key) {b : Addr} {y : V} {u : Value} (hb : H b = some (.tup (k.map kV))) (ry : RelV y u) :
  KT H (putK kvs k y) (storedH xs k b u) := by
 have e : (kvs.any fun kv => decide (kv.1 = k)) = (atKey xs k).isSome := by
  rw [valV_any, (r.val k).isSome_eq, Option.isSome_map]
 unfold putK storedH
 rw [e]
 by_cases q : (atKey xs k).isSome = true
 ·rw [if_pos q, if_pos q]; exact r.repl k ry
 ·rw [if_neg q, if_neg q]; exact Paired.snoc r ⟨rfl, hb, ry⟩
theorem KT.keeps {H H' : Hp} {kvs : List (List Key × V)} {xs : List (List Key × Addr × Value)} (r : KT H kvs xs) (ht : ∀ b ys, H b = some (.tup ys) → H' b = some (.tup ys)) : KT H' kvs xs :=
 Paired.mapP r fun _ _ z => ⟨z.1, ht _ _ z.2.1, z.2.2⟩
section
variable {P : Program} {w : World} {H : Hp} {h : Heap} {a : Addr}
theorem rd_of {u : HO} (ok : HOk P w H h) (e : Rd H a u) : ObjOk P w H h a u := e.ok ok
theorem dk_rd {kvs : List (Key × V)} (ok : HOk P w H h) (e : Rd H a (.dK kvs)) : kvs.length ≤ sizeLine ∧ (a == sysModules) = false ∧ ∃ vs, KV kvs vs ∧ h.DictOf (mixKind P w) a vs :=
 show ObjOk P w H h a (.dK kvs) from rd_of ok e
theorem dk_of {kvs : List (Key × V)} (ok : HOk P w H h) (e : H a = some (.dK kvs)) : kvs.length ≤ sizeLine ∧ (a == sysModules) = false ∧ ∃ vs, KV kvs vs ∧ h.DictOf (mixKind P w) a vs := dk_rd ok (.inl e)
theorem key_of {ks : List Key} (ok : HOk P w H h) (e : H a = some (.tup (ks.map kV))) : (tupleKind (mixKind P w)).is h ks a := by
 obtain ⟨_, its, r, o, h1, h2, n, h3⟩ := (show ObjOk P w H h a (.tup (ks.map kV)) from ok a _ e)
 exact ⟨o, its.toArray, n, h1, h2, h3, by simpa using items_are r⟩
theorem dt_rd {kvs : List (List Key × V)} (ok : HOk P w H h) (e : Rd H a (.dT kvs)) : kvs.length ≤ sizeLine ∧ (a == sysModules) = false ∧
  ∃ xs, KT H kvs xs ∧ h.DictOfH (tupleKind (mixKind P w)) a xs := by
 obtain ⟨z, y, xs, r, o, es, ep, h1, h2, h3, h4, h5⟩ := (show ObjOk P w H h a (.dT kvs) from rd_of ok e)
 refine ⟨z, y, xs, r, o, es, ep, h1, h2, h3, h4, fun x hx => ?_, h5⟩
 have all : ∀ {l : List (List Key × V)} {m : List (List Key × Addr × Value)}, KT H l m → ∀ x ∈ m, (tupleKind (mixKind P w)).is h x.1 x.2.1 := by
  intro l m q
  induction q with
  | nil => intro x hx; exact nomatch hx
  | @cons p q ps qs hq t ih =>
   intro x hx
   rcases List.mem_cons.mp hx with e | hx
   ·subst e
    exact key_of ok (by rw [← hq.1]; exact hq.2.1)
   ·exact ih x hx
 exact all r x hx
theorem dt_of {kvs : List (List Key × V)} (ok : HOk P w H h) (e : H a = some (.dT kvs)) : kvs.length ≤ sizeLine ∧ (a == sysModules) = false ∧
  ∃ xs, KT H kvs xs ∧ h.DictOfH (tupleKind (mixKind P w)) a xs := dt_rd ok (.inl e)
end
noncomputable def DGet (H : Hp) (a : Addr) (y : V) (r : Option V) : Prop :=
 (∃ kvs k, Rd H a (.dK kvs) ∧ y = kV k ∧ r = valV kvs k) ∨ ∃ kvs k b, Rd H a (.dT kvs) ∧ y = .ref b ∧ H b = some (.tup (k.map kV)) ∧ r = valV kvs k
noncomputable def DPut (H : Hp) (a : Addr) (y v : V) (H' : Hp) : Prop :=
 (∃ kvs k, H a = some (.dK kvs) ∧ y = kV k ∧ kvs.length < sizeLine ∧ H' = upd H a (.dK (putK kvs k v))) ∨
 ∃ kvs k b, H a = some (.dT kvs) ∧ y = .ref b ∧ H b = some (.tup (k.map kV)) ∧ kvs.length < sizeLine ∧ H' = upd H a (.dT (putK kvs k v))
theorem DGet.k {H : Hp} {a : Addr} {kvs : List (Key × V)} {k : Key} (e : H a = some (.dK kvs)) : DGet H a (kV k) (valV kvs k) := .inl ⟨kvs, k, .inl e, rfl, rfl⟩
theorem DGet.t {H : Hp} {a b : Addr} {kvs : List (List Key × V)} {k : List Key} (e : H a = some (.dT kvs)) (eb : H b = some (.tup (k.map kV))) : DGet H a (.ref b) (valV kvs k) := .inr ⟨kvs, k, b, .inl e, rfl, eb, rfl⟩
theorem DPut.k {H : Hp} {a : Addr} {kvs : List (Key × V)} {k : Key} {v : V} (e : H a = some (.dK kvs)) (hl : kvs.length < sizeLine) : DPut H a (kV k) v (upd H a (.dK (putK kvs k v))) := .inl ⟨kvs, k, e, rfl, hl, rfl⟩
theorem DPut.t {H : Hp} {a b : Addr} {kvs : List (List Key × V)} {k : List Key} {v : V} (e : H a = some (.dT kvs)) (eb : H b = some (.tup (k.map kV))) (hl : kvs.length < sizeLine) :
  DPut H a (.ref b) v (upd H a (.dT (putK kvs k v))) := .inr ⟨kvs, k, b, e, rfl, eb, hl, rfl⟩
section
variable {X : Cx} {pins : List (Addr × Obj)} {σ : St} {H : Hp} {s : Shared} {a : Addr} {y v : V} {u r : Value} {o : Option V} {A : Around} {E : Value → Shared → Prop}
theorem Inv.big (I : Inv X pins σ H s) : sysModules < s.heap.objs.size := by
 have h : mainGlobals < s.heap.objs.size := (I.mod.glob.keeps I.bk).lt
 exact Nat.lt_trans (by decide) h
theorem d_getItem {Q : Value → Shared → Prop} (hu : A.units + 1 < cLine) (I : Inv X pins σ H s) (g : DGet H a y (some v)) (ry : RelV y u) (h : ∀ w' s', Inv X pins σ H s' → RelV v w' → Q w' s') :
  wpAny (model X.prog X.w) A (getItem (.ref a) u) Q E s := by
 rcases g with ⟨kvs, k, e, ey, l⟩ | ⟨kvs, k, b, e, ey, eb, l⟩
 ·subst ey
  obtain ⟨z, hd, vs, rel, dd⟩ := dk_rd I.hok e
  obtain ⟨w', hw, rw'⟩ := RelO.some_of (v := v) (o := valueAt vs k) (by rw [l]; exact rel.val k)
  exact wpAny_getItem_of (kV_is ry) dd.mapOf hw (h w' _ (I.tok _) rw')
 ·subst ey
  cases (show u = Value.ref b from ry)
  obtain ⟨z, hd, xs, rel, dd⟩ := dt_rd I.hok e
  obtain ⟨w', hw, rw'⟩ := RelO.some_of (v := v) (o := (atKey xs k).map (·.2)) (by rw [l]; exact rel.val k)
  obtain ⟨p, hp, hp2⟩ := Option.map_eq_some_iff.mp hw
  refine wpAny_getItem_heap (tupleKind_room_in1 hu) (key_of I.hok eb) dd hp ?_
  rw [hp2]
  exact h w' _ (I.tok _) rw'
theorem d_in {Q : Value → Shared → Prop} (hu : A.units + 1 < cLine) (I : Inv X pins σ H s) (g : DGet H a y o) (ry : RelV y u) (h : ∀ s', Inv X pins σ H s' → Q (.bool o.isSome) s') :
  wpAny (model X.prog X.w) A (compareOp .In u (.ref a)) Q E s := by
 rcases g with ⟨kvs, k, e, ey, l⟩ | ⟨kvs, k, b, e, ey, eb, l⟩
 ·subst ey
  obtain ⟨z, hd, vs, rel, dd⟩ := dk_rd I.hok e
  refine wpAny_in_of (kV_is ry) hd dd.mapOf ?_
  rw [← (rel.val k).isSome_eq, ← l]
  exact h _ (I.tok _)
 ·subst ey
  cases (show u = Value.ref b from ry)
  obtain ⟨z, hd, xs, rel, dd⟩ := dt_rd I.hok e
  refine wpAny_in_heap (tupleKind_room_in1 hu) (key_of I.hok eb) hd dd ?_
  have q := (rel.val k).isSome_eq
  rw [Option.isSome_map] at q
  rw [← q, ← l]
  exact h _ (I.tok _)
theorem d_notIn {Q : Value → Shared → Prop} (hu : A.units + 1 < cLine) (I : Inv X pins σ H s) (g : DGet H a y o) (ry : RelV y u) (h : ∀ s', Inv X pins σ H s' → Q (.bool (!o.isSome)) s') :
  wpAny (model X.prog X.w) A (compareOp .NotIn u (.ref a)) Q E s := by
 rcases g with ⟨kvs, k, e, ey, l⟩ | ⟨kvs, k, b, e, ey, eb, l⟩
 ·subst ey
  obtain ⟨z, hd, vs, rel, dd⟩ := dk_rd I.hok e
  refine wpAny_notIn_of (kV_is ry) hd dd.mapOf ?_
  rw [← (rel.val k).isSome_eq, ← l]
  exact h _ (I.tok _)
 ·subst ey
  cases (show u = Value.ref b from ry)
  obtain ⟨z, hd, xs, rel, dd⟩ := dt_rd I.hok e
  refine wpAny_notIn_heap (tupleKind_room_in1 hu) (key_of I.hok eb) hd dd ?_
  have q := (rel.val k).isSome_eq
  rw [Option.isSome_map] at q
  rw [← q, ← l]
  exact h _ (I.tok _)
theorem d_write {h' : Heap} {t' : Nat} {ob : HO} (I : Inv X pins σ H s) (mu : Mut (H a)) (hs : Heap.SameBut a s.heap h') (he : ∃ q, h'.get? a = some q) (new : ObjOk X.prog X.w (upd H a ob) h' a ob) :
  Inv X pins σ (upd H a ob) { s with heap := h', toks := t' } :=
 I.write (x := a) (e := a) mu (.inl rfl) (fun b q hb z => (hs.2 b hb).trans z) he new
theorem dk_new {P : Program} {w : World} {H' : Hp} {h' : Heap} {kvs : List (Key × V)} {vs : List (Key × Value)} (z : kvs.length ≤ sizeLine) (hd : (a == sysModules) = false) (rel : KV kvs vs) (dd : h'.DictOf (mixKind P w) a vs) :
  ObjOk P w H' h' a (.dK kvs) := ⟨z, hd, vs, rel, dd⟩
theorem d_setItem {H' : Hp} {Q : Unit → Shared → Prop} (hu : A.units + 1 < cLine) (I : Inv X pins σ H s) (g : DPut H a y v H') (ry : RelV y u) (rv : RelV v r) (h : ∀ s', Inv X pins σ H' s' → Q () s') :
  wpAny (model X.prog X.w) A (setItem (.ref a) u r) Q E s := by
 rcases g with ⟨kvs, k, e, ey, l, eH⟩ | ⟨kvs, k, b, e, ey, eb, l, eH⟩
 ·subst ey eH
  obtain ⟨z, hd, vs, rel, dd⟩ := dk_of I.hok e
  have hz : vs.length ≤ sizeLine := by rw [← rel.length]; exact z
  have hl : (putK kvs k v).length ≤ sizeLine := by have := length_putK kvs k v; lia
  refine wpAny_setItem_pairs (hsz := hz) (kV_is ry) dd fun h' dd' hs => h _ ?_
  have he : ∃ q, h'.get? a = some q := let ⟨q, _, _, hq, _⟩ := dd'; ⟨q, hq⟩
  exact d_write I (by rw [e]; exact True.intro) hs he (dk_new hl hd (rel.put k rv) dd')
 ·subst ey eH
  cases (show u = Value.ref b from ry)
  obtain ⟨z, hd, xs, rel, dd⟩ := dt_of I.hok e
  have hz : xs.length ≤ sizeLine := by rw [← Paired.length rel]; exact z
  have hl : (putK kvs k v).length ≤ sizeLine := by have := length_putK kvs k v; lia
  refine wpAny_setItem_heap (hsz := hz) (tupleKind_room_in1 hu) (key_of I.hok eb) dd fun h' dd' hs => h _ ?_
  obtain ⟨q, es, ep, hq, h2, h3, h4, _, h5⟩ := dd'
  refine d_write I (by rw [e]; exact True.intro) hs ⟨q, hq⟩ ⟨hl, hd, _, (rel.put k eb rv).keeps fun c ys ec => ?_, q, es, ep, hq, h2, h3, h4, h5⟩
  rw [upd_ne (ne_of ec e (fun z => nomatch z))]
  exact ec
end
section
variable {X : Cx} {pins : List (Addr × Obj)} {σ : St} {H : Hp} {s : Shared} {a : Addr} {kvs : List (Key × V)} {k : Key} {u : Value} {A : Around} {E : Value → Shared → Prop}
end
noncomputable def NoSl (i : Expr) : Prop := ∀ ov iv, subscripted i false ov iv = operate [ov, iv] (getItem ov iv)
theorem subD_of {prog : Program} {w : World} {A : Around} {E : Value → Shared → Prop} {s : Shared} {env : Env} {value slice : Expr} {pos : Pos} {T id : String} {Q : Value → Shared → Prop}
  (hl : typeLookup (.type T) "__getitem__" = pure (some (.builtin id))) (hs : NoSl slice)
  (h : wpAny (model prog w) A (eval value env) (fun o s₁ => wpAny (model prog w) A (eval slice env) (fun i s₂ => s₂.TypeIs o T ∧ wpAny (model prog w) A (getItem o i) Q E s₂) E s₁) E s) :
  wpAny (model prog w) A (eval (.Subscript value slice pos) env) Q E s := by
 refine Subscript_ (wpAny_mono h (fun o s₁ h₁ => wpAny_mono h₁ (fun i s₂ h₂ => ?_) fun _ _ x => x) fun _ _ x => x)
 obtain ⟨hT, h₂⟩ := h₂
 unfold subscriptTail
 refine wpAny_bind ?_
 rw [getitemInPython_of_ne hT.not_modules]
 refine wpAny_bind (wpAny_specialOf hT hl ?_)
 have fin : wpAny (model prog w) A (subscripted slice false o i) (fun r s₃ => wpAny (model prog w) A (letTemporaryGo value o r >>= fun _ => pure r) Q E s₃) E s₂ := by
  rw [hs o i]
  exact wpAny_operating (wpAny_mono h₂ (fun r s₃ h₃ => wpAny_bind (wpAny_letTemporaryGo (wpAny_pure h₃))) fun _ _ x => x)
 first
  | exact wpAny_pure (wpAny_bind fin)
  | exact wpAny_bind (wpAny_pure (wpAny_bind fin))
  | exact wpAny_bind fin
theorem dict_typeIs {X : Cx} {pins : List (Addr × Obj)} {σ : St} {H : Hp} {s : Shared} {a : Addr} {y : V} {o : Option V} (I : Inv X pins σ H s) (g : DGet H a y o) : s.TypeIs (.ref a) "dict" := by
 rcases g with ⟨kvs, k, e, _, _⟩ | ⟨kvs, k, b, e, _, _, _⟩
 ·obtain ⟨_, _, vs, _, dd⟩ := dk_rd I.hok e
  exact dd.typeIs
 ·obtain ⟨_, _, xs, _, dd⟩ := dt_rd I.hok e
  exact dd.typeIs
noncomputable def tDGet (td ty : TE) : TE := fun σ H Q => td σ H fun x H1 => ty σ H1 fun y H2 => ∃ a v, x = .ref a ∧ DGet H2 a y (some v) ∧ Q v H2
noncomputable def tDIn (ty td : TE) : TE := fun σ H Q => ty σ H fun y H1 => td σ H1 fun x H2 => ∃ a o, x = .ref a ∧ DGet H2 a y o ∧ Q (.bl o.isSome) H2
noncomputable def tDNotIn (ty td : TE) : TE := fun σ H Q => ty σ H fun y H1 => td σ H1 fun x H2 => ∃ a o, x = .ref a ∧ DGet H2 a y o ∧ Q (.bl (!o.isSome)) H2
noncomputable def sDPut (td ty tv : TE) : TS := fun D σ H => tv σ H fun v H1 => td σ H1 fun x H2 => ty σ H2 fun y H3 => ∃ a H4, x = .ref a ∧ DPut H3 a y v H4 ∧ D.nx σ H4
section
variable {X : Cx} {o i e value : Expr} {pos pos' tpos : Pos} {td ty tv : TE}
theorem pe_dget (hu : X.A.units + 1 < cLine) (ho : PE X o td) (hi : PE X i ty) (hs : NoSl i) : PE X (.Subscript o i pos) (tDGet td ty) := by
 intro pins s σ H Q I h
 refine subD_of PySem.F.slot_dict_getitem.lookup hs (thn (ho pins s σ H _ I h) fun u s1 ⟨x, H1, I1, rx, q1⟩ => thn (hi pins s1 σ H1 _ I1 q1) fun iv s2 z_ => ?_)
 obtain ⟨y, H2, I2, ry, a, v, ex, g, q2⟩ := z_
 subst ex
 obtain rfl : u = Value.ref a := rx
 exact ⟨dict_typeIs I2 g, d_getItem hu I2 g ry fun w' s3 I3 rw' => ⟨v, H2, I3, rw', q2⟩⟩
theorem pc_din (hu : X.A.units + 1 < cLine) (hi : PE X i ty) (ho : PE X o td) : PC X .In i o (tDIn ty td) := by
 intro pins s σ H Q I h
 refine thn (hi pins s σ H _ I h) fun iv s1 ⟨y, H1, I1, ry, q1⟩ => thn (ho pins s1 σ H1 _ I1 q1) fun u s2 z_ => ?_
 obtain ⟨x, H2, I2, rx, a, ov, ex, g, q2⟩ := z_
 subst ex
 obtain rfl : u = Value.ref a := rx
 exact d_in hu I2 g ry fun s3 I3 => ⟨.bl ov.isSome, H2, I3, rfl, q2⟩
theorem pc_dnotin (hu : X.A.units + 1 < cLine) (hi : PE X i ty) (ho : PE X o td) : PC X .NotIn i o (tDNotIn ty td) := by
 intro pins s σ H Q I h
 refine thn (hi pins s σ H _ I h) fun iv s1 ⟨y, H1, I1, ry, q1⟩ => thn (ho pins s1 σ H1 _ I1 q1) fun u s2 z_ => ?_
 obtain ⟨x, H2, I2, rx, a, ov, ex, g, q2⟩ := z_
 subst ex
 obtain rfl : u = Value.ref a := rx
 exact d_notIn hu I2 g ry fun s3 I3 => ⟨.bl (!ov.isSome), H2, I3, rfl, q2⟩
theorem ps_dput (hu : X.A.units + 1 < cLine) (ho : PE X o td) (hi : PE X i ty) (hv : PE X value tv) (hs : swapsWith value (some (.Subscript o i pos')) pos.line X.env = pure false) :
  PS X (.Assign [.Subscript o i pos'] value pos) (sDPut td ty tv) := by
 intro pins s σ H D I h
 refine wpAny_Assign_Subscript (thn (hv pins s σ H _ I h) fun r s1 ⟨v, H1, I1, rv, q1⟩ => thn (ho pins s1 σ H1 _ I1 q1) fun u s2 ⟨x, H2, I2, rx, q2⟩ => thn (hi pins s2 σ H2 _ I2 q2) fun iv s3 ⟨y, H3, I3, ry, a, H4, ex, g, q3⟩ => ?_) hs
 subst ex
 obtain rfl : u = Value.ref a := rx
 exact d_setItem hu I3 g ry rv fun s4 I4 => ⟨σ, H4, I4, q3⟩
end
theorem dk_empty {P : Program} {w : World} {H : Hp} (h : Heap) (hb : sysModules < h.objs.size) : ObjOk P w H (h.push { cls := .type "dict", data := .dict #[] }) h.objs.size (.dK []) :=
 ⟨Nat.zero_le _, beq_eq_false_iff_ne.mpr (Ne.symm (Nat.ne_of_lt hb)), [], .nil, Heap.DictOf.new h⟩
theorem dt_empty {P : Program} {w : World} {H : Hp} (h : Heap) (hb : sysModules < h.objs.size) : ObjOk P w H (h.push { cls := .type "dict", data := .dict #[] }) h.objs.size (.dT []) :=
 ⟨Nat.zero_le _, beq_eq_false_iff_ne.mpr (Ne.symm (Nat.ne_of_lt hb)), [], .nil, _, #[], 0, Heap.get?_push_size _ rfl, ⟨rfl, rfl, rfl⟩, rfl, rfl, List.nodup_nil⟩
noncomputable def tDNewK : TE := fun _ H Q => ∀ p, H p = none → Q (.ref p) (upd H p (.dK []))
noncomputable def tDNewT : TE := fun _ H Q => ∀ p, H p = none → Q (.ref p) (upd H p (.dT []))
section
variable {X : Cx} {pos : Pos}
theorem pe_dnewK : PE X (.Dict [] [] pos) tDNewK := fun pins s σ H Q I h =>
 wpAny_Dict_empty ⟨.ref s.heap.objs.size, _, I.laid (a := s.heap.objs.size) (o := .dK []) (t' := s.toks) (fun _ _ q => Heap.get?_push_of_some _ q) (Nat.le_refl _) (dk_empty s.heap I.big), rfl, h _ (I.hok.fresh (Nat.le_refl _))⟩
theorem pe_dnewT : PE X (.Dict [] [] pos) tDNewT := fun pins s σ H Q I h =>
 wpAny_Dict_empty ⟨.ref s.heap.objs.size, _, I.laid (a := s.heap.objs.size) (o := .dT []) (t' := s.toks) (fun _ _ q => Heap.get?_push_of_some _ q) (Nat.le_refl _) (dt_empty s.heap I.big), rfl, h _ (I.hok.fresh (Nat.le_refl _))⟩
end
structure M1 (X : Cx) (o : Expr) (m : Str) (apos : Pos) (e : Expr) (cpos : Pos) : Prop where
 base : attributeBase o m X.env (eval o X.env) = eval o X.env
 few : ((backTo cpos (starEach [e] X.env)).all (fun x => !x.1) && (backToKw cpos (keywordEach [] X.env)).all (fun x => x.1.isSome)
  && decide (([e] : List Expr).length + ([] : List Keyword).length + (if ([] : List Keyword).isEmpty then 0 else 1) < 30)) = true
 line : (apos.endLine == cpos.line) = true
 trees : backTo cpos (starEach [e] X.env) = [(false, eval e X.env)]
noncomputable def IsD (H : Hp) (a : Addr) : Prop := (∃ kvs, Rd H a (.dK kvs)) ∨ ∃ kvs, Rd H a (.dT kvs)
theorem isD_at {X : Cx} {pins : List (Addr × Obj)} {σ : St} {H : Hp} {s : Shared} {a : Addr} (I : Inv X pins σ H s) (d : IsD H a) :
  s.TypeIs (.ref a) "dict" ∧ (∀ b, Value.ref a = .ref b → ∃ ob, s.heap.get? b = some ob ∧ ob.dict = none) ∧ (a == sysModules) = false := by
 rcases d with ⟨kvs, e⟩ | ⟨kvs, e⟩
 ·obtain ⟨_, hd, vs, _, dd⟩ := dk_rd I.hok e
  refine ⟨dd.typeIs, fun b q => ?_, hd⟩
  cases q
  obtain ⟨ob, _, _, h1, h2, _⟩ := dd
  exact ⟨ob, h1, h2.2.1⟩
 ·obtain ⟨_, hd, xs, _, dd⟩ := dt_rd I.hok e
  refine ⟨dd.typeIs, fun b q => ?_, hd⟩
  cases q
  obtain ⟨ob, _, _, h1, h2, _⟩ := dd
  exact ⟨ob, h1, h2.2.1⟩
section
variable {X : Cx} {pins : List (Addr × Obj)} {σ : St} {H : Hp} {s : Shared} {a : Addr} {y d : V} {u r : Value} {o : Option V} {A : Around} {E : Value → Shared → Prop}
theorem d_get1 {Q : Value → Shared → Prop} (hu : A.units + 1 < cLine) (I : Inv X pins σ H s) (g : DGet H a y o) (ry : RelV y u) (h : ∀ w' s', Inv X pins σ H s' → RelV (o.getD .non) w' → Q w' s') :
  wpAny (model X.prog X.w) A (call (.builtin "dict.get") [.ref a, u]) Q E s := by
 rcases g with ⟨kvs, k, e, ey, l⟩ | ⟨kvs, k, b, e, ey, eb, l⟩
 ·subst ey
  obtain ⟨z, hd, vs, rel, dd⟩ := dk_rd I.hok e
  refine call_meetsIn PySem.F.slot_dict_get dd.typeIs PySem.F.entry_dict_get (PySem.F.args_dict_get_2 _ _) (meets_dict_get (mixKind X.prog X.w) a (kV_is ry) hd) ⟨_, dd.mapOf, h _ _ (I.tok _) ?_⟩
  rw [l]
  exact (rel.val k).getD rfl
 ·subst ey
  cases (show u = Value.ref b from ry)
  obtain ⟨z, hd, xs, rel, dd⟩ := dt_rd I.hok e
  refine call_meetsIn PySem.F.slot_dict_get dd.typeIs PySem.F.entry_dict_get (PySem.F.args_dict_get_2 _ _) (meetsH_dict_get (tupleKind (mixKind X.prog X.w)) a b hd) ⟨tupleKind_room_in1 hu, k, xs, key_of I.hok eb, dd, h _ _ (I.tok _) ?_⟩
  rw [l]
  exact (rel.val k).getD rfl
end
noncomputable def tDGet1 (td ty : TE) : TE := fun σ H Q => td σ H fun x H1 => ∃ a, x = .ref a ∧ IsD H1 a ∧ ty σ H1 fun y H2 => ∃ o, DGet H2 a y o ∧ Q (o.getD .non) H2
section
variable {X : Cx} {o e f : Expr} {apos cpos : Pos} {td ty tx : TE}
theorem pe_dget1 (hu : X.A.units + 1 < cLine) (ho : PE X o td) (he : PE X e ty) (m : M1 X o "get" apos e cpos) : PE X (.Call (.Attribute o "get" apos) [e] [] cpos) (tDGet1 td ty) := by
 intro pins s σ H Q I h
 refine wpAny_Call_method m.base m.few m.line PySem.F.plainAttrs_dict PySem.F.slot_dict_get PySem.F.type_dict_get (thn (ho pins s σ H _ I h) fun u s1 z_ => ?_)
 obtain ⟨x, H1, I1, rx, a, ex, d, q1⟩ := z_
 subst ex
 obtain rfl : u = Value.ref a := rx
 obtain ⟨t1, t2, _⟩ := isD_at I1 d
 refine ⟨t1, t2, ?_⟩
 rw [m.trees]
 refine Calls.callWith_builtin rfl (Calls.evalArgs_plain (Calls.spliced_cons (thn (he pins s1 σ H1 _ I1 q1) fun iv s2 ⟨y, H2, I2, ry, ov, g, q2⟩ => Calls.spliced_nil ?_)))
 exact d_get1 hu I2 g ry fun w' s3 I3 rw' => ⟨_, H2, I3, rw', q2⟩
end
section
variable {X : Cx} {pins : List (Addr × Obj)} {σ : St} {H : Hp} {s : Shared} {a : Addr} {kvs : List (Key × V)} {A : Around} {E : Value → Shared → Prop}
end
section
variable {X : Cx} {pins : List (Addr × Obj)} {σ : St} {H : Hp} {s : Shared} {a : Addr} {y : V} {u : Value} {A : Around} {E : Value → Shared → Prop}
end
end L2
namespace Att
open PySem PySem.W PySem.Calls PyProof.Rows
theorem ints_of_wellAll {P : Params} {h : Heap} : ∀ (ns : List Int) (vs : List Value), WellAll P h vs (ns.map WData.int) → IntsAre vs ns := by
 intro ns
 induction ns with
 | nil =>
  intro vs w
  rw [List.map_nil] at w
  cases w
  exact .nil
 | cons n ns ih =>
  intro vs w
  rw [List.map_cons] at w
  cases w with
  | cons a b =>
   cases a
   exact .cons _ _ (ih _ b)
theorem script_of {l : OpenLaw} {n : Nat} (hn : l.most = some n) {P : Params} {h : Heap} {args : List WData} {vals : List Value}
  (hpre : l.row.toRowW.claim.pre args = true) (hwl : WellAll P h vals args) :
  ∃ a vs ns, vals = [Value.ref a] ∧ args = [WData.list (ns.map WData.int)] ∧ h.get? a = some { cls := .type "list", data := .seq vs.toArray } ∧ IntsAre vs ns ∧ ns.length ≤ n := by
 have hsh : WShape.hasAll [] args [.list .int] = true := (pre_splitW hpre).1
 have hc : l.pre.holds [] { args := args } = true := (pre_splitW hpre).2
 obtain ⟨d, r, rfl, h1, h2⟩ := hasAllW_cons hsh
 obtain rfl := hasAllW_nil h2
 obtain ⟨xs, rfl, h3⟩ := hasW_list h1
 obtain ⟨ns, rfl⟩ := items_int h3
 have hlen : ns.length ≤ n := by
  unfold OpenLaw.pre at hc
  have h4 : (WTm.not (.lt (.lit (.int (n : Int))) (.len (.arg 0)))).holds [] { args := [.list (ns.map .int)] } = true := by
   have h4 := (holds_andW hc).1
   rw [hn] at h4
   exact h4
  have h5 := condW_of h4 (w_not (w_lt w_lit (w_len_list (w_arg rfl))))
  rw [List.length_map] at h5
  refine Nat.le_of_not_lt fun q => ?_
  have q' : (n : Int) < ((ns.length : Nat) : Int) := by lia
  first
   | (rw [decide_eq_true q'] at h5; exact absurd h5 (by decide))
   | (simp at h5; lia)
 cases hwl with
 | cons w1 w2 =>
  cases w2
  cases w1 with
  | list ho hall => exact ⟨_, _, ns, rfl, rfl, ho, ints_of_wellAll ns _ hall, hlen⟩
theorem post_true (l : OpenLaw) (args : List WData) : l.row.toRowW.claim.post args (.bool true) args = true :=
 postW_of (r := l.row.toRowW) (X := (true == true))
  (show WShape.has [] (.bool true) .bool = true by first | rfl | decide | simp [WShape.has, WShape.arms, WShape.armsAll])
  (show (WTm.eq .res (.lit (.bool true))).value [] { args := args, res := some (.bool true), after := args } = some (.bool (true == true)) from w_eq_bool (w_res rfl) w_lit) rfl
theorem attach_call {l : OpenLaw} {n : Nat} {q : Program} {loose : List Str} {XP : (Str → Option Value) → Heap → Prop} {YP : World → Heap → Prop} {d : DefRec}
  (hn : l.most = some n) (hdf : d.params.defaults = [])
  (call : ∀ (w : World) (s₀ s₁ : Shared) (mg mb : Str → Option Value) (fa : Addr) (o : Obj) (pm cd doc : Value) (a : Addr) (vs : List Value) (ns : List Int),
   Ground q loose [] XP w s₀ mg mb s₁.heap → YP w s₁.heap →
   s₁.heap.get? fa = some o → o.data = .func (docDef d.name d.params d.body d.scope pm cd doc) → s₁.heap.CodeRec cd d.name → mg d.name = some (.ref fa) →
   s₁.heap.get? a = some { cls := .type "list", data := .seq vs.toArray } → IntsAre vs ns → ns.length ≤ n → s₁.gens = #[] →
   codeAny (model l.prog w) callerA (.call (.ref fa) ⟨[.ref a], []⟩) (fun r s' => r = .ok (.ret (.bool true)) ∧ OldK s₁.heap s'.heap ∧ s'.os = s₁.os ∧ AllBare s'.gens) s₁) :
  WalkO q loose XP YP l.row.toRowW d [] (fun f vs => PySem.call f vs) := by
 intro w s₀ s₁ mg mb G Y fa o pm cd doc dV kV ho hd hcd hD hmg hg args vals as hpre hlay hrd hwl hlo
 obtain rfl : dV = .none := Dflts.none hD hdf
 obtain rfl : kV = .none := Dflts.noKw hD
 obtain ⟨a, vs, ns, rfl, rfl, hobj, hints, hlen⟩ := script_of hn hpre hwl
 refine enter_call (codeAny_mono (call w s₀ s₁ mg mb fa o pm cd doc a vs ns G Y ho (fd_plain hd) hcd hmg hobj hints hlen hg) fun r s' hq => ?_)
 obtain ⟨rfl, h2, h3, h4⟩ := hq
 exact ⟨.inl ⟨.bool true, .bool true, [], rfl, fun _ => rfl, .bool true, post_true l _, fun _ => ⟨List.Pairwise.nil, fun _ hm => (nomatch hm)⟩⟩, h2, h3, h4⟩
section
variable {prog : Program} {w : World} {A : Around} {E : Value → Shared → Prop} {s : Shared} {K : Frag}
end
end Att
namespace L2
open PySem PySem.Spec PyProof.Rows
theorem vals_ints : ∀ {vs : List Value} {ns : List Int}, IntsAre vs ns → Vals (ns.map V.int) vs
 | _, _, .nil => .nil
 | _, _, .cons n t h => .cons ⟨t, rfl⟩ (vals_ints h)
noncomputable def Only (H : Hp) : Prop := ∀ b, H b = none ∨ ∃ o xs, H b = some (.frz o (.lst xs))
theorem law_call {P : Program} {w : World} {K : PySem.W.Frag} {mg mb : Str → Option Value} {CX : CXT} {k : Nat} {fa a : Addr} {fd : FuncData} {x : Str} {sp : Sp} {s₁ : Shared} {vs : List Value} {ns : List Int}
  (KX : K.In s₁.heap) (hns : s₁.heap.Ns mainGlobals mg) (hb : s₁.heap.Ns builtinsNs mb) (hbb : ∀ x : Str, x ≠ "__name__" → mb x = bootBuiltins x) (hlim : s₁.heap.NoLimit) (hg : s₁.gens = #[])
  (ha : s₁.heap.get? a = some { cls := .type "list", data := .seq vs.toArray }) (hi : IntsAre vs ns) (hl : ns.length ≤ sizeLine) (hr : Room k callerA)
  (F : ∀ base : Heap, K.In base → base.Ns mainGlobals mg → FnOk P w K mg base CX k fa fd [x] sp) (hbind : ∀ (s : Shared) (u : Value), BindsTo s fd ⟨[u], []⟩ [(x, u)])
  (hsp : ∀ H : Hp, Only H → SqL K H a (ns.map V.int) → sp [.ref a] H (fun v _ => v = .bl true) fun _ _ _ => False)
  (hCX : ∀ H e s', CX [] H s₁ (fun _ _ _ => False) e s' → False) :
  codeAny (model P w) callerA (.call (.ref fa) ⟨[.ref a], []⟩) (fun r s' => r = .ok (.ret (.bool true)) ∧ OldK s₁.heap s'.heap ∧ s'.os = s₁.os ∧ AllBare s'.gens) s₁ := by
 have rv := vals_ints hi
 have lenV := hi.length
 -- from an abstract heap in which nothing but the script may be tracked
 have core : ∀ H : Hp, Only H → SqL K H a (ns.map V.int) → HOk P w H s₁.heap → (∀ b, H b ≠ none → b = a) → (H a ≠ none → K.lookup a = none) →
   codeAny (model P w) callerA (.call (.ref fa) ⟨[.ref a], []⟩) (fun r s' => r = .ok (.ret (.bool true)) ∧ OldK s₁.heap s'.heap ∧ s'.os = s₁.os ∧ AllBare s'.gens) s₁ := by
  intro H hO hS hok hA hK
  have base_of : ∀ {b : Addr} {o : Obj}, s₁.heap.get? b = some o → H b = none → (hidT s₁.heap H).get? b = some o := fun e n => hidT_get e n
  have noA : ∀ {b : Addr} {o : Obj} {es : Array DictEntry} {ep : Nat}, s₁.heap.get? b = some o → o.data = .dict es ep → H b = none := fun {b o es ep} e d => by
   cases q : H b with
   | none => rfl
   | some u =>
    have e' : b = a := hA b (by rw [q]; simp)
    subst e'
    rw [ha] at e; cases e
    have d' : Data.seq vs.toArray _ = Data.dict es ep := d
    cases d'
  have nsK : ∀ {b : Addr} {m : Str → Option Value}, s₁.heap.Ns b m → (hidT s₁.heap H).Ns b m := fun {b m} ⟨o, es, ep, e, d, r⟩ => ⟨o, es, ep, base_of e (noA e d), d, r⟩
  have hKb : K.In (hidT s₁.heap H) := fun b o e => base_of (KX b o e) (by
   cases q : H b with
   | none => rfl
   | some u =>
    have e' : b = a := hA b (by rw [q]; simp)
    subst e'
    rw [hK (by rw [q]; simp)] at e; cases e)
  have hM : Mod K mg (hidT s₁.heap H) := ⟨hKb, nsK hns, ⟨mb, nsK hb, hbb⟩, let ⟨mc, h1, h2⟩ := hlim; ⟨mc, nsK h1, h2⟩⟩
  have e0 : Env0 P w K mg (hidT s₁.heap H) callerA [] s₁ H := ⟨rfl, hM, fun b o e => of_hidT e, Nat.le_of_eq (hidT_size _ _), trivial, fun b hb => absurd (show b ∈ ([] : List Addr) from hb) (by simp), hok, .of_eq hg⟩
  refine codeAny_mono ((F _ hKb (nsK hns)).run callerA [] s₁ H ⟨[.ref a], []⟩ [.ref a] [.ref a] _ _ hr e0 (hbind s₁ (.ref a)) (.cons rfl .nil) (hsp H hO hS)) fun r s' h => ?_
  cases r with
  | error e => exact (hCX H e s' h).elim
  | ok fl =>
   cases fl with
   | next => exact False.elim h
   | brk => exact False.elim h
   | cont => exact False.elim h
   | ret u =>
    obtain ⟨v, H', os, bare, un, hok', r', q⟩ := h
    have q' : v = .bl true := q
    subst q'
    obtain rfl : u = Value.bool true := r'
    refine ⟨rfl, OldK.of_keep fun b o e => ?_, os, bare⟩
    cases q : H b with
    | none => exact un.keep b o e q (by intro z; exact absurd (show b ∈ ([] : List Addr) from z) (by simp)) (by simp)
    | some u =>
     rcases hO b with z | ⟨ob, xs, z⟩
     ·rw [q] at z; cases z
     ·have z2 := un.frzs b ob _ z
      obtain ⟨e1, _⟩ := hok b _ z
      obtain ⟨e2, _⟩ := hok' b _ z2
      rw [e] at e1; cases e1
      exact e2
 cases hk : K.lookup a with
 | some o =>
  -- the script is one of the module's own objects
  have e := KX a o hk
  rw [ha] at e
  cases e
  refine core (fun _ => none) (fun _ => .inl rfl) (.inr ⟨_, vs.toArray, _, hk, rfl, rfl, rfl, by rw [List.size_toArray, lenV]; exact hl, by simpa using rv⟩) (fun b u z => by have z' : (none : Option HO) = some u := z; cases z') (fun b z => absurd rfl z) fun z => absurd rfl z
 | none =>
  refine core (fun b => if b = a then some (.frz { cls := .type "list", data := .seq vs.toArray } (.lst (ns.map V.int))) else none) (fun b => ?_) (.inl (.inr ⟨{ cls := .type "list", data := .seq vs.toArray }, if_pos rfl⟩)) (fun b u z => ?_) (fun b z => ?_) fun _ => hk
  ·by_cases hb : b = a
   ·exact .inr ⟨_, _, if_pos hb⟩
   ·exact .inl (if_neg hb)
  ·by_cases hb : b = a
   ·have z' := (if_pos hb).symm.trans z
    cases z'
    subst hb
    exact ⟨ha, by rw [List.length_map]; exact hl, vs, _, rv, ha⟩
   ·have z' := (if_neg hb).symm.trans z
    cases z'
  ·by_cases hb : b = a
   ·exact hb
   ·exact absurd (if_neg hb) z
theorem walk_of {l : PySem.W.OpenLaw} {n k : Nat} {q : Program} {loose : List Str} {XP : (Str → Option Value) → Heap → Prop} {YP : World → Heap → Prop} {d : DefRec} {K : Params → PySem.W.Frag} {CX : World → CXT} {sp : World → Sp} {x : Str}
  (hn : l.most = some n) (hn2 : n ≤ sizeLine) (hdf : d.params.defaults = []) (hr : Room k callerA)
  (hY : ∀ (w : World) (h : Heap), YP w h → (K w.params).In h)
  (F : ∀ (w : World) (mg : Str → Option Value) (fa : Addr) (h : Heap), (K w.params).In h → h.Ns mainGlobals mg → mg d.name = some (.ref fa) →
   ∃ fd : FuncData, (∀ (s : Shared) (u : Value), BindsTo s fd ⟨[u], []⟩ [(x, u)]) ∧
    ∀ base : Heap, (K w.params).In base → base.Ns mainGlobals mg → FnOk l.prog w (K w.params) mg base (CX w) k fa fd [x] (sp w))
  (hsp : ∀ (w : World) (H : Hp) (a : Addr) (ns : List Int), ns.length ≤ n → Only H → SqL (K w.params) H a (ns.map V.int) → sp w [.ref a] H (fun v _ => v = .bl true) fun _ _ _ => False)
  (hCX : ∀ (w : World) (H : Hp) (s : Shared) (e : Value) (s' : Shared), CX w [] H s (fun _ _ _ => False) e s' → False) :
  PySem.W.WalkO q loose XP YP l.row.toRowW d [] (fun f vs => PySem.call f vs) := by
 refine Att.attach_call hn hdf fun w s₀ s₁ mg mb fa o pm cd doc a vs ns G Y ho hd hcd hmg hobj hints hlen hg => ?_
 have KX := hY w _ Y
 obtain ⟨fd, hb, hF⟩ := F w mg fa _ KX G.T.g hmg
 exact law_call KX G.T.g G.T.b G.T.builtins G.T.nolimit hg hobj hints (Nat.le_trans hlen hn2) hr hF hb (fun H hO hS => hsp w H a ns hlen hO hS) fun H e s' => hCX w H s₁ e s'
end L2
namespace L2
open PySem PySem.Spec PyProof.Rows
noncomputable def inClass (s : Stmt) (j : Nat) : Stmt := match s with
 | .ClassDef _ _ _ body _ _ _ _ _ _ _ => body.getD j (.Pass ⟨0, 0, 0, 0⟩)
 | _ => .Pass ⟨0, 0, 0, 0⟩
noncomputable def defArgs (s : Stmt) : Arguments := match s with
 | .FunctionDef _ a _ _ _ _ _ _ _ _ => a
 | _ => { posonlyargs := [], args := [], vararg := none, kwonlyargs := [], kw_defaults := [], kwarg := none, defaults := [] }
noncomputable def defBody (s : Stmt) : List Stmt := match s with
 | .FunctionDef _ _ b _ _ _ _ _ _ _ => b
 | _ => []
noncomputable def defScope (s : Stmt) : Scope := match s with
 | .FunctionDef _ _ _ _ _ _ sc _ _ _ => sc
 | _ => { kind := .function, names := [], isGenerator := false, isCoroutine := false }
noncomputable abbrev CX0 : CXT := fun _ _ _ _ _ _ => False
noncomputable abbrev E0 : XK := fun _ _ _ => False
theorem pass0 {X : Cx} : Passes CX0 X E0 := fun _ _ _ _ _ _ _ h => h.elim
structure Fun (K : PySem.W.Frag) (x qual : Str) (st : Stmt) (f : Addr) (fd : FuncData) : Prop where
 ex : ∃ (oc : Value) (od : Option Addr) (kV doc pm : Value) (an : Option Addr) (cdv ct : Value) (osl : Array (Option Value)),
  fd = PySem.W.fnOf x qual (defArgs st) (defBody st) (defScope st) .none kV doc pm an cdv ct ∧ K.lookup f = some ⟨oc, od, .func fd, osl⟩ ∧ PySem.W.codeIn K cdv qual = true
 kp : PySem.W.keepIn K (.ref f) = true
section
variable {P : Program} {w : World} {K : PySem.W.Frag} {mg : Str → Option Value} {base : Heap}
theorem Fun.ok {x qual : Str} {st : Stmt} {f : Addr} {fd : FuncData} {N ps : List Str} {k : Nat} {sp : Sp} (F : Fun K x qual st f fd) (S : FnScope N ps (defScope st)) (len : ∀ vs H Q E, sp vs H Q E → vs.length = ps.length)
  (hbody : ∀ (cdv : Value) (A : Around) (outer : List Env) (s : Shared) (H : Hp) (vs : List V) (Q : VK) (E : XK), Room k (A.deeper (envOfC qual (defScope st) s.heap.objs.size f cdv)) → sp vs H Q E →
   ∃ t, PSs (cxOf CX0 P w K mg base N qual (defScope st) f cdv A outer s H E).nox (defBody st) t ∧ t { nx := fun _ H' => Q .non H', rt := Q } (start N vs) H) : FnOk P w K mg base CX0 (k + 1) f fd ps sp := by
 obtain ⟨oc, od, kV, doc, pm, an, cdv, ct, osl, rfl, lk, hcd⟩ := F.ex
 refine fn_of lk hcd S len fun A outer s H vs Q E hr hsp => ?_
 obtain ⟨t, h, q⟩ := hbody cdv A outer s H vs Q E hr hsp
 exact ⟨t, h.nox, q⟩
theorem Fun.binds {x qual : Str} {st : Stmt} {f : Addr} {fd : FuncData} {ps : List Str} (F : Fun K x qual st f fd)
  (h : ∀ (kV doc pm : Value) (an : Option Addr) (cdv ct : Value) (us : List Value), us.length = ps.length → bindArgs (PySem.W.fnOf x qual (defArgs st) (defBody st) (defScope st) .none kV doc pm an cdv ct) ⟨us, []⟩ = pure (ps.zip us)) : Binds K fd ps [] := by
 obtain ⟨oc, od, kV, doc, pm, an, cdv, ct, osl, rfl, lk, hcd⟩ := F.ex
 exact .all (h kV doc pm an cdv ct)
theorem fun_mk {x qual : Str} {st : Stmt} {f : Addr} {oc : Value} {od an : Option Addr} {osl : Array (Option Value)} {kV doc pm cdv ct : Value} (l : K.lookup f = some ⟨oc, od, .func (PySem.W.fnOf x qual (defArgs st) (defBody st) (defScope st) .none kV doc pm an cdv ct), osl⟩)
  (c : PySem.W.codeIn K cdv qual = true) (k : PySem.W.keepIn K (.ref f) = true) : Fun K x qual st f (PySem.W.fnOf x qual (defArgs st) (defBody st) (defScope st) .none kV doc pm an cdv ct) := ⟨⟨oc, od, kV, doc, pm, an, cdv, ct, osl, rfl, l, c⟩, k⟩
end
theorem hu_of {A : Around} {k : Nat} (hr : Room k A) : A.units + 1 < cLine := Nat.lt_of_le_of_lt (Nat.add_le_add_left (by decide : 1 ≤ 64) _) hr.units
theorem small1000 {n : Nat} (h : n ≤ 1000) : n < sizeLine := Nat.lt_of_le_of_lt h (by decide)
section
variable {X : Cx}
theorem pv (i : Nat) {x : Str} {pos : Pos} (hN : X.N[i]? = some x := by rfl) (hv : Vis X.env.scope x := by first | exact Or.inl rfl | exact Or.inr (Or.inl rfl) | exact Or.inr (Or.inr rfl)) (hd : (x == ("__debug__" : Str)) = false := by decide)
  (hcd : (x == ("__classdict__" : Str)) = false := by decide) : PE X (.Name x pos) (tVar i) := pe_var hN hv hd hcd
end
theorem iteF {A B : Prop} (h : B) : if false = true then A else B := by
 rw [if_neg Bool.false_ne_true]
 exact h
theorem iteT {A B : Prop} (h : A) : if true = true then A else B := by
 rw [if_pos rfl]
 exact h
theorem ite2 {c A B : Prop} [Decidable c] (h1 : c → A) (h2 : ¬ c → B) : if c then A else B := by
 by_cases h : c
 ·rw [if_pos h]
  exact h1 h
 ·rw [if_neg h]
  exact h2 h
theorem iteNS {c A B : Prop} [Decidable c] (hc : c) (h : B) : if (!decide c) = true then A else B := by
 rw [decide_eq_true hc]
 exact iteF h
noncomputable def Same (H H' : Hp) : Prop := ∀ b o, H b = some o → H' b = some o
theorem Same.refl (H : Hp) : Same H H := fun _ _ h => h
theorem Same.trans {H H1 H2 : Hp} (a : Same H H1) (b : Same H1 H2) : Same H H2 := fun c o h => b c o (a c o h)
theorem Same.free {H H' : Hp} (e : Same H H') {l : Addr} (h : H' l = Option.none) : H l = Option.none := by
 cases q : H l with
 | none => rfl
 | some o =>
  rw [e l o q] at h
  cases h
theorem Same.seq {K : PySem.W.Frag} {H H' : Hp} {a : Addr} {xs : List V} (e : Same H H') (h : SqL K H a xs) : SqL K H' a xs := by
 rcases h with (h | ⟨o, h⟩) | h
 ·exact .inl (.inl (e _ _ h))
 ·exact .inl (.inr ⟨o, e _ _ h⟩)
 ·exact .inr h
section
variable {X : Cx}
end
section
variable {κ : Type} [DecidableEq κ]
end
end L2
set_option maxHeartbeats 4000000
namespace L2
open PySem PySem.Spec PyProof.Rows
structure Df (P : Program) (w : World) (K : PySem.W.Frag) (mg : Str → Option Value) (base : Heap) (k : Nat) (x : Str) (ps : List Str) (sp : Sp) : Prop where
 ex : ∃ (f : Addr) (fd : FuncData), mg x = some (.ref f) ∧ PySem.W.keepIn K (.ref f) = true ∧ Binds K fd ps [] ∧ FnOk P w K mg base CX0 k f fd ps sp
theorem pe_df {X : Cx} {k : Nat} {x : Str} {ps : List Str} {sp : Sp} {e : Expr} {es : List Expr} {t : TA} {p pos : Pos} (D : Df X.prog X.w X.K X.mg X.base k x ps sp) (hr : Room k X.A) (ha : PA X (e :: es) t)
  (hg : Gl X x := by rfl) (hdb : (x == ("__debug__" : Str)) = false := by decide) (he : starEach (e :: es) X.env = (false, eval e X.env) :: starEach es X.env := by rfl) (hpl : (backTo pos (starEach es X.env)).any (·.1) = false := by rfl) :
  PE X (.Call (.Name x p) (e :: es) [] pos) (tCall sp [] E0 t) := by
 obtain ⟨f, fd, h1, h2, h3, h4⟩ := D.ex
 exact pe_call h4 hr hg h1 h2 h3 .nil pass0 ha hdb he hpl
structure Mf (P : Program) (w : World) (K : PySem.W.Frag) (mg : Str → Option Value) (base : Heap) (k : Nat) (C : Addr) (m : Str) (ps : List Str) (sp : Sp) : Prop where
 ex : ∃ (f : Addr) (fd : FuncData), Cls K C ∧ Meth K C m f ∧ Binds K fd ps [] ∧ FnOk P w K mg base CX0 k f fd ps sp
theorem pe_mf0 {X : Cx} {k : Nat} {C : Addr} {m : Str} {ps : List Str} {sp : Sp} {o : Expr} {ta : TE} {apos pos : Pos} {pl : Sem Bool} (D : Mf X.prog X.w X.K X.mg X.base k C m ps sp) (hr : Room k X.A) (ho : PE X o ta)
  (ht : eval (.Call (.Attribute o m apos) [] [] pos) X.env = (do
   let ov ← eval o X.env
   standAt apos.atName
   let (f, first) ← holding [ov] (getMethod ov m pl)
   callWith pos f first (backTo pos (starEach [] X.env)) (backToKw pos (keywordEach [] X.env))) := by rfl) :
  PE X (.Call (.Attribute o m apos) [] [] pos) (tMeth C m sp [] E0 ta tNil) := by
 obtain ⟨f, fd, h1, h2, h3, h4⟩ := D.ex
 exact pe_meth0 ho h1 h2 h4 hr h3 .nil pass0 ht
structure Cf (P : Program) (w : World) (K : PySem.W.Frag) (mg : Str → Option Value) (base : Heap) (k : Nat) (C : Addr) (x : Str) (ps : List Str) (sp : Sp) : Prop where
 ex : ∃ (f : Addr) (fd : FuncData), mg x = some (.ref C) ∧ Mk K C f ∧ Binds K fd ps [] ∧ FnOk P w K mg base CX0 k f fd ps sp
theorem pe_cf {X : Cx} {k : Nat} {C : Addr} {x : Str} {ps : List Str} {sp : Sp} {e : Expr} {es : List Expr} {t : TA} {p pos : Pos} (D : Cf X.prog X.w X.K X.mg X.base k C x ps sp) (hr : Room (k + 1) X.A) (ha : PA X (e :: es) t)
  (hg : Gl X x := by rfl) (hdb : (x == ("__debug__" : Str)) = false := by decide) (he : starEach (e :: es) X.env = (false, eval e X.env) :: starEach es X.env := by rfl) (hpl : (backTo pos (starEach es X.env)).any (·.1) = false := by rfl) :
  PE X (.Call (.Name x p) (e :: es) [] pos) (tMake C sp [] E0 t) := by
 obtain ⟨f, fd, h1, h2, h3, h4⟩ := D.ex
 exact pe_make h2 h4 hr hg h1 h3 .nil pass0 ha hdb he hpl
section
variable {X : Cx} {pins : List (Addr × Obj)} {σ : St} {H : Hp} {s : Shared} {h' : Heap}
theorem Inv.turnNew {fp : List Addr} {p : Addr} {o : HO} {t' : Nat} (I : Inv X pins σ H s) (hf : ∀ b ∈ fp, FpOk X pins H b) (k : ∀ b u, b ∉ fp → s.heap.get? b = some u → h'.get? b = some u) (hp : s.heap.objs.size ≤ p)
  (new : ObjOk X.prog X.w (upd H p o) h' p o) : Inv X pins σ (upd H p o) { s with heap := h', toks := t' } := by
 have hn : H p = none := I.hok.fresh hp
 have nfp : ∀ b u, H b = some u → b ∉ fp := fun b u e z => by rw [(hf b z).1] at e; cases e
 refine I.step (g' := s.gens) (d' := s.drawn) (ch := fp) (fun b hb => ?_) (fun b u _ _ hc e _ => k b u hc e) (fun b u _ _ hc e _ => ⟨u.slots, k b u hc e⟩) (fun b u _ e n => ?_)
  (fun b u hc e => ⟨u, k b u hc e⟩) (fun b xs e => ?_) (fun b u v e => ?_) (fun b ps e => ?_) (fun m hm => ?_) (fun b u e => ?_) I.bare
 ·obtain ⟨f0, f1, f2, f3, f4, f5⟩ := hf b hb
  exact ⟨f3, f1, f4, f5⟩
 ·rw [upd_ne (Nat.ne_of_lt (Nat.lt_of_lt_of_le (Heap.lt_size e) hp))]; exact n
 ·rw [upd_ne (ne_of_none e hn)]; exact e
 ·rw [upd_ne (ne_of_none e hn)]; exact e
 ·exact ⟨#[], by rw [upd_ne (ne_of_none e hn), e]; simp⟩
 ·obtain ⟨o1, es, ep, ho, r⟩ := hm
  exact ⟨o1, es, ep, k _ o1 (fun z => (hf _ z).2.1 rfl) ho, r⟩
 ·by_cases hb : b = p
  ·subst hb; rw [upd_same] at e; cases e; exact new
  ·rw [upd_ne hb] at e
   refine (I.hok b u e).stay (fun c v hc q => k c v ?_ q) (fun c q => by rw [upd_ne (ne_of_none q hn)]; exact q) fun c xs q => by rw [upd_ne (ne_of_none q hn)]; exact q
   rcases hc with z | z
   ·rw [z]; exact nfp b u e
   ·exact nfp c _ z
end
noncomputable def Ite (K : PySem.W.Frag) (a : Addr) : It :=
 ⟨fun i H => ∃ xs x, SqL K H a xs ∧ xs[i]? = some x, fun i H x H' => ∃ p y, x = .ref p ∧ H p = none ∧ H' = upd H p (.tup [.int (i : Nat), y]) ∧ ∀ xs, SqL K H a xs → xs[i]? = some y, fun i H => ∃ xs, SqL K H a xs ∧ xs.length ≤ i⟩
theorem turn_enum {P : Program} {w : World} {K : PySem.W.Frag} {elts : List Expr} {kk : Nat} {tp : Pos} (a e it : Addr) (hne : e ≠ it) : Turn P w K (.Tuple elts kk tp) (Ite K a) [e, it] e (fun i h => (∃ old, IsEnum h e it ((i : Nat) : Int) old) ∧ h.IsListIter it a i) where
 mem := by simp
 obj := fun i h st b hb => by
  obtain ⟨⟨old, he⟩, hit⟩ := st
  rcases List.mem_cons.mp hb with z | hb
  ·subst z
   exact ⟨_, he, fun v z => by
    have z' : Data.fields _ = Data.cell v := z
    cases z'⟩
  ·have z : b = it := by simpa using hb
   subst z
   obtain ⟨o, e, c, d⟩ := hit
   exact ⟨o, e, fun v z => by rw [d] at z; cases z⟩
 keep := fun i h h' st k => by
  obtain ⟨⟨old, he⟩, hit⟩ := st
  exact ⟨⟨old, k e (by simp) _ he⟩, hit.at fun o q => k it (by simp) o q⟩
 item := by
  intro X hP hw hK hc i pins s σ H E I hf st hg
  subst hP hw hK
  obtain ⟨⟨old, he⟩, hit⟩ := st
  obtain ⟨xs, x, hq, hx⟩ := hg
  obtain ⟨its, rv, p, hz⟩ := I.list hq
  obtain ⟨u, hu, ru⟩ := rv.get hx
  have hel : e < s.heap.objs.size := Heap.lt_size he
  have hil : it < s.heap.objs.size := by obtain ⟨_, q, _⟩ := hit; exact Heap.lt_size q
  have hp : H s.heap.objs.size = none := I.hok.fresh (Nat.le_refl _)
  refine wpAny_pyNext_enum_item he hit p.isList (x := u) (by simpa using hu) hne fun h' ho hit' hT hsz hk => ?_
  refine ⟨_, rfl, ?_⟩
  refine wpAny_letOwnedTupleGo_enum ho fun h2 he2 hs2 => ?_
  have hs2 : Heap.SameBut e h' h2 := hs2
  have keep : ∀ b u, b ∉ [e, it] → s.heap.get? b = some u → h2.get? b = some u := fun b u hb q => by
   have b1 : b ≠ e := fun z => hb (by simp [z])
   have b2 : b ≠ it := fun z => hb (by simp [z])
   exact (hs2.2 b b1).trans (hk b u b1 b2 q)
  have new : ObjOk X.prog X.w (upd H s.heap.objs.size (.tup [.int (i : Nat), x])) h2 s.heap.objs.size (.tup [.int (i : Nat), x]) := by
   refine ⟨by show 2 ≤ sizeLine; decide, [.int i s.toks, u], .cons ⟨_, rfl⟩ (.cons ru .nil), ⟨_, (hs2.2 _ (Nat.ne_of_gt hel)).trans hT, rfl, _, rfl⟩⟩
  refine ⟨.ref s.heap.objs.size, upd H s.heap.objs.size (.tup [.int (i : Nat), x]), I.turnNew (fp := [e, it]) hf keep (Nat.le_refl _) new, rfl, ⟨_, x, rfl, hp, rfl, fun ys hy => by rw [I.list_inj hy hq]; exact hx⟩,
   ⟨⟨_, he2⟩, hit'.at fun o q => (hs2.2 it (Ne.symm hne)).trans q⟩, fun b hb => ?_⟩
  have hb2 : b < s.heap.objs.size := by
   rcases List.mem_cons.mp hb with z | hb
   ·rw [z]; exact hel
   ·have z : b = it := by simpa using hb
    rw [z]; exact hil
  rw [upd_ne (Nat.ne_of_lt hb2)]
  exact (hf b hb).1
 done := by
  intro X hP hw hK hc i pins s σ H E I hf st hg
  subst hP hw hK
  obtain ⟨⟨old, he⟩, hit⟩ := st
  obtain ⟨xs, hq, hx⟩ := hg
  obtain ⟨its, rv, p, hz⟩ := I.list hq
  obtain ⟨f0, f1, f2, f3, f4, f5⟩ := hf it (by simp)
  have hl := rv.length
  exact wpAny_pyNext_enum_end (I.ok.hd hc) he hit p.isList (by simp; lia) fun h' eb => ⟨rfl, I.turned (t' := s.toks) (fun b o hb e => eb b o hb e) f0 f1 f3 f4 f5⟩
 self := fun _ _ _ _ _ st h => by
  obtain ⟨⟨old, he⟩, hit⟩ := st
  exact wpAny_pyIter_enum he h
section
variable {X : Cx}
noncomputable def iEnum (K : PySem.W.Frag) (tl : TE) : TI := fun σ H R => tl σ H fun x H1 => ∃ a, x = .ref a ∧ (∃ xs, SqL K H1 a xs) ∧ R (Ite K a) H1
theorem pi_enum {l : Expr} {tl : TE} {elts : List Expr} {kk : Nat} {tp p pos : Pos} (hg : Gl X "enumerate") (hm : X.mg "enumerate" = none) (hl : PE X l tl) (hs : starEach [l] X.env = [(false, eval l X.env)] := by rfl) :
  PI X (.Tuple elts kk tp) (.Call (.Name "enumerate" p) [l] [] pos) (iEnum X.K tl) := by
 intro pins s σ H R I h
 have ha : PA X [l] (tCons tl tNil) := pa_cons hl pa_nil hs
 refine Call_ (ld_blt I hg hm boot_enumerate (PyProof.Rows.callWith_type1 (thn (ha pos pins s σ H (fun vs H1 => ∃ x, vs = [x] ∧ ∃ a, x = .ref a ∧ (∃ xs, SqL X.K H1 a xs) ∧ R (Ite X.K a) H1) I ?_) fun us s1 ⟨vs, H1, I1, r1, q1⟩ => ?_) hs rfl))
 ·show tl σ H fun x H1 => _
  exact cast (congrArg (tl σ H) (by funext x H1; show _ = (∃ y, [x] = [y] ∧ _); exact propext ⟨fun z => ⟨x, rfl, z⟩, fun ⟨y, e, z⟩ => by cases e; exact z⟩)) h
 ·obtain ⟨x, e, a, e2, ⟨xs, hq⟩, q⟩ := q1
  subst e; subst e2
  cases r1 with
  | cons r rr =>
   cases rr
   cases r
   obtain ⟨its, rv, p, hz⟩ := I1.list hq
   refine call_enumerate_list p.isList fun h' he hit hsz hk => ?_
   have I2 : Inv X pins σ H1 { s1 with heap := h' } := I1.kept (t' := s1.toks) hk
   refine wpAny_pyIter_enum (s := { s1 with heap := h' }) he ?_
   refine ⟨s1.heap.objs.size + 1, [s1.heap.objs.size + 1, s1.heap.objs.size], _, _, H1, rfl, I2, turn_enum a _ _ (Nat.ne_of_gt (Nat.lt_succ_self _)), ⟨⟨_, he⟩, hit⟩, fun b hb => ?_, q⟩
   have hb2 : s1.heap.objs.size ≤ b := by
    rcases List.mem_cons.mp hb with z | hb
    ·rw [z]; exact Nat.le_succ _
    ·have z : b = s1.heap.objs.size := by simpa using hb
     rw [z]; exact Nat.le_refl _
   exact I1.fpOk hb2 (I1.hok.fresh hb2)
end
theorem for_enum {K : PySem.W.Frag} {a : Addr} {xs : List V} {g : TG} {tb : TS} {D : Ends} {σ : St} {H : Hp} (Pv : Nat → St → Hp → Prop) (h0 : Pv 0 σ H) (hl : ∀ i σ H, i ≤ xs.length → Pv i σ H → SqL K H a xs)
  (hs : ∀ i x σ H p, xs[i]? = some x → Pv i σ H → H p = none → g (.ref p) σ (upd H p (.tup [.int (i : Nat), x])) fun σ2 H2 => tb (D.lp (Pv (i + 1))) σ2 H2) (hd : ∀ σ H, Pv xs.length σ H → D.nx σ H) :
  ∃ W : Nat → Nat → St → Hp → Prop, (∃ m, W 0 m σ H) ∧ ∀ i m σ H, W i m σ H →
   ((Ite K a).stop i H ∧ D.nx σ H) ∨ ((Ite K a).go i H ∧ ∃ N : St → Hp → Prop, (∀ σ' H', N σ' H' → ∃ m', m' < m ∧ W (i + 1) m' σ' H') ∧ ∀ x H', (Ite K a).yld i H x H' → g x σ H' fun σ2 H2 => tb (D.lp N) σ2 H2) := by
 refine ⟨fun i m σ H => m = xs.length - i ∧ i ≤ xs.length ∧ Pv i σ H, ⟨xs.length, by simp, Nat.zero_le _, h0⟩, ?_⟩
 rintro i m σ H ⟨rfl, hi, p⟩
 have q := hl i σ H hi p
 by_cases hlt : i < xs.length
 ·refine .inr ⟨⟨xs, xs[i], q, by simp [hlt]⟩, Pv (i + 1), fun σ' H' p' => ⟨xs.length - (i + 1), by lia, rfl, hlt, p'⟩, fun x H' y => ?_⟩
  obtain ⟨pp, z, e1, e2, e3, e4⟩ := y
  subst e1; subst e3
  exact hs i z σ H pp (e4 xs q) p e2
 ·have e : i = xs.length := by lia
  subst e
  exact .inl ⟨⟨xs, q, Nat.le_refl _⟩, hd σ H p⟩
section
variable {prog : Program} {w : World} {A : Around} {R : Result → Shared → Prop} {s : Shared}
theorem compLoop_any {elt target iter : Expr} {ifs : List Expr} {scope : Scope} {pos : Pos} {it acc : Value} {env : Env} (I : Nat → Shared → Prop)
  (turn : ∀ n s, I n s → wpAny (model prog w) A (pyNext it) (fun r s₁ => match r with
   | none => R (.ok .next) s₁
   | some v => wpAny (model prog w) A (letOwnedTupleGo target it v) (fun _ s₀ => wpAny (model prog w) A (assign target env v) (fun _ s₂ =>
     wpAny (model prog w) A (forIn ifs true fun c r => if r = true then do let ok ← isTrue c env (eval c env); pure (ForInStep.yield ok) else pure (ForInStep.yield r)) (fun ok s₃ =>
      if ok = true then wpAny (model prog w) A (eval elt env) (fun x s₄ =>
       wpAny (model prog w) A (call (.builtin "list.append") [acc, x]) (fun _ s₅ => ∃ m, m < n ∧ I m s₅) (fun _ _ => False) s₄) (fun _ _ => False) s₃
      else ∃ m, m < n ∧ I m s₃) (fun _ _ => False) s₂) (fun _ _ => False) s₀) (fun _ _ => False) s₁) (fun _ _ => False) s)
  (n : Nat) (h : I n s) :
  codeAny (model prog w) A (.compLoop (.ListComp elt [⟨target, iter, ifs, 0⟩] scope pos) 0 it acc env) R s := by
 refine codeAny_loop rfl I (fun n s hI => ?_) n h
 show wpAny _ A ((compTurn (.ListComp elt [⟨target, iter, ifs, 0⟩] scope pos) 0 it acc env).onRaise (fun x => do noteFrame x env; theTreesLotGoes x)) _ _ s
 refine wpAny_noted ?_
 rw [compTurn_list]
 refine wpAny_bind (wpAny_standAt (wpAny_bind (wpAny_mono (turn n s hI) (fun r s₁ h₁ => ?_) fun _ _ h' => h'.elim)))
 cases r with
 | none => exact wpAny_pure h₁
 | some v =>
  refine wpAny_bind (wpAny_mono h₁ (fun _ s₀ h₀ => ?_) fun _ _ h' => h'.elim)
  refine wpAny_bind (wpAny_mono h₀ (fun _ s₂ h₂ => wpAny_bind (wpAny_mono h₂ (fun ok s₃ h₃ => ?_) fun _ _ h' => h'.elim)) fun _ _ h' => h'.elim)
  cases ok with
  | false => exact wpAny_pure ⟨rfl, h₃⟩
  | true =>
   exact wpAny_bind (wpAny_bind (wpAny_mono h₃ (fun x s₄ h₄ => wpAny_bind (wpAny_mono h₄ (fun _ s₅ h₅ => wpAny_pure (wpAny_pure ⟨rfl, h₅⟩)) fun _ _ h' => h'.elim)) fun _ _ h' => h'.elim))
end
noncomputable abbrev Cap := List (Nat × Str)
noncomputable def capV (cap : Cap) (σ : St) : St := cap.map fun p => (σ[p.1]?).join
noncomputable def Cx.blk (X : Cx) (scope : Scope) (cl : List (Str × Addr)) (ts : List Str) (cap : Cap) (C : Addr) (s : Shared) (H : Hp) (fp : List Addr) : Cx :=
 { X with N := ts ++ cap.map (·.2), s₀ := s, H₀ := H, env := compEnvC scope cl C X.env, outer := X.stack, stack := X.stack, ex := fp, fn := fun _ => false, pn := [], xe := fun _ _ => False }
structure Blk (X : Cx) (scope : Scope) (ts : List Str) (cap : Cap) (cl : List (Str × Addr)) : Prop where
 clos : closureFor scope X.env = pure cl
 ncell : ∀ y ∈ scope.names, y.2 ≠ .cell
 kind : scope.kind = .function
 names : ∀ y ∈ scope.names, y.2 = .local → scope.names.lookup y.1 = some .local
 sub : ∀ y c, cl.lookup y = some c → X.env.cells.lookup y = some c
 has : ∀ y, ((relabel scope X.env).names.lookup y = some .cell ∨ (relabel scope X.env).names.lookup y = some .free) → ∃ c, cl.lookup y = some c
 cap : ∀ (k j : Nat) (y : Str), cap[k]? = some (j, y) → X.N[j]? = some y ∧ (X.env.kindOf y = some .cell ∨ X.env.kindOf y = some .free) ∧
  ((relabel scope X.env).names.lookup y = some .cell ∨ (relabel scope X.env).names.lookup y = some .free)
theorem lookup_mem {α : Type} {x : Str} {v : α} : ∀ {l : List (Str × α)}, l.lookup x = some v → (x, v) ∈ l
 | [], h => by simp at h
 | (y, u) :: r, h => by
  rw [List.lookup_cons] at h
  cases e : x == y with
  | true =>
   rw [e] at h
   have e' : x = y := eq_of_beq e
   cases h
   rw [e']
   exact List.mem_cons_self
  | false =>
   rw [e] at h
   exact List.mem_cons_of_mem _ (lookup_mem h)
theorem relabel_none {scope : Scope} {env : Env} (hfree : ∀ y ∈ scope.names, y.2 ≠ .free) : (relabel scope env).names = scope.names := by
 show scope.names.map _ = scope.names
 refine map_eq_self fun x hx => ?_
 obtain ⟨n, k⟩ := x
 have : (k == NameKind.free) = false := by simpa using hfree _ hx
 simp [this]
theorem Blk.plain {X : Cx} {scope : Scope} {ts : List Str} (hfree : ∀ y ∈ scope.names, y.2 ≠ .free) (ncell : ∀ y ∈ scope.names, y.2 ≠ .cell) (kind : scope.kind = .function) (names : ∀ y ∈ scope.names, y.2 = .local → scope.names.lookup y.1 = some .local) :
  Blk X scope ts [] [] where
 clos := closureFor_none hfree
 ncell := ncell
 kind := kind
 names := names
 sub := fun _ _ e => nomatch e
 has := fun y h => by
  rw [relabel_none hfree] at h
  rcases h with h | h
  ·exact (ncell _ (lookup_mem h) rfl).elim
  ·exact (hfree _ (lookup_mem h) rfl).elim
 cap := fun k j y h => by simp at h
section
variable {X : Cx} {scope : Scope} {ts : List Str} {cap : Cap} {cl : List (Str × Addr)} {pins : List (Addr × Obj)} {σ : St} {H : Hp} {s : Shared} {fp : List Addr}
theorem blk_ok (B : Blk X scope ts cap cl) (I : Inv X pins σ H s) (hf : ∀ b ∈ fp, FpOk X pins H b) (hlt : ∀ b ∈ fp, b < s.heap.objs.size) {C : Addr} (hC : s.heap.objs.size ≤ C) : (X.blk scope cl ts cap C s H fp).Ok where
 mod := I.ok.mod
 kind := B.kind
 glob := I.ok.glob
 blt := I.ok.blt
 above := hC
 inj := fun x y c h1 h2 => I.ok.inj x y c (B.sub x c h1) (B.sub y c h2)
 has := fun x h => B.has x h
 cab := fun x c h => nomatch h
 hd := I.ok.hd
 frames := I.ok.frames
 stk := .inl rfl
 exf := fun b hb => ⟨Nat.ne_of_lt (Nat.lt_of_lt_of_le (hlt b hb) hC), fun x c e => (hf b hb).2.2.2.2.1 x c (B.sub x c e)⟩
 bs := I.bs
 bsz := Nat.le_trans I.ok.bsz I.sz
 noex := fun b o e hb => by
  rcases (hf b hb).2.2.2.1 with z | z
  ·exact I.ok.noex b o e z
  ·exact absurd (Nat.lt_of_lt_of_le (Heap.lt_size e) (Nat.le_trans I.ok.bsz z)) (Nat.lt_irrefl _)
 exfs := fun b hb z => by
  rcases List.mem_cons.mp (I.stkSub b z) with e | e
  ·exact (hf b hb).2.1 e
  ·exact (hf b hb).2.2.1 e
 funs := I.stack
 frf := I.stkFree
theorem capV_get {k : Nat} {v : V} (h : (capV cap σ)[k]? = some (some v)) : ∃ j y, cap[k]? = some (j, y) ∧ σ[j]? = some (some v) := by
 unfold capV at h
 rw [List.getElem?_map] at h
 cases e : cap[k]? with
 | none => rw [e] at h; cases h
 | some p =>
  rw [e] at h
  refine ⟨p.1, p.2, rfl, ?_⟩
  have h' : (σ[p.1]?).join = some v := Option.some.inj h
  cases q : σ[p.1]? with
  | none => rw [q] at h'; cases h'
  | some o => rw [q] at h'; exact congrArg some h'
theorem blk_inv (B : Blk X scope ts cap cl) (I : Inv X pins σ H s) (hf : ∀ b ∈ fp, FpOk X pins H b) (hlt : ∀ b ∈ fp, b < s.heap.objs.size) {h₁ : Heap} {m : Str → Option Value} {t' : Nat} (hn : h₁.Ns (s.heap.objs.size + 1) m)
  (old : ∀ b o, s.heap.get? b = some o → h₁.get? b = some o) (hD : h₁.get? s.heap.objs.size = some { cls := .type "list", data := .seq #[] 0 }) :
  Inv (X.blk scope cl ts cap (s.heap.objs.size + 1) s H fp) [] (List.replicate ts.length none ++ capV cap σ) (upd H s.heap.objs.size (.lst [])) { s with heap := h₁, toks := t' } := by
 have fD : H s.heap.objs.size = none := I.hok.fresh (Nat.le_refl _)
 have fC : H (s.heap.objs.size + 1) = none := I.hok.fresh (Nat.le_succ _)
 have clt : ∀ x c, cl.lookup x = some c → c < s.heap.objs.size := fun x c e => by
  obtain ⟨v, q⟩ := I.cell x c (B.sub x c e)
  exact q.lt
 refine ⟨blk_ok B I hf hlt (Nat.le_succ _), rfl, I.bare, Un.laid old (Nat.le_refl _) fD, ⟨m, hn, fun i y v e1 e2 e3 => ?_⟩, fun x c e => ?_, ?_, fun x c e => ?_, fun p hp => by simp [Cx.blk] at hp, I.hok.laid old (Nat.le_refl _) ⟨Nat.zero_le _, [], 0, .nil, hD⟩, ?_⟩
 ·have e2 : (List.replicate ts.length (none : Option V) ++ capV cap σ)[i]? = some (some v) := e2
  by_cases hi : i < ts.length
  ·rw [List.getElem?_append_left (by simpa using hi), List.getElem?_replicate] at e2
   rw [if_pos hi] at e2
   cases e2
  ·have hi : ts.length ≤ i := Nat.le_of_not_lt hi
   rw [List.getElem?_append_right (by simpa using hi), List.length_replicate] at e2
   obtain ⟨j, y', ec, es⟩ := capV_get e2
   have e1 : (ts ++ cap.map (·.2))[i]? = some y := e1
   rw [List.getElem?_append_right hi, List.getElem?_map, ec] at e1
   have ey : y' = y := Option.some.inj e1
   subst ey
   obtain ⟨c1, c2, c3⟩ := B.cap _ _ _ ec
   obtain ⟨mo, hno, hlo⟩ := I.loc
   have vis : Vis X.env.scope y' := by
    rcases c2 with c2 | c2
    ·exact .inr (.inl c2)
    ·exact .inr (.inr c2)
   obtain ⟨u, ru, lk⟩ := hlo j y' v c1 es vis
   rcases lk with ⟨k1, _⟩ | ⟨_, c, hc, o, ho, hd⟩
   ·rcases c2 with c2 | c2
    ·rw [k1] at c2; cases c2
    ·rw [k1] at c2; cases c2
   ·obtain ⟨c', hc'⟩ := B.has y' c3
    have q := B.sub y' c' hc'
    rw [hc] at q
    cases q
    exact ⟨u, ru, .inr ⟨c3, c, hc', o, old _ _ ho, hd⟩⟩
 ·obtain ⟨v, o, ho, hd⟩ := I.cell x c (B.sub x c e)
  exact ⟨v, o, old _ _ ho, hd⟩
 ·show upd H s.heap.objs.size (.lst []) (s.heap.objs.size + 1) = none
  rw [upd_ne (Nat.ne_of_gt (Nat.lt_succ_self _))]
  exact fC
 ·rw [upd_ne (Nat.ne_of_lt (clt x c e))]
  exact I.freeC x c (B.sub x c e)
 ·show (List.replicate ts.length none ++ capV cap σ).length = (ts ++ cap.map (·.2)).length
  simp [capV]
theorem blk_out (I : Inv X pins σ H s) (hf : ∀ b ∈ fp, FpOk X pins H b) {pl : List (Addr × Obj)} {σ' : St} {H' : Hp} {s' : Shared} {h' : Heap}
  (I' : Inv (X.blk scope cl ts cap (s.heap.objs.size + 1) s H fp) pl σ' H' s') (hs : Heap.SameBut (s.heap.objs.size + 1) s'.heap h') : Inv X pins σ H' { s' with heap := h' } := by
 have hC : H' (s.heap.objs.size + 1) = none := I'.free
 have u : Un (frs X.stack) fp H H' s.heap s'.heap := I'.base
 have nC : ∀ b o, s.heap.get? b = some o → b ≠ s.heap.objs.size + 1 := fun b o e => Nat.ne_of_lt (Nat.lt_succ_of_lt (Heap.lt_size e))
 refine I.call' (s' := { s' with heap := h' }) (ch := fp) I'.os ⟨fun b o e n h1 h2 => (hs.2 b (nC b o e)).trans (u.keep b o e n h1 h2), fun b o e n h1 h2 => ?_, u.free, fun b o e hx => ?_, u.tups, u.frzs, u.tbls⟩ (fun b o e => ?_) I'.bare (fun b hb => ?_)
 ·obtain ⟨sl, q⟩ := u.slot b o e n h1 h2
  exact ⟨sl, (hs.2 b (nC b o e)).trans q⟩
 ·obtain ⟨o', q⟩ := u.there b o e hx
  exact ⟨o', (hs.2 b (nC b o e)).trans q⟩
 ·refine (I'.hok b o e).stay (fun c v hc q => (hs.2 c ?_).trans q) (fun _ q => q) fun _ _ q => q
  rcases hc with z | z
  ·rw [z]; intro z2; rw [z2, hC] at e; cases e
  ·intro z2; rw [z2, hC] at z; cases z
 ·obtain ⟨f0, f1, f2, f3, f4, f5⟩ := hf b hb
  exact ⟨f3, f1, f4, f5⟩
end
noncomputable def PIfs (X : Cx) (ifs : List Expr) (t : TT) : Prop :=
 ∀ (pins : List (Addr × Obj)) (s : Shared) (σ : St) (H : Hp) (Q : Bool → Hp → Prop), Inv X pins σ H s → t σ H Q →
  wpAny (model X.prog X.w) X.A (forIn ifs true fun c r => if r = true then do let ok ← isTrue c X.env (eval c X.env); pure (ForInStep.yield ok) else pure (ForInStep.yield r)) (TP X pins σ Q) X.xe s
noncomputable def tTrue : TT := fun _ H Q => Q true H
theorem pifs_nil {X : Cx} : PIfs X [] tTrue := fun _ _ _ H _ I h => wpAny_tests_nil ⟨H, I, h⟩
theorem pifs_one {X : Cx} {c : Expr} {t : TT} (h : PT X c t) : PIfs X [c] t := fun pins s σ H Q I hq => wpAny_tests_one (h pins s σ H Q I hq)
noncomputable def tLC (wi : TI) (nt : Nat) (cap : Cap) (g : TG) (tt : TT) (te : TE) : TE := fun σ H Q => wi σ H fun J H1 => ∀ D, H1 D = none → ∃ W : Nat → Nat → St → List V → Hp → Prop,
 (∃ m, W 0 m (List.replicate nt none ++ capV cap σ) [] (upd H1 D (.lst []))) ∧ ∀ i m σ' ys H2, W i m σ' ys H2 →
  (J.stop i H2 ∧ Q (.ref D) H2) ∨ (J.go i H2 ∧ ∃ N : St → List V → Hp → Prop, (∀ σ ys H, N σ ys H → ∃ m', m' < m ∧ W (i + 1) m' σ ys H) ∧ ∀ x H3, J.yld i H2 x H3 → g x σ' H3 fun σ4 H4 => tt σ4 H4 fun b H5 =>
   if b = true then te σ4 H5 fun y H6 => H6 D = some (.lst ys) ∧ ys.length < sizeLine ∧ N σ4 (ys ++ [y]) (upd H6 D (.lst (ys ++ [y])))
   else N σ4 ys H5)
section
variable {X : Cx} {scope : Scope} {ts : List Str} {cap : Cap} {cl : List (Str × Addr)} {tg elt iter : Expr} {ifs : List Expr} {wi : TI} {g : TG} {tt : TT} {te : TE} {pos : Pos}
theorem run_blk (B : Blk X scope ts cap cl) (hc : X.calm = true) (hg : ∀ C s H fp, PG (X.blk scope cl ts cap C s H fp) tg g) (ht : ∀ C s H fp, PIfs (X.blk scope cl ts cap C s H fp) ifs tt) (he : ∀ C s H fp, PE (X.blk scope cl ts cap C s H fp) elt te)
  {pins : List (Addr × Obj)} {s : Shared} {σ : St} {H : Hp} {E : Value → Shared → Prop} {it : Addr} {fp : List Addr} {tn : Nat → Heap → Prop} {J : It} {Q : VK} {RR : Value → Addr → Result → Shared → Prop} (I : Inv X pins σ H s) (T : Turn X.prog X.w X.K tg J fp it tn) (st : tn 0 s.heap) (hf : ∀ b ∈ fp, FpOk X pins H b)
  (hw : ∀ D, H D = none → ∃ W : Nat → Nat → St → List V → Hp → Prop,
   (∃ m, W 0 m (List.replicate ts.length none ++ capV cap σ) [] (upd H D (.lst []))) ∧ ∀ i m σ' ys H2, W i m σ' ys H2 →
    (J.stop i H2 ∧ Q (.ref D) H2) ∨ (J.go i H2 ∧ ∃ N : St → List V → Hp → Prop, (∀ σ ys H, N σ ys H → ∃ m', m' < m ∧ W (i + 1) m' σ ys H) ∧ ∀ x H3, J.yld i H2 x H3 → g x σ' H3 fun σ4 H4 => tt σ4 H4 fun b H5 =>
     if b = true then te σ4 H5 fun y H6 => H6 D = some (.lst ys) ∧ ys.length < sizeLine ∧ N σ4 (ys ++ [y]) (upd H6 D (.lst (ys ++ [y])))
     else N σ4 ys H5))
  (hRR : ∀ (pl : List (Addr × Obj)) (σ' : St) (H' : Hp) (s' : Shared), Inv (X.blk scope cl ts cap (s.heap.objs.size + 1) s H fp) pl σ' H' s' → Q (.ref s.heap.objs.size) H' → RR (.ref s.heap.objs.size) (s.heap.objs.size + 1) (.ok .next) s') :
  wpAny (model X.prog X.w) X.A (newList []) (fun acc s₃ => wpAny (model X.prog X.w) X.A (newFunctionEnv scope X.env.globals cl [] X.env.qual none .none (some X.env)) (fun cenv s₄ =>
   codeAny (model X.prog X.w) X.A (.compStart (.ListComp elt [⟨tg, iter, ifs, 0⟩] scope pos) 0 (.ref it) acc { cenv with scope := relabel scope X.env }) (RR acc cenv.locals) s₄) E s₃) E s := by
 have hlt : ∀ b ∈ fp, b < s.heap.objs.size := fun b hb => by
  obtain ⟨o, e, _⟩ := T.obj _ _ st b hb
  exact Heap.lt_size e
 refine wpAny_newObj_type (wpAny_newFunctionEnv B.ncell (by intro y hy; simp at hy) (fun h₁ hns₁ hsb₁ => ?_) B.kind)
 dsimp only at hns₁ hsb₁ ⊢
 have hz : (s.heap.push { cls := .type "list", dict := none, data := .seq ([] : List Value).toArray }).objs.size = s.heap.objs.size + 1 := Heap.size_push ..
 rw [hz] at hns₁ hsb₁ ⊢
 have keep : ∀ b o, b ≠ s.heap.objs.size + 1 → (s.heap.push { cls := .type "list", dict := none, data := .seq ([] : List Value).toArray }).get? b = some o → h₁.get? b = some o := fun b o hb e => hsb₁.extBut b o hb (Heap.get?_push_of_some _ e)
 have old : ∀ b o, s.heap.get? b = some o → h₁.get? b = some o := fun b o e => keep b o (Nat.ne_of_lt (Nat.lt_succ_of_lt (Heap.lt_size e))) (Heap.get?_push_of_some _ e)
 have hD : h₁.get? s.heap.objs.size = some { cls := .type "list", data := .seq #[] 0 } := keep _ _ (Nat.ne_of_lt (Nat.lt_succ_self _)) (Heap.get?_push_size _ rfl)
 have fD : H s.heap.objs.size = none := I.hok.fresh (Nat.le_refl _)
 obtain ⟨W, ⟨m0, w0⟩, turn⟩ := hw s.heap.objs.size fD
 have I0 := blk_inv (t' := s.toks + ([] : List (Str × Value)).length) B I hf hlt hns₁ old hD
 have st0 : tn 0 h₁ := T.keep _ _ _ st fun b hb o e => old b o e
 have stat : ∀ {H' : Hp}, (∀ b ∈ fp, H' b = none) → ∀ b ∈ fp, FpOk (X.blk scope cl ts cap (s.heap.objs.size + 1) s H fp) [] H' b := fun hn b hb =>
  ⟨hn b hb, Nat.ne_of_lt (Nat.lt_succ_of_lt (hlt b hb)), fun z => by
   rcases List.mem_cons.mp (I.stkSub b z) with e | e
   ·exact (hf b hb).2.1 e
   ·exact (hf b hb).2.2.1 e, .inl hb, fun x c e => (hf b hb).2.2.2.2.1 x c (B.sub x c e), fun p hp => by simp [Cx.blk] at hp⟩
 have fr0 : ∀ b ∈ fp, (upd H s.heap.objs.size (.lst [])) b = none := fun b hb => by rw [upd_ne (Nat.ne_of_lt (hlt b hb))]; exact (hf b hb).1
 have loop : ∀ s₃ : Shared, s₃ = { s with heap := h₁, toks := s.toks + ([] : List (Str × Value)).length } →
   codeAny (model X.prog X.w) X.A (.compLoop (.ListComp elt [⟨tg, iter, ifs, 0⟩] scope pos) 0 (.ref it) (.ref s.heap.objs.size) (compEnvC scope cl (s.heap.objs.size + 1) X.env)) (RR (.ref s.heap.objs.size) (s.heap.objs.size + 1)) s₃ := by
  rintro s₃ rfl
  refine compLoop_any (fun n s' => ∃ i σ' ys H', Inv (X.blk scope cl ts cap (s.heap.objs.size + 1) s H fp) [] σ' H' s' ∧ tn i s'.heap ∧ (∀ b ∈ fp, H' b = none) ∧ W i n σ' ys H') ?_ m0 ⟨0, _, [], _, I0, st0, fr0, w0⟩
  rintro n s3 ⟨i, σ3, ys, H3, I3, st3, fr3, w3⟩
  rcases turn i n σ3 ys H3 w3 with ⟨stop, qn⟩ | ⟨go, N, hN, step⟩
  ·refine thn (T.done (X.blk scope cl ts cap (s.heap.objs.size + 1) s H fp) rfl rfl rfl hc i [] s3 σ3 H3 (fun _ _ => False) I3 (stat fr3) st3 stop) fun r s4 z_ => ?_
   obtain ⟨hr, I4⟩ := z_
   subst hr
   exact hRR _ _ _ _ I4 qn
  ·refine thn (T.item (X.blk scope cl ts cap (s.heap.objs.size + 1) s H fp) rfl rfl rfl hc i [] s3 σ3 H3 (fun _ _ => False) I3 (stat fr3) st3 go) fun r s4 z_ => ?_
   obtain ⟨u, hr, h4⟩ := z_
   subst hr
   refine thn h4 fun _ s5 z_ => ?_
   obtain ⟨x, H5, I5, r5, y5, st5, fr5⟩ := z_
   have I5' := I5.pinned (stat fr5) (T.obj _ _ st5)
   refine thn (hg _ _ _ _ _ s5 σ3 H5 x u _ I5' r5 (step x H5 y5)) fun _ s6 z_ => ?_
   obtain ⟨σ6, H6, I6, q6⟩ := z_
   refine thn (ht _ _ _ _ _ s6 σ6 H6 _ I6 q6) fun b s7 z_ => ?_
   obtain ⟨H7, I7, q7⟩ := z_
   have again : ∀ {σ8 : St} {H8 : Hp} {s8 : Shared} {m : Nat} {zs : List V}, Inv (X.blk scope cl ts cap (s.heap.objs.size + 1) s H fp) ([] ++ pinsAt fp s5.heap) σ8 H8 s8 → m < n → W (i + 1) m σ8 zs H8 → ∃ m, m < n ∧ ∃ i σ' ys H', Inv (X.blk scope cl ts cap (s.heap.objs.size + 1) s H fp) [] σ' H' s8 ∧ tn i s8.heap ∧ (∀ b ∈ fp, H' b = none) ∧ W i m σ' ys H' := fun {σ8 H8 s8 m zs} I8 hm w8 => by
    refine ⟨m, hm, i + 1, σ8, zs, H8, I8.unpinned, T.keep _ _ _ st5 fun b hb o e => (I8.pin (b, o) (List.mem_append_right _ (List.mem_append_right _ (mem_pinsAt hb e)))).1, fun b hb => ?_, w8⟩
    obtain ⟨o, e, d⟩ := T.obj _ _ st5 b hb
    exact (I8.pin (b, o) (List.mem_append_right _ (List.mem_append_right _ (mem_pinsAt hb e)))).2.1
   cases b with
   | false =>
    obtain ⟨m', hm, w7⟩ := hN _ _ _ q7
    exact again I7 hm w7
   | true =>
    rw [if_pos rfl]
    refine thn (he _ _ _ _ _ s7 σ6 H7 _ I7 q7) fun v s8 z_ => ?_
    obtain ⟨y, H8, I8, r8, hD8, hz8, n8⟩ := z_
    obtain ⟨m', hm, w8⟩ := hN _ _ _ n8
    refine thn (mt_append _ s8 σ6 H8 (.ref s.heap.objs.size) [y] (.ref s.heap.objs.size) [v] (fun _ H9 => H9 = upd H8 s.heap.objs.size (.lst (ys ++ [y]))) I8 rfl (.cons r8 .nil) ⟨_, _, _, rfl, rfl, hD8, hz8, rfl⟩) fun z s9 z_ => ?_
    obtain ⟨_, H9, I9, _, e9⟩ := z_
    subst e9
    exact again I9 hm w8
 exact codeAny_compStart_list (loop _ rfl) (T.self _ 0 _ _ _ st0 (loop _ rfl))
theorem pe_lc (B : Blk X scope ts cap cl) (hc : X.calm = true) (hi : PI X tg iter wi) (hg : ∀ C s H fp, PG (X.blk scope cl ts cap C s H fp) tg g) (ht : ∀ C s H fp, PIfs (X.blk scope cl ts cap C s H fp) ifs tt) (he : ∀ C s H fp, PE (X.blk scope cl ts cap C s H fp) elt te)
  (hs : ∀ x, foldedSetIterable iter X.env x = pure x := by intro _; rfl) : PE X (.ListComp elt [⟨tg, iter, ifs, 0⟩] scope pos) (tLC wi ts.length cap g tt te) := by
 intro pins s σ H Q I h
 rw [eval_ListComp]
 refine wpAny_comprehension_free (use := none) rfl hs B.clos B.kind B.names (thn (hi pins s σ H _ I h) fun v s1 h1 => thn h1 fun itv s2 h2 => ?_)
 obtain ⟨it, fp, tn, J, H2, e, I2, T, st2, f2, hw⟩ := h2
 subst e
 refine run_blk (RR := fun acc C => compPost (model X.prog X.w) X.A X.xe none (EP X pins σ Q) acc C) B hc hg ht he I2 T st2 f2 hw ?_
 intro pl σ' H' s' I' q
 obtain ⟨m, hn, _⟩ := I'.loc
 exact ⟨m, hn, fun h' hs' => ⟨.ref s2.heap.objs.size, H', blk_out I2 f2 I' hs', rfl, q⟩⟩
theorem ps_setLC {i : Nat} {y : Str} {py spos : Pos} (hN : X.N.Nodup) (hiN : X.N[i]? = some y) (hy : Loc X.env.scope y) (B : Blk X scope ts cap cl) (hc : X.calm = true) (hi : PI X tg iter wi) (hg : ∀ C s H fp, PG (X.blk scope cl ts cap C s H fp) tg g)
  (ht : ∀ C s H fp, PIfs (X.blk scope cl ts cap C s H fp) ifs tt) (he : ∀ C s H fp, PE (X.blk scope cl ts cap C s H fp) elt te)
  (hsw : swapsWith (.ListComp elt [⟨tg, iter, ifs, 0⟩] scope pos) (some (.Name y py)) spos.line X.env = pure true := by rfl) (hfn : X.fn y = true ∨ X.env.scope.names.lookup y = some .local := by first | exact .inl rfl | exact .inr rfl | assumption)
  (hs : ∀ x, foldedSetIterable iter X.env x = pure x := by intro _; rfl) : PS X (.Assign [.Name y py] (.ListComp elt [⟨tg, iter, ifs, 0⟩] scope pos) spos) (tAsg (tLC wi ts.length cap g tt te) (gName i)) := by
 intro pins s σ H D I h
 rw [exec_Assign_Name_used _ _ _ _ hsw]
 refine wpAny_bind (wpAny_standAt (wpAny_bind ?_))
 show wpAny _ X.A (do let _ ← comprehension (.ListComp elt [⟨tg, iter, ifs, 0⟩] scope pos) scope X.env _ (newList []) false (eval iter X.env) (some (assign (.Name y py) X.env))) _ _ s
 refine wpAny_bind (wpAny_mono (wpAny_comprehension_free (use := some (assign (.Name y py) X.env)) (Q := fun _ s' => SP X pins D .next s') rfl hs B.clos B.kind B.names
  (thn (hi pins s σ H _ I h) fun v s1 h1 => thn h1 fun itv s2 h2 => ?_)) (fun _ s' hq => wpAny_pure (wpAny_pure hq)) fun _ _ e => e)
 obtain ⟨it, fp, tn, J, H2, e, I2, T, st2, f2, hw⟩ := h2
 subst e
 refine run_blk (Q := fun x H1 => D.nx (σ.set i (some x)) H1) (RR := fun acc C => compPost (model X.prog X.w) X.A X.xe (some (assign (.Name y py) X.env)) (fun _ s' => SP X pins D .next s') acc C) B hc hg ht he I2 T st2 f2 hw ?_
 intro pl σ' H' s' I' q
 show wpAny _ X.A (assign (.Name y py) X.env (.ref s2.heap.objs.size)) _ _ _
 have I3 : Inv X pins σ H' s' := blk_out I2 f2 I' (Heap.SameBut.refl _ _)
 have hC : H' (s2.heap.objs.size + 1) = none := I'.free
 have cellLt : ∀ x c, X.env.cells.lookup x = some c → c < s2.heap.objs.size := fun x c e => by
  obtain ⟨v, q⟩ := I2.cell x c e
  exact q.lt
 refine wpAny_assign_Name (store_ok2 (v := .ref s2.heap.objs.size) I3 hN hiN hy rfl (fun s4 I4 ch => ?_) hfn)
 obtain ⟨a, sb, ha⟩ := ch
 have na : s2.heap.objs.size + 1 ≠ a := by
  rcases ha with z | z
  ·rw [z]; exact Nat.ne_of_gt (Nat.lt_succ_of_lt I2.lt)
  ·exact Nat.ne_of_gt (Nat.lt_succ_of_lt (cellLt y a z))
 obtain ⟨m, hn, _⟩ := I'.loc
 have hn : s'.heap.Ns (s2.heap.objs.size + 1) m := hn
 refine ⟨m, hn.sameBut sb na, fun h' hs' => ⟨_, H', I4.turned (t' := s4.toks) (it := s2.heap.objs.size + 1) (fun b o hb e => (hs'.2 b hb).trans e) hC (Nat.ne_of_gt (Nat.lt_succ_of_lt I2.lt)) (.inr (Nat.le_trans I2.sz (Nat.le_succ _))) (fun x c e => Nat.ne_of_lt (Nat.lt_succ_of_lt (cellLt x c e))) (fun p hp => ?_), q⟩⟩
 exact Nat.ne_of_lt (Nat.lt_succ_of_lt (Heap.lt_size (I2.pin p hp).1))
end
theorem lc_list {K : PySem.W.Frag} {a : Addr} {xs : List V} {g : TG} {tt : TT} {te : TE} {σ0 : St} {H : Hp} {D : Addr} {Qd : Hp → Prop} (Pv : Nat → St → List V → Hp → Prop) (h0 : Pv 0 σ0 [] (upd H D (.lst []))) (hl : ∀ i σ ys H, i ≤ xs.length → Pv i σ ys H → SqL K H a xs)
  (hs : ∀ i x σ ys H2, xs[i]? = some x → Pv i σ ys H2 → g x σ H2 fun σ4 H4 => tt σ4 H4 fun b H5 =>
   if b = true then te σ4 H5 fun y H6 => H6 D = some (.lst ys) ∧ ys.length < sizeLine ∧ Pv (i + 1) σ4 (ys ++ [y]) (upd H6 D (.lst (ys ++ [y])))
   else Pv (i + 1) σ4 ys H5)
  (hd : ∀ σ ys H, Pv xs.length σ ys H → Qd H) :
  ∃ W : Nat → Nat → St → List V → Hp → Prop, (∃ m, W 0 m σ0 [] (upd H D (.lst []))) ∧ ∀ i m σ' ys H2, W i m σ' ys H2 →
  ((Itl K a).stop i H2 ∧ Qd H2) ∨ ((Itl K a).go i H2 ∧ ∃ N : St → List V → Hp → Prop, (∀ σ ys H, N σ ys H → ∃ m', m' < m ∧ W (i + 1) m' σ ys H) ∧ ∀ x H3, (Itl K a).yld i H2 x H3 → g x σ' H3 fun σ4 H4 => tt σ4 H4 fun b H5 =>
   if b = true then te σ4 H5 fun y H6 => H6 D = some (.lst ys) ∧ ys.length < sizeLine ∧ N σ4 (ys ++ [y]) (upd H6 D (.lst (ys ++ [y])))
   else N σ4 ys H5) := by
 refine ⟨fun i m σ ys H => m = xs.length - i ∧ i ≤ xs.length ∧ Pv i σ ys H, ⟨xs.length, by simp, Nat.zero_le _, h0⟩, ?_⟩
 rintro i m σ ys H2 ⟨rfl, hi, p⟩
 have q := hl i σ ys H2 hi p
 by_cases hlt : i < xs.length
 ·refine .inr ⟨⟨xs, xs[i], q, by simp [hlt]⟩, Pv (i + 1), fun σ' ys' H' p' => ⟨xs.length - (i + 1), by lia, rfl, hlt, p'⟩, fun x H3 y => ?_⟩
  obtain ⟨e, y⟩ := y
  subst e
  exact hs i x σ ys _ (y xs q) p
 ·have e : i = xs.length := by lia
  subst e
  exact .inl ⟨⟨xs, q, Nat.le_refl _⟩, hd σ ys H2 p⟩
theorem lc_range {lo : Int} {n : Nat} {g : TG} {tt : TT} {te : TE} {σ0 : St} {H : Hp} {D : Addr} {Qd : Hp → Prop} (Pv : Nat → St → List V → Hp → Prop) (h0 : Pv 0 σ0 [] (upd H D (.lst [])))
  (hs : ∀ i σ ys H2, i < n → Pv i σ ys H2 → g (.int (lo + i)) σ H2 fun σ4 H4 => tt σ4 H4 fun b H5 =>
   if b = true then te σ4 H5 fun y H6 => H6 D = some (.lst ys) ∧ ys.length < sizeLine ∧ Pv (i + 1) σ4 (ys ++ [y]) (upd H6 D (.lst (ys ++ [y])))
   else Pv (i + 1) σ4 ys H5)
  (hd : ∀ σ ys H, Pv n σ ys H → Qd H) :
  ∃ W : Nat → Nat → St → List V → Hp → Prop, (∃ m, W 0 m σ0 [] (upd H D (.lst []))) ∧ ∀ i m σ' ys H2, W i m σ' ys H2 →
  ((Itr lo n).stop i H2 ∧ Qd H2) ∨ ((Itr lo n).go i H2 ∧ ∃ N : St → List V → Hp → Prop, (∀ σ ys H, N σ ys H → ∃ m', m' < m ∧ W (i + 1) m' σ ys H) ∧ ∀ x H3, (Itr lo n).yld i H2 x H3 → g x σ' H3 fun σ4 H4 => tt σ4 H4 fun b H5 =>
   if b = true then te σ4 H5 fun y H6 => H6 D = some (.lst ys) ∧ ys.length < sizeLine ∧ N σ4 (ys ++ [y]) (upd H6 D (.lst (ys ++ [y])))
   else N σ4 ys H5) := by
 refine ⟨fun i m σ ys H => m = n - i ∧ i ≤ n ∧ Pv i σ ys H, ⟨n, by simp, Nat.zero_le _, h0⟩, ?_⟩
 rintro i m σ ys H2 ⟨rfl, hi, p⟩
 by_cases hlt : i < n
 ·refine .inr ⟨hlt, Pv (i + 1), fun σ' ys' H' p' => ⟨n - (i + 1), by lia, rfl, hlt, p'⟩, fun x H3 y => ?_⟩
  obtain ⟨e, y⟩ := y
  subst e y
  exact hs i σ ys _ hlt p
 ·have e : i = n := by lia
  subst e
  exact .inl ⟨Nat.le_refl _, hd σ ys H2 p⟩
structure EqOk (X : Cx) (d : Nat) {α : Type} [DecidableEq α] (M : Hp → V → α → Prop) : Prop where
 eq : ∀ (pins : List (Addr × Obj)) (σ : St) (H : Hp) (s : Shared) (A : Around) (x y : V) (a b : α) (u v : Value), Inv X pins σ H s → A.units + d < cLine → M H x a → M H y b → RelV x u → RelV y v → SeqAt.EqAt A s u v (decide (a = b))
 fn : ∀ (pins : List (Addr × Obj)) (σ : St) (H : Hp) (s : Shared) (x : V) (a b : α), Inv X pins σ H s → M H x a → M H x b → a = b
noncomputable def plainV : V → Bool
 | .non => true
 | .int _ => true
 | .str _ => true
 | _ => false
noncomputable def MFl (_ : Hp) (x a : V) : Prop := x = a ∧ plainV a = true
theorem plain_flat {x : V} (h : plainV x = true) : flatV x = true := by cases x <;> first | rfl | exact absurd (show false = true from h) Bool.false_ne_true
theorem eqV_plain {x y : V} (hx : plainV x = true) (hy : plainV y = true) : eqV x y = decide (x = y) := by
 cases x with
 | non => cases y with
  | non => rfl
  | int _ => rfl
  | str _ => rfl
  | _ => exact absurd (show false = true from hy) Bool.false_ne_true
 | int i => cases y with
  | non => rfl
  | int j => rw [dec_int]; rfl
  | str _ => rfl
  | _ => exact absurd (show false = true from hy) Bool.false_ne_true
 | str i => cases y with
  | non => rfl
  | int j => rfl
  | str j => rw [dec_str]; rfl
  | _ => exact absurd (show false = true from hy) Bool.false_ne_true
 | _ => exact absurd (show false = true from hx) Bool.false_ne_true
theorem EqOk.flat {X : Cx} : EqOk X 0 MFl where
 eq := fun pins σ H s A x y a b u v I hu hx hy rx ry => by
  obtain ⟨e1, p1⟩ := hx
  obtain ⟨e2, p2⟩ := hy
  subst e1; subst e2
  rw [← eqV_plain p1 p2]
  exact eqAt_V rx ry (plain_flat p1) (plain_flat p2)
 fn := fun pins σ H s x a b I h1 h2 => h1.1.symm.trans h2.1
section
variable {α : Type} [DecidableEq α]
theorem Paired.get {β γ : Type} {F : β → γ → Prop} : ∀ {xs : List β} {as : List γ} {i : Nat} {x : β}, Paired F xs as → xs[i]? = some x → ∃ a, as[i]? = some a ∧ F x a
 | _, _, _, _, .nil, e => by simp at e
 | _, _, 0, _, .cons r _, e => by simp at e; subst e; exact ⟨_, rfl, r⟩
 | _, _, i + 1, x, .cons _ t, e => by
  obtain ⟨u, h1, h2⟩ := Paired.get (i := i) (x := x) t (by simpa using e)
  exact ⟨u, by simpa using h1, h2⟩
theorem Paired.getR {β γ : Type} {F : β → γ → Prop} : ∀ {xs : List β} {as : List γ} {i : Nat} {a : γ}, Paired F xs as → as[i]? = some a → ∃ x, xs[i]? = some x ∧ F x a
 | _, _, _, _, .nil, e => by simp at e
 | _, _, 0, _, .cons r _, e => by simp at e; subst e; exact ⟨_, rfl, r⟩
 | _, _, i + 1, x, .cons _ t, e => by
  obtain ⟨u, h1, h2⟩ := Paired.getR (i := i) (a := x) t (by simpa using e)
  exact ⟨u, by simpa using h1, h2⟩
theorem all_eq {as bs : List α} (h : as.length = bs.length) : ((List.range as.length).all fun j => decide (as[j]? = bs[j]?)) = decide (as = bs) := by
 rw [Bool.eq_iff_iff, List.all_eq_true]
 constructor
 ·intro q
  refine decide_eq_true (List.ext_getElem? fun i => ?_)
  by_cases hi : i < as.length
  ·exact of_decide_eq_true (q i (List.mem_range.mpr hi))
  ·rw [List.getElem?_eq_none (by lia), List.getElem?_eq_none (by lia)]
 ·intro q i _
  rw [of_decide_eq_true q]
  exact decide_eq_true rfl
theorem all_eqMin {as bs : List α} : (((List.range (min as.length bs.length)).all fun j => decide (as[j]? = bs[j]?)) && as.length == bs.length) = decide (as = bs) := by
 by_cases h : as.length = bs.length
 ·have e : min as.length bs.length = as.length := by lia
  rw [e, all_eq h, h]
  simp
 ·have n : ¬ as = bs := fun e => h (by rw [e])
  rw [decide_eq_false n]
  have : (as.length == bs.length) = false := by simpa using h
  rw [this, Bool.and_false]
end
noncomputable def MTup {α : Type} (K : PySem.W.Frag) (M : Hp → V → α → Prop) (H : Hp) (x : V) (as : List α) : Prop := ∃ p xs, x = .ref p ∧ SqT K H p xs ∧ Paired (M H) xs as
noncomputable def MLst {α : Type} (K : PySem.W.Frag) (M : Hp → V → α → Prop) (H : Hp) (x : V) (as : List α) : Prop := ∃ p xs, x = .ref p ∧ SqL K H p xs ∧ Paired (M H) xs as
section
variable {X : Cx} {d : Nat} {α : Type} [DecidableEq α] {M : Hp → V → α → Prop}
theorem EqOk.items (E : EqOk X d M) {pins : List (Addr × Obj)} {σ : St} {H : Hp} {s : Shared} {A : Around} {xs ys : List V} {as bs : List α} {us vs : List Value} (I : Inv X pins σ H s) (hu : A.units + (d + 1) < cLine) (r1 : Vals xs us) (r2 : Vals ys vs) (m1 : Paired (M H) xs as) (m2 : Paired (M H) ys bs) :
  ∀ j (h1 : j < us.toArray.size) (h2 : j < vs.toArray.size), SeqAt.EqAt A.in1 s us.toArray[j] vs.toArray[j] (decide (as[j]? = bs[j]?)) := by
 intro j h1 h2
 have l1 := r1.length
 have l2 := r2.length
 have h1' : j < us.length := by simpa using h1
 have h2' : j < vs.length := by simpa using h2
 obtain ⟨u, eu, ru⟩ := r1.get (i := j) (x := xs[j]'(by lia)) (by simp)
 obtain ⟨v, ev, rv⟩ := r2.get (i := j) (x := ys[j]'(by lia)) (by simp)
 obtain ⟨a, ea, ma⟩ := Paired.get (i := j) (x := xs[j]'(by lia)) m1 (by simp)
 obtain ⟨b, eb, mb⟩ := Paired.get (i := j) (x := ys[j]'(by lia)) m2 (by simp)
 have e1 : us.toArray[j] = u := by
  have : us[j]? = some us[j] := List.getElem?_eq_getElem h1'
  rw [this] at eu
  simpa using Option.some.inj eu
 have e2 : vs.toArray[j] = v := by
  have : vs[j]? = some vs[j] := List.getElem?_eq_getElem h2'
  rw [this] at ev
  simpa using Option.some.inj ev
 have e3 : decide (as[j]? = bs[j]?) = decide (a = b) := by
  rw [ea, eb]
  exact decide_eq_decide.mpr ⟨fun q => Option.some.inj q, fun q => congrArg some q⟩
 rw [e1, e2, e3]
 exact E.eq pins σ H s A.in1 _ _ a b u v I (by show A.units + 1 + d < cLine; lia) ma mb ru rv
theorem EqOk.rcT (E : EqOk X d M) {pins : List (Addr × Obj)} {σ : St} {H : Hp} {s : Shared} {A : Around} {p q : Addr} {xs ys : List V} {as bs : List α} (I : Inv X pins σ H s) (hu : A.units + (d + 1) < cLine) (h1 : SqT X.K H p xs) (h2 : SqT X.K H q ys) (m1 : Paired (M H) xs as) (m2 : Paired (M H) ys bs) :
  SeqAt.RcAt A s (.ref p) (.ref q) (decide (as = bs)) ∧ SeqAt.RcNeAt A s (.ref p) (.ref q) (!decide (as = bs)) := by
 obtain ⟨us, r1, t1, _⟩ := I.tuple h1
 obtain ⟨vs, r2, t2, _⟩ := I.tuple h2
 have it := E.items I hu r1 r2 m1 m2
 have l1 : us.toArray.size = as.length := by rw [List.size_toArray, ← r1.length, Paired.length m1]
 have l2 : vs.toArray.size = bs.length := by rw [List.size_toArray, ← r2.length, Paired.length m2]
 have z1 := SeqAt.RcAt.tuples (A := A) (s := s) (show s.heap.IsTuple p us.toArray from t1) (show s.heap.IsTuple q vs.toArray from t2) (by lia) it
 have z2 := SeqAt.RcNeAt.tuples (A := A) (s := s) (show s.heap.IsTuple p us.toArray from t1) (show s.heap.IsTuple q vs.toArray from t2) (by lia) it
 rw [l1, l2, all_eqMin] at z1 z2
 exact ⟨z1, z2⟩
inductive rEqMP (M : Hp → V → α → Prop) (x : V) (y : V) (H : Hp) (Q : VK) : Prop
 | mk (a : _) (b : _) (h_0 : M H x a) (h_1 : M H y b) (h_2 : Q (.bl (decide (a = b))) H)
noncomputable def rEqM (M : Hp → V → α → Prop) : R2 := fun x y H Q => rEqMP M x y H Q
inductive rNeMP (M : Hp → V → α → Prop) (x : V) (y : V) (H : Hp) (Q : VK) : Prop
 | mk (a : _) (b : _) (h_0 : M H x a) (h_1 : M H y b) (h_2 : Q (.bl (!decide (a = b))) H)
noncomputable def rNeM (M : Hp → V → α → Prop) : R2 := fun x y H Q => rNeMP M x y H Q
theorem op_eqT (E : EqOk X d M) (hu : X.A.units + (d + 1) < cLine) : OpR X (compareOp .Eq) (rEqM (MTup X.K M)) := by
 intro pins s σ H x y v u Q I rx ry h
 obtain ⟨as, bs, ⟨p, xs, e1, h1, m1⟩, ⟨q, ys, e2, h2, m2⟩, hq⟩ := h
 subst e1; subst e2
 cases rx; cases ry
 exact (E.rcT I hu h1 h2 m1 m2).1 _ _ _ _ ⟨.bl _, H, I, rfl, hq⟩
theorem op_neT (E : EqOk X d M) (hu : X.A.units + (d + 1) < cLine) : OpR X (compareOp .NotEq) (rNeM (MTup X.K M)) := by
 intro pins s σ H x y v u Q I rx ry h
 obtain ⟨as, bs, ⟨p, xs, e1, h1, m1⟩, ⟨q, ys, e2, h2, m2⟩, hq⟩ := h
 subst e1; subst e2
 cases rx; cases ry
 exact (E.rcT I hu h1 h2 m1 m2).2 _ _ _ _ ⟨.bl _, H, I, rfl, hq⟩
open Classical in
noncomputable def meanIs (M : Hp → V → α → Prop) (H : Hp) (a : α) (u : Value) : Bool := decide (∃ z, RelV z u ∧ M H z a)
theorem meanIs_of (E : EqOk X d M) {pins : List (Addr × Obj)} {σ : St} {H : Hp} {s : Shared} (I : Inv X pins σ H s) {a b : α} {x : V} {u : Value} (r : RelV x u) (m : M H x b) : meanIs M H a u = decide (b = a) := by
 unfold meanIs
 by_cases e : b = a
 ·subst e
  rw [decide_eq_true (p := b = b) rfl]
  exact @decide_eq_true _ (_) ⟨x, r, m⟩
 ·rw [decide_eq_false e]
  refine @decide_eq_false _ (_) ?_
  rintro ⟨z, rz, mz⟩
  have : z = x := rz.inj r
  subst this
  exact e (E.fn pins σ H s z b a I m mz)
theorem meanIs_any (E : EqOk X d M) {pins : List (Addr × Obj)} {σ : St} {H : Hp} {s : Shared} (I : Inv X pins σ H s) {a : α} {xs : List V} {us : List Value} {as : List α} (rv : Vals xs us) (mv : Paired (M H) xs as) : us.any (meanIs M H a) = decide (a ∈ as) ∧ us.countP (meanIs M H a) = as.countP fun b => decide (b = a) := by
 induction rv generalizing as with
 | nil => cases mv; exact ⟨by simp, rfl⟩
 | cons r rr ih => cases mv with
  | cons m mm =>
  obtain ⟨h1, h2⟩ := ih mm
  have e := meanIs_of E I (a := a) r m
  constructor
  ·rw [List.any_cons, h1, e, Bool.eq_iff_iff]
   simp only [Bool.or_eq_true, decide_eq_true_eq, List.mem_cons]
   exact ⟨fun q => q.elim (fun q => .inl q.symm) .inr, fun q => q.elim (fun q => .inl q.symm) .inr⟩
  ·rw [List.countP_cons, List.countP_cons, h2, e]
theorem meanIs_at (E : EqOk X d M) {pins : List (Addr × Obj)} {σ : St} {H : Hp} {s : Shared} (I : Inv X pins σ H s) {A : Around} (hu : A.units + d < cLine) {a : α} {y : V} {v : Value} (ry : RelV y v) (my : M H y a) {xs : List V} {us : List Value} {as : List α} (rv : Vals xs us) (mv : Paired (M H) xs as) : ∀ u ∈ us, SeqAt.EqAt A s u v (meanIs M H a u) := by
 induction rv generalizing as with
 | nil => intro u hu; cases hu
 | @cons x u xs us r rr ih => cases mv with
  | @cons _ b _ as m mm =>
  intro u' hu'
  rcases List.mem_cons.mp hu' with e | e
  ·subst e
   rw [meanIs_of E I (a := a) r m]
   exact E.eq pins σ H s A x y b a _ v I hu m my r ry
  ·exact ih mm u' e
inductive rInMP (K : PySem.W.Frag) (M : Hp → V → α → Prop) (neg : Bool) (x : V) (y : V) (H : Hp) (Q : VK) : Prop
 | mk (a : _) (as : _) (h_0 : M H x a) (h_1 : MLst K M H y as) (h_2 : Q (.bl (if neg then !decide (a ∈ as) else decide (a ∈ as))) H)
noncomputable def rInM (K : PySem.W.Frag) (M : Hp → V → α → Prop) (neg : Bool) : R2 := fun x y H Q => rInMP K M neg x y H Q
theorem op_notInM (E : EqOk X d M) (hu : X.A.units + (d + 1) < cLine) : OpR X (compareOp .NotIn) (rInM X.K M true) := by
 intro pins s σ H x y v u Q I rx ry h
 obtain ⟨a, as, mx, ⟨p, xs, e1, h1, m1⟩, hq⟩ := h
 subst e1
 cases ry
 obtain ⟨us, r1, t1, _⟩ := I.list h1
 refine SeqAt.notIn_listAt (meanIs M H a) t1.isList (fun y hy => ?_) ?_
 ·exact meanIs_at E I (A := X.A.in1) (by show X.A.units + 1 + d < cLine; lia) rx mx r1 m1 y (by simpa using hy)
 ·refine ⟨.bl (!decide (a ∈ as)), H, I, ?_, hq⟩
  show Value.bool _ = Value.bool _
  rw [← (meanIs_any E I (a := a) r1 m1).1]
  simp
inductive rCountMP (K : PySem.W.Frag) (M : Hp → V → α → Prop) (x : V) (vs : List V) (H : Hp) (Q : VK) : Prop
 | mk (y : _) (a : _) (as : _) (h_0 : vs = [y]) (h_1 : M H y a) (h_2 : MLst K M H x as) (h_3 : Q (.int (as.countP fun b => decide (b = a) : Nat)) H)
noncomputable def rCountM (K : PySem.W.Frag) (M : Hp → V → α → Prop) : V → List V → Hp → VK → Prop := fun x vs H Q => rCountMP K M x vs H Q
theorem mt_count (E : EqOk X d M) (hu : X.A.units + (d + 1) < cLine) : MtM X "list.count" (rCountM X.K M) := by
 intro pins s σ H x vs v us Q I rx rv h
 obtain ⟨y, a, as, e0, my, ⟨p, xs, e1, h1, m1⟩, hq⟩ := h
 subst e0; subst e1
 cases rx
 obtain ⟨u, e2, ry⟩ := rv.one
 subst e2
 obtain ⟨ws, r1, ⟨o, n, ho, hc, hdd, hd⟩, _⟩ := I.list h1
 obtain ⟨cls, dct, data, sl⟩ := o
 simp only at hc hd hdd
 subst hc hd hdd
 refine call_meets F.slot_list_count ⟨_, ho, rfl⟩ F.entry_list_count (F.args_list_count_2 _ _) (SeqAt.list_countAt p ws.toArray n none sl u (meanIs M H a)) ⟨ho, fun y hy => ?_, ?_⟩
 ·exact meanIs_at E I (by show _ + _ < cLine; first | (show X.A.units + 1 + d < cLine; lia) | (show X.A.units + 1 + 1 + d < cLine; lia)) ry my r1 m1 y (by simpa using hy)
 ·refine ⟨.int (as.countP fun b => decide (b = a) : Nat), H, I.tok _, ⟨s.toks, ?_⟩, hq⟩
  show Value.int _ _ = Value.int _ _
  rw [← (meanIs_any E I (a := a) r1 m1).2]
end
noncomputable def Itk (a : Addr) (o : Obj) (kvs : List (Key × V)) : It := ⟨fun i H => i < kvs.length ∧ H a = some (.frz o (.dK kvs)), fun i H x H' => H' = H ∧ ∃ p, kvs[i]? = some p ∧ x = kV p.1, fun i H => kvs.length ≤ i ∧ H a = some (.frz o (.dK kvs))⟩
theorem kV_of {P : Program} {w : World} {k : Key} {u : Value} (h : (mixKind P w).is k u = true) : RelV (kV k) u := by
 rcases keyIs_shape h with ⟨i, t, rfl, rfl⟩ | ⟨x, t, rfl, rfl⟩
 ·exact ⟨t, rfl⟩
 ·exact ⟨t, rfl⟩
theorem KV.getR {kvs : List (Key × V)} {vs : List (Key × Value)} (r : KV kvs vs) {i : Nat} {p : Key × V} (e : kvs[i]? = some p) : ∃ q, vs[i]? = some q ∧ q.1 = p.1 := by
 obtain ⟨q, h1, h2⟩ := Paired.get (F := fun (p : Key × V) (q : Key × Value) => p.1 = q.1 ∧ RelV p.2 q.2) r e
 exact ⟨q, h1, h2.1.symm⟩
theorem dictAt_of {P : Program} {w : World} {h : Heap} {a : Addr} {o : Obj} {es : Array DictEntry} {ep : Nat} {vs : List (Key × Value)} (ho : h.get? a = some o) (hd : o.data = .dict es ep) (D : h.DictOf (mixKind P w) a vs) : h.DictAt (mixKind P w) a vs ep := by
 obtain ⟨o', es', ep', h1, h2, h3, h4⟩ := D
 rw [ho] at h1
 cases h1
 rw [hd] at h3
 cases h3
 exact ⟨o, es, ho, h2, hd, h4⟩
theorem turn_dkeys {P : Program} {w : World} {K : PySem.W.Frag} {tg : Expr} (a it : Addr) (o : Obj) (es : Array DictEntry) (ep : Nat) (hd : o.data = .dict es ep) (kvs : List (Key × V)) : Turn P w K tg (Itk a o kvs) [it] it (fun i h => h.IsKeyIter it a i kvs.length ep) where
 mem := by simp
 obj := fun i h st b hb => by
  have e : b = it := by simpa using hb
  subst e
  obtain ⟨o, e, c, d⟩ := st
  exact ⟨o, e, fun v z => by rw [d] at z; cases z⟩
 keep := fun i h h' st k => st.at fun o e => k it (by simp) o e
 item := by
  intro X hP hw hK hc i pins s σ H E I hf st hg
  subst hP hw hK
  obtain ⟨hi, hH⟩ := hg
  obtain ⟨ho, _, _, vs, rel, dd⟩ := (show ObjOk X.prog X.w H s.heap a (.frz o (.dK kvs)) from I.hok a _ hH)
  have hl := rel.length
  obtain ⟨q, hq, hq1⟩ := rel.getR (i := i) (p := kvs[i]) (by simp)
  obtain ⟨f0, f1, f2, f3, f4, f5⟩ := hf it (by simp)
  refine wpAny_pyNext_dict_item (k := q.1) (v := q.2) (kvs := vs) (hl ▸ st) (dictAt_of ho hd dd) hq fun key h' hk st' sb => ?_
  have I1 : Inv X pins σ H { s with heap := h' } := I.turned (t' := s.toks) (fun b o hb e => (sb.2 b hb).trans e) f0 f1 f3 f4 f5
  obtain ⟨oi, e, c, d⟩ := id st'
  refine ⟨key, rfl, go_of (s := { s with heap := h' }) e c d (by decide) ⟨kV kvs[i].1, H, I1, ?_, ⟨rfl, kvs[i], by simp, rfl⟩, hl ▸ st', fun b hb => (hf b hb).1⟩⟩
  rw [← hq1]
  exact kV_of hk
 done := by
  intro X hP hw hK hc i pins s σ H E I hf st hg
  subst hP hw hK
  obtain ⟨hi, hH⟩ := hg
  obtain ⟨ho, _, _, vs, rel, dd⟩ := (show ObjOk X.prog X.w H s.heap a (.frz o (.dK kvs)) from I.hok a _ hH)
  have hl := rel.length
  obtain ⟨f0, f1, f2, f3, f4, f5⟩ := hf it (by simp)
  exact wpAny_pyNext_dict_end (kvs := vs) (I.ok.hd hc) (hl ▸ st) (dictAt_of ho hd dd) (List.getElem?_eq_none (by lia)) fun h' eb => ⟨rfl, I.turned (t' := s.toks) (fun b o hb e => eb b o hb e) f0 f1 f3 f4 f5⟩
 self := fun _ _ _ _ _ st h => wpAny_pyIter_keyiter st h
section
variable {X : Cx} {tg : Expr}
theorem Inv.freeze {pins : List (Addr × Obj)} {σ : St} {H : Hp} {s : Shared} {a : Addr} {kvs : List (Key × V)} {o : Obj} (I : Inv X pins σ H s) (e : H a = some (.dK kvs)) (ho : s.heap.get? a = some o) : Inv X pins σ (upd H a (.frz o (.dK kvs))) s := by
 have nt : ∀ b u, H b = some u → (∀ z, u ≠ .dK z) → b ≠ a := fun b u q n z => by rw [z, e] at q; cases q; exact n _ rfl
 refine I.un (t' := s.toks) (h' := s.heap) ⟨fun b u q _ _ _ => q, fun b u q _ _ _ => ⟨u.slots, q⟩, fun b u q n _ => ?_, fun b u q _ => ⟨u, q⟩, fun b xs q => ?_, fun b u v q => ?_, fun b ps q => ⟨#[], ?_⟩⟩ (fun b u q => ?_)
 ·rw [upd_ne (by rintro rfl; rw [n] at e; cases e)]; exact n
 ·rw [upd_ne (nt b _ q (fun _ z => nomatch z))]; exact q
 ·rw [upd_ne (nt b _ q (fun _ z => nomatch z))]; exact q
 ·rw [upd_ne (nt b _ q (fun _ z => nomatch z)), q]; simp
 ·by_cases hb : b = a
  ·subst hb
   rw [upd_same] at q
   cases q
   refine ⟨ho, (I.hok _ _ e).stay (fun _ _ _ q => q) (fun c q => ?_) fun c xs q => ?_⟩
   ·rw [upd_ne (nt c _ q (fun _ z => nomatch z))]; exact q
   ·rw [upd_ne (nt c _ q (fun _ z => nomatch z))]; exact q
  ·rw [upd_ne hb] at q
   refine (I.hok _ _ q).stay (fun _ _ _ q => q) (fun c q => ?_) fun c xs q => ?_
   ·rw [upd_ne (nt c _ q (fun _ z => nomatch z))]; exact q
   ·rw [upd_ne (nt c _ q (fun _ z => nomatch z))]; exact q
noncomputable def iDK (td : TE) : TI := fun σ H R => td σ H fun x H1 => ∃ a kvs, x = .ref a ∧ H1 a = some (.dK kvs) ∧ ∀ o, R (Itk a o kvs) (upd H1 a (.frz o (.dK kvs)))
theorem pi_dkeys {l : Expr} {tl : TE} (hl : PE X l tl) : PI X tg l (iDK tl) := by
 intro pins s σ H R I h
 refine thn (hl pins s σ H _ I h) fun v s1 z_ => ?_
 obtain ⟨x, H1, I1, r1, q1⟩ := z_
 obtain ⟨a, kvs, e, hH, q⟩ := q1
 subst e
 cases r1
 obtain ⟨_, hsys, vs, rel, dd⟩ := dk_of I1.hok hH
 obtain ⟨o, es, ep, ho, h2, h3, h4⟩ := id dd
 have I2 := I1.freeze hH ho
 refine wpAny_pyIter_dict hsys (dictAt_of ho h3 dd) ?_
 refine ⟨s1.heap.objs.size, [s1.heap.objs.size], _, _, upd H1 a (.frz o (.dK kvs)), rfl, I2.kept (t' := s1.toks) fun b o e => Heap.get?_push_of_some _ e, turn_dkeys a _ o es ep h3 kvs, ⟨_, Heap.get?_push_size _ rfl, rfl, ?_⟩, fun b hb => ?_, q o⟩
 ·rw [rel.length]; rfl
 ·have e : b = s1.heap.objs.size := by simpa using hb
  subst e
  exact I2.fpOk (Nat.le_refl _) (I2.hok.fresh (Nat.le_refl _))
end
theorem for_dkeys {a : Addr} {o : Obj} {kvs : List (Key × V)} {g : TG} {tb : TS} {D : Ends} {σ : St} {H : Hp} (Pv : Nat → St → Hp → Prop) (h0 : Pv 0 σ H) (hl : ∀ i σ H, i ≤ kvs.length → Pv i σ H → H a = some (.frz o (.dK kvs)))
  (hs : ∀ i p σ H, kvs[i]? = some p → Pv i σ H → g (kV p.1) σ H fun σ2 H2 => tb (D.lp (Pv (i + 1))) σ2 H2) (hd : ∀ σ H, Pv kvs.length σ H → D.nx σ H) :
  ∃ W : Nat → Nat → St → Hp → Prop, (∃ m, W 0 m σ H) ∧ ∀ i m σ H, W i m σ H →
   ((Itk a o kvs).stop i H ∧ D.nx σ H) ∨ ((Itk a o kvs).go i H ∧ ∃ N : St → Hp → Prop, (∀ σ' H', N σ' H' → ∃ m', m' < m ∧ W (i + 1) m' σ' H') ∧ ∀ x H', (Itk a o kvs).yld i H x H' → g x σ H' fun σ2 H2 => tb (D.lp N) σ2 H2) := by
 refine ⟨fun i m σ H => m = kvs.length - i ∧ i ≤ kvs.length ∧ Pv i σ H, ⟨kvs.length, by simp, Nat.zero_le _, h0⟩, ?_⟩
 rintro i m σ H ⟨rfl, hi, p⟩
 have q := hl i σ H hi p
 by_cases hlt : i < kvs.length
 ·refine .inr ⟨⟨hlt, q⟩, Pv (i + 1), fun σ' H' p' => ⟨kvs.length - (i + 1), by lia, rfl, hlt, p'⟩, fun x H' y => ?_⟩
  obtain ⟨e, z, e1, e2⟩ := y
  subst e; subst e2
  exact hs i z σ _ e1 p
 ·have e : i = kvs.length := by lia
  subst e
  exact .inl ⟨⟨Nat.le_refl _, q⟩, hd σ H p⟩
theorem call_isinst {X : Cx} : CallR X (.builtin "isinstance") (fun xs H Q => ∃ x c t b, xs = [x, .ty c] ∧ TyOf X.K H x t ∧ PySem.W.kitOne X.K t (.type c) = some b ∧ Q (.bl b) H) := by
 intro pins s σ H xs us Q I r h
 obtain ⟨x, c, t, b, e, ty, k, q⟩ := h
 subst e
 obtain ⟨u, v, e2, rx, rc⟩ := vals2 r
 subst e2
 cases (show v = Value.type c from rc)
 exact isinst_ok I rx ty k fun tk => ⟨.bl b, H, I.tok _, rfl, q⟩
noncomputable def clOf (env : Env) (names : List (Str × NameKind)) (acc : List (Str × Addr)) : List (Str × Addr) := names.foldl (fun cs p => if (p.2 == NameKind.free) = true then (p.1, (env.cells.lookup p.1).getD 0) :: cs else cs) acc
theorem closureFor_caps {scope : Scope} {env : Env} (h : ∀ y ∈ scope.names, y.2 = .free → ∃ c, env.cells.lookup y.1 = some c) : closureFor scope env = pure (clOf env scope.names []) := by
 simp only [closureFor]
 generalize ([] : List (Str × Addr)) = acc
 generalize scope.names = names at h
 induction names generalizing acc with
 | nil => simp [clOf]
 | cons p names ih =>
  obtain ⟨n, k⟩ := p
  have h' := fun y hy => h y (List.mem_cons_of_mem _ hy)
  rw [List.forIn_cons]
  cases e : (k == NameKind.free) with
  | false =>
   simp only [Bool.false_eq_true, if_false, pure_bind]
   rw [ih acc h']
   show pure _ = pure (clOf env names (if (k == NameKind.free) = true then (n, (env.cells.lookup n).getD 0) :: acc else acc))
   rw [e, if_neg Bool.false_ne_true]
  | true =>
   obtain ⟨c, hc⟩ := h (n, k) List.mem_cons_self (by simpa using e)
   have hc : env.cells.lookup n = some c := hc
   have ec : cellOf env n = pure c := by unfold cellOf; rw [hc]
   simp only [if_true, ec, pure_bind]
   rw [ih _ h']
   show pure _ = pure (clOf env names (if (k == NameKind.free) = true then (n, (env.cells.lookup n).getD 0) :: acc else acc))
   rw [e, if_pos rfl, hc]
   rfl
theorem clOf_mem {env : Env} {y : Str} {c : Addr} : ∀ {names : List (Str × NameKind)} {acc : List (Str × Addr)}, (y, c) ∈ clOf env names acc → (y, c) ∈ acc ∨ ((y, NameKind.free) ∈ names ∧ c = (env.cells.lookup y).getD 0)
 | [], _, h => .inl h
 | (n, k) :: names, acc, h => by
  have h : (y, c) ∈ clOf env names (if (k == NameKind.free) = true then (n, (env.cells.lookup n).getD 0) :: acc else acc) := h
  rcases clOf_mem h with z | ⟨z, e⟩
  ·split at z
   ·rename_i hk
    rcases List.mem_cons.mp z with z | z
    ·injection z with z1 z2
     have hk : k = .free := by simpa using hk
     subst z1
     rw [hk]
     exact .inr ⟨List.mem_cons_self, z2⟩
    ·exact .inl z
   ·exact .inl z
  ·exact .inr ⟨List.mem_cons_of_mem _ z, e⟩
theorem clOf_acc {env : Env} {p : Str × Addr} : ∀ {names : List (Str × NameKind)} {acc : List (Str × Addr)}, p ∈ acc → p ∈ clOf env names acc
 | [], _, h => h
 | (n, k) :: names, acc, h => by
  show p ∈ clOf env names (if (k == NameKind.free) = true then (n, (env.cells.lookup n).getD 0) :: acc else acc)
  refine clOf_acc ?_
  split
  ·exact List.mem_cons_of_mem _ h
  ·exact h
theorem clOf_has {env : Env} {y : Str} : ∀ {names : List (Str × NameKind)} {acc : List (Str × Addr)}, (y, NameKind.free) ∈ names → ∃ c, (y, c) ∈ clOf env names acc
 | (n, k) :: names, acc, h => by
  rcases List.mem_cons.mp h with z | z
  ·injection z with z1 z2
   subst z1; subst z2
   refine ⟨(env.cells.lookup y).getD 0, ?_⟩
   show _ ∈ clOf env names (if (NameKind.free == NameKind.free) = true then (y, (env.cells.lookup y).getD 0) :: acc else acc)
   exact clOf_acc (by rw [if_pos (by rfl)]; exact List.mem_cons_self)
  ·exact clOf_has (names := names) z
theorem lookup_some {α : Type} {x : Str} {v : α} : ∀ {l : List (Str × α)}, (x, v) ∈ l → ∃ u, l.lookup x = some u
 | (y, u) :: r, h => by
  rw [List.lookup_cons]
  cases e : x == y with
  | true => exact ⟨_, rfl⟩
  | false =>
   rcases List.mem_cons.mp h with z | z
   ·injection z with z1 _
    rw [z1, beq_self_eq_true] at e
    cases e
   ·exact lookup_some z
theorem lookup_relabel_free {env : Env} : ∀ {names : List (Str × NameKind)} {x : Str}, names.lookup x = some .free →
  (names.map fun (n, k) => if (k == NameKind.free && env.scope.kind == .function && env.kindOf n == some .cell) then (n, NameKind.cell) else (n, k)).lookup x = some .cell ∨
  (names.map fun (n, k) => if (k == NameKind.free && env.scope.kind == .function && env.kindOf n == some .cell) then (n, NameKind.cell) else (n, k)).lookup x = some .free
 | [], _, h => by simp at h
 | (n, k) :: r, x, h => by
  have ih := @lookup_relabel_free env r x
  rw [List.lookup_cons] at h
  rw [List.map_cons]
  cases e : x == n with
  | true =>
   rw [e] at h
   have hk : k = .free := Option.some.inj h
   subst hk
   dsimp only
   split
   ·left; rw [List.lookup_cons, e]
   ·right; rw [List.lookup_cons, e]
  | false =>
   rw [e] at h
   dsimp only
   split
   ·rw [List.lookup_cons, e]; exact ih h
   ·rw [List.lookup_cons, e]; exact ih h
theorem Blk.caps {X : Cx} {scope : Scope} {ts : List Str} {cap : Cap} (hX : ∀ y, (X.env.kindOf y = some .cell ∨ X.env.kindOf y = some .free) → ∃ c, X.env.cells.lookup y = some c)
  (hfree : ∀ y ∈ scope.names, y.2 = .free → (X.env.kindOf y.1 = some .cell ∨ X.env.kindOf y.1 = some .free)) (ncell : ∀ y ∈ scope.names, y.2 ≠ .cell) (kind : scope.kind = .function) (names : ∀ y ∈ scope.names, y.2 = .local → scope.names.lookup y.1 = some .local)
  (hcap : ∀ (k j : Nat) (y : Str), cap[k]? = some (j, y) → X.N[j]? = some y ∧ scope.names.lookup y = some .free) : Blk X scope ts cap (clOf X.env scope.names []) where
 clos := closureFor_caps fun y hy hk => hX _ (hfree y hy hk)
 ncell := ncell
 kind := kind
 names := names
 sub := fun y c e => by
  rcases clOf_mem (lookup_mem e) with z | ⟨z, hc⟩
  ·cases z
  ·obtain ⟨d, hd⟩ := hX _ (hfree _ z rfl)
   have hd : X.env.cells.lookup y = some d := hd
   rw [hd] at hc ⊢
   rw [hc]
   rfl
 has := fun y h => by
  have hm : (y, NameKind.free) ∈ scope.names := by
   have gen : ∀ (v : NameKind), (v = .cell ∨ v = .free) → (relabel scope X.env).names.lookup y = some v → (y, NameKind.free) ∈ scope.names := by
    intro v hv e
    have m := lookup_mem e
    obtain ⟨⟨n, k⟩, hn, hz⟩ := List.mem_map.mp m
    dsimp only at hz
    split at hz
    ·rename_i hc
     injection hz with h1 _
     subst h1
     have hk : k = .free := by
      simp only [Bool.and_eq_true] at hc
      simpa using hc.1.1
     rw [← hk]; exact hn
    ·injection hz with h1 h2
     subst h1; subst h2
     rcases hv with rfl | rfl
     ·exact absurd rfl (ncell _ hn)
     ·exact hn
   rcases h with h | h
   ·exact gen _ (.inl rfl) h
   ·exact gen _ (.inr rfl) h
  obtain ⟨c, hc⟩ := clOf_has (env := X.env) (acc := []) hm
  exact lookup_some hc
 cap := fun k j y h => by
  obtain ⟨h1, h2⟩ := hcap k j y h
  exact ⟨h1, hfree _ (lookup_mem h2) rfl, lookup_relabel_free h2⟩
theorem blk_cx {CX : CXT} {P : Program} {w : World} {K : PySem.W.Frag} {mg : Str → Option Value} {base : Heap} {N : List Str} {qual : Str} {sc : Scope} {f : Addr} {cd : Value} {A : Around} {outer : List Env} {s : Shared} {H : Hp} {E : XK} {scope : Scope} {ts : List Str} {cap : Cap}
  (hfree : ∀ y ∈ scope.names, y.2 = .free → sc.names.lookup y.1 = some .cell) (nofree : ∀ y ∈ sc.names, y.2 ≠ .free) (ncell : ∀ y ∈ scope.names, y.2 ≠ .cell) (kind : scope.kind = .function) (names : ∀ y ∈ scope.names, y.2 = .local → scope.names.lookup y.1 = some .local)
  (hcap : ∀ p ∈ cap, N[p.1]? = some p.2 ∧ scope.names.lookup p.2 = some .free) :
  Blk (cxOf CX P w K mg base N qual sc f cd A outer s H E).nox scope ts cap (clOf (envOfC qual sc s.heap.objs.size f cd) scope.names []) :=
 Blk.caps (X := (cxOf CX P w K mg base N qual sc f cd A outer s H E).nox) (fun y h => by
  rcases h with h | h
  ·exact cell_has (sc := sc) h
  ·exact absurd rfl (nofree _ (lookup_mem (l := sc.names) h))) (fun y hy hk => .inl (hfree y hy hk)) ncell kind names
  (fun k j y h => hcap (j, y) (List.mem_of_getElem? h))
noncomputable def Sq (K : PySem.W.Frag) (H : Hp) (p : Addr) (xs : List V) : Prop := SqL K H p xs ∨ SqT K H p xs
inductive rIx2P (K : PySem.W.Frag) (x : V) (y : V) (H : Hp) (Q : VK) : Prop
 | mk (p : _) (xs : _) (i : _) (v : _) (h_0 : x = .ref p) (h_1 : y = .int i) (h_2 : Sq K H p xs) (h_3 : atI xs i = some v) (h_4 : Q v H)
noncomputable def rIx2 (K : PySem.W.Frag) : R2 := fun x y H Q => rIx2P K x y H Q
theorem ix_two {X : Cx} : IxR X (rIx2 X.K) := by
 intro value slice pins s σ H x y v u Q I rx ry h hs
 obtain ⟨p, xs, i, z, e1, e2, hq, he, q⟩ := h
 rcases hq with hq | hq
 ·exact ix_list value slice pins s σ H x y v u Q I rx ry ⟨p, xs, i, z, e1, e2, hq, he, q⟩ hs
 ·exact ix_tup value slice pins s σ H x y v u Q I rx ry ⟨p, xs, i, z, e1, e2, hq, he, q⟩ hs
end L2
namespace Tim
open PySem PyProof.Rows
noncomputable def gallop' : Bool → Keyed → Array Keyed → Nat → Nat → Nat → StateT SortSt Sem (Option Nat) := sortPriv% PySem.Builtin.gallop
noncomputable def setMinGallop' : Nat → StateT SortSt Sem Unit := sortPriv% PySem.Builtin.setMinGallop
noncomputable def mergeLo' : Array Keyed → Array Keyed → StateT SortSt Sem (Array Keyed) := sortPriv% PySem.Builtin.mergeLo
noncomputable def mergeHi' : Array Keyed → Array Keyed → StateT SortSt Sem (Array Keyed) := sortPriv% PySem.Builtin.mergeHi
noncomputable def beyond' (left : Bool) (key : Keyed) (arr : Array Keyed) (base i : Nat) : StateT SortSt Sem (Option Bool) := do
 let x ← elem' arr (base + i)
 if left then lt' x key else return (← lt' key x).map (!·)
theorem setMinGallop'_eq (g : Nat) : setMinGallop' g = modify fun s => SortSt.mk' (kindOf s) (arrOf s) (pendingOf s) g (failedOf s) := rfl
section
variable {prog : Program} {w : World} {A : Around} {E : Value → Shared → Prop} {s : Shared} {O : KeyOrd} {key : Keyed → O.α} {D : Keyed → Prop} {kd : SortKind}
noncomputable def LtOk (prog : Program) (w : World) (A : Around) (E : Value → Shared → Prop) (s : Shared) (O : KeyOrd) (key : Keyed → O.α) (D : Keyed → Prop) (kd : SortKind) : Prop :=
 ∀ (st : SortSt) (x y : Keyed) (Q : Option Bool → SortSt → Prop), D x → D y → kindOf st = kd → Q (some (O.blt (key x) (key y))) st → wpS (model prog w) A E s (lt' x y) Q st
theorem wpS_elem {arr : Array Keyed} {i : Nat} {x : Keyed} {Q : Keyed → SortSt → Prop} {st : SortSt} (hx : arr[i]? = some x) (h : Q x st) : wpS (model prog w) A E s (elem' arr i) Q st := by
 rw [elem'_eq, hx]
 exact wpS_pure h
noncomputable def bey (O : KeyOrd) (left : Bool) (x k : O.α) : Bool := if left then O.blt x k else !O.blt k x
theorem wpS_beyond (hL : LtOk prog w A E s O key D kd) {left : Bool} {k x : Keyed} {arr : Array Keyed} {base i : Nat} {Q : Option Bool → SortSt → Prop} {st : SortSt} (hk : kindOf st = kd) (hx : arr[base + i]? = some x) (dx : D x) (dk : D k)
  (h : Q (some (bey O left (key x) (key k))) st) : wpS (model prog w) A E s (beyond' left k arr base i) Q st := by
 unfold beyond'
 refine wpS_bind (wpS_elem hx ?_)
 cases left with
 | true =>
  simp only [if_true]
  exact hL st x k Q dx dk hk h
 | false =>
  simp only [Bool.false_eq_true, if_false]
  refine wpS_bind (hL st k x _ dk dx hk ?_)
  exact wpS_pure h
structure Pref (D : Keyed → Prop) (O : KeyOrd) (key : Keyed → O.α) (left : Bool) (k : Keyed) (arr : Array Keyed) (base n : Nat) (p : Nat → Bool) : Prop where
 at_ : ∀ i, i < n → ∃ x, arr[base + i]? = some x ∧ D x ∧ p i = bey O left (key x) (key k)
 anti : ∀ i j, i ≤ j → j < n → p j = true → p i = true
theorem Pref.anti' {left : Bool} {k : Keyed} {arr : Array Keyed} {base n : Nat} {p : Nat → Bool} (h : Pref D O key left k arr base n p) {i j : Nat} (hij : i ≤ j) (hj : j < n) (hp : p i = false) : p j = false := by
 cases q : p j with
 | false => rfl
 | true => rw [h.anti i j hij hj q] at hp; cases hp
noncomputable abbrev GSt := Option (Option Nat) × Nat × Nat
noncomputable def binLoop (left : Bool) (k : Keyed) (arr : Array Keyed) (base n lo hi : Nat) : StateT SortSt Sem (Option Nat) := do
 let __s ← forIn [:n] ((none, lo, hi) : GSt) fun x __s =>
  if __s.snd.fst ≥ __s.snd.snd then pure (ForInStep.done (none, __s.snd.fst, __s.snd.snd))
  else do
   let __x ← beyond' left k arr base (__s.snd.fst + (__s.snd.snd - __s.snd.fst) / 2)
   match __x with
    | some more =>
     if more = true then pure (ForInStep.yield (none, __s.snd.fst + (__s.snd.snd - __s.snd.fst) / 2 + 1, __s.snd.snd))
     else pure (ForInStep.yield (none, __s.snd.fst, __s.snd.fst + (__s.snd.snd - __s.snd.fst) / 2))
    | x => pure (ForInStep.done (some none, __s.snd.fst, __s.snd.snd))
 match __s.fst with
  | some r => pure r
  | none => pure (some __s.snd.snd)
theorem wpS_binLoop (hL : LtOk prog w A E s O key D kd) {left : Bool} {k : Keyed} {arr : Array Keyed} {base n lo hi : Nat} {p : Nat → Bool} {Q : Option Nat → SortSt → Prop} {st : SortSt} (hk : kindOf st = kd) (dk : D k) (hp : Pref D O key left k arr base n p)
  (h1 : lo ≤ hi) (h2 : hi ≤ n) (hlo : ∀ i, i < lo → p i = true) (hhi : ∀ i, hi ≤ i → i < n → p i = false) (h : ∀ m, m ≤ n → (∀ i, i < m → p i = true) → (∀ i, m ≤ i → i < n → p i = false) → Q (some m) st) :
  wpS (model prog w) A E s (binLoop left k arr base n lo hi) Q st := by
 unfold binLoop
 refine wpS_bind (wpS_mono (wpS_forRange (I := fun x c st' => st' = st ∧ ∃ lo hi, c = (none, lo, hi) ∧ lo ≤ hi ∧ hi ≤ n ∧ hi - lo ≤ n - x ∧ (∀ i, i < lo → p i = true) ∧ ∀ i, hi ≤ i → i < n → p i = false)
  (Q := fun c st' => st' = st ∧ ∃ lo hi, c = (none, lo, hi) ∧ lo = hi ∧ hi ≤ n ∧ (∀ i, i < lo → p i = true) ∧ ∀ i, hi ≤ i → i < n → p i = false) ?step ?fin ⟨rfl, lo, hi, rfl, h1, h2, by lia, hlo, hhi⟩) ?post)
 case fin =>
  rintro c st' ⟨rfl, lo, hi, rfl, g1, g2, g3, g4, g5⟩
  exact ⟨rfl, lo, hi, rfl, by lia, g2, g4, g5⟩
 case step =>
  rintro x c st' _ hx ⟨rfl, lo, hi, rfl, g1, g2, g3, g4, g5⟩
  dsimp only
  by_cases hge : lo ≥ hi
  ·rw [if_pos hge]
   exact wpS_pure ⟨rfl, lo, hi, rfl, by lia, g2, g4, g5⟩
  ·rw [if_neg hge]
   obtain ⟨y, hy, dy, ey⟩ := hp.at_ (lo + (hi - lo) / 2) (by lia)
   refine wpS_bind (wpS_beyond hL hk hy dy dk ?_)
   rw [← ey]
   dsimp only
   cases q : p (lo + (hi - lo) / 2) with
   | true =>
    rw [if_pos rfl]
    exact wpS_pure ⟨rfl, _, hi, rfl, by lia, g2, by lia, fun i hi' => hp.anti i _ (by lia) (by lia) q, g5⟩
   | false =>
    rw [if_neg Bool.false_ne_true]
    exact wpS_pure ⟨rfl, lo, _, rfl, by lia, by lia, by lia, g4, fun i h3 h4 => hp.anti' h3 h4 q⟩
 case post =>
  rintro c st' ⟨rfl, lo, hi, rfl, rfl, g2, g4, g5⟩
  exact wpS_pure (h lo g2 g4 g5)
theorem gallop_form (left : Bool) (k : Keyed) (arr : Array Keyed) (base n hint : Nat) : gallop' left k arr base n hint = (do
   let __x ← beyond' left k arr base hint
   match __x with
    | some right =>
     if right = true then do
      let __s ←
       forIn [:n] ((none, 0, 1) : GSt) fun x __s =>
         if __s.snd.snd ≥ n - hint then pure (ForInStep.done (none, __s.snd.fst, __s.snd.snd))
         else do
          let __x ← beyond' left k arr base (hint + __s.snd.snd)
          match __x with
           | some more =>
            if (!more) = true then pure (ForInStep.done (none, __s.snd.fst, __s.snd.snd))
            else pure (ForInStep.yield (none, __s.snd.snd, 2 * __s.snd.snd + 1))
           | x => pure (ForInStep.done (some none, __s.snd.fst, __s.snd.snd))
      match __s.fst with
       | some r => pure r
       | none => binLoop left k arr base n (hint + __s.snd.fst + 1) (hint + min __s.snd.snd (n - hint))
     else do
      let __s ←
       forIn [:n] ((none, 0, 1) : GSt) fun x __s =>
         if __s.snd.snd ≥ hint + 1 then pure (ForInStep.done (none, __s.snd.fst, __s.snd.snd))
         else do
          let __x ← beyond' left k arr base (hint - __s.snd.snd)
          match __x with
           | some found =>
            if found = true then pure (ForInStep.done (none, __s.snd.fst, __s.snd.snd))
            else pure (ForInStep.yield (none, __s.snd.snd, 2 * __s.snd.snd + 1))
           | x => pure (ForInStep.done (some none, __s.snd.fst, __s.snd.snd))
      match __s.fst with
       | some r => pure r
       | none => binLoop left k arr base n (hint + 1 - min __s.snd.snd (hint + 1)) (hint - __s.snd.fst)
    | x => pure none) := by
 kernel_rfl
theorem wpS_gallop (hL : LtOk prog w A E s O key D kd) {left : Bool} {k : Keyed} {arr : Array Keyed} {base n hint : Nat} {p : Nat → Bool} {Q : Option Nat → SortSt → Prop} {st : SortSt} (hk : kindOf st = kd) (dk : D k) (hp : Pref D O key left k arr base n p) (hh : hint < n)
  (h : ∀ m, m ≤ n → (∀ i, i < m → p i = true) → (∀ i, m ≤ i → i < n → p i = false) → Q (some m) st) : wpS (model prog w) A E s (gallop' left k arr base n hint) Q st := by
 rw [gallop_form]
 obtain ⟨y, hy, dy, ey⟩ := hp.at_ hint hh
 refine wpS_bind (wpS_beyond hL hk hy dy dk ?_)
 rw [← ey]
 dsimp only
 cases q : p hint with
 | true =>
  rw [if_pos rfl]
  refine wpS_bind (wpS_mono (wpS_forRange (I := fun x c st' => st' = st ∧ ∃ l o, c = (none, l, o) ∧ l < o ∧ x + 1 ≤ o ∧ hint + l < n ∧ p (hint + l) = true)
   (Q := fun c st' => st' = st ∧ ∃ l o, c = (none, l, o) ∧ l < o ∧ hint + l < n ∧ p (hint + l) = true ∧ (n - hint ≤ o ∨ (hint + o < n ∧ p (hint + o) = false))) ?step ?fin ⟨rfl, 0, 1, rfl, by lia, by lia, by lia, q⟩) ?post)
  case fin =>
   rintro c st' ⟨rfl, l, o, rfl, g1, g2, g3, g4⟩
   exact ⟨rfl, l, o, rfl, g1, g3, g4, .inl (by lia)⟩
  case step =>
   rintro x c st' _ hx ⟨rfl, l, o, rfl, g1, g2, g3, g4⟩
   dsimp only
   by_cases hge : o ≥ n - hint
   ·rw [if_pos hge]
    exact wpS_pure ⟨rfl, l, o, rfl, g1, g3, g4, .inl hge⟩
   ·rw [if_neg hge]
    obtain ⟨y, hy, dy, ey⟩ := hp.at_ (hint + o) (by lia)
    refine wpS_bind (wpS_beyond hL hk hy dy dk ?_)
    rw [← ey]
    dsimp only
    cases q2 : p (hint + o) with
    | true =>
     rw [if_neg (by simp)]
     exact wpS_pure ⟨rfl, o, 2 * o + 1, rfl, by lia, by lia, by lia, q2⟩
    | false =>
     rw [if_pos (by simp)]
     exact wpS_pure ⟨rfl, l, o, rfl, g1, g3, g4, .inr ⟨by lia, q2⟩⟩
  case post =>
   rintro c st' ⟨rfl, l, o, rfl, g1, g3, g4, g5⟩
   dsimp only
   refine wpS_binLoop hL hk dk hp (by lia) (by lia) (fun i hi => hp.anti i (hint + l) (by lia) g3 g4) (fun i h3 h4 => ?_) h
   rcases g5 with g5 | ⟨g5, g6⟩
   ·lia
   ·exact hp.anti' (i := hint + o) (by lia) h4 g6
 | false =>
  rw [if_neg Bool.false_ne_true]
  refine wpS_bind (wpS_mono (wpS_forRange (I := fun x c st' => st' = st ∧ ∃ l o, c = (none, l, o) ∧ l < o ∧ x + 1 ≤ o ∧ l ≤ hint ∧ p (hint - l) = false)
   (Q := fun c st' => st' = st ∧ ∃ l o, c = (none, l, o) ∧ l < o ∧ l ≤ hint ∧ p (hint - l) = false ∧ (hint + 1 ≤ o ∨ (o ≤ hint ∧ p (hint - o) = true))) ?step2 ?fin2 ⟨rfl, 0, 1, rfl, by lia, by lia, by lia, q⟩) ?post2)
  case fin2 =>
   rintro c st' ⟨rfl, l, o, rfl, g1, g2, g3, g4⟩
   exact ⟨rfl, l, o, rfl, g1, g3, g4, .inl (by lia)⟩
  case step2 =>
   rintro x c st' _ hx ⟨rfl, l, o, rfl, g1, g2, g3, g4⟩
   dsimp only
   by_cases hge : o ≥ hint + 1
   ·rw [if_pos hge]
    exact wpS_pure ⟨rfl, l, o, rfl, g1, g3, g4, .inl hge⟩
   ·rw [if_neg hge]
    obtain ⟨y, hy, dy, ey⟩ := hp.at_ (hint - o) (by lia)
    refine wpS_bind (wpS_beyond hL hk hy dy dk ?_)
    rw [← ey]
    dsimp only
    cases q2 : p (hint - o) with
    | true =>
     rw [if_pos rfl]
     exact wpS_pure ⟨rfl, l, o, rfl, g1, g3, g4, .inr ⟨by lia, q2⟩⟩
    | false =>
     rw [if_neg Bool.false_ne_true]
     exact wpS_pure ⟨rfl, o, 2 * o + 1, rfl, by lia, by lia, by lia, q2⟩
  case post2 =>
   rintro c st' ⟨rfl, l, o, rfl, g1, g3, g4, g5⟩
   dsimp only
   refine wpS_binLoop hL hk dk hp (by lia) (by lia) (fun i hi => ?_) (fun i h3 h4 => hp.anti' (i := hint - l) (by lia) h4 g4) h
   rcases g5 with g5 | ⟨g5, g6⟩
   ·lia
   ·exact hp.anti i (hint - o) (by lia) (by lia) g6
end
section
variable {O : KeyOrd} {key : Keyed → O.α}
noncomputable def Le (O : KeyOrd) (key : Keyed → O.α) (x y : Keyed) : Prop := O.kle (key x) (key y)
theorem Le.trans {x y z : Keyed} (h : Le O key x y) (k : Le O key y z) : Le O key x z := KeyOrd.kle_trans h k
structure MI (O : KeyOrd) (key : Keyed → O.α) (al bl out : List Keyed) (ia ib : Nat) : Prop where
 perm : (out ++ al.drop ia ++ bl.drop ib).Perm (al ++ bl)
 srt : out.Pairwise (Le O key)
 ba : ∀ x ∈ out, ∀ y ∈ al.drop ia, Le O key x y
 bb : ∀ x ∈ out, ∀ y ∈ bl.drop ib, Le O key x y
noncomputable def Merged (O : KeyOrd) (key : Keyed → O.α) (al bl res : List Keyed) : Prop := res.Perm (al ++ bl) ∧ res.Pairwise (Le O key)
theorem MI.bulkA {al bl out : List Keyed} {ia ib k : Nat} (M : MI O key al bl out ia ib) (sa : al.Pairwise (Le O key)) (hx : ∀ x ∈ (al.drop ia).take k, ∀ y ∈ bl.drop ib, Le O key x y) : MI O key al bl (out ++ (al.drop ia).take k) (ia + k) ib := by
 have e : al.drop (ia + k) = (al.drop ia).drop k := by rw [List.drop_drop]
 have sd : (al.drop ia).Pairwise (Le O key) := sa.sublist (List.drop_sublist _ _)
 have sp := sd
 rw [← List.take_append_drop k (al.drop ia)] at sp
 obtain ⟨p1, p2, p3⟩ := List.pairwise_append.mp sp
 have sub : ∀ y, y ∈ (al.drop ia).drop k → y ∈ al.drop ia := fun y hy => List.mem_of_mem_drop hy
 refine ⟨?_, List.pairwise_append.mpr ⟨M.srt, p1, fun x hx y hy => M.ba x hx y (List.mem_of_mem_take hy)⟩, fun x hx' y hy => ?_, fun x hx' y hy => ?_⟩
 ·rw [e, List.append_assoc out, List.take_append_drop]
  exact M.perm
 ·rw [e] at hy
  rcases List.mem_append.mp hx' with z | z
  ·exact M.ba x z y (sub y hy)
  ·exact p3 x z y hy
 ·rcases List.mem_append.mp hx' with z | z
  ·exact M.bb x z y hy
  ·exact hx x z y hy
theorem MI.bulkB {al bl out : List Keyed} {ia ib k : Nat} (M : MI O key al bl out ia ib) (sb : bl.Pairwise (Le O key)) (hx : ∀ x ∈ (bl.drop ib).take k, ∀ y ∈ al.drop ia, Le O key x y) : MI O key al bl (out ++ (bl.drop ib).take k) ia (ib + k) := by
 have e : bl.drop (ib + k) = (bl.drop ib).drop k := by rw [List.drop_drop]
 have sd : (bl.drop ib).Pairwise (Le O key) := sb.sublist (List.drop_sublist _ _)
 have sp := sd
 rw [← List.take_append_drop k (bl.drop ib)] at sp
 obtain ⟨p1, p2, p3⟩ := List.pairwise_append.mp sp
 refine ⟨?_, List.pairwise_append.mpr ⟨M.srt, p1, fun x hx y hy => M.bb x hx y (List.mem_of_mem_take hy)⟩, fun x hx' y hy => ?_, fun x hx' y hy => ?_⟩
 ·rw [e]
  refine List.Perm.trans ?_ M.perm
  conv => rhs; rw [← List.take_append_drop k (bl.drop ib)]
  rw [List.append_assoc out, List.append_assoc out, List.append_assoc out, ← List.append_assoc ((al.drop ia))]
  exact List.Perm.append_left _ (List.Perm.append_right _ List.perm_append_comm)
 ·rcases List.mem_append.mp hx' with z | z
  ·exact M.ba x z y hy
  ·exact hx x z y hy
 ·rw [e] at hy
  rcases List.mem_append.mp hx' with z | z
  ·exact M.bb x z y (List.mem_of_mem_drop hy)
  ·exact p3 x z y hy
theorem MI.doneB {al bl out : List Keyed} {ia ib : Nat} (M : MI O key al bl out ia ib) (sa : al.Pairwise (Le O key)) (h : bl.length ≤ ib) : Merged O key al bl (out ++ al.drop ia ++ bl.drop ib) := by
 have e : bl.drop ib = [] := List.drop_eq_nil_of_le h
 refine ⟨M.perm, ?_⟩
 rw [e, List.append_nil]
 exact List.pairwise_append.mpr ⟨M.srt, sa.sublist (List.drop_sublist _ _), M.ba⟩
theorem MI.doneA {al bl out : List Keyed} {ia ib : Nat} (M : MI O key al bl out ia ib) (sb : bl.Pairwise (Le O key)) (h : al.length ≤ ia) : Merged O key al bl (out ++ al.drop ia ++ bl.drop ib) := by
 have e : al.drop ia = [] := List.drop_eq_nil_of_le h
 refine ⟨M.perm, ?_⟩
 rw [e, List.append_nil]
 exact List.pairwise_append.mpr ⟨M.srt, sb.sublist (List.drop_sublist _ _), M.bb⟩
theorem MI.lastA {al bl out : List Keyed} {ia ib : Nat} (M : MI O key al bl out ia ib) (sa : al.Pairwise (Le O key)) (sb : bl.Pairwise (Le O key)) (h2 : ∀ x ∈ bl, ∀ y ∈ al.drop ia, Le O key x y) : Merged O key al bl (out ++ bl.drop ib ++ al.drop ia) := by
 refine ⟨?_, ?_⟩
 ·refine List.Perm.trans ?_ M.perm
  rw [List.append_assoc, List.append_assoc]
  exact List.Perm.append_left _ List.perm_append_comm
 ·refine List.pairwise_append.mpr ⟨List.pairwise_append.mpr ⟨M.srt, sb.sublist (List.drop_sublist _ _), M.bb⟩, sa.sublist (List.drop_sublist _ _), fun x hx y hy => ?_⟩
  rcases List.mem_append.mp hx with z | z
  ·exact M.ba x z y hy
  ·exact h2 x (List.mem_of_mem_drop z) y hy
end
noncomputable abbrev MSt := Option (Array Keyed) × Array Keyed × Nat × Nat × Nat
noncomputable abbrev MSt1 := Option (Array Keyed) × Array Keyed × Nat × Nat × Nat × Nat
noncomputable abbrev MSt2 := Option (Array Keyed) × Array Keyed × Nat × Nat × Nat × Nat × Nat
noncomputable def loA (a b out : Array Keyed) (ia ib mg k k1 : Nat) : StateT SortSt Sem (ForInStep MSt2) := do
 let x ← elem' a ia
 if (ia + 1 + 1 == a.size) = true then pure (ForInStep.done (some (out.push x ++ b.extract ib b.size ++ a.extract (ia + 1) a.size), out.push x, ia + 1, ib, mg, k, k1))
 else if (decide (k < 7) && decide (k1 < 7)) = true then pure (ForInStep.done (none, out.push x, ia + 1, ib, mg, k, k1))
 else pure (ForInStep.yield (none, out.push x, ia + 1, ib, mg, k, k1))
noncomputable def loB (a b out : Array Keyed) (ia ib mg k bc : Nat) : StateT SortSt Sem (ForInStep MSt2) := do
 let x ← elem' b ib
 if (ib + 1 == b.size) = true then pure (ForInStep.done (some (out.push x ++ a.extract ia a.size ++ b.extract (ib + 1) b.size), out.push x, ia, ib + 1, mg, k, bc))
 else do
  let y ← elem' a ia
  let __x ← gallop' true y b (ib + 1) (b.size - (ib + 1)) 0
  match __x with
   | some k1 =>
    if k1 > 0 then
     if (ib + 1 + k1 == b.size) = true then pure (ForInStep.done (some (out.push x ++ b.extract (ib + 1) (ib + 1 + k1) ++ a.extract ia a.size ++ b.extract (ib + 1 + k1) b.size), out.push x ++ b.extract (ib + 1) (ib + 1 + k1), ia, ib + 1 + k1, mg, k, k1))
     else loA a b (out.push x ++ b.extract (ib + 1) (ib + 1 + k1)) ia (ib + 1 + k1) mg k k1
    else loA a b (out.push x) ia (ib + 1) mg k k1
   | x1 => pure (ForInStep.done (some (out.push x ++ a.extract ia a.size ++ b.extract (ib + 1) b.size), out.push x, ia, ib + 1, mg, k, bc))
noncomputable def loG (a b out : Array Keyed) (ia ib mg ac bc : Nat) : StateT SortSt Sem (ForInStep MSt2) := do
 setMinGallop' mg
 let x ← elem' b ib
 let __x ← gallop' false x a ia (a.size - ia) 0
 match __x with
  | some k =>
   if k > 0 then
    if (ia + k + 1 == a.size) = true then pure (ForInStep.done (some (out ++ a.extract ia (ia + k) ++ b.extract ib b.size ++ a.extract (ia + k) a.size), out ++ a.extract ia (ia + k), ia + k, ib, mg, k, bc))
    else if (ia + k == a.size) = true then pure (ForInStep.done (some (out ++ a.extract ia (ia + k) ++ a.extract (ia + k) a.size ++ b.extract ib b.size), out ++ a.extract ia (ia + k), ia + k, ib, mg, k, bc))
    else loB a b (out ++ a.extract ia (ia + k)) (ia + k) ib mg k bc
   else loB a b out ia ib mg k bc
  | x1 => pure (ForInStep.done (some (out ++ a.extract ia a.size ++ b.extract ib b.size), out, ia, ib, mg, ac, bc))
noncomputable def loOne (a b : Array Keyed) (mg : Nat) (t : MSt1) : StateT SortSt Sem (ForInStep MSt1) := do
 let y ← elem' b t.snd.snd.snd.fst
 let x ← elem' a t.snd.snd.fst
 let __x ← lt' y x
 match __x with
  | some bWins =>
   if bWins = true then do
    let z ← elem' b t.snd.snd.snd.fst
    if (t.snd.snd.snd.fst + 1 == b.size) = true then pure (ForInStep.done (some (t.snd.fst.push z ++ a.extract t.snd.snd.fst a.size ++ b.extract (t.snd.snd.snd.fst + 1) b.size), t.snd.fst.push z, t.snd.snd.fst, t.snd.snd.snd.fst + 1, 0, t.snd.snd.snd.snd.snd + 1))
    else if t.snd.snd.snd.snd.snd + 1 ≥ mg then pure (ForInStep.done (none, t.snd.fst.push z, t.snd.snd.fst, t.snd.snd.snd.fst + 1, 0, t.snd.snd.snd.snd.snd + 1))
    else pure (ForInStep.yield (none, t.snd.fst.push z, t.snd.snd.fst, t.snd.snd.snd.fst + 1, 0, t.snd.snd.snd.snd.snd + 1))
   else do
    let z ← elem' a t.snd.snd.fst
    if (t.snd.snd.fst + 1 + 1 == a.size) = true then pure (ForInStep.done (some (t.snd.fst.push z ++ b.extract t.snd.snd.snd.fst b.size ++ a.extract (t.snd.snd.fst + 1) a.size), t.snd.fst.push z, t.snd.snd.fst + 1, t.snd.snd.snd.fst, t.snd.snd.snd.snd.fst + 1, 0))
    else if t.snd.snd.snd.snd.fst + 1 ≥ mg then pure (ForInStep.done (none, t.snd.fst.push z, t.snd.snd.fst + 1, t.snd.snd.snd.fst, t.snd.snd.snd.snd.fst + 1, 0))
    else pure (ForInStep.yield (none, t.snd.fst.push z, t.snd.snd.fst + 1, t.snd.snd.snd.fst, t.snd.snd.snd.snd.fst + 1, 0))
  | x1 => pure (ForInStep.done (some (t.snd.fst ++ a.extract t.snd.snd.fst a.size ++ b.extract t.snd.snd.snd.fst b.size), t.snd.fst, t.snd.snd.fst, t.snd.snd.snd.fst, t.snd.snd.snd.snd.fst, t.snd.snd.snd.snd.snd))
noncomputable def loTurn (a b : Array Keyed) (t : MSt) : StateT SortSt Sem (ForInStep MSt) := do
 let u ← forIn [:a.size + b.size] ((none, t.snd.fst, t.snd.snd.fst, t.snd.snd.snd.fst, 0, 0) : MSt1) fun _ v => loOne a b t.snd.snd.snd.snd v
 match u.fst with
  | some r => pure (ForInStep.done (some r, u.snd.fst, u.snd.snd.fst, u.snd.snd.snd.fst, t.snd.snd.snd.snd))
  | none => do
   liftM (rule "list.sort.gallop")
   let v ← forIn [:a.size + b.size] ((none, u.snd.fst, u.snd.snd.fst, u.snd.snd.snd.fst, t.snd.snd.snd.snd + 1, u.snd.snd.snd.snd.fst, u.snd.snd.snd.snd.snd) : MSt2) fun _ v =>
    if v.snd.snd.snd.snd.fst > 1 then loG a b v.snd.fst v.snd.snd.fst v.snd.snd.snd.fst (v.snd.snd.snd.snd.fst - 1) v.snd.snd.snd.snd.snd.fst v.snd.snd.snd.snd.snd.snd
    else loG a b v.snd.fst v.snd.snd.fst v.snd.snd.snd.fst v.snd.snd.snd.snd.fst v.snd.snd.snd.snd.snd.fst v.snd.snd.snd.snd.snd.snd
   match v.fst with
    | some r => pure (ForInStep.done (some r, v.snd.fst, v.snd.snd.fst, v.snd.snd.snd.fst, v.snd.snd.snd.snd.fst))
    | none => do
     setMinGallop' (v.snd.snd.snd.snd.fst + 1)
     pure (ForInStep.yield (none, v.snd.fst, v.snd.snd.fst, v.snd.snd.snd.fst, v.snd.snd.snd.snd.fst + 1))
theorem mergeLo_form (a b : Array Keyed) : mergeLo' a b = (do
 liftM (rule "list.sort.merge-lo")
 let x ← elem' b 0
 if (1 == b.size) = true then pure (#[x] ++ a.extract 0 a.size ++ b.extract 1 b.size)
 else if (0 + 1 == a.size) = true then pure (#[x] ++ b.extract 1 b.size ++ a.extract 0 a.size)
 else do
  let st ← get
  let t ← forIn [:a.size + b.size] ((none, #[x], 0, 1, gallopOf st) : MSt) fun _ t => loTurn a b t
  match t.fst with
   | some r => pure r
   | none => liftM (unsupported "internal:list.sort.merge-bound" : Sem (Array Keyed))) := by
 kernel_rfl
section
variable {prog : Program} {w : World} {A : Around} {E : Value → Shared → Prop} {s : Shared} {O : KeyOrd} {key : Keyed → O.α} {D : Keyed → Prop} {kd : SortKind}
noncomputable def Seg (O : KeyOrd) (key : Keyed → O.α) (arr : Array Keyed) (lo hi : Nat) : Prop := ∀ (i j : Nat) (x y : Keyed), lo ≤ i → i ≤ j → j < hi → arr[i]? = some x → arr[j]? = some y → Le O key x y
theorem seg_of {arr : Array Keyed} (h : arr.toList.Pairwise (Le O key)) : Seg O key arr 0 arr.size := by
 intro i j x y _ hij hj hx hy
 by_cases e : i = j
 ·subst e
  rw [hx] at hy
  cases hy
  exact KeyOrd.kle_refl _
 ·have hx' : arr.toList[i]? = some x := by rw [Array.getElem?_toList]; exact hx
  have hy' : arr.toList[j]? = some y := by rw [Array.getElem?_toList]; exact hy
  obtain ⟨h1, e1⟩ := List.getElem?_eq_some_iff.mp hx'
  obtain ⟨h2, e2⟩ := List.getElem?_eq_some_iff.mp hy'
  have := List.pairwise_iff_getElem.mp h i j h1 h2 (by lia)
  rw [e1, e2] at this
  exact this
theorem Seg.mono {arr : Array Keyed} {lo hi lo' hi' : Nat} (h : Seg O key arr lo hi) (h1 : lo ≤ lo') (h2 : hi' ≤ hi) : Seg O key arr lo' hi' := fun i j x y a b c => h i j x y (by lia) b (by lia)
theorem bey_mono {left : Bool} {x y k : O.α} (h : O.kle x y) (q : bey O left y k = true) : bey O left x k = true := by
 cases left with
 | true =>
  have q : O.klt y k := q
  exact KeyOrd.klt_of_kle_of_klt h q
 | false =>
  have q : (!O.blt k y) = true := q
  have q : O.kle y k := by unfold KeyOrd.kle; simpa using q
  have : O.kle x k := KeyOrd.kle_trans h q
  show (!O.blt k x) = true
  unfold KeyOrd.kle at this
  rw [this]
  rfl
noncomputable def itemAt (arr : Array Keyed) (i : Nat) : Keyed := (arr[i]?).getD (.none, .none)
theorem itemAt_eq {arr : Array Keyed} {i : Nat} {x : Keyed} (h : arr[i]? = some x) : itemAt arr i = x := by unfold itemAt; rw [h]; rfl
theorem at_lt {arr : Array Keyed} {i : Nat} (h : i < arr.size) : arr[i]? = some (itemAt arr i) := by
 unfold itemAt
 rw [Array.getElem?_eq_getElem h]
 rfl
theorem lt_at {arr : Array Keyed} {i : Nat} {x : Keyed} (h : arr[i]? = some x) : i < arr.size := by
 rcases Nat.lt_or_ge i arr.size with z | z
 ·exact z
 ·rw [Array.getElem?_eq_none z] at h; cases h
theorem mem_at {arr : Array Keyed} {i : Nat} {x : Keyed} (h : arr[i]? = some x) : x ∈ arr.toList := by
 rw [← Array.getElem?_toList] at h
 exact List.mem_of_getElem? h
theorem pref_of {arr : Array Keyed} {left : Bool} {k : Keyed} {base n : Nat} (hs : Seg O key arr base (base + n)) (hd : ∀ x ∈ arr.toList, D x) (hn : base + n ≤ arr.size) : Pref D O key left k arr base n (fun i => bey O left (key (itemAt arr (base + i))) (key k)) where
 at_ := fun i hi => ⟨_, at_lt (by lia), hd _ (mem_at (at_lt (by lia))), rfl⟩
 anti := fun i j hij hj h => bey_mono (hs (base + i) (base + j) _ _ (by lia) (by lia) (by lia) (at_lt (by lia)) (at_lt (by lia))) h
noncomputable def Eqv (st st' : SortSt) : Prop := kindOf st' = kindOf st ∧ arrOf st' = arrOf st ∧ pendingOf st' = pendingOf st ∧ failedOf st' = failedOf st
theorem Eqv.refl (st : SortSt) : Eqv st st := ⟨rfl, rfl, rfl, rfl⟩
theorem Eqv.set {st st' : SortSt} (h : Eqv st st') (g : Nat) : Eqv st (SortSt.mk' (kindOf st') (arrOf st') (pendingOf st') g (failedOf st')) := h
structure Two (O : KeyOrd) (key : Keyed → O.α) (D : Keyed → Prop) (a b : Array Keyed) : Prop where
 da : ∀ x ∈ a.toList, D x
 db : ∀ x ∈ b.toList, D x
 sa : a.toList.Pairwise (Le O key)
 sb : b.toList.Pairwise (Le O key)
 h1 : ∀ x y, a[0]? = some x → b[0]? = some y → Le O key y x
 h2 : ∀ x ∈ b.toList, ∀ y, a[a.size - 1]? = some y → Le O key x y
 na : 1 ≤ a.size
 nb : 1 ≤ b.size
theorem mem_drop_at {l : List Keyed} {i : Nat} {y : Keyed} (h : y ∈ l.drop i) : ∃ j, i ≤ j ∧ l[j]? = some y := by
 obtain ⟨j, hj⟩ := List.getElem?_of_mem h
 rw [List.getElem?_drop] at hj
 exact ⟨i + j, by lia, hj⟩
theorem Two.last {a b : Array Keyed} (t : Two O key D a b) {ia : Nat} (h : ia + 1 = a.size) : ∀ x ∈ b.toList, ∀ y ∈ a.toList.drop ia, Le O key x y := by
 intro x hx y hy
 obtain ⟨j, hj, e⟩ := mem_drop_at hy
 rw [Array.getElem?_toList] at e
 have := lt_at e
 have : j = a.size - 1 := by lia
 subst this
 exact t.h2 x hx y e
theorem seg_drop {arr : Array Keyed} (hs : arr.toList.Pairwise (Le O key)) {i : Nat} {x : Keyed} (hx : arr[i]? = some x) : ∀ y ∈ arr.toList.drop i, Le O key x y := by
 intro y hy
 obtain ⟨j, hj, e⟩ := mem_drop_at hy
 rw [Array.getElem?_toList] at e
 exact seg_of hs i j x y (Nat.zero_le _) hj (lt_at e) hx e
theorem take_one {arr : Array Keyed} {i : Nat} {x : Keyed} (hx : arr[i]? = some x) : (arr.toList.drop i).take 1 = [x] := by
 have h : arr.toList[i]? = some x := by rw [Array.getElem?_toList]; exact hx
 obtain ⟨h1, h2⟩ := List.getElem?_eq_some_iff.mp h
 rw [List.drop_eq_getElem_cons h1, h2]
 rfl
theorem MI.oneA {a b : Array Keyed} {out : List Keyed} {ia ib : Nat} {x y : Keyed} (t : Two O key D a b) (M : MI O key a.toList b.toList out ia ib) (hx : a[ia]? = some x) (hy : b[ib]? = some y) (h : Le O key x y) : MI O key a.toList b.toList (out ++ [x]) (ia + 1) ib := by
 have := M.bulkA (k := 1) t.sa (fun z hz u hu => by
  rw [take_one hx] at hz
  have : z = x := by simpa using hz
  subst this
  exact h.trans (seg_drop t.sb hy u hu))
 rw [take_one hx] at this
 exact this
theorem MI.oneB {a b : Array Keyed} {out : List Keyed} {ia ib : Nat} {x y : Keyed} (t : Two O key D a b) (M : MI O key a.toList b.toList out ia ib) (hx : a[ia]? = some x) (hy : b[ib]? = some y) (h : Le O key y x) : MI O key a.toList b.toList (out ++ [y]) ia (ib + 1) := by
 have := M.bulkB (k := 1) t.sb (fun z hz u hu => by
  rw [take_one hy] at hz
  have : z = y := by simpa using hz
  subst this
  exact h.trans (seg_drop t.sa hx u hu))
 rw [take_one hy] at this
 exact this
theorem toL_extract (a : Array Keyed) (i k : Nat) : (a.extract i (i + k)).toList = (a.toList.drop i).take k := by
 rw [Array.toList_extract]
 show (a.toList.drop i).take (i + k - i) = _
 congr 1
 lia
theorem toL_rest (a : Array Keyed) (i : Nat) : (a.extract i a.size).toList = a.toList.drop i := by
 rw [Array.toList_extract]
 show (a.toList.drop i).take (a.size - i) = _
 refine List.take_of_length_le ?_
 rw [List.length_drop, Array.length_toList]
 exact Nat.le_refl _
noncomputable abbrev Mg (O : KeyOrd) (key : Keyed → O.α) (a b res : Array Keyed) : Prop := Merged O key a.toList b.toList res.toList
theorem MI.endB {a b out : Array Keyed} {ia ib : Nat} (t : Two O key D a b) (M : MI O key a.toList b.toList out.toList ia ib) (h : ib = b.size) : Mg O key a b (out ++ a.extract ia a.size ++ b.extract ib b.size) := by
 show Merged _ _ _ _ (Array.toList _)
 rw [Array.toList_append, Array.toList_append, toL_rest, toL_rest]
 exact M.doneB t.sa (by rw [Array.length_toList]; lia)
theorem MI.endA {a b out : Array Keyed} {ia ib : Nat} (t : Two O key D a b) (M : MI O key a.toList b.toList out.toList ia ib) (h : ia = a.size) : Mg O key a b (out ++ a.extract ia a.size ++ b.extract ib b.size) := by
 show Merged _ _ _ _ (Array.toList _)
 rw [Array.toList_append, Array.toList_append, toL_rest, toL_rest]
 exact M.doneA t.sb (by rw [Array.length_toList]; lia)
theorem MI.endL {a b out : Array Keyed} {ia ib : Nat} (t : Two O key D a b) (M : MI O key a.toList b.toList out.toList ia ib) (h : ia + 1 = a.size) : Mg O key a b (out ++ b.extract ib b.size ++ a.extract ia a.size) := by
 show Merged _ _ _ _ (Array.toList _)
 rw [Array.toList_append, Array.toList_append, toL_rest, toL_rest]
 exact M.lastA t.sa t.sb (t.last h)
structure LH (O : KeyOrd) (key : Keyed → O.α) (a b out : Array Keyed) (ia ib : Nat) : Prop where
 mi : MI O key a.toList b.toList out.toList ia ib
 la : ia + 1 < a.size
 lb : ib < b.size
noncomputable def P1 (O : KeyOrd) (key : Keyed → O.α) (a b : Array Keyed) (n : Nat) (c : MSt1) : Prop := ∃ out ia ib ac bc, c = (none, out, ia, ib, ac, bc) ∧ LH O key a b out ia ib ∧ n ≤ ia + ib
noncomputable def R1 (O : KeyOrd) (key : Keyed → O.α) (a b : Array Keyed) (c : MSt1) : Prop := ∃ res r, c = (some res, r) ∧ Mg O key a b res
theorem push_list (out : Array Keyed) (x : Keyed) : (out.push x).toList = out.toList ++ [x] := by simp
theorem wpS_loOne (hL : LtOk prog w A E s O key D kd) {a b : Array Keyed} (t : Two O key D a b) {mg n : Nat} {c : MSt1} {st : SortSt} (hk : kindOf st = kd) (h : P1 O key a b n c) :
  wpS (model prog w) A E s (loOne a b mg c) (fun r st' => st' = st ∧ match r with | .done c' => P1 O key a b (n + 1) c' ∨ R1 O key a b c' | .yield c' => P1 O key a b (n + 1) c') st := by
 obtain ⟨out, ia, ib, ac, bc, rfl, H, hn⟩ := h
 have hx := at_lt (arr := a) (i := ia) (by have := H.la; lia)
 have hy := at_lt (arr := b) (i := ib) H.lb
 unfold loOne
 dsimp only
 refine wpS_bind (wpS_elem hy (wpS_bind (wpS_elem hx (wpS_bind (hL st _ _ _ (t.db _ (mem_at hy)) (t.da _ (mem_at hx)) hk ?_)))))
 dsimp only
 cases q : O.blt (key (itemAt b ib)) (key (itemAt a ia)) with
 | true =>
  rw [if_pos rfl]
  refine wpS_bind (wpS_elem hy ?_)
  have M : MI O key a.toList b.toList (out.push (itemAt b ib)).toList ia (ib + 1) := by rw [push_list]; exact MI.oneB t H.mi hx hy (KeyOrd.kle_of_klt q)
  by_cases e : ib + 1 = b.size
  ·rw [if_pos (by simpa using e)]
   exact wpS_pure ⟨rfl, .inr ⟨_, _, rfl, MI.endB t M e⟩⟩
  ·rw [if_neg (by simpa using e)]
   have G : P1 O key a b (n + 1) (none, out.push (itemAt b ib), ia, ib + 1, 0, bc + 1) := ⟨_, _, _, _, _, rfl, ⟨M, H.la, by have := H.lb; lia⟩, by lia⟩
   split
   ·exact wpS_pure ⟨rfl, .inl G⟩
   ·exact wpS_pure ⟨rfl, G⟩
 | false =>
  rw [if_neg Bool.false_ne_true]
  refine wpS_bind (wpS_elem hx ?_)
  have M : MI O key a.toList b.toList (out.push (itemAt a ia)).toList (ia + 1) ib := by rw [push_list]; exact MI.oneA t H.mi hx hy q
  by_cases e : ia + 1 + 1 = a.size
  ·rw [if_pos (by simpa using e)]
   exact wpS_pure ⟨rfl, .inr ⟨_, _, rfl, MI.endL t M e⟩⟩
  ·rw [if_neg (by simpa using e)]
   have G : P1 O key a b (n + 1) (none, out.push (itemAt a ia), ia + 1, ib, ac + 1, 0) := ⟨_, _, _, _, _, rfl, ⟨M, by have := H.la; lia, H.lb⟩, by lia⟩
   split
   ·exact wpS_pure ⟨rfl, .inl G⟩
   ·exact wpS_pure ⟨rfl, G⟩
noncomputable def P2 (O : KeyOrd) (key : Keyed → O.α) (a b : Array Keyed) (n : Nat) (c : MSt2) : Prop := ∃ out ia ib mg ac bc, c = (none, out, ia, ib, mg, ac, bc) ∧ LH O key a b out ia ib ∧ n ≤ ia + ib
noncomputable def R2' (O : KeyOrd) (key : Keyed → O.α) (a b : Array Keyed) (c : MSt2) : Prop := ∃ res r, c = (some res, r) ∧ Mg O key a b res
noncomputable def T2 (O : KeyOrd) (key : Keyed → O.α) (a b : Array Keyed) (n : Nat) (st : SortSt) (r : ForInStep MSt2) (st' : SortSt) : Prop := Eqv st st' ∧ match r with | .done c' => P2 O key a b n c' ∨ R2' O key a b c' | .yield c' => P2 O key a b n c'
theorem wpS_loA {a b out : Array Keyed} (t : Two O key D a b) {ia ib mg k k1 n : Nat} {st st0 : SortSt} (hv : Eqv st0 st) (M : MI O key a.toList b.toList out.toList ia ib) (la : ia + 1 < a.size) (lb : ib < b.size) (hle : Le O key (itemAt a ia) (itemAt b ib)) (hn : n ≤ ia + ib) :
  wpS (model prog w) A E s (loA a b out ia ib mg k k1) (T2 O key a b n st0) st := by
 have hx := at_lt (arr := a) (i := ia) (by lia)
 have hy := at_lt (arr := b) (i := ib) lb
 unfold loA
 refine wpS_bind (wpS_elem hx ?_)
 have M' : MI O key a.toList b.toList (out.push (itemAt a ia)).toList (ia + 1) ib := by rw [push_list]; exact MI.oneA t M hx hy hle
 by_cases e : ia + 1 + 1 = a.size
 ·rw [if_pos (by simpa using e)]
  exact wpS_pure ⟨hv, .inr ⟨_, _, rfl, MI.endL t M' e⟩⟩
 ·rw [if_neg (by simpa using e)]
  have G : P2 O key a b n (none, out.push (itemAt a ia), ia + 1, ib, mg, k, k1) := ⟨_, _, _, _, _, _, rfl, ⟨M', by lia, lb⟩, by lia⟩
  split
  ·exact wpS_pure ⟨hv, .inl G⟩
  ·exact wpS_pure ⟨hv, G⟩
theorem wpS_loB (hL : LtOk prog w A E s O key D kd) {a b out : Array Keyed} (t : Two O key D a b) {ia ib mg k bc n : Nat} {st st0 : SortSt} (hk : kindOf st = kd) (hv : Eqv st0 st) (M : MI O key a.toList b.toList out.toList ia ib) (la : ia + 1 < a.size) (lb : ib < b.size) (hle : Le O key (itemAt b ib) (itemAt a ia)) (hn : n ≤ ia + ib) :
  wpS (model prog w) A E s (loB a b out ia ib mg k bc) (T2 O key a b n st0) st := by
 have hx := at_lt (arr := a) (i := ia) (by lia)
 have hy := at_lt (arr := b) (i := ib) lb
 unfold loB
 refine wpS_bind (wpS_elem hy ?_)
 have M' : MI O key a.toList b.toList (out.push (itemAt b ib)).toList ia (ib + 1) := by rw [push_list]; exact MI.oneB t M hx hy hle
 by_cases e : ib + 1 = b.size
 ·rw [if_pos (by simpa using e)]
  exact wpS_pure ⟨hv, .inr ⟨_, _, rfl, MI.endB t M' e⟩⟩
 ·rw [if_neg (by simpa using e)]
  refine wpS_bind (wpS_elem hx (wpS_bind (wpS_gallop hL hk (t.da _ (mem_at hx)) (pref_of (base := ib + 1) (n := b.size - (ib + 1)) ((seg_of t.sb).mono (Nat.zero_le _) (by lia)) t.db (by lia)) (by lia) fun k1 hk1 g1 g2 => ?_)))
  dsimp only
  -- the items that the gallop passes
  have hb : ∀ z ∈ (b.toList.drop (ib + 1)).take k1, ∀ u ∈ a.toList.drop ia, Le O key z u := by
   intro z hz u hu
   obtain ⟨i, hi⟩ := List.getElem?_of_mem hz
   have hik : i < k1 := by
    have := (List.getElem?_eq_some_iff.mp hi).1
    rw [List.length_take] at this
    lia
   rw [List.getElem?_take, if_pos hik, List.getElem?_drop, Array.getElem?_toList] at hi
   have p := g1 i hik
   rw [itemAt_eq hi] at p
   have p : O.klt (key z) (key (itemAt a ia)) := p
   exact Le.trans (y := itemAt a ia) (KeyOrd.kle_of_klt p) (seg_drop t.sa hx u hu)
  have M2 : MI O key a.toList b.toList (out.push (itemAt b ib) ++ b.extract (ib + 1) (ib + 1 + k1)).toList ia (ib + 1 + k1) := by
   rw [Array.toList_append, toL_extract]
   exact M'.bulkB t.sb hb
  have last : ∀ out', MI O key a.toList b.toList out'.toList ia (ib + 1 + k1) → ib + 1 + k1 ≠ b.size → wpS (model prog w) A E s (loA a b out' ia (ib + 1 + k1) mg k k1) (T2 O key a b n st0) st := fun out' Mo hne => by
   have lt : ib + 1 + k1 < b.size := by lia
   refine wpS_loA t hv Mo la lt ?_ (by lia)
   have p := g2 k1 (Nat.le_refl _) (by lia)
   exact p
  by_cases e1 : k1 > 0
  ·rw [if_pos e1]
   by_cases e2 : ib + 1 + k1 = b.size
   ·rw [if_pos (by simpa using e2)]
    exact wpS_pure ⟨hv, .inr ⟨_, _, rfl, MI.endB t M2 e2⟩⟩
   ·rw [if_neg (by simpa using e2)]
    exact last _ M2 e2
  ·rw [if_neg e1]
   have e0 : k1 = 0 := by lia
   subst e0
   exact last _ M' (by lia)
theorem wpS_loG (hL : LtOk prog w A E s O key D kd) {a b out : Array Keyed} (t : Two O key D a b) {ia ib mg ac bc n : Nat} {st st0 : SortSt} (hk : kindOf st = kd) (hv : Eqv st0 st) (H : LH O key a b out ia ib) (hn : n ≤ ia + ib) :
  wpS (model prog w) A E s (loG a b out ia ib mg ac bc) (T2 O key a b n st0) st := by
 have la := H.la
 have lb := H.lb
 have hx := at_lt (arr := a) (i := ia) (by lia)
 have hy := at_lt (arr := b) (i := ib) lb
 unfold loG
 rw [setMinGallop'_eq]
 refine wpS_bind (wpS_modify (wpS_bind (wpS_elem hy (wpS_bind (wpS_gallop hL hk (t.db _ (mem_at hy)) (pref_of (base := ia) (n := a.size - ia) ((seg_of t.sa).mono (Nat.zero_le _) (by lia)) t.da (by lia)) (by lia) fun k1 hk1 g1 g2 => ?_)))))
 dsimp only
 have hv' := hv.set mg
 have hb : ∀ z ∈ (a.toList.drop ia).take k1, ∀ u ∈ b.toList.drop ib, Le O key z u := by
  intro z hz u hu
  obtain ⟨i, hi⟩ := List.getElem?_of_mem hz
  have hik : i < k1 := by
   have := (List.getElem?_eq_some_iff.mp hi).1
   rw [List.length_take] at this
   lia
  rw [List.getElem?_take, if_pos hik, List.getElem?_drop, Array.getElem?_toList] at hi
  have p := g1 i hik
  rw [itemAt_eq hi] at p
  have p : (!O.blt (key (itemAt b ib)) (key z)) = true := p
  have p : O.kle (key z) (key (itemAt b ib)) := by unfold KeyOrd.kle; simpa using p
  exact Le.trans (y := itemAt b ib) p (seg_drop t.sb hy u hu)
 have M2 : MI O key a.toList b.toList (out ++ a.extract ia (ia + k1)).toList (ia + k1) ib := by
  rw [Array.toList_append, toL_extract]
  exact H.mi.bulkA t.sa hb
 have last : ∀ out', MI O key a.toList b.toList out'.toList (ia + k1) ib → ia + k1 + 1 < a.size → wpS (model prog w) A E s (loB a b out' (ia + k1) ib mg k1 bc) (T2 O key a b n st0) (SortSt.mk' (kindOf st) (arrOf st) (pendingOf st) mg (failedOf st)) := fun out' Mo lt => by
  refine wpS_loB hL t hk hv' Mo lt lb ?_ (by lia)
  have p := g2 k1 (Nat.le_refl _) (by lia)
  have p : (!O.blt (key (itemAt b ib)) (key (itemAt a (ia + k1)))) = false := p
  have p : O.klt (key (itemAt b ib)) (key (itemAt a (ia + k1))) := by unfold KeyOrd.klt; simpa using p
  exact KeyOrd.kle_of_klt p
 by_cases e1 : k1 > 0
 ·rw [if_pos e1]
  by_cases e2 : ia + k1 + 1 = a.size
  ·rw [if_pos (by simpa using e2)]
   exact wpS_pure ⟨hv', .inr ⟨_, _, rfl, MI.endL t M2 e2⟩⟩
  ·rw [if_neg (by simpa using e2)]
   by_cases e3 : ia + k1 = a.size
   ·rw [if_pos (by simpa using e3)]
    exact wpS_pure ⟨hv', .inr ⟨_, _, rfl, MI.endA t M2 e3⟩⟩
   ·rw [if_neg (by simpa using e3)]
    exact last _ M2 (by lia)
 ·rw [if_neg e1]
  have e0 : k1 = 0 := by lia
  subst e0
  exact last _ H.mi (by lia)
noncomputable def P0 (O : KeyOrd) (key : Keyed → O.α) (a b : Array Keyed) (n : Nat) (c : MSt) : Prop := ∃ out ia ib mg, c = (none, out, ia, ib, mg) ∧ LH O key a b out ia ib ∧ n ≤ ia + ib
noncomputable def R0 (O : KeyOrd) (key : Keyed → O.α) (a b : Array Keyed) (c : MSt) : Prop := ∃ res r, c = (some res, r) ∧ Mg O key a b res
theorem wpS_loTurn (hL : LtOk prog w A E s O key D kd) {a b : Array Keyed} (t : Two O key D a b) {n : Nat} {c : MSt} {st st0 : SortSt} (hk : kindOf st = kd) (hv : Eqv st0 st) (h : P0 O key a b n c) :
  wpS (model prog w) A E s (loTurn a b c) (fun r st' => Eqv st0 st' ∧ match r with | .done c' => R0 O key a b c' | .yield c' => P0 O key a b (n + 1) c') st := by
 obtain ⟨out, ia, ib, mg, rfl, H, hn⟩ := h
 unfold loTurn
 dsimp only
 have tot : 0 < a.size + b.size := by have := t.na; lia
 refine wpS_bind (wpS_mono (wpS_forRange (I := fun x c st' => st' = st ∧ P1 O key a b (n + x) c) (Q := fun c st' => st' = st ∧ (P1 O key a b (n + 1) c ∨ R1 O key a b c)) ?step ?fin ⟨rfl, _, _, _, _, _, rfl, H, hn⟩) ?post)
 case fin =>
  rintro c st' ⟨rfl, out, ia, ib, ac, bc, rfl, H, hn⟩
  refine ⟨rfl, .inl ⟨_, _, _, _, _, rfl, H, ?_⟩⟩
  rw [show max 0 (a.size + b.size) = a.size + b.size by lia] at hn
  lia
 case step =>
  rintro x c st' _ hx ⟨rfl, hP⟩
  refine wpS_mono (wpS_loOne hL t hk hP) ?_
  rintro r st' ⟨rfl, hr⟩
  cases r with
  | done c' =>
   refine ⟨rfl, ?_⟩
   rcases hr with ⟨out, ia, ib, ac, bc, rfl, H, hn⟩ | hr
   ·exact .inl ⟨_, _, _, _, _, rfl, H, by lia⟩
   ·exact .inr hr
  | yield c' => exact ⟨rfl, hr⟩
 case post =>
  rintro c st' ⟨rfl, (⟨out, ia, ib, ac, bc, rfl, H, hn⟩ | ⟨res, r, rfl, hm⟩)⟩
  ·dsimp only
   refine wpS_bind (wpS_lift (wpAny_rule ⟨rfl, ?_⟩))
   refine wpS_bind (wpS_mono (wpS_forRange (I := fun x c st'' => Eqv st0 st'' ∧ P2 O key a b (n + 1) c) (Q := fun c st'' => Eqv st0 st'' ∧ (P2 O key a b (n + 1) c ∨ R2' O key a b c)) ?step2 ?fin2 ⟨hv, _, _, _, _, _, _, rfl, H, hn⟩) ?post2)
   case fin2 =>
    rintro c st'' ⟨h1, h2⟩
    exact ⟨h1, .inl h2⟩
   case step2 =>
    rintro x c st'' _ hx ⟨h1, out, ia, ib, mg', ac, bc, rfl, H, hn⟩
    have hk2 : kindOf st'' = kd := h1.1.trans (hv.1.symm.trans hk)
    dsimp only
    split
    ·refine wpS_mono (wpS_loG hL t hk2 h1 H hn) fun r st3 h3 => ?_
     cases r with
     | done c' => exact ⟨h3.1, h3.2⟩
     | yield c' => exact ⟨h3.1, h3.2⟩
    ·refine wpS_mono (wpS_loG hL t hk2 h1 H hn) fun r st3 h3 => ?_
     cases r with
     | done c' => exact ⟨h3.1, h3.2⟩
     | yield c' => exact ⟨h3.1, h3.2⟩
   case post2 =>
    rintro c st'' ⟨h1, (⟨out, ia, ib, mg', ac, bc, rfl, H, hn⟩ | ⟨res, r, rfl, hm⟩)⟩
    ·dsimp only
     rw [setMinGallop'_eq]
     exact wpS_bind (wpS_modify (wpS_pure ⟨h1.set _, _, _, _, _, rfl, H, hn⟩))
    ·exact wpS_pure ⟨h1, _, _, rfl, hm⟩
  ·exact wpS_pure ⟨hv, _, _, rfl, hm⟩
theorem wpS_mergeLo (hL : LtOk prog w A E s O key D kd) {a b : Array Keyed} (t : Two O key D a b) {st : SortSt} {Q : Array Keyed → SortSt → Prop} (hk : kindOf st = kd) (h : ∀ res st', Eqv st st' → Mg O key a b res → Q res st') : wpS (model prog w) A E s (mergeLo' a b) Q st := by
 have na := t.na
 have nb := t.nb
 have hx := at_lt (arr := a) (i := 0) (by lia)
 have hy := at_lt (arr := b) (i := 0) (by lia)
 rw [mergeLo_form]
 refine wpS_bind (wpS_lift (wpAny_rule ⟨rfl, ?_⟩))
 refine wpS_bind (wpS_elem hy ?_)
 have M0 : MI O key a.toList b.toList [] 0 0 := ⟨by simp, List.Pairwise.nil, fun x hx => (nomatch hx), fun x hx => (nomatch hx)⟩
 have M : MI O key a.toList b.toList (#[itemAt b 0] : Array Keyed).toList 0 1 := MI.oneB t M0 hx hy (t.h1 _ _ hx hy)
 by_cases e : 1 = b.size
 ·rw [if_pos (by simpa using e)]
  exact wpS_pure (h _ _ (Eqv.refl _) (MI.endB t M e))
 ·rw [if_neg (by simpa using e)]
  by_cases e2 : 0 + 1 = a.size
  ·rw [if_pos (by simpa using e2)]
   exact wpS_pure (h _ _ (Eqv.refl _) (MI.endL t M e2))
  ·rw [if_neg (by simpa using e2)]
   refine wpS_bind (wpS_get ?_)
   refine wpS_bind (wpS_mono (wpS_forRange (I := fun x c st' => Eqv st st' ∧ P0 O key a b x c) (Q := fun c st' => Eqv st st' ∧ R0 O key a b c) ?step ?fin ⟨Eqv.refl _, _, _, _, _, rfl, ⟨M, by lia, by lia⟩, by lia⟩) ?post)
   case fin =>
    rintro c st' ⟨_, out, ia, ib, mg, rfl, H, hn⟩
    have := H.la
    have := H.lb
    rw [show max 0 (a.size + b.size) = a.size + b.size by lia] at hn
    lia
   case step =>
    rintro x c st' _ hx' ⟨hv, hP⟩
    refine wpS_mono (wpS_loTurn hL t (hv.1.trans hk) hv hP) fun r st3 h3 => ?_
    cases r with
    | done c' => exact ⟨h3.1, h3.2⟩
    | yield c' => exact ⟨h3.1, h3.2⟩
   case post =>
    rintro c st' ⟨hv, res, r, rfl, hm⟩
    exact wpS_pure (h _ _ hv hm)
end
section
variable {O : KeyOrd} {key : Keyed → O.α}
structure MH (O : KeyOrd) (key : Keyed → O.α) (al bl R : List Keyed) (na nb : Nat) : Prop where
 perm : (al.take na ++ bl.take nb ++ R).Perm (al ++ bl)
 srt : R.Pairwise (Le O key)
 ba : ∀ x ∈ al.take na, ∀ y ∈ R, Le O key x y
 bb : ∀ x ∈ bl.take nb, ∀ y ∈ R, Le O key x y
theorem MH.bulkA {al bl R : List Keyed} {na nb m : Nat} (M : MH O key al bl R na nb) (sa : al.Pairwise (Le O key)) (hm : m ≤ na) (hx : ∀ x ∈ bl.take nb, ∀ y ∈ (al.take na).drop m, Le O key x y) : MH O key al bl ((al.take na).drop m ++ R) m nb := by
 have e : al.take m = (al.take na).take m := by rw [List.take_take, Nat.min_eq_left hm]
 have sd : (al.take na).Pairwise (Le O key) := sa.sublist (List.take_sublist _ _)
 have sp := sd
 rw [← List.take_append_drop m (al.take na)] at sp
 obtain ⟨p1, p2, p3⟩ := List.pairwise_append.mp sp
 refine ⟨?_, List.pairwise_append.mpr ⟨p2, M.srt, fun x hx y hy => M.ba x (List.mem_of_mem_drop hx) y hy⟩, fun x hx' y hy => ?_, fun x hx' y hy => ?_⟩
 ·refine List.Perm.trans ?_ M.perm
  rw [e]
  conv => rhs; rw [← List.take_append_drop m (al.take na)]
  rw [List.append_assoc, List.append_assoc, List.append_assoc, ← List.append_assoc (bl.take nb), ← List.append_assoc ((al.take na).drop m)]
  exact List.Perm.append_left _ (List.Perm.append_right _ List.perm_append_comm)
 ·rw [e] at hx'
  rcases List.mem_append.mp hy with z | z
  ·exact p3 x hx' y z
  ·exact M.ba x (List.mem_of_mem_take hx') y z
 ·rcases List.mem_append.mp hy with z | z
  ·exact hx x hx' y z
  ·exact M.bb x hx' y z
theorem MH.bulkB {al bl R : List Keyed} {na nb m : Nat} (M : MH O key al bl R na nb) (sb : bl.Pairwise (Le O key)) (hm : m ≤ nb) (hx : ∀ x ∈ al.take na, ∀ y ∈ (bl.take nb).drop m, Le O key x y) : MH O key al bl ((bl.take nb).drop m ++ R) na m := by
 have e : bl.take m = (bl.take nb).take m := by rw [List.take_take, Nat.min_eq_left hm]
 have sd : (bl.take nb).Pairwise (Le O key) := sb.sublist (List.take_sublist _ _)
 have sp := sd
 rw [← List.take_append_drop m (bl.take nb)] at sp
 obtain ⟨p1, p2, p3⟩ := List.pairwise_append.mp sp
 refine ⟨?_, List.pairwise_append.mpr ⟨p2, M.srt, fun x hx y hy => M.bb x (List.mem_of_mem_drop hx) y hy⟩, fun x hx' y hy => ?_, fun x hx' y hy => ?_⟩
 ·refine List.Perm.trans ?_ M.perm
  rw [e]
  conv => rhs; rw [← List.take_append_drop m (bl.take nb)]
  rw [List.append_assoc, List.append_assoc, List.append_assoc]
 ·rcases List.mem_append.mp hy with z | z
  ·exact hx x hx' y z
  ·exact M.ba x hx' y z
 ·rw [e] at hx'
  rcases List.mem_append.mp hy with z | z
  ·exact p3 x hx' y z
  ·exact M.bb x (List.mem_of_mem_take hx') y z
theorem MH.doneA {al bl R : List Keyed} {na nb : Nat} (M : MH O key al bl R na nb) (sb : bl.Pairwise (Le O key)) (h : na = 0) : Merged O key al bl (al.take na ++ bl.take nb ++ R) := by
 refine ⟨M.perm, ?_⟩
 rw [h, List.take_zero, List.nil_append]
 exact List.pairwise_append.mpr ⟨sb.sublist (List.take_sublist _ _), M.srt, M.bb⟩
theorem MH.doneB {al bl R : List Keyed} {na nb : Nat} (M : MH O key al bl R na nb) (sa : al.Pairwise (Le O key)) (h : nb = 0) : Merged O key al bl (al.take na ++ bl.take nb ++ R) := by
 refine ⟨M.perm, ?_⟩
 rw [h, List.take_zero, List.append_nil]
 exact List.pairwise_append.mpr ⟨sa.sublist (List.take_sublist _ _), M.srt, M.ba⟩
theorem MH.firstB {al bl R : List Keyed} {na nb : Nat} (M : MH O key al bl R na nb) (sa : al.Pairwise (Le O key)) (sb : bl.Pairwise (Le O key)) (h : ∀ x ∈ bl.take nb, ∀ y ∈ al, Le O key x y) : Merged O key al bl (bl.take nb ++ al.take na ++ R) := by
 refine ⟨List.Perm.trans (List.Perm.append_right _ List.perm_append_comm) M.perm, ?_⟩
 refine List.pairwise_append.mpr ⟨List.pairwise_append.mpr ⟨sb.sublist (List.take_sublist _ _), sa.sublist (List.take_sublist _ _), fun x hx y hy => h x hx y (List.mem_of_mem_take hy)⟩, M.srt, fun x hx y hy => ?_⟩
 rcases List.mem_append.mp hx with z | z
 ·exact M.bb x z y hy
 ·exact M.ba x z y hy
end
noncomputable abbrev HSt := Option (Array Keyed) × Nat × Nat × Array Keyed × Nat
noncomputable abbrev HSt1 := Option (Array Keyed) × Nat × Nat × Array Keyed × Nat × Nat
noncomputable abbrev HSt2 := Option (Array Keyed) × Nat × Nat × Array Keyed × Nat × Nat × Nat
noncomputable def hiA (a b out : Array Keyed) (na nb mg k k1 : Nat) : StateT SortSt Sem (ForInStep HSt2) := do
 let x ← elem' a (na - 1)
 if (na - 1 == 0) = true then pure (ForInStep.done (some (a.extract 0 (na - 1) ++ b.extract 0 nb ++ (out.push x).reverse), na - 1, nb, out.push x, mg, k, k1))
 else if (decide (k < 7) && decide (k1 < 7)) = true then pure (ForInStep.done (none, na - 1, nb, out.push x, mg, k, k1))
 else pure (ForInStep.yield (none, na - 1, nb, out.push x, mg, k, k1))
noncomputable def hiB (a b out : Array Keyed) (na nb mg k bc : Nat) : StateT SortSt Sem (ForInStep HSt2) := do
 let x ← elem' b (nb - 1)
 if (nb - 1 == 1) = true then pure (ForInStep.done (some (b.extract 0 (nb - 1) ++ a.extract 0 na ++ (out.push x).reverse), na, nb - 1, out.push x, mg, k, bc))
 else do
  let y ← elem' a (na - 1)
  let __x ← gallop' true y b 0 (nb - 1) (nb - 1 - 1)
  match __x with
   | some m =>
    if nb - 1 - m > 0 then
     if (m == 1) = true then pure (ForInStep.done (some (b.extract 0 m ++ a.extract 0 na ++ (out.push x ++ (b.extract m (nb - 1)).reverse).reverse), na, m, out.push x ++ (b.extract m (nb - 1)).reverse, mg, k, nb - 1 - m))
     else if (m == 0) = true then pure (ForInStep.done (some (a.extract 0 na ++ b.extract 0 m ++ (out.push x ++ (b.extract m (nb - 1)).reverse).reverse), na, m, out.push x ++ (b.extract m (nb - 1)).reverse, mg, k, nb - 1 - m))
     else hiA a b (out.push x ++ (b.extract m (nb - 1)).reverse) na m mg k (nb - 1 - m)
    else hiA a b (out.push x) na (nb - 1) mg k (nb - 1 - m)
   | x1 => pure (ForInStep.done (some (a.extract 0 na ++ b.extract 0 (nb - 1) ++ (out.push x).reverse), na, nb - 1, out.push x, mg, k, bc))
noncomputable def hiG (a b out : Array Keyed) (na nb mg ac bc : Nat) : StateT SortSt Sem (ForInStep HSt2) := do
 setMinGallop' mg
 let x ← elem' b (nb - 1)
 let __x ← gallop' false x a 0 na (na - 1)
 match __x with
  | some m =>
   if na - m > 0 then
    if (m == 0) = true then pure (ForInStep.done (some (a.extract 0 m ++ b.extract 0 nb ++ (out ++ (a.extract m na).reverse).reverse), m, nb, out ++ (a.extract m na).reverse, mg, na - m, bc))
    else hiB a b (out ++ (a.extract m na).reverse) m nb mg (na - m) bc
   else hiB a b out na nb mg (na - m) bc
  | x1 => pure (ForInStep.done (some (a.extract 0 na ++ b.extract 0 nb ++ out.reverse), na, nb, out, mg, ac, bc))
noncomputable def hiOne (a b : Array Keyed) (mg : Nat) (t : HSt1) : StateT SortSt Sem (ForInStep HSt1) := do
 let y ← elem' b (t.snd.snd.fst - 1)
 let x ← elem' a (t.snd.fst - 1)
 let __x ← lt' y x
 match __x with
  | some aWins =>
   if aWins = true then do
    let z ← elem' a (t.snd.fst - 1)
    if (t.snd.fst - 1 == 0) = true then pure (ForInStep.done (some (a.extract 0 (t.snd.fst - 1) ++ b.extract 0 t.snd.snd.fst ++ (t.snd.snd.snd.fst.push z).reverse), t.snd.fst - 1, t.snd.snd.fst, t.snd.snd.snd.fst.push z, t.snd.snd.snd.snd.fst + 1, 0))
    else if t.snd.snd.snd.snd.fst + 1 ≥ mg then pure (ForInStep.done (none, t.snd.fst - 1, t.snd.snd.fst, t.snd.snd.snd.fst.push z, t.snd.snd.snd.snd.fst + 1, 0))
    else pure (ForInStep.yield (none, t.snd.fst - 1, t.snd.snd.fst, t.snd.snd.snd.fst.push z, t.snd.snd.snd.snd.fst + 1, 0))
   else do
    let z ← elem' b (t.snd.snd.fst - 1)
    if (t.snd.snd.fst - 1 == 1) = true then pure (ForInStep.done (some (b.extract 0 (t.snd.snd.fst - 1) ++ a.extract 0 t.snd.fst ++ (t.snd.snd.snd.fst.push z).reverse), t.snd.fst, t.snd.snd.fst - 1, t.snd.snd.snd.fst.push z, 0, t.snd.snd.snd.snd.snd + 1))
    else if t.snd.snd.snd.snd.snd + 1 ≥ mg then pure (ForInStep.done (none, t.snd.fst, t.snd.snd.fst - 1, t.snd.snd.snd.fst.push z, 0, t.snd.snd.snd.snd.snd + 1))
    else pure (ForInStep.yield (none, t.snd.fst, t.snd.snd.fst - 1, t.snd.snd.snd.fst.push z, 0, t.snd.snd.snd.snd.snd + 1))
  | x1 => pure (ForInStep.done (some (a.extract 0 t.snd.fst ++ b.extract 0 t.snd.snd.fst ++ t.snd.snd.snd.fst.reverse), t.snd.fst, t.snd.snd.fst, t.snd.snd.snd.fst, t.snd.snd.snd.snd.fst, t.snd.snd.snd.snd.snd))
noncomputable def hiTurn (a b : Array Keyed) (t : HSt) : StateT SortSt Sem (ForInStep HSt) := do
 let u ← forIn [:a.size + b.size] ((none, t.snd.fst, t.snd.snd.fst, t.snd.snd.snd.fst, 0, 0) : HSt1) fun _ v => hiOne a b t.snd.snd.snd.snd v
 match u.fst with
  | some r => pure (ForInStep.done (some r, u.snd.fst, u.snd.snd.fst, u.snd.snd.snd.fst, t.snd.snd.snd.snd))
  | none => do
   liftM (rule "list.sort.gallop")
   let v ← forIn [:a.size + b.size] ((none, u.snd.fst, u.snd.snd.fst, u.snd.snd.snd.fst, t.snd.snd.snd.snd + 1, u.snd.snd.snd.snd.fst, u.snd.snd.snd.snd.snd) : HSt2) fun _ v =>
    if v.snd.snd.snd.snd.fst > 1 then hiG a b v.snd.snd.snd.fst v.snd.fst v.snd.snd.fst (v.snd.snd.snd.snd.fst - 1) v.snd.snd.snd.snd.snd.fst v.snd.snd.snd.snd.snd.snd
    else hiG a b v.snd.snd.snd.fst v.snd.fst v.snd.snd.fst v.snd.snd.snd.snd.fst v.snd.snd.snd.snd.snd.fst v.snd.snd.snd.snd.snd.snd
   match v.fst with
    | some r => pure (ForInStep.done (some r, v.snd.fst, v.snd.snd.fst, v.snd.snd.snd.fst, v.snd.snd.snd.snd.fst))
    | none => do
     setMinGallop' (v.snd.snd.snd.snd.fst + 1)
     pure (ForInStep.yield (none, v.snd.fst, v.snd.snd.fst, v.snd.snd.snd.fst, v.snd.snd.snd.snd.fst + 1))
theorem mergeHi_form (a b : Array Keyed) : mergeHi' a b = (do
 liftM (rule "list.sort.merge-hi")
 let x ← elem' a (a.size - 1)
 if (a.size - 1 == 0) = true then pure (a.extract 0 (a.size - 1) ++ b.extract 0 b.size ++ (#[x] : Array Keyed).reverse)
 else if (b.size == 1) = true then pure (b.extract 0 b.size ++ a.extract 0 (a.size - 1) ++ (#[x] : Array Keyed).reverse)
 else do
  let st ← get
  let t ← forIn [:a.size + b.size] ((none, a.size - 1, b.size, #[x], gallopOf st) : HSt) fun _ t => hiTurn a b t
  match t.fst with
   | some r => pure r
   | none => liftM (unsupported "internal:list.sort.merge-bound" : Sem (Array Keyed))) := by
 kernel_rfl
section
variable {prog : Program} {w : World} {A : Around} {E : Value → Shared → Prop} {s : Shared} {O : KeyOrd} {key : Keyed → O.α} {D : Keyed → Prop} {kd : SortKind}
theorem tail_one {arr : Array Keyed} {n : Nat} {x : Keyed} (h1 : 1 ≤ n) (hx : arr[n - 1]? = some x) : (arr.toList.take n).drop (n - 1) = [x] := by
 obtain ⟨m, rfl⟩ : ∃ m, n = m + 1 := ⟨n - 1, by lia⟩
 rw [Nat.add_sub_cancel] at hx ⊢
 have h : arr.toList[m]? = some x := by rw [Array.getElem?_toList]; exact hx
 have hl : m < arr.toList.length := (List.getElem?_eq_some_iff.mp h).1
 rw [List.take_add_one, h]
 show List.drop m (List.take m arr.toList ++ [x]) = [x]
 rw [List.drop_append_of_le_length (by rw [List.length_take]; lia), List.drop_of_length_le (by rw [List.length_take]; lia)]
 rfl
theorem mem_take_at {l : List Keyed} {n : Nat} {y : Keyed} (h : y ∈ l.take n) : ∃ j, j < n ∧ l[j]? = some y := by
 obtain ⟨j, hj⟩ := List.getElem?_of_mem h
 have hl := (List.getElem?_eq_some_iff.mp hj).1
 rw [List.length_take] at hl
 rw [List.getElem?_take, if_pos (by lia)] at hj
 exact ⟨j, by lia, hj⟩
theorem seg_take {arr : Array Keyed} (hs : arr.toList.Pairwise (Le O key)) {n : Nat} {x : Keyed} (hx : arr[n - 1]? = some x) : ∀ y ∈ arr.toList.take n, Le O key y x := by
 intro y hy
 obtain ⟨j, hj, e⟩ := mem_take_at hy
 rw [Array.getElem?_toList] at e
 exact seg_of hs j (n - 1) y x (Nat.zero_le _) (by lia) (lt_at hx) e hx
theorem rev_push (out : Array Keyed) (x : Keyed) : (out.push x).reverse.toList = [x] ++ out.reverse.toList := by simp
theorem rev_bulk (out a : Array Keyed) (m n : Nat) : (out ++ (a.extract m n).reverse).reverse.toList = (a.toList.take n).drop m ++ out.reverse.toList := by
 have e : (a.extract m n).toList = (a.toList.take n).drop m := by
  rw [Array.toList_extract]
  show (a.toList.drop m).take (n - m) = _
  rw [List.drop_take]
 rw [Array.toList_reverse, Array.toList_append, List.reverse_append, Array.toList_reverse, List.reverse_reverse, e, Array.toList_reverse]
theorem toL_front (a : Array Keyed) (n : Nat) : (a.extract 0 n).toList = a.toList.take n := by
 rw [Array.toList_extract]
 show (a.toList.drop 0).take (n - 0) = _
 rfl
theorem MH.oneA {a b : Array Keyed} {R : List Keyed} {na nb : Nat} {x y : Keyed} (t : Two O key D a b) (M : MH O key a.toList b.toList R na nb) (h1 : 1 ≤ na) (hx : a[na - 1]? = some x) (hy : b[nb - 1]? = some y) (h : Le O key y x) : MH O key a.toList b.toList ([x] ++ R) (na - 1) nb := by
 have := M.bulkA (m := na - 1) t.sa (by lia) (fun z hz u hu => by
  rw [tail_one h1 hx] at hu
  have : u = x := by simpa using hu
  subst this
  exact (seg_take t.sb hy z hz).trans h)
 rw [tail_one h1 hx] at this
 exact this
theorem MH.oneB {a b : Array Keyed} {R : List Keyed} {na nb : Nat} {x y : Keyed} (t : Two O key D a b) (M : MH O key a.toList b.toList R na nb) (h1 : 1 ≤ nb) (hx : a[na - 1]? = some x) (hy : b[nb - 1]? = some y) (h : Le O key x y) : MH O key a.toList b.toList ([y] ++ R) na (nb - 1) := by
 have := M.bulkB (m := nb - 1) t.sb (by lia) (fun z hz u hu => by
  rw [tail_one h1 hy] at hu
  have : u = y := by simpa using hu
  subst this
  exact (seg_take t.sa hx z hz).trans h)
 rw [tail_one h1 hy] at this
 exact this
theorem MH.endA {a b out : Array Keyed} {na nb : Nat} (t : Two O key D a b) (M : MH O key a.toList b.toList out.reverse.toList na nb) (h : na = 0) : Mg O key a b (a.extract 0 na ++ b.extract 0 nb ++ out.reverse) := by
 show Merged _ _ _ _ (Array.toList _)
 rw [Array.toList_append, Array.toList_append, toL_front, toL_front]
 exact M.doneA t.sb h
theorem MH.endB {a b out : Array Keyed} {na nb : Nat} (t : Two O key D a b) (M : MH O key a.toList b.toList out.reverse.toList na nb) (h : nb = 0) : Mg O key a b (a.extract 0 na ++ b.extract 0 nb ++ out.reverse) := by
 show Merged _ _ _ _ (Array.toList _)
 rw [Array.toList_append, Array.toList_append, toL_front, toL_front]
 exact M.doneB t.sa h
theorem MH.endF {a b out : Array Keyed} {na nb : Nat} (t : Two O key D a b) (M : MH O key a.toList b.toList out.reverse.toList na nb) (h : nb = 1) : Mg O key a b (b.extract 0 nb ++ a.extract 0 na ++ out.reverse) := by
 show Merged _ _ _ _ (Array.toList _)
 rw [Array.toList_append, Array.toList_append, toL_front, toL_front]
 refine M.firstB t.sa t.sb fun x hx y hy => ?_
 rw [h] at hx
 obtain ⟨j, hj, e⟩ := mem_take_at hx
 have : j = 0 := by lia
 subst this
 rw [Array.getElem?_toList] at e
 have na := t.na
 have hz := at_lt (arr := a) (i := 0) (by lia)
 refine Le.trans (t.h1 _ _ hz e) (seg_drop t.sa hz y ?_)
 simpa using hy
structure HH (O : KeyOrd) (key : Keyed → O.α) (a b out : Array Keyed) (na nb : Nat) : Prop where
 mi : MH O key a.toList b.toList out.reverse.toList na nb
 la : 1 ≤ na
 la' : na ≤ a.size
 lb : 2 ≤ nb
 lb' : nb ≤ b.size
noncomputable def H1 (O : KeyOrd) (key : Keyed → O.α) (a b : Array Keyed) (n : Nat) (c : HSt1) : Prop := ∃ out na nb ac bc, c = (none, na, nb, out, ac, bc) ∧ HH O key a b out na nb ∧ n + (na + nb) ≤ a.size + b.size
noncomputable def S1 (O : KeyOrd) (key : Keyed → O.α) (a b : Array Keyed) (c : HSt1) : Prop := ∃ res r, c = (some res, r) ∧ Mg O key a b res
theorem wpS_hiOne (hL : LtOk prog w A E s O key D kd) {a b : Array Keyed} (t : Two O key D a b) {mg n : Nat} {c : HSt1} {st : SortSt} (hk : kindOf st = kd) (h : H1 O key a b n c) :
  wpS (model prog w) A E s (hiOne a b mg c) (fun r st' => st' = st ∧ match r with | .done c' => H1 O key a b (n + 1) c' ∨ S1 O key a b c' | .yield c' => H1 O key a b (n + 1) c') st := by
 obtain ⟨out, na, nb, ac, bc, rfl, ⟨M, la, la', lb, lb'⟩, hn⟩ := h
 have hx := at_lt (arr := a) (i := na - 1) (by lia)
 have hy := at_lt (arr := b) (i := nb - 1) (by lia)
 unfold hiOne
 dsimp only
 refine wpS_bind (wpS_elem hy (wpS_bind (wpS_elem hx (wpS_bind (hL st _ _ _ (t.db _ (mem_at hy)) (t.da _ (mem_at hx)) hk ?_)))))
 dsimp only
 cases q : O.blt (key (itemAt b (nb - 1))) (key (itemAt a (na - 1))) with
 | true =>
  rw [if_pos rfl]
  refine wpS_bind (wpS_elem hx ?_)
  have M' : MH O key a.toList b.toList (out.push (itemAt a (na - 1))).reverse.toList (na - 1) nb := by rw [rev_push]; exact MH.oneA t M la hx hy (KeyOrd.kle_of_klt q)
  by_cases e : na - 1 = 0
  ·rw [if_pos (by simpa using e)]
   exact wpS_pure ⟨rfl, .inr ⟨_, _, rfl, MH.endA t M' e⟩⟩
  ·rw [if_neg (by simpa using e)]
   have G : H1 O key a b (n + 1) (none, na - 1, nb, out.push (itemAt a (na - 1)), ac + 1, 0) := ⟨_, _, _, _, _, rfl, ⟨M', by lia, by lia, lb, lb'⟩, by lia⟩
   split
   ·exact wpS_pure ⟨rfl, .inl G⟩
   ·exact wpS_pure ⟨rfl, G⟩
 | false =>
  rw [if_neg Bool.false_ne_true]
  refine wpS_bind (wpS_elem hy ?_)
  have M' : MH O key a.toList b.toList (out.push (itemAt b (nb - 1))).reverse.toList na (nb - 1) := by rw [rev_push]; exact MH.oneB t M (by lia) hx hy q
  by_cases e : nb - 1 = 1
  ·rw [if_pos (by simpa using e)]
   exact wpS_pure ⟨rfl, .inr ⟨_, _, rfl, MH.endF t M' e⟩⟩
  ·rw [if_neg (by simpa using e)]
   have G : H1 O key a b (n + 1) (none, na, nb - 1, out.push (itemAt b (nb - 1)), 0, bc + 1) := ⟨_, _, _, _, _, rfl, ⟨M', la, la', by lia, by lia⟩, by lia⟩
   split
   ·exact wpS_pure ⟨rfl, .inl G⟩
   ·exact wpS_pure ⟨rfl, G⟩
noncomputable def H2 (O : KeyOrd) (key : Keyed → O.α) (a b : Array Keyed) (n : Nat) (c : HSt2) : Prop := ∃ out na nb mg ac bc, c = (none, na, nb, out, mg, ac, bc) ∧ HH O key a b out na nb ∧ n + (na + nb) ≤ a.size + b.size
noncomputable def S2 (O : KeyOrd) (key : Keyed → O.α) (a b : Array Keyed) (c : HSt2) : Prop := ∃ res r, c = (some res, r) ∧ Mg O key a b res
noncomputable def U2 (O : KeyOrd) (key : Keyed → O.α) (a b : Array Keyed) (n : Nat) (st : SortSt) (r : ForInStep HSt2) (st' : SortSt) : Prop := Eqv st st' ∧ match r with | .done c' => H2 O key a b n c' ∨ S2 O key a b c' | .yield c' => H2 O key a b n c'
theorem wpS_hiA {a b out : Array Keyed} (t : Two O key D a b) {na nb mg k k1 n : Nat} {st st0 : SortSt} (hv : Eqv st0 st) (H : HH O key a b out na nb) (hle : Le O key (itemAt b (nb - 1)) (itemAt a (na - 1))) (hn : n + (na + nb) ≤ a.size + b.size) :
  wpS (model prog w) A E s (hiA a b out na nb mg k k1) (U2 O key a b n st0) st := by
 obtain ⟨M, la, la', lb, lb'⟩ := H
 have hx := at_lt (arr := a) (i := na - 1) (by lia)
 have hy := at_lt (arr := b) (i := nb - 1) (by lia)
 unfold hiA
 refine wpS_bind (wpS_elem hx ?_)
 have M' : MH O key a.toList b.toList (out.push (itemAt a (na - 1))).reverse.toList (na - 1) nb := by rw [rev_push]; exact MH.oneA t M la hx hy hle
 by_cases e : na - 1 = 0
 ·rw [if_pos (by simpa using e)]
  exact wpS_pure ⟨hv, .inr ⟨_, _, rfl, MH.endA t M' e⟩⟩
 ·rw [if_neg (by simpa using e)]
  have G : H2 O key a b n (none, na - 1, nb, out.push (itemAt a (na - 1)), mg, k, k1) := ⟨_, _, _, _, _, _, rfl, ⟨M', by lia, by lia, lb, lb'⟩, by lia⟩
  split
  ·exact wpS_pure ⟨hv, .inl G⟩
  ·exact wpS_pure ⟨hv, G⟩
theorem wpS_hiB (hL : LtOk prog w A E s O key D kd) {a b out : Array Keyed} (t : Two O key D a b) {na nb mg k bc n : Nat} {st st0 : SortSt} (hk : kindOf st = kd) (hv : Eqv st0 st) (H : HH O key a b out na nb) (hle : Le O key (itemAt a (na - 1)) (itemAt b (nb - 1))) (hn : n + (na + nb) ≤ a.size + b.size) :
  wpS (model prog w) A E s (hiB a b out na nb mg k bc) (U2 O key a b n st0) st := by
 obtain ⟨M, la, la', lb, lb'⟩ := H
 have hx := at_lt (arr := a) (i := na - 1) (by lia)
 have hy := at_lt (arr := b) (i := nb - 1) (by lia)
 unfold hiB
 refine wpS_bind (wpS_elem hy ?_)
 have M' : MH O key a.toList b.toList (out.push (itemAt b (nb - 1))).reverse.toList na (nb - 1) := by rw [rev_push]; exact MH.oneB t M (by lia) hx hy hle
 by_cases e : nb - 1 = 1
 ·rw [if_pos (by simpa using e)]
  exact wpS_pure ⟨hv, .inr ⟨_, _, rfl, MH.endF t M' e⟩⟩
 ·rw [if_neg (by simpa using e)]
  refine wpS_bind (wpS_elem hx (wpS_bind (wpS_gallop hL hk (t.da _ (mem_at hx)) (pref_of (base := 0) (n := nb - 1) ((seg_of t.sb).mono (Nat.zero_le _) (by lia)) t.db (by lia)) (by lia) fun m hm g1 g2 => ?_)))
  dsimp only
  simp only [Nat.zero_add] at g1 g2
  have M2 : MH O key a.toList b.toList (out.push (itemAt b (nb - 1)) ++ (b.extract m (nb - 1)).reverse).reverse.toList na m := by
   rw [rev_bulk]
   refine M'.bulkB t.sb hm fun z hz u hu => ?_
   obtain ⟨i, hi⟩ := List.getElem?_of_mem hu
   rw [List.getElem?_drop, List.getElem?_take] at hi
   split at hi
   ·rename_i hlt
    rw [Array.getElem?_toList] at hi
    have p := g2 (m + i) (by lia) (by lia)
    rw [itemAt_eq hi] at p
    have p : O.blt (key u) (key (itemAt a (na - 1))) = false := p
    exact Le.trans (y := itemAt a (na - 1)) (seg_take t.sa hx z hz) p
   ·cases hi
  have last : ∀ out' k', MH O key a.toList b.toList out'.reverse.toList na m → 2 ≤ m → wpS (model prog w) A E s (hiA a b out' na m mg k k') (U2 O key a b n st0) st := fun out' k' Mo h2 => by
   refine wpS_hiA t hv ⟨Mo, la, la', h2, by lia⟩ ?_ (by lia)
   have p := g1 (m - 1) (by lia)
   exact KeyOrd.kle_of_klt (show O.klt _ _ from p)
  by_cases e1 : nb - 1 - m > 0
  ·rw [if_pos e1]
   by_cases e2 : m = 1
   ·rw [if_pos (by simpa using e2)]
    exact wpS_pure ⟨hv, .inr ⟨_, _, rfl, MH.endF t M2 e2⟩⟩
   ·rw [if_neg (by simpa using e2)]
    by_cases e3 : m = 0
    ·rw [if_pos (by simpa using e3)]
     exact wpS_pure ⟨hv, .inr ⟨_, _, rfl, MH.endB t M2 e3⟩⟩
    ·rw [if_neg (by simpa using e3)]
     exact last _ _ M2 (by lia)
  ·rw [if_neg e1]
   have e0 : m = nb - 1 := by lia
   subst e0
   exact last _ _ M' (by lia)
theorem wpS_hiG (hL : LtOk prog w A E s O key D kd) {a b out : Array Keyed} (t : Two O key D a b) {na nb mg ac bc n : Nat} {st st0 : SortSt} (hk : kindOf st = kd) (hv : Eqv st0 st) (H : HH O key a b out na nb) (hn : n + (na + nb) ≤ a.size + b.size) :
  wpS (model prog w) A E s (hiG a b out na nb mg ac bc) (U2 O key a b n st0) st := by
 obtain ⟨M, la, la', lb, lb'⟩ := H
 have hx := at_lt (arr := a) (i := na - 1) (by lia)
 have hy := at_lt (arr := b) (i := nb - 1) (by lia)
 unfold hiG
 rw [setMinGallop'_eq]
 refine wpS_bind (wpS_modify (wpS_bind (wpS_elem hy (wpS_bind (wpS_gallop hL hk (t.db _ (mem_at hy)) (pref_of (base := 0) (n := na) ((seg_of t.sa).mono (Nat.zero_le _) (by lia)) t.da (by lia)) (by lia) fun m hm g1 g2 => ?_)))))
 dsimp only
 simp only [Nat.zero_add] at g1 g2
 have hv' := hv.set mg
 have M2 : MH O key a.toList b.toList (out ++ (a.extract m na).reverse).reverse.toList m nb := by
  rw [rev_bulk]
  refine M.bulkA t.sa hm fun z hz u hu => ?_
  obtain ⟨i, hi⟩ := List.getElem?_of_mem hu
  rw [List.getElem?_drop, List.getElem?_take] at hi
  split at hi
  ·rename_i hlt
   rw [Array.getElem?_toList] at hi
   have p := g2 (m + i) (by lia) (by lia)
   rw [itemAt_eq hi] at p
   have p : (!O.blt (key (itemAt b (nb - 1))) (key u)) = false := p
   have p : O.klt (key (itemAt b (nb - 1))) (key u) := by unfold KeyOrd.klt; simpa using p
   exact Le.trans (y := itemAt b (nb - 1)) (seg_take t.sb hy z hz) (KeyOrd.kle_of_klt p)
  ·cases hi
 have last : ∀ out' k', MH O key a.toList b.toList out'.reverse.toList m nb → 1 ≤ m → wpS (model prog w) A E s (hiB a b out' m nb mg k' bc) (U2 O key a b n st0) (SortSt.mk' (kindOf st) (arrOf st) (pendingOf st) mg (failedOf st)) := fun out' k' Mo h2 => by
  refine wpS_hiB hL t hk hv' ⟨Mo, h2, by lia, lb, lb'⟩ ?_ (by lia)
  have p := g1 (m - 1) (by lia)
  have p : (!O.blt (key (itemAt b (nb - 1))) (key (itemAt a (m - 1)))) = true := p
  show O.blt (key (itemAt b (nb - 1))) (key (itemAt a (m - 1))) = false
  simpa using p
 by_cases e1 : na - m > 0
 ·rw [if_pos e1]
  by_cases e2 : m = 0
  ·rw [if_pos (by simpa using e2)]
   exact wpS_pure ⟨hv', .inr ⟨_, _, rfl, MH.endA t M2 e2⟩⟩
  ·rw [if_neg (by simpa using e2)]
   exact last _ _ M2 (by lia)
 ·rw [if_neg e1]
  have e0 : m = na := by lia
  subst e0
  exact last _ _ M (by lia)
noncomputable def H0 (O : KeyOrd) (key : Keyed → O.α) (a b : Array Keyed) (n : Nat) (c : HSt) : Prop := ∃ out na nb mg, c = (none, na, nb, out, mg) ∧ HH O key a b out na nb ∧ n + (na + nb) ≤ a.size + b.size
noncomputable def S0 (O : KeyOrd) (key : Keyed → O.α) (a b : Array Keyed) (c : HSt) : Prop := ∃ res r, c = (some res, r) ∧ Mg O key a b res
theorem wpS_hiTurn (hL : LtOk prog w A E s O key D kd) {a b : Array Keyed} (t : Two O key D a b) {n : Nat} {c : HSt} {st st0 : SortSt} (hk : kindOf st = kd) (hv : Eqv st0 st) (h : H0 O key a b n c) :
  wpS (model prog w) A E s (hiTurn a b c) (fun r st' => Eqv st0 st' ∧ match r with | .done c' => S0 O key a b c' | .yield c' => H0 O key a b (n + 1) c') st := by
 obtain ⟨out, ia, ib, mg, rfl, H, hn⟩ := h
 unfold hiTurn
 dsimp only
 have tot : 0 < a.size + b.size := by have := t.na; lia
 refine wpS_bind (wpS_mono (wpS_forRange (I := fun x c st' => st' = st ∧ H1 O key a b (n + x) c) (Q := fun c st' => st' = st ∧ (H1 O key a b (n + 1) c ∨ S1 O key a b c)) ?step ?fin ⟨rfl, _, _, _, _, _, rfl, H, hn⟩) ?post)
 case fin =>
  rintro c st' ⟨rfl, out, ia, ib, ac, bc, rfl, H, hn⟩
  refine ⟨rfl, .inl ⟨_, _, _, _, _, rfl, H, ?_⟩⟩
  rw [show max 0 (a.size + b.size) = a.size + b.size by lia] at hn
  lia
 case step =>
  rintro x c st' _ hx ⟨rfl, hP⟩
  refine wpS_mono (wpS_hiOne hL t hk hP) ?_
  rintro r st' ⟨rfl, hr⟩
  cases r with
  | done c' =>
   refine ⟨rfl, ?_⟩
   rcases hr with ⟨out, ia, ib, ac, bc, rfl, H, hn⟩ | hr
   ·exact .inl ⟨_, _, _, _, _, rfl, H, by lia⟩
   ·exact .inr hr
  | yield c' => exact ⟨rfl, hr⟩
 case post =>
  rintro c st' ⟨rfl, (⟨out, ia, ib, ac, bc, rfl, H, hn⟩ | ⟨res, r, rfl, hm⟩)⟩
  ·dsimp only
   refine wpS_bind (wpS_lift (wpAny_rule ⟨rfl, ?_⟩))
   refine wpS_bind (wpS_mono (wpS_forRange (I := fun x c st'' => Eqv st0 st'' ∧ H2 O key a b (n + 1) c) (Q := fun c st'' => Eqv st0 st'' ∧ (H2 O key a b (n + 1) c ∨ S2 O key a b c)) ?step2 ?fin2 ⟨hv, _, _, _, _, _, _, rfl, H, hn⟩) ?post2)
   case fin2 =>
    rintro c st'' ⟨h1, h2⟩
    exact ⟨h1, .inl h2⟩
   case step2 =>
    rintro x c st'' _ hx ⟨h1, out, ia, ib, mg', ac, bc, rfl, H, hn⟩
    have hk2 : kindOf st'' = kd := h1.1.trans (hv.1.symm.trans hk)
    dsimp only
    split
    ·refine wpS_mono (wpS_hiG hL t hk2 h1 H hn) fun r st3 h3 => ?_
     cases r with
     | done c' => exact ⟨h3.1, h3.2⟩
     | yield c' => exact ⟨h3.1, h3.2⟩
    ·refine wpS_mono (wpS_hiG hL t hk2 h1 H hn) fun r st3 h3 => ?_
     cases r with
     | done c' => exact ⟨h3.1, h3.2⟩
     | yield c' => exact ⟨h3.1, h3.2⟩
   case post2 =>
    rintro c st'' ⟨h1, (⟨out, ia, ib, mg', ac, bc, rfl, H, hn⟩ | ⟨res, r, rfl, hm⟩)⟩
    ·dsimp only
     rw [setMinGallop'_eq]
     exact wpS_bind (wpS_modify (wpS_pure ⟨h1.set _, _, _, _, _, rfl, H, hn⟩))
    ·exact wpS_pure ⟨h1, _, _, rfl, hm⟩
  ·exact wpS_pure ⟨hv, _, _, rfl, hm⟩
theorem wpS_mergeHi (hL : LtOk prog w A E s O key D kd) {a b : Array Keyed} (t : Two O key D a b) {st : SortSt} {Q : Array Keyed → SortSt → Prop} (hk : kindOf st = kd) (h : ∀ res st', Eqv st st' → Mg O key a b res → Q res st') : wpS (model prog w) A E s (mergeHi' a b) Q st := by
 have na := t.na
 have nb := t.nb
 have hx := at_lt (arr := a) (i := a.size - 1) (by lia)
 have hy := at_lt (arr := b) (i := b.size - 1) (by lia)
 rw [mergeHi_form]
 refine wpS_bind (wpS_lift (wpAny_rule ⟨rfl, ?_⟩))
 refine wpS_bind (wpS_elem hx ?_)
 have M0 : MH O key a.toList b.toList [] a.size b.size := by
  refine ⟨?_, List.Pairwise.nil, fun x _ y hy => (nomatch hy), fun x _ y hy => (nomatch hy)⟩
  rw [List.take_of_length_le (by simp), List.take_of_length_le (by simp), List.append_nil]
 have M : MH O key a.toList b.toList (#[itemAt a (a.size - 1)] : Array Keyed).reverse.toList (a.size - 1) b.size := MH.oneA t M0 na hx hy (t.h2 _ (mem_at hy) _ hx)
 by_cases e : a.size - 1 = 0
 ·rw [if_pos (by simpa using e)]
  exact wpS_pure (h _ _ (Eqv.refl _) (MH.endA t M e))
 ·rw [if_neg (by simpa using e)]
  by_cases e2 : b.size = 1
  ·rw [if_pos (by simpa using e2)]
   exact wpS_pure (h _ _ (Eqv.refl _) (MH.endF t M e2))
  ·rw [if_neg (by simpa using e2)]
   refine wpS_bind (wpS_get ?_)
   refine wpS_bind (wpS_mono (wpS_forRange (I := fun x c st' => Eqv st st' ∧ H0 O key a b x c) (Q := fun c st' => Eqv st st' ∧ S0 O key a b c) ?step ?fin ⟨Eqv.refl _, _, _, _, _, rfl, ⟨M, by lia, by lia, by lia, by lia⟩, by lia⟩) ?post)
   case fin =>
    rintro c st' ⟨_, out, ia, ib, mg, rfl, H, hn⟩
    have := H.la
    have := H.lb
    rw [show max 0 (a.size + b.size) = a.size + b.size by lia] at hn
    lia
   case step =>
    rintro x c st' _ hx' ⟨hv, hP⟩
    refine wpS_mono (wpS_hiTurn hL t (hv.1.trans hk) hv hP) fun r st3 h3 => ?_
    cases r with
    | done c' => exact ⟨h3.1, h3.2⟩
    | yield c' => exact ⟨h3.1, h3.2⟩
   case post =>
    rintro c st' ⟨hv, res, r, rfl, hm⟩
    exact wpS_pure (h _ _ hv hm)
end
noncomputable def wb (n : Nat) (m : List Keyed) (arr : Array Keyed) : Array Keyed := m.zipIdx.foldl (fun a x => a.setIfInBounds (n + x.2) x.1) arr
theorem wb_gen (n : Nat) : ∀ (m : List Keyed) (i : Nat) (l : List Keyed), n + i + m.length ≤ l.length → ((m.zipIdx i).foldl (fun (a : Array Keyed) x => a.setIfInBounds (n + x.2) x.1) l.toArray).toList = l.take (n + i) ++ m ++ l.drop (n + i + m.length)
 | [], i, l, _ => by simp
 | x :: m, i, l, h => by
  rw [List.length_cons] at h
  rw [List.zipIdx_cons, List.foldl_cons]
  have e : (l.toArray.setIfInBounds (n + i) x) = (l.set (n + i) x).toArray := by simp
  dsimp only
  rw [e, wb_gen n m (i + 1) (l.set (n + i) x) (by rw [List.length_set]; lia), List.length_cons]
  have e1 : (l.set (n + i) x).take (n + (i + 1)) = l.take (n + i) ++ [x] := by
   rw [show n + (i + 1) = n + i + 1 by lia, List.take_add_one, List.getElem?_set_self (by lia), List.take_set_of_le (Nat.le_refl _)]
   rfl
  have e2 : (l.set (n + i) x).drop (n + (i + 1) + m.length) = l.drop (n + i + (m.length + 1)) := by
   rw [List.drop_set_of_lt (by lia)]
   congr 1
   lia
  rw [e1, e2]
  simp
theorem wb_toList {n : Nat} {m : List Keyed} {arr : Array Keyed} (h : n + m.length ≤ arr.size) : (wb n m arr).toList = arr.toList.take n ++ m ++ arr.toList.drop (n + m.length) := by
 have := wb_gen n m 0 arr.toList (by rw [Array.length_toList]; exact h)
 exact this
section
variable {prog : Program} {w : World} {A : Around} {E : Value → Shared → Prop} {s : Shared} {O : KeyOrd} {key : Keyed → O.α} {D : Keyed → Prop} {kd : SortKind}
noncomputable def part (l : List Keyed) (lo hi : Nat) : List Keyed := (l.drop lo).take (hi - lo)
theorem part_at {l : List Keyed} {lo hi i : Nat} (h : i < hi - lo) : (part l lo hi)[i]? = l[lo + i]? := by
 unfold part
 rw [List.getElem?_take, if_pos h, List.getElem?_drop]
theorem part_len {l : List Keyed} {lo hi : Nat} (h : hi ≤ l.length) : (part l lo hi).length = hi - lo := by
 unfold part
 rw [List.length_take, List.length_drop]
 lia
theorem seg_part {arr : Array Keyed} {lo hi : Nat} (hh : hi ≤ arr.size) : Seg O key arr lo hi ↔ (part arr.toList lo hi).Pairwise (Le O key) := by
 constructor
 ·intro h
  rw [List.pairwise_iff_getElem]
  intro i j hi1 hj1 hij
  have hl := part_len (l := arr.toList) (lo := lo) (hi := hi) (by rw [Array.length_toList]; exact hh)
  have ei := List.getElem?_eq_getElem hi1
  have ej := List.getElem?_eq_getElem hj1
  rw [part_at (by lia), Array.getElem?_toList] at ei ej
  exact h (lo + i) (lo + j) _ _ (by lia) (by lia) (by lia) ei ej
 ·intro h i j x y h1 h2 h3 hx hy
  by_cases e : i = j
  ·subst e
   rw [hx] at hy
   cases hy
   exact KeyOrd.kle_refl _
  ·have ex : (part arr.toList lo hi)[i - lo]? = some x := by rw [part_at (by lia), Array.getElem?_toList, show lo + (i - lo) = i by lia]; exact hx
   have ey : (part arr.toList lo hi)[j - lo]? = some y := by rw [part_at (by lia), Array.getElem?_toList, show lo + (j - lo) = j by lia]; exact hy
   obtain ⟨g1, e1⟩ := List.getElem?_eq_some_iff.mp ex
   obtain ⟨g2, e2⟩ := List.getElem?_eq_some_iff.mp ey
   have := List.pairwise_iff_getElem.mp h (i - lo) (j - lo) g1 g2 (by lia)
   rw [e1, e2] at this
   exact this
theorem part_split {l : List Keyed} {lo mid hi : Nat} (h1 : lo ≤ mid) (h2 : mid ≤ hi) : part l lo hi = part l lo mid ++ part l mid hi := by
 unfold part
 rw [show hi - lo = (mid - lo) + (hi - mid) by lia, List.take_add, List.drop_drop, show lo + (mid - lo) = mid by lia]
theorem part_all {l : List Keyed} {lo hi : Nat} (h1 : lo ≤ hi) : l = l.take lo ++ part l lo hi ++ l.drop hi := by
 unfold part
 conv => lhs; rw [← List.take_append_drop lo l, ← List.take_append_drop (hi - lo) (l.drop lo)]
 rw [List.drop_drop, show lo + (hi - lo) = hi by lia, List.append_assoc]
theorem extract_part (arr : Array Keyed) (lo hi : Nat) : (arr.extract lo hi).toList = part arr.toList lo hi := by
 rw [Array.toList_extract]
 rfl
theorem mem_part {l : List Keyed} {lo hi : Nat} {x : Keyed} (h : x ∈ part l lo hi) : ∃ i, lo ≤ i ∧ i < hi ∧ l[i]? = some x := by
 obtain ⟨i, hi'⟩ := List.getElem?_of_mem h
 have hl := (List.getElem?_eq_some_iff.mp hi').1
 have : i < hi - lo := by
  unfold part at hl
  rw [List.length_take] at hl
  lia
 rw [part_at this] at hi'
 exact ⟨lo + i, by lia, by lia, hi'⟩
theorem mergeAt_form (i : Nat) : mergeAt' i = (do
 let st ← get
 match ((pendingOf st)[i]?, (pendingOf st)[i + 1]?) with
  | (some (sa, na, power), some (sb, nb, _)) => do
   set (setPending st (((pendingOf st).setIfInBounds i (sa, na + nb, power)).eraseIdxIfInBounds (i + 1)))
   let x ← elem' (arrOf st) sb
   let __x ← gallop' false x (arrOf st) sa na 0
   match __x with
    | some k =>
     if (na - k == 0) = true then pure true
     else do
      let y ← elem' (arrOf st) (sa + k + (na - k) - 1)
      let __x ← gallop' true y (arrOf st) sb nb (nb - 1)
      match __x with
       | some nb' =>
        if (nb' == 0) = true then pure true
        else do
         let merged ← if na - k ≤ nb' then mergeLo' ((arrOf st).extract (sa + k) sb) ((arrOf st).extract sb (sb + nb')) else mergeHi' ((arrOf st).extract (sa + k) sb) ((arrOf st).extract sb (sb + nb'))
         modify fun st => setArr st (wb (sa + k) merged.toList (arrOf st))
         let st ← get
         pure (failedOf st).isNone
       | x1 => pure false
    | x1 => pure false
  | x1 => liftM (unsupported "internal:list.sort.pending" : Sem Bool)) := by
 kernel_rfl
end
section
variable {prog : Program} {w : World} {A : Around} {E : Value → Shared → Prop} {s : Shared} {O : KeyOrd} {key : Keyed → O.α} {D : Keyed → Prop} {kd : SortKind}
theorem wpS_set {σ : Type} {M : Model} {st st' : σ} {Q : PUnit → σ → Prop} (h : Q ⟨⟩ st') : wpS M A E s (set st' : StateT σ Sem PUnit) Q st := by
 unfold wpS
 rw [StateT.run_set]
 exact wpAny_pure ⟨rfl, h⟩
structure Mend (O : KeyOrd) (key : Keyed → O.α) (arr arr' : Array Keyed) (lo hi : Nat) : Prop where
 perm : arr'.Perm arr
 seg : Seg O key arr' lo hi
 off : ∀ i, (i < lo ∨ hi ≤ i) → arr'[i]? = arr[i]?
theorem Mend.of {arr arr' : Array Keyed} {lo hi : Nat} {m : List Keyed} (h1 : lo ≤ hi) (h2 : hi ≤ arr.size) (e : arr'.toList = arr.toList.take lo ++ m ++ arr.toList.drop hi) (hp : m.Perm (part arr.toList lo hi)) (hs : m.Pairwise (Le O key)) : Mend O key arr arr' lo hi := by
 have hl : m.length = hi - lo := by rw [hp.length_eq, part_len (by rw [Array.length_toList]; exact h2)]
 have ht : (arr.toList.take lo).length = lo := by rw [List.length_take, Array.length_toList]; lia
 have hsz : arr'.size = arr.size := by
  rw [← Array.length_toList, e, List.length_append, List.length_append, ht, hl, List.length_drop, Array.length_toList]
  lia
 have hm : part arr'.toList lo hi = m := by
  unfold part
  rw [e, List.append_assoc, List.drop_append, ht, Nat.sub_self, List.drop_of_length_le (by lia), List.nil_append, List.drop_zero, ← hl, List.take_left]
 refine ⟨?_, ?_, fun i hi' => ?_⟩
 ·rw [Array.perm_iff_toList_perm, e]
  conv => rhs; rw [part_all (l := arr.toList) h1]
  exact List.Perm.append_right _ (List.Perm.append_left _ hp)
 ·rw [seg_part (by lia), hm]
  exact hs
 ·rw [← Array.getElem?_toList, ← Array.getElem?_toList, e]
  rcases hi' with z | z
  ·rw [List.append_assoc, List.getElem?_append_left (by lia), List.getElem?_take, if_pos z]
  ·rw [List.getElem?_append_right (by rw [List.length_append]; lia), List.length_append, ht, hl, List.getElem?_drop]
   congr 1
   lia
theorem Mend.same {arr : Array Keyed} {lo hi : Nat} (h : Seg O key arr lo hi) : Mend O key arr arr lo hi := ⟨Array.Perm.refl _, h, fun _ _ => rfl⟩
theorem seg_join {arr : Array Keyed} {lo mid hi : Nat} (h1 : Seg O key arr lo mid) (h2 : Seg O key arr mid hi) (hc : ∀ x y, lo < mid → mid < hi → arr[mid - 1]? = some x → arr[mid]? = some y → Le O key x y) : Seg O key arr lo hi := by
 intro i j x y a b c hx hy
 by_cases hj : j < mid
 ·exact h1 i j x y a b hj hx hy
 ·by_cases hi : mid ≤ i
  ·exact h2 i j x y hi b c hx hy
  ·have l1 := at_lt (arr := arr) (i := mid - 1) (by have := lt_at hy; lia)
   have l2 := at_lt (arr := arr) (i := mid) (by have := lt_at hy; lia)
   exact ((h1 i (mid - 1) x _ a (by lia) (by lia) hx l1).trans (hc _ _ (by lia) (by lia) l1 l2)).trans (h2 mid j _ y (Nat.le_refl _) (by lia) c l2 hy)
theorem wpS_mergeAt (hL : LtOk prog w A E s O key D kd) {i sa na p1 sb nb p2 : Nat} {st : SortSt} {Q : Bool → SortSt → Prop} (hk : kindOf st = kd) (hf : failedOf st = none) (hd : ∀ x ∈ (arrOf st).toList, D x)
  (e1 : (pendingOf st)[i]? = some (sa, na, p1)) (e2 : (pendingOf st)[i + 1]? = some (sb, nb, p2)) (hsb : sb = sa + na) (hna : 1 ≤ na) (hnb : 1 ≤ nb) (hsz : sb + nb ≤ (arrOf st).size) (g1 : Seg O key (arrOf st) sa sb) (g2 : Seg O key (arrOf st) sb (sb + nb))
  (h : ∀ st', kindOf st' = kd → failedOf st' = none → pendingOf st' = ((pendingOf st).setIfInBounds i (sa, na + nb, p1)).eraseIdxIfInBounds (i + 1) → Mend O key (arrOf st) (arrOf st') sa (sb + nb) → Q true st') :
  wpS (model prog w) A E s (mergeAt' i) Q st := by
 rw [mergeAt_form]
 refine wpS_bind (wpS_get ?_)
 rw [e1, e2]
 dsimp only
 refine wpS_bind (wpS_set ?_)
 generalize hP : ((pendingOf st).setIfInBounds i (sa, na + nb, p1)).eraseIdxIfInBounds (i + 1) = P at h
 have hB := at_lt (arr := arrOf st) (i := sb) (by lia)
 refine wpS_bind (wpS_elem hB (wpS_bind (wpS_gallop hL (st := setPending st P) hk (hd _ (mem_at hB)) (pref_of (base := sa) (n := na) (g1.mono (Nat.le_refl _) (by lia)) hd (by lia)) (by lia) fun k hkn q1 q2 => ?_)))
 dsimp only
 -- the first items of the first part stay
 have front : ∀ j, j < k → Le O key (itemAt (arrOf st) (sa + j)) (itemAt (arrOf st) sb) := fun j hj => by
  have p := q1 j hj
  have p : (!O.blt (key (itemAt (arrOf st) sb)) (key (itemAt (arrOf st) (sa + j)))) = true := p
  show O.blt (key (itemAt (arrOf st) sb)) (key (itemAt (arrOf st) (sa + j))) = false
  simpa using p
 by_cases ek : na - k = 0
 ·rw [if_pos (by simpa using ek)]
  refine wpS_pure (h _ hk hf rfl (Mend.same (seg_join g1 g2 fun x y _ _ hx hy => ?_)))
  have p := front (na - 1) (by lia)
  rw [itemAt_eq hy, show sa + (na - 1) = sb - 1 by lia, itemAt_eq hx] at p
  exact p
 ·rw [if_neg (by simpa using ek)]
  have elast : sa + k + (na - k) - 1 = sb - 1 := by lia
  have hA := at_lt (arr := arrOf st) (i := sb - 1) (by lia)
  rw [elast]
  refine wpS_bind (wpS_elem hA (wpS_bind (wpS_gallop hL (st := setPending st P) hk (hd _ (mem_at hA)) (pref_of (base := sb) (n := nb) g2 hd (by lia)) (by lia) fun n2 hn2 r1 r2 => ?_)))
  dsimp only
  have back : ∀ j, n2 ≤ j → j < nb → Le O key (itemAt (arrOf st) (sb - 1)) (itemAt (arrOf st) (sb + j)) := fun j h1 h2 => r2 j h1 h2
  by_cases en : n2 = 0
  ·rw [if_pos (by simpa using en)]
   refine wpS_pure (h _ hk hf rfl (Mend.same (seg_join g1 g2 fun x y _ _ hx hy => ?_)))
   have p := back 0 (by lia) (by lia)
   rw [Nat.add_zero, itemAt_eq hy, itemAt_eq hx] at p
   exact p
  ·rw [if_neg (by simpa using en)]
   generalize hX : (arrOf st).extract (sa + k) sb = X
   generalize hY : (arrOf st).extract sb (sb + n2) = Y
   have lX : X.toList = part (arrOf st).toList (sa + k) sb := by rw [← hX]; exact extract_part _ _ _
   have lY : Y.toList = part (arrOf st).toList sb (sb + n2) := by rw [← hY]; exact extract_part _ _ _
   have sX : X.size = na - k := by rw [← Array.length_toList, lX, part_len (by rw [Array.length_toList]; lia)]; lia
   have sY : Y.size = n2 := by rw [← Array.length_toList, lY, part_len (by rw [Array.length_toList]; lia)]; lia
   have aX : ∀ j x, X[j]? = some x → (arrOf st)[sa + k + j]? = some x := fun j x hx => by
    have hj := lt_at hx
    rw [← Array.getElem?_toList, lX, part_at (by lia), Array.getElem?_toList] at hx
    exact hx
   have aY : ∀ j x, Y[j]? = some x → (arrOf st)[sb + j]? = some x := fun j x hx => by
    have hj := lt_at hx
    rw [← Array.getElem?_toList, lY, part_at (by lia), Array.getElem?_toList] at hx
    exact hx
   have mX : ∀ x ∈ X.toList, ∃ j, sa + k ≤ j ∧ j < sb ∧ (arrOf st)[j]? = some x := fun x hx => by
    rw [lX] at hx
    obtain ⟨j, a, b, c⟩ := mem_part hx
    exact ⟨j, a, b, by rw [← Array.getElem?_toList]; exact c⟩
   have mY : ∀ x ∈ Y.toList, ∃ j, sb ≤ j ∧ j < sb + n2 ∧ (arrOf st)[j]? = some x := fun x hx => by
    rw [lY] at hx
    obtain ⟨j, a, b, c⟩ := mem_part hx
    exact ⟨j, a, b, by rw [← Array.getElem?_toList]; exact c⟩
   have T : Two O key D X Y := by
    refine ⟨fun x hx => ?_, fun x hx => ?_, ?_, ?_, fun x y hx hy => ?_, fun x hx y hy => ?_, by lia, by lia⟩
    ·obtain ⟨j, _, _, c⟩ := mX x hx
     exact hd x (mem_at c)
    ·obtain ⟨j, _, _, c⟩ := mY x hx
     exact hd x (mem_at c)
    ·rw [lX]
     exact (seg_part (by lia)).mp (g1.mono (by lia) (Nat.le_refl _))
    ·rw [lY]
     exact (seg_part (by lia)).mp (g2.mono (Nat.le_refl _) (by lia))
    ·have ex := aX 0 x hx
     have ey := aY 0 y hy
     rw [Nat.add_zero] at ex ey
     have p := q2 k (Nat.le_refl _) (by lia)
     have p : (!O.blt (key (itemAt (arrOf st) sb)) (key (itemAt (arrOf st) (sa + k)))) = false := p
     rw [itemAt_eq ex, itemAt_eq ey] at p
     have p : O.klt (key y) (key x) := by unfold KeyOrd.klt; simpa using p
     exact KeyOrd.kle_of_klt p
    ·obtain ⟨j, a, b, c⟩ := mY x hx
     have ey := aX _ y hy
     rw [sX, show sa + k + (na - k - 1) = sb - 1 by lia] at ey
     have p := r1 (j - sb) (by lia)
     rw [show sb + (j - sb) = j by lia, itemAt_eq c, itemAt_eq ey] at p
     exact KeyOrd.kle_of_klt (show O.klt _ _ from p)
   have fin : ∀ res st', Eqv (setPending st P) st' → Mg O key X Y res → wpS (model prog w) A E s (do
     modify fun st => setArr st (wb (sa + k) res.toList (arrOf st))
     let st ← get
     pure (failedOf st).isNone) Q st' := by
    intro res st' hv hm
    refine wpS_bind (wpS_modify (wpS_bind (wpS_get (wpS_pure ?_))))
    have ef : failedOf st' = none := hv.2.2.2.trans hf
    have ea : arrOf st' = arrOf st := hv.2.1
    show Q (failedOf st').isNone _
    rw [ef]
    refine h _ (hv.1.trans hk) ef hv.2.2.1 ?_
    show Mend O key (arrOf st) (wb (sa + k) res.toList (arrOf st')) sa (sb + nb)
    rw [ea]
    have lr : res.toList.length = na - k + n2 := by rw [hm.1.length_eq, List.length_append, Array.length_toList, Array.length_toList, sX, sY]
    have e := wb_toList (n := sa + k) (m := res.toList) (arr := arrOf st) (by lia)
    have f1 : (arrOf st).toList.take (sa + k) = (arrOf st).toList.take sa ++ part (arrOf st).toList sa (sa + k) := by
     unfold part
     rw [List.take_add, show sa + k - sa = k by lia]
    have f2 : (arrOf st).toList.drop (sa + k + res.toList.length) = part (arrOf st).toList (sb + n2) (sb + nb) ++ (arrOf st).toList.drop (sb + nb) := by
     rw [lr, show sa + k + (na - k + n2) = sb + n2 by lia]
     unfold part
     conv => lhs; rw [← List.take_append_drop (sb + nb - (sb + n2)) ((arrOf st).toList.drop (sb + n2))]
     rw [List.drop_drop, show sb + n2 + (sb + nb - (sb + n2)) = sb + nb by lia]
    refine Mend.of (m := part (arrOf st).toList sa (sa + k) ++ (res.toList ++ part (arrOf st).toList (sb + n2) (sb + nb))) (by lia) hsz (by rw [e, f1, f2]; simp) ?_ ?_
    ·rw [part_split (l := (arrOf st).toList) (lo := sa) (mid := sa + k) (hi := sb + nb) (by lia) (by lia), part_split (l := (arrOf st).toList) (lo := sa + k) (mid := sb + n2) (hi := sb + nb) (by lia) (by lia), part_split (l := (arrOf st).toList) (lo := sa + k) (mid := sb) (hi := sb + n2) (by lia) (by lia)]
     refine List.Perm.append_left _ (List.Perm.append_right _ ?_)
     rw [← lX, ← lY]
     exact hm.1
    ·have inM : ∀ x ∈ res.toList, x ∈ X.toList ∨ x ∈ Y.toList := fun x hx => List.mem_append.mp (hm.1.mem_iff.mp hx)
     refine List.pairwise_append.mpr ⟨(seg_part (by lia)).mp (g1.mono (Nat.le_refl _) (by lia)), List.pairwise_append.mpr ⟨hm.2, (seg_part (by lia)).mp (g2.mono (by lia) (Nat.le_refl _)), fun x hx y hy => ?_⟩, fun x hx y hy => ?_⟩
     ·obtain ⟨jy, y1, y2, y3⟩ := mem_part hy
      rw [Array.getElem?_toList] at y3
      rcases inM x hx with z | z
      ·obtain ⟨j, a, b, c⟩ := mX x z
       have p := back (jy - sb) (by lia) (by lia)
       rw [show sb + (jy - sb) = jy by lia, itemAt_eq y3] at p
       exact (g1 j (sb - 1) x _ (by lia) (by lia) (by lia) c hA).trans p
      ·obtain ⟨j, a, b, c⟩ := mY x z
       exact g2 j jy x y a (by lia) y2 c y3
     ·obtain ⟨jx, x1, x2, x3⟩ := mem_part hx
      rw [Array.getElem?_toList] at x3
      have p := front (jx - sa) (by lia)
      rw [show sa + (jx - sa) = jx by lia, itemAt_eq x3] at p
      have toB : ∀ j z, sb ≤ j → j < sb + nb → (arrOf st)[j]? = some z → Le O key x z := fun j z a b c => p.trans (g2 sb j _ z (Nat.le_refl _) a b hB c)
      rcases List.mem_append.mp hy with z | z
      ·rcases inM y z with z | z
       ·obtain ⟨j, a, b, c⟩ := mX y z
        exact g1 jx j x y x1 (by lia) b x3 c
       ·obtain ⟨j, a, b, c⟩ := mY y z
        exact toB j y a (by lia) c
      ·obtain ⟨j, a, b, c⟩ := mem_part z
       rw [Array.getElem?_toList] at c
       exact toB j y (by lia) b c
   split
   ·exact wpS_bind (wpS_mergeLo hL T (st := setPending st P) hk fin)
   ·exact wpS_bind (wpS_mergeHi hL T (st := setPending st P) hk fin)
end
noncomputable abbrev CSt := Option (Option Nat) × Nat
noncomputable abbrev CSt2 := Option (Option Nat) × Nat × Nat
noncomputable def crAsc (lo a nrem : Nat) : StateT SortSt Sem CSt :=
 forIn [a:nrem] ((none, a) : CSt) fun _ t => do
  let __x ← ltAt' (lo + t.snd) (lo + t.snd - 1)
  match __x with
   | some smaller => if smaller = true then pure (ForInStep.done (none, t.snd)) else pure (ForInStep.yield (none, t.snd + 1))
   | x1 => pure (ForInStep.done (some none, t.snd))
noncomputable def crTail (lo n nrem : Nat) : StateT SortSt Sem (Option Nat) := do
 reverseSlice' lo (lo + n)
 let t ← crAsc lo n nrem
 match t.fst with
  | some r => pure r
  | none => pure (some t.snd)
noncomputable def crDesc (lo n nrem : Nat) : StateT SortSt Sem CSt2 :=
 forIn [n:nrem] ((none, n, 0) : CSt2) fun _ t => do
  let __x ← ltAt' (lo + t.snd.fst) (lo + t.snd.fst - 1)
  match __x with
   | some smaller =>
    if smaller = true then
     if t.snd.snd > 0 then do
      reverseSlice' (lo + t.snd.fst - (t.snd.snd + 1)) (lo + t.snd.fst)
      pure (ForInStep.yield (none, t.snd.fst + 1, 0))
     else pure (ForInStep.yield (none, t.snd.fst + 1, 0))
    else do
     let __x ← ltAt' (lo + t.snd.fst - 1) (lo + t.snd.fst)
     match __x with
      | some larger => if larger = true then pure (ForInStep.done (none, t.snd.fst, t.snd.snd)) else pure (ForInStep.yield (none, t.snd.fst + 1, t.snd.snd + 1))
      | x1 => pure (ForInStep.done (some none, t.snd.fst, t.snd.snd))
   | x1 => pure (ForInStep.done (some none, t.snd.fst, t.snd.snd))
noncomputable def crPart (lo n nrem : Nat) : StateT SortSt Sem (Option Nat) := do
 liftM (rule "list.sort.descending-run")
 let t ← crDesc lo (n + 1) nrem
 match t.fst with
  | some r => pure r
  | none =>
   if t.snd.snd > 0 then do
    reverseSlice' (lo + t.snd.fst - (t.snd.snd + 1)) (lo + t.snd.fst)
    crTail lo t.snd.fst nrem
   else crTail lo t.snd.fst nrem
theorem countRun_form (lo nrem : Nat) : countRun' lo nrem = (do
 let t ← crAsc lo 1 nrem
 match t.fst with
  | some r => pure r
  | none =>
   if (t.snd == nrem) = true then pure (some t.snd)
   else if t.snd > 1 then do
    let __x ← ltAt' lo (lo + t.snd - 1)
    match __x with
     | some rose => if rose = true then pure (some t.snd) else do
       reverseSlice' lo (lo + t.snd)
       crPart lo t.snd nrem
     | x1 => pure none
   else crPart lo t.snd nrem) := by
 kernel_rfl
section
variable {prog : Program} {w : World} {A : Around} {E : Value → Shared → Prop} {s : Shared} {O : KeyOrd} {key : Keyed → O.α} {D : Keyed → Prop} {kd : SortKind}
structure CR (kd : SortKind) (st0 st : SortSt) (lo hi : Nat) : Prop where
 kind : kindOf st = kd
 failed : failedOf st = none
 pend : pendingOf st = pendingOf st0
 perm : (arrOf st).Perm (arrOf st0)
 off : ∀ i, (i < lo ∨ hi ≤ i) → (arrOf st)[i]? = (arrOf st0)[i]?
theorem CR.size {st0 st : SortSt} {lo hi : Nat} (c : CR kd st0 st lo hi) : (arrOf st).size = (arrOf st0).size := c.perm.size_eq
theorem CR.dom {st0 st : SortSt} {lo hi : Nat} (c : CR kd st0 st lo hi) (hd : ∀ x ∈ (arrOf st0).toList, D x) : ∀ x ∈ (arrOf st).toList, D x := fun x hx => hd x ((Array.perm_iff_toList_perm.mp c.perm).mem_iff.mp hx)
theorem CR.mirror {st0 st : SortSt} {lo hi i j : Nat} (c : CR kd st0 st lo hi) (h1 : lo ≤ i) (h2 : j ≤ hi) (h3 : j ≤ (arrOf st).size) : CR kd st0 (setArr st (mirror (arrOf st) i j ((j - i) / 2))) lo hi :=
 ⟨c.kind, c.failed, c.pend, (mirror_perm _ _ _ _).trans c.perm, fun k hk => by
  show (PyProof.Rows.mirror (arrOf st) i j ((j - i) / 2))[k]? = _
  rw [getElem?_mirror_all h3, if_neg (by lia)]
  exact c.off k hk⟩
theorem CR.bubble {st0 st : SortSt} {lo hi src d : Nat} (c : CR kd st0 st lo hi) (h1 : lo + d ≤ src) (h2 : src < hi) (h3 : src < (arrOf st).size) : CR kd st0 (setArr st (bubble (arrOf st) src d)) lo hi :=
 ⟨c.kind, c.failed, c.pend, (bubble_perm _ _ _).trans c.perm, fun k hk => by
  show (PyProof.Rows.bubble (arrOf st) src d)[k]? = _
  rw [getElem?_bubble h3 d (by lia), if_neg (by lia), if_neg (by lia)]
  exact c.off k hk⟩
noncomputable def kk (O : KeyOrd) (key : Keyed → O.α) (arr : Array Keyed) (i : Nat) : O.α := key (itemAt arr i)
theorem kk_congr {arr arr' : Array Keyed} {i j : Nat} (h : arr[i]? = arr'[j]?) : kk O key arr i = kk O key arr' j := by unfold kk itemAt; rw [h]
theorem kk_mirror {arr : Array Keyed} {i j : Nat} (hj : j ≤ arr.size) (k : Nat) : kk O key (mirror arr i j ((j - i) / 2)) k = if i ≤ k ∧ k < j then kk O key arr (i + j - 1 - k) else kk O key arr k := by
 have e := getElem?_mirror_all (i := i) hj k
 by_cases h1 : i ≤ k ∧ k < j
 ·rw [if_pos h1] at e ⊢; exact kk_congr e
 ·rw [if_neg h1] at e ⊢; exact kk_congr e
theorem kk_mirror_equal {arr : Array Keyed} {i j : Nat} (hj : j ≤ arr.size) (heq : ∀ k, i ≤ k → k < j → kk O key arr k = kk O key arr (j - 1)) (k : Nat) : kk O key (mirror arr i j ((j - i) / 2)) k = kk O key arr k := by
 rw [kk_mirror hj]
 split
 ·rw [heq _ (by lia) (by lia), heq k (by lia) (by lia)]
 ·rfl
theorem kk_bubble {arr : Array Keyed} {src d : Nat} (hs : src < arr.size) (hd : d ≤ src) (k : Nat) : kk O key (bubble arr src d) k = if k = src - d then kk O key arr src else if src - d < k ∧ k ≤ src then kk O key arr (k - 1) else kk O key arr k := by
 have e := getElem?_bubble hs d hd k
 by_cases h1 : k = src - d
 ·rw [if_pos h1] at e ⊢; exact kk_congr e
 ·rw [if_neg h1] at e ⊢
  by_cases h2 : src - d < k ∧ k ≤ src
  ·rw [if_pos h2] at e ⊢; exact kk_congr e
  ·rw [if_neg h2] at e ⊢; exact kk_congr e
noncomputable def Up (O : KeyOrd) (key : Keyed → O.α) (arr : Array Keyed) (lo n : Nat) : Prop := ∀ i j, i ≤ j → j < n → O.kle (kk O key arr (lo + i)) (kk O key arr (lo + j))
noncomputable def Dn (O : KeyOrd) (key : Keyed → O.α) (arr : Array Keyed) (lo n : Nat) : Prop := ∀ i j, i ≤ j → j < n → O.kle (kk O key arr (lo + j)) (kk O key arr (lo + i))
theorem Up.seg {arr : Array Keyed} {lo n : Nat} (h : Up O key arr lo n) : Seg O key arr lo (lo + n) := by
 intro i j x y h1 h2 h3 hx hy
 have := h (i - lo) (j - lo) (by lia) (by lia)
 rw [show lo + (i - lo) = i by lia, show lo + (j - lo) = j by lia] at this
 unfold kk at this
 rw [itemAt_eq hx, itemAt_eq hy] at this
 exact this
theorem wpS_ltIJ (hL : LtOk prog w A E s O key D kd) {st : SortSt} {i j : Nat} {Q : Option Bool → SortSt → Prop} (hk : kindOf st = kd) (hd : ∀ x ∈ (arrOf st).toList, D x) (hi : i < (arrOf st).size) (hj : j < (arrOf st).size)
  (h : Q (some (O.blt (kk O key (arrOf st) i) (kk O key (arrOf st) j))) st) : wpS (model prog w) A E s (ltAt' i j) Q st := by
 rw [ltAt'_eq]
 refine wpS_bind (wpS_get ?_)
 have h1 := at_lt hi
 have h2 := at_lt hj
 exact wpS_bind (wpS_elem h1 (wpS_bind (wpS_elem h2 (hL st _ _ Q (hd _ (mem_at h1)) (hd _ (mem_at h2)) hk h))))
variable {st0 : SortSt} {lo hi nrem : Nat}
theorem wpS_crAsc (hL : LtOk prog w A E s O key D kd) (hd : ∀ x ∈ (arrOf st0).toList, D x) {st : SortSt} {a : Nat} {Q : CSt → SortSt → Prop} (c : CR kd st0 st lo hi) (hn : lo + nrem ≤ (arrOf st0).size) (ha : 1 ≤ a) (han : a ≤ nrem) (hs : Up O key (arrOf st) lo a)
  (h : ∀ n, a ≤ n → n ≤ nrem → Up O key (arrOf st) lo n → (n = nrem ∨ O.klt (kk O key (arrOf st) (lo + n)) (kk O key (arrOf st) (lo + n - 1))) → Q (none, n) st) : wpS (model prog w) A E s (crAsc lo a nrem) Q st := by
 have hz := c.size
 unfold crAsc
 refine wpS_forRange (I := fun x t st' => st' = st ∧ t = (none, x) ∧ Up O key (arrOf st) lo x) ?step ?fin ⟨rfl, rfl, hs⟩
 case fin =>
  rintro t st' ⟨rfl, rfl, hs'⟩
  rw [show max a nrem = nrem by lia] at hs' ⊢
  exact h nrem han (Nat.le_refl _) hs' (.inl rfl)
 case step =>
  rintro x t st' hax hxn ⟨rfl, rfl, hs'⟩
  dsimp only
  refine wpS_bind (wpS_ltIJ hL c.kind (c.dom hd) (by lia) (by lia) ?_)
  dsimp only
  cases q : O.blt (kk O key (arrOf st') (lo + x)) (kk O key (arrOf st') (lo + x - 1)) with
  | true =>
   rw [if_pos rfl]
   exact wpS_pure (h x hax (by lia) hs' (.inr q))
  | false =>
   rw [if_neg Bool.false_ne_true]
   refine wpS_pure ⟨rfl, rfl, fun i j hij hj => ?_⟩
   by_cases hjx : j < x
   ·exact hs' i j hij hjx
   ·have hj' : j = x := by lia
    subst hj'
    by_cases hi' : i = j
    ·subst hi'; exact KeyOrd.kle_refl _
    ·have := hs' i (j - 1) (by lia) (by lia)
     rw [show lo + (j - 1) = lo + j - 1 by lia] at this
     exact KeyOrd.kle_trans this q
theorem wpS_rev {st : SortSt} {i j : Nat} {Q : Unit → SortSt → Prop} (h : Q () (setArr st (mirror (arrOf st) i j ((j - i) / 2)))) : wpS (model prog w) A E s (reverseSlice' i j) Q st := by
 rw [reverseSlice'_eq]
 exact wpS_modify h
theorem wpS_crTail (hL : LtOk prog w A E s O key D kd) (hd : ∀ x ∈ (arrOf st0).toList, D x) {st : SortSt} {n : Nat} {Q : Option Nat → SortSt → Prop} (c : CR kd st0 st lo (lo + nrem)) (hn : lo + nrem ≤ (arrOf st0).size) (h1 : 1 ≤ n) (hnn : n ≤ nrem) (hs : Dn O key (arrOf st) lo n)
  (h : ∀ m st', CR kd st0 st' lo (lo + nrem) → 1 ≤ m → m ≤ nrem → Up O key (arrOf st') lo m → Q (some m) st') : wpS (model prog w) A E s (crTail lo n nrem) Q st := by
 have hz := c.size
 unfold crTail
 refine wpS_bind (wpS_rev ?_)
 have c' := c.mirror (i := lo) (j := lo + n) (Nat.le_refl _) (by lia) (by lia)
 refine wpS_bind (wpS_crAsc hL hd c' hn h1 hnn ?_ fun m hm1 hm2 hsm _ => wpS_pure (h m _ c' (by lia) hm2 hsm))
 intro i j hij hj
 show O.kle (kk O key (PyProof.Rows.mirror (arrOf st) lo (lo + n) ((lo + n - lo) / 2)) (lo + i)) (kk O key (PyProof.Rows.mirror (arrOf st) lo (lo + n) ((lo + n - lo) / 2)) (lo + j))
 rw [kk_mirror (by lia), kk_mirror (by lia), if_pos (by lia), if_pos (by lia)]
 have := hs (n - 1 - j) (n - 1 - i) (by lia) (by lia)
 rw [show lo + (n - 1 - i) = lo + (lo + n) - 1 - (lo + i) by lia, show lo + (n - 1 - j) = lo + (lo + n) - 1 - (lo + j) by lia] at this
 exact this
theorem wpS_crDesc (hL : LtOk prog w A E s O key D kd) (hd : ∀ x ∈ (arrOf st0).toList, D x) {st : SortSt} {n : Nat} {Q : CSt2 → SortSt → Prop} (c : CR kd st0 st lo (lo + nrem)) (hn : lo + nrem ≤ (arrOf st0).size) (h1 : 1 ≤ n) (hnn : n ≤ nrem) (hs : Dn O key (arrOf st) lo n)
  (h : ∀ m neq st', CR kd st0 st' lo (lo + nrem) → n ≤ m → m ≤ nrem → Dn O key (arrOf st') lo m → neq + 1 ≤ m → (∀ i, lo + m - (neq + 1) ≤ i → i < lo + m → kk O key (arrOf st') i = kk O key (arrOf st') (lo + m - 1)) → Q (none, m, neq) st') :
  wpS (model prog w) A E s (crDesc lo n nrem) Q st := by
 unfold crDesc
 refine wpS_forRange (I := fun x t st' => ∃ neq, t = (none, x, neq) ∧ CR kd st0 st' lo (lo + nrem) ∧ Dn O key (arrOf st') lo x ∧ neq + 1 ≤ x ∧ (∀ i, lo + x - (neq + 1) ≤ i → i < lo + x → kk O key (arrOf st') i = kk O key (arrOf st') (lo + x - 1))) ?step ?fin
  ⟨0, rfl, c, hs, by lia, fun i h1 h2 => by congr 1; lia⟩
 case fin =>
  rintro t st' ⟨neq, rfl, c', hs', hq, he⟩
  rw [show max n nrem = nrem by lia] at hs' hq he ⊢
  exact h nrem neq st' c' hnn (Nat.le_refl _) hs' hq he
 case step =>
  rintro x t st' hax hxn ⟨neq, rfl, c', hs', hq, he⟩
  have hz := c'.size
  dsimp only
  refine wpS_bind (wpS_ltIJ hL c'.kind (c'.dom hd) (by lia) (by lia) ?_)
  dsimp only
  cases q : O.blt (kk O key (arrOf st') (lo + x)) (kk O key (arrOf st') (lo + x - 1)) with
  | true =>
   rw [if_pos rfl]
   have step1 : ∀ xs : Array Keyed, (∀ k, kk O key xs k = kk O key (arrOf st') k) → Dn O key xs lo (x + 1) := by
    intro xs hk i j hij hj
    rw [hk, hk]
    by_cases hjx : j < x
    ·exact hs' i j hij hjx
    ·have hj' : j = x := by lia
     subst hj'
     by_cases hi' : i = j
     ·subst hi'; exact KeyOrd.kle_refl _
     ·have := hs' i (j - 1) (by lia) (by lia)
      rw [show lo + (j - 1) = lo + j - 1 by lia] at this
      exact KeyOrd.kle_trans (KeyOrd.kle_of_klt q) this
   by_cases hneq : neq > 0
   ·rw [if_pos hneq]
    refine wpS_bind (wpS_rev (wpS_pure ⟨0, rfl, c'.mirror (by lia) (by lia) (by lia), step1 _ (kk_mirror_equal (by lia) he), by lia, fun i h1 h2 => by congr 1; lia⟩))
   ·rw [if_neg hneq]
    exact wpS_pure ⟨0, rfl, c', step1 _ (fun _ => rfl), by lia, fun i h1 h2 => by congr 1; lia⟩
  | false =>
   rw [if_neg Bool.false_ne_true]
   refine wpS_bind (wpS_ltIJ hL c'.kind (c'.dom hd) (by lia) (by lia) ?_)
   dsimp only
   cases q2 : O.blt (kk O key (arrOf st') (lo + x - 1)) (kk O key (arrOf st') (lo + x)) with
   | true =>
    rw [if_pos rfl]
    exact wpS_pure (h x neq st' c' hax (by lia) hs' hq he)
   | false =>
    rw [if_neg Bool.false_ne_true]
    have heqx : kk O key (arrOf st') (lo + x) = kk O key (arrOf st') (lo + x - 1) := KeyOrd.kle_antisymm q2 q
    refine wpS_pure ⟨neq + 1, rfl, c', fun i j hij hj => ?_, by lia, fun i h1 h2 => ?_⟩
    ·by_cases hjx : j < x
     ·exact hs' i j hij hjx
     ·have hj' : j = x := by lia
      subst hj'
      by_cases hi' : i = j
      ·subst hi'; exact KeyOrd.kle_refl _
      ·rw [heqx]
       have := hs' i (j - 1) (by lia) (by lia)
       rw [show lo + (j - 1) = lo + j - 1 by lia] at this
       exact this
    ·rw [show lo + (x + 1) - 1 = lo + x by lia]
     by_cases hix : i = lo + x
     ·subst hix; rfl
     ·rw [heqx]; exact he i (by lia) (by lia)
theorem wpS_crPart (hL : LtOk prog w A E s O key D kd) (hd : ∀ x ∈ (arrOf st0).toList, D x) {st : SortSt} {n : Nat} {Q : Option Nat → SortSt → Prop} (c : CR kd st0 st lo (lo + nrem)) (hn : lo + nrem ≤ (arrOf st0).size) (hnn : n + 1 ≤ nrem) (hs : Dn O key (arrOf st) lo (n + 1))
  (h : ∀ m st', CR kd st0 st' lo (lo + nrem) → 1 ≤ m → m ≤ nrem → Up O key (arrOf st') lo m → Q (some m) st') : wpS (model prog w) A E s (crPart lo n nrem) Q st := by
 unfold crPart
 refine wpS_bind (wpS_lift (wpAny_rule ⟨rfl, ?_⟩))
 refine wpS_bind (wpS_crDesc hL hd c hn (by lia) hnn hs fun m neq st' c' hm1 hm2 hs' hq he => ?_)
 have hz := c'.size
 dsimp only
 by_cases hneq : neq > 0
 ·rw [if_pos hneq]
  refine wpS_bind (wpS_rev (wpS_crTail hL hd (c'.mirror (by lia) (by lia) (by lia)) hn (by lia) hm2 ?_ h))
  intro i j hij hj
  show O.kle (kk O key (PyProof.Rows.mirror (arrOf st') _ _ _) (lo + j)) (kk O key (PyProof.Rows.mirror (arrOf st') _ _ _) (lo + i))
  rw [kk_mirror_equal (by lia) he, kk_mirror_equal (by lia) he]
  exact hs' i j hij hj
 ·rw [if_neg hneq]
  exact wpS_crTail hL hd c' hn (by lia) hm2 hs' h
theorem wpS_countRun' (hL : LtOk prog w A E s O key D kd) (hd : ∀ x ∈ (arrOf st0).toList, D x) {Q : Option Nat → SortSt → Prop} (hk : kindOf st0 = kd) (hf : failedOf st0 = none) (hn : lo + nrem ≤ (arrOf st0).size) (h1 : 1 ≤ nrem)
  (h : ∀ m st', CR kd st0 st' lo (lo + nrem) → 1 ≤ m → m ≤ nrem → Up O key (arrOf st') lo m → Q (some m) st') : wpS (model prog w) A E s (countRun' lo nrem) Q st0 := by
 rw [countRun_form]
 have c : CR kd st0 st0 lo (lo + nrem) := ⟨hk, hf, rfl, Array.Perm.refl _, fun _ _ => rfl⟩
 refine wpS_bind (wpS_crAsc hL hd c hn (Nat.le_refl 1) h1 (fun i j hij hj => by have : i = j := (by lia); subst this; exact KeyOrd.kle_refl _) fun n hn1 hn2 hsn hor => ?_)
 dsimp only
 by_cases hnn : n = nrem
 ·rw [if_pos (by simpa using hnn)]
  exact wpS_pure (h n st0 c hn1 hn2 hsn)
 ·rw [if_neg (by simpa using hnn)]
  have hlt := hor.resolve_left hnn
  -- all so far are alike, or there is but one: they fall with the next one
  have fall : ∀ xs : Array Keyed, (∀ k, kk O key xs k = kk O key (arrOf st0) k) → (∀ k, k < n → kk O key (arrOf st0) (lo + k) = kk O key (arrOf st0) (lo + n - 1)) → Dn O key xs lo (n + 1) := by
   intro xs hk hall i j hij hj
   rw [hk, hk]
   by_cases e : j = n
   ·subst e
    by_cases e2 : i = j
    ·subst e2; exact KeyOrd.kle_refl _
    ·rw [hall i (by lia)]
     exact KeyOrd.kle_of_klt hlt
   ·rw [hall i (by lia), hall j (by lia)]
    exact KeyOrd.kle_refl _
  by_cases hgt : n > 1
  ·rw [if_pos hgt]
   refine wpS_bind (wpS_ltIJ hL hk hd (by lia) (by lia) ?_)
   dsimp only
   cases q : O.blt (kk O key (arrOf st0) lo) (kk O key (arrOf st0) (lo + n - 1)) with
   | true =>
    rw [if_pos rfl]
    exact wpS_pure (h n st0 c hn1 hn2 hsn)
   | false =>
    rw [if_neg Bool.false_ne_true]
    have hall : ∀ k, k < n → kk O key (arrOf st0) (lo + k) = kk O key (arrOf st0) (lo + n - 1) := by
     intro k hk'
     have a1 := hsn 0 k (by lia) hk'
     have a2 := hsn k (n - 1) (by lia) (by lia)
     rw [Nat.add_zero] at a1
     rw [show lo + (n - 1) = lo + n - 1 by lia] at a2
     exact KeyOrd.kle_antisymm a2 (KeyOrd.kle_trans q a1)
    refine wpS_bind (wpS_rev (wpS_crPart hL hd (c.mirror (Nat.le_refl _) (by lia) (by lia)) hn (by lia) (fall _ (kk_mirror_equal (by lia) fun k g1 g2 => ?_) hall) h))
    have := hall (k - lo) (by lia)
    rw [show lo + (k - lo) = k by lia] at this
    exact this
  ·rw [if_neg hgt]
   refine wpS_crPart hL hd c hn (by lia) (fall _ (fun _ => rfl) fun k hk' => ?_) h
   congr 1
   lia
theorem wpS_binIns (hL : LtOk prog w A E s O key D kd) (hd : ∀ x ∈ (arrOf st0).toList, D x) {st : SortSt} {n ok : Nat} {Q : Bool → SortSt → Prop} (hn : lo + n ≤ (arrOf st0).size) (hok1 : 1 ≤ ok) (hok : ok ≤ n) (c : CR kd st0 st lo (lo + n)) (hs : Up O key (arrOf st) lo ok)
  (h : ∀ st', CR kd st0 st' lo (lo + n) → Up O key (arrOf st') lo n → Q true st') : wpS (model prog w) A E s (binarySort' lo n ok) Q st := by
 rw [binarySort'_eq]
 refine wpS_bind (wpS_mono (wpS_forRange (I := fun k t st' => t = (none, ()) ∧ CR kd st0 st' lo (lo + n) ∧ Up O key (arrOf st') lo k)
  (Q := fun t st' => t = (none, ()) ∧ CR kd st0 st' lo (lo + n) ∧ Up O key (arrOf st') lo n) ?step ?fin ?init) ?post)
 case post =>
  rintro t st' ⟨rfl, c', hs'⟩
  exact wpS_pure (h st' c' hs')
 case init =>
  rw [show max ok 1 = ok by lia]
  exact ⟨rfl, c, hs⟩
 case fin =>
  rintro t st' ⟨ht, c', hs'⟩
  rw [show max (max ok 1) n = n by lia] at hs'
  exact ⟨ht, c', hs'⟩
 case step =>
  rintro k t st' hak hkn ⟨rfl, c', hs'⟩
  have hz := c'.size
  refine wpS_bind (wpS_mono (wpS_forRange (I := fun x t st'' => st'' = st' ∧ ∃ l r, t = (none, l, r) ∧ l ≤ r ∧ r ≤ k ∧ r - l ≤ k - x ∧
    (∀ i, i < l → O.kle (kk O key (arrOf st') (lo + i)) (kk O key (arrOf st') (lo + k))) ∧ (∀ i, r ≤ i → i < k → O.klt (kk O key (arrOf st') (lo + k)) (kk O key (arrOf st') (lo + i))))
   (Q := fun t st'' => st'' = st' ∧ ∃ l r, t = (none, l, r) ∧ l ≤ k ∧
    (∀ i, i < l → O.kle (kk O key (arrOf st') (lo + i)) (kk O key (arrOf st') (lo + k))) ∧ (∀ i, l ≤ i → i < k → O.klt (kk O key (arrOf st') (lo + k)) (kk O key (arrOf st') (lo + i)))) ?istep ?ifin ?iinit) ?ipost)
  case iinit => exact ⟨rfl, 0, k, rfl, by lia, by lia, by lia, fun i hi => by lia, fun i h1 h2 => by lia⟩
  case ifin =>
   rintro t st'' ⟨rfl, l, r, rfl, hlr, hrk, hm, hlo, hhi⟩
   have : l = r := by lia
   subst this
   exact ⟨rfl, l, l, rfl, hrk, hlo, hhi⟩
  case istep =>
   rintro x t st'' _ hxk ⟨rfl, l, r, rfl, hlr, hrk, hm, hlo, hhi⟩
   dsimp only
   by_cases hge : l ≥ r
   ·rw [if_pos hge]
    have : l = r := by lia
    subst this
    exact wpS_pure ⟨rfl, l, l, rfl, hrk, hlo, hhi⟩
   ·rw [if_neg hge]
    refine wpS_bind (wpS_ltIJ hL c'.kind (c'.dom hd) (by lia) (by lia) ?_)
    cases hless : O.blt (kk O key (arrOf st'') (lo + k)) (kk O key (arrOf st'') (lo + (l + r) / 2)) with
    | true =>
     simp only [if_true]
     refine wpS_pure ⟨rfl, l, (l + r) / 2, rfl, by lia, by lia, by lia, hlo, fun i h1 h2 => ?_⟩
     exact KeyOrd.klt_of_klt_of_kle hless (hs' _ _ h1 h2)
    | false =>
     simp only [Bool.false_eq_true, if_false]
     refine wpS_pure ⟨rfl, (l + r) / 2 + 1, r, rfl, by lia, by lia, by lia, fun i h1 => ?_, hhi⟩
     exact KeyOrd.kle_trans (hs' i ((l + r) / 2) (by lia) (by lia)) (show O.kle _ _ from hless)
  case ipost =>
   rintro t st'' ⟨rfl, l, r, rfl, hlk, hlo, hhi⟩
   show wpS _ _ _ _ (do moveDown' (lo + k) (lo + l); pure (ForInStep.yield (none, ()))) _ _
   rw [moveDown'_eq]
   refine wpS_bind (wpS_modify (wpS_pure ⟨rfl, c'.bubble (by lia) (by lia) (by lia), ?_⟩))
   intro i j hij hj
   show O.kle (kk O key (PyProof.Rows.bubble (arrOf st'') (lo + k) (lo + k - (lo + l))) (lo + i)) (kk O key (PyProof.Rows.bubble (arrOf st'') (lo + k) (lo + k - (lo + l))) (lo + j))
   rw [kk_bubble (by lia) (by lia), kk_bubble (by lia) (by lia), show lo + k - (lo + k - (lo + l)) = lo + l by lia]
   have hsub : ∀ i, 1 ≤ i → lo + i - 1 = lo + (i - 1) := fun i h => by lia
   repeat' split
   all_goals first
    | (exfalso; lia)
    | exact KeyOrd.kle_refl _
    | exact hlo _ (by lia)
    | (rw [hsub _ (by lia)]; exact KeyOrd.kle_of_klt (hhi _ (by lia) (by lia)))
    | exact KeyOrd.kle_of_klt (hhi _ (by lia) (by lia))
    | exact hs' _ _ (by lia) (by lia)
    | (rw [hsub _ (by lia), hsub _ (by lia)]; exact hs' _ _ (by lia) (by lia))
    | (rw [hsub _ (by lia)]; exact hs' _ _ (by lia) (by lia))
end
noncomputable def srMerge (size pw : Nat) : StateT SortSt Sem (Option Unit × Unit) :=
 forIn [:size] ((none, ()) : Option Unit × Unit) fun _ t => do
  let st ← get
  match if (pendingOf st).size > 1 then (pendingOf st)[(pendingOf st).size - 2]? else none with
   | some (f1, f2, older) =>
    if older ≤ pw then pure (ForInStep.done (none, ()))
    else do
     let r ← mergeAt' ((pendingOf st).size - 2)
     if (!r) = true then pure (ForInStep.done (some (), ())) else pure (ForInStep.yield (none, ()))
   | x1 => pure (ForInStep.done (none, ()))
noncomputable def srPush (size lo n : Nat) : StateT SortSt Sem (ForInStep (Option Unit × Nat)) := do
 let st ← get
 match (pendingOf st).back? with
  | some (s1, n1, p1) => do
   let t ← srMerge size (power' size (2 * s1 + n1) (2 * s1 + n1 + n1 + n) size)
   match t.fst with
    | some r => pure (ForInStep.done (some r, lo))
    | none => do
     modify fun s => setPending s ((pendingOf s).modify ((pendingOf s).size - 1) fun x => (x.fst, x.2.fst, power' size (2 * s1 + n1) (2 * s1 + n1 + n1 + n) size))
     modify fun s => setPending s ((pendingOf s).push (lo, n, 0))
     pure (ForInStep.yield (none, lo + n))
  | x1 => do
   modify fun s => setPending s ((pendingOf s).push (lo, n, 0))
   pure (ForInStep.yield (none, lo + n))
noncomputable def srTurn (size lo : Nat) : StateT SortSt Sem (ForInStep (Option Unit × Nat)) :=
 if lo ≥ size then pure (ForInStep.done (none, lo))
 else do
  let __x ← countRun' lo (size - lo)
  match __x with
   | some found =>
    if found < minRun' size size 0 then do
     liftM (rule "list.sort.binary-insertion")
     let r ← binarySort' lo (min (size - lo) (minRun' size size 0)) found
     if (!r) = true then pure (ForInStep.done (some (), lo)) else srPush size lo (min (size - lo) (minRun' size size 0))
    else srPush size lo found
   | x1 => pure (ForInStep.done (some (), lo))
noncomputable def pick (p : Array (Nat × Nat × Nat)) : Nat := if Option.any (fun x => decide (x < p[p.size - 2 + 1]?.elim 0 fun x => x.snd.fst)) (if p.size - 2 > 0 then Option.map (fun x => x.snd.fst) p[p.size - 2 - 1]? else none) = true then p.size - 2 - 1 else p.size - 2
noncomputable def srLast (size : Nat) : StateT SortSt Sem (Option Unit × Unit) :=
 forIn [:size] ((none, ()) : Option Unit × Unit) fun _ t => do
  let st ← get
  if (pendingOf st).size ≤ 1 then pure (ForInStep.done (none, ()))
  else do
   let r ← mergeAt' (pick (pendingOf st))
   if (!r) = true then pure (ForInStep.done (some (), ())) else pure (ForInStep.yield (none, ()))
theorem sortRuns_form : sortRuns' = (do
 let st ← get
 let t ← forIn [:(arrOf st).size] ((none, 0) : Option Unit × Nat) fun _ t => srTurn (arrOf st).size t.snd
 match t.fst with
  | some r => pure r
  | none => do
   let u ← srLast (arrOf st).size
   match u.fst with
    | some r => pure r
    | none => pure ()) := by
 kernel_rfl
section
variable {prog : Program} {w : World} {A : Around} {E : Value → Shared → Prop} {s : Shared} {O : KeyOrd} {key : Keyed → O.α} {D : Keyed → Prop} {kd : SortKind}
noncomputable def Cov (O : KeyOrd) (key : Keyed → O.α) (arr : Array Keyed) : List (Nat × Nat × Nat) → Nat → Nat → Prop
 | [], lo, hi => lo = hi
 | (st, n, _) :: r, lo, hi => st = lo ∧ 1 ≤ n ∧ Seg O key arr st (st + n) ∧ Cov O key arr r (st + n) hi
theorem Cov.le {arr : Array Keyed} : ∀ {ps : List (Nat × Nat × Nat)} {lo hi : Nat}, Cov O key arr ps lo hi → lo + ps.length ≤ hi
 | [], lo, hi, h => by have h : lo = hi := h; simp; lia
 | (st, n, _) :: r, lo, hi, ⟨h1, h2, _, h4⟩ => by
  have := Cov.le h4
  rw [List.length_cons]
  lia
theorem Seg.keep {arr arr' : Array Keyed} {lo hi : Nat} (h : Seg O key arr lo hi) (e : ∀ i, lo ≤ i → i < hi → arr'[i]? = arr[i]?) : Seg O key arr' lo hi := fun i j x y h1 h2 h3 hx hy => h i j x y h1 h2 h3 (by rw [← e i h1 (by lia)]; exact hx) (by rw [← e j (by lia) h3]; exact hy)
theorem Cov.keep {arr arr' : Array Keyed} : ∀ {ps : List (Nat × Nat × Nat)} {lo hi : Nat}, Cov O key arr ps lo hi → (∀ i, lo ≤ i → i < hi → arr'[i]? = arr[i]?) → Cov O key arr' ps lo hi
 | [], lo, hi, h, _ => h
 | (st, n, _) :: r, lo, hi, ⟨h1, h2, h3, h4⟩, e => by
  have := Cov.le h4
  exact ⟨h1, h2, h3.keep fun i a b => e i (by lia) (by lia), Cov.keep h4 fun i a b => e i (by lia) b⟩
theorem Cov.append {arr : Array Keyed} {l2 : List (Nat × Nat × Nat)} : ∀ {l1 : List (Nat × Nat × Nat)} {lo hi : Nat}, Cov O key arr (l1 ++ l2) lo hi ↔ ∃ mid, Cov O key arr l1 lo mid ∧ Cov O key arr l2 mid hi
 | [], lo, hi => ⟨fun h => ⟨lo, rfl, h⟩, fun ⟨mid, h1, h2⟩ => by have h1 : lo = mid := h1; rw [h1]; exact h2⟩
 | (st, n, _) :: r, lo, hi => by
  constructor
  ·rintro ⟨h1, h2, h3, h4⟩
   obtain ⟨mid, g1, g2⟩ := Cov.append.mp h4
   exact ⟨mid, ⟨h1, h2, h3, g1⟩, g2⟩
  ·rintro ⟨mid, ⟨h1, h2, h3, g1⟩, g2⟩
   exact ⟨h1, h2, h3, Cov.append.mpr ⟨mid, g1, g2⟩⟩
theorem Cov.power {arr : Array Keyed} {f : Nat × Nat × Nat → Nat} : ∀ {ps : List (Nat × Nat × Nat)} {i lo hi : Nat}, Cov O key arr ps lo hi → Cov O key arr (ps.modify i fun x => (x.1, x.2.1, f x)) lo hi
 | [], i, lo, hi, h => by rw [List.modify_nil]; exact h
 | (st, n, p) :: r, 0, lo, hi, h => by rw [List.modify_zero_cons]; exact h
 | (st, n, p) :: r, i + 1, lo, hi, ⟨h1, h2, h3, h4⟩ => by rw [List.modify_succ_cons]; exact ⟨h1, h2, h3, Cov.power h4⟩
structure RI (O : KeyOrd) (key : Keyed → O.α) (kd : SortKind) (a₀ : Array Keyed) (st : SortSt) (hi : Nat) : Prop where
 kind : kindOf st = kd
 failed : failedOf st = none
 perm : (arrOf st).Perm a₀
 cov : Cov O key (arrOf st) (pendingOf st).toList 0 hi
theorem list_two {α : Type} {l : List α} {i : Nat} {a b : α} (h1 : l[i]? = some a) (h2 : l[i + 1]? = some b) : l = l.take i ++ a :: b :: l.drop (i + 2) := by
 obtain ⟨g1, e1⟩ := List.getElem?_eq_some_iff.mp h1
 obtain ⟨g2, e2⟩ := List.getElem?_eq_some_iff.mp h2
 conv => lhs; rw [← List.take_append_drop i l, List.drop_eq_getElem_cons g1, List.drop_eq_getElem_cons g2, e1, e2]
theorem wpS_mergeRun (hL : LtOk prog w A E s O key D kd) {a₀ : Array Keyed} (hd : ∀ x ∈ a₀.toList, D x) {st : SortSt} {hi i : Nat} (hhi : hi ≤ a₀.size) (R : RI O key kd a₀ st hi) (hi' : i + 1 < (pendingOf st).size) {Q : Bool → SortSt → Prop}
  (h : ∀ st', RI O key kd a₀ st' hi → (pendingOf st').size + 1 = (pendingOf st).size → (∀ j, hi ≤ j → (arrOf st')[j]? = (arrOf st)[j]?) → Q true st') : wpS (model prog w) A E s (mergeAt' i) Q st := by
 have hz := R.perm.size_eq
 obtain ⟨⟨sa, na, p1⟩, e1⟩ : ∃ x, (pendingOf st)[i]? = some x := ⟨_, Array.getElem?_eq_getElem (by lia)⟩
 obtain ⟨⟨sb, nb, p2⟩, e2⟩ : ∃ x, (pendingOf st)[i + 1]? = some x := ⟨_, Array.getElem?_eq_getElem (by lia)⟩
 have f1 : (pendingOf st).toList[i]? = some (sa, na, p1) := by rw [Array.getElem?_toList]; exact e1
 have f2 : (pendingOf st).toList[i + 1]? = some (sb, nb, p2) := by rw [Array.getElem?_toList]; exact e2
 have el := list_two f1 f2
 have cov := R.cov
 rw [el] at cov
 obtain ⟨mid, c1, ⟨d1, d2, d3, ⟨d4, d5, d6, c2⟩⟩⟩ := Cov.append.mp cov
 have l1 := c1.le
 have l2 := c2.le
 refine wpS_mergeAt hL R.kind R.failed (fun x hx => hd x ((Array.perm_iff_toList_perm.mp R.perm).mem_iff.mp hx)) e1 e2 d4 d2 d5 (by lia) (by rw [d4]; exact d3) d6 fun st' k' f' p' M => ?_
 have hlen : i + 1 < (pendingOf st).toList.length := by rw [Array.length_toList]; exact hi'
 have ep : (pendingOf st').toList = (pendingOf st).toList.take i ++ (sa, na + nb, p1) :: (pendingOf st).toList.drop (i + 2) := by
  rw [p']
  have : (((pendingOf st).setIfInBounds i (sa, na + nb, p1)).eraseIdxIfInBounds (i + 1)).toList = ((pendingOf st).toList.set i (sa, na + nb, p1)).eraseIdx (i + 1) := by simp
  rw [this]
  conv => lhs; rw [el]
  have ht : ((pendingOf st).toList.take i).length = i := by rw [List.length_take]; lia
  rw [List.set_append_right _ _ (by lia), ht, Nat.sub_self, List.set_cons_zero, List.eraseIdx_append_of_length_le (by lia), ht, show i + 1 - i = 1 by lia]
  rfl
 refine h st' ⟨k', f', M.perm.trans R.perm, ?_⟩ ?_ fun j hj => M.off j (.inr (by lia))
 ·rw [ep]
  refine Cov.append.mpr ⟨mid, c1.keep fun j _ b => M.off j (.inl (by lia)), d1, by lia, ?_, ?_⟩
  ·rw [show sa + (na + nb) = sb + nb by lia]
   exact M.seg
  ·rw [show sa + (na + nb) = sb + nb by lia]
   exact c2.keep fun j a _ => M.off j (.inr a)
 ·rw [← Array.length_toList, ep, List.length_append, List.length_cons, List.length_take, List.length_drop, ← Array.length_toList]
  lia
theorem wpS_srMerge (hL : LtOk prog w A E s O key D kd) {a₀ : Array Keyed} (hd : ∀ x ∈ a₀.toList, D x) {st : SortSt} {hi n pw size : Nat} (hhi : hi ≤ a₀.size) (R : RI O key kd a₀ st hi) (sg : Seg O key (arrOf st) hi (hi + n)) {Q : Option Unit × Unit → SortSt → Prop}
  (h : ∀ st', RI O key kd a₀ st' hi → Seg O key (arrOf st') hi (hi + n) → Q (none, ()) st') : wpS (model prog w) A E s (srMerge size pw) Q st := by
 unfold srMerge
 refine wpS_forRange (I := fun _ t st' => t = (none, ()) ∧ RI O key kd a₀ st' hi ∧ Seg O key (arrOf st') hi (hi + n)) ?step ?fin ⟨rfl, R, sg⟩
 case fin =>
  rintro t st' ⟨rfl, R', sg'⟩
  exact h st' R' sg'
 case step =>
  rintro x t st' _ hx ⟨rfl, R', sg'⟩
  refine wpS_bind (wpS_get ?_)
  by_cases e : (pendingOf st').size > 1
  ·rw [if_pos e]
   obtain ⟨⟨f1, f2, older⟩, eo⟩ : ∃ y, (pendingOf st')[(pendingOf st').size - 2]? = some y := ⟨_, Array.getElem?_eq_getElem (by lia)⟩
   rw [eo]
   dsimp only
   split
   ·exact wpS_pure (h st' R' sg')
   ·refine wpS_bind (wpS_mergeRun hL hd hhi R' (by lia) fun st2 R2 _ off => ?_)
    rw [if_neg (by simp)]
    exact wpS_pure ⟨rfl, R2, sg'.keep fun j a _ => off j a⟩
  ·rw [if_neg e]
   exact wpS_pure (h st' R' sg')
theorem wpS_srPush (hL : LtOk prog w A E s O key D kd) {a₀ : Array Keyed} (hd : ∀ x ∈ a₀.toList, D x) {st : SortSt} {lo n size : Nat} (hhi : lo + n ≤ a₀.size) (hn : 1 ≤ n) (R : RI O key kd a₀ st lo) (sg : Seg O key (arrOf st) lo (lo + n)) {Q : ForInStep (Option Unit × Nat) → SortSt → Prop}
  (h : ∀ st', RI O key kd a₀ st' (lo + n) → Q (.yield (none, lo + n)) st') : wpS (model prog w) A E s (srPush size lo n) Q st := by
 have push : ∀ st', RI O key kd a₀ st' lo → Seg O key (arrOf st') lo (lo + n) → RI O key kd a₀ (setPending st' ((pendingOf st').push (lo, n, 0))) (lo + n) := fun st' R' sg' => by
  refine ⟨R'.kind, R'.failed, R'.perm, ?_⟩
  show Cov O key (arrOf st') ((pendingOf st').push (lo, n, 0)).toList 0 (lo + n)
  rw [Array.toList_push]
  exact Cov.append.mpr ⟨lo, R'.cov, rfl, hn, sg', rfl⟩
 unfold srPush
 refine wpS_bind (wpS_get ?_)
 cases eb : (pendingOf st).back? with
 | none =>
  dsimp only
  exact wpS_bind (wpS_modify (wpS_pure (h _ (push st R sg))))
 | some y =>
  obtain ⟨s1, n1, p1⟩ := y
  dsimp only
  refine wpS_bind (wpS_srMerge hL hd (by lia) R sg fun st' R' sg' => ?_)
  dsimp only
  refine wpS_bind (wpS_modify (wpS_bind (wpS_modify (wpS_pure (h _ (push _ ⟨R'.kind, R'.failed, R'.perm, ?_⟩ sg'))))))
  show Cov O key (arrOf st') ((pendingOf st').modify ((pendingOf st').size - 1) fun x => (x.fst, x.2.fst, _)).toList 0 lo
  rw [Array.toList_modify]
  exact R'.cov.power
theorem wpS_srTurn (hL : LtOk prog w A E s O key D kd) {a₀ : Array Keyed} (hd : ∀ x ∈ a₀.toList, D x) {st : SortSt} {lo : Nat} (hlo : lo ≤ a₀.size) (R : RI O key kd a₀ st lo) {Q : ForInStep (Option Unit × Nat) → SortSt → Prop}
  (h1 : lo = a₀.size → Q (.done (none, lo)) st) (h2 : ∀ n st', 1 ≤ n → lo + n ≤ a₀.size → RI O key kd a₀ st' (lo + n) → Q (.yield (none, lo + n)) st') : wpS (model prog w) A E s (srTurn a₀.size lo) Q st := by
 have hz := R.perm.size_eq
 have hd' : ∀ x ∈ (arrOf st).toList, D x := fun x hx => hd x ((Array.perm_iff_toList_perm.mp R.perm).mem_iff.mp hx)
 unfold srTurn
 by_cases e : lo ≥ a₀.size
 ·rw [if_pos e]
  exact wpS_pure (h1 (by lia))
 ·rw [if_neg e]
  refine wpS_bind (wpS_countRun' hL hd' R.kind R.failed (lo := lo) (nrem := a₀.size - lo) (by lia) (by lia) fun m st1 c m1 m2 up => ?_)
  dsimp only
  have R1 : RI O key kd a₀ st1 lo := ⟨c.kind, c.failed, c.perm.trans R.perm, by rw [c.pend]; exact R.cov.keep fun j _ b => c.off j (.inl b)⟩
  by_cases e2 : m < minRun' a₀.size a₀.size 0
  ·rw [if_pos e2]
   refine wpS_bind (wpS_lift (wpAny_rule ⟨rfl, ?_⟩))
   have hz1 := c.size
   refine wpS_bind (wpS_binIns hL (c.dom hd') (st0 := st1) (lo := lo) (n := min (a₀.size - lo) (minRun' a₀.size a₀.size 0)) (ok := m) (by lia) m1 (by lia) ⟨c.kind, c.failed, rfl, Array.Perm.refl _, fun _ _ => rfl⟩ up fun st2 c2 up2 => ?_)
   rw [if_neg (by simp)]
   refine wpS_srPush hL hd (by lia) (by lia) ⟨c2.kind, c2.failed, c2.perm.trans R1.perm, by rw [c2.pend]; exact R1.cov.keep fun j _ b => c2.off j (.inl b)⟩ up2.seg fun st3 R3 => h2 _ st3 (by lia) (by lia) R3
  ·rw [if_neg e2]
   exact wpS_srPush hL hd (by lia) m1 R1 up.seg fun st3 R3 => h2 _ st3 m1 (by lia) R3
theorem pick_lt {p : Array (Nat × Nat × Nat)} (h : ¬ p.size ≤ 1) : pick p + 1 < p.size := by
 unfold pick
 by_cases e : p.size - 2 > 0
 ·rw [if_pos e]
  split <;> lia
 ·rw [if_neg e, if_neg (by simp)]
  lia
theorem wpS_sortAll (hL : LtOk prog w A E s O key D kd) {st : SortSt} (hd : ∀ x ∈ (arrOf st).toList, D x) (hk : kindOf st = kd) (hf : failedOf st = none) (hp : pendingOf st = #[]) (hn : 1 ≤ (arrOf st).size) {Q : Unit → SortSt → Prop}
  (h : ∀ st', (arrOf st').Perm (arrOf st) → failedOf st' = none → Seg O key (arrOf st') 0 (arrOf st).size → Q () st') : wpS (model prog w) A E s sortRuns' Q st := by
 rw [sortRuns_form]
 refine wpS_bind (wpS_get ?_)
 generalize ha : arrOf st = a₀ at *
 have R0 : RI O key kd a₀ st 0 := ⟨hk, hf, by rw [ha], by rw [hp]; rfl⟩
 refine wpS_bind (wpS_mono (wpS_forRange (I := fun x t st' => ∃ lo, t = (none, lo) ∧ x ≤ lo ∧ lo ≤ a₀.size ∧ RI O key kd a₀ st' lo) (Q := fun t st' => t = (none, a₀.size) ∧ RI O key kd a₀ st' a₀.size) ?step ?fin ⟨0, rfl, Nat.le_refl _, Nat.zero_le _, R0⟩) ?post)
 case fin =>
  rintro t st' ⟨lo, rfl, h1, h2, R⟩
  have : lo = a₀.size := by rw [show max 0 a₀.size = a₀.size by lia] at h1; lia
  subst this
  exact ⟨rfl, R⟩
 case step =>
  rintro x t st' _ hx ⟨lo, rfl, h1, h2, R⟩
  refine wpS_srTurn hL hd h2 R (fun e => ?_) fun n st2 n1 n2 R2 => ?_
  ·subst e; exact ⟨rfl, R⟩
  ·exact ⟨lo + n, rfl, by lia, n2, R2⟩
 case post =>
  rintro t st' ⟨rfl, R⟩
  dsimp only
  unfold srLast
  refine wpS_bind (wpS_mono (wpS_forRange (I := fun x t st'' => t = (none, ()) ∧ RI O key kd a₀ st'' a₀.size ∧ ((pendingOf st'').size ≤ 1 ∨ (pendingOf st'').size + x ≤ a₀.size)) (Q := fun t st'' => t = (none, ()) ∧ RI O key kd a₀ st'' a₀.size ∧ (pendingOf st'').size ≤ 1) ?step2 ?fin2 ⟨rfl, R, .inr ?init2⟩) ?post2)
  case init2 =>
   have := R.cov.le
   rw [Array.length_toList] at this
   lia
  case fin2 =>
   rintro t st'' ⟨rfl, R, hs⟩
   refine ⟨rfl, R, ?_⟩
   rcases hs with hs | hs
   ·exact hs
   ·rw [show max 0 a₀.size = a₀.size by lia] at hs
    lia
  case step2 =>
   rintro x t st'' _ hx ⟨rfl, R, hs⟩
   refine wpS_bind (wpS_get ?_)
   by_cases e : (pendingOf st'').size ≤ 1
   ·rw [if_pos e]
    exact wpS_pure ⟨rfl, R, e⟩
   ·rw [if_neg e]
    refine wpS_bind (wpS_mergeRun hL hd (Nat.le_refl _) R (pick_lt e) fun st2 R2 hsz _ => ?_)
    rw [if_neg (by simp)]
    exact wpS_pure ⟨rfl, R2, .inr (by lia)⟩
  case post2 =>
   rintro t st'' ⟨rfl, R, hs⟩
   dsimp only
   refine wpS_pure (h st'' R.perm R.failed ?_)
   have cov := R.cov
   have hl : (pendingOf st'').toList.length ≤ 1 := by rw [Array.length_toList]; exact hs
   cases hc : (pendingOf st'').toList with
   | nil =>
    rw [hc] at cov
    have : 0 = a₀.size := cov
    lia
   | cons y r =>
    rw [hc, List.length_cons] at hl
    have : r = [] := List.eq_nil_of_length_eq_zero (by lia)
    subst this
    rw [hc] at cov
    obtain ⟨st1, n1, p1⟩ := y
    obtain ⟨c1, c2, c3, c4⟩ := cov
    have c4 : st1 + n1 = a₀.size := c4
    have c1 : st1 = 0 := c1
    subst c1
    rw [c4] at c3
    exact c3
end
end Tim
namespace L2
open PySem PySem.Spec PyProof.Rows
noncomputable abbrev NK := Int × List Int
theorem lexLt_irr : ∀ a : List Int, HT.lexLt a a = false
 | [] => rfl
 | x :: a => by rw [HT.lexLt_cons, if_pos rfl]; exact lexLt_irr a
theorem lexLt_tri : ∀ a b : List Int, HT.lexLt a b = false → HT.lexLt b a = false → a = b
 | [], [], _, _ => rfl
 | [], _ :: _, h, _ => by rw [HT.lexLt_nil_cons] at h; cases h
 | _ :: _, [], _, h => by rw [HT.lexLt_nil_cons] at h; cases h
 | x :: a, y :: b, h1, h2 => by
  rw [HT.lexLt_cons] at h1 h2
  by_cases e : x = y
  ·subst e
   rw [if_pos rfl] at h1 h2
   rw [lexLt_tri a b h1 h2]
  ·rw [if_neg e] at h1
   rw [if_neg (fun z => e z.symm)] at h2
   have := of_decide_eq_false h1
   have := of_decide_eq_false h2
   lia
theorem lexLt_trans : ∀ a b c : List Int, HT.lexLt a b = true → HT.lexLt b c = true → HT.lexLt a c = true
 | [], [], _, h, _ => by rw [HT.lexLt_nil_nil] at h; cases h
 | [], _ :: _, [], _, h => by rw [HT.lexLt_cons_nil] at h; cases h
 | [], _ :: _, _ :: _, _, _ => rfl
 | _ :: _, [], _, h, _ => by rw [HT.lexLt_cons_nil] at h; cases h
 | _ :: _, _ :: _, [], _, h => by rw [HT.lexLt_cons_nil] at h; cases h
 | x :: a, y :: b, z :: c, h1, h2 => by
  rw [HT.lexLt_cons] at h1 h2 ⊢
  by_cases e1 : x = y
  ·subst e1
   rw [if_pos rfl] at h1
   by_cases e2 : x = z
   ·subst e2
    rw [if_pos rfl] at h2 ⊢
    exact lexLt_trans a b c h1 h2
   ·rw [if_neg e2] at h2 ⊢
    exact h2
  ·rw [if_neg e1] at h1
   have l1 := of_decide_eq_true h1
   by_cases e2 : y = z
   ·subst e2
    rw [if_neg e1]
    exact h1
   ·rw [if_neg e2] at h2
    have l2 := of_decide_eq_true h2
    rw [if_neg (by lia)]
    exact decide_eq_true (by lia)
noncomputable def pkLt (a b : NK) : Bool := if a.1 = b.1 then HT.lexLt a.2 b.2 else decide (a.1 < b.1)
theorem pkLt_tri (a b : NK) (h1 : pkLt a b = false) (h2 : pkLt b a = false) : a = b := by
 unfold pkLt at h1 h2
 by_cases e : a.1 = b.1
 ·rw [if_pos e] at h1
  rw [if_pos e.symm] at h2
  exact Prod.ext e (lexLt_tri _ _ h1 h2)
 ·rw [if_neg e] at h1
  rw [if_neg (fun z => e z.symm)] at h2
  have := of_decide_eq_false h1
  have := of_decide_eq_false h2
  lia
theorem pkLt_trans (a b c : NK) (h1 : pkLt a b = true) (h2 : pkLt b c = true) : pkLt a c = true := by
 unfold pkLt at *
 by_cases e1 : a.1 = b.1
 ·rw [if_pos e1] at h1
  by_cases e2 : b.1 = c.1
  ·rw [if_pos e2] at h2
   rw [if_pos (by lia)]
   exact lexLt_trans _ _ _ h1 h2
  ·rw [if_neg e2] at h2
   have := of_decide_eq_true h2
   rw [if_neg (by lia)]
   exact decide_eq_true (by lia)
 ·rw [if_neg e1] at h1
  have l1 := of_decide_eq_true h1
  by_cases e2 : b.1 = c.1
  ·rw [if_neg (by lia)]
   exact decide_eq_true (by lia)
  ·rw [if_neg e2] at h2
   have := of_decide_eq_true h2
   rw [if_neg (by lia)]
   exact decide_eq_true (by lia)
theorem pkLt_irr (a : NK) : pkLt a a = false := by unfold pkLt; rw [if_pos rfl]; exact lexLt_irr _
noncomputable def pkOrd : KeyOrd where
 α := NK
 blt := pkLt
 irrefl := pkLt_irr
 trans := pkLt_trans
 negTrans := fun a b c h => by
  cases q : pkLt a b with
  | true => exact .inl rfl
  | false =>
   cases q2 : pkLt b a with
   | true => exact .inr (pkLt_trans _ _ _ q2 h)
   | false =>
    have := pkLt_tri a b q q2
    subst this
    exact .inr h
 total := pkLt_tri
noncomputable def PairAt (h : Heap) (v : Value) (k : NK) : Prop := ∃ (a b : Addr) (t : Tok) (its : List Value), v = .ref a ∧ IsTup h a ([.int k.1 t, .ref b] : List Value).toArray ∧ IsTup h b its.toArray ∧ IntsAre its k.2
theorem isTup_fn {h : Heap} {a : Addr} {xs ys : Array Value} (h1 : IsTup h a xs) (h2 : IsTup h a ys) : xs = ys := by
 obtain ⟨o, e1, _, n, d1⟩ := h1
 obtain ⟨o', e2, _, n', d2⟩ := h2
 rw [e1] at e2
 cases e2
 rw [d1] at d2
 injection d2
theorem PairAt.fn {h : Heap} {v : Value} {k k' : NK} (h1 : PairAt h v k) (h2 : PairAt h v k') : k = k' := by
 obtain ⟨a, b, t, its, rfl, t1, u1, i1⟩ := h1
 obtain ⟨a', b', t', its', e, t2, u2, i2⟩ := h2
 cases e
 have e := isTup_fn t1 t2
 have e : ([.int k.1 t, .ref b] : List Value) = [.int k'.1 t', .ref b'] := by simpa using e
 injection e with e1 e2
 injection e2 with e2 _
 injection e1 with e1 _
 injection e2 with e2
 subst e2
 have e3 : its = its' := by simpa using isTup_fn u1 u2
 subst e3
 have e4 : k.2 = k'.2 := i1.nums.symm.trans i2.nums
 exact Prod.ext e1 e4
theorem IsTup.mono {h h' : Heap} {a : Addr} {xs : Array Value} (x : IsTup h a xs) (k : ∀ b o, h.get? b = some o → o.cls = .type "tuple" → h'.get? b = some o) : IsTup h' a xs := by
 obtain ⟨o, e, c, d⟩ := x
 exact ⟨o, k a o e c, c, d⟩
theorem PairAt.mono {h h' : Heap} {v : Value} {k : NK} (x : PairAt h v k) (m : ∀ b o, h.get? b = some o → o.cls = .type "tuple" → h'.get? b = some o) : PairAt h' v k := by
 obtain ⟨a, b, t, its, e, t1, u1, i1⟩ := x
 exact ⟨a, b, t, its, e, IsTup.mono t1 m, IsTup.mono u1 m, i1⟩
open Classical in
noncomputable def keyP (h : Heap) (p : Keyed) : NK := if q : ∃ k, PairAt h p.1 k then q.choose else (0, [])
theorem keyP_eq {h : Heap} {p : Keyed} {k : NK} (x : PairAt h p.1 k) : keyP h p = k := by
 unfold keyP
 have q : ∃ k, PairAt h p.1 k := ⟨k, x⟩
 rw [dif_pos q]
 exact PairAt.fn q.choose_spec x
section
variable {prog : Program} {w : World} {A : Around} {E : Value → Shared → Prop} {s : Shared}
theorem eqAt_tups {a b : Addr} {us vs : List Value} {ns ms : List Int} (h1 : IsTup s.heap a us.toArray) (h2 : IsTup s.heap b vs.toArray) (i1 : IntsAre us ns) (i2 : IntsAre vs ms) (hu : A.units + 1 < cLine) : SeqAt.EqAt A s (.ref a) (.ref b) (decide (ns = ms)) := by
 by_cases e : a = b
 ·subst e
  have e3 : us = vs := by simpa using isTup_fn h1 h2
  subst e3
  have e4 : ns = ms := i1.nums.symm.trans i2.nums
  rw [decide_eq_true e4]
  exact SeqAt.EqAt.same _
 ·have l1 : us.length = ns.length := by rw [← i1.nums, List.length_map]
  have l2 : vs.length = ms.length := by rw [← i2.nums, List.length_map]
  have z := SeqAt.RcAt.tuples (A := A) (s := s) (e := fun j => decide (ns[j]? = ms[j]?)) (show s.heap.IsTuple a us.toArray from h1) (show s.heap.IsTuple b vs.toArray from h2) (by lia) (fun j g1 g2 => by
   have g1' : j < us.length := by simpa using g1
   have g2' : j < vs.length := by simpa using g2
   obtain ⟨n, t, e1, f1⟩ := i1.at j us[j] (List.getElem?_eq_getElem g1')
   obtain ⟨m, t', e2, f2⟩ := i2.at j vs[j] (List.getElem?_eq_getElem g2')
   have x1 : us.toArray[j] = .int n t := by simpa using e1
   have x2 : vs.toArray[j] = .int m t' := by simpa using e2
   rw [x1, x2, f1, f2]
   have : decide (some n = some m) = (n == m) := by
    cases q : (n == m) with
    | true => exact decide_eq_true (by rw [eq_of_beq q])
    | false => exact decide_eq_false (fun z => by cases z; simp at q)
   rw [this]
   exact SeqAt.EqAt.int_int n t m t')
  rw [List.size_toArray, List.size_toArray, l1, l2, all_eqMin] at z
  exact SeqAt.EqAt.of_refs e z
theorem ltOk_pairs (hu : A.units + 1 < cLine) : Tim.LtOk prog w A E s pkOrd (keyP s.heap) (fun p => ∃ k, PairAt s.heap p.1 k) (tuples' true) := by
 intro st x y Q dx dy hk h
 obtain ⟨k1, p1⟩ := dx
 obtain ⟨k2, p2⟩ := dy
 rw [keyP_eq p1, keyP_eq p2] at h
 obtain ⟨a1, b1, t1, i1, e1, T1, U1, I1⟩ := p1
 obtain ⟨a2, b2, t2, i2, e2, T2, U2, I2⟩ := p2
 rw [lt'_eq]
 refine wpS_bind (wpS_get ?_)
 rw [hk, e1, e2]
 obtain ⟨o1, g1, c1, n1, d1⟩ := id T1
 obtain ⟨o2, g2, c2, n2, d2⟩ := id T2
 refine wpS_bind (wpS_lift (wpAny_attempt (PySem.W.kat_lt g1 d1 g2 d2 ?_)))
 have fin : ∀ b : Bool, b = pkLt k1 k2 → (s = s ∧ wpS (model prog w) A E s (match (Except.ok b : Except Value Bool) with
   | .ok b => (pure (some b) : StateT SortSt Sem (Option Bool))
   | .error e => do modify (fun s => SortSt.mk' (kindOf s) (arrOf s) (pendingOf s) (gallopOf s) (some e)); pure none) Q st) := by
  rintro b rfl
  exact ⟨rfl, wpS_pure h⟩
 show PySem.W.KatLex prog w A true _ _ [(.int k1.1 t1, .int k2.1 t2), (.ref b1, .ref b2)] 0 s
 refine PySem.W.kat_cons (wpAny_eqBool_int ?_)
 refine PySem.W.kat_go (fun q => ?_) (fun q => ?_)
 ·have q : k1.1 = k2.1 := eq_of_beq q
  refine PySem.W.kat_yes (PySem.W.kat_cons (eqAt_tups U1 U2 I1 I2 hu prog w _ _ ?_))
  refine PySem.W.kat_go (fun q2 => ?_) (fun q2 => ?_)
  ·have q2 : k1.2 = k2.2 := of_decide_eq_true q2
   refine PySem.W.kat_yes (PySem.W.kat_nil (fin _ ?_))
   unfold pkLt
   rw [if_pos q, q2, lexLt_irr]
   rfl
  ·refine PySem.W.kat_no (PySem.W.kat_one _ _ (HT.lt_tupInts U1 U2 (by simpa using I1) (by simpa using I2) (by lia) (fin _ ?_)))
   unfold pkLt
   rw [if_pos q]
 ·have q : ¬ k1.1 = k2.1 := fun z => by rw [z] at q; simp at q
  refine PySem.W.kat_no (oneLt_int (fin _ ?_))
  unfold pkLt
  rw [if_neg q]
end
section
variable {prog : Program} {w : World} {A : Around} {E : Value → Shared → Prop} {s : Shared}
noncomputable def SortedOut (h : Heap) (vs out : List Value) : Prop := out.Perm vs ∧ ∀ (i j : Nat) (x y : Value) (k l : NK), i ≤ j → out[i]? = some x → out[j]? = some y → PairAt h x k → PairAt h y l → pkLt l k = false
theorem katTups_of {h : Heap} : ∀ {vs : List Value}, (∀ v ∈ vs, ∃ k, PairAt h v k) → ∃ fs : List Value, PySem.W.KatTups h vs fs ∧ fs.length = vs.length ∧ ∀ v ∈ fs, ∃ n t, v = .int n t
 | [], _ => ⟨[], trivial, rfl, fun v hv => (nomatch hv)⟩
 | v :: vs, hp => by
  obtain ⟨fs, h1, h2, h3⟩ := katTups_of (vs := vs) fun v hv => hp v (List.mem_cons_of_mem _ hv)
  obtain ⟨k, a, b, t, its, rfl, ⟨o, e, c, n, d⟩, _, _⟩ := hp v List.mem_cons_self
  exact ⟨.int k.1 t :: fs, PySem.W.KatTups.cons e c d rfl h1, by rw [List.length_cons, List.length_cons, h2], fun u hu => by
   rcases List.mem_cons.mp hu with z | z
   ·exact ⟨_, _, z⟩
   ·exact h3 u z⟩
theorem list_sort_pairs {a : Addr} {vs : List Value} {n : Nat} {P : PySem.Fin → Shared → Prop} (ho : s.heap.get? a = some (seqObj "list" vs.toArray n)) (hp : ∀ v ∈ vs, ∃ k, PairAt s.heap v k) (hz : vs.length ≤ 1000000) (hu : A.units + 1 < cLine)
  (h : ∀ out : List Value, SortedOut s.heap vs out → P (.done (.ret .none)) { s with heap := sortedHeap s.heap a vs out.toArray }) :
  wpAny (model prog w) A (Builtin.«list.sort» ⟨[.ref a], []⟩) P E s := by
 have hzl : vs.length ≤ sizeLine := by rw [sizeLine_eq]; lia
 rw [list_sort_plain]
 have ha : a < s.heap.objs.size := Heap.lt_size ho
 refine wpAny_bind (listItems_at ho rfl ?_)
 refine wpAny_bind (listUpdate_at ho rfl ?_ (by rw [List.size_toArray]; exact hzl) (Nat.zero_le _))
 obtain ⟨e1, ho1⟩ : ∃ e1, (s.heap.update a (Obj.mapSeq fun _ => #[])).get? a = some (seqObj "list" #[] e1) := ⟨_, get?_update_seq ho (fun _ => #[])⟩
 refine wpAny_bind (seqEpoch_at ho1 rfl ?_)
 refine wpAny_bind (wpAny_newTuple ?_ (by show vs.length ≤ _; exact hzl))
 refine wpAny_bind (wpAny_newList ?_ (Nat.zero_le _))
 refine wpAny_holding ?_
 have ho6 : (((s.heap.update a (Obj.mapSeq fun _ => #[])).push (seqObj "tuple" vs.toArray 0)).push (seqObj "list" #[] 0)).get? a = some (seqObj "list" #[] e1) := by
  rw [Heap.get?_push_ne _ _ _ (by rw [size_push', Heap.size_update]; exact Nat.ne_of_lt (Nat.lt_succ_of_lt ha)), Heap.get?_push_ne _ _ _ (by rw [Heap.size_update]; exact Nat.ne_of_lt ha)]
  exact ho1
 show wpAny (model prog w) A _ P E { s with heap := ((s.heap.update a (Obj.mapSeq fun _ => #[])).push (seqObj "tuple" vs.toArray 0)).push (seqObj "list" #[] 0) }
 dsimp only
 have hsz : vs.toArray.size = vs.length := by simp
 have keep : ∀ b o, s.heap.get? b = some o → o.cls = .type "tuple" → (((s.heap.update a (Obj.mapSeq fun _ => #[])).push (seqObj "tuple" vs.toArray 0)).push (seqObj "list" #[] 0)).get? b = some o := fun b o q c => by
  have hlt : b < s.heap.objs.size := Heap.lt_size q
  have hne : b ≠ a := by
   rintro rfl
   rw [ho] at q
   cases q
   have c : Value.type "list" = Value.type "tuple" := c
   injection c with c
   exact absurd c (by decide)
  rw [Heap.get?_push_ne _ _ _ (by rw [size_push', Heap.size_update]; exact Nat.ne_of_lt (Nat.lt_succ_of_lt hlt)), Heap.get?_push_ne _ _ _ (by rw [Heap.size_update]; exact Nat.ne_of_lt hlt), Heap.get?_update_ne _ _ _ _ hne]
  exact q
 by_cases h2 : vs.toArray.size < 2
 ·rw [if_pos h2, if_pos h2]
  refine wpAny_bind (wpAny_pure ?_)
  rw [StateT.run_pure]
  refine wpAny_bind (wpAny_pure ?_)
  dsimp only
  refine wpAny_bind (seqEpoch_at ho6 rfl ?_)
  refine wpAny_bind (listUpdate_at ho6 rfl ?_ (Nat.zero_le _) (by rw [Array.size_map]; show (pairsOf vs).size ≤ _; rw [pairsOf_size]; lia))
  simp only [bne_self_eq_false, Bool.false_eq_true, if_false]
  have eo : ((vs.toArray.zip vs.toArray).map (·.2)) = vs.toArray := by
   apply Array.toList_inj.mp
   rw [Array.toList_map]
   show (pairsOf vs).toList.map _ = _
   rw [pairsOf_toList, List.map_snd_zip (Nat.le_refl _)]
  rw [show arrOf (SortSt.mk' general' (vs.toArray.zip vs.toArray) #[] 7 none) = vs.toArray.zip vs.toArray from rfl, eo]
  refine wpAny_pure (h vs ⟨List.Perm.refl _, fun i j x y k l hij hx hy px py => ?_⟩)
  have g1 := (List.getElem?_eq_some_iff.mp hx).1
  have g2 := (List.getElem?_eq_some_iff.mp hy).1
  have : i = j := by lia
  subst this
  rw [hx] at hy
  cases hy
  rw [PairAt.fn px py]
  exact pkLt_irr _
 ·rw [if_neg h2, if_neg h2]
  obtain ⟨fs, kt, kl, kf⟩ := katTups_of (h := ((s.heap.update a (Obj.mapSeq fun _ => #[])).push (seqObj "tuple" vs.toArray 0)).push (seqObj "list" #[] 0)) (vs := vs) fun v hv => let ⟨k, pk⟩ := hp v hv; ⟨k, pk.mono keep⟩
  refine wpAny_bind (PySem.W.kat_kind (T := .type "int") kt (by lia) (fun v hv => ?_) rfl ?_)
  ·obtain ⟨n, t, rfl⟩ := kf v hv
   exact PySem.W.Looks.now
  show wpAny (model prog w) A _ P E { s with heap := ((s.heap.update a (Obj.mapSeq fun _ => #[])).push (seqObj "tuple" vs.toArray 0)).push (seqObj "list" #[] 0) }
  have hmem : ∀ x ∈ (pairsOf vs).toList, x.1 = x.2 ∧ x.1 ∈ vs := fun x hx => by
   rw [pairsOf_toList] at hx
   exact mem_zip_self hx
  refine wpAny_bind (wpAny_mono (Tim.wpS_sortAll (O := pkOrd) (kd := tuples' true) (ltOk_pairs (s := { s with heap := ((s.heap.update a (Obj.mapSeq fun _ => #[])).push (seqObj "tuple" vs.toArray 0)).push (seqObj "list" #[] 0) }) hu) (st := SortSt.mk' (tuples' true) (pairsOf vs) #[] 7 none)
   (fun x hx => ?_) rfl rfl rfl ?_
   (Q := fun _ st' => (arrOf st').Perm (pairsOf vs) ∧ failedOf st' = none ∧ Tim.Seg pkOrd (keyP (((s.heap.update a (Obj.mapSeq fun _ => #[])).push (seqObj "tuple" vs.toArray 0)).push (seqObj "list" #[] 0))) (arrOf st') 0 (pairsOf vs).size) fun st' a1 a2 a3 => ⟨a1, a2, a3⟩) ?_ fun _ _ e => e)
  ·obtain ⟨k, pk⟩ := hp x.1 (hmem x hx).2
   exact ⟨k, pk.mono keep⟩
  ·show 1 ≤ (pairsOf vs).size
   rw [pairsOf_size]
   lia
  rintro ⟨⟨⟩, st'⟩ s' ⟨rfl, hperm, hf, hseg⟩
  dsimp only
  refine wpAny_bind (seqEpoch_at ho6 rfl ?_)
  refine wpAny_bind (listUpdate_at ho6 rfl ?_ (Nat.zero_le _) (by refine Nat.le_trans (Nat.le_of_eq ((Array.size_map ..).trans (hperm.size_eq.trans (pairsOf_size _)))) ?_; lia))
  rw [hf]
  simp only [bne_self_eq_false, Bool.false_eq_true, if_false]
  have hl : (arrOf st').toList.Perm (pairsOf vs).toList := Array.perm_iff_toList_perm.mp hperm
  have hm2 : ∀ x ∈ (arrOf st').toList, x.1 = x.2 ∧ x.1 ∈ vs := fun x hx => hmem x (hl.mem_iff.mp hx)
  have hh := h ((arrOf st').map fun (x : Keyed) => x.2).toList
  rw [Array.toArray_toList] at hh
  refine wpAny_pure (hh ⟨?_, fun i j x y k l hij hx hy px py => ?_⟩)
  ·rw [Array.toList_map]
   have := hl.map (·.2)
   rw [pairsOf_toList, List.map_snd_zip (Nat.le_refl _)] at this
   exact this
  ·rw [Array.toList_map, List.getElem?_map] at hx hy
   cases ex : (arrOf st').toList[i]? with
   | none => rw [ex] at hx; cases hx
   | some p =>
    cases ey : (arrOf st').toList[j]? with
    | none => rw [ey] at hy; cases hy
    | some r =>
     rw [ex] at hx
     rw [ey] at hy
     have hx : p.2 = x := Option.some.inj hx
     have hy : r.2 = y := Option.some.inj hy
     have p1 := (hm2 p (List.mem_of_getElem? ex)).1
     have r1 := (hm2 r (List.mem_of_getElem? ey)).1
     have gj := (List.getElem?_eq_some_iff.mp ey).1
     rw [Array.length_toList, hperm.size_eq] at gj
     have z := hseg i j p r (Nat.zero_le _) hij gj (by rw [← Array.getElem?_toList]; exact ex) (by rw [← Array.getElem?_toList]; exact ey)
     have q1 : keyP (((s.heap.update a (Obj.mapSeq fun _ => #[])).push (seqObj "tuple" vs.toArray 0)).push (seqObj "list" #[] 0)) p = k := keyP_eq (by rw [p1, hx]; exact px.mono keep)
     have q2 : keyP (((s.heap.update a (Obj.mapSeq fun _ => #[])).push (seqObj "tuple" vs.toArray 0)).push (seqObj "list" #[] 0)) r = l := keyP_eq (by rw [r1, hy]; exact py.mono keep)
     have z : pkLt (keyP _ r) (keyP _ p) = false := z
     rw [q1, q2] at z
     exact z
theorem sorted_pairs {l : Addr} {vs : List Value} {Q : Value → Shared → Prop} (hl : s.heap.IsList l vs.toArray) (hp : ∀ v ∈ vs, ∃ k, PairAt s.heap v k) (hz : vs.length ≤ 1000000) (hu : A.units + 10 < cLine)
  (h : ∀ out : List Value, SortedOut s.heap vs out → Q (.ref (s.heap.objs.size + 1)) { s with heap := sortedAll s.heap vs out.toArray }) :
  wpAny (model prog w) A (call (.builtin "sorted") [.ref l]) Q E s := by
 have hzl : vs.length ≤ sizeLine := by rw [sizeLine_eq]; lia
 refine Calls.call_function_entry kind_sorted plain_sorted entry_sorted (args_sorted1 _) ?_
 unfold Builtin.«sorted»
 refine wpAny_bind (m := checkCount "sorted" 1 1 _) (wpAny_pure ?_)
 refine wpAny_bind (collect_list hl ?_ hzl)
 refine wpAny_bind (wpAny_newList ?_ hzl)
 have hsz : ((s.heap.push (seqObj "list" #[] 0)).update s.heap.objs.size (Obj.mapSeq (· ++ vs.toArray))).objs.size = s.heap.objs.size + 1 := by
  rw [Heap.size_update, size_push']
 have hoL : (((s.heap.push (seqObj "list" #[] 0)).update s.heap.objs.size (Obj.mapSeq (· ++ vs.toArray))).push (seqObj "list" vs.toArray 0)).get? (s.heap.objs.size + 1) = some (seqObj "list" vs.toArray 0) := by
  rw [← hsz]; exact Heap.get?_push_size _ rfl
 have keep : ∀ b o, s.heap.get? b = some o → (((s.heap.push (seqObj "list" #[] 0)).update s.heap.objs.size (Obj.mapSeq (· ++ vs.toArray))).push (seqObj "list" vs.toArray 0)).get? b = some o := fun b o q => by
  have hlt : b < s.heap.objs.size := Heap.lt_size q
  rw [Heap.get?_push_ne _ _ _ (by rw [hsz]; exact Nat.ne_of_lt (Nat.lt_succ_of_lt hlt)), Heap.get?_update_ne _ _ _ _ (Nat.ne_of_lt hlt), Heap.get?_push_ne _ _ _ (Nat.ne_of_lt hlt)]
  exact q
 show wpAny _ _ _ _ _ { s with heap := ((s.heap.push (seqObj "list" #[] 0)).update s.heap.objs.size (Obj.mapSeq (· ++ vs.toArray))).push (seqObj "list" vs.toArray 0) }
 rw [hsz]
 refine wpAny_bind (wpAny_holding (wpAny_call_entry slot_list_sort ⟨_, hoL, rfl⟩ entry_list_sort (list_sort_pairs hoL (fun v hv => let ⟨k, pk⟩ := hp v hv; ⟨k, pk.mono fun b o q _ => keep b o q⟩) hz (by show A.units + 1 + 1 + 1 < cLine; lia) fun out so => ⟨_, rfl, ?_⟩) (args_list_sort _)))
 refine wpAny_pure ⟨_, rfl, h out ⟨so.1, fun i j x y k l hij hx hy px py => so.2 i j x y k l hij hx hy (px.mono fun b o q _ => keep b o q) (py.mono fun b o q _ => keep b o q)⟩⟩
end
noncomputable def PairV (H : Hp) (x : V) (k : NK) : Prop := ∃ t u, x = .ref t ∧ H t = some (.tup [.int k.1, .ref u]) ∧ H u = some (.tup (k.2.map V.int))
theorem PairV.at_ {X : Cx} {pins : List (Addr × Obj)} {σ : St} {H : Hp} {s : Shared} {x : V} {v : Value} {k : NK} (I : Inv X pins σ H s) (r : RelV x v) (p : PairV H x k) : PairAt s.heap v k := by
 obtain ⟨t, u, rfl, h1, h2⟩ := p
 cases r
 obtain ⟨us, r1, t1, _⟩ := I.tuple (SqT.of h1)
 obtain ⟨vs, r2, t2, _⟩ := I.tuple (SqT.of h2)
 obtain ⟨a, b, rfl, ⟨tk, rfl⟩, rb⟩ := vals2 r1
 cases rb
 exact ⟨t, u, tk, vs, rfl, t1, t2, intsAre_of r2⟩
theorem call_sortedP {X : Cx} (hu : X.A.units + 10 < cLine) : CallR X (.builtin "sorted") (fun xs H Q => ∃ p ys ks, xs = [.ref p] ∧ SqL X.K H p ys ∧ Paired (PairV H) ys ks ∧ ys.length ≤ 1000000 ∧
  ∀ (l : Addr) (zs : List V) (ms : List NK), H l = none → zs.Perm ys → ms.Perm ks → Paired (PairV H) zs ms → ms.Pairwise (fun a b => pkLt b a = false) → Q (.ref l) (upd H l (.lst zs))) := by
 intro pins s σ H xs us Q I r h
 obtain ⟨p, ys, ks, rfl, hs, hp, hz, q⟩ := h
 obtain ⟨u, rfl, ru⟩ := vals1 r
 cases ru
 obtain ⟨its, rv, pl, _⟩ := I.list hs
 have lz : its.length = ys.length := rv.length.symm
 have pat : ∀ v ∈ its, ∃ k, PairAt s.heap v k := fun v hv => by
  obtain ⟨i, hi⟩ := List.getElem?_of_mem hv
  obtain ⟨x, hx, rx⟩ := Paired.getR rv hi
  obtain ⟨k, _, pk⟩ := Paired.get hp hx
  exact ⟨k, pk.at_ I rx⟩
 refine sorted_pairs pl.isList pat (by lia) hu fun out so => ?_
 -- the values back, as V
 have back : ∀ out : List Value, (∀ v ∈ out, v ∈ its) → ∃ zs ms, Vals zs out ∧ Paired (PairV H) zs ms ∧ (∀ x ∈ zs, x ∈ ys) ∧ Paired (fun v k => PairAt s.heap v k) out ms := by
  intro out
  induction out with
  | nil => exact fun _ => ⟨[], [], .nil, .nil, fun x hx => (nomatch hx), .nil⟩
  | cons v out ih =>
   intro hm
   obtain ⟨zs, ms, a1, a2, a3, a4⟩ := ih fun v hv => hm v (List.mem_cons_of_mem _ hv)
   obtain ⟨i, hi⟩ := List.getElem?_of_mem (hm v List.mem_cons_self)
   obtain ⟨x, hx, rx⟩ := Paired.getR rv hi
   obtain ⟨k, _, pk⟩ := Paired.get hp hx
   exact ⟨x :: zs, k :: ms, .cons rx a1, .cons pk a2, fun y hy => by
    rcases List.mem_cons.mp hy with z | z
    ·rw [z]; exact List.mem_of_getElem? hx
    ·exact a3 y z, .cons (pk.at_ I rx) a4⟩
 obtain ⟨zs, ms, v1, p1, _, a1⟩ := back out fun v hv => so.1.mem_iff.mp hv
 -- abstract values and keys are functions of the values
 have absd : ∀ {xs : List V} {vs : List Value}, Vals xs vs → vs.map absV = xs.map some := by
  intro xs vs h
  induction h with
  | nil => rfl
  | @cons x v xs vs r t ih => rw [List.map_cons, List.map_cons, ih, RelV.abs r]
 have pz : zs.Perm ys := by
  have e1 := absd v1
  have e2 := absd rv
  have := so.1.map absV
  rw [e1, e2] at this
  have := this.filterMap id
  simpa using this
 have keyd : ∀ {xs : List V} {as : List NK} {vs : List Value}, Vals xs vs → Paired (PairV H) xs as → vs.map (fun v => keyP s.heap (v, v)) = as := by
  intro xs as vs h
  induction h generalizing as with
  | nil => intro h; cases h; rfl
  | @cons x v xs vs r t ih =>
   intro h
   cases h with
   | cons pk rest => rw [List.map_cons, ih rest, keyP_eq (p := (v, v)) (pk.at_ I r)]
 have pm : ms.Perm ks := by
  rw [← keyd v1 p1, ← keyd rv hp]
  exact so.1.map _
 have srt : ms.Pairwise (fun a b => pkLt b a = false) := by
  rw [List.pairwise_iff_getElem]
  intro i j gi gj hij
  obtain ⟨x, hx, px⟩ := Paired.getR a1 (List.getElem?_eq_getElem gi)
  obtain ⟨y, hy, py⟩ := Paired.getR a1 (List.getElem?_eq_getElem gj)
  exact so.2 i j x y _ _ (by lia) hx hy px py
 obtain ⟨e, he⟩ := sortedAll_at s.heap its out.toArray
 have zl : zs.length ≤ sizeLine := by rw [pz.length_eq, sizeLine_eq]; lia
 refine ⟨.ref (s.heap.objs.size + 1), upd H (s.heap.objs.size + 1) (.lst zs), ?_, rfl, q _ zs ms (I.hok.fresh (Nat.le_succ _)) pz pm p1 srt⟩
 exact I.laid (t' := s.toks) (fun b o g => sortedAll_old g) (Nat.le_succ _) ⟨zl, out, e, v1, he⟩
theorem bt_sorted : bootBuiltins "sorted" = some (.builtin "sorted") := by decide +kernel
end L2
namespace Cw
inductive Kd where
 | own | send | take
 deriving DecidableEq
structure Ev where
 k : Kd
 l : Int
 v : Int
 deriving DecidableEq
noncomputable abbrev Rows := List (List Ev)
noncomputable def at? (rs : Rows) (h p : Nat) : Option Ev := (rs[h]?).bind (·[p]?)
theorem at_row {rs : Rows} {h p : Nat} {r : List Ev} (e : rs[h]? = some r) : at? rs h p = r[p]? := by unfold at?; rw [e]; rfl
theorem at_some {rs : Rows} {h p : Nat} {e : Ev} (q : at? rs h p = some e) : ∃ r, rs[h]? = some r ∧ r[p]? = some e := by
 unfold at? at q
 cases z : rs[h]? with
 | none => rw [z] at q; cases q
 | some r => rw [z] at q; exact ⟨r, rfl, q⟩
noncomputable def Uniq (k : Kd) (rs : Rows) : Prop := ∀ (h p h' p' : Nat) (e e' : Ev), at? rs h p = some e → at? rs h' p' = some e' → e.k = k → e'.k = k → e.l = e'.l → h = h' ∧ p = p'
structure Ord (rs : Rows) (rk : Nat → Nat → Nat) : Prop where
 row : ∀ (h p : Nat) (e : Ev), at? rs h (p + 1) = some e → rk h p < rk h (p + 1)
 sent : ∀ (h p : Nat) (e : Ev), at? rs h p = some e → e.k = .take → ∃ (h' p' : Nat) (e' : Ev), at? rs h' p' = some e' ∧ e'.k = .send ∧ e'.l = e.l ∧ rk h' p' < rk h p
structure Bnd (rs : Rows) : Prop where
 lo : 1 ≤ rs.length
 hi : rs.length ≤ 4
 len : ∀ (h : Nat) (r : List Ev), rs[h]? = some r → r.length ≤ 6
 lets : ∀ (h p : Nat) (e : Ev), at? rs h p = some e → 0 ≤ e.l ∧ e.l ≤ 99
 vals : ∀ (h p : Nat) (e : Ev), at? rs h p = some e → -1000000000 ≤ e.v ∧ e.v ≤ 1000000000
 own0 : ∀ (h p : Nat) (e : Ev), at? rs h p = some e → e.k = .own → e.l = 0
structure Val (rs : Rows) : Prop where
 bnd : Bnd rs
 us : Uniq .send rs
 ut : Uniq .take rs
 ord : ∃ rk, Ord rs rk
noncomputable def app (rs : Rows) (h : Nat) (e : Ev) : Rows := rs.set h ((rs[h]?).getD [] ++ [e])
theorem app_len {rs : Rows} {h : Nat} {e : Ev} : (app rs h e).length = rs.length := by unfold app; rw [List.length_set]
theorem app_get {rs : Rows} {h : Nat} {e : Ev} {r : List Ev} (hr : rs[h]? = some r) (j : Nat) : (app rs h e)[j]? = if j = h then some (r ++ [e]) else rs[j]? := by
 have hl : h < rs.length := (List.getElem?_eq_some_iff.mp hr).1
 unfold app
 rw [hr, Option.getD_some]
 by_cases q : j = h
 ·subst q
  rw [if_pos rfl, List.getElem?_set_self hl]
 ·rw [if_neg q, List.getElem?_set_ne (Ne.symm q)]
theorem app_at {rs : Rows} {h : Nat} {e : Ev} {r : List Ev} (hr : rs[h]? = some r) (j p : Nat) : at? (app rs h e) j p = if j = h ∧ p = r.length then some e else at? rs j p := by
 unfold at?
 rw [app_get hr j]
 by_cases q : j = h
 ·subst q
  rw [if_pos rfl, hr]
  show (r ++ [e])[p]? = _
  by_cases z : p = r.length
  ·subst z
   rw [if_pos ⟨rfl, rfl⟩]; simp
  ·rw [if_neg (fun w => z w.2)]
   show _ = r[p]?
   by_cases zz : p < r.length
   ·rw [List.getElem?_append_left zz]
   ·rw [List.getElem?_append_right (by lia)]
    have : ([e] : List Ev)[p - r.length]? = none := by
     apply List.getElem?_eq_none; simp; lia
    rw [this, List.getElem?_eq_none (by lia)]
 ·rw [if_neg q, if_neg (fun w => q w.1)]
theorem app_old {rs : Rows} {h : Nat} {e : Ev} {r : List Ev} (hr : rs[h]? = some r) {j p : Nat} {e' : Ev} (q : at? rs j p = some e') : at? (app rs h e) j p = some e' := by
 rw [app_at hr, if_neg ?_]
 ·exact q
 ·rintro ⟨rfl, rfl⟩
  rw [at_row hr, List.getElem?_eq_none (Nat.le_refl _)] at q
  cases q
theorem app_new {rs : Rows} {h : Nat} {e : Ev} {r : List Ev} (hr : rs[h]? = some r) {j p : Nat} {e' : Ev} (q : at? (app rs h e) j p = some e') : (j = h ∧ p = r.length ∧ e' = e) ∨ at? rs j p = some e' := by
 rw [app_at hr] at q
 split at q
 ·rename_i z
  exact .inl ⟨z.1, z.2, (Option.some.inj q).symm⟩
 ·exact .inr q
noncomputable def Used (rs : Rows) (l : Int) : Prop := ∃ (h p : Nat) (e : Ev), at? rs h p = some e ∧ e.k ≠ .own ∧ e.l = l
structure Draw (rs : Rows) (ls : List Int) (n : Nat) : Prop where
 bnd : Bnd rs
 us : Uniq .send rs
 ut : Uniq .take rs
 ord : ∃ rk, Ord rs rk ∧ ∀ (h p : Nat) (e : Ev), at? rs h p = some e → rk h p < n
 nd : ls.Nodup
 out : ∀ l ∈ ls, (∃ (h p : Nat) (e : Ev), at? rs h p = some e ∧ e.k = .send ∧ e.l = l) ∧ ∀ (h p : Nat) (e : Ev), at? rs h p = some e → e.k = .take → e.l ≠ l
theorem Draw.val {rs : Rows} {ls : List Int} {n : Nat} (d : Draw rs ls n) : Val rs := ⟨d.bnd, d.us, d.ut, let ⟨rk, o, _⟩ := d.ord; ⟨rk, o⟩⟩
theorem Draw.start {n : Nat} (h1 : 1 ≤ n) (h2 : n ≤ 4) : Draw (List.replicate n []) [] 0 := by
 have no : ∀ (h p : Nat) (e : Ev), at? (List.replicate n ([] : List Ev)) h p = some e → False := fun h p e q => by
  obtain ⟨r, hr, he⟩ := at_some q
  rw [List.getElem?_replicate] at hr
  split at hr
  ·cases hr; simp at he
  ·cases hr
 refine ⟨⟨by simpa using h1, by simpa using h2, fun h r q => ?_, fun h p e q => (no h p e q).elim, fun h p e q => (no h p e q).elim, fun h p e q => (no h p e q).elim⟩, fun h p h' p' e e' q => (no h p e q).elim, fun h p h' p' e e' q => (no h p e q).elim,
  ⟨fun _ _ => 0, ⟨fun h p e q => (no _ _ _ q).elim, fun h p e q => (no _ _ _ q).elim⟩, fun h p e q => (no _ _ _ q).elim⟩, List.nodup_nil, fun l hl => by cases hl⟩
 rw [List.getElem?_replicate] at q
 split at q
 ·cases q; simp
 ·cases q
theorem Ord.more {rs : Rows} {rk : Nat → Nat → Nat} {n h : Nat} {r : List Ev} {e : Ev} (o : Ord rs rk) (hn : ∀ (h p : Nat) (e : Ev), at? rs h p = some e → rk h p < n) (hr : rs[h]? = some r)
  (hs : e.k = .take → ∃ (h' p' : Nat) (e' : Ev), at? rs h' p' = some e' ∧ e'.k = .send ∧ e'.l = e.l) :
  ∃ rk', Ord (app rs h e) rk' ∧ ∀ (j p : Nat) (e' : Ev), at? (app rs h e) j p = some e' → rk' j p < n + 1 := by
 have self : ∀ (j p : Nat) (e' : Ev), at? rs j p = some e' → ¬ (j = h ∧ p = r.length) := by
  rintro j p e' q ⟨rfl, rfl⟩
  rw [at_row hr, List.getElem?_eq_none (Nat.le_refl _)] at q
  cases q
 refine ⟨fun j p => if j = h ∧ p = r.length then n else rk j p, ⟨fun j p e' q => ?_, fun j p e' q hk => ?_⟩, fun j p e' q => ?_⟩
 ·rcases app_new hr q with ⟨rfl, hp, rfl⟩ | q2
  ·have h1 : ¬ (p = r.length) := by lia
   show (if j = j ∧ p = r.length then n else rk j p) < (if j = j ∧ p + 1 = r.length then n else rk j (p + 1))
   rw [if_neg (fun z => h1 z.2), if_pos ⟨rfl, hp⟩]
   have hlt : p < r.length := by lia
   exact hn j p (r[p]) (by rw [at_row hr]; simp [hlt])
  ·show (if j = h ∧ p = r.length then n else rk j p) < (if j = h ∧ p + 1 = r.length then n else rk j (p + 1))
   have n1 : ¬ (j = h ∧ p = r.length) := by
    rintro ⟨e1, hp⟩
    rw [e1] at q2
    obtain ⟨r', hr', he'⟩ := at_some q2
    rw [hr] at hr'; cases hr'
    have := (List.getElem?_eq_some_iff.mp he').1
    lia
   rw [if_neg n1, if_neg (self _ _ _ q2)]
   exact o.row j p e' q2
 ·rcases app_new hr q with ⟨rfl, hp, rfl⟩ | q
  ·obtain ⟨h', p', e2, q2, k2, l2⟩ := hs hk
   refine ⟨h', p', e2, app_old hr q2, k2, l2, ?_⟩
   show (if h' = j ∧ p' = r.length then n else rk h' p') < (if j = j ∧ p = r.length then n else rk j p)
   rw [if_neg (self _ _ _ q2), if_pos ⟨rfl, hp⟩]
   exact hn _ _ _ q2
  ·obtain ⟨h', p', e2, q2, k2, l2, lt⟩ := o.sent j p e' q hk
   refine ⟨h', p', e2, app_old hr q2, k2, l2, ?_⟩
   show (if h' = h ∧ p' = r.length then n else rk h' p') < (if j = h ∧ p = r.length then n else rk j p)
   rw [if_neg (self _ _ _ q2), if_neg (self _ _ _ q)]
   exact lt
 ·show (if j = h ∧ p = r.length then n else rk j p) < n + 1
  rcases app_new hr q with ⟨rfl, hp, rfl⟩ | q
  ·rw [if_pos ⟨rfl, hp⟩]; lia
  ·rw [if_neg (self _ _ _ q)]
   have := hn _ _ _ q
   lia
theorem Bnd.more {rs : Rows} {h : Nat} {r : List Ev} {e : Ev} (b : Bnd rs) (hr : rs[h]? = some r) (hl : r.length < 6) (h1 : 0 ≤ e.l ∧ e.l ≤ 99) (h2 : -1000000000 ≤ e.v ∧ e.v ≤ 1000000000) (h3 : e.k = .own → e.l = 0) : Bnd (app rs h e) := by
 refine ⟨by rw [app_len]; exact b.lo, by rw [app_len]; exact b.hi, fun j r' q => ?_, fun j p e' q => ?_, fun j p e' q => ?_, fun j p e' q k => ?_⟩
 ·rw [app_get hr] at q
  split at q
  ·cases q; simp; lia
  ·exact b.len j r' q
 ·rcases app_new hr q with ⟨_, _, rfl⟩ | q
  ·exact h1
  ·exact b.lets j p e' q
 ·rcases app_new hr q with ⟨_, _, rfl⟩ | q
  ·exact h2
  ·exact b.vals j p e' q
 ·rcases app_new hr q with ⟨_, _, rfl⟩ | q
  ·exact h3 k
  ·exact b.own0 j p e' q k
theorem Uniq.more {k : Kd} {rs : Rows} {h : Nat} {r : List Ev} {e : Ev} (u : Uniq k rs) (hr : rs[h]? = some r) (hn : e.k = k → ∀ (j p : Nat) (e' : Ev), at? rs j p = some e' → e'.k = k → e'.l ≠ e.l) : Uniq k (app rs h e) := by
 intro j p j' p' a a' q q' ka ka' hl
 rcases app_new hr q with ⟨e1, e2, e3⟩ | q1
 ·rcases app_new hr q' with ⟨f1, f2, f3⟩ | q2
  ·exact ⟨e1.trans f1.symm, e2.trans f2.symm⟩
  ·rw [e3] at ka hl
   exact absurd hl.symm (hn ka _ _ _ q2 ka')
 ·rcases app_new hr q' with ⟨f1, f2, f3⟩ | q2
  ·rw [f3] at ka' hl
   exact absurd hl (hn ka' _ _ _ q1 ka)
  ·exact u j p j' p' a a' q1 q2 ka ka' hl
theorem Draw.own {rs : Rows} {ls : List Int} {n h : Nat} {r : List Ev} {v : Int} (d : Draw rs ls n) (hr : rs[h]? = some r) (hl : r.length < 6) (hv : -1000000000 ≤ v ∧ v ≤ 1000000000) : Draw (app rs h ⟨.own, 0, v⟩) ls (n + 1) := by
 obtain ⟨rk, o, on⟩ := d.ord
 refine ⟨d.bnd.more hr hl ⟨show (0:Int) ≤ 0 by decide, show (0:Int) ≤ 99 by decide⟩ hv fun _ => rfl, d.us.more hr (fun z => nomatch z), d.ut.more hr (fun z => nomatch z), o.more on hr (fun z => nomatch z), d.nd, fun l hm => ?_⟩
 obtain ⟨⟨j, p, e, q, k, le⟩, no⟩ := d.out l hm
 refine ⟨⟨j, p, e, app_old hr q, k, le⟩, fun j p e q k => ?_⟩
 rcases app_new hr q with ⟨_, _, rfl⟩ | q
 ·cases k
 ·exact no j p e q k
theorem Draw.send {rs : Rows} {ls : List Int} {n h : Nat} {r : List Ev} {l v : Int} (d : Draw rs ls n) (hr : rs[h]? = some r) (hl : r.length < 6) (h1 : 0 ≤ l ∧ l ≤ 99) (hv : -1000000000 ≤ v ∧ v ≤ 1000000000) (hnew : ¬ Used rs l) :
  Draw (app rs h ⟨.send, l, v⟩) (ls ++ [l]) (n + 1) := by
 obtain ⟨rk, o, on⟩ := d.ord
 have nl : l ∉ ls := fun hm => by
  obtain ⟨⟨j, p, e, q, k, le⟩, _⟩ := d.out l hm
  exact hnew ⟨j, p, e, q, by rw [k]; decide, le⟩
 refine ⟨d.bnd.more hr hl h1 hv (fun z => nomatch z), d.us.more hr (fun _ j p e' q k z => hnew ⟨j, p, e', q, by rw [k]; decide, z⟩), d.ut.more hr (fun z => nomatch z), o.more on hr (fun z => nomatch z), ?_, fun m hm => ?_⟩
 ·refine List.nodup_append.mpr ⟨d.nd, by simp, fun a ha b hb => ?_⟩
  rintro rfl
  have : a = l := by simpa using hb
  exact nl (this ▸ ha)
 ·rcases List.mem_append.mp hm with hm | hm
  ·obtain ⟨⟨j, p, e, q, k, le⟩, no⟩ := d.out m hm
   refine ⟨⟨j, p, e, app_old hr q, k, le⟩, fun j p e q k => ?_⟩
   rcases app_new hr q with ⟨_, _, rfl⟩ | q
   ·cases k
   ·exact no j p e q k
  ·have : m = l := by simpa using hm
   subst this
   refine ⟨⟨h, r.length, _, by rw [app_at hr, if_pos ⟨rfl, rfl⟩], rfl, rfl⟩, fun j p e q k => ?_⟩
   rcases app_new hr q with ⟨_, _, rfl⟩ | q
   ·cases k
   ·exact fun z => hnew ⟨j, p, e, q, by rw [k]; decide, z⟩
theorem erase_nodup {ls : List Int} {i : Nat} {l : Int} (hn : ls.Nodup) (hi : ls[i]? = some l) : (ls.eraseIdx i).Nodup ∧ l ∉ ls.eraseIdx i ∧ ∀ m ∈ ls.eraseIdx i, m ∈ ls := by
 refine ⟨hn.sublist (List.eraseIdx_sublist ..), fun hm => ?_, fun m hm => (List.eraseIdx_sublist ..).subset hm⟩
 obtain ⟨j, hj, hjl⟩ := List.mem_eraseIdx_iff_getElem?.mp hm
 have a := List.getElem?_eq_some_iff.mp hi
 have b := List.getElem?_eq_some_iff.mp hjl
 obtain ⟨ha, ea⟩ := a
 obtain ⟨hb, eb⟩ := b
 exact hj ((List.getElem_inj hn).mp (eb.trans ea.symm))
theorem Draw.take {rs : Rows} {ls : List Int} {n h i : Nat} {r : List Ev} {l v : Int} (d : Draw rs ls n) (hr : rs[h]? = some r) (hl : r.length < 6) (hi : ls[i]? = some l) (hv : -1000000000 ≤ v ∧ v ≤ 1000000000) :
  Draw (app rs h ⟨.take, l, v⟩) (ls.eraseIdx i) (n + 1) := by
 obtain ⟨rk, o, on⟩ := d.ord
 obtain ⟨⟨j0, p0, e0, q0, k0, l0⟩, no0⟩ := d.out l (List.mem_of_getElem? hi)
 obtain ⟨e1, e2, e3⟩ := erase_nodup d.nd hi
 have hb := d.bnd.lets _ _ _ q0
 refine ⟨d.bnd.more hr hl (by rw [l0] at hb; exact hb) hv (fun z => nomatch z), d.us.more hr (fun z => nomatch z), d.ut.more hr (fun _ j p e' q k => no0 j p e' q k), o.more on hr (fun _ => ⟨j0, p0, e0, q0, k0, l0⟩), e1, fun m hm => ?_⟩
 obtain ⟨⟨j, p, e, q, k, le⟩, no⟩ := d.out m (e3 m hm)
 refine ⟨⟨j, p, e, app_old hr q, k, le⟩, fun j p e q k => ?_⟩
 rcases app_new hr q with ⟨_, _, rfl⟩ | q
 ·rintro rfl
  exact e2 hm
 ·exact no j p e q k
noncomputable def placesRow (k : Kd) (h : Nat) : Nat → List Ev → List (Int × Nat × Nat)
 | _, [] => []
 | p, e :: r => (if e.k = k then [(e.l, h, p)] else []) ++ placesRow k h (p + 1) r
noncomputable def placesFrom (k : Kd) : Nat → Rows → List (Int × Nat × Nat)
 | _, [] => []
 | h, r :: rs => placesRow k h 0 r ++ placesFrom k (h + 1) rs
noncomputable def places (k : Kd) (rs : Rows) : List (Int × Nat × Nat) := placesFrom k 0 rs
theorem placesRow_snoc (k : Kd) (h : Nat) (e : Ev) : ∀ (p : Nat) (r : List Ev), placesRow k h p (r ++ [e]) = placesRow k h p r ++ (if e.k = k then [(e.l, h, p + r.length)] else [])
 | p, [] => by simp [placesRow]
 | p, a :: r => by
  rw [List.cons_append, placesRow, placesRow_snoc k h e (p + 1) r, placesRow, List.append_assoc, List.length_cons]
  have : p + 1 + r.length = p + (r.length + 1) := by lia
  rw [this]
theorem placesFrom_snoc (k : Kd) (r : List Ev) : ∀ (h : Nat) (rs : Rows), placesFrom k h (rs ++ [r]) = placesFrom k h rs ++ placesRow k (h + rs.length) 0 r
 | h, [] => by simp [placesFrom]
 | h, a :: rs => by
  rw [List.cons_append, placesFrom, placesFrom_snoc k r (h + 1) rs, placesFrom, List.append_assoc, List.length_cons]
  have : h + 1 + rs.length = h + (rs.length + 1) := by lia
  rw [this]
theorem placesRow_append (k : Kd) (h : Nat) : ∀ (p : Nat) (r q : List Ev), placesRow k h p (r ++ q) = placesRow k h p r ++ placesRow k h (p + r.length) q
 | p, [], q => by simp [placesRow]
 | p, a :: r, q => by
  rw [List.cons_append, placesRow, placesRow_append k h (p + 1) r q, placesRow, List.append_assoc, List.length_cons]
  have : p + 1 + r.length = p + (r.length + 1) := by lia
  rw [this]
theorem placesFrom_append (k : Kd) : ∀ (h : Nat) (rs qs : Rows), placesFrom k h (rs ++ qs) = placesFrom k h rs ++ placesFrom k (h + rs.length) qs
 | h, [], qs => by simp [placesFrom]
 | h, a :: rs, qs => by
  rw [List.cons_append, placesFrom, placesFrom_append k (h + 1) rs qs, placesFrom, List.append_assoc, List.length_cons]
  have : h + 1 + rs.length = h + (rs.length + 1) := by lia
  rw [this]
theorem mem_placesRow {k : Kd} {h : Nat} {x : Int × Nat × Nat} : ∀ {p : Nat} {r : List Ev}, x ∈ placesRow k h p r ↔ ∃ (j : Nat) (e : Ev), r[j]? = some e ∧ e.k = k ∧ x = (e.l, h, p + j)
 | p, [] => by simp [placesRow]
 | p, a :: r => by
  rw [placesRow, List.mem_append, mem_placesRow (p := p + 1) (r := r)]
  constructor
  ·rintro (q | ⟨j, e, he, hk, hx⟩)
   ·split at q
    ·rename_i hk
     exact ⟨0, a, rfl, hk, by simpa using q⟩
    ·cases q
   ·exact ⟨j + 1, e, he, hk, by rw [hx]; congr 2; lia⟩
  ·rintro ⟨j, e, he, hk, hx⟩
   cases j with
   | zero =>
    have : a = e := Option.some.inj he
    subst this
    left
    rw [if_pos hk, hx]
    simp
   | succ j => exact .inr ⟨j, e, he, hk, by rw [hx]; congr 2; lia⟩
theorem mem_placesFrom {k : Kd} {x : Int × Nat × Nat} : ∀ {n : Nat} {rs : Rows}, x ∈ placesFrom k n rs ↔ ∃ (i j : Nat) (e : Ev), at? rs i j = some e ∧ e.k = k ∧ x = (e.l, n + i, j)
 | n, [] => by simp [placesFrom, at?]
 | n, r :: rs => by
  rw [placesFrom, List.mem_append, mem_placesRow, mem_placesFrom (n := n + 1) (rs := rs)]
  constructor
  ·rintro (⟨j, e, he, hk, hx⟩ | ⟨i, j, e, he, hk, hx⟩)
   ·exact ⟨0, j, e, by rw [at_row (r := r) rfl]; exact he, hk, by rw [hx]; simp⟩
   ·exact ⟨i + 1, j, e, he, hk, by rw [hx]; congr 2; lia⟩
  ·rintro ⟨i, j, e, he, hk, hx⟩
   cases i with
   | zero =>
    rw [at_row (r := r) rfl] at he
    exact .inl ⟨j, e, he, hk, by rw [hx]; simp⟩
   | succ i => exact .inr ⟨i, j, e, he, hk, by rw [hx]; congr 2; lia⟩
theorem mem_places {k : Kd} {rs : Rows} {l : Int} {h p : Nat} : (l, h, p) ∈ places k rs ↔ ∃ e, at? rs h p = some e ∧ e.k = k ∧ e.l = l := by
 unfold places
 rw [mem_placesFrom]
 constructor
 ·rintro ⟨i, j, e, he, hk, hx⟩
  injection hx with h1 h2
  injection h2 with h2 h3
  have : h = i := by lia
  subst this
  subst h3
  exact ⟨e, he, hk, h1.symm⟩
 ·rintro ⟨e, he, hk, hl⟩
  exact ⟨h, p, e, he, hk, by rw [hl]; simp⟩
theorem placesRow_pw (k : Kd) (h : Nat) : ∀ (p : Nat) (r : List Ev), (placesRow k h p r).Pairwise fun a b => a.2 ≠ b.2
 | p, [] => by simp [placesRow]
 | p, a :: r => by
  rw [placesRow]
  refine List.pairwise_append.mpr ⟨?_, placesRow_pw k h (p + 1) r, fun x hx y hy => ?_⟩
  ·split <;> simp
  ·obtain ⟨j, e, _, _, rfl⟩ := mem_placesRow.mp hy
   split at hx
   ·have : x = (a.l, h, p) := by simpa using hx
    subst this
    intro z
    injection z with z1 z2
    lia
   ·cases hx
theorem placesFrom_pw (k : Kd) : ∀ (n : Nat) (rs : Rows), (placesFrom k n rs).Pairwise fun a b => a.2 ≠ b.2
 | n, [] => by simp [placesFrom]
 | n, r :: rs => by
  rw [placesFrom]
  refine List.pairwise_append.mpr ⟨placesRow_pw k n 0 r, placesFrom_pw k (n + 1) rs, fun x hx y hy => ?_⟩
  obtain ⟨j, e, _, _, rfl⟩ := mem_placesRow.mp hx
  obtain ⟨i, j', e', _, _, rfl⟩ := mem_placesFrom.mp hy
  intro z
  injection z with z1 z2
  lia
theorem places_nodup {k : Kd} {rs : Rows} (u : Uniq k rs) : ((places k rs).map (·.1)).Nodup := by
 unfold List.Nodup
 rw [List.pairwise_map]
 refine List.Pairwise.imp_of_mem ?_ (placesFrom_pw k 0 rs)
 rintro ⟨l, h, p⟩ ⟨l', h', p'⟩ ha hb hne hl
 obtain ⟨e, he, hk, hel⟩ := mem_places.mp ha
 obtain ⟨e', he', hk', hel'⟩ := mem_places.mp hb
 obtain ⟨z1, z2⟩ := u h p h' p' e e' he he' hk hk' (by rw [hel, hel']; exact hl)
 exact hne (by simp [z1, z2])
noncomputable def soFar (k : Kd) (rs : Rows) (i j : Nat) : List (Int × Nat × Nat) := placesFrom k 0 (rs.take i) ++ placesRow k i 0 (((rs[i]?).getD []).take j)
theorem soFar_zero (k : Kd) (rs : Rows) : soFar k rs 0 0 = [] := by simp [soFar, placesFrom, placesRow]
theorem soFar_row {k : Kd} {rs : Rows} {i : Nat} {r : List Ev} (hr : rs[i]? = some r) : soFar k rs i r.length = soFar k rs (i + 1) 0 := by
 have hl : i < rs.length := (List.getElem?_eq_some_iff.mp hr).1
 unfold soFar
 rw [hr, Option.getD_some, List.take_length, List.take_add_one, hr]
 show _ = placesFrom k 0 (rs.take i ++ [r]) ++ placesRow k (i + 1) 0 (List.take 0 _)
 rw [placesFrom_snoc, List.take_zero, placesRow, List.append_nil, List.length_take]
 have : 0 + min i rs.length = i := by lia
 rw [this]
theorem soFar_ev {k : Kd} {rs : Rows} {i j : Nat} {r : List Ev} {e : Ev} (hr : rs[i]? = some r) (he : r[j]? = some e) : soFar k rs i (j + 1) = soFar k rs i j ++ (if e.k = k then [(e.l, i, j)] else []) := by
 have hl : j < r.length := (List.getElem?_eq_some_iff.mp he).1
 unfold soFar
 rw [hr, Option.getD_some, List.take_add_one, he]
 show _ ++ placesRow k i 0 (r.take j ++ [e]) = _
 rw [placesRow_snoc, List.length_take, List.append_assoc]
 have : 0 + min j r.length = j := by lia
 rw [this]
theorem soFar_all (k : Kd) (rs : Rows) : soFar k rs rs.length 0 = places k rs := by
 unfold soFar places
 rw [List.take_length, List.take_zero, placesRow, List.append_nil]
theorem soFar_pre {k : Kd} {rs : Rows} {i j : Nat} : soFar k rs i j <+: places k rs := by
 unfold soFar places
 by_cases hi : i < rs.length
 ·have e : rs = rs.take i ++ (rs[i] :: rs.drop (i + 1)) := by
   rw [← List.drop_eq_getElem_cons hi, List.take_append_drop]
  have g : (rs[i]?).getD [] = rs[i] := by rw [List.getElem?_eq_getElem hi]; rfl
  have e2 : placesFrom k 0 rs = placesFrom k 0 (rs.take i) ++ (placesRow k i 0 rs[i] ++ placesFrom k (i + 1) (rs.drop (i + 1))) := by
   conv => lhs; rw [e]
   rw [placesFrom_append, List.length_take]
   have : 0 + min i rs.length = i := by lia
   rw [this]
   rfl
  rw [g, e2, List.prefix_append_right_inj]
  refine List.IsPrefix.trans ?_ (List.prefix_append _ _)
  conv => rhs; rw [← List.take_append_drop j rs[i]]
  rw [placesRow_append]
  exact List.prefix_append _ _
 ·have g : rs[i]? = none := List.getElem?_eq_none (by lia)
  rw [g, Option.getD_none, List.take_of_length_le (by lia), List.take_nil, placesRow, List.append_nil]
  exact List.prefix_refl _
theorem soFar_new {k : Kd} {rs : Rows} (u : Uniq k rs) {i j : Nat} {r : List Ev} {e : Ev} (hr : rs[i]? = some r) (he : r[j]? = some e) (hk : e.k = k) : e.l ∉ (soFar k rs i j).map (·.1) := by
 have p : soFar k rs i (j + 1) <+: places k rs := soFar_pre
 rw [soFar_ev hr he, if_pos hk] at p
 have n := (places_nodup u).sublist (p.sublist.map (·.1))
 rw [List.map_append] at n
 intro hm
 exact (List.nodup_append.mp n).2.2 _ hm _ (by simp) rfl
noncomputable def Free (rs : Rows) (cs : List Nat) (e : Ev) : Prop := e.k = .take → ∃ (h p c : Nat) (e' : Ev), at? rs h p = some e' ∧ e'.k = .send ∧ e'.l = e.l ∧ cs[h]? = some c ∧ p < c
inductive Reach (rs : Rows) : List Nat → Prop where
 | zero : Reach rs (rs.map fun _ => 0)
 | step {cs : List Nat} {h c : Nat} {e : Ev} : Reach rs cs → cs[h]? = some c → at? rs h c = some e → Free rs cs e → Reach rs (cs.set h (c + 1))
noncomputable def Stuck (rs : Rows) (cs : List Nat) : Prop := ∀ (h c : Nat) (e : Ev), cs[h]? = some c → at? rs h c = some e → ¬ Free rs cs e
theorem Reach.len {rs : Rows} {cs : List Nat} (r : Reach rs cs) : cs.length = rs.length := by
 induction r with
 | zero => simp
 | step _ _ _ _ ih => rw [List.length_set]; exact ih
theorem Reach.le {rs : Rows} {cs : List Nat} (q : Reach rs cs) : ∀ (h c : Nat) (r : List Ev), cs[h]? = some c → rs[h]? = some r → c ≤ r.length := by
 induction q with
 | zero =>
  intro h c r hc hr
  rw [List.getElem?_map, hr] at hc
  cases hc
  exact Nat.zero_le _
 | @step cs h c e _ hc he _ ih =>
  intro j c' r hc' hr
  by_cases z : h = j
  ·subst z
   have hl : h < cs.length := (List.getElem?_eq_some_iff.mp hc).1
   rw [List.getElem?_set_self hl] at hc'
   cases hc'
   rw [at_row hr] at he
   have := (List.getElem?_eq_some_iff.mp he).1
   lia
  ·rw [List.getElem?_set_ne z] at hc'
   exact ih j c' r hc' hr
theorem Stuck.done {rs : Rows} {cs : List Nat} (q : Reach rs cs) (st : Stuck rs cs) {rk : Nat → Nat → Nat} (o : Ord rs rk) : cs = rs.map List.length := by
 have all : ∀ (n h p : Nat) (e : Ev), rk h p < n → at? rs h p = some e → ∃ c, cs[h]? = some c ∧ p < c := by
  intro n
  induction n with
  | zero => intro h p e hn; lia
  | succ n ih =>
   intro h p e hn he
   obtain ⟨r, hr, hre⟩ := at_some he
   have hl : h < cs.length := by rw [q.len]; exact (List.getElem?_eq_some_iff.mp hr).1
   refine ⟨cs[h], List.getElem?_eq_getElem hl, ?_⟩
   rcases Nat.lt_trichotomy p cs[h] with z | z | z
   ·exact z
   ·exfalso
    refine st h cs[h] e (List.getElem?_eq_getElem hl) (by rw [← z]; exact he) fun hk => ?_
    obtain ⟨h', p', e', he', hk', hl', lt⟩ := o.sent h p e he hk
    obtain ⟨c', hc', hlt⟩ := ih h' p' e' (by lia) he'
    exact ⟨h', p', c', e', he', hk', hl', hc', hlt⟩
   ·exfalso
    have hp : p = (p - 1) + 1 := by lia
    have lt : rk h (p - 1) < rk h (p - 1 + 1) := o.row h (p - 1) e (by rw [← hp]; exact he)
    rw [← hp] at lt
    have hpl : p < r.length := (List.getElem?_eq_some_iff.mp hre).1
    obtain ⟨c', hc', hlt⟩ := ih h (p - 1) (r[p - 1]) (by lia) (by rw [at_row hr]; exact List.getElem?_eq_getElem (by lia))
    rw [List.getElem?_eq_getElem hl] at hc'
    cases hc'
    lia
 refine List.ext_getElem? fun h => ?_
 rw [List.getElem?_map]
 cases hr : rs[h]? with
 | none =>
  have : rs.length ≤ h := List.getElem?_eq_none_iff.mp hr
  rw [List.getElem?_eq_none (by rw [q.len]; exact this)]
  rfl
 | some r =>
  have hl : h < cs.length := by rw [q.len]; exact (List.getElem?_eq_some_iff.mp hr).1
  rw [List.getElem?_eq_getElem hl]
  show some cs[h] = some r.length
  congr 1
  have h1 := q.le h cs[h] r (List.getElem?_eq_getElem hl) hr
  rcases Nat.lt_or_ge cs[h] r.length with z | z
  ·obtain ⟨c, hc, hlt⟩ := all (rk h cs[h] + 1) h cs[h] (r[cs[h]]) (by lia) (by rw [at_row hr]; exact List.getElem?_eq_getElem z)
   rw [List.getElem?_eq_getElem hl] at hc
   cases hc
   lia
  ·lia
noncomputable def evsRow (h : Nat) (n : Nat) : List (Nat × Nat) := (List.range n).map fun p => (h, p)
noncomputable def evsFrom : Nat → Rows → List (Nat × Nat)
 | _, [] => []
 | h, r :: rs => evsRow h r.length ++ evsFrom (h + 1) rs
noncomputable def evs (rs : Rows) : List (Nat × Nat) := evsFrom 0 rs
theorem evsFrom_snoc (r : List Ev) : ∀ (h : Nat) (rs : Rows), evsFrom h (rs ++ [r]) = evsFrom h rs ++ evsRow (h + rs.length) r.length
 | h, [] => by simp [evsFrom]
 | h, a :: rs => by
  rw [List.cons_append, evsFrom, evsFrom_snoc r (h + 1) rs, evsFrom, List.append_assoc, List.length_cons]
  have : h + 1 + rs.length = h + (rs.length + 1) := by lia
  rw [this]
theorem mem_evsFrom {x : Nat × Nat} : ∀ {n : Nat} {rs : Rows}, x ∈ evsFrom n rs ↔ ∃ (i j : Nat) (e : Ev), at? rs i j = some e ∧ x = (n + i, j)
 | n, [] => by simp [evsFrom, at?]
 | n, r :: rs => by
  rw [evsFrom, List.mem_append, mem_evsFrom (n := n + 1) (rs := rs)]
  constructor
  ·rintro (q | ⟨i, j, e, he, hx⟩)
   ·obtain ⟨j, hj, rfl⟩ := List.mem_map.mp q
    have hj := List.mem_range.mp hj
    exact ⟨0, j, r[j], by rw [at_row (r := r) rfl]; exact List.getElem?_eq_getElem hj, rfl⟩
   ·exact ⟨i + 1, j, e, he, by rw [hx]; congr 1; lia⟩
  ·rintro ⟨i, j, e, he, hx⟩
   cases i with
   | zero =>
    rw [at_row (r := r) rfl] at he
    exact .inl (List.mem_map.mpr ⟨j, List.mem_range.mpr (List.getElem?_eq_some_iff.mp he).1, hx.symm⟩)
   | succ i => exact .inr ⟨i, j, e, he, by rw [hx]; congr 1; lia⟩
theorem mem_evs {rs : Rows} {h p : Nat} : (h, p) ∈ evs rs ↔ ∃ e, at? rs h p = some e := by
 unfold evs
 rw [mem_evsFrom]
 constructor
 ·rintro ⟨i, j, e, he, hx⟩
  injection hx with h1 h2
  have : h = i := by lia
  subst this; subst h2
  exact ⟨e, he⟩
 ·rintro ⟨e, he⟩
  exact ⟨h, p, e, he, by rw [Nat.zero_add]⟩
theorem evsFrom_len : ∀ (n : Nat) (rs : Rows), (∀ r ∈ rs, r.length ≤ 6) → (evsFrom n rs).length ≤ 6 * rs.length
 | _, [], _ => Nat.le_refl _
 | n, r :: rs, h => by
  have h1 := evsFrom_len (n + 1) rs fun x hx => h x (List.mem_cons_of_mem _ hx)
  have h3 := h r List.mem_cons_self
  rw [evsFrom, List.length_append, List.length_cons]
  unfold evsRow
  rw [List.length_map, List.length_range]
  lia
noncomputable def evsFar (rs : Rows) (i j : Nat) : List (Nat × Nat) := evsFrom 0 (rs.take i) ++ evsRow i j
theorem evsFar_row {rs : Rows} {i : Nat} {r : List Ev} (hr : rs[i]? = some r) : evsFar rs i r.length = evsFar rs (i + 1) 0 := by
 have hl : i < rs.length := (List.getElem?_eq_some_iff.mp hr).1
 unfold evsFar
 rw [List.take_add_one, hr]
 show _ = evsFrom 0 (rs.take i ++ [r]) ++ []
 rw [evsFrom_snoc, List.length_take, List.append_nil]
 have : 0 + min i rs.length = i := by lia
 rw [this]
theorem evsFar_ev (rs : Rows) (i j : Nat) : evsFar rs i (j + 1) = evsFar rs i j ++ [(i, j)] := by
 unfold evsFar evsRow
 rw [List.range_succ, List.map_append, List.append_assoc]
 rfl
theorem evsFar_all (rs : Rows) : evsFar rs rs.length 0 = evs rs := by
 unfold evsFar evs
 rw [List.take_length]
 show _ ++ [] = _
 rw [List.append_nil]
theorem evsFar_len {rs : Rows} (b : Bnd rs) (i j : Nat) (hj : j ≤ 6) (hi : i ≤ 4) : (evsFar rs i j).length ≤ 30 := by
 have h2 := evsFrom_len 0 (rs.take i) fun r hr => by
  obtain ⟨i, hi⟩ := List.getElem?_of_mem (List.mem_of_mem_take hr)
  exact b.len i r hi
 unfold evsFar evsRow
 rw [List.length_append, List.length_map, List.length_range]
 rw [List.length_take] at h2
 lia
theorem snoc_cases {α : Type} (l : List α) : l = [] ∨ ∃ l' x, l = l' ++ [x] := by
 rcases List.eq_nil_or_concat l with h | ⟨l', x, h⟩
 ·exact .inl h
 ·exact .inr ⟨l', x, by rw [h, List.concat_eq_append]⟩
noncomputable abbrev Pl := Nat × Nat
noncomputable def Has (rs : Rows) (o : Pl) : Prop := ∃ e, at? rs o.1 o.2 = some e
theorem mem_evs' {rs : Rows} {o : Pl} : o ∈ evs rs ↔ Has rs o := mem_evs (h := o.1) (p := o.2)
theorem nodup_len {α : Type} [DecidableEq α] : ∀ {l m : List α}, l.Nodup → (∀ x ∈ l, x ∈ m) → l.length ≤ m.length
 | [], _, _, _ => Nat.zero_le _
 | a :: l, m, nd, h => by
  obtain ⟨n1, n2⟩ := List.nodup_cons.mp nd
  have ha := h a List.mem_cons_self
  have ih := nodup_len (l := l) (m := m.erase a) n2 fun x hx => (List.mem_erase_of_ne (by rintro rfl; exact n1 hx)).mpr (h x (List.mem_cons_of_mem _ hx))
  rw [List.length_erase_of_mem ha] at ih
  have : 0 < m.length := List.length_pos_of_mem ha
  rw [List.length_cons]
  lia
structure Inside (rs : Rows) (ns : List Int) : Prop where
 len : ns.length = rs.length
 rng : ∀ (h : Nat) (n : Int) (r : List Ev), ns[h]? = some n → rs[h]? = some r → 0 ≤ n ∧ n ≤ r.length
 sent : ∀ (h p : Nat) (e : Ev) (n : Int), at? rs h p = some e → e.k = .take → ns[h]? = some n → (p : Int) < n → ∀ (h' p' : Nat) (e' : Ev), at? rs h' p' = some e' → e'.k = .send → e'.l = e.l → ∃ n', ns[h']? = some n' ∧ (p' : Int) < n'
end Cw
namespace L2
open PySem PySem.Spec PyProof.Rows
theorem un_of {A : Around} {k d : Nat} (hr : Room k A) (h : d ≤ 200 := by decide) : A.units + d < cLine := by have := hr.un; lia
inductive rLenSP (K : PySem.W.Frag) (xs : List V) (H : Hp) (Q : VK) : Prop
 | mk (p : _) (ys : _) (h_0 : xs = [.ref p]) (h_1 : (SqL K H p ys ∨ SqT K H p ys)) (h_2 : Q (.int ys.length) H)
noncomputable def rLenS (K : PySem.W.Frag) : List V → Hp → VK → Prop := fun xs H Q => rLenSP K xs H Q
inductive rListOfP (K : PySem.W.Frag) (xs : List V) (H : Hp) (Q : VK) : Prop
 | mk (p : _) (ys : _) (h_0 : xs = [.ref p]) (h_1 : (SqL K H p ys ∨ SqT K H p ys)) (h_2 : ∀ l, H l = none → Q (.ref l) (upd H l (.lst ys)))
noncomputable def rListOf (K : PySem.W.Frag) : List V → Hp → VK → Prop := fun xs H Q => rListOfP K xs H Q
inductive rTupOfP (K : PySem.W.Frag) (xs : List V) (H : Hp) (Q : VK) : Prop
 | mk (p : _) (ys : _) (h_0 : xs = [.ref p]) (h_1 : ((SqL K H p ys ∧ ∀ l, H l = none → Q (.ref l) (upd H l (.tup ys))) ∨ (SqT K H p ys ∧ Q (.ref p) H)))
noncomputable def rTupOf (K : PySem.W.Frag) : List V → Hp → VK → Prop := fun xs H Q => rTupOfP K xs H Q
theorem bt_len : bootBuiltins "len" = some (.builtin "len") := by decide +kernel
theorem bt_isinstance : bootBuiltins "isinstance" = some (.builtin "isinstance") := by decide +kernel
theorem bt_list : bootBuiltins "list" = some (.type "list") := by decide +kernel
theorem bt_tuple : bootBuiltins "tuple" = some (.type "tuple") := by decide +kernel
theorem bt_int : bootBuiltins "int" = some (.type "int") := by decide +kernel
theorem bt_bool : bootBuiltins "bool" = some (.type "bool") := by decide +kernel
theorem get_list {X : Cx} : PGet X (fun o i H Q => ∃ p xs k v, o = .ref p ∧ i = .int k ∧ SqL X.K H p xs ∧ 0 ≤ k ∧ atI xs k = some v ∧ Q v H) := by
 intro pins s σ H o i ov iv Q I ro ri h
 obtain ⟨p, xs, k, v, e1, e2, hq, hk, hx, q⟩ := h
 subst e1; subst e2
 cases ro
 obtain ⟨t, rfl⟩ := ri
 obtain ⟨its, rv, pl, hz⟩ := I.list hq
 obtain ⟨j, hs, hj, hjl, h1, h2⟩ := atI_get hx
 obtain ⟨u, hu, ru⟩ := rv.get hj
 have ej : j = k.toNat := by
  have e := hs
  unfold seqIndex? at e
  simp only [hk, if_true] at e
  split at e <;> first | (cases e; rfl) | (simp at e; lia) | cases e
 exact wpAny_getItem_list pl.isList hk (by have := line63; have : (xs.length : Int) ≤ (sizeLine : Int) := by exact_mod_cast hz
                                           lia) (by rw [← ej]; simpa using hu) ⟨v, H, I, ru, q⟩
end L2
namespace Cw
open PySem L2
noncomputable def Kd.str : Kd → Str
 | .own => "own"
 | .send => "send"
 | .take => "take"
theorem Kd.str_inj : ∀ {a b : Kd}, a.str = b.str → a = b := by
 intro a b h
 cases a <;> cases b <;> first | rfl | exact absurd h (by decide +kernel)
noncomputable def Ev.vs (e : Ev) : List V := [.str e.k.str, .int e.l, .int e.v]
noncomputable def Kept (S : Addr → Prop) (H H' : Hp) : Prop := ∀ b o, H b = some o → ¬ S b → H' b = some o
theorem Same.kept {S : Addr → Prop} {H H' : Hp} (h : Same H H') : Kept S H H' := fun b o e _ => h b o e
theorem Kept.trans {S : Addr → Prop} {H H1 H2 : Hp} (a : Kept S H H1) (b : Kept S H1 H2) : Kept S H H2 := fun c o e n => b c o (a c o e n) n
theorem Kept.upd {S : Addr → Prop} {H : Hp} {a : Addr} {o : HO} (h : S a) : Kept S H (L2.upd H a o) := fun b u e n => by
 rw [upd_ne (by rintro rfl; exact n h)]; exact e
theorem Same.new {H : Hp} {a : Addr} {o : HO} (h : H a = none) : Same H (L2.upd H a o) := fun b u e => by
 rw [upd_ne (ne_of_none e h)]; exact e
noncomputable def NoTup (S : Addr → Prop) (H : Hp) : Prop := ∀ b xs, S b → H b ≠ some (.tup xs)
noncomputable def EvAt (H : Hp) (x : V) (e : Ev) : Prop := ∃ p, x = .ref p ∧ H p = some (.tup e.vs)
theorem EvAt.keep {S : Addr → Prop} {H H' : Hp} {x : V} {e : Ev} (k : Kept S H H') (n : NoTup S H) (h : EvAt H x e) : EvAt H' x e := by
 obtain ⟨p, rfl, q⟩ := h
 exact ⟨p, rfl, k p _ q fun z => n p _ z q⟩
noncomputable def RowA (H : Hp) (p : Addr) (r : List Ev) : Prop := ∃ xs, H p = some (.lst xs) ∧ Paired (EvAt H) xs r
theorem RowA.keep {S : Addr → Prop} {H H' : Hp} {p : Addr} {r : List Ev} (k : Kept S H H') (n : NoTup S H) (np : ¬ S p) (h : RowA H p r) : RowA H' p r := by
 obtain ⟨xs, q, m⟩ := h
 exact ⟨xs, k p _ q np, Paired.mapP m fun x e z => z.keep k n⟩
structure RowsA (H : Hp) (a : Addr) (ps : List Addr) (rs : Rows) : Prop where
 top : H a = some (.lst (ps.map V.ref))
 rows : Paired (RowA H) ps rs
theorem RowsA.keep {S : Addr → Prop} {H H' : Hp} {a : Addr} {ps : List Addr} {rs : Rows} (k : Kept S H H') (n : NoTup S H) (na : ¬ S a) (np : ∀ p ∈ ps, ¬ S p) (h : RowsA H a ps rs) : RowsA H' a ps rs := by
 refine ⟨k a _ h.top na, ?_⟩
 have := h.rows
 clear h
 induction this with
 | nil => exact .nil
 | @cons p r ps rs q t ih => exact .cons (q.keep k n (np p List.mem_cons_self)) (ih fun b hb => np b (List.mem_cons_of_mem _ hb))
theorem RowsA.same {H H' : Hp} {a : Addr} {ps : List Addr} {rs : Rows} (k : Same H H') (h : RowsA H a ps rs) : RowsA H' a ps rs :=
 h.keep (S := fun _ => False) (fun b o e _ => k b o e) (fun _ _ z => z.elim) (fun z => z) (fun _ _ z => z)
theorem RowsA.len {H : Hp} {a : Addr} {ps : List Addr} {rs : Rows} (h : RowsA H a ps rs) : ps.length = rs.length := Paired.length h.rows
theorem RowsA.row {H : Hp} {a : Addr} {ps : List Addr} {rs : Rows} (h : RowsA H a ps rs) {i : Nat} {r : List Ev} (e : rs[i]? = some r) : ∃ p, ps[i]? = some p ∧ RowA H p r := Paired.getR h.rows e
structure RowsNew (H H' : Hp) (a : Addr) (ps : List Addr) (rs : Rows) : Prop where
 at_ : RowsA H' a ps rs
 na : H a = none
 np : ∀ p ∈ ps, H p = none
 nd : ps.Nodup
 nap : a ∉ ps
theorem RowsA.more {H : Hp} {a : Addr} {ps : List Addr} {rs : Rows} (h : RowsA H a ps rs) (nd : ps.Nodup) (nap : a ∉ ps) {i : Nat} {p t : Addr} {r : List Ev} {xs : List V} {e : Ev} (hp : ps[i]? = some p) (hr : rs[i]? = some r) (hx : H p = some (.lst xs)) (ht : H t = some (.tup e.vs)) :
  RowsA (L2.upd H p (.lst (xs ++ [.ref t]))) a ps (app rs i e) := by
 have pm : p ∈ ps := List.mem_of_getElem? hp
 have nt : ∀ b u, H b = some (.tup u) → b ≠ p := fun b u q z => by rw [z, hx] at q; cases q
 have kt : ∀ b u, H b = some (.tup u) → L2.upd H p (.lst (xs ++ [.ref t])) b = some (.tup u) := fun b u q => by rw [upd_ne (nt b u q)]; exact q
 have kev : ∀ x e, EvAt H x e → EvAt (L2.upd H p (.lst (xs ++ [.ref t]))) x e := fun x e ⟨q, hq, z⟩ => ⟨q, hq, kt _ _ z⟩
 refine ⟨by rw [upd_ne (by rintro rfl; exact nap pm)]; exact h.top, ?_⟩
 have il : i < rs.length := (List.getElem?_eq_some_iff.mp hr).1
 have gen : ∀ {ps : List Addr} {rs : Rows} {i : Nat}, Paired (RowA H) ps rs → ps.Nodup → ps[i]? = some p → rs[i]? = some r → Paired (RowA (L2.upd H p (.lst (xs ++ [.ref t])))) ps (rs.set i (r ++ [e])) := by
  intro ps rs i m
  induction m generalizing i with
  | nil => intro _ hp; simp at hp
  | @cons p' r' ps' rs' q t' ih =>
   intro nd hp hr
   obtain ⟨n1, n2⟩ := List.nodup_cons.mp nd
   cases i with
   | zero =>
    have e1 : p' = p := by simpa using hp
    have e2 : r' = r := by simpa using hr
    subst e1; subst e2
    rw [List.set_cons_zero]
    refine .cons ?_ ?_
    ·obtain ⟨ys, q1, m1⟩ := q
     rw [hx] at q1; cases q1
     exact ⟨_, upd_same, Paired.snoc (Paired.mapP m1 kev) (kev _ _ ⟨t, rfl, ht⟩)⟩
    ·clear ih hp hr nd n2
     induction t' with
     | nil => exact .nil
     | @cons p2 r2 ps2 rs2 q2 t2 ih2 =>
      refine .cons ?_ (ih2 fun z => n1 (List.mem_cons_of_mem _ z))
      obtain ⟨ys, q1, m1⟩ := q2
      exact ⟨ys, by rw [upd_ne (by rintro rfl; exact n1 List.mem_cons_self)]; exact q1, Paired.mapP m1 kev⟩
   | succ i =>
    rw [List.set_cons_succ]
    have hp' : ps'[i]? = some p := by simpa using hp
    refine .cons ?_ (ih n2 hp' (by simpa using hr))
    obtain ⟨ys, q1, m1⟩ := q
    exact ⟨ys, by rw [upd_ne (by rintro rfl; exact n1 (List.mem_of_getElem? hp'))]; exact q1, Paired.mapP m1 kev⟩
 have := gen h.rows nd hp hr
 unfold app
 rw [hr]
 exact this
noncomputable def PlA (H : Hp) (kv : Key × V) (x : Int × Nat × Nat) : Prop := kv.1 = .inl x.1 ∧ ∃ t, kv.2 = .ref t ∧ H t = some (.tup [.int (x.2.1 : Nat), .int (x.2.2 : Nat)])
theorem PlA.keep {S : Addr → Prop} {H H' : Hp} {kv : Key × V} {x : Int × Nat × Nat} (k : Kept S H H') (n : NoTup S H) (h : PlA H kv x) : PlA H' kv x := by
 obtain ⟨h1, t, h2, h3⟩ := h
 exact ⟨h1, t, h2, k t _ h3 fun z => n t _ z h3⟩
theorem pl_none {H : Hp} {l : Int} {kvs : List (Key × V)} {xs : List (Int × Nat × Nat)} (m : Paired (PlA H) kvs xs) (hn : l ∉ xs.map (·.1)) : valV kvs (Sum.inl l : Key) = none := by
 induction m with
 | nil => rfl
 | @cons kv x _ _ h t ih =>
  have e : ¬ kv.1 = (Sum.inl l : Key) := fun z => by
   rw [h.1] at z
   exact hn (by rw [List.map_cons, Sum.inl.inj z]; exact List.mem_cons_self)
  rw [valV_neg e]
  exact ih fun z => hn (by rw [List.map_cons]; exact List.mem_cons_of_mem _ z)
theorem pl_some {H : Hp} {l : Int} {h p : Nat} {kvs : List (Key × V)} {xs : List (Int × Nat × Nat)} (m : Paired (PlA H) kvs xs) (nd : (xs.map (·.1)).Nodup) (hm : (l, h, p) ∈ xs) : ∃ t, valV kvs (Sum.inl l : Key) = some (.ref t) ∧ H t = some (.tup [.int (h : Nat), .int (p : Nat)]) := by
 induction m with
 | nil => cases hm
 | @cons kv x _ _ q t ih =>
  rw [List.map_cons] at nd
  obtain ⟨n1, n2⟩ := List.nodup_cons.mp nd
  rcases List.mem_cons.mp hm with e | hm
  ·subst e
   obtain ⟨q1, t', q2, q3⟩ := q
   exact ⟨t', by rw [valV_pos q1, q2], q3⟩
  ·have e : ¬ kv.1 = (Sum.inl l : Key) := fun z => by
    rw [q.1] at z
    have : x.1 = l := Sum.inl.inj z
    exact n1 (by rw [this]; exact List.mem_map.mpr ⟨_, hm, rfl⟩)
   rw [valV_neg e]
   exact ih n2 hm
noncomputable def cell (ns : List Int) (k : Int) : Int := (ns[k.toNat]?).getD 0
noncomputable def draw (ns : List Int) (k : Int) : Int := (cell ns (k % 61) + 7919 * k) * 48271 % 2147483647
noncomputable def value (ns : List Int) (k : Int) : Int := if draw ns k % 4 = 0 then cell ns (k % 61) % 2000000001 - 1000000000 else draw ns k / 4 % 5 - 2
theorem draw_nn (ns : List Int) (k : Int) : 0 ≤ draw ns k := Int.emod_nonneg _ (by decide)
theorem value_bnd (ns : List Int) (k : Int) : -1000000000 ≤ value ns k ∧ value ns k ≤ 1000000000 := by
 unfold value
 split <;> lia
inductive sp_cellP (K : PySem.W.Frag) (vs : List V) (H : Hp) (Q : VK) (x_3 : XK) : Prop
 | mk (a : Addr) (ns : List Int) (k : Int) (h_0 : vs = [.ref a, .int k]) (h_1 : SqL K H a (ns.map V.int)) (h_2 : 0 ≤ k) (h_3 : Q (.int (cell ns k)) H)
noncomputable def sp_cell (K : PySem.W.Frag) : Sp := fun vs H Q x_3 => sp_cellP K vs H Q x_3
inductive sp_drawP (K : PySem.W.Frag) (vs : List V) (H : Hp) (Q : VK) (x_3 : XK) : Prop
 | mk (a : Addr) (ns : List Int) (k : Int) (h_0 : vs = [.ref a, .int k]) (h_1 : SqL K H a (ns.map V.int)) (h_2 : 0 ≤ k) (h_3 : Q (.int (draw ns k)) H)
noncomputable def sp_draw (K : PySem.W.Frag) : Sp := fun vs H Q x_3 => sp_drawP K vs H Q x_3
inductive sp_valueP (K : PySem.W.Frag) (vs : List V) (H : Hp) (Q : VK) (x_3 : XK) : Prop
 | mk (a : Addr) (ns : List Int) (k : Int) (h_0 : vs = [.ref a, .int k]) (h_1 : SqL K H a (ns.map V.int)) (h_2 : 0 ≤ k) (h_3 : Q (.int (value ns k)) H)
noncomputable def sp_value (K : PySem.W.Frag) : Sp := fun vs H Q x_3 => sp_valueP K vs H Q x_3
inductive sp_wholeP (vs : List V) (H : Hp) (Q : VK) (x_3 : XK) : Prop
 | mk (i : Int) (h_0 : vs = [.int i]) (h_1 : Q (.bl true) H)
noncomputable def sp_whole : Sp := fun vs H Q x_3 => sp_wholeP vs H Q x_3
inductive sp_usedP (vs : List V) (H : Hp) (Q : VK) (x_3 : XK) : Prop
 | mk (a : Addr) (ps : List Addr) (rs : Rows) (l : Int) (h_0 : vs = [.ref a, .int l]) (h_1 : RowsA H a ps rs) (h_2 : ∀ b : Bool, (b = true ↔ Used rs l) → Q (.bl b) H)
noncomputable def sp_used : Sp := fun vs H Q x_3 => sp_usedP vs H Q x_3
inductive sp_recordP (K : PySem.W.Frag) (vs : List V) (H : Hp) (Q : VK) (x_3 : XK) : Prop
 | mk (a : Addr) (ns : List Int) (m : Nat) (h_0 : vs = [.ref a, .int (m : Nat)]) (h_1 : SqL K H a (ns.map V.int)) (h_2 : m ≤ 100) (h_3 : ∀ (r : Addr) (ps : List Addr) (rs : Rows) (H' : Hp), Val rs → Same H H' → RowsNew H H' r ps rs → (rs.map List.length).sum ≤ m → Q (.ref r) H')
noncomputable def sp_record (K : PySem.W.Frag) : Sp := fun vs H Q x_3 => sp_recordP K vs H Q x_3
inductive sp_copyP (vs : List V) (H : Hp) (Q : VK) (x_3 : XK) : Prop
 | mk (a : Addr) (ps : List Addr) (rs : Rows) (h_0 : vs = [.ref a]) (h_1 : RowsA H a ps rs) (h_2 : rs.length ≤ 1000) (h_3 : ∀ (r : Addr) (qs : List Addr) (H' : Hp), Same H H' → RowsNew H H' r qs rs → Q (.ref r) H')
noncomputable def sp_copy : Sp := fun vs H Q x_3 => sp_copyP vs H Q x_3
inductive sp_placesP (vs : List V) (H : Hp) (Q : VK) (x_3 : XK) : Prop
 | mk (a : Addr) (ps : List Addr) (rs : Rows) (k : Kd) (h_0 : vs = [.ref a, .str k.str]) (h_1 : RowsA H a ps rs) (h_2 : Uniq k rs) (h_3 : Bnd rs) (h_4 : ∀ (d : Addr) (kvs : List (Key × V)) (H' : Hp), Same H H' → H d = none → H' d = some (.dK kvs) → Paired (PlA H') kvs (places k rs) → Q (.ref d) H')
noncomputable def sp_places : Sp := fun vs H Q x_3 => sp_placesP vs H Q x_3
inductive sp_checkP (vs : List V) (H : Hp) (Q : VK) (x_3 : XK) : Prop
 | mk (sd : Addr) (td : Addr) (skvs : List (Key × V)) (tkvs : List (Key × V)) (h_0 : vs = [.ref sd, .ref td]) (h_1 : H sd = some (.dK skvs)) (h_2 : H td = some (.dK tkvs)) (h_3 : sd ≠ td) (h_4 : (∀ kv ∈ tkvs, (valV skvs kv.1).isSome = true)) (h_5 : ∀ o, Q .non (L2.upd H td (.frz o (.dK tkvs))))
noncomputable def sp_check : Sp := fun vs H Q x_3 => sp_checkP vs H Q x_3
noncomputable def SendsA (H : Hp) (d : Addr) (rs : Rows) : Prop := ∃ kvs, Rd H d (.dK kvs) ∧ Paired (PlA H) kvs (places .send rs)
noncomputable def TakesA (H : Hp) (d : Addr) (rs : Rows) : Prop := ∃ kvs, Rd H d (.dK kvs) ∧ Paired (PlA H) kvs (places .take rs)
noncomputable def Sent (rs : Rows) : Prop := ∀ (h p : Nat) (e : Ev), at? rs h p = some e → e.k = .take → ∃ (h' p' : Nat) (e' : Ev), at? rs h' p' = some e' ∧ e'.k = .send ∧ e'.l = e.l
theorem Val.sent {rs : Rows} (v : Val rs) : Sent rs := fun h p e q k => by
 obtain ⟨rk, o⟩ := v.ord
 obtain ⟨h', p', e', a, b, c, _⟩ := o.sent h p e q k
 exact ⟨h', p', e', a, b, c⟩
noncomputable def csV (cs : List Nat) : List V := cs.map fun n => V.int (n : Nat)
inductive sp_canP (vs : List V) (H : Hp) (Q : VK) (x_3 : XK) : Prop
 | mk (t : Addr) (sd : Addr) (c : Addr) (e : Ev) (cs : List Nat) (rs : Rows) (h_0 : vs = [.ref t, .ref sd, .ref c]) (h_1 : H t = some (.tup e.vs)) (h_2 : SendsA H sd rs) (h_3 : H c = some (.lst (csV cs))) (h_4 : cs.length = rs.length) (h_5 : Uniq .send rs) (h_6 : (e.k = .take → ∃ (h' p' : Nat) (e' : Ev), at? rs h' p' = some e' ∧ e'.k = .send ∧ e'.l = e.l)) (h_7 : ∀ b : Bool, (b = true ↔ Free rs cs e) → Q (.bl b) H)
noncomputable def sp_can : Sp := fun vs H Q x_3 => sp_canP vs H Q x_3
inductive sp_doneP (vs : List V) (H : Hp) (Q : VK) (x_3 : XK) : Prop
 | mk (a : Addr) (sd : Addr) (ps : List Addr) (rs : Rows) (h_0 : vs = [.ref a, .ref sd]) (h_1 : RowsA H a ps rs) (h_2 : SendsA H sd rs) (h_3 : Uniq .send rs) (h_4 : Sent rs) (h_5 : rs.length ≤ 1000) (h_6 : ∀ (c : Addr) (cs : List Nat) (H' : Hp), Same H H' → H c = none → H' c = some (.lst (csV cs)) → Reach rs cs → Stuck rs cs → Q (.ref c) H')
noncomputable def sp_done : Sp := fun vs H Q x_3 => sp_doneP vs H Q x_3
inductive sp_noringP (vs : List V) (H : Hp) (Q : VK) (x_3 : XK) : Prop
 | mk (a : Addr) (sd : Addr) (ps : List Addr) (rs : Rows) (h_0 : vs = [.ref a, .ref sd]) (h_1 : RowsA H a ps rs) (h_2 : SendsA H sd rs) (h_3 : Val rs) (h_4 : ∀ H', Same H H' → Q .non H')
noncomputable def sp_noring : Sp := fun vs H Q x_3 => sp_noringP vs H Q x_3
noncomputable def recF (a sd td : Addr) : List (Str × V) := [("rows", .ref a), ("sends", .ref sd), ("takes", .ref td)]
structure RecA (C : Addr) (H : Hp) (x : Addr) (rs : Rows) (a : Addr) (ps : List Addr) (sd td : Addr) : Prop where
 ob : ∃ dx, H x = some (.ins C dx (recF a sd td))
 rows : RowsA H a ps rs
 sends : SendsA H sd rs
 takes : TakesA H td rs
 val : Val rs
inductive sp_initP (C : Addr) (vs : List V) (H : Hp) (Q : VK) (x_3 : XK) : Prop
 | mk (x : Addr) (dx : Addr) (a : Addr) (ps : List Addr) (rs : Rows) (h_0 : vs = [.ref x, .ref a]) (h_1 : H x = some (.ins C dx [])) (h_2 : RowsA H a ps rs) (h_3 : Val rs) (h_4 : ∀ (r : Addr) (qs : List Addr) (sd td : Addr) (H' : Hp), Kept (fun b => b = x) H H' → RecA C H' x rs r qs sd td → H r = none → (∀ q ∈ qs, H q = none) → H sd = none → H td = none → Q .non H')
noncomputable def sp_init (C : Addr) : Sp := fun vs H Q x_3 => sp_initP C vs H Q x_3
noncomputable def lensV (rs : Rows) : List V := rs.map fun r => V.int (r.length : Nat)
inductive sp_endP (C : Addr) (vs : List V) (H : Hp) (Q : VK) (x_3 : XK) : Prop
 | mk (x : Addr) (a : Addr) (sd : Addr) (td : Addr) (ps : List Addr) (rs : Rows) (h_0 : vs = [.ref x]) (h_1 : RecA C H x rs a ps sd td) (h_2 : ∀ (t : Addr) (H' : Hp), Same H H' → H' t = some (.tup (lensV rs)) → Q (.ref t) H')
noncomputable def sp_end (C : Addr) : Sp := fun vs H Q x_3 => sp_endP C vs H Q x_3
inductive sp_lawP (K : PySem.W.Frag) (vs : List V) (H : Hp) (Q : VK) (x_3 : XK) : Prop
 | mk (a : Addr) (ns : List Int) (h_0 : vs = [.ref a]) (h_1 : SqL K H a (ns.map V.int)) (h_2 : ns.length ≤ 63) (h_3 : ∀ H', Q (.bl true) H')
noncomputable def sp_law (K : PySem.W.Frag) : Sp := fun vs H Q x_3 => sp_lawP K vs H Q x_3
noncomputable def Bl (mg : Str → Option Value) : Prop := ∀ x ∈ (["len", "range", "enumerate", "list", "tuple", "isinstance", "int", "bool", "str", "min", "max", "sum", "sorted", "reversed", "zip", "any", "all"] : List Str), mg x = none
structure RecC (K : PySem.W.Frag) (C : Addr) : Prop where
 cl : Cls K C
 nR : NoAttr K C "rows"
 nS : NoAttr K C "sends"
 nT : NoAttr K C "takes"
section
variable {P : Program} {w : World} {K : PySem.W.Frag} {mg : Str → Option Value} {base : Heap}
theorem atI_int {ns : List Int} {k : Int} (h0 : 0 ≤ k) (h : k < ((ns.map V.int).length : Int)) : atI (ns.map V.int) k = some (.int (cell ns k)) := by
 have hl : k.toNat < ns.length := by rw [List.length_map] at h; lia
 have e : k = ((k.toNat : Nat) : Int) := by lia
 rw [e]
 refine atI_nat ?_
 rw [List.getElem?_map, List.getElem?_eq_getElem hl]
 unfold cell
 rw [Int.toNat_natCast, List.getElem?_eq_getElem hl]
 rfl
theorem cell_out {ns : List Int} {k : Int} (h : ¬ k < ((ns.map V.int).length : Int)) : cell ns k = 0 := by
 have hl : ns.length ≤ k.toNat := by rw [List.length_map] at h; lia
 unfold cell
 rw [List.getElem?_eq_none hl]
 rfl
theorem kd_dec (a b : Kd) : decide (V.str a.str = V.str b.str) = decide (a = b) := decide_eq_decide.mpr ⟨fun h => Kd.str_inj (by injection h), fun h => by rw [h]⟩
theorem map_ref {ps : List Addr} {i : Nat} {y : V} (h : (ps.map V.ref)[i]? = some y) : ∃ p, ps[i]? = some p ∧ y = .ref p := by
 rw [List.getElem?_map] at h
 cases e : ps[i]? with
 | none => rw [e] at h; cases h
 | some p => rw [e] at h; exact ⟨p, rfl, (Option.some.inj h).symm⟩
theorem RowsA.get {H : Hp} {a : Addr} {ps : List Addr} {rs : Rows} (h : RowsA H a ps rs) {i : Nat} {p : Addr} (e : ps[i]? = some p) : ∃ r, rs[i]? = some r ∧ RowA H p r := Paired.get h.rows e
theorem ev_get {H : Hp} {xs : List V} {r : List Ev} (m : Paired (EvAt H) xs r) {j : Nat} {z : V} (h : xs[j]? = some z) : ∃ t e, r[j]? = some e ∧ z = .ref t ∧ H t = some (.tup e.vs) := by
 obtain ⟨e, he, t, hz, ht⟩ := Paired.get m h
 exact ⟨t, e, he, hz, ht⟩
theorem copy_step {H0 H : Hp} {D l : Addr} {qs : List Addr} {rs : Rows} {i : Nat} {r : List Ev} {xs : List V} (hs : Same H0 H) (hD0 : H0 D = none) (hD : H D = some (.lst (qs.map V.ref))) (hq : Paired (RowA H) qs (rs.take i)) (hn : ∀ q ∈ qs, H0 q = none) (nd : qs.Nodup) (nD : D ∉ qs)
  (hr : rs[i]? = some r) (m : Paired (EvAt H0) xs r) (hl : H l = none) :
  let H' := L2.upd (L2.upd H l (.lst xs)) D (.lst ((qs ++ [l]).map V.ref))
  Same H0 H' ∧ H' D = some (.lst ((qs ++ [l]).map V.ref)) ∧ Paired (RowA H') (qs ++ [l]) (rs.take (i + 1)) ∧ (∀ q ∈ qs ++ [l], H0 q = none) ∧ (qs ++ [l]).Nodup ∧ D ∉ qs ++ [l] := by
 intro H'
 have lD : l ≠ D := by rintro rfl; rw [hl] at hD; cases hD
 have l0 : H0 l = none := hs.free hl
 have s1 : Same H0 H' := fun b o e => by
  show L2.upd _ D _ b = _
  rw [upd_ne (ne_of_none e hD0), upd_ne (ne_of_none e l0)]
  exact hs b o e
 have lq : l ∉ qs := fun z => by
  obtain ⟨i, hi⟩ := List.getElem?_of_mem z
  obtain ⟨r, _, xs, hx, _⟩ := Paired.get hq hi
  rw [hl] at hx; cases hx
 refine ⟨s1, upd_same, ?_, fun q hq => ?_, ?_, fun z => ?_⟩
 ·rw [List.take_add_one, hr]
  refine Paired.snoc ?_ ⟨xs, by show L2.upd _ D _ l = _; rw [upd_ne lD, upd_same], Paired.mapP m fun x e z => z.keep (S := fun _ => False) (fun b o e _ => s1 b o e) (fun _ _ z => z.elim)⟩
  have k : Kept (fun b => b = D) H H' := fun b o e n => by
   show L2.upd _ D _ b = _
   rw [upd_ne n, upd_ne (ne_of_none e hl)]
   exact e
  have nt : NoTup (fun b => b = D) H := fun b xs hb z => by rw [hb, hD] at z; cases z
  have gen : ∀ {qs : List Addr} {rs : Rows}, Paired (RowA H) qs rs → D ∉ qs → Paired (RowA H') qs rs := by
   intro qs rs m
   induction m with
   | nil => intro _; exact .nil
   | @cons p r ps rs q t ih => intro n; exact .cons (q.keep k nt fun z => n (by rw [z]; exact List.mem_cons_self)) (ih fun z => n (List.mem_cons_of_mem _ z))
  exact gen hq nD
 ·rcases List.mem_append.mp hq with z | z
  ·exact hn q z
  ·have : q = l := by simpa using z
   rw [this]; exact l0
 ·refine List.nodup_append.mpr ⟨nd, by simp, fun a ha b hb => ?_⟩
  rintro rfl
  have : a = l := by simpa using hb
  exact lq (this ▸ ha)
 ·rcases List.mem_append.mp z with z | z
  ·exact nD z
  ·have : D = l := by simpa using z
   exact lD this.symm
theorem placesRow_len (k : Kd) (h : Nat) : ∀ (p : Nat) (r : List Ev), (placesRow k h p r).length ≤ r.length
 | _, [] => Nat.le_refl _
 | p, e :: r => by
  have := placesRow_len k h (p + 1) r
  rw [placesRow, List.length_append, List.length_cons]
  split <;> simp <;> lia
theorem placesFrom_len (k : Kd) : ∀ (n : Nat) (rs : Rows), (∀ r ∈ rs, r.length ≤ 6) → (placesFrom k n rs).length ≤ 6 * rs.length
 | _, [], _ => Nat.le_refl _
 | n, r :: rs, h => by
  have h1 := placesFrom_len k (n + 1) rs fun x hx => h x (List.mem_cons_of_mem _ hx)
  have h2 := placesRow_len k n 0 r
  have h3 := h r List.mem_cons_self
  rw [placesFrom, List.length_append, List.length_cons]
  lia
theorem soFar_len {k : Kd} {rs : Rows} (b : Bnd rs) (i j : Nat) : (soFar k rs i j).length ≤ 24 := by
 have h1 := (soFar_pre (k := k) (rs := rs) (i := i) (j := j)).length_le
 have h2 := placesFrom_len k 0 rs fun r hr => by
  obtain ⟨i, hi⟩ := List.getElem?_of_mem hr
  exact b.len i r hi
 have h3 := b.hi
 unfold places at h1
 lia
theorem sum_set : ∀ {cs : List Nat} {h c : Nat}, cs[h]? = some c → (cs.set h (c + 1)).sum = cs.sum + 1
 | [], _, _, e => by simp at e
 | a :: cs, 0, c, e => by
  have : a = c := by simpa using e
  subst this
  simp
  lia
 | a :: cs, h + 1, c, e => by
  rw [List.set_cons_succ, List.sum_cons, List.sum_cons, sum_set (by simpa using e)]
  lia
theorem sum_le : ∀ {cs : List Nat} {rs : Rows}, cs.length = rs.length → (∀ (h c : Nat) (r : List Ev), cs[h]? = some c → rs[h]? = some r → c ≤ r.length) → cs.sum ≤ (rs.map List.length).sum
 | [], [], _, _ => Nat.le_refl _
 | c :: cs, r :: rs, hl, h => by
  have h0 := h 0 c r rfl rfl
  have ih := sum_le (cs := cs) (rs := rs) (by simpa using hl) fun i c r h1 h2 => h (i + 1) c r (by simpa using h1) (by simpa using h2)
  rw [List.sum_cons, List.map_cons, List.sum_cons]
  lia
theorem Reach.sum {rs : Rows} {cs : List Nat} (q : Reach rs cs) : cs.sum ≤ (rs.map List.length).sum := sum_le q.len q.le
noncomputable def StuckAt (rs : Rows) (cs : List Nat) (h : Nat) : Prop := ∀ (c : Nat) (e : Ev), cs[h]? = some c → at? rs h c = some e → ¬ Free rs cs e
theorem csV_get {cs : List Nat} {h c : Nat} (e : cs[h]? = some c) : atI (csV cs) ((h : Nat) : Int) = some (.int (c : Nat)) := by
 refine atI_nat ?_
 unfold csV
 rw [List.getElem?_map, e]
 rfl
theorem ixN_nat {n j : Nat} (h : j < n) : ixN n ((j : Nat) : Int) = some j := by
 unfold ixN
 rw [if_pos (by lia), if_pos (by lia)]
 simp
structure DoneI (H H2 : Hp) (c : Addr) (cs : List Nat) (rs : Rows) : Prop where
 same : Same H H2
 hc : H2 c = some (.lst (csV cs))
 rc : Reach rs cs
theorem DoneI.new {H H2 : Hp} {c : Addr} {cs : List Nat} {rs : Rows} (d : DoneI H H2 c cs rs) {p : Addr} {o : HO} (hp : H2 p = none) : DoneI H (L2.upd H2 p o) c cs rs := ⟨d.same.trans (Same.new hp), Same.new hp _ _ d.hc, d.rc⟩
theorem DoneI.step {H H2 : Hp} {c : Addr} {cs : List Nat} {rs : Rows} (d : DoneI H H2 c cs rs) (hc : H c = none) {i ci : Nat} {e : Ev} (h1 : cs[i]? = some ci) (h2 : at? rs i ci = some e) (h3 : Free rs cs e) : DoneI H (L2.upd H2 c (.lst ((csV cs).set i (.int ((ci : Nat) + 1 : Int))))) c (cs.set i (ci + 1)) rs := by
 refine ⟨fun b o z => by rw [upd_ne (ne_of_none z hc)]; exact d.same b o z, ?_, d.rc.step h1 h2 h3⟩
 rw [upd_same]
 unfold csV
 rw [List.map_set]
 rfl
theorem nRS : ¬ (("rows" : Str) = "sends") := by decide +kernel
theorem nRT : ¬ (("rows" : Str) = "takes") := by decide +kernel
theorem nST : ¬ (("sends" : Str) = "takes") := by decide +kernel
theorem lk_one {f : Str} {v : V} {r : List (Str × V)} : ((f, v) :: r).lookup f = some v := by rw [List.lookup_cons, beq_self_eq_true]
theorem lk_two {f g : Str} {v : V} {r : List (Str × V)} (h : ¬ f = g) : ((g, v) :: r).lookup f = r.lookup f := by
 rw [List.lookup_cons]
 have : (f == g) = false := by simpa using h
 rw [this]
theorem put1 (a : Addr) : putF "rows" (.ref a) [] = [(("rows" : Str), V.ref a)] := rfl
theorem put2 (a sd : Addr) : putF "sends" (.ref sd) [(("rows" : Str), V.ref a)] = ([(("rows" : Str), V.ref a), (("sends" : Str), V.ref sd)] : List (Str × V)) := by
 show (if ("rows" : Str) = "sends" then _ else (("rows" : Str), V.ref a) :: putF "sends" (.ref sd) []) = _
 rw [if_neg nRS]
 rfl
theorem put3 (a sd td : Addr) : putF "takes" (.ref td) [(("rows" : Str), V.ref a), (("sends" : Str), V.ref sd)] = recF a sd td := by
 show (if ("rows" : Str) = "takes" then _ else (("rows" : Str), V.ref a) :: (if ("sends" : Str) = "takes" then _ else (("sends" : Str), V.ref sd) :: putF "takes" (.ref td) [])) = _
 rw [if_neg nRT, if_neg nST]
 rfl
theorem rec_rows (a sd td : Addr) : (recF a sd td).lookup ("rows" : Str) = some (V.ref a) := lk_one
theorem rec_sends (a sd td : Addr) : (recF a sd td).lookup ("sends" : Str) = some (V.ref sd) := by
 unfold recF
 rw [lk_two (fun z => nRS z.symm), lk_one]
theorem rec_takes (a sd td : Addr) : (recF a sd td).lookup ("takes" : Str) = some (V.ref td) := by
 unfold recF
 rw [lk_two (fun z => nRT z.symm), lk_two (fun z => nST z.symm), lk_one]
theorem rec_no (a sd td : Addr) {m : Str} (h1 : ¬ m = "rows") (h2 : ¬ m = "sends") (h3 : ¬ m = "takes") : (recF a sd td).lookup m = none := by
 unfold recF
 rw [lk_two h1, lk_two h2, lk_two h3]
 rfl
theorem SendsA.keep {S : Addr → Prop} {H H' : Hp} {d : Addr} {rs : Rows} (k : Kept S H H') (n : NoTup S H) (nd : ¬ S d) (h : SendsA H d rs) : SendsA H' d rs := by
 obtain ⟨kvs, rd, m⟩ := h
 refine ⟨kvs, ?_, Paired.mapP m fun x y z => z.keep k n⟩
 rcases rd with rd | ⟨o, rd⟩
 ·exact .inl (k _ _ rd nd)
 ·exact .inr ⟨o, k _ _ rd nd⟩
theorem TakesA.keep {S : Addr → Prop} {H H' : Hp} {d : Addr} {rs : Rows} (k : Kept S H H') (n : NoTup S H) (nd : ¬ S d) (h : TakesA H d rs) : TakesA H' d rs := by
 obtain ⟨kvs, rd, m⟩ := h
 refine ⟨kvs, ?_, Paired.mapP m fun x y z => z.keep k n⟩
 rcases rd with rd | ⟨o, rd⟩
 ·exact .inl (k _ _ rd nd)
 ·exact .inr ⟨o, k _ _ rd nd⟩
theorem RecA.keep {S : Addr → Prop} {C : Addr} {H H' : Hp} {x a sd td : Addr} {ps : List Addr} {rs : Rows} (k : Kept S H H') (n : NoTup S H) (nx : ¬ S x) (na : ¬ S a) (np : ∀ p ∈ ps, ¬ S p) (ns : ¬ S sd) (nt : ¬ S td) (h : RecA C H x rs a ps sd td) : RecA C H' x rs a ps sd td :=
 ⟨let ⟨dx, e⟩ := h.ob; ⟨dx, k _ _ e nx⟩, h.rows.keep k n na np, h.sends.keep k n ns, h.takes.keep k n nt, h.val⟩
theorem RecA.same {C : Addr} {H H' : Hp} {x a sd td : Addr} {ps : List Addr} {rs : Rows} (k : Same H H') (h : RecA C H x rs a ps sd td) : RecA C H' x rs a ps sd td :=
 h.keep (S := fun _ => False) (fun b o e _ => k b o e) (fun _ _ z => z.elim) (fun z => z) (fun z => z) (fun _ _ z => z) (fun z => z) (fun z => z)
theorem taken_sent {H H' : Hp} {rs : Rows} (v : Val rs) {skvs tkvs : List (Key × V)} (hs : Paired (PlA H) skvs (places .send rs)) (ht : Paired (PlA H') tkvs (places .take rs)) : ∀ kv ∈ tkvs, (valV skvs kv.1).isSome = true := by
 intro kv hk
 obtain ⟨i, hi⟩ := List.getElem?_of_mem hk
 obtain ⟨⟨l, h, p⟩, hx, he, _⟩ := Paired.get ht hi
 obtain ⟨e, ha, hk', hl⟩ := mem_places.mp (List.mem_of_getElem? hx)
 obtain ⟨h', p', e', ha', hk2, hl2⟩ := v.sent h p e ha hk'
 obtain ⟨t, hv, _⟩ := pl_some hs (places_nodup v.us) (mem_places.mpr ⟨e', ha', hk2, hl2.trans hl⟩)
 rw [he, hv]
 rfl
noncomputable def kdOf (j : Int) : Kd := if j = 1 ∨ j = 3 then .send else if j = 2 then .take else .own
theorem kd_at {j : Int} (h0 : 0 ≤ j) (h4 : j < 4) : atI [V.str "own", V.str "send", V.str "take", V.str "send"] j = some (.str (kdOf j).str) := by
 have : j = 0 ∨ j = 1 ∨ j = 2 ∨ j = 3 := by lia
 rcases this with rfl | rfl | rfl | rfl <;> rfl
structure RecI (H H3 : Hp) (D lb : Addr) (qs : List Addr) (rs : Rows) (ls : List Int) (i : Nat) : Prop where
 same : Same H H3
 rows : RowsA H3 D qs rs
 lets : H3 lb = some (.lst (ls.map V.int))
 draw : ∃ n, Draw rs ls n
 tot : (rs.map List.length).sum ≤ i
 lsl : ls.length ≤ i
theorem sum_app : ∀ {rs : Rows} {h : Nat} {r : List Ev} {e : Ev}, rs[h]? = some r → ((rs.set h (r ++ [e])).map List.length).sum = (rs.map List.length).sum + 1
 | [], _, _, _, q => by simp at q
 | a :: rs, 0, r, e, q => by
  have : a = r := by simpa using q
  subst this
  simp
  lia
 | a :: rs, h + 1, r, e, q => by
  rw [List.set_cons_succ, List.map_cons, List.sum_cons, sum_app (by simpa using q), List.map_cons, List.sum_cons]
  lia
theorem RecI.mono {H H3 : Hp} {D lb : Addr} {qs : List Addr} {rs : Rows} {ls : List Int} {i j : Nat} (d : RecI H H3 D lb qs rs ls i) (h : i ≤ j) : RecI H H3 D lb qs rs ls j := ⟨d.same, d.rows, d.lets, d.draw, Nat.le_trans d.tot h, Nat.le_trans d.lsl h⟩
theorem RecI.new {H H3 : Hp} {D lb : Addr} {qs : List Addr} {rs : Rows} {ls : List Int} {i : Nat} (d : RecI H H3 D lb qs rs ls i) {p : Addr} {o : HO} (hp : H3 p = none) : RecI H (L2.upd H3 p o) D lb qs rs ls i :=
 ⟨d.same.trans (Same.new hp), d.rows.same (Same.new hp), Same.new hp _ _ d.lets, d.draw, d.tot, d.lsl⟩
theorem RecI.lst {H H3 : Hp} {D lb : Addr} {qs : List Addr} {rs : Rows} {ls : List Int} {i : Nat} (d : RecI H H3 D lb qs rs ls i) (hlb : H lb = none) (h1 : lb ≠ D) (h2 : lb ∉ qs) (xs : List V) :
  Same H (L2.upd H3 lb (.lst xs)) ∧ RowsA (L2.upd H3 lb (.lst xs)) D qs rs := by
 refine ⟨fun b o z => by rw [upd_ne (ne_of_none z hlb)]; exact d.same b o z, d.rows.keep (S := fun b => b = lb) (Kept.upd rfl) (fun b ys hb z => by rw [hb, d.lets] at z; cases z) (fun z => h1 z.symm) (fun p hp z => h2 (z ▸ hp))⟩
theorem rec_more {H H3 : Hp} {D lb p t : Addr} {qs : List Addr} {rs : Rows} {ls : List Int} {i h : Nat} {r : List Ev} {xs : List V} {e : Ev} (s3 : Same H H3) (R3 : RowsA H3 D qs rs) (L3 : H3 lb = some (.lst (ls.map V.int))) (tot : (rs.map List.length).sum ≤ i) (lsl : ls.length ≤ i + 1)
  (hq : ∀ q ∈ qs, H q = none) (nd : qs.Nodup) (nD : D ∉ qs) (hlq : lb ∉ qs) (hp : qs[h]? = some p) (hr : rs[h]? = some r) (hx : H3 p = some (.lst xs)) (ht : H3 t = none) (dr : ∃ n, Draw (app rs h e) ls n) :
  RecI H (L2.upd (L2.upd H3 t (.tup e.vs)) p (.lst (xs ++ [.ref t]))) D lb qs (app rs h e) ls (i + 1) := by
 have s4 : Same H3 (L2.upd H3 t (.tup e.vs)) := Same.new ht
 have pm : p ∈ qs := List.mem_of_getElem? hp
 refine ⟨fun b o z => ?_, (R3.same s4).more nd nD hp hr (s4 _ _ hx) upd_same, ?_, dr, ?_, lsl⟩
 ·rw [upd_ne (ne_of_none z (hq p pm))]
  exact s4 _ _ (s3 _ _ z)
 ·rw [upd_ne (by rintro rfl; exact hlq pm)]
  exact s4 _ _ L3
 ·unfold app
  rw [hr, Option.getD_some, sum_app hr]
  lia
theorem ints_mean (K : PySem.W.Frag) {H : Hp} {a : Addr} {ls : List Int} (h : H a = some (.lst (ls.map V.int))) : MLst K MFl H (.ref a) (ls.map V.int) := by
 refine ⟨a, _, rfl, SqL.of h, ?_⟩
 clear h
 induction ls with
 | nil => exact .nil
 | cons n ls ih => exact .cons ⟨rfl, rfl⟩ ih
theorem erase_map : ∀ (ls : List Int) (j : Nat), (ls.map V.int).eraseIdx j = (ls.eraseIdx j).map V.int
 | [], _ => rfl
 | _ :: _, 0 => rfl
 | x :: ls, j + 1 => by rw [List.map_cons, List.eraseIdx_cons_succ, List.eraseIdx_cons_succ, List.map_cons, erase_map ls j]
noncomputable def PosAt (H : Hp) (x : V) (o : Nat × Nat) : Prop := ∃ t, x = .ref t ∧ H t = some (.tup [.int (o.1 : Nat), .int (o.2 : Nat)])
theorem PosAt.keep {S : Addr → Prop} {H H' : Hp} {x : V} {o : Nat × Nat} (k : Kept S H H') (n : NoTup S H) (h : PosAt H x o) : PosAt H' x o := by
 obtain ⟨p, rfl, q⟩ := h
 exact ⟨p, rfl, k p _ q fun z => n p _ z q⟩
theorem PosAt.same {H H' : Hp} {x : V} {o : Nat × Nat} (k : Same H H') (h : PosAt H x o) : PosAt H' x o := h.keep (S := fun _ => False) (fun b o e _ => k b o e) (fun _ _ z => z.elim)
noncomputable def EvsA (H : Hp) (f : Addr) (os : List (Nat × Nat)) : Prop := ∃ xs, H f = some (.lst xs) ∧ Paired (PosAt H) xs os
inductive sp_eventsP (vs : List V) (H : Hp) (Q : VK) (x_3 : XK) : Prop
 | mk (a : Addr) (ps : List Addr) (rs : Rows) (h_0 : vs = [.ref a]) (h_1 : RowsA H a ps rs) (h_2 : Bnd rs) (h_3 : ∀ (f : Addr) (H' : Hp), Same H H' → H f = none → EvsA H' f (evs rs) → Q (.ref f) H')
noncomputable def sp_events : Sp := fun vs H Q x_3 => sp_eventsP vs H Q x_3
theorem evs_more {H0 H : Hp} {f t : Addr} {os : List (Nat × Nat)} {xs : List V} {o : Nat × Nat} (s : Same H0 H) (hf0 : H0 f = none) (hf : H f = some (.lst xs)) (m : Paired (PosAt H) xs os) (ht : H t = some (.tup [.int (o.1 : Nat), .int (o.2 : Nat)])) :
  Same H0 (L2.upd H f (.lst (xs ++ [.ref t]))) ∧ EvsA (L2.upd H f (.lst (xs ++ [.ref t]))) f (os ++ [o]) := by
 have k : Kept (fun b => b = f) H (L2.upd H f (.lst (xs ++ [.ref t]))) := Kept.upd rfl
 have n : NoTup (fun b => b = f) H := fun b ys hb z => by rw [hb, hf] at z; cases z
 refine ⟨fun b u z => by rw [upd_ne (ne_of_none z hf0)]; exact s b u z, _, upd_same, Paired.snoc (Paired.mapP m fun _ _ z => z.keep k n) ?_⟩
 exact PosAt.keep k n ⟨t, rfl, ht⟩
noncomputable def posV (o : Pl) : List V := [.int (o.1 : Nat), .int (o.2 : Nat)]
theorem head_mean (K : PySem.W.Frag) {H : Hp} {t : Addr} {k : Kd} {l : Int} (h : H t = some (.tup [.str k.str, .int l])) : MTup K MFl H (.ref t) [.str k.str, .int l] := ⟨t, _, rfl, SqT.of h, .cons ⟨rfl, rfl⟩ (.cons ⟨rfl, rfl⟩ .nil)⟩
theorem head_cut (e : Ev) : cutV e.vs none (some 2) = [.str e.k.str, .int e.l] := rfl
theorem head_part (e : Ev) : ¬ (HT.sIx e.vs.length 0 none = 0 ∧ HT.sIx e.vs.length e.vs.length (some 2) = e.vs.length) := fun h => absurd h.2 (by show ¬ (2 = 3); decide)
theorem head_dec (k k' : Kd) (l l' : Int) : decide (([.str k.str, .int l] : List V) = [.str k'.str, .int l']) = decide (k = k' ∧ l = l') := decide_eq_decide.mpr ⟨fun h => by
 injection h with h1 h2
 injection h2 with h2 _
 injection h1 with h1
 injection h2 with h2
 exact ⟨Kd.str_inj h1, h2⟩, fun ⟨h1, h2⟩ => by rw [h1, h2]⟩
theorem RowsA.ev {H : Hp} {a : Addr} {ps : List Addr} {rs : Rows} (h : RowsA H a ps rs) {o : Pl} {e : Ev} (he : at? rs o.1 o.2 = some e) : ∃ rp xs te, (ps.map V.ref)[o.1]? = some (.ref rp) ∧ H rp = some (.lst xs) ∧ xs[o.2]? = some (.ref te) ∧ H te = some (.tup e.vs) := by
 obtain ⟨r, hr, hre⟩ := at_some he
 obtain ⟨rp, hrp, xs, hxs, m⟩ := h.row hr
 obtain ⟨y, hy, te, rfl, hte⟩ := Paired.getR m hre
 exact ⟨rp, xs, te, by rw [List.getElem?_map, hrp]; rfl, hxs, hy, hte⟩
theorem Sq.same {K : PySem.W.Frag} {H H' : Hp} {a : Addr} {xs : List V} (e : Same H H') (h : Sq K H a xs) : Sq K H' a xs := by
 rcases h with h | (h | ⟨o, h⟩) | h
 ·exact .inl (e.seq h)
 ·exact .inr (.inl (.inl (e _ _ h)))
 ·exact .inr (.inl (.inr ⟨o, e _ _ h⟩))
 ·exact .inr (.inr h)
inductive sp_sendP (vs : List V) (H : Hp) (Q : VK) (x_3 : XK) : Prop
 | mk (a : Addr) (ps : List Addr) (rs : Rows) (l : Int) (h_0 : vs = [.ref a, .int l]) (h_1 : RowsA H a ps rs) (h_2 : Bnd rs) (h_3 : ∀ (v : V) (H' : Hp), Same H H' → ((∃ t o e, v = .ref t ∧ H' t = some (.tup (posV o)) ∧ at? rs o.1 o.2 = some e ∧ e.k = .send ∧ e.l = l) ∨ (v = .non ∧ ∀ (o : Pl) (e : Ev), at? rs o.1 o.2 = some e → e.k = .send → e.l ≠ l)) → Q v H')
noncomputable def sp_send : Sp := fun vs H Q x_3 => sp_sendP vs H Q x_3
inductive sp_insideP (K : PySem.W.Frag) (vs : List V) (H : Hp) (Q : VK) (x_3 : XK) : Prop
 | mk (a : Addr) (ps : List Addr) (rs : Rows) (c : Addr) (ns : List Int) (h_0 : vs = [.ref a, .ref c]) (h_1 : RowsA H a ps rs) (h_2 : Val rs) (h_3 : Sq K H c (ns.map V.int)) (h_4 : ∀ (b : Bool) (H' : Hp), Same H H' → (b = true ↔ Inside rs ns) → Q (.bl b) H')
noncomputable def sp_inside (K : PySem.W.Frag) : Sp := fun vs H Q x_3 => sp_insideP K vs H Q x_3
theorem ints_at {ns : List Int} {h : Nat} {n : Int} (e : ns[h]? = some n) : atI (ns.map V.int) ((h : Nat) : Int) = some (.int n) := by
 refine atI_nat ?_
 rw [List.getElem?_map, e]
 rfl
end
end Cw
namespace L2
open PySem PySem.Spec PyProof.Rows
section
variable {prog : Program} {w : World} {A : Around} {E : Value → Shared → Prop} {s : Shared}
theorem sum_intTupG {l : Addr} {xs : Array (Int × Tok)} {Q : Value → Shared → Prop} (hh : A.handled = none) (hl : s.heap.IsTuple l (intItems xs))
  (h : ∀ h' tk t', (∀ b o, s.heap.get? b = some o → h'.get? b = some o) → Q (.int (preSum (numAt xs) xs.size) t') { s with heap := h', toks := tk }) :
  wpAny (model prog w) A (call (.builtin "sum") [.ref l]) Q E s := by
 have hlt : l < s.heap.objs.size := by obtain ⟨_, e, _⟩ := hl; exact Heap.lt_size e
 have hlp : (s.heap.push { cls := .type "tuple_iterator", data := .fields #[.ref l, .int 0 0] }).IsTuple l (intItems xs) := by
  obtain ⟨o, e, c, d⟩ := hl
  exact ⟨o, Heap.get?_push_of_some _ e, c, d⟩
 refine call_sum_walkG (wpAny_pyIter_tuple hl ?_)
 refine ⟨_, _, _, _, _, _, numAt xs, rfl, Walks.tuple (A := A.in1) hh _ l (Nat.ne_of_lt hlt) (intItems xs), ⟨⟨_, Heap.get?_push_size _ rfl, rfl, rfl⟩, hlp⟩, ?_, (fun _ _ => intItems_at), fun h' tk t' hk => ?_⟩
 ·intro b hb
  rw [Heap.size_push]
  rcases List.mem_cons.mp hb with e | hb
  ·rw [e]; exact Nat.lt_succ_self _
  ·rcases List.mem_cons.mp hb with e | hb
   ·rw [e]; exact Nat.lt_succ_of_lt hlt
   ·cases hb
 ·have := h h' tk t' (fun b o e => by
   refine hk b o (fun hm => ?_) (Heap.get?_push_of_some _ e)
   rcases List.mem_cons.mp hm with e1 | hm
   ·exact absurd (e1 ▸ Heap.lt_size e) (Nat.lt_irrefl _)
   ·cases hm)
  simpa [intItems] using this
end
theorem call_sum {X : Cx} (hc : X.calm = true) : CallR X (.builtin "sum") (fun xs H Q => ∃ (p : Addr) (ns : List Int), xs = [.ref p] ∧ Sq X.K H p (ns.map V.int) ∧ Q (.int ns.sum) H) := by
 intro pins s σ H xs us Q I r h
 obtain ⟨p, ns, rfl, hq, q⟩ := h
 obtain ⟨u, rfl, ru⟩ := vals1 r
 cases ru
 rcases hq with hq | hq
 ·obtain ⟨its, rv, pl, _⟩ := I.list hq
  have hi := intsAre_of rv
  obtain ⟨ys, hy⟩ := hi.allInts.items
  have hn : (numsOf its).sum = ns.sum := by rw [hi.numsOf]
  have hl := pl.isList
  rw [hy] at hl
  refine sum_intListG (I.ok.hd hc) hl fun h' tk t' k => ⟨.int ns.sum, H, I.kept k, ?_, q⟩
  have e : preSum (numAt ys) ys.size = ns.sum := by
   rw [preSum_eq, List.take_of_length_le (by simp), ← hn, ← nums_intItems, ← hy]
  rw [e]
  exact ⟨_, rfl⟩
 ·obtain ⟨its, rv, pl, _⟩ := I.tuple hq
  have hi := intsAre_of rv
  obtain ⟨ys, hy⟩ := hi.allInts.items
  have hn : (numsOf its).sum = ns.sum := by rw [hi.numsOf]
  have hl : s.heap.IsTuple p its.toArray := pl
  rw [hy] at hl
  refine sum_intTupG (I.ok.hd hc) hl fun h' tk t' k => ⟨.int ns.sum, H, I.kept k, ?_, q⟩
  have e : preSum (numAt ys) ys.size = ns.sum := by
   rw [preSum_eq, List.take_of_length_le (by simp), ← hn, ← nums_intItems, ← hy]
  rw [e]
  exact ⟨_, rfl⟩
inductive rSumP (K : PySem.W.Frag) (xs : List V) (H : Hp) (Q : VK) : Prop
 | mk (p : Addr) (ns : List Int) (h_0 : xs = [.ref p]) (h_1 : Sq K H p (ns.map V.int)) (h_2 : Q (.int ns.sum) H)
noncomputable def rSum (K : PySem.W.Frag) : List V → Hp → VK → Prop := fun xs H Q => rSumP K xs H Q
theorem bt_sum : bootBuiltins "sum" = some (.builtin "sum") := by decide +kernel
end L2
namespace Cw
open PySem L2
noncomputable def longer (ls : List (List Int)) (m : Nat) : List (List Int) := ls.flatMap fun l => (List.range (m + 1)).map fun c => l ++ [((c : Nat) : Int)]
noncomputable def boxes (ns : List Nat) : List (List Int) := ns.foldl longer [[]]
theorem boxes_snoc (ns : List Nat) (n : Nat) : boxes (ns ++ [n]) = longer (boxes ns) n := by
 unfold boxes
 rw [List.foldl_append]
 rfl
theorem mem_longer {ls : List (List Int)} {m : Nat} {c : List Int} : c ∈ longer ls m ↔ ∃ l x, l ∈ ls ∧ 0 ≤ x ∧ x ≤ (m : Int) ∧ c = l ++ [x] := by
 unfold longer
 rw [List.mem_flatMap]
 constructor
 ·rintro ⟨l, hl, hc⟩
  obtain ⟨k, hk, rfl⟩ := List.mem_map.mp hc
  have := List.mem_range.mp hk
  exact ⟨l, k, hl, by lia, by lia, rfl⟩
 ·rintro ⟨l, x, hl, h0, h1, rfl⟩
  exact ⟨l, hl, List.mem_map.mpr ⟨x.toNat, List.mem_range.mpr (by lia), by congr 2; lia⟩⟩
theorem longer_nodup {ls : List (List Int)} {m : Nat} (h : ls.Nodup) : (longer ls m).Nodup := by
 unfold longer List.Nodup
 rw [List.pairwise_flatMap]
 refine ⟨fun l _ => ?_, ?_⟩
 ·rw [List.pairwise_map]
  refine List.Pairwise.imp ?_ (List.nodup_range (n := m + 1))
  intro a b hne z
  have z := List.append_cancel_left z
  injection z with z _
  exact hne (by exact_mod_cast z)
 ·refine List.Pairwise.imp ?_ h
  intro a b hne c hc d hd e
  obtain ⟨k, _, rfl⟩ := List.mem_map.mp hc
  obtain ⟨k', _, rfl⟩ := List.mem_map.mp hd
  exact hne (List.append_inj_left' e rfl)
theorem longer_len (ls : List (List Int)) (m : Nat) : (longer ls m).length = ls.length * (m + 1) := by
 unfold longer
 induction ls with
 | nil => simp
 | cons l ls ih =>
  rw [List.flatMap_cons, List.length_append, ih, List.length_map, List.length_range, List.length_cons, Nat.succ_mul]
  lia
theorem boxes_gen {p : List Nat → Prop} (h0 : p []) (hs : ∀ ns n, p ns → p (ns ++ [n])) : ∀ ns, p ns := by
 intro ns
 have : ∀ (k : Nat) (ns : List Nat), ns.length = k → p ns := by
  intro k
  induction k with
  | zero => intro ns h; rw [List.eq_nil_of_length_eq_zero h]; exact h0
  | succ k ih =>
   intro ns h
   rcases snoc_cases ns with rfl | ⟨l, x, rfl⟩
   ·simp at h
   ·exact hs l x (ih l (by simpa using h))
 exact this _ ns rfl
theorem boxes_nodup (ns : List Nat) : (boxes ns).Nodup := by
 refine boxes_gen (p := fun ns => (boxes ns).Nodup) (by simp [boxes]) (fun ns n ih => ?_) ns
 rw [boxes_snoc]
 exact longer_nodup ih
theorem boxes_len (ns : List Nat) (h : ∀ n ∈ ns, n ≤ 6) : (boxes ns).length ≤ 7 ^ ns.length := by
 revert h
 refine boxes_gen (p := fun ns => (∀ n ∈ ns, n ≤ 6) → (boxes ns).length ≤ 7 ^ ns.length) (fun _ => by simp [boxes]) (fun ns n ih h => ?_) ns
 have h1 := ih fun m hm => h m (List.mem_append_left _ hm)
 have h2 := h n (by simp)
 rw [boxes_snoc, longer_len, List.length_append, List.length_singleton, Nat.pow_succ]
 exact Nat.mul_le_mul h1 (by lia)
theorem mem_boxes {c : List Int} {ns : List Nat} : c ∈ boxes ns ↔ c.length = ns.length ∧ ∀ (i n : Nat) (x : Int), ns[i]? = some n → c[i]? = some x → 0 ≤ x ∧ x ≤ (n : Int) := by
 revert c
 refine boxes_gen (p := fun ns => ∀ {c : List Int}, c ∈ boxes ns ↔ c.length = ns.length ∧ ∀ (i n : Nat) (x : Int), ns[i]? = some n → c[i]? = some x → 0 ≤ x ∧ x ≤ (n : Int)) ?_ ?_ ns
 ·intro c
  constructor
  ·intro h
   have : c = [] := by simpa [boxes] using h
   subst this
   exact ⟨rfl, fun i n x h => by simp at h⟩
  ·rintro ⟨h, _⟩
   have : c = [] := List.eq_nil_of_length_eq_zero h
   subst this
   simp [boxes]
 ·intro ns n ih c
  rw [boxes_snoc, mem_longer]
  constructor
  ·rintro ⟨l, x, hl, h0, h1, rfl⟩
   obtain ⟨g1, g2⟩ := ih.mp hl
   refine ⟨by rw [List.length_append, List.length_append, g1]; rfl, fun i m y hm hy => ?_⟩
   by_cases e : i < ns.length
   ·rw [List.getElem?_append_left e] at hm
    rw [List.getElem?_append_left (by lia)] at hy
    exact g2 i m y hm hy
   ·have hi := (List.getElem?_eq_some_iff.mp hm).1
    rw [List.length_append, List.length_singleton] at hi
    have e : i = ns.length := by lia
    subst e
    rw [List.getElem?_append_right (Nat.le_refl _)] at hm
    rw [List.getElem?_append_right (by lia), g1] at hy
    have e1 : n = m := by simpa using hm
    have e2 : x = y := by simpa using hy
    subst e1; subst e2
    exact ⟨h0, h1⟩
  ·rintro ⟨hl, hb⟩
   rw [List.length_append, List.length_singleton] at hl
   rcases snoc_cases c with rfl | ⟨l, x, rfl⟩
   ·simp at hl
   ·rw [List.length_append, List.length_singleton] at hl
    have hl' : l.length = ns.length := by lia
    obtain ⟨h0, h1⟩ := hb ns.length n x (by simp) (by rw [← hl']; simp)
    refine ⟨l, x, ih.mpr ⟨hl', fun i m y hm hy => ?_⟩, h0, h1, rfl⟩
    have i1 := (List.getElem?_eq_some_iff.mp hm).1
    exact hb i m y (by rw [List.getElem?_append_left i1]; exact hm) (by rw [List.getElem?_append_left (by lia)]; exact hy)
theorem inside_box {rs : Rows} {c : List Int} (h : Inside rs c) : c ∈ boxes (rs.map List.length) := by
 refine mem_boxes.mpr ⟨by rw [List.length_map]; exact h.len, fun i n x hn hx => ?_⟩
 rw [List.getElem?_map] at hn
 cases e : rs[i]? with
 | none => rw [e] at hn; cases hn
 | some r =>
  rw [e] at hn
  have : r.length = n := Option.some.inj hn
  subst this
  exact h.rng i x r hx e
noncomputable def cutK (c : List Int) : NK := (c.sum, c)
structure AllCuts (rs : Rows) (cs : List (List Int)) : Prop where
 mem : ∀ c, c ∈ cs ↔ Inside rs c
 ord : cs.Pairwise fun a b => pkLt (cutK a) (cutK b) = true
theorem pkLt_asym {a b : NK} (h : pkLt a b = true) : ¬ pkLt b a = true := fun k => by
 have := pkLt_trans a b a h k
 rw [pkLt_irr] at this
 cases this
theorem strict_of {α : Type} {f : α → NK} (hf : ∀ a b, f a = f b → a = b) {l : List α} (h : (l.map f).Pairwise fun a b => pkLt b a = false) (nd : l.Nodup) : l.Pairwise fun a b => pkLt (f a) (f b) = true := by
 rw [List.pairwise_map] at h
 refine List.Pairwise.imp₂ ?_ h nd
 intro a b h1 h2
 cases q : pkLt (f a) (f b) with
 | true => rfl
 | false => exact absurd (hf _ _ (pkLt_tri _ _ q h1)) h2
noncomputable def LI (H : Hp) (p : Addr) (ns : List Int) : Prop := H p = some (.lst (ns.map V.int))
noncomputable def LsA (H : Hp) (f : Addr) (ps : List Addr) (ls : List (List Int)) : Prop := H f = some (.lst (ps.map V.ref)) ∧ Paired (LI H) ps ls
theorem LsA.same {H H' : Hp} {f : Addr} {ps : List Addr} {ls : List (List Int)} (k : Same H H') (h : LsA H f ps ls) : LsA H' f ps ls := ⟨k _ _ h.1, Paired.mapP h.2 fun _ _ z => k _ _ z⟩
noncomputable def TupI (H : Hp) (x : V) (c : List Int) : Prop := ∃ u, x = .ref u ∧ H u = some (.tup (c.map V.int))
theorem TupI.same {H H' : Hp} {x : V} {c : List Int} (k : Same H H') (h : TupI H x c) : TupI H' x c := by
 obtain ⟨u, e, z⟩ := h
 exact ⟨u, e, k _ _ z⟩
theorem TupI.off {H : Hp} {x : V} {c : List Int} {b : Addr} {o : HO} {l : List V} (h : TupI H x c) (hb : H b = some (.lst l)) : TupI (L2.upd H b o) x c := by
 obtain ⟨u, e, z⟩ := h
 exact ⟨u, e, by rw [upd_ne (by rintro rfl; rw [hb] at z; cases z)]; exact z⟩
noncomputable def CutsA (H : Hp) (f : Addr) (cs : List (List Int)) : Prop := ∃ xs, H f = some (.lst xs) ∧ Paired (TupI H) xs cs
theorem paired_off {H : Hp} {f : Addr} {o : HO} {qs : List Addr} {ls : List (List Int)} (h : Paired (LI H) qs ls) (hn : f ∉ qs) : Paired (LI (L2.upd H f o)) qs ls := by
 induction h with
 | nil => exact .nil
 | @cons p n ps ls q t ih =>
  refine .cons ?_ (ih fun z => hn (List.mem_cons_of_mem _ z))
  unfold LI
  rw [upd_ne (by rintro rfl; exact hn List.mem_cons_self)]
  exact q
theorem pairV_same {H H' : Hp} {x : V} {k : NK} (s : Same H H') (h : PairV H x k) : PairV H' x k := by
 obtain ⟨t, u, e, h1, h2⟩ := h
 exact ⟨t, u, e, s _ _ h1, s _ _ h2⟩
theorem pairV_off {H : Hp} {x : V} {k : NK} {b : Addr} {o : HO} {l : List V} (h : PairV H x k) (hb : H b = some (.lst l)) : PairV (L2.upd H b o) x k := by
 obtain ⟨t, u, e, h1, h2⟩ := h
 exact ⟨t, u, e, by rw [upd_ne (by rintro rfl; rw [hb] at h1; cases h1)]; exact h1, by rw [upd_ne (by rintro rfl; rw [hb] at h2; cases h2)]; exact h2⟩
inductive sp_longerP (vs : List V) (H : Hp) (Q : VK) (x_3 : XK) : Prop
 | mk (c : Addr) (ps : List Addr) (ls : List (List Int)) (m : Nat) (h_0 : vs = [.ref c, .int (m : Nat)]) (h_1 : LsA H c ps ls) (h_2 : m ≤ 1000) (h_3 : ls.length * (m + 1) ≤ 1000000) (h_4 : (∀ l ∈ ls, l.length ≤ 1000)) (h_5 : ∀ (f : Addr) (qs : List Addr) (H' : Hp), Same H H' → H f = none → LsA H' f qs (longer ls m) → Q (.ref f) H')
noncomputable def sp_longer : Sp := fun vs H Q x_3 => sp_longerP vs H Q x_3
inductive sp_allP (vs : List V) (H : Hp) (Q : VK) (x_3 : XK) : Prop
 | mk (a : Addr) (ps : List Addr) (rs : Rows) (h_0 : vs = [.ref a]) (h_1 : RowsA H a ps rs) (h_2 : Val rs) (h_3 : ∀ (f : Addr) (cs : List (List Int)) (H' : Hp), Same H H' → H f = none → CutsA H' f cs → AllCuts rs cs → Q (.ref f) H')
noncomputable def sp_all : Sp := fun vs H Q x_3 => sp_allP vs H Q x_3
end Cw
namespace L2
open PySem PySem.Spec PyProof.Rows
section
variable {prog : Program} {w : World} {A : Around} {E : Value → Shared → Prop} {s : Shared}
end
section
variable {prog : Program} {w : World} {A : Around} {E : Value → Shared → Prop} {s : Shared}
end
section
variable {X : Cx} {pins : List (Addr × Obj)} {σ : St} {H : Hp} {s : Shared} {h' : Heap}
end
section
variable {X : Cx}
end
theorem Same.off {H H2 : Hp} {b : Addr} {o : HO} (s : Same H H2) (hb : H b = none) : Same H (upd H2 b o) := fun c u z => by rw [upd_ne (ne_of_none z hb)]; exact s c u z
inductive rCatAP (K : PySem.W.Frag) (x : V) (y : V) (H : Hp) (Q : VK) : Prop
 | mk (a : _) (b : _) (xs : _) (ys : _) (h_0 : x = .ref a) (h_1 : y = .ref b) (h_2 : SqT K H a xs) (h_3 : SqT K H b ys) (h_4 : xs.length + ys.length ≤ sizeLine) (h_5 : (xs = [] → Q (.ref b) H)) (h_6 : (xs ≠ [] → ys = [] → Q (.ref a) H)) (h_7 : (xs ≠ [] → ys ≠ [] → ∀ p, H p = none → Q (.ref p) (upd H p (.tup (xs ++ ys)))))
noncomputable def rCatA (K : PySem.W.Frag) : R2 := fun x y H Q => rCatAP K x y H Q
theorem cat_nil {prog : Program} {w : World} {A : Around} {E : Value → Shared → Prop} {s : Shared} {t b : Addr} {vs ws : List Value} {Q : Value → Shared → Prop} (g1 : IsTup s.heap t vs.toArray) (g2 : IsTup s.heap b ws.toArray) (hv : vs = []) (q : Q (.ref b) s) :
  wpAny (model prog w) A (binaryOp .Add (.ref t) (.ref b)) Q E s := by
 obtain ⟨⟨k1, i1, t1, l1⟩, o1, c1, n1, d1⟩ := id g1
 obtain ⟨⟨k2, i2, t2, l2⟩, o2, c2, n2, d2⟩ := id g2
 simp only at c1 d1 c2 d2
 subst c1 d1 c2 d2
 exact concat_meets ⟨_, o1, rfl⟩ ⟨_, o2, rfl⟩ noFill_tuple_add seq_tuple_add PySem.F.slot_tuple_add PySem.F.entry_tuple_add (PySem.F.args_tuple_add_2 _ _) (tuple_addW0 t b vs.toArray ws.toArray n1 n2 i1 i2 l1 l2 (by simp [hv])) ⟨o1, o2, q⟩
theorem op_catA {X : Cx} : OpR X (binaryOp .Add) (rCatA X.K) := by
 intro pins s σ H x y v u Q I rx ry h
 obtain ⟨a, b, xs, ys, rfl, rfl, ha, hb, hz, q0, q1, q2⟩ := h
 by_cases e : xs = []
 ·cases rx
  cases ry
  obtain ⟨its, r1, p1, _⟩ := I.tuple ha
  obtain ⟨its2, r2, p2, _⟩ := I.tuple hb
  exact cat_nil p1 p2 (r1.nil_iff.mpr e) ⟨.ref b, H, I, rfl, q0 e⟩
 ·exact op_catT pins s σ H _ _ v u Q I rx ry ⟨a, b, xs, ys, rfl, rfl, ha, hb, e, hz, q1 e, q2 e⟩
end L2
namespace Cw
open PySem L2
noncomputable def FreeI (rs : Rows) (ns : List Int) (e : Ev) : Prop := e.k = .take → ∃ (h p : Nat) (n : Int) (e' : Ev), at? rs h p = some e' ∧ e'.k = .send ∧ e'.l = e.l ∧ ns[h]? = some n ∧ (p : Int) < n
noncomputable def natI (cs : List Nat) : List Int := cs.map fun n => ((n : Nat) : Int)
theorem csV_natI (cs : List Nat) : csV cs = (natI cs).map V.int := by
 unfold csV natI
 rw [List.map_map]
 rfl
theorem natI_len (cs : List Nat) : (natI cs).length = cs.length := by unfold natI; rw [List.length_map]
theorem natI_get {cs : List Nat} {h : Nat} : (natI cs)[h]? = (cs[h]?).map fun n => ((n : Nat) : Int) := by unfold natI; rw [List.getElem?_map]
theorem freeI_nat {rs : Rows} {cs : List Nat} {e : Ev} : FreeI rs (natI cs) e ↔ Free rs cs e := by
 constructor
 ·intro h hk
  obtain ⟨h', p, n, e', a, b, c, d, lt⟩ := h hk
  rw [natI_get] at d
  obtain ⟨m, hm, rfl⟩ := Option.map_eq_some_iff.mp d
  exact ⟨h', p, m, e', a, b, c, hm, by lia⟩
 ·intro h hk
  obtain ⟨h', p, m, e', a, b, c, d, lt⟩ := h hk
  exact ⟨h', p, m, e', a, b, c, by rw [natI_get, d]; rfl, by lia⟩
noncomputable def Goes (rs : Rows) (ns : List Int) (h : Nat) : Prop := ∃ n, ns[h]? = some n ∧ Inside rs (ns.set h (n + 1))
theorem row_of {rs : Rows} {ns : List Int} (I : Inside rs ns) {h : Nat} {n : Int} (hn : ns[h]? = some n) : ∃ r, rs[h]? = some r ∧ 0 ≤ n ∧ n ≤ r.length := by
 have hl : h < rs.length := by rw [← I.len]; exact (List.getElem?_eq_some_iff.mp hn).1
 exact ⟨_, List.getElem?_eq_getElem hl, I.rng h n _ hn (List.getElem?_eq_getElem hl)⟩
theorem set_get {ns : List Int} {h j : Nat} {n m : Int} (hn : ns[h]? = some n) : (ns.set h m)[j]? = if j = h then some m else ns[j]? := by
 have hl : h < ns.length := (List.getElem?_eq_some_iff.mp hn).1
 by_cases q : j = h
 ·subst q
  rw [if_pos rfl, List.getElem?_set_self hl]
 ·rw [if_neg q, List.getElem?_set_ne (Ne.symm q)]
theorem goes_iff {rs : Rows} {ns : List Int} (v : Val rs) (I : Inside rs ns) {h : Nat} {n : Int} (hn : ns[h]? = some n) : Inside rs (ns.set h (n + 1)) ↔ ∃ e, at? rs h n.toNat = some e ∧ FreeI rs ns e := by
 obtain ⟨r, hr, n0, n1⟩ := row_of I hn
 constructor
 ·intro J
  have hnn : (ns.set h (n + 1))[h]? = some (n + 1) := by rw [set_get hn, if_pos rfl]
  have b := (J.rng h (n + 1) r hnn hr).2
  have hlt : n.toNat < r.length := by lia
  have hat : at? rs h n.toNat = some r[n.toNat] := by rw [at_row hr]; exact List.getElem?_eq_getElem hlt
  refine ⟨_, hat, fun hk => ?_⟩
  obtain ⟨h', p', e', ha', hk', hl'⟩ := v.sent h n.toNat _ hat hk
  obtain ⟨m, hm, lt⟩ := J.sent h n.toNat _ (n + 1) hat hk hnn (by lia) h' p' e' ha' hk' hl'
  rw [set_get hn] at hm
  by_cases q : h' = h
  ·subst q
   rw [if_pos rfl] at hm
   cases hm
   have ne : p' ≠ n.toNat := by
    rintro rfl
    rw [ha'] at hat
    cases hat
    rw [hk'] at hk
    cases hk
   exact ⟨h', p', n, e', ha', hk', hl', hn, by lia⟩
  ·rw [if_neg q] at hm
   exact ⟨h', p', m, e', ha', hk', hl', hm, lt⟩
 ·rintro ⟨e, hat, fr⟩
  have hlt : n.toNat < r.length := by
   rw [at_row hr] at hat
   exact (List.getElem?_eq_some_iff.mp hat).1
  have up : ∀ (j : Nat) (m : Int), ns[j]? = some m → ∃ m', (ns.set h (n + 1))[j]? = some m' ∧ m ≤ m' := by
   intro j m hm
   by_cases q : j = h
   ·subst q
    rw [hn] at hm
    cases hm
    exact ⟨n + 1, by rw [set_get hn, if_pos rfl], by lia⟩
   ·exact ⟨m, by rw [set_get hn, if_neg q]; exact hm, Int.le_refl _⟩
  refine ⟨by rw [List.length_set]; exact I.len, fun j m r' hm hr' => ?_, fun j p e2 m he2 hk hm lt h' p' e' ha' hk' hl' => ?_⟩
  ·rw [set_get hn] at hm
   by_cases q : j = h
   ·subst q
    rw [if_pos rfl] at hm
    cases hm
    rw [hr] at hr'
    cases hr'
    lia
   ·rw [if_neg q] at hm
    exact I.rng j m r' hm hr'
  ·have old : ∀ m0, ns[j]? = some m0 → (p : Int) < m0 → ∃ n', (ns.set h (n + 1))[h']? = some n' ∧ (p' : Int) < n' := by
    intro m0 hm0 lt0
    obtain ⟨k, hk0, lk⟩ := I.sent j p e2 m0 he2 hk hm0 lt0 h' p' e' ha' hk' hl'
    obtain ⟨k', hk1, lk'⟩ := up h' k hk0
    exact ⟨k', hk1, by lia⟩
   rw [set_get hn] at hm
   by_cases q : j = h
   ·subst q
    rw [if_pos rfl] at hm
    cases hm
    by_cases q2 : (p : Int) < n
    ·exact old n hn q2
    ·have ep : p = n.toNat := by lia
     subst ep
     rw [hat] at he2
     cases he2
     obtain ⟨h2, p2, n2, e2', a2, b2, c2, d2, l2⟩ := fr hk
     obtain ⟨z1, z2⟩ := v.us h' p' h2 p2 e' e2' ha' a2 hk' b2 (by rw [hl', c2])
     subst z1; subst z2
     obtain ⟨k', hk1, lk'⟩ := up h' n2 d2
     exact ⟨k', hk1, by lia⟩
   ·rw [if_neg q] at hm
    exact old m hm lt
structure Nexts (rs : Rows) (ns : List Int) (hs : List Nat) : Prop where
 mem : ∀ h, h ∈ hs ↔ Goes rs ns h
 ord : hs.Pairwise (· < ·)
structure NextsTo (rs : Rows) (ns : List Int) (i : Nat) (hs : List Nat) : Prop where
 mem : ∀ h, h ∈ hs ↔ h < i ∧ Goes rs ns h
 ord : hs.Pairwise (· < ·)
theorem NextsTo.zero (rs : Rows) (ns : List Int) : NextsTo rs ns 0 [] := ⟨fun h => ⟨fun z => (nomatch z), fun z => absurd z.1 (Nat.not_lt_zero _)⟩, .nil⟩
theorem NextsTo.yes {rs : Rows} {ns : List Int} {i : Nat} {hs : List Nat} (x : NextsTo rs ns i hs) (g : Goes rs ns i) : NextsTo rs ns (i + 1) (hs ++ [i]) := by
 refine ⟨fun h => ?_, ?_⟩
 ·rw [List.mem_append, x.mem, List.mem_singleton]
  constructor
  ·rintro (⟨a, b⟩ | rfl)
   ·exact ⟨by lia, b⟩
   ·exact ⟨by lia, g⟩
  ·rintro ⟨a, b⟩
   by_cases q : h = i
   ·exact .inr q
   ·exact .inl ⟨by lia, b⟩
 ·rw [List.pairwise_append]
  refine ⟨x.ord, by simp, fun a ha b hb => ?_⟩
  have : b = i := by simpa using hb
  subst this
  exact ((x.mem a).mp ha).1
theorem NextsTo.no {rs : Rows} {ns : List Int} {i : Nat} {hs : List Nat} (x : NextsTo rs ns i hs) (g : ¬ Goes rs ns i) : NextsTo rs ns (i + 1) hs := by
 refine ⟨fun h => ?_, x.ord⟩
 rw [x.mem]
 constructor
 ·rintro ⟨a, b⟩
  exact ⟨by lia, b⟩
 ·rintro ⟨a, b⟩
  by_cases q : h = i
  ·subst q; exact absurd b g
  ·exact ⟨by lia, b⟩
theorem NextsTo.all {rs : Rows} {ns : List Int} {hs : List Nat} (x : NextsTo rs ns ns.length hs) : Nexts rs ns hs := by
 refine ⟨fun h => ?_, x.ord⟩
 rw [x.mem]
 refine ⟨fun z => z.2, fun z => ⟨?_, z⟩⟩
 obtain ⟨n, hn, _⟩ := z
 exact (List.getElem?_eq_some_iff.mp hn).1
theorem NextsTo.len {rs : Rows} {ns : List Int} {i : Nat} {hs : List Nat} (x : NextsTo rs ns i hs) : hs.length ≤ i := by
 have nd : hs.Nodup := List.Pairwise.imp (fun h => Nat.ne_of_lt h) x.ord
 have := nodup_len (m := List.range i) nd fun h hh => List.mem_range.mpr ((x.mem h).mp hh).1
 rwa [List.length_range] at this
theorem cut_to {xs : List V} {k : Nat} (h : k ≤ xs.length) : cutV xs none (some ((k : Nat) : Int)) = xs.take k := by
 unfold cutV
 rw [HT.sIx_nat, HT.sIx_none, List.drop_zero, Nat.min_eq_left h, Nat.sub_zero]
noncomputable def TpI (H : Hp) (c : Addr) (ns : List Int) : Prop := H c = some (.tup (ns.map V.int))
inductive sp_canSP (K : PySem.W.Frag) (vs : List V) (H : Hp) (Q : VK) (x_3 : XK) : Prop
 | mk (t : Addr) (sd : Addr) (c : Addr) (e : Ev) (ns : List Int) (rs : Rows) (h_0 : vs = [.ref t, .ref sd, .ref c]) (h_1 : H t = some (.tup e.vs)) (h_2 : SendsA H sd rs) (h_3 : Sq K H c (ns.map V.int)) (h_4 : ns.length = rs.length) (h_5 : Uniq .send rs) (h_6 : (e.k = .take → ∃ (h' p' : Nat) (e' : Ev), at? rs h' p' = some e' ∧ e'.k = .send ∧ e'.l = e.l)) (h_7 : ∀ b : Bool, (b = true ↔ FreeI rs ns e) → Q (.bl b) H)
noncomputable def sp_canS (K : PySem.W.Frag) : Sp := fun vs H Q x_3 => sp_canSP K vs H Q x_3
theorem can_of_canS {K : PySem.W.Frag} {vs : List V} {H : Hp} {Q : VK} {E : XK} (h : sp_can vs H Q E) : sp_canS K vs H Q E := by
 obtain ⟨t, sd, c, e, cs, rs, e1, h1, h2, h3, h4, h5, h6, q⟩ := h
 refine ⟨t, sd, c, e, natI cs, rs, e1, h1, h2, .inl (SqL.of (by rw [← csV_natI]; exact h3)), by rw [natI_len]; exact h4, h5, h6, fun b hb => q b ?_⟩
 rw [hb, freeI_nat]
inductive sp_cangoP (C : Addr) (vs : List V) (H : Hp) (Q : VK) (x_3 : XK) : Prop
 | mk (x : Addr) (a : Addr) (sd : Addr) (td : Addr) (ps : List Addr) (rs : Rows) (c : Addr) (ns : List Int) (h : Nat) (h_0 : vs = [.ref x, .ref c, .int (h : Nat)]) (h_1 : RecA C H x rs a ps sd td) (h_2 : TpI H c ns) (h_3 : Inside rs ns) (h_4 : h < ns.length) (h_5 : ∀ (b : Bool), (b = true ↔ Goes rs ns h) → Q (.bl b) H)
noncomputable def sp_cango (C : Addr) : Sp := fun vs H Q x_3 => sp_cangoP C vs H Q x_3
inductive sp_nextsP (C : Addr) (vs : List V) (H : Hp) (Q : VK) (x_3 : XK) : Prop
 | mk (x : Addr) (a : Addr) (sd : Addr) (td : Addr) (ps : List Addr) (rs : Rows) (c : Addr) (ns : List Int) (h_0 : vs = [.ref x, .ref c]) (h_1 : RecA C H x rs a ps sd td) (h_2 : TpI H c ns) (h_3 : Inside rs ns) (h_4 : ∀ (f : Addr) (hs : List Nat) (H' : Hp), Same H H' → H f = none → H' f = some (.lst (csV hs)) → Nexts rs ns hs → Q (.ref f) H')
noncomputable def sp_nexts (C : Addr) : Sp := fun vs H Q x_3 => sp_nextsP C vs H Q x_3
inductive sp_beginP (C : Addr) (vs : List V) (H : Hp) (Q : VK) (x_3 : XK) : Prop
 | mk (x : Addr) (a : Addr) (sd : Addr) (td : Addr) (ps : List Addr) (rs : Rows) (h_0 : vs = [.ref x]) (h_1 : RecA C H x rs a ps sd td) (h_2 : ∀ (t : Addr) (H' : Hp), Same H H' → TpI H' t (rs.map fun _ => 0) → Q (.ref t) H')
noncomputable def sp_begin (C : Addr) : Sp := fun vs H Q x_3 => sp_beginP C vs H Q x_3
inductive sp_addedP (vs : List V) (H : Hp) (Q : VK) (x_3 : XK) : Prop
 | mk (c : Addr) (ns : List Int) (h : Nat) (n : Int) (h_0 : vs = [.ref c, .int (h : Nat)]) (h_1 : TpI H c ns) (h_2 : ns.length ≤ 1000) (h_3 : ns[h]? = some n) (h_4 : ∀ (t : Addr) (H' : Hp), Same H H' → TpI H' t (ns.set h (n + 1)) → Q (.ref t) H')
noncomputable def sp_added : Sp := fun vs H Q x_3 => sp_addedP vs H Q x_3
end Cw
namespace L2
open PySem PySem.Spec PyProof.Rows
theorem gset {i : Nat} {v : V} {σ : St} {H : Hp} {Q : St → Hp → Prop} (h : Q (σ.set i (some v)) H) : gName i v σ H Q := h
theorem seq_set {i : Nat} {v : V} {r : TS} {D : Ends} {σ : St} {H : Hp} (h : r D (σ.set i (some v)) H) : tSeq (tAsg (tC v) (gName i)) r D σ H := h
theorem if_mid {tc : TT} {t r : TS} {D : Ends} {σ : St} {H : Hp} (c : Bool) (J : St → Hp → Prop) (hc : ∀ R : Bool → Hp → Prop, R c H → tc σ H R) (h0 : c = false → J σ H)
  (h1 : c = true → (∀ σ' H', J σ' H' → r D σ' H') → t (D.sq r) σ H) (hr : ∀ σ' H', J σ' H' → r D σ' H') : tSeq (tIfS tc t tNext) r D σ H := by
 refine hc _ ?_
 cases c with
 | true => rw [if_pos rfl]; exact h1 rfl hr
 | false => rw [if_neg Bool.false_ne_true]; exact hr _ _ (h0 rfl)
end L2
namespace Cw
open PySem L2
theorem get_of {α : Type} {l : List α} {h : Nat} (hl : h < l.length) : ∃ x, l[h]? = some x := ⟨_, List.getElem?_eq_getElem hl⟩
theorem lt_of_get {α : Type} {l : List α} {h : Nat} {x : α} (e : l[h]? = some x) : h < l.length := (List.getElem?_eq_some_iff.mp e).1
theorem inside_zero (rs : Rows) : Inside rs (rs.map fun _ => 0) := by
 refine ⟨by rw [List.length_map], fun h n r hn hr => ?_, fun h p e n he hk hn lt => ?_⟩
 ·rw [List.getElem?_map, hr] at hn
  have hn : (0 : Int) = n := Option.some.inj hn
  lia
 ·rw [List.getElem?_map] at hn
  cases e2 : rs[h]? with
  | none => rw [e2] at hn; cases hn
  | some r =>
   rw [e2] at hn
   have hn : (0 : Int) = n := Option.some.inj hn
   lia
theorem snoc_take {α : Type} {l : List α} {i : Nat} {x : α} (h : l[i]? = some x) : l.take (i + 1) = l.take i ++ [x] := by rw [List.take_add_one, h]; rfl
theorem tupi_mean (K : PySem.W.Frag) {H : Hp} {t : Addr} {ns : List Int} (h : TpI H t ns) : MTup K MFl H (.ref t) (ns.map V.int) := by
 refine ⟨t, _, rfl, SqT.of h, ?_⟩
 clear h
 induction ns with
 | nil => exact .nil
 | cons n ns ih => exact .cons ⟨rfl, rfl⟩ ih
theorem map_int_inj {a b : List Int} (h : a.map V.int = b.map V.int) : a = b := by
 induction a generalizing b with
 | nil => cases b with
  | nil => rfl
  | cons _ _ => cases h
 | cons x a ih => cases b with
  | nil => cases h
  | cons y b =>
   rw [List.map_cons, List.map_cons] at h
   injection h with h1 h2
   injection h1 with h1
   rw [h1, ih h2]
theorem TpI.same {H H' : Hp} {t : Addr} {c : List Int} (s : Same H H') (h : TpI H t c) : TpI H' t c := s _ _ h
theorem mod_ix {d n : Int} {k : Nat} (h : 0 < k) (e : n = (k : Int)) : ∃ j : Nat, d % n = ((j : Nat) : Int) ∧ j < k := by
 have h0 := Int.emod_nonneg d (show n ≠ 0 by lia)
 have h1 := Int.emod_lt_of_pos d (show 0 < n by lia)
 exact ⟨(d % n).toNat, by lia, by lia⟩
end Cw
namespace L2
open PySem PySem.Spec PyProof.Rows
section
variable {P : Program} {w : World} {H H' : Hp} {h h' : Heap} {a : Addr} {o : HO}
end
section
variable {M : Model} {A : Around} {E : Value → Shared → Prop} {s : Shared}
end
end L2
set_option maxHeartbeats 2000000
namespace L2
open PySem PySem.Spec PyProof.Rows
section
variable {X : Cx} {pins : List (Addr × Obj)} {σ : St} {H : Hp} {s : Shared} {M : Model} {E : Value → Shared → Prop}
end
section
variable {P : Program} {w : World} {K : PySem.W.Frag} {mg : Str → Option Value} {base : Heap}
end
section
variable {X : Cx} {k : Nat} {f C : Addr} {fd : FuncData} {ps : List Str} {sp : Sp} {W : St → XK} {x m : Str} {p pos apos : Pos} {e o : Expr} {es : List Expr} {ta : TE} {t : TA}
end
section
variable {prog : Program} {w : World} {A : Around} {E : Value → Shared → Prop} {h : Heap} {g : Array GenState} {d : Drawn} {t : Nat} {os : OsState} {a C : Addr} {ox : Obj} {od : Option Obj} {K : PySem.W.Frag}
end
section
variable {X : Cx} {e : Expr} {es : List Expr} {te : TE} {t : TJ} {pos p2 : Pos}
end
section
variable {X : Cx} {pins : List (Addr × Obj)} {σ : St} {H : Hp} {s : Shared} {A : Around} {E : Value → Shared → Prop} {Q : Value → Shared → Prop} {c : Value} {b : Bool}
end
section
variable {X : Cx} {pins p0 : List (Addr × Obj)} {σ : St} {H : Hp} {s : Shared} {E : Value → Shared → Prop} {v : Value}
end
section
variable {X : Cx} {x n : Str} {R : Addr} {i : Nat} {np hpos pos : Pos} {b₀ : Stmt} {suite : List Stmt} {th : TS}
end
section
variable {X : Cx} {k : Nat} {C : Addr} {x m : Str} {ps : List Str} {sp : Sp} {W : St → XK} {o e : Expr} {es : List Expr} {ta : TE} {t : TA} {p apos pos : Pos}
end
section
variable {X : Cx} {e : Expr} {es : List Expr} {te : TE} {t : TM} {pos p2 : Pos}
end
section
variable {X : Cx} {α : Type} {M : Hp → V → α → Prop} {d : Nat} [DecidableEq α]
end
noncomputable def MBo (_ : Hp) (x : V) (a : Bool) : Prop := x = .bl a
theorem EqOk.bool {X : Cx} : EqOk X 0 MBo where
 eq := fun pins σ H s A x y a b u v I hu hx hy rx ry => by
  subst hx; subst hy
  cases (show u = Value.bool a from rx)
  cases (show v = Value.bool b from ry)
  have e : decide (a = b) = (a == b) := by cases a <;> cases b <;> rfl
  rw [e]
  exact SeqAt.EqAt.bool_bool a b
 fn := fun pins σ H s x a b I h1 h2 => by rw [show x = .bl a from h1] at h2; cases h2; rfl
end L2
set_option maxHeartbeats 4000000
namespace Cw
open PySem L2
end Cw
namespace L2
open PySem PySem.Spec PyProof.Rows
theorem bools_of {bs : List Bool} : ∀ {its : List Value}, Vals (bs.map V.bl) its → its = bs.map Value.bool := by
 induction bs with
 | nil => intro its h; cases h; rfl
 | cons b bs ih =>
  intro its h
  rw [List.map_cons] at h
  cases h with
  | cons r t => rw [show _ = Value.bool b from r, ih t]; rfl
theorem truth_bools {prog : Program} {w : World} {A : Around} (bs : List Bool) : TruthOf prog w A (fun i v => (bs.map Value.bool).toArray[i]? = some v) (fun i => (bs[i]?).getD false) := by
 intro i v s Q E hP hQ
 have e : (bs.map Value.bool)[i]? = some v := by simpa using hP
 rw [List.getElem?_map] at e
 cases h : bs[i]? with
 | none => rw [h] at e; cases e
 | some b =>
  rw [h] at e
  have hQ : Q ((bs[i]?).getD false) s := hQ
  rw [h] at hQ
  cases e
  exact wpAny_truthy_bool hQ
theorem range_any (bs : List Bool) : (List.range bs.length).any (fun i => (bs[i]?).getD false) = bs.any id := by
 induction bs with
 | nil => rfl
 | cons b bs ih =>
  rw [List.length_cons, List.range_succ_eq_map, List.any_cons, List.any_map, List.any_cons]
  rw [← ih]
  rfl
theorem range_all (bs : List Bool) : (List.range bs.length).all (fun i => (bs[i]?).getD false) = bs.all id := by
 induction bs with
 | nil => rfl
 | cons b bs ih =>
  rw [List.length_cons, List.range_succ_eq_map, List.all_cons, List.all_map, List.all_cons]
  rw [← ih]
  rfl
inductive rAnyP (K : PySem.W.Frag) (xs : List V) (H : Hp) (Q : VK) : Prop
 | mk (p : Addr) (bs : List Bool) (h_0 : xs = [.ref p]) (h_1 : SqL K H p (bs.map V.bl)) (h_2 : Q (.bl (bs.any id)) H)
noncomputable def rAny (K : PySem.W.Frag) : List V → Hp → VK → Prop := fun xs H Q => rAnyP K xs H Q
inductive rAllP (K : PySem.W.Frag) (xs : List V) (H : Hp) (Q : VK) : Prop
 | mk (p : Addr) (bs : List Bool) (h_0 : xs = [.ref p]) (h_1 : SqL K H p (bs.map V.bl)) (h_2 : Q (.bl (bs.all id)) H)
noncomputable def rAll (K : PySem.W.Frag) : List V → Hp → VK → Prop := fun xs H Q => rAllP K xs H Q
theorem call_any {X : Cx} (hc : X.calm = true) : CallR X (.builtin "any") (rAny X.K) := by
 intro pins s σ H xs us Q I r h
 obtain ⟨p, bs, rfl, hq, q⟩ := h
 obtain ⟨u, rfl, ru⟩ := vals1 r
 cases ru
 obtain ⟨its, rv, pl, _⟩ := I.list hq
 have e := bools_of rv
 subst e
 have hl := pl.isList
 have hlt : p < s.heap.objs.size := by obtain ⟨_, e, _⟩ := hl; exact Heap.lt_size e
 refine call_any_walk (wpAny_pyIter_list hl ⟨_, _, _, _, _, _, _, rfl, Walks.list (A := X.A.in1) (I.ok.hd hc) _ p (Nat.ne_of_lt hlt) _, ⟨⟨_, Heap.get?_push_size _ rfl, rfl, rfl⟩, Heap.IsList.push hl _⟩, truth_bools bs, fun h' tk hk => ?_⟩)
 refine ⟨.bl (bs.any id), H, I.kept (t' := tk) (fun b o e => hk b o (fun hm => ?_) (Heap.get?_push_of_some _ e)), ?_, q⟩
 ·have z : b = s.heap.objs.size := by simpa using hm
  exact absurd (z ▸ Heap.lt_size e) (Nat.lt_irrefl _)
 ·show Value.bool _ = Value.bool _
  rw [← range_any bs]
  simp
theorem call_all {X : Cx} (hc : X.calm = true) : CallR X (.builtin "all") (rAll X.K) := by
 intro pins s σ H xs us Q I r h
 obtain ⟨p, bs, rfl, hq, q⟩ := h
 obtain ⟨u, rfl, ru⟩ := vals1 r
 cases ru
 obtain ⟨its, rv, pl, _⟩ := I.list hq
 have e := bools_of rv
 subst e
 have hl := pl.isList
 have hlt : p < s.heap.objs.size := by obtain ⟨_, e, _⟩ := hl; exact Heap.lt_size e
 refine call_all_walk (wpAny_pyIter_list hl ⟨_, _, _, _, _, _, _, rfl, Walks.list (A := X.A.in1) (I.ok.hd hc) _ p (Nat.ne_of_lt hlt) _, ⟨⟨_, Heap.get?_push_size _ rfl, rfl, rfl⟩, Heap.IsList.push hl _⟩, truth_bools bs, fun h' tk hk => ?_⟩)
 refine ⟨.bl (bs.all id), H, I.kept (t' := tk) (fun b o e => hk b o (fun hm => ?_) (Heap.get?_push_of_some _ e)), ?_, q⟩
 ·have z : b = s.heap.objs.size := by simpa using hm
  exact absurd (z ▸ Heap.lt_size e) (Nat.lt_irrefl _)
 ·show Value.bool _ = Value.bool _
  rw [← range_all bs]
  simp
theorem bt_any : bootBuiltins "any" = some (.builtin "any") := by decide +kernel
theorem bt_all : bootBuiltins "all" = some (.builtin "all") := by decide +kernel
inductive rSIndexP (x : V) (vs : List V) (H : Hp) (Q : VK) : Prop
 | mk (a : Str) (b : Str) (i : Nat) (rest : List Nat) (h_0 : x = .str a) (h_1 : vs = [.str b]) (h_2 : Builtin.Str.occurrences a b 0 a.length 1 = i :: rest) (h_3 : Q (.int (i : Nat)) H)
noncomputable def rSIndex : V → List V → Hp → VK → Prop := fun x vs H Q => rSIndexP x vs H Q
theorem mt_sindex {X : Cx} : MtM X "str.index" rSIndex := by
 intro pins s σ H x vs v us Q I rx rv h
 obtain ⟨a, b, i, rest, rfl, rfl, ho, q⟩ := h
 obtain ⟨t, rfl⟩ := rx
 obtain ⟨u, rfl, ru⟩ := rv.one
 obtain ⟨t2, rfl⟩ := ru
 exact PySem.SC.index ho ⟨.int (i : Nat), H, I.tok _, ⟨_, rfl⟩, q⟩
end L2
namespace L2
theorem gset_nx {i : Nat} {v : V} {σ : St} {H : Hp} {a bk ct : St → Hp → Prop} {rt : VK} (h : a (σ.set i (some v)) H) : gName i v σ H (Ends.nx { nx := a, rt := rt, bk := bk, ct := ct }) := h
end L2
namespace Cw
open PySem L2
inductive Sg where
 | lt | eq | gt
 deriving DecidableEq
noncomputable def Sg.str : Sg → Str
 | .lt => "<"
 | .eq => "="
 | .gt => ">"
theorem Sg.str_inj : ∀ {a b : Sg}, a.str = b.str → a = b := by
 intro a b h
 cases a <;> cases b <;> first | rfl | exact absurd h (by decide +kernel)
structure Tm where
 h : Nat
 s : Sg
 n : Int
 deriving DecidableEq
noncomputable def Tm.vs (t : Tm) : List V := [.int (t.h : Nat), .str t.s.str, .int t.n]
noncomputable def valIn (rs : Rows) (c : List Int) (h : Nat) : Int := match c[h]? with
 | some n => if n = 0 then 0 else match at? rs h (n - 1).toNat with
  | some e => e.v
  | none => 0
 | none => 0
noncomputable def tmHolds (rs : Rows) (c : List Int) (t : Tm) : Bool := match t.s with
 | .lt => decide (valIn rs c t.h < t.n)
 | .eq => decide (valIn rs c t.h = t.n)
 | .gt => decide (t.n < valIn rs c t.h)
noncomputable def wayHolds (rs : Rows) (c : List Int) (ts : List Tm) : Bool := (ts.map (tmHolds rs c)).all id
noncomputable def wishHolds (rs : Rows) (c : List Int) (ws : List (List Tm)) : Bool := (ws.map (wayHolds rs c)).any id
theorem valIn_zero {rs : Rows} {c : List Int} {h : Nat} (hn : c[h]? = some 0) : valIn rs c h = 0 := by
 unfold valIn
 rw [hn]
 rfl
theorem valIn_at {rs : Rows} {c : List Int} {h : Nat} {n : Int} {e : Ev} (hn : c[h]? = some n) (nz : n ≠ 0) (he : at? rs h (n - 1).toNat = some e) : valIn rs c h = e.v := by
 unfold valIn
 rw [hn]
 show (if n = 0 then 0 else _) = _
 rw [if_neg nz, he]
noncomputable def TmAt (H : Hp) (x : V) (t : Tm) : Prop := ∃ p, x = .ref p ∧ H p = some (.tup t.vs)
noncomputable def WayA (H : Hp) (p : Addr) (ts : List Tm) : Prop := ∃ xs, H p = some (.lst xs) ∧ Paired (TmAt H) xs ts
structure WishA (H : Hp) (f : Addr) (ps : List Addr) (ws : List (List Tm)) : Prop where
 top : H f = some (.lst (ps.map V.ref))
 ways : Paired (WayA H) ps ws
theorem TmAt.same {H H' : Hp} {x : V} {t : Tm} (s : Same H H') (h : TmAt H x t) : TmAt H' x t := by
 obtain ⟨p, e, z⟩ := h
 exact ⟨p, e, s _ _ z⟩
theorem TmAt.off {H : Hp} {x : V} {t : Tm} {D : Addr} {ys : List V} {o : HO} (h : TmAt H x t) (hD : H D = some (.lst ys)) : TmAt (L2.upd H D o) x t := by
 obtain ⟨p, e, z⟩ := h
 exact ⟨p, e, by rw [upd_ne (by rintro rfl; rw [hD] at z; cases z)]; exact z⟩
theorem WayA.same {H H' : Hp} {p : Addr} {ts : List Tm} (s : Same H H') (h : WayA H p ts) : WayA H' p ts := by
 obtain ⟨xs, a, b⟩ := h
 exact ⟨xs, s _ _ a, Paired.mapP b fun _ _ z => z.same s⟩
theorem WayA.off {H : Hp} {p D : Addr} {ts : List Tm} {ys : List V} {o : HO} (h : WayA H p ts) (hD : H D = some (.lst ys)) (ne : p ≠ D) : WayA (L2.upd H D o) p ts := by
 obtain ⟨xs, a, b⟩ := h
 exact ⟨xs, by rw [upd_ne ne]; exact a, Paired.mapP b fun _ _ z => z.off hD⟩
theorem WishA.same {H H' : Hp} {f : Addr} {ps : List Addr} {ws : List (List Tm)} (s : Same H H') (h : WishA H f ps ws) : WishA H' f ps ws := ⟨s _ _ h.top, Paired.mapP h.ways fun _ _ z => z.same s⟩
noncomputable def WayOk (n : Nat) (ts : List Tm) : Prop := ts.length ≤ 8 ∧ ∀ t ∈ ts, t.h < n
noncomputable def WishOk (n : Nat) (ws : List (List Tm)) : Prop := ws.length ≤ 8 ∧ ∀ ts ∈ ws, WayOk n ts
inductive sp_valinP (C : Addr) (vs : List V) (H : Hp) (Q : VK) (x_3 : XK) : Prop
 | mk (x : Addr) (a : Addr) (sd : Addr) (td : Addr) (ps : List Addr) (rs : Rows) (c : Addr) (ns : List Int) (h : Nat) (h_0 : vs = [.ref x, .ref c, .int (h : Nat)]) (h_1 : RecA C H x rs a ps sd td) (h_2 : TpI H c ns) (h_3 : Inside rs ns) (h_4 : h < ns.length) (h_5 : Q (.int (valIn rs ns h)) H)
noncomputable def sp_valin (C : Addr) : Sp := fun vs H Q x_3 => sp_valinP C vs H Q x_3
inductive sp_termhP (C : Addr) (vs : List V) (H : Hp) (Q : VK) (x_3 : XK) : Prop
 | mk (x : Addr) (a : Addr) (sd : Addr) (td : Addr) (ps : List Addr) (rs : Rows) (c : Addr) (ns : List Int) (t : Addr) (m : Tm) (h_0 : vs = [.ref x, .ref c, .ref t]) (h_1 : RecA C H x rs a ps sd td) (h_2 : TpI H c ns) (h_3 : Inside rs ns) (h_4 : H t = some (.tup m.vs)) (h_5 : m.h < ns.length) (h_6 : Q (.bl (tmHolds rs ns m)) H)
noncomputable def sp_termh (C : Addr) : Sp := fun vs H Q x_3 => sp_termhP C vs H Q x_3
inductive sp_wayhP (C : Addr) (vs : List V) (H : Hp) (Q : VK) (x_3 : XK) : Prop
 | mk (x : Addr) (a : Addr) (sd : Addr) (td : Addr) (ps : List Addr) (rs : Rows) (c : Addr) (ns : List Int) (f : Addr) (ts : List Tm) (h_0 : vs = [.ref x, .ref c, .ref f]) (h_1 : RecA C H x rs a ps sd td) (h_2 : TpI H c ns) (h_3 : Inside rs ns) (h_4 : WayA H f ts) (h_5 : WayOk ns.length ts) (h_6 : ∀ H', Same H H' → Q (.bl (wayHolds rs ns ts)) H')
noncomputable def sp_wayh (C : Addr) : Sp := fun vs H Q x_3 => sp_wayhP C vs H Q x_3
inductive sp_holdsP (C : Addr) (vs : List V) (H : Hp) (Q : VK) (x_3 : XK) : Prop
 | mk (x : Addr) (a : Addr) (sd : Addr) (td : Addr) (ps : List Addr) (rs : Rows) (c : Addr) (ns : List Int) (f : Addr) (qs : List Addr) (ws : List (List Tm)) (h_0 : vs = [.ref x, .ref c, .ref f]) (h_1 : RecA C H x rs a ps sd td) (h_2 : TpI H c ns) (h_3 : Inside rs ns) (h_4 : WishA H f qs ws) (h_5 : WishOk ns.length ws) (h_6 : ∀ H', Same H H' → Q (.bl (wishHolds rs ns ws)) H')
noncomputable def sp_holds (C : Addr) : Sp := fun vs H Q x_3 => sp_holdsP C vs H Q x_3
inductive sp_lwayP (K : PySem.W.Frag) (vs : List V) (H : Hp) (Q : VK) (x_3 : XK) : Prop
 | mk (a : Addr) (ns : List Int) (k : Int) (n : Nat) (m : Nat) (h_0 : vs = [.ref a, .int k, .int (n : Nat), .int (m : Nat)]) (h_1 : SqL K H a (ns.map V.int)) (h_2 : 0 ≤ k) (h_3 : 1 ≤ n) (h_4 : m ≤ 8) (h_5 : ∀ (f : Addr) (ts : List Tm) (H' : Hp), Same H H' → H f = none → WayA H' f ts → WayOk n ts → Q (.ref f) H')
noncomputable def sp_lway (K : PySem.W.Frag) : Sp := fun vs H Q x_3 => sp_lwayP K vs H Q x_3
structure WishNew (H H' : Hp) (f : Addr) (qs : List Addr) (ws : List (List Tm)) : Prop where
 at_ : WishA H' f qs ws
 nf : H f = none
 nq : ∀ q ∈ qs, H q = none
inductive sp_lwishP (K : PySem.W.Frag) (vs : List V) (H : Hp) (Q : VK) (x_3 : XK) : Prop
 | mk (a : Addr) (ns : List Int) (k : Int) (n : Nat) (h_0 : vs = [.ref a, .int k, .int (n : Nat)]) (h_1 : SqL K H a (ns.map V.int)) (h_2 : 0 ≤ k) (h_3 : 1 ≤ n) (h_4 : ∀ (f : Addr) (qs : List Addr) (ws : List (List Tm)) (H' : Hp), Same H H' → WishNew H H' f qs ws → WishOk n ws → Q (.ref f) H')
noncomputable def sp_lwish (K : PySem.W.Frag) : Sp := fun vs H Q x_3 => sp_lwishP K vs H Q x_3
inductive sp_ltermP (vs : List V) (H : Hp) (Q : VK) (x_3 : XK) : Prop
 | mk (a : Addr) (ps : List Addr) (rs : Rows) (c : Addr) (ns : List Int) (t : Addr) (m : Tm) (h_0 : vs = [.ref a, .ref c, .ref t]) (h_1 : RowsA H a ps rs) (h_2 : TpI H c ns) (h_3 : Inside rs ns) (h_4 : H t = some (.tup m.vs)) (h_5 : m.h < ns.length) (h_6 : ∀ H', Same H H' → Q (.bl (tmHolds rs ns m)) H')
noncomputable def sp_lterm : Sp := fun vs H Q x_3 => sp_ltermP vs H Q x_3
inductive sp_lholdsP (vs : List V) (H : Hp) (Q : VK) (x_3 : XK) : Prop
 | mk (a : Addr) (ps : List Addr) (rs : Rows) (c : Addr) (ns : List Int) (f : Addr) (qs : List Addr) (ws : List (List Tm)) (h_0 : vs = [.ref a, .ref c, .ref f]) (h_1 : RowsA H a ps rs) (h_2 : TpI H c ns) (h_3 : Inside rs ns) (h_4 : WishA H f qs ws) (h_5 : WishOk ns.length ws) (h_6 : ∀ H', Same H H' → Q (.bl (wishHolds rs ns ws)) H')
noncomputable def sp_lholds : Sp := fun vs H Q x_3 => sp_lholdsP vs H Q x_3
noncomputable def sgOf (i : Int) : Sg := if i = 0 then .lt else if i = 1 then .eq else .gt
theorem sg_at {i : Int} (h0 : 0 ≤ i) (h1 : i < 3) : atI [V.str "<", V.str "=", V.str ">"] i = some (.str (sgOf i).str) := by
 have : i = 0 ∨ i = 1 ∨ i = 2 := by lia
 rcases this with rfl | rfl | rfl <;> rfl
theorem sg_dec (a b : Sg) : decide (V.str a.str = V.str b.str) = decide (a = b) := decide_eq_decide.mpr ⟨fun h => Sg.str_inj (by injection h), fun h => by rw [h]⟩
theorem inside_at {rs : Rows} {ns : List Int} (I : Inside rs ns) {h : Nat} {n : Int} (hn : ns[h]? = some n) (nz : n ≠ 0) : 0 < n ∧ ∃ r e, rs[h]? = some r ∧ r[(n - 1).toNat]? = some e ∧ at? rs h (n - 1).toNat = some e := by
 obtain ⟨r, hr, n0, n1⟩ := row_of I hn
 have hl : (n - 1).toNat < r.length := by lia
 exact ⟨by lia, r, r[(n - 1).toNat], hr, List.getElem?_eq_getElem hl, by rw [at_row hr]; exact List.getElem?_eq_getElem hl⟩
theorem lensV_natI (rs : Rows) : lensV rs = ((rs.map List.length).map fun n => ((n : Nat) : Int)).map V.int := by
 unfold lensV
 rw [List.map_map, List.map_map]
 rfl
noncomputable def endC (rs : Rows) : List Int := natI (rs.map List.length)
theorem lensV_end (rs : Rows) : lensV rs = (endC rs).map V.int := by rw [lensV_natI]; rfl
end Cw
namespace L2
open PySem PySem.Spec PyProof.Rows PySem.W
noncomputable def RawD (h : Heap) (d : Addr) (es : Array DictEntry) (ep : Nat) : Prop := ∃ o, h.get? d = some o ∧ o.ExactDict ∧ o.data = .dict es ep
theorem RawD.ty {s : Shared} {d : Addr} {es : Array DictEntry} {ep : Nat} (x : RawD s.heap d es ep) : s.TypeIs (.ref d) "dict" := by
 obtain ⟨o, h1, h2, _⟩ := x
 exact ⟨o, h1, h2.1⟩
theorem RawD.to {h h' : Heap} {d : Addr} {es : Array DictEntry} {ep : Nat} (x : RawD h d es ep) (f : ∀ o, h.get? d = some o → h'.get? d = some o) : RawD h' d es ep := by
 obtain ⟨o, h1, h2⟩ := x
 exact ⟨o, f o h1, h2⟩
section
variable {prog : Program} {w : World} {A : Around} {E : Value → Shared → Prop} {s : Shared}
theorem nextP {it d : Addr} {i ep : Nat} {es : Array DictEntry} {e : DictEntry} {u v : Value} {Q : Option Value → Shared → Prop} (g : IsItemIter s.heap it d i es.size ep u v) (x : RawD s.heap d es ep) (he : es[i]? = some e)
  (q : ∀ h', IsItemIterOut h' it d (i + 1) es.size ep e.key e.val s.heap.objs.size → h'.get? s.heap.objs.size = some { cls := .type "tuple", data := .seq #[e.key, e.val] } → (∀ b o, b ≠ it → s.heap.get? b = some o → h'.get? b = some o) → Q (some (.ref s.heap.objs.size)) { s with heap := h' }) :
  wpAny (model prog w) A (pyNext (.ref it)) Q E s := by
 obtain ⟨hp, gs, dr, tk, os⟩ := s
 obtain ⟨b, b1, b2, b3⟩ := id x
 have ty : Shared.TypeIs ⟨hp, gs, dr, tk, os⟩ (.ref it) "dict_itemiterator" := ⟨_, g, rfl⟩
 unfold pyNext
 refine wpAny_bind (wpAny_attempt (wpAny_callSpecial?_slot (name := Str.ofString "__next__") ty F.slot_dict_itemiterator_next (wpAny_call_entry F.slot_dict_itemiterator_next ty F.entry_dict_itemiterator_next ?_ (F.args_dict_itemiterator_next_1 _))))
 refine wpAny_bind (wpAny_pure (wpAny_bind (wpAny_bind ?_)))
 refine wpAny_bind (wpAny_typeNameOfWhole_itemiter ty (wpAny_pure (wpAny_bind (wpAny_fieldsOf g rfl ?_))))
 simp only [show Builtin.Dict_items.ownsTuple "dict_itemiterator" = true by decide, if_true]
 show wpAny _ _ (if (Value.ref d == .none) = true then _ else _) _ _ _
 rw [if_neg (show ¬ ((Value.ref d == .none) = true) from Bool.false_ne_true)]
 refine wpAny_bind (wpAny_pure (wpAny_bind (wpAny_dictEntries b1 b3 ?_)))
 rw [if_neg (by simp)]
 refine wpAny_bind (wpAny_pure (wpAny_bind (wpAny_dictEpoch b1 b3 ?_)))
 rw [if_neg (by simp)]
 refine wpAny_pure ?_
 simp only [show ¬ ((i : Int) < 0) from by lia, if_false, Int.toNat_natCast, he]
 refine wpAny_bind (wpAny_bind (wpAny_typeNameOfWhole_itemiter ty (wpAny_pure (wpAny_bind (wpAny_isOneOf_itemiter ty ?_)))))
 show wpAny _ _ (setField (Value.ref it) 3 (rawInt ((i : Int) + 1)) >>= fun _ => _) _ _ _
 refine wpAny_bind (wpAny_setField_rec g (by simp) fun v1 a1 k1 => ?_)
 replace k1 : Heap.SameBut it hp v1 := k1
 replace a1 : IsItemIter v1 it d (i + 1) es.size ep u v := by
  have e2 : ((i + 1 : Nat) : Int) = (i : Int) + 1 := by lia
  unfold IsItemIter
  rw [e2]
  simpa [rawInt] using a1
 have ty1 : Shared.TypeIs ⟨v1, gs, dr, tk, os⟩ (.ref it) "dict_itemiterator" := ⟨_, a1, rfl⟩
 refine wpAny_bind (wpAny_holding (wpAny_bind (wpAny_isOneOf_itemiter ty1 (wpAny_bind (wpAny_isOneOf_itemiter ty1 ?_)))))
 show wpAny _ _ (Builtin.Dict_items.pairFromOwner (Value.ref it) 6 e.key e.val) _ _ ⟨v1, gs, dr, tk, os⟩
 unfold Builtin.Dict_items.pairFromOwner
 refine wpAny_bind (wpAny_newTuple ?_)
 have a2 : IsItemIter (v1.push { cls := .type "tuple", data := .seq #[e.key, e.val] }) it d (i + 1) es.size ep u v := Heap.get?_push_of_some _ a1
 have z1 : v1.objs.size = hp.objs.size := k1.1
 have il : it < hp.objs.size := Heap.lt_size g
 have t2 : (v1.push { cls := .type "tuple", data := .seq #[e.key, e.val] }).get? hp.objs.size = some { cls := .type "tuple", data := .seq #[e.key, e.val] } := by rw [← z1]; exact Heap.get?_push_size _ rfl
 have k2 : ∀ b o, b ≠ it → hp.get? b = some o → (v1.push { cls := .type "tuple", data := .seq #[e.key, e.val] }).get? b = some o := fun b o hb q => Heap.get?_push_of_some _ (k1.extBut b o hb q)
 show wpAny _ _ (Builtin.Dict_items.ownedTupleIsFree (Value.ref it) >>= fun _ => _) _ _ ⟨v1.push { cls := .type "tuple", data := .seq #[e.key, e.val] }, gs, dr, tk, os⟩
 rw [z1]
 generalize v1.push { cls := .type "tuple", data := .seq #[e.key, e.val] } = v2 at a2 t2 k2
 refine wpAny_bind ?_
 unfold Builtin.Dict_items.ownedTupleIsFree
 refine wpAny_bind (wpAny_field a2 rfl (x := Value.none) rfl (wpAny_pure ?_))
 simp only [if_true]
 refine wpAny_bind (wpAny_field a2 rfl (x := u) rfl (wpAny_bind (wpAny_field a2 rfl (x := v) rfl ?_)))
 refine wpAny_bind (wpAny_setField_rec a2 (by simp) fun v3 a3 k3 => ?_)
 replace k3 : Heap.SameBut it v2 v3 := k3
 replace a3 : IsItemIter v3 it d (i + 1) es.size ep e.key v := a3
 refine wpAny_bind (wpAny_setField_rec a3 (by simp) fun v4 a4 k4 => ?_)
 replace k4 : Heap.SameBut it v3 v4 := k4
 replace a4 : IsItemIter v4 it d (i + 1) es.size ep e.key e.val := a4
 refine wpAny_bind (wpAny_setField_rec a4 (by simp) fun v5 a5 k5 => ?_)
 replace k5 : Heap.SameBut it v4 v5 := k5
 replace a5 : IsItemIterOut v5 it d (i + 1) es.size ep e.key e.val hp.objs.size := a5
 refine wpAny_bind (wpAny_setField_rec a5 (by simp) fun v6 a6 k6 => ?_)
 replace k6 : Heap.SameBut it v5 v6 := k6
 replace a6 : IsItemIterOut v6 it d (i + 1) es.size ep e.key e.val hp.objs.size := a6
 have up : ∀ b o, b ≠ it → v2.get? b = some o → v6.get? b = some o := fun b o hb q => k6.extBut b o hb (k5.extBut b o hb (k4.extBut b o hb (k3.extBut b o hb q)))
 exact wpAny_bind (wpAny_letGo (wpAny_pure (wpAny_pure ⟨_, rfl, wpAny_pure (q v6 a6 (up _ _ (Nat.ne_of_gt il) t2) fun b o hb q => up b o hb (k2 b o hb q))⟩)))
theorem endP {it d : Addr} {i ep : Nat} {es : Array DictEntry} {u v : Value} {Q : Option Value → Shared → Prop} (hh : A.handled = none) (g : IsItemIter s.heap it d i es.size ep u v) (x : RawD s.heap d es ep) (he : es[i]? = none)
  (q : ∀ h', Heap.ExtBut it s.heap h' → Q none { s with heap := h' }) : wpAny (model prog w) A (pyNext (.ref it)) Q E s := by
 obtain ⟨b, b1, b2, b3⟩ := id x
 have ty : s.TypeIs (.ref it) "dict_itemiterator" := ⟨_, g, rfl⟩
 unfold pyNext
 refine wpAny_bind (wpAny_attempt (wpAny_callSpecial?_slot (name := Str.ofString "__next__") ty F.slot_dict_itemiterator_next (wpAny_call_entry F.slot_dict_itemiterator_next ty F.entry_dict_itemiterator_next ?_ (F.args_dict_itemiterator_next_1 _))))
 refine wpAny_bind (wpAny_pure (wpAny_bind (wpAny_bind ?_)))
 refine wpAny_bind (wpAny_typeNameOfWhole_itemiter ty (wpAny_pure (wpAny_bind (wpAny_fieldsOf g rfl ?_))))
 simp only [show Builtin.Dict_items.ownsTuple "dict_itemiterator" = true by decide, if_true]
 show wpAny _ _ (if (Value.ref d == .none) = true then _ else _) _ _ s
 rw [if_neg (show ¬ ((Value.ref d == .none) = true) from Bool.false_ne_true)]
 refine wpAny_bind (wpAny_pure (wpAny_bind (wpAny_dictEntries b1 b3 ?_)))
 rw [if_neg (by simp)]
 refine wpAny_bind (wpAny_pure (wpAny_bind (wpAny_dictEpoch b1 b3 ?_)))
 rw [if_neg (by simp)]
 refine wpAny_pure ?_
 simp only [show ¬ ((i : Int) < 0) from by lia, if_false, Int.toNat_natCast, he]
 refine wpAny_bind (wpAny_bind (wpAny_typeNameOfWhole_itemiter ty (wpAny_pure ?_)))
 show wpAny _ _ (setField (Value.ref it) 2 .none >>= fun _ => _) _ _ s
 refine wpAny_bind (wpAny_setField g rfl (by simp) ?_)
 show wpAny _ _ (newExc (Value.type "StopIteration") [] >>= fun _ => _) _ _ _
 refine wpAny_bind ?_
 simp only [newExc, newTuple]
 refine wpAny_bind (wpAny_newObj_type ?_ (by size_fits))
 refine wpAny_bind (m := firstArgMember _ _) (wpAny_of_eq (a := Value.none) (by (simp only [firstArgMember]; rfl)) (wpAny_newObj_type ?_ (by size_fits)))
 simp only [raiseNew]
 refine wpAny_bind (wpAny_handled ?_)
 rw [show A.in1.handled = none from hh]
 refine wpAny_bind (wpAny_pure (wpAny_throw ?_)); refine wpAny_bind (wpAny_isInstance (T := "StopIteration") (b := true) ⟨_, Heap.get?_push_size _ rfl, rfl⟩ isSubtype_stop ?_)
 exact wpAny_pure (q _ (((Heap.SameBut.update ..).extBut.push _).push _))
theorem iterP {v d : Addr} {es : Array DictEntry} {ep : Nat} {Q : Value → Shared → Prop} (g : s.heap.IsItemsView v d) (x : RawD s.heap d es ep)
  (q : Q (.ref s.heap.objs.size) { s with heap := s.heap.push { cls := .type "dict_itemiterator", data := .fields #[.none, .bool false, .ref d, .int 0 0, .int es.size 0, .int ep 0, .none, .none] } }) : wpAny (model prog w) A (pyIter (.ref v)) Q E s := by
 have ty := g.typeIs
 obtain ⟨o, g1, g2, g3⟩ := id g
 obtain ⟨b, b1, b2, b3⟩ := id x
 refine wpAny_pyIter_slot ty F.slot_dict_items_iter (wpAny_call_entry F.slot_dict_items_iter ty F.entry_dict_items_iter ?_ (F.args_dict_items_iter_1 _))
 unfold Builtin.«dict_items.__iter__»
 refine wpAny_bind (wpAny_pure (wpAny_bind ?_))
 unfold Builtin.Dict_items.dictOf
 refine wpAny_bind (wpAny_field g1 g3 (x := Value.ref d) rfl (wpAny_pure (wpAny_bind ?_)))
 unfold Builtin.Dict_items.newIterator
 refine wpAny_bind (wpAny_dictEntries b1 b3 (wpAny_bind (wpAny_dictEpoch b1 b3 ?_)))
 simp only [show Builtin.Dict_items.ownsTuple "dict_itemiterator" = true by decide, if_true]
 refine wpAny_newObj_type (wpAny_pure ⟨_, rfl, "dict_itemiterator", _, ⟨_, Heap.get?_push_size _ rfl, rfl⟩, F.slot_dict_itemiterator_next.lookup, ?_⟩) ?_
 ·simpa [rawInt, Builtin.Dict_items.ownedTupleFields] using q
 ·simp only [sizeOk, Builtin.Dict_items.ownedTupleFields, List.size_toArray, List.length_append, List.length_cons, List.length_nil, sizeLine_eq]
  lia
theorem itemsD (d : Addr) (lo : (d == sysModules) = false) :
  MeetsIn prog w (Builtin.«dict.items» ⟨[.ref d], []⟩) (fun _ R s => (∃ es ep, RawD s.heap d es ep) ∧ R (.ok (.ret (.ref s.heap.objs.size))) { s with heap := s.heap.push { cls := .type "dict_items", data := .fields #[.ref d] } }) :=
 .of_wp fun A R s ⟨⟨es, ep, x⟩, h⟩ => by
  unfold Builtin.«dict.items» Builtin.Dict.noArgs
  refine wpAny_bind (wpAny_bind (wpAny_notOrdered_dict x.ty ?_))
  show wpAny _ _ (pure d : Sem Addr) _ _ s
  refine wpAny_pure ?_
  show wpAny _ _ (Builtin.Dict.showsAll d >>= fun _ => _) _ _ s
  unfold Builtin.Dict.showsAll
  rw [if_neg (fun z => Bool.false_ne_true (lo.symm.trans z))]
  exact wpAny_bind (wpAny_pure (wpAny_bind (wpAny_newObj_type (wpAny_pure ⟨_, rfl, h⟩))))
end
theorem dt_raw {P : Program} {w : World} {H : Hp} {h : Heap} {a : Addr} {kvs : List (List Key × V)} (ok : ObjOk P w H h a (.dT kvs)) :
  kvs.length ≤ sizeLine ∧ (a == sysModules) = false ∧ ∃ (es : Array DictEntry) (ep : Nat), RawD h a es ep ∧ es.size = kvs.length ∧ ∀ (i : Nat) (k : List Key) (v : V), kvs[i]? = some (k, v) → ∃ (e : DictEntry) (b : Addr) (u : Value), es[i]? = some e ∧ e.key = .ref b ∧ e.val = u ∧ H b = some (.tup (k.map kV)) ∧ RelV v u := by
 obtain ⟨z, y, xs, r, o, es, ep, h1, h2, h3, h4, h5⟩ := ok
 have hl : es.size = kvs.length := by
  have e := congrArg List.length h4
  rw [List.length_map, ← Paired.length r] at e
  simpa using e
 refine ⟨z, y, es, ep, ⟨o, h1, h2, h3⟩, hl, fun i k v e => ?_⟩
 obtain ⟨q, hq, z1, z2, z3⟩ := Paired.get r e
 have he : es.toList[i]? = some (entryOfKey (tupleKind (mixKind P w)) q) := by rw [h4, List.getElem?_map, hq]; rfl
 exact ⟨_, q.2.1, q.2.2, by rw [← Array.getElem?_toList]; exact he, rfl, rfl, z2, z3⟩
theorem RawD.of {h : Heap} {a : Addr} {o : Obj} {es es' : Array DictEntry} {ep ep' : Nat} (ho : h.get? a = some o) (hd : o.data = .dict es ep) (x : RawD h a es' ep') : es' = es ∧ ep' = ep := by
 obtain ⟨o', h1, _, h3⟩ := x
 rw [ho] at h1
 cases h1
 rw [hd] at h3
 cases h3
 exact ⟨rfl, rfl⟩
theorem entry_items_iter : entryFor table "dict_itemiterator.__iter__" = some Builtin.«dict_keyiterator.__iter__» :=
 entryFor_alias (id' := "dict_keyiterator.__iter__") (by kernel_rfl) rfl (by decide +kernel) (by kernel_rfl)
noncomputable def Itp (a : Addr) (o : Obj) (kvs : List (List Key × V)) : It :=
 ⟨fun i H => i < kvs.length ∧ H a = some (.frz o (.dT kvs)),
  fun i H x H' => ∃ p b k v, x = .ref p ∧ H p = none ∧ kvs[i]? = some (k, v) ∧ H b = some (.tup (k.map kV)) ∧ H' = upd H p (.tup [.ref b, v]),
  fun i H => kvs.length ≤ i ∧ H a = some (.frz o (.dT kvs))⟩
theorem turn_items {P : Program} {w : World} {K : PySem.W.Frag} {elts : List Expr} {kk : Nat} {tp : Pos} (a it : Addr) (o : Obj) (es : Array DictEntry) (ep : Nat) (hd : o.data = .dict es ep) (kvs : List (List Key × V)) :
  Turn P w K (.Tuple elts kk tp) (Itp a o kvs) [it] it (fun i h => ∃ u v, IsItemIter h it a i es.size ep u v) where
 mem := by simp
 obj := fun i h st b hb => by
  have e : b = it := by simpa using hb
  subst e
  obtain ⟨u, v, g⟩ := st
  exact ⟨_, g, fun v z => by
   have z' : Data.fields _ = Data.cell v := z
   cases z'⟩
 keep := fun i h h' st k => by
  obtain ⟨u, v, g⟩ := st
  exact ⟨u, v, k it (by simp) _ g⟩
 item := by
  intro X hP hw hK hc i pins s σ H E I hf st hg
  subst hP hw hK
  obtain ⟨hi, hH⟩ := hg
  obtain ⟨u0, v0, g⟩ := st
  obtain ⟨ho, od⟩ := (show ObjOk X.prog X.w H s.heap a (.frz o (.dT kvs)) from I.hok a _ hH)
  obtain ⟨_, _, es', ep', rd, hsz, get⟩ := dt_raw od
  obtain ⟨rfl, rfl⟩ := rd.of ho hd
  obtain ⟨e, b, u, he, hk, hv, hb, ru⟩ := get i kvs[i].1 kvs[i].2 (List.getElem?_eq_getElem hi)
  have hp : H s.heap.objs.size = none := I.hok.fresh (Nat.le_refl _)
  have hil : it < s.heap.objs.size := Heap.lt_size g
  refine nextP g rd he fun h' g' ht hkp => ⟨_, rfl, ?_⟩
  refine wpAny_letOwnedTupleGo_items g' fun h2 g2 sb => ?_
  have sb : Heap.SameBut it h' h2 := sb
  have keep : ∀ c q, c ∉ [it] → s.heap.get? c = some q → h2.get? c = some q := fun c q hc z => by
   have b1 : c ≠ it := fun w => hc (by simp [w])
   exact (sb.2 c b1).trans (hkp c q b1 z)
  have new : ObjOk X.prog X.w (upd H s.heap.objs.size (.tup [.ref b, kvs[i].2])) h2 s.heap.objs.size (.tup [.ref b, kvs[i].2]) :=
   ⟨by show 2 ≤ sizeLine; decide, [e.key, e.val], .cons hk (.cons (by rw [hv]; exact ru) .nil), ⟨_, (sb.2 _ (Nat.ne_of_gt hil)).trans ht, rfl, _, rfl⟩⟩
  refine ⟨.ref s.heap.objs.size, upd H s.heap.objs.size (.tup [.ref b, kvs[i].2]), I.turnNew (fp := [it]) hf keep (Nat.le_refl _) new, rfl, ⟨_, b, kvs[i].1, kvs[i].2, rfl, hp, List.getElem?_eq_getElem hi, hb, rfl⟩, ⟨_, _, g2⟩, fun c hc => ?_⟩
  have : c = it := by simpa using hc
  subst this
  rw [upd_ne (Nat.ne_of_lt hil)]
  exact (hf c hc).1
 done := by
  intro X hP hw hK hc i pins s σ H E I hf st hg
  subst hP hw hK
  obtain ⟨hi, hH⟩ := hg
  obtain ⟨u0, v0, g⟩ := st
  obtain ⟨ho, od⟩ := (show ObjOk X.prog X.w H s.heap a (.frz o (.dT kvs)) from I.hok a _ hH)
  obtain ⟨_, _, es', ep', rd, hsz, get⟩ := dt_raw od
  obtain ⟨rfl, rfl⟩ := rd.of ho hd
  obtain ⟨f0, f1, f2, f3, f4, f5⟩ := hf it (by simp)
  exact endP (I.ok.hd hc) g rd (Array.getElem?_eq_none (by lia)) fun h' eb => ⟨rfl, I.turned (t' := s.toks) (fun b o hb e => eb b o hb e) f0 f1 f3 f4 f5⟩
 self := fun _ _ s Q E st h => by
  obtain ⟨u, v, g⟩ := st
  have ty : s.TypeIs (.ref it) "dict_itemiterator" := ⟨_, g, rfl⟩
  refine wpAny_pyIter_slot ty F.slot_dict_itemiterator_iter (wpAny_call_entry F.slot_dict_itemiterator_iter ty entry_items_iter ?_ (F.args_dict_itemiterator_iter_1 _))
  show wpAny _ _ (ret (Value.ref it)) _ _ s
  exact wpAny_pure ⟨_, rfl, "dict_itemiterator", _, ty, F.slot_dict_itemiterator_next.lookup, h⟩
section
variable {X : Cx} {tg : Expr}
theorem Inv.freezeT {pins : List (Addr × Obj)} {σ : St} {H : Hp} {s : Shared} {a : Addr} {kvs : List (List Key × V)} {o : Obj} (I : Inv X pins σ H s) (e : H a = some (.dT kvs)) (ho : s.heap.get? a = some o) : Inv X pins σ (upd H a (.frz o (.dT kvs))) s := by
 have nt : ∀ b u, H b = some u → (∀ z, u ≠ .dT z) → b ≠ a := fun b u q n z => by rw [z, e] at q; cases q; exact n _ rfl
 refine I.un (t' := s.toks) (h' := s.heap) ⟨fun b u q _ _ _ => q, fun b u q _ _ _ => ⟨u.slots, q⟩, fun b u q n _ => ?_, fun b u q _ => ⟨u, q⟩, fun b xs q => ?_, fun b u v q => ?_, fun b ps q => ⟨#[], ?_⟩⟩ (fun b u q => ?_)
 ·rw [upd_ne (by rintro rfl; rw [n] at e; cases e)]; exact n
 ·rw [upd_ne (nt b _ q (fun _ z => nomatch z))]; exact q
 ·rw [upd_ne (nt b _ q (fun _ z => nomatch z))]; exact q
 ·rw [upd_ne (nt b _ q (fun _ z => nomatch z)), q]; simp
 ·by_cases hb : b = a
  ·subst hb
   rw [upd_same] at q
   cases q
   refine ⟨ho, (I.hok _ _ e).stay (fun _ _ _ q => q) (fun c q => ?_) fun c xs q => ?_⟩
   ·rw [upd_ne (nt c _ q (fun _ z => nomatch z))]; exact q
   ·rw [upd_ne (nt c _ q (fun _ z => nomatch z))]; exact q
  ·rw [upd_ne hb] at q
   refine (I.hok _ _ q).stay (fun _ _ _ q => q) (fun c q => ?_) fun c xs q => ?_
   ·rw [upd_ne (nt c _ q (fun _ z => nomatch z))]; exact q
   ·rw [upd_ne (nt c _ q (fun _ z => nomatch z))]; exact q
noncomputable def iDP (td : TE) : TI := fun σ H R => td σ H fun x H1 => ∃ a kvs, x = .ref a ∧ H1 a = some (.dT kvs) ∧ ∀ o, R (Itp a o kvs) (upd H1 a (.frz o (.dT kvs)))
theorem pi_ditems {l : Expr} {tl : TE} {elts : List Expr} {kk : Nat} {tp apos cpos : Pos} (hl : PE X l tl)
  (hbase : attributeBase l "items" X.env (eval l X.env) = eval l X.env := by rfl) (hline : (apos.endLine == cpos.line) = true := by rfl) : PI X (.Tuple elts kk tp) (.Call (.Attribute l "items" apos) [] [] cpos) (iDP tl) := by
 intro pins s σ H R I h
 refine wpAny_Call_method0_late hbase hline (thn (hl pins s σ H _ I h) fun v s1 z_ => ?_)
 obtain ⟨x, H1, I1, r1, q1⟩ := z_
 obtain ⟨a, kvs, e, hH, q⟩ := q1
 subst e
 cases r1
 obtain ⟨_, hsys, es, ep, rd, hsz, get⟩ := dt_raw (I1.hok a _ hH)
 obtain ⟨o, ho, h2, h3⟩ := id rd
 refine ⟨"dict", "dict.items", F.plainAttrs_dict, F.slot_dict_items, F.type_dict_items, rd.ty, fun b z => by cases z; exact ⟨o, ho, h2.2.1⟩, Calls.callWith_builtin rfl (PySem.evalArgs_none ?_)⟩
 refine call_meetsIn F.slot_dict_items rd.ty F.entry_dict_items (F.args_dict_items_1 _) (itemsD a hsys) ⟨⟨es, ep, rd⟩, ?_⟩
 have I2 := I1.freezeT hH ho
 have k1 : ∀ b u, s1.heap.get? b = some u → (s1.heap.push { cls := .type "dict_items", data := .fields #[.ref a] }).get? b = some u := fun b u z => Heap.get?_push_of_some _ z
 have I3 := I2.kept (t' := s1.toks) k1
 refine iterP (s := { s1 with heap := s1.heap.push { cls := .type "dict_items", data := .fields #[.ref a] } }) ⟨_, Heap.get?_push_size _ rfl, rfl, rfl⟩ (rd.to fun o z => k1 a o z) ?_
 refine ⟨_, _, _, _, upd H1 a (.frz o (.dT kvs)), rfl, I3.kept (t' := s1.toks) fun b o e => Heap.get?_push_of_some _ e, turn_items a _ o es ep h3 kvs, ⟨_, _, Heap.get?_push_size _ rfl⟩, fun b hb => ?_, q o⟩
 have e : b = (s1.heap.push { cls := .type "dict_items", data := .fields #[.ref a] }).objs.size := by simpa using hb
 subst e
 exact I3.fpOk (Nat.le_refl _) (I3.hok.fresh (Nat.le_refl _))
end
theorem for_items {a : Addr} {o : Obj} {kvs : List (List Key × V)} {g : TG} {tb : TS} {D : Ends} {σ : St} {H : Hp} (Pv : Nat → St → Hp → Prop) (h0 : Pv 0 σ H) (hl : ∀ i σ H, i ≤ kvs.length → Pv i σ H → H a = some (.frz o (.dT kvs)))
  (hs : ∀ i k v σ H p b, kvs[i]? = some (k, v) → Pv i σ H → H p = none → H b = some (.tup (k.map kV)) → g (.ref p) σ (upd H p (.tup [.ref b, v])) fun σ2 H2 => tb (D.lp (Pv (i + 1))) σ2 H2) (hd : ∀ σ H, Pv kvs.length σ H → D.nx σ H) :
  ∃ W : Nat → Nat → St → Hp → Prop, (∃ m, W 0 m σ H) ∧ ∀ i m σ H, W i m σ H →
   ((Itp a o kvs).stop i H ∧ D.nx σ H) ∨ ((Itp a o kvs).go i H ∧ ∃ N : St → Hp → Prop, (∀ σ' H', N σ' H' → ∃ m', m' < m ∧ W (i + 1) m' σ' H') ∧ ∀ x H', (Itp a o kvs).yld i H x H' → g x σ H' fun σ2 H2 => tb (D.lp N) σ2 H2) := by
 refine ⟨fun i m σ H => m = kvs.length - i ∧ i ≤ kvs.length ∧ Pv i σ H, ⟨kvs.length, by simp, Nat.zero_le _, h0⟩, ?_⟩
 rintro i m σ H ⟨rfl, hi, p⟩
 have q := hl i σ H hi p
 by_cases hlt : i < kvs.length
 ·refine .inr ⟨⟨hlt, q⟩, Pv (i + 1), fun σ' H' p' => ⟨kvs.length - (i + 1), by lia, rfl, hlt, p'⟩, fun x H' y => ?_⟩
  obtain ⟨pp, b, k, v, e1, e2, e3, e4, e5⟩ := y
  subst e1; subst e5
  exact hs i k v σ H pp b e3 p e2 e4
 ·have e : i = kvs.length := by lia
  subst e
  exact .inl ⟨⟨Nat.le_refl _, q⟩, hd σ H p⟩
end L2
namespace L2
open PySem PySem.Spec PyProof.Rows
section
variable {prog : Program} {w : World} {A : Around} {E : Value → Shared → Prop} {s : Shared}
end
end L2
namespace L2
open PySem PySem.Spec PyProof.Rows PySem.W
noncomputable def tDispT (tk tv : TE) : TE := fun σ H Q => ∀ p, H p = none → tk σ (upd H p (.dT [])) fun x H1 => tv σ H1 fun y H2 => ∃ (b : Addr) (c : List Key), x = .ref b ∧ H2 b = some (.tup (c.map kV)) ∧ H2 p = some (.dT []) ∧ Q (.ref p) (upd H2 p (.dT [(c, y)]))
theorem pe_dispT {X : Cx} {k v : Expr} {tk tv : TE} {pos : Pos} (hu : X.A.units + 1 < cLine) (hk : PE X k tk) (hv : PE X v tv) : PE X (.Dict [some k] [v] pos) (tDispT tk tv) := by
 intro pins s σ H Q I q
 have hn := I.hok.fresh (Nat.le_refl s.heap.objs.size)
 have I1 := I.laid (a := s.heap.objs.size) (o := .dT []) (h' := s.heap.push { cls := .type "dict", data := .dict #[] }) (t' := s.toks) (fun _ _ z => Heap.get?_push_of_some _ z) (Nat.le_refl _) (dt_empty s.heap I.big)
 have hl := pairTrees_length [some k] [v] X.env pos rfl rfl
 rw [arm_eval_Dict, zip_pairTrees [some k] [v] X.env pos rfl rfl, dictDisplay_pairs _ (fun z => by rw [z] at hl; cases hl) (by rw [hl]; show 1 < 17; decide)]
 refine wpAny_bind (wpAny_standAt (wpAny_bind ?_))
 unfold subDict
 refine wpAny_bind (wpAny_alloc (wpAny_bind (wpAny_holding ?_)))
 rw [if_pos (by rw [hl]; show 1 ≤ 15; decide)]
 refine wpAny_bind (pairTrees_cons_walk (thn (hk pins _ σ _ _ I1 (q _ hn)) fun kv s2 ⟨x, H2, I2, rx, q2⟩ => thn (hv pins s2 σ H2 _ I2 q2) fun vv s3 ⟨y, H3, I3, ry, b, c, ex, hb, hp, q3⟩ => pairTrees_nil_walk ?_))
 subst ex
 cases (show kv = Value.ref b from rx)
 refine wpAny_holding (wpAny_bind ?_)
 rw [List.forIn_cons]
 obtain ⟨z, hd, xs, rel, dd⟩ := dt_of I3.hok hp
 cases rel
 refine wpAny_bind (wpAny_bind (wpAny_dictSet_heap (hsz := Nat.zero_le _) (show (tupleKind (mixKind X.prog X.w)).room X.A from by show X.A.units < cLine; lia) (key_of I3.hok hb) dd fun h' dd' hs => wpAny_pure ?_))
 dsimp only
 rw [List.forIn_nil]
 refine wpAny_pure (wpAny_pure (wpAny_pure (wpAny_pure ?_)))
 obtain ⟨o, es, ep, h1, h2, h3, h4, _, h5⟩ := dd'
 refine ⟨.ref s.heap.objs.size, upd H3 s.heap.objs.size (.dT [(c, y)]), d_write (ob := .dT [(c, y)]) I3 (by rw [hp]; exact True.intro) hs ⟨o, h1⟩ ⟨by show 1 ≤ sizeLine; decide, hd, _, ?_, o, es, ep, h1, h2, h3, h4, h5⟩, rfl, q3⟩
 refine .cons ⟨rfl, ?_, ry⟩ .nil
 rw [upd_ne (ne_of hb hp (fun z => nomatch z))]
 exact hb
end L2
namespace Cw
open PySem L2
theorem sum_setI {c : List Int} {h : Nat} {n m : Int} (hn : c[h]? = some n) : (c.set h m).sum = c.sum + (m - n) := by
 induction c generalizing h with
 | nil => simp at hn
 | cons x c ih =>
  cases h with
  | zero =>
   have : x = n := by simpa using hn
   subst this
   rw [List.set_cons_zero, List.sum_cons, List.sum_cons]
   lia
  | succ h =>
   rw [List.set_cons_succ, List.sum_cons, List.sum_cons, ih (by simpa using hn)]
   lia
theorem sum_nn {c : List Int} (h : ∀ (i : Nat) (n : Int), c[i]? = some n → 0 ≤ n) : 0 ≤ c.sum := by
 induction c with
 | nil => simp
 | cons x c ih =>
  rw [List.sum_cons]
  have := h 0 x rfl
  have := ih fun i n hi => h (i + 1) n (by simpa using hi)
  lia
theorem Inside.nn {rs : Rows} {c : List Int} (I : Inside rs c) : ∀ (i : Nat) (n : Int), c[i]? = some n → 0 ≤ n := fun i n hi => by
 obtain ⟨r, hr, h0, _⟩ := row_of I hi
 exact h0
structure Level (rs : Rows) (n : Int) (cs : List (List Int)) : Prop where
 mem : ∀ c, c ∈ cs ↔ Inside rs c ∧ c.sum = n
 ord : cs.Pairwise fun a b => HT.lexLt a b = true
theorem set_back {c : List Int} {i : Nat} {n : Int} (hn : c[i]? = some n) : (c.set i (n - 1)).set i (n - 1 + 1) = c := by
 rw [List.set_set]
 refine List.ext_getElem? fun j => ?_
 rw [set_get hn]
 by_cases q : j = i
 ·subst q
  rw [if_pos rfl, hn]
  congr 1
  lia
 ·rw [if_neg q]
theorem Level.zero (rs : Rows) : Level rs 0 [rs.map fun _ => 0] := by
 refine ⟨fun c => ?_, by simp⟩
 rw [List.mem_singleton]
 constructor
 ·rintro rfl
  refine ⟨inside_zero rs, ?_⟩
  induction rs with
  | nil => rfl
  | cons r rs ih => rw [List.map_cons, List.sum_cons, ih]; rfl
 ·rintro ⟨I, hs⟩
  refine List.ext_getElem? fun i => ?_
  rw [List.getElem?_map]
  cases e : c[i]? with
  | none => rw [List.getElem?_eq_none (by rw [← I.len]; exact List.getElem?_eq_none_iff.mp e)]; rfl
  | some n =>
   obtain ⟨r, hr, n0, _⟩ := row_of I e
   rw [hr]
   show some n = some 0
   by_cases z : n = 0
   ·rw [z]
   ·exfalso
    have hpos : 0 < c.sum := by
     have h1 := sum_setI (m := 0) e
     have h2 : 0 ≤ (c.set i 0).sum := sum_nn fun j m hm => by
      rw [set_get e] at hm
      by_cases q : j = i
      ·rw [if_pos q] at hm; cases hm; lia
      ·rw [if_neg q] at hm; exact I.nn j m hm
     lia
    lia
theorem pk_less {a b : List Int} (h : a.sum < b.sum) : pkLt (cutK a) (cutK b) = true := by
 unfold pkLt cutK
 rw [if_neg (by show ¬ a.sum = b.sum; lia)]
 exact decide_eq_true h
theorem cuts_few {rs : Rows} (hV : Val rs) {cs : List (List Int)} (nd : cs.Nodup) (hI : ∀ c ∈ cs, Inside rs c) : cs.length ≤ 2401 := by
 have h1 := nodup_len (m := boxes (rs.map List.length)) nd fun c hc => inside_box (hI c hc)
 have h2 := boxes_len (rs.map List.length) fun n hn => by
  obtain ⟨r, hr, rfl⟩ := List.mem_map.mp hn
  obtain ⟨i, hi⟩ := List.getElem?_of_mem hr
  exact hV.bnd.len i r hi
 rw [List.length_map] at h2
 have h3 : 7 ^ rs.length ≤ 7 ^ 4 := Nat.pow_le_pow_right (by decide) hV.bnd.hi
 have : (7 : Nat) ^ 4 = 2401 := by decide
 lia
theorem AllCuts.nodup {rs : Rows} {cs : List (List Int)} (A : AllCuts rs cs) : cs.Nodup := List.Pairwise.imp (fun {a b} h (e : a = b) => by subst e; rw [pkLt_irr] at h; cases h) A.ord
theorem Inside.sum_le {rs : Rows} {c : List Int} (I : Inside rs c) : c.sum ≤ (((rs.map List.length).sum : Nat) : Int) := by
 have key : ∀ (rs : Rows) (c : List Int), c.length = rs.length → (∀ (h : Nat) (n : Int) (r : List Ev), c[h]? = some n → rs[h]? = some r → n ≤ r.length) → c.sum ≤ (((rs.map List.length).sum : Nat) : Int) := by
  intro rs
  induction rs with
  | nil => intro c hl _; rw [List.eq_nil_of_length_eq_zero hl]; simp
  | cons r rs ih =>
   intro c hl hb
   cases c with
   | nil => simp at hl
   | cons x c =>
    rw [List.sum_cons, List.map_cons, List.sum_cons]
    have h1 := hb 0 x r rfl rfl
    have h2 := ih c (by simpa using hl) fun h n r hn hr => hb (h + 1) n r (by simpa using hn) (by simpa using hr)
    push_cast
    lia
 exact key rs c I.len fun h n r hn hr => (I.rng h n r hn hr).2
noncomputable def cutKey (c : List Int) : List Key := c.map Sum.inl
theorem cutKey_V (c : List Int) : (cutKey c).map kV = c.map V.int := by
 unfold cutKey
 rw [List.map_map]
 rfl
theorem cutKey_inj {a b : List Int} (h : cutKey a = cutKey b) : a = b := map_int_inj (by rw [← cutKey_V, ← cutKey_V, h])
end Cw
namespace L2
open PySem
section
variable {X : Cx}
theorem call_list_ofI : CallR X (.type "list") (rListOf X.K) := fun pins s σ H xs us Q I r h => by
 obtain ⟨p, ys, a, b, c⟩ := h
 exact call_list_of pins s σ H xs us Q I r ⟨p, ys, a, b, c⟩
theorem call_tuple_ofI : CallR X (.type "tuple") (rTupOf X.K) := fun pins s σ H xs us Q I r h => by
 obtain ⟨p, ys, a, b⟩ := h
 exact call_tuple_of pins s σ H xs us Q I r ⟨p, ys, a, b⟩
theorem call_len_seqI : CallR X (.builtin "len") (rLenS X.K) := fun pins s σ H xs us Q I r h => by
 obtain ⟨p, ys, a, b, c⟩ := h
 exact call_len_seq pins s σ H xs us Q I r ⟨p, ys, a, b, c⟩
theorem call_sumI (hc : X.calm = true) : CallR X (.builtin "sum") (rSum X.K) := fun pins s σ H xs us Q I r h => by
 obtain ⟨p, ns, a, b, c⟩ := h
 exact call_sum hc pins s σ H xs us Q I r ⟨p, ns, a, b, c⟩
end
end L2
namespace Cw
theorem len_1 {α : Type} {us : List α} (h : us.length = 1) : ∃ x0, us = [x0] := List.length_eq_one_iff.mp h
theorem len_2 {α : Type} {us : List α} (h : us.length = 2) : ∃ x0 x1, us = [x0, x1] := by
 cases us with
 | nil => cases h
 | cons a us =>
  obtain ⟨b0, rfl⟩ := len_1 (us := us) (Nat.succ.inj h)
  exact ⟨_, _, rfl⟩
theorem len_3 {α : Type} {us : List α} (h : us.length = 3) : ∃ x0 x1 x2, us = [x0, x1, x2] := by
 cases us with
 | nil => cases h
 | cons a us =>
  obtain ⟨b0, b1, rfl⟩ := len_2 (us := us) (Nat.succ.inj h)
  exact ⟨_, _, _, rfl⟩
theorem len_4 {α : Type} {us : List α} (h : us.length = 4) : ∃ x0 x1 x2 x3, us = [x0, x1, x2, x3] := by
 cases us with
 | nil => cases h
 | cons a us =>
  obtain ⟨b0, b1, b2, rfl⟩ := len_3 (us := us) (Nat.succ.inj h)
  exact ⟨_, _, _, _, rfl⟩
end Cw
set_option maxHeartbeats 2000000
namespace L2
open PySem PySem.Spec PyProof.Rows
section
variable {prog : Program} {w : World} {A : Around} {E : Value → Shared → Prop} {s : Shared}
end
section
variable {X : Cx}
end
end L2
set_option maxHeartbeats 4000000
namespace Cw
open PySem L2
theorem wishOk_one {n : Nat} {ts : List Tm} (h : WayOk n ts) : WishOk n [ts] := ⟨(by show 1 ≤ 8; decide), fun t ht => by
 have : t = ts := by simpa using ht
 rw [this]
 exact h⟩
end Cw
namespace L2
open PySem PySem.Spec PyProof.Rows PySem.W
section
variable {X : Cx} {tg : Expr}
end
end L2
namespace Cw
open PySem L2
noncomputable def bump (c : List Int) (h : Nat) : List Int := c.set h (c.getD h 0 + 1)
theorem bump_of {c : List Int} {h : Nat} {n : Int} (hn : c[h]? = some n) : bump c h = c.set h (n + 1) := by
 unfold bump
 rw [List.getD_eq_getElem?_getD, hn]
 rfl
theorem Goes.bump {rs : Rows} {c : List Int} {h : Nat} (g : Goes rs c h) : Inside rs (bump c h) ∧ (Cw.bump c h).sum = c.sum + 1 := by
 obtain ⟨n, hn, I⟩ := g
 rw [bump_of hn]
 exact ⟨I, by rw [sum_setI hn]; lia⟩
noncomputable def tot (rs : Rows) : Int := (((rs.map List.length).sum : Nat) : Int)
theorem endC_sum (rs : Rows) : (endC rs).sum = tot rs := by
 unfold endC natI tot
 induction rs with
 | nil => rfl
 | cons r rs ih =>
  rw [List.map_cons, List.map_cons, List.sum_cons, ih, List.sum_cons]
  push_cast
  rfl
theorem putK_cons {k' k : List Key} {y v : V} {r : List (List Key × V)} : putK ((k', y) :: r) k v = if k' = k then (k', v) :: r.map (fun kv => if kv.1 = k then (kv.1, v) else kv) else (k', y) :: putK r k v := by
 unfold putK
 by_cases q : k' = k
 ·rw [if_pos q, if_pos (by rw [List.any_cons, decide_eq_true q]; rfl), List.map_cons, if_pos q]
 ·rw [if_neg q, List.any_cons, decide_eq_false q, Bool.false_or]
  split
  ·rw [List.map_cons, if_neg q]
  ·rfl
theorem tot_le {rs : Rows} (b : Bnd rs) : 0 ≤ tot rs ∧ tot rs ≤ 24 := by
 have key : ∀ rs : Rows, (∀ r ∈ rs, r.length ≤ 6) → (rs.map List.length).sum ≤ 6 * rs.length := by
  intro rs
  induction rs with
  | nil => intro _; exact Nat.le_refl _
  | cons r rs ih =>
   intro h
   have h1 := h r List.mem_cons_self
   have h2 := ih fun r hr => h r (List.mem_cons_of_mem _ hr)
   rw [List.map_cons, List.sum_cons, List.length_cons]
   lia
 have h := key rs fun r hr => by
  obtain ⟨i, hi⟩ := List.getElem?_of_mem hr
  exact b.len i r hi
 have := b.hi
 unfold tot
 lia
end Cw
set_option maxHeartbeats 2000000
namespace L2
open PySem PySem.Spec PyProof.Rows
section
variable {X : Cx} {e : Expr} {es : List Expr} {te : TE} {t : TM} {pos : Pos}
end
end L2
set_option maxHeartbeats 4000000
namespace Cw
open PySem L2
noncomputable def wcut (rs : Rows) (ws : List Nat) : List Int := ws.foldl (fun c h => c.set h (c.getD h 0 + 1)) (rs.map fun _ => 0)
theorem wcut_snoc {rs : Rows} {ws : List Nat} {h : Nat} {n : Int} (hn : (wcut rs ws)[h]? = some n) : wcut rs (ws ++ [h]) = (wcut rs ws).set h (n + 1) := by
 unfold wcut at *
 rw [List.foldl_append]
 show List.set _ h (List.getD _ h 0 + 1) = _
 rw [List.getD_eq_getElem?_getD, hn]
 rfl
noncomputable def Wk (rs : Rows) (ws : List Nat) : Prop := ∀ (i h : Nat), ws[i]? = some h → Goes rs (wcut rs (ws.take i)) h
theorem Wk.nil (rs : Rows) : Wk rs [] := fun i h z => by simp at z
theorem Wk.snoc {rs : Rows} {ws : List Nat} {h : Nat} (w : Wk rs ws) (g : Goes rs (wcut rs ws) h) : Wk rs (ws ++ [h]) := fun i j z => by
 by_cases q : i < ws.length
 ·rw [List.getElem?_append_left q] at z
  rw [List.take_append_of_le_length (Nat.le_of_lt q)]
  exact w i j z
 ·have hi : i = ws.length := by
   have := lt_of_get z
   rw [List.length_append, List.length_singleton] at this
   lia
  subst hi
  rw [List.getElem?_append_right (Nat.le_refl _), Nat.sub_self] at z
  cases z
  rw [List.take_append_of_le_length (Nat.le_refl _), List.take_length]
  exact g
theorem Wk.inside {rs : Rows} {ws : List Nat} (w : Wk rs ws) : ∀ i, i ≤ ws.length → Inside rs (wcut rs (ws.take i))
 | 0, _ => inside_zero rs
 | i + 1, hi => by
  obtain ⟨h, hh⟩ := get_of (l := ws) (h := i) (by lia)
  obtain ⟨n, hn, J⟩ := w i h hh
  rw [snoc_take hh, wcut_snoc hn]
  exact J
theorem zero_sum (rs : Rows) : (rs.map fun _ => (0 : Int)).sum = 0 := by
 induction rs with
 | nil => rfl
 | cons r rs ih => rw [List.map_cons, List.sum_cons, ih]; rfl
theorem Wk.sum {rs : Rows} {ws : List Nat} (w : Wk rs ws) : ∀ i, i ≤ ws.length → (wcut rs (ws.take i)).sum = ((i : Nat) : Int)
 | 0, _ => zero_sum rs
 | i + 1, hi => by
  obtain ⟨h, hh⟩ := get_of (l := ws) (h := i) (by lia)
  obtain ⟨n, hn, J⟩ := w i h hh
  rw [snoc_take hh, wcut_snoc hn, sum_setI hn, Wk.sum w i (by lia)]
  lia
theorem rows_few {rs : Rows} (b : Bnd rs) : (rs.map List.length).sum ≤ 24 := by
 have key : ∀ (rs : Rows), (∀ r ∈ rs, r.length ≤ 6) → (rs.map List.length).sum ≤ 6 * rs.length := by
  intro rs
  induction rs with
  | nil => intro _; exact Nat.le_refl _
  | cons r rs ih =>
   intro h
   have h1 := h r (List.mem_cons_self ..)
   have h2 := ih fun x hx => h x (List.mem_cons_of_mem _ hx)
   rw [List.map_cons, List.sum_cons, List.length_cons]
   lia
 have := key rs fun r hr => by
  obtain ⟨i, hi⟩ := List.getElem?_of_mem hr
  exact b.len i r hi
 have := b.hi
 lia
theorem Wk.few {rs : Rows} {ws : List Nat} (v : Val rs) (w : Wk rs ws) : ws.length ≤ 24 := by
 have h1 := w.sum ws.length (Nat.le_refl _)
 have h2 := (w.inside ws.length (Nat.le_refl _)).sum_le
 have h3 := rows_few v.bnd
 lia
theorem Wk.lt {rs : Rows} {ws : List Nat} (w : Wk rs ws) {i h : Nat} (hi : ws[i]? = some h) : h < rs.length := by
 obtain ⟨n, hn, J⟩ := w i h hi
 have := lt_of_get hn
 rw [← J.len, List.length_set]
 exact this
theorem csV_at {cs : List Nat} {i : Nat} {y : V} (h : (csV cs)[i]? = some y) : ∃ n : Nat, cs[i]? = some n ∧ y = .int (n : Nat) := by
 unfold csV at h
 rw [List.getElem?_map] at h
 obtain ⟨n, hn, e⟩ := Option.map_eq_some_iff.mp h
 exact ⟨n, hn, e.symm⟩
end Cw
namespace Cw
theorem iteT2 {c A B : Prop} [Decidable c] (hc : c) (h : A) : if decide c = true then A else B := by
 rw [decide_eq_true hc, if_pos rfl]
 exact h
theorem iteNo {b : Bool} {A B : Prop} (hb : b = false) (h : B) : if b = true then A else B := by
 rw [hb, if_neg Bool.false_ne_true]
 exact h
end Cw
namespace Cw
open PySem L2
noncomputable def ClearB (rs : Rows) (ws : List (List Tm)) (k : List Nat) : Prop := Wk rs k ∧ ∀ i, i < k.length → wishHolds rs (wcut rs (k.take i)) ws = false
noncomputable def Clear (rs : Rows) (ws : List (List Tm)) (k : List Nat) : Prop := Wk rs k ∧ ∀ i, i ≤ k.length → wishHolds rs (wcut rs (k.take i)) ws = false
noncomputable def Comes (rs : Rows) (ws : List (List Tm)) (c : List Int) : Prop := ∃ k, Clear rs ws k ∧ wcut rs k = c
theorem ClearB.clear {rs : Rows} {ws : List (List Tm)} {k : List Nat} (h : ClearB rs ws k) (hn : wishHolds rs (wcut rs k) ws = false) : Clear rs ws k := ⟨h.1, fun i hi => by
 by_cases e : i < k.length
 ·exact h.2 i e
 ·rw [show i = k.length by lia, List.take_length]
  exact hn⟩
theorem Clear.clearB {rs : Rows} {ws : List (List Tm)} {k : List Nat} (h : Clear rs ws k) : ClearB rs ws k := ⟨h.1, fun i hi => h.2 i (Nat.le_of_lt hi)⟩
theorem Clear.last {rs : Rows} {ws : List (List Tm)} {k : List Nat} (h : Clear rs ws k) : wishHolds rs (wcut rs k) ws = false := by
 have := h.2 k.length (Nat.le_refl _)
 rwa [List.take_length] at this
theorem Clear.snoc {rs : Rows} {ws : List (List Tm)} {k : List Nat} {h : Nat} (c : Clear rs ws k) (g : Goes rs (wcut rs k) h) : ClearB rs ws (k ++ [h]) := ⟨c.1.snoc g, fun i hi => by
 rw [List.length_append, List.length_singleton] at hi
 rw [List.take_append_of_le_length (by lia)]
 exact c.2 i (by lia)⟩
theorem ClearB.prev {rs : Rows} {ws : List (List Tm)} {k : List Nat} {h : Nat} (c : ClearB rs ws (k ++ [h])) : Clear rs ws k ∧ Goes rs (wcut rs k) h := by
 have hl : (k ++ [h]).length = k.length + 1 := by rw [List.length_append, List.length_singleton]
 have wk : Wk rs k := fun i j z => by
  have hi := lt_of_get z
  have := c.1 i j (by rw [List.getElem?_append_left hi]; exact z)
  rwa [List.take_append_of_le_length (Nat.le_of_lt hi)] at this
 refine ⟨⟨wk, fun i hi => ?_⟩, ?_⟩
 ·have := c.2 i (by lia)
  rwa [List.take_append_of_le_length hi] at this
 ·have := c.1 k.length h (by rw [List.getElem?_append_right (Nat.le_refl _), Nat.sub_self]; rfl)
  rwa [List.take_append_of_le_length (Nat.le_refl _), List.take_length] at this
theorem Wk.end_ {rs : Rows} {k : List Nat} (w : Wk rs k) : Inside rs (wcut rs k) ∧ (wcut rs k).sum = ((k.length : Nat) : Int) := by
 have h1 := w.inside k.length (Nat.le_refl _)
 have h2 := w.sum k.length (Nat.le_refl _)
 rw [List.take_length] at h1 h2
 exact ⟨h1, h2⟩
theorem wcut_bump {rs : Rows} {k : List Nat} {h : Nat} (g : Goes rs (wcut rs k) h) : wcut rs (k ++ [h]) = bump (wcut rs k) h := by
 obtain ⟨n, hn, _⟩ := g
 rw [wcut_snoc hn, bump_of hn]
noncomputable def wkK (es : List (List Int × Addr)) : List (List Key × V) := es.map fun e => (cutKey e.1, V.ref e.2)
noncomputable def setE : List (List Int × Addr) → List Int → Addr → List (List Int × Addr)
 | [], d, v => [(d, v)]
 | (c, x) :: r, d, v => if c = d then (c, v) :: r else (c, x) :: setE r d v
noncomputable def getA : List (List Int × Addr) → List Int → Option Addr
 | [], _ => none
 | (c, x) :: r, d => if c = d then some x else getA r d
theorem wkK_get (d : List Int) : ∀ es : List (List Int × Addr), valV (wkK es) (cutKey d) = (getA es d).map V.ref
 | [] => rfl
 | (c, x) :: r => by
  show valV ((cutKey c, V.ref x) :: wkK r) (cutKey d) = (if c = d then some x else getA r d).map V.ref
  by_cases q : c = d
  ·rw [if_pos q, valV_pos (by rw [q])]
   rfl
  ·rw [if_neg q, valV_neg (fun z => q (cutKey_inj z))]
   exact wkK_get d r
theorem getA_mem {d : List Int} {x : Addr} : ∀ {es : List (List Int × Addr)}, getA es d = some x → (d, x) ∈ es
 | (c, y) :: r, h => by
  have h : (if c = d then some y else getA r d) = some x := h
  by_cases q : c = d
  ·rw [if_pos q] at h
   cases h
   rw [q]
   exact List.mem_cons_self
  ·rw [if_neg q] at h
   exact List.mem_cons_of_mem _ (getA_mem h)
theorem getA_none {d : List Int} : ∀ {es : List (List Int × Addr)}, getA es d = none → d ∉ es.map (·.1)
 | [], _, z => nomatch z
 | (c, y) :: r, h, z => by
  have h : (if c = d then some y else getA r d) = none := h
  by_cases q : c = d
  ·rw [if_pos q] at h
   cases h
  ·rw [if_neg q] at h
   rw [List.map_cons] at z
   rcases List.mem_cons.mp z with z | z
   ·exact q z.symm
   ·exact getA_none h z
theorem wkK_set {d : List Int} {v : Addr} : ∀ {es : List (List Int × Addr)}, (es.map (·.1)).Nodup → putK (wkK es) (cutKey d) (V.ref v) = wkK (setE es d v)
 | [], _ => rfl
 | (c, x) :: r, nd => by
  rw [List.map_cons, List.nodup_cons] at nd
  show putK ((cutKey c, V.ref x) :: wkK r) (cutKey d) (V.ref v) = wkK (if c = d then (c, v) :: r else (c, x) :: setE r d v)
  rw [putK_cons]
  by_cases q : c = d
  ·rw [if_pos q, if_pos (by rw [q])]
   show _ = (cutKey c, V.ref v) :: wkK r
   congr 1
   unfold wkK
   rw [List.map_map]
   refine List.map_congr_left fun e he => ?_
   show (if cutKey e.1 = cutKey d then _ else _) = _
   rw [if_neg]
   intro z
   have := cutKey_inj z
   exact nd.1 (List.mem_map.mpr ⟨e, he, by show e.1 = c; rw [this, q]⟩)
  ·rw [if_neg q, if_neg (fun z => q (cutKey_inj z))]
   show _ = (cutKey c, V.ref x) :: wkK (setE r d v)
   rw [wkK_set nd.2]
theorem setE_keys {d : List Int} {v : Addr} : ∀ {es : List (List Int × Addr)} {c : List Int}, c ∈ (setE es d v).map (·.1) ↔ c = d ∨ c ∈ es.map (·.1)
 | [], c => by simp [setE]
 | (b, x) :: r, c => by
  unfold setE
  by_cases q : b = d
  ·rw [if_pos q, List.map_cons, List.map_cons, List.mem_cons]
   show c = b ∨ _ ↔ c = d ∨ c = b ∨ _
   rw [q]
   exact ⟨fun z => .inr z, fun z => z.elim .inl id⟩
  ·rw [if_neg q, List.map_cons, List.map_cons, List.mem_cons, List.mem_cons, setE_keys]
   exact ⟨fun z => z.elim (fun z => .inr (.inl z)) (fun z => z.elim .inl fun z => .inr (.inr z)), fun z => z.elim (fun z => .inr (.inl z)) (fun z => z.elim .inl fun z => .inr (.inr z))⟩
theorem setE_nd {d : List Int} {v : Addr} : ∀ {es : List (List Int × Addr)}, (es.map (·.1)).Nodup → ((setE es d v).map (·.1)).Nodup
 | [], _ => by simp [setE]
 | (b, x) :: r, nd => by
  unfold setE
  rw [List.map_cons, List.nodup_cons] at nd
  by_cases q : b = d
  ·rw [if_pos q, List.map_cons, List.nodup_cons]
   exact nd
  ·rw [if_neg q, List.map_cons, List.nodup_cons]
   refine ⟨fun z => ?_, setE_nd nd.2⟩
   rcases setE_keys.mp z with z | z
   ·exact q z
   ·exact nd.1 z
theorem setE_mem {d : List Int} {v : Addr} : ∀ {es : List (List Int × Addr)} {e : List Int × Addr}, e ∈ setE es d v → e = (d, v) ∨ e ∈ es
 | [], e, h => by
  unfold setE at h
  exact .inl (List.mem_singleton.mp h)
 | (b, x) :: r, e, h => by
  unfold setE at h
  by_cases q : b = d
  ·rw [if_pos q] at h
   rcases List.mem_cons.mp h with z | z
   ·exact .inl (by rw [z, q])
   ·exact .inr (List.mem_cons_of_mem _ z)
  ·rw [if_neg q] at h
   rcases List.mem_cons.mp h with z | z
   ·exact .inr (by rw [z]; exact List.mem_cons_self)
   ·rcases setE_mem z with z | z
    ·exact .inl z
    ·exact .inr (List.mem_cons_of_mem _ z)
theorem setE_new {d : List Int} {v : Addr} : ∀ {es : List (List Int × Addr)}, d ∉ es.map (·.1) → setE es d v = es ++ [(d, v)]
 | [], _ => rfl
 | (b, x) :: r, h => by
  unfold setE
  rw [List.map_cons] at h
  rw [if_neg fun z => h (by rw [z]; exact List.mem_cons_self), setE_new fun z => h (List.mem_cons_of_mem _ z)]
  rfl
structure LvW (rs : Rows) (J : List Nat → Prop) (H0 H : Hp) (n : Nat) (es : List (List Int × Addr)) : Prop where
 nd : (es.map (·.1)).Nodup
 at_ : ∀ e ∈ es, ∃ k, H e.2 = some (.lst (csV k)) ∧ H0 e.2 = none ∧ J k ∧ k.length = n ∧ wcut rs k = e.1
 all : ∀ k, J k → k.length = n → wcut rs k ∈ es.map (·.1)
theorem LvW.keep {rs : Rows} {J : List Nat → Prop} {H0 H H' : Hp} {n : Nat} {es : List (List Int × Addr)} {g : Addr} {kvs : List (List Key × V)} (h : LvW rs J H0 H n es) (k : Kept (fun b => b = g) H H') (hg : H g = some (.dT kvs)) : LvW rs J H0 H' n es :=
 ⟨h.nd, fun e he => by
  obtain ⟨w, h1, h2⟩ := h.at_ e he
  exact ⟨w, k _ _ h1 (fun z => by rw [z, hg] at h1; cases h1), h2⟩, h.all⟩
theorem LvW.sift {rs : Rows} {ws : List (List Tm)} {H0 H : Hp} {n : Nat} {es : List (List Int × Addr)} (h : LvW rs (ClearB rs ws) H0 H n es) : LvW rs (Clear rs ws) H0 H n (es.filter fun e => !wishHolds rs e.1 ws) := by
 refine ⟨?_, fun e he => ?_, fun k hk hl => ?_⟩
 ·exact List.Pairwise.sublist (List.Sublist.map _ List.filter_sublist) h.nd
 ·obtain ⟨he, hb⟩ := List.mem_filter.mp he
  obtain ⟨k, h1, h2, h3, h4, h5⟩ := h.at_ e he
  exact ⟨k, h1, h2, h3.clear (by rw [h5]; cases z : wishHolds rs e.1 ws with
   | false => rfl
   | true => rw [z] at hb; cases hb), h4, h5⟩
 ·obtain ⟨e, he, hek⟩ := List.mem_map.mp (h.all k hk.clearB hl)
  refine List.mem_map.mpr ⟨e, List.mem_filter.mpr ⟨he, ?_⟩, hek⟩
  rw [hek, hk.last]
  rfl
structure BhW (rs : Rows) (H0 H H' : Hp) (es fs : List (List Int × Addr)) : Prop where
 nd : (fs.map (·.1)).Nodup
 at_ : ∀ f ∈ fs, ∃ e ∈ es, ∃ (h : Nat) (k : List Nat), Goes rs e.1 h ∧ f.1 = bump e.1 h ∧ H e.2 = some (.lst (csV k)) ∧ H0 f.2 = none ∧ H' f.2 = some (.lst (csV (k ++ [h])))
theorem csV_inj {a b : List Nat} (h : csV a = csV b) : a = b := by
 unfold csV at h
 induction a generalizing b with
 | nil => cases b with
  | nil => rfl
  | cons y b => cases h
 | cons x a ih => cases b with
  | nil => cases h
  | cons y b =>
   rw [List.map_cons, List.map_cons] at h
   injection h with h1 h2
   injection h1 with h1
   rw [ih h2, show x = y by lia]
theorem LvW.next {rs : Rows} {ws : List (List Tm)} {H0 H H' : Hp} {n : Nat} {es fs : List (List Int × Addr)} (h : LvW rs (Clear rs ws) H0 H n es) (b : BhW rs H0 H H' es fs) (all : ∀ e ∈ es, ∀ i, Goes rs e.1 i → bump e.1 i ∈ fs.map (·.1)) : LvW rs (ClearB rs ws) H0 H' (n + 1) fs := by
 refine ⟨b.nd, fun f hf => ?_, fun k hk hl => ?_⟩
 ·obtain ⟨e, he, i, k, g, e1, h1, h2, h3⟩ := b.at_ f hf
  obtain ⟨k', g1, g2, g3, g4, g5⟩ := h.at_ e he
  rw [h1] at g1
  have := csV_inj (HO.lst.inj (Option.some.inj g1))
  subst this
  rw [← g5] at g e1
  exact ⟨k ++ [i], h3, h2, g3.snoc g, by rw [List.length_append, List.length_singleton, g4], by rw [wcut_bump g, e1]⟩
 ·obtain ⟨k', i, rfl⟩ : ∃ k' i, k = k' ++ [i] := by
   refine ⟨k.dropLast, k.getLast (by rintro rfl; cases hl), (List.dropLast_concat_getLast _).symm⟩
  obtain ⟨c, g⟩ := hk.prev
  rw [List.length_append, List.length_singleton] at hl
  obtain ⟨e, he, hek⟩ := List.mem_map.mp (h.all k' c (by lia))
  rw [wcut_bump g, ← hek]
  rw [← hek] at g
  exact all e he i g
theorem LvW.ins {rs : Rows} {ws : List (List Tm)} {H0 H : Hp} {n : Nat} {es : List (List Int × Addr)} {J : List Nat → Prop} (h : LvW rs J H0 H n es) (hJ : ∀ k, J k → Wk rs k) : ∀ e ∈ es, Inside rs e.1 := fun e he => by
 obtain ⟨k, _, _, hk, _, e1⟩ := h.at_ e he
 rw [← e1]
 exact (hJ k hk).end_.1
theorem LvW.first {rs : Rows} {ws : List (List Tm)} {H0 H : Hp} {l : Addr} (h1 : H l = some (.lst [])) (h2 : H0 l = none) : LvW rs (ClearB rs ws) H0 H 0 [(rs.map fun _ => 0, l)] := by
 refine ⟨by simp, fun e he => ?_, fun k _ hl => ?_⟩
 ·rw [List.mem_singleton.mp he]
  exact ⟨[], h1, h2, ⟨Wk.nil rs, fun i hi => absurd hi (Nat.not_lt_zero _)⟩, rfl, rfl⟩
 ·rw [List.eq_nil_of_length_eq_zero hl]
  exact List.mem_singleton.mpr rfl
theorem Comes.end_ {rs : Rows} {ws : List (List Tm)} {H0 H : Hp} {n : Nat} {es : List (List Int × Addr)} (h : LvW rs (Clear rs ws) H0 H n es) (hn : ((n : Nat) : Int) = tot rs) : Comes rs ws (endC rs) ↔ endC rs ∈ es.map (·.1) := by
 constructor
 ·rintro ⟨k, hk, e⟩
  have := hk.1.end_.2
  rw [e, endC_sum] at this
  rw [← e]
  exact h.all k hk (by lia)
 ·intro z
  obtain ⟨e, he, hek⟩ := List.mem_map.mp z
  obtain ⟨k, _, _, hk, _, e1⟩ := h.at_ e he
  exact ⟨k, hk, by rw [e1, hek]⟩
inductive sp_withoutP (C : Addr) (vs : List V) (H : Hp) (Q : VK) : Prop
 | mk (H0 : Hp) (x a sd td : Addr) (ps : List Addr) (rs : Rows) (w : Addr) (qs : List Addr) (ws : List (List Tm)) (g : Addr) (es : List (List Int × Addr)) (h0 : vs = [.ref x, .ref w, .ref g]) (h1 : Same H0 H) (h2 : H0 g = none) (h3 : RecA C H0 x rs a ps sd td) (h4 : WishA H0 w qs ws) (h5 : WishOk rs.length ws) (h6 : H g = some (.dT (wkK es))) (h7 : (es.map (·.1)).Nodup) (h8 : ∀ e ∈ es, Inside rs e.1)
  (q : ∀ (d : Addr) (H' : Hp), Kept (fun b => b = g) H H' → H d = none → H' d = some (.dT (wkK (es.filter fun e => !wishHolds rs e.1 ws))) → Q (.ref d) H')
noncomputable def sp_without (C : Addr) : Sp := fun vs H Q _ => sp_withoutP C vs H Q
inductive sp_wbehindP (C : Addr) (vs : List V) (H : Hp) (Q : VK) : Prop
 | mk (H0 : Hp) (x a sd td : Addr) (ps : List Addr) (rs : Rows) (g : Addr) (es : List (List Int × Addr)) (h0 : vs = [.ref x, .ref g]) (h1 : Same H0 H) (h2 : H0 g = none) (h3 : RecA C H0 x rs a ps sd td) (h4 : H g = some (.dT (wkK es))) (h5 : (es.map (·.1)).Nodup) (h6 : ∀ e ∈ es, Inside rs e.1 ∧ ∃ k, H e.2 = some (.lst (csV k)) ∧ k.length ≤ 900)
  (q : ∀ (d : Addr) (fs : List (List Int × Addr)) (H' : Hp), Kept (fun b => b = g) H H' → H d = none → H' d = some (.dT (wkK fs)) → BhW rs H0 H H' es fs → (∀ e ∈ es, ∀ i, Goes rs e.1 i → bump e.1 i ∈ fs.map (·.1)) → Q (.ref d) H')
noncomputable def sp_wbehind (C : Addr) : Sp := fun vs H Q _ => sp_wbehindP C vs H Q
inductive sp_mustP (C : Addr) (vs : List V) (H : Hp) (Q : VK) : Prop
 | mk (x a sd td : Addr) (ps : List Addr) (rs : Rows) (w : Addr) (qs : List Addr) (ws : List (List Tm)) (h0 : vs = [.ref x, .ref w]) (h1 : RecA C H x rs a ps sd td) (h2 : WishA H w qs ws) (h3 : WishOk rs.length ws)
  (qn : ¬ Comes rs ws (endC rs) → ∀ H', Same H H' → Q .non H') (q : ∀ (l : Addr) (k : List Nat) (H' : Hp), Same H H' → H l = none → H' l = some (.lst (csV k)) → Clear rs ws k → wcut rs k = endC rs → Q (.ref l) H')
noncomputable def sp_must (C : Addr) : Sp := fun vs H Q _ => sp_mustP C vs H Q
noncomputable def boK (l : List (List Int)) : List (List Key × V) := l.map fun c => (cutKey c, V.bl true)
inductive sp_lwithoutP (vs : List V) (H : Hp) (Q : VK) : Prop
 | mk (r : Addr) (ps : List Addr) (rs : Rows) (w : Addr) (qs : List Addr) (ws : List (List Tm)) (h0 : vs = [.ref r, .ref w]) (h1 : RowsA H r ps rs) (h2 : Val rs) (h3 : WishA H w qs ws) (h4 : WishOk rs.length ws)
  (q : ∀ (d : Addr) (l : List (List Int)) (H' : Hp), Same H H' → H' d = some (.dT (boK l)) → (∀ c, c ∈ l ↔ Comes rs ws c) → Q (.ref d) H')
noncomputable def sp_lwithout : Sp := fun vs H Q _ => sp_lwithoutP vs H Q
inductive sp_walkedMP (vs : List V) (H : Hp) (Q : VK) : Prop
 | mk (a : Addr) (ps : List Addr) (rs : Rows) (l : Addr) (k : List Nat) (h0 : vs = [.ref a, .ref l]) (h1 : RowsA H a ps rs) (h2 : Val rs) (h3 : H l = some (.lst (csV k))) (h4 : Wk rs k)
  (q : ∀ (g : Addr) (ys : List V) (H' : Hp), Same H H' → H g = none → H' g = some (.lst ys) → Paired (TupI H') ys ((List.range (k.length + 1)).map fun i => wcut rs (k.take i)) → Q (.ref g) H')
noncomputable def sp_walkedM : Sp := fun vs H Q _ => sp_walkedMP vs H Q
inductive sp_lrightMP (C : Addr) (vs : List V) (H : Hp) (Q : VK) : Prop
 | mk (r : Addr) (ps : List Addr) (rs : Rows) (x a sd td : Addr) (rqs : List Addr) (w : Addr) (qs : List Addr) (ws : List (List Tm)) (h0 : vs = [.ref r, .ref x, .ref w]) (h1 : RowsA H r ps rs) (h2 : Val rs) (h3 : RecA C H x rs a rqs sd td) (h4 : WishA H w qs ws) (h5 : WishOk rs.length ws)
  (q : ∀ H' : Hp, Same H H' → Q (.bl true) H')
noncomputable def sp_lrightM (C : Addr) : Sp := fun vs H Q _ => sp_lrightMP C vs H Q
theorem Comes.inside {rs : Rows} {ws : List (List Tm)} {c : List Int} (h : Comes rs ws c) : Inside rs c := by
 obtain ⟨k, hk, rfl⟩ := h
 exact hk.1.end_.1
theorem comes_iff {rs : Rows} {ws : List (List Tm)} {c : List Int} (I : Inside rs c) : Comes rs ws c ↔ wishHolds rs c ws = false ∧ (c.sum = 0 ∨ ∃ (h : Nat) (n : Int), c[h]? = some n ∧ Comes rs ws (c.set h (n - 1))) := by
 constructor
 ·rintro ⟨k, hk, rfl⟩
  refine ⟨hk.last, ?_⟩
  by_cases e : k = []
  ·subst e
   exact .inl (zero_sum rs)
  ·obtain ⟨k', i, rfl⟩ : ∃ k' i, k = k' ++ [i] := ⟨k.dropLast, k.getLast e, (List.dropLast_concat_getLast e).symm⟩
   obtain ⟨c', g⟩ := hk.clearB.prev
   obtain ⟨n, hn, J⟩ := id g
   refine .inr ⟨i, n + 1, ?_, k', c', ?_⟩
   ·rw [wcut_snoc hn, set_get hn, if_pos rfl]
   ·rw [wcut_snoc hn, List.set_set, show n + 1 - 1 = n by lia]
    refine List.ext_getElem? fun j => ?_
    rw [set_get hn]
    by_cases q : j = i
    ·rw [if_pos q, q, hn]
    ·rw [if_neg q]
 ·rintro ⟨hw, hz | ⟨h, n, hn, k, hk, e⟩⟩
  ·have e : c = rs.map fun _ => 0 := by
    have := ((Level.zero rs).mem c).mpr ⟨I, hz⟩
    simpa using this
   subst e
   exact ⟨[], ⟨Wk.nil rs, fun i hi => by rw [show i = 0 from Nat.le_zero.mp hi]; exact hw⟩, rfl⟩
  ·have hn2 : (wcut rs k)[h]? = some (n - 1) := by rw [e, set_get hn, if_pos rfl]
   have g : Goes rs (wcut rs k) h := ⟨n - 1, hn2, by rw [e, set_back hn]; exact I⟩
   have e2 : wcut rs (k ++ [h]) = c := by rw [wcut_snoc hn2, e, set_back hn]
   exact ⟨k ++ [h], (hk.snoc g).clear (by rw [e2]; exact hw), e2⟩
theorem seen_less {rs : Rows} {cs : List (List Int)} (A : AllCuts rs cs) {i : Nat} {c d : List Int} (hc : cs[i]? = some c) (I : Inside rs d) (h : d.sum < c.sum) : d ∈ cs.take i := by
 obtain ⟨j, hj⟩ := List.getElem?_of_mem ((A.mem d).mpr I)
 have hlt : pkLt (cutK d) (cutK c) = true := pk_less h
 have hji : j < i := by
  rcases Nat.lt_trichotomy j i with z | z | z
  ·exact z
  ·rw [z, hc] at hj
   have e := Option.some.inj hj
   rw [e, pkLt_irr] at hlt
   cases hlt
  ·have lt := List.pairwise_iff_getElem.mp A.ord i j (lt_of_get hc) (lt_of_get hj) z
   rw [(List.getElem?_eq_some_iff.mp hc).2, (List.getElem?_eq_some_iff.mp hj).2] at lt
   exact absurd hlt (pkLt_asym lt)
 refine List.mem_of_getElem? (i := j) ?_
 rw [List.getElem?_take, if_pos hji]
 exact hj
open Classical in
noncomputable def comeL (rs : Rows) (ws : List (List Tm)) (l : List (List Int)) : List (List Int) := l.filter fun c => decide (Comes rs ws c)
open Classical in
theorem comeL_mem {rs : Rows} {ws : List (List Tm)} {l : List (List Int)} {c : List Int} : c ∈ comeL rs ws l ↔ c ∈ l ∧ Comes rs ws c := by
 unfold comeL
 rw [List.mem_filter, decide_eq_true_eq]
open Classical in
theorem comeL_yes {rs : Rows} {ws : List (List Tm)} {l : List (List Int)} {c : List Int} (h : Comes rs ws c) : comeL rs ws (l ++ [c]) = comeL rs ws l ++ [c] := by
 unfold comeL
 rw [List.filter_append, List.filter_cons, if_pos (decide_eq_true h)]
 rfl
open Classical in
theorem comeL_no {rs : Rows} {ws : List (List Tm)} {l : List (List Int)} {c : List Int} (h : ¬ Comes rs ws c) : comeL rs ws (l ++ [c]) = comeL rs ws l := by
 unfold comeL
 rw [List.filter_append, List.filter_cons, if_neg (by rw [decide_eq_true_eq]; exact h)]
 exact List.append_nil _
theorem comeL_len (rs : Rows) (ws : List (List Tm)) (l : List (List Int)) : (comeL rs ws l).length ≤ l.length := List.length_filter_le _ _
theorem boK_get (d : List Int) : ∀ l : List (List Int), (valV (boK l) (cutKey d)).isSome = decide (d ∈ l)
 | [] => rfl
 | c :: l => by
  show (valV ((cutKey c, V.bl true) :: boK l) (cutKey d)).isSome = _
  by_cases q : c = d
  ·rw [valV_pos (by rw [q]), decide_eq_true (by rw [q]; exact List.mem_cons_self)]
   rfl
  ·rw [valV_neg (fun z => q (cutKey_inj z)), boK_get d l]
   by_cases z : d ∈ l
   ·rw [decide_eq_true z, decide_eq_true (List.mem_cons_of_mem _ z)]
   ·rw [decide_eq_false z, decide_eq_false (fun w => (List.mem_cons.mp w).elim (fun w => q w.symm) z)]
theorem boK_new {l : List (List Int)} {c : List Int} (h : c ∉ l) : putK (boK l) (cutKey c) (V.bl true) = boK (l ++ [c]) := by
 rw [putK_new]
 ·unfold boK
  rw [List.map_append]
  rfl
 ·have := boK_get c l
  rw [decide_eq_false h] at this
  exact Option.not_isSome_iff_eq_none.mp (by rw [this]; decide)
noncomputable def OffM (d : Addr) (H H' : Hp) : Prop := ∀ b o, b ≠ d → H b = some o → H' b = some o
theorem OffM.same {d : Addr} {H H1 H2 : Hp} (a : OffM d H H1) (s : Same H1 H2) : OffM d H H2 := fun b o n e => s _ _ (a b o n e)
theorem OffM.put {d : Addr} {H H1 : Hp} {o : HO} (a : OffM d H H1) : OffM d H (L2.upd H1 d o) := fun b u n e => by
 rw [upd_ne n]
 exact a b u n e
theorem OffM.to {d : Addr} {H0 H H1 : Hp} (a : OffM d H H1) (s : Same H0 H) (h : H0 d = none) : Same H0 H1 := fun b o e => a b o (by rintro rfl; rw [h] at e; cases e) (s _ _ e)
noncomputable def top (i : Nat) : Stmt := PySem.Challenge.pw_cutway_k14_whole_must_have_held.main.body.getD i (.Pass ⟨0, 0, 0, 0⟩)
noncomputable abbrev s_law_cell_at : Stmt := top 28
theorem sc_law_cell_at : FnScope ["script", "k"] ["script", "k"] (defScope s_law_cell_at) := ⟨rfl, rfl, rfl, by decide +kernel, rfl, by decide +kernel, by decide +kernel⟩
noncomputable abbrev s_law_draw : Stmt := top 29
theorem sc_law_draw : FnScope ["script", "k"] ["script", "k"] (defScope s_law_draw) := ⟨rfl, rfl, rfl, by decide +kernel, rfl, by decide +kernel, by decide +kernel⟩
noncomputable abbrev s_law_value : Stmt := top 31
theorem sc_law_value : FnScope ["script", "k", "cell"] ["script", "k"] (defScope s_law_value) := ⟨rfl, rfl, rfl, by decide +kernel, rfl, by decide +kernel, by decide +kernel⟩
noncomputable abbrev s_law_whole : Stmt := top 30
theorem sc_law_whole : FnScope ["found"] ["found"] (defScope s_law_whole) := ⟨rfl, rfl, rfl, by decide +kernel, rfl, by decide +kernel, by decide +kernel⟩
section
variable {P : Program} {w : World} {K : PySem.W.Frag} {mg : Str → Option Value} {base : Heap}
theorem ok_cell {f : Addr} {fd : FuncData} (F : Fun K "_law_cell_at" "_law_cell_at" s_law_cell_at f fd) (B : Bl mg) : FnOk P w K mg base CX0 1 f fd ["script", "k"] (sp_cell K) := by
 have sc := sc_law_cell_at
 refine F.ok sc (fun vs H Q E h => ?_) (fun cdv A outer s H vs Q E hr h => ?_)
 ·obtain ⟨a, ns, k, rfl, _⟩ := h
  rfl
 ·obtain ⟨a, ns, k, rfl, hS, hk, q⟩ := h
  refine ⟨_, (pss_cons (ps_if (pt_cmpR op_lt (pv 1) (pe_callB call_len_seqI (by rfl) (B "len" (by decide +kernel)) bt_len (pa_cons (pv 0) pa_nil)) (nomark _)) (pss_one (ps_ret (pe_ix ix_list (pv 0) (pv 1) (fun _ _ => rfl)))) pss_nil)
    (pss_one (ps_ret pe_int))), ?_⟩
  refine ⟨_, rfl, _, rfl, a, _, rfl, .inl hS, _, _, rfl, rfl, _, rfl, ?_⟩
  refine ite2 (fun h => ?_) (fun h => ?_)
  ·exact ⟨_, rfl, _, rfl, a, _, k, _, rfl, rfl, hS, atI_int hk (of_decide_eq_true h), q⟩
  ·have e := cell_out (ns := ns) (k := k) (fun z => h (decide_eq_true z))
   rw [e] at q
   exact q
theorem ok_draw {f : Addr} {fd : FuncData} (F : Fun K "_law_draw" "_law_draw" s_law_draw f fd) (B : Bl mg) (D_law_cell_at : Df P w K mg base 1 "_law_cell_at" ["script", "k"] (sp_cell K)) : FnOk P w K mg base CX0 2 f fd ["script", "k"] (sp_draw K) := by
 have sc := sc_law_draw
 refine F.ok sc (fun vs H Q E h => ?_) (fun cdv A outer s H vs Q E hr h => ?_)
 ·obtain ⟨a, ns, k, rfl, _⟩ := h
  rfl
 ·obtain ⟨a, ns, k, rfl, hS, hk, q⟩ := h
  refine ⟨_, (pss_one (ps_ret (pe_op op_mod (pe_op op_mul (pe_op op_add (pe_df D_law_cell_at (hr.mono (by decide)) (pa_cons (pv 0) (pa_cons (pe_op op_mod (pv 1) pe_int) pa_nil))) (pe_op op_mul pe_int (pv 1))) pe_int) pe_int))), ?_⟩
  refine ⟨_, rfl, _, rfl, _, _, rfl, rfl, (by show (0 : Int) < 61; decide), a, ns, k % 61, rfl, hS, Int.emod_nonneg _ (by decide), ?_⟩
  refine ⟨_, rfl, _, _, rfl, rfl, .inl ⟨by decide, by decide⟩, _, _, rfl, rfl, _, _, rfl, rfl, .inr ⟨by decide, by decide⟩, _, _, rfl, rfl, (by show (0 : Int) < 2147483647; decide), ?_⟩
  exact q
theorem ok_value {f : Addr} {fd : FuncData} (F : Fun K "_law_value" "_law_value" s_law_value f fd) (B : Bl mg) (D_law_cell_at : Df P w K mg base 1 "_law_cell_at" ["script", "k"] (sp_cell K)) (D_law_draw : Df P w K mg base 2 "_law_draw" ["script", "k"] (sp_draw K)) : FnOk P w K mg base CX0 3 f fd ["script", "k"] (sp_value K) := by
 have sc := sc_law_value
 refine F.ok sc (fun vs H Q E h => ?_) (fun cdv A outer s H vs Q E hr h => ?_)
 ·obtain ⟨a, ns, k, rfl, _⟩ := h
  rfl
 ·obtain ⟨a, ns, k, rfl, hS, hk, q⟩ := h
  refine ⟨_, (pss_cons (ps_set (i := 2) sc.nd rfl (Or.inl rfl) (pe_df D_law_draw (hr.mono (by decide)) (pa_cons (pv 0) (pa_cons (pv 1) pa_nil))))
    (pss_cons (ps_if (pt_cmpR op_eq (pe_op op_mod (pv 2) pe_int) pe_int (nomark _)) (pss_one (ps_ret (pe_op op_sub (pe_op op_mod (pe_df D_law_cell_at (hr.mono (by decide)) (pa_cons (pv 0) (pa_cons (pe_op op_mod (pv 1) pe_int) pa_nil))) pe_int) pe_int))) pss_nil)
    (pss_one (ps_ret (pe_op op_sub (pe_op op_mod (pe_op op_fdiv (pv 2) pe_int) pe_int) pe_int))))), ?_⟩
  refine ⟨_, rfl, _, rfl, a, ns, k, rfl, hS, hk, ?_⟩
  refine ⟨_, rfl, _, _, rfl, rfl, (by show (0 : Int) < 4; decide), rfl, _, rfl, ?_⟩
  refine ite2 (fun h => ?_) (fun h => ?_)
  ·have h : V.int (draw ns k % 4) = V.int 0 := of_decide_eq_true h
   injection h with h
   refine ⟨_, rfl, _, rfl, _, _, rfl, rfl, (by show (0 : Int) < 61; decide), a, ns, k % 61, rfl, hS, Int.emod_nonneg _ (by decide), _, _, rfl, rfl, (by show (0 : Int) < 2000000001; decide), _, _, rfl, rfl, ?_⟩
   have e : value ns k = cell ns (k % 61) % 2000000001 - 1000000000 := by unfold value; rw [if_pos h]
   rw [e] at q
   exact q
  ·have h : ¬ draw ns k % 4 = 0 := fun z => h (decide_eq_true (by show V.int (draw ns k % 4) = V.int 0; rw [z]))
   refine ⟨_, rfl, _, _, rfl, rfl, ⟨by decide, by decide⟩, _, _, rfl, rfl, (by show (0 : Int) < 5; decide), _, _, rfl, rfl, ?_⟩
   have e : value ns k = draw ns k / 4 % 5 - 2 := by unfold value; rw [if_neg h]
   rw [e] at q
   exact q
theorem ok_whole {f : Addr} {fd : FuncData} (F : Fun K "_law_whole" "_law_whole" s_law_whole f fd) (B : Bl mg) : FnOk P w K mg base CX0 1 f fd ["found"] sp_whole := by
 have sc := sc_law_whole
 refine F.ok sc (fun vs H Q E h => ?_) (fun cdv A outer s H vs Q E hr h => ?_)
 ·obtain ⟨i, rfl, _⟩ := h
  rfl
 ·obtain ⟨i, rfl, q⟩ := h
  refine ⟨_, (pss_one (ps_ret (pe_and (pe_callB call_isinst (by rfl) (B "isinstance" (by decide +kernel)) bt_isinstance (pa_cons (pv 0) (pa_cons (pe_bltn (v := .ty "int") (by rfl) (B "int" (by decide +kernel)) bt_int rfl) pa_nil))) (pe_one (pe_not (pe_callB call_isinst (by rfl) (B "isinstance" (by decide +kernel)) bt_isinstance (pa_cons (pv 0) (pa_cons (pe_bltn (v := .ty "bool") (by rfl) (B "bool" (by decide +kernel)) bt_bool rfl) pa_nil)))))))), ?_⟩
  refine ⟨_, rfl, _, _, _, true, rfl, .int i, rfl, true, rfl, ?_⟩
  refine iteT ?_
  refine ⟨_, rfl, _, _, _, false, rfl, .int i, ?_, false, rfl, ?_⟩
  ·rfl
  ·exact q
end
noncomputable abbrev s_law_used : Stmt := top 32
theorem sc_law_used : FnScope ["rows", "letter", "row", "event"] ["rows", "letter"] (defScope s_law_used) := ⟨rfl, rfl, rfl, by decide +kernel, rfl, by decide +kernel, by decide +kernel⟩
noncomputable abbrev s_law_copy : Stmt := top 34
theorem sc_law_copy : FnScope ["rows"] ["rows"] (defScope s_law_copy) := ⟨rfl, rfl, rfl, by decide +kernel, rfl, by decide +kernel, by decide +kernel⟩
section
variable {P : Program} {w : World} {K : PySem.W.Frag} {mg : Str → Option Value} {base : Heap}
noncomputable def inv_used_1 (H : L2.Hp) (a : PySem.Addr) (l : Int) (rs : Cw.Rows) : Nat → St → Hp → Prop := fun i σ H' => H' = H ∧ (∃ v v2, σ = [some (.ref a), some (.int l), v, v2]) ∧ ∀ (h p : Nat) (e : Ev), h < i → at? rs h p = some e → e.k ≠ .own → e.l ≠ l
noncomputable def inv_used_2 (H' : L2.Hp) (a : PySem.Addr) (l : Int) (p : PySem.Addr) (i : Nat) (rs : Cw.Rows) : Nat → St → Hp → Prop := fun j σ H2 => H2 = H' ∧ (∃ v2, σ = [some (.ref a), some (.int l), some (.ref p), v2]) ∧ ∀ (h p : Nat) (e : Ev), (h < i ∨ (h = i ∧ p < j)) → at? rs h p = some e → e.k ≠ .own → e.l ≠ l
theorem ok_used {f : Addr} {fd : FuncData} (F : Fun K "_law_used" "_law_used" s_law_used f fd) (B : Bl mg) : FnOk P w K mg base CX0 1 f fd ["rows", "letter"] sp_used := by
 have sc := sc_law_used
 refine F.ok sc (fun vs H Q E h => ?_) (fun cdv A outer s H vs Q E hr h => ?_)
 ·obtain ⟨a, ps, rs, l, rfl, _⟩ := h
  rfl
 ·obtain ⟨a, ps, rs, l, rfl, hR, q⟩ := h
  refine ⟨_, (pss_cons (ps_for PassesOwn.never rfl (pi_list (pv 0)) (pg_name (i := 2) sc.nd rfl (Or.inl rfl)) (pss_one (ps_for PassesOwn.never rfl (pi_list (pv 2)) (pg_name (i := 3) sc.nd rfl (Or.inl rfl)) (pss_one (ps_if ((pw_and (pt_cmpR op_ne (pe_ix ix_tup (pv 3) pe_int (fun _ _ => rfl)) pe_str (nomark _)) (pw_and1 (pt_cmpR op_eq (pe_ix ix_tup (pv 3) pe_int (fun _ _ => rfl)) (pv 1) (nomark _))))).pt (pss_one (ps_ret pe_bl)) pss_nil)))))
    (pss_one (ps_ret pe_bl))), ?_⟩
  refine ⟨_, rfl, a, rfl, ⟨_, SqL.of hR.top⟩, for_list (K := K) (a := a) (xs := ps.map V.ref) (inv_used_1 H a l rs)
   ⟨rfl, ⟨_, _, rfl⟩, fun h p e hh => absurd hh (Nat.not_lt_zero _)⟩ (fun i σ H' _ ⟨e, _⟩ => by rw [e]; exact SqL.of hR.top) ?_ ?_⟩
  ·rintro i y σ H' hi ⟨rfl, ⟨v, v2, rfl⟩, hno⟩
   obtain ⟨p, hp, rfl⟩ := map_ref hi
   obtain ⟨r, hr', xs, hx, m⟩ := hR.get hp
   refine ⟨_, rfl, p, rfl, ⟨_, SqL.of hx⟩, for_list (K := K) (a := p) (xs := xs) (inv_used_2 H' a l p i rs)
    ⟨rfl, ⟨_, rfl⟩, fun h p e hh => hno h p e (by lia)⟩ (fun i σ H' _ ⟨e, _⟩ => by rw [e]; exact SqL.of hx) ?_ ?_⟩
   ·rintro j z σ H2 hj ⟨rfl, ⟨v2, rfl⟩, hno2⟩
    obtain ⟨t, e, he, rfl, ht⟩ := ev_get m hj
    refine ⟨_, rfl, t, _, 0, _, rfl, rfl, SqT.of ht, rfl, rfl, _, rfl, ?_⟩
    have hat : at? rs i j = some e := by rw [at_row hr']; exact he
    have step : (e.k ≠ .own → e.l ≠ l) → ∀ (h p : Nat) (e : Ev), (h < i ∨ (h = i ∧ p < j + 1)) → at? rs h p = some e → e.k ≠ .own → e.l ≠ l := by
     intro z h p e' hh q' k'
     by_cases hp : h = i ∧ p = j
     ·obtain ⟨rfl, rfl⟩ := hp
      rw [hat] at q'
      cases q'
      exact z k'
     ·exact hno2 h p e' (by lia) q' k'
    refine ite2 (fun h1 => ?_) (fun h1 => ?_)
    ·refine ⟨_, rfl, t, _, 1, _, rfl, rfl, SqT.of ht, rfl, _, rfl, rfl, _, rfl, ?_⟩
     refine ite2 (fun h2 => ?_) (fun h2 => ?_)
     ·have h2 : V.int e.l = V.int l := of_decide_eq_true h2
      injection h2 with h2
      refine q true ⟨fun _ => ⟨i, j, e, hat, fun k => ?_, h2⟩, fun _ => rfl⟩
      rw [k] at h1
      exact absurd h1 (by decide +kernel)
     ·refine ⟨rfl, ⟨_, rfl⟩, step fun _ z => h2 (decide_eq_true (by show V.int e.l = V.int l; rw [z]))⟩
    ·refine iteF ?_
     refine ⟨rfl, ⟨_, rfl⟩, step fun k => ?_⟩
     exfalso
     refine h1 ?_
     show (!decide (V.str e.k.str = V.str Kd.own.str)) = true
     rw [kd_dec, decide_eq_false k]
     rfl
   ·rintro σ H2 ⟨rfl, ⟨v2, rfl⟩, hno2⟩
    refine ⟨rfl, ⟨_, _, rfl⟩, fun h p' e' hh q' => hno2 h p' e' ?_ q'⟩
    by_cases z : h = i
    ·right
     refine ⟨z, ?_⟩
     rw [z, at_row hr'] at q'
     have := (List.getElem?_eq_some_iff.mp q').1
     rw [Paired.length m]
     exact this
    ·lia
  ·rintro σ H' ⟨rfl, ⟨v, v2, rfl⟩, hno⟩
   refine q false ⟨(fun z => nomatch z), fun ⟨h, p, e, q', k, hl⟩ => ?_⟩
   refine absurd hl (hno h p e ?_ q' k)
   obtain ⟨r, hr', _⟩ := at_some q'
   rw [List.length_map, hR.len]
   exact (List.getElem?_eq_some_iff.mp hr').1
noncomputable def inv_copy_1 (H : L2.Hp) (D : PySem.Addr) (rs : Cw.Rows) : Nat → St → List V → Hp → Prop := fun i σ ys H2 => ∃ (qs : List Addr) (v : Option V), σ = [v] ∧ ys = qs.map V.ref ∧ Same H H2 ∧ H2 D = some (.lst (qs.map V.ref)) ∧ Paired (RowA H2) qs (rs.take i) ∧ (∀ q ∈ qs, H q = none) ∧ qs.Nodup ∧ D ∉ qs
theorem ok_copy {f : Addr} {fd : FuncData} (F : Fun K "_law_copy" "_law_copy" s_law_copy f fd) (B : Bl mg) : FnOk P w K mg base CX0 1 f fd ["rows"] sp_copy := by
 have sc := sc_law_copy
 refine F.ok sc (fun vs H Q E h => ?_) (fun cdv A outer s H vs Q E hr h => ?_)
 ·obtain ⟨a, ps, rs, rfl, _⟩ := h
  rfl
 ·obtain ⟨a, ps, rs, rfl, hR, hz, q⟩ := h
  refine ⟨_, (pss_one (ps_ret (pe_lc (te := (tCB (rListOf K) (tCons (tVar 0) tNil))) (tt := tTrue) (Blk.plain (ts := ["row"]) (by decide +kernel) (by decide +kernel) rfl (by decide +kernel)) rfl (pi_list (pv 0)) (fun _ _ _ _ => (pg_name (i := 0) (show List.Nodup (["row"] : List Str) by decide +kernel) rfl (Or.inl rfl))) (fun _ _ _ _ => pifs_nil) (fun _ _ _ _ => (pe_callTy call_list_ofI (by rfl) (B "list" (by decide +kernel)) bt_list (pa_cons (pv 0) pa_nil)))))), ?_⟩
  refine ⟨_, rfl, a, rfl, ⟨_, SqL.of hR.top⟩, fun D hD => lc_list (K := K) (a := a) (xs := ps.map V.ref) (inv_copy_1 H D rs)
   ⟨[], _, rfl, rfl, Same.new hD, upd_same, .nil, fun q hq => (nomatch hq), List.nodup_nil, fun z => (nomatch z)⟩ (fun i σ ys H2 _ ⟨qs, v, _, _, s2, _⟩ => SqL.of (s2 _ _ hR.top)) ?_ ?_⟩
  ·rintro i y σ ys H2 hi ⟨qs, v, rfl, rfl, s2, hD2, hq, hn, nd, nD⟩
   obtain ⟨p, hp, rfl⟩ := map_ref hi
   obtain ⟨r, hr', xs, hx, m⟩ := hR.get hp
   refine ⟨_, rfl, p, xs, rfl, .inl (SqL.of (s2 _ _ hx)), fun l hl => ?_⟩
   obtain ⟨c1, c2, c3, c4, c5, c6⟩ := copy_step s2 hD hD2 hq hn nd nD hr' m hl
   refine ⟨by rw [upd_ne (by rintro rfl; rw [hl] at hD2; cases hD2)]; exact hD2, ?_, qs ++ [l], _, rfl, by simp, ?_⟩
   ·have e := Paired.length hq
    rw [List.length_map, e, List.length_take]
    exact small1000 (by lia)
   ·rw [List.map_append] at c1 c2 c3 ⊢
    exact ⟨c1, c2, c3, c4, c5, c6⟩
  ·rintro σ ys H2 ⟨qs, v, rfl, rfl, s2, hD2, hq, hn, nd, nD⟩
   have e : rs.take (ps.map V.ref).length = rs := by rw [List.length_map, hR.len, List.take_length]
   rw [e] at hq
   exact q D qs H2 s2 ⟨⟨hD2, hq⟩, hD, hn, nd, nD⟩
end
noncomputable abbrev s_letter_places : Stmt := top 7
theorem sc_letter_places : FnScope ["rows", "kind", "places", "hand", "row", "at", "event", "letter"] ["rows", "kind"] (defScope s_letter_places) := ⟨rfl, rfl, rfl, by decide +kernel, rfl, by decide +kernel, by decide +kernel⟩
noncomputable abbrev s_check_sent : Stmt := top 8
theorem sc_check_sent : FnScope ["sends", "takes", "letter"] ["sends", "takes"] (defScope s_check_sent) := ⟨rfl, rfl, rfl, by decide +kernel, rfl, by decide +kernel, by decide +kernel⟩
noncomputable abbrev s_can_be_done : Stmt := top 11
theorem sc_can_be_done : FnScope ["event", "sends", "counts", "sent"] ["event", "sends", "counts"] (defScope s_can_be_done) := ⟨rfl, rfl, rfl, by decide +kernel, rfl, by decide +kernel, by decide +kernel⟩
section
variable {P : Program} {w : World} {K : PySem.W.Frag} {mg : Str → Option Value} {base : Heap}
noncomputable def inv_places_1 (H : L2.Hp) (a : PySem.Addr) (k : Cw.Kd) (d : PySem.Addr) (rs : Cw.Rows) : Nat → St → Hp → Prop := fun i σ H2 => Same H H2 ∧ (∃ v3 v4 v5 v6 v7, σ = [some (.ref a), some (.str k.str), some (.ref d), v3, v4, v5, v6, v7]) ∧ ∃ kvs, H2 d = some (.dK kvs) ∧ Paired (PlA H2) kvs (soFar k rs i 0)
noncomputable def inv_places_2 (H : L2.Hp) (a : PySem.Addr) (k : Cw.Kd) (d : PySem.Addr) (i : Nat) (p : PySem.Addr) (rs : Cw.Rows) : Nat → St → Hp → Prop := fun j σ H3 => Same H H3 ∧ (∃ v5 v6 v7, σ = [some (.ref a), some (.str k.str), some (.ref d), some (.int (i : Nat)), some (.ref p), v5, v6, v7]) ∧ ∃ kvs, H3 d = some (.dK kvs) ∧ Paired (PlA H3) kvs (soFar k rs i j)
theorem ok_places {f : Addr} {fd : FuncData} (F : Fun K "letter_places" "letter_places" s_letter_places f fd) (B : Bl mg) : FnOk P w K mg base CX0 1 f fd ["rows", "kind"] sp_places := by
 have sc := sc_letter_places
 refine F.ok sc (fun vs H Q E h => ?_) (fun cdv A outer s H vs Q E hr h => ?_)
 ·obtain ⟨a, ps, rs, k, rfl, _⟩ := h
  rfl
 ·obtain ⟨a, ps, rs, k, rfl, hR, hU, hB, q⟩ := h
  have hu := hu_of hr
  refine ⟨_, (pss_cons (ps_set (i := 2) sc.nd rfl (Or.inl rfl) pe_dnewK)
    (pss_cons (ps_for PassesOwn.never rfl (pi_enum rfl (B "enumerate" (by decide +kernel)) (pv 0)) (pg_tup rfl (pgs_cons (pg_name (i := 3) sc.nd rfl (Or.inl rfl)) (pgs_cons (pg_name (i := 4) sc.nd rfl (Or.inl rfl)) pgs_nil))) (pss_one (ps_for PassesOwn.never rfl (pi_enum rfl (B "enumerate" (by decide +kernel)) (pv 4)) (pg_tup rfl (pgs_cons (pg_name (i := 5) sc.nd rfl (Or.inl rfl)) (pgs_cons (pg_name (i := 6) sc.nd rfl (Or.inl rfl)) pgs_nil))) (pss_one (ps_if (pt_cmpR op_eq (pe_ix ix_tup (pv 6) pe_int (fun _ _ => rfl)) (pv 1) (nomark _)) (pss_cons (ps_set (i := 7) sc.nd rfl (Or.inl rfl) (pe_ix ix_tup (pv 6) pe_int (fun _ _ => rfl)))
    (pss_cons (ps_if (pt_cmp (pc_din hu (pv 7) (pv 2))) (pss_one ps_never) pss_nil)
    (pss_one (ps_dput hu (pv 2) (pv 7) (pe_tup (pa_cons (pv 3) (pa_cons (pv 5) pa_nil))) rfl)))) pss_nil)))))
    (pss_one (ps_ret (pv 2))))), ?_⟩
  intro d hd
  refine ⟨_, rfl, a, rfl, ⟨_, SqL.of ((Same.new hd) _ _ hR.top)⟩, for_enum (K := K) (a := a) (xs := ps.map V.ref) (inv_places_1 H a k d rs)
   ⟨Same.new hd, ⟨_, _, _, _, _, rfl⟩, [], upd_same, by rw [soFar_zero]; exact .nil⟩ (fun i σ H' _ ⟨s2, _⟩ => SqL.of (s2 _ _ hR.top)) ?_ ?_⟩
  ·rintro i y σ H2 pe hi ⟨s2, ⟨v3, v4, v5, v6, v7, rfl⟩, kvs, hk, hm⟩ hpe
   obtain ⟨p, hp, rfl⟩ := map_ref hi
   obtain ⟨r, hr', xs, hx, m⟩ := hR.get hp
   have s3 : Same H (L2.upd H2 pe (.tup [.int (i : Nat), .ref p])) := s2.trans (Same.new hpe)
   refine ⟨pe, _, rfl, SqT.of upd_same, rfl, _, _, rfl, _, _, rfl, rfl, ?_⟩
   refine ⟨_, rfl, p, rfl, ⟨_, SqL.of (s3 _ _ hx)⟩, for_enum (K := K) (a := p) (xs := xs) (inv_places_2 H a k d i p rs)
    ⟨s3, ⟨_, _, _, rfl⟩, kvs, by rw [upd_ne (ne_of_none hk hpe)]; exact hk, Paired.mapP hm fun x y z => z.keep (S := fun _ => False) (fun b o e _ => Same.new hpe b o e) (fun _ _ z => z.elim)⟩ (fun i σ H' _ ⟨s2, _⟩ => SqL.of (s2 _ _ hx)) ?_ ?_⟩
   ·rintro j z σ H3 pe3 hj ⟨s4, ⟨v5, v6, v7, rfl⟩, kvs, hk, hm⟩ hpe3
    obtain ⟨t, e, he, rfl, ht⟩ := ev_get m hj
    have s5 : Same H3 (L2.upd H3 pe3 (.tup [.int (j : Nat), .ref t])) := Same.new hpe3
    have ht5 := s5 _ _ (s4 _ _ ht)
    have hk5 := s5 _ _ hk
    refine ⟨pe3, _, rfl, SqT.of upd_same, rfl, _, _, rfl, _, _, rfl, rfl, ?_⟩
    refine ⟨_, rfl, t, _, 0, _, rfl, rfl, SqT.of ht5, rfl, _, rfl, rfl, _, rfl, ?_⟩
    have hm5 : Paired (PlA (L2.upd H3 pe3 (.tup [.int (j : Nat), .ref t]))) kvs (soFar k rs i j) := Paired.mapP hm fun x y z => z.keep (S := fun _ => False) (fun b o e _ => s5 b o e) (fun _ _ z => z.elim)
    refine ite2 (fun h1 => ?_) (fun h1 => ?_)
    ·have h1 : decide (V.str e.k.str = V.str k.str) = true := h1
     rw [kd_dec] at h1
     have h1 : e.k = k := of_decide_eq_true h1
     have hv : valV kvs (Sum.inl e.l : Key) = none := pl_none hm (soFar_new hU hr' he h1)
     refine ⟨_, rfl, t, _, 1, _, rfl, rfl, SqT.of ht5, rfl, ?_⟩
     refine ⟨_, rfl, _, rfl, d, _, rfl, DGet.k (k := Sum.inl e.l) hk5, _, rfl, ?_⟩
     rw [hv]
     refine iteF ?_
     refine ⟨_, rfl, _, rfl, (by show 2 ≤ sizeLine; decide), fun t2 ht2 => ?_⟩
     have s6 := Same.new (o := .tup [.int (i : Nat), .int (j : Nat)]) ht2
     have hk6 := s6 _ _ hk5
     refine ⟨_, rfl, _, rfl, d, _, rfl, DPut.k (k := Sum.inl e.l) hk6 (small1000 (by have := Paired.length hm; have := soFar_len (k := k) hB i j; lia)), ?_⟩
     have nd : ∀ b o, H b = some o → b ≠ d := fun b o z => ne_of_none z hd
     refine ⟨fun b o z => ?_, ⟨_, _, _, rfl⟩, _, upd_same, ?_⟩
     ·rw [upd_ne (nd b o z)]
      exact s6 _ _ (s5 _ _ (s4 _ _ z))
     ·rw [soFar_ev hr' he, if_pos h1, putK_new _ hv]
      have kd : Kept (fun b => b = d) (L2.upd (L2.upd H3 pe3 (.tup [.int (j : Nat), .ref t])) t2 (.tup [.int (i : Nat), .int (j : Nat)])) (L2.upd (L2.upd (L2.upd H3 pe3 (.tup [.int (j : Nat), .ref t])) t2 (.tup [.int (i : Nat), .int (j : Nat)])) d (.dK (kvs ++ [(Sum.inl e.l, .ref t2)]))) := Kept.upd rfl
      have nt : NoTup (fun b => b = d) (L2.upd (L2.upd H3 pe3 (.tup [.int (j : Nat), .ref t])) t2 (.tup [.int (i : Nat), .int (j : Nat)])) := fun b xs hb z => by rw [hb, hk6] at z; cases z
      refine Paired.snoc (Paired.mapP hm5 fun x y z => (z.keep (S := fun _ => False) (fun b o e _ => s6 b o e) (fun _ _ z => z.elim)).keep kd nt) ⟨rfl, t2, rfl, ?_⟩
      rw [upd_ne (by rintro rfl; rw [hk5] at ht2; cases ht2), upd_same]
    ·refine ⟨s4.trans s5, ⟨_, _, _, rfl⟩, kvs, hk5, ?_⟩
     rw [soFar_ev hr' he, if_neg (fun z => h1 (by show decide (V.str e.k.str = V.str k.str) = true; rw [kd_dec, decide_eq_true z])), List.append_nil]
     exact hm5
   ·rintro σ H3 ⟨s4, ⟨v5, v6, v7, rfl⟩, kvs, hk, hm⟩
    refine ⟨s4, ⟨_, _, _, _, _, rfl⟩, kvs, hk, ?_⟩
    rw [Paired.length m, soFar_row hr'] at hm
    exact hm
  ·rintro σ H2 ⟨s2, ⟨v3, v4, v5, v6, v7, rfl⟩, kvs, hk, hm⟩
   rw [List.length_map, hR.len, soFar_all] at hm
   exact ⟨_, rfl, q d kvs H2 s2 hd hk hm⟩
noncomputable def inv_check_1 (H : L2.Hp) (td : PySem.Addr) (o : PySem.Obj) (tkvs : List (L2.Key × L2.V)) (sd : PySem.Addr) : Nat → St → Hp → Prop := fun i σ H2 => H2 = L2.upd H td (.frz o (.dK tkvs)) ∧ ∃ v, σ = [some (.ref sd), some (.ref td), v]
theorem ok_check {f : Addr} {fd : FuncData} (F : Fun K "check_sent" "check_sent" s_check_sent f fd) (B : Bl mg) : FnOk P w K mg base CX0 1 f fd ["sends", "takes"] sp_check := by
 have sc := sc_check_sent
 refine F.ok sc (fun vs H Q E h => ?_) (fun cdv A outer s H vs Q E hr h => ?_)
 ·obtain ⟨sd, td, skvs, tkvs, rfl, _⟩ := h
  rfl
 ·obtain ⟨sd, td, skvs, tkvs, rfl, hs, ht, hne, hall, q⟩ := h
  have hu := hu_of hr
  refine ⟨_, (pss_one (ps_for PassesOwn.never rfl (pi_dkeys (pv 1)) (pg_name (i := 2) sc.nd rfl (Or.inl rfl)) (pss_one (ps_if (pt_cmp (pc_dnotin hu (pv 2) (pv 0))) (pss_one ps_never) pss_nil)))), ?_⟩
  refine ⟨_, rfl, td, tkvs, rfl, ht, fun o => for_dkeys (inv_check_1 H td o tkvs sd) ⟨rfl, _, rfl⟩ (fun i σ H2 _ ⟨e, _⟩ => by rw [e]; exact upd_same) ?_ ?_⟩
  ·rintro i p σ H2 hi ⟨rfl, v, rfl⟩
   refine ⟨_, rfl, _, rfl, sd, _, rfl, DGet.k (k := p.1) (by rw [upd_ne hne]; exact hs), _, rfl, ?_⟩
   rw [hall p (List.mem_of_getElem? hi)]
   exact iteF ⟨rfl, _, rfl⟩
  ·rintro σ H2 ⟨rfl, v, rfl⟩
   exact q o
theorem ok_canS {f : Addr} {fd : FuncData} (F : Fun K "can_be_done" "can_be_done" s_can_be_done f fd) (B : Bl mg) : FnOk P w K mg base CX0 1 f fd ["event", "sends", "counts"] (sp_canS K) := by
 have sc := sc_can_be_done
 refine F.ok sc (fun vs H Q E h => ?_) (fun cdv A outer s H vs Q E hr h => ?_)
 ·obtain ⟨t, sd, c, e, ns, rs, rfl, _⟩ := h
  rfl
 ·obtain ⟨t, sd, c, e, ns, rs, rfl, ht, ⟨kvs, hd, hm⟩, hc, hl, hU, hs, q⟩ := h
  have hu := hu_of hr
  refine ⟨_, (pss_cons (ps_if (pt_cmpR op_ne (pe_ix ix_tup (pv 0) pe_int (fun _ _ => rfl)) pe_str (nomark _)) (pss_one (ps_ret pe_bl)) pss_nil)
    (pss_cons (ps_set (i := 3) sc.nd rfl (Or.inl rfl) (pe_dget hu (pv 1) (pe_ix ix_tup (pv 0) pe_int (fun _ _ => rfl)) (fun _ _ => rfl)))
    (pss_one (ps_ret (pe_cmpR op_lt (pe_ix ix_tup (pv 3) pe_int (fun _ _ => rfl)) (pe_ix ix_two (pv 2) (pe_ix ix_tup (pv 3) pe_int (fun _ _ => rfl)) (fun _ _ => rfl)) (nomark _)))))), ?_⟩
  refine ⟨_, rfl, t, _, 0, _, rfl, rfl, SqT.of ht, rfl, rfl, _, rfl, ?_⟩
  refine ite2 (fun h1 => ?_) (fun h1 => ?_)
  ·have h1 : (!decide (V.str e.k.str = V.str Kd.take.str)) = true := h1
   rw [kd_dec] at h1
   have h1 : ¬ e.k = .take := by simpa using h1
   exact q true ⟨fun _ z => absurd z h1, fun _ => rfl⟩
  ·have h1 : ¬ (!decide (V.str e.k.str = V.str Kd.take.str)) = true := h1
   rw [kd_dec] at h1
   have h1 : e.k = .take := by simpa using h1
   obtain ⟨h', p', e', ha, hk', hl'⟩ := hs h1
   obtain ⟨t2, hv, ht2⟩ := pl_some hm (places_nodup hU) (mem_places.mpr ⟨e', ha, hk', hl'⟩)
   have hlt : h' < ns.length := by
    obtain ⟨r, hr', _⟩ := at_some ha
    rw [hl]
    exact (List.getElem?_eq_some_iff.mp hr').1
   have hni : ns[h']? = some (ns[h']'hlt) := List.getElem?_eq_getElem hlt
   generalize ns[h']'hlt = n at hni
   refine ⟨_, rfl, _, rfl, t, _, 1, _, rfl, rfl, SqT.of ht, rfl, sd, _, rfl, .inl ⟨kvs, .inl e.l, hd, rfl, hv.symm⟩, ?_⟩
   refine ⟨_, rfl, t2, _, 1, _, rfl, rfl, SqT.of ht2, rfl, _, rfl, _, rfl, t2, _, 0, _, rfl, rfl, SqT.of ht2, rfl, c, _, _, _, rfl, rfl, hc, ints_at hni, _, _, rfl, rfl, ?_⟩
   refine q _ ⟨fun z _ => ?_, fun z => ?_⟩
   ·have z : ((p' : Nat) : Int) < n := of_decide_eq_true z
    exact ⟨h', p', n, e', ha, hk', hl', hni, z⟩
   ·obtain ⟨h2, p2, n2, e2, ha2, hk2, hl2, hc2, hp2⟩ := z h1
    obtain ⟨z1, z2⟩ := hU h2 p2 h' p' e2 e' ha2 ha hk2 hk' (by rw [hl2, hl'])
    subst z1; subst z2
    rw [hni] at hc2
    cases hc2
    exact decide_eq_true hp2
theorem ok_can {f : Addr} {fd : FuncData} (F : Fun K "can_be_done" "can_be_done" s_can_be_done f fd) (B : Bl mg) : FnOk P w K mg base CX0 1 f fd ["event", "sends", "counts"] sp_can := (ok_canS F B).imp fun _ _ _ _ h => can_of_canS h
end
noncomputable abbrev s_counts_done : Stmt := top 10
theorem sc_counts_done : FnScope ["rows", "sends", "counts", "moved", "hand", "row"] ["rows", "sends"] (defScope s_counts_done) := ⟨rfl, rfl, rfl, by decide +kernel, rfl, by decide +kernel, by decide +kernel⟩
noncomputable abbrev s_find_ring : Stmt := top 9
theorem sc_find_ring : FnScope ["rows", "sends", "counts", "hand", "row"] ["rows", "sends"] (defScope s_find_ring) := ⟨rfl, rfl, rfl, by decide +kernel, rfl, by decide +kernel, by decide +kernel⟩
section
variable {P : Program} {w : World} {K : PySem.W.Frag} {mg : Str → Option Value} {base : Heap}
noncomputable def inv_done_1 (H : L2.Hp) (c : PySem.Addr) : Nat → St → List V → Hp → Prop := fun i σ ys H2 => ∃ v, σ = [v] ∧ ys = List.replicate i (.int 0) ∧ Same H H2 ∧ H2 c = some (.lst ys)
noncomputable def inv_done_2 (a : PySem.Addr) (sd : PySem.Addr) (c : PySem.Addr) (H : L2.Hp) (rs : Cw.Rows) (cs : List Nat) : Nat → St → Hp → Prop := fun i σ H3 => ∃ cs2 mv v4 v5, σ = [some (.ref a), some (.ref sd), some (.ref c), some (.bl mv), v4, v5] ∧ DoneI H H3 c cs2 rs ∧ (mv = false → cs2 = cs ∧ ∀ h, h < i → StuckAt rs cs h) ∧ (mv = true → cs.sum < cs2.sum)
theorem ok_done {f : Addr} {fd : FuncData} (F : Fun K "counts_done" "counts_done" s_counts_done f fd) (B : Bl mg) (D_can_be_done : Df P w K mg base 1 "can_be_done" ["event", "sends", "counts"] sp_can) : FnOk P w K mg base CX0 2 f fd ["rows", "sends"] sp_done := by
 have sc := sc_counts_done
 refine F.ok sc (fun vs H Q E h => ?_) (fun cdv A outer s H vs Q E hr h => ?_)
 ·obtain ⟨a, sd, ps, rs, rfl, _⟩ := h
  rfl
 ·obtain ⟨a, sd, ps, rs, rfl, hR, hS, hU, hT, hz, q⟩ := h
  have hu := hu_of hr
  have hSk : ∀ H2, Same H H2 → SendsA H2 sd rs := fun H2 s2 => by
   obtain ⟨kvs, rd, m⟩ := hS
   refine ⟨kvs, ?_, Paired.mapP m fun x y z => z.keep (S := fun _ => False) (fun b o e _ => s2 b o e) (fun _ _ z => z.elim)⟩
   rcases rd with rd | ⟨o, rd⟩
   ·exact .inl (s2 _ _ rd)
   ·exact .inr ⟨o, s2 _ _ rd⟩
  refine ⟨_, (pss_cons (ps_setLC (i := 2) sc.nd rfl (Or.inl rfl) (te := (tC (.int 0))) (tt := tTrue) (Blk.plain (ts := ["row"]) (by decide +kernel) (by decide +kernel) rfl (by decide +kernel)) rfl (pi_list (pv 0)) (fun _ _ _ _ => (pg_name (i := 0) (show List.Nodup (["row"] : List Str) by decide +kernel) rfl (Or.inl rfl))) (fun _ _ _ _ => pifs_nil) (fun _ _ _ _ => pe_int))
    (pss_cons (ps_set (i := 3) sc.nd rfl (Or.inl rfl) pe_bl)
    (pss_cons (ps_while PassesOwn.never (pt_val (pv 3)) (pss_cons (ps_set (i := 3) sc.nd rfl (Or.inl rfl) pe_bl)
    (pss_one (ps_for PassesOwn.never rfl (pi_enum rfl (B "enumerate" (by decide +kernel)) (pv 0)) (pg_tup rfl (pgs_cons (pg_name (i := 4) sc.nd rfl (Or.inl rfl)) (pgs_cons (pg_name (i := 5) sc.nd rfl (Or.inl rfl)) pgs_nil))) (pss_one (ps_while PassesOwn.never ((pw_and (pt_cmpR op_lt (pe_ix ix_list (pv 2) (pv 4) (fun _ _ => rfl)) (pe_callB call_len_seqI (by rfl) (B "len" (by decide +kernel)) bt_len (pa_cons (pv 5) pa_nil)) (nomark _)) (pw_and1 (pt_val (pe_df D_can_be_done (hr.mono (by decide)) (pa_cons (pe_ix ix_list (pv 5) (pe_ix ix_list (pv 2) (pv 4) (fun _ _ => rfl)) (fun _ _ => rfl)) (pa_cons (pv 1) (pa_cons (pv 2) pa_nil)))))))).pt (pss_cons (ps_augS (pv 2) (pv 4) get_list pe_int ip_add set_list)
    (pss_one (ps_set (i := 3) sc.nd rfl (Or.inl rfl) pe_bl)))))))))
    (pss_one (ps_ret (pv 2)))))), ?_⟩
  refine ⟨_, rfl, a, rfl, ⟨_, SqL.of hR.top⟩, fun c hc => lc_list (K := K) (a := a) (xs := ps.map V.ref) (inv_done_1 H c)
   ⟨_, rfl, rfl, Same.new hc, upd_same⟩ (fun i σ ys H2 _ ⟨v, _, _, s2, _⟩ => SqL.of (s2 _ _ hR.top)) ?_ ?_⟩
  ·rintro i y σ ys H2 hi ⟨v, rfl, rfl, s2, hD2⟩
   have hi' := (List.getElem?_eq_some_iff.mp hi).1
   rw [List.length_map, hR.len] at hi'
   refine ⟨hD2, small1000 (by rw [List.length_replicate]; lia), _, rfl, by rw [List.replicate_succ'], fun b o z => ?_, upd_same⟩
   rw [upd_ne (ne_of_none z hc)]
   exact s2 b o z
  ·rintro σ ys H2 ⟨v, rfl, rfl, s2, hD2⟩
   have d0 : DoneI H H2 c (rs.map fun _ => 0) rs := by
    refine ⟨s2, ?_, .zero⟩
    rw [hD2, List.length_map, hR.len]
    unfold csV
    congr 2
    rw [List.map_map]
    exact (List.map_const' (l := rs) (b := V.int 0)).symm
   clear hD2 s2
   -- moved = True; while moved
   refine ⟨fun m σ H2 => ∃ cs mv v4 v5, σ = [some (.ref a), some (.ref sd), some (.ref c), some (.bl mv), v4, v5] ∧ DoneI H H2 c cs rs ∧ (mv = false → Stuck rs cs) ∧ m = if mv = true then 1 + ((rs.map List.length).sum - cs.sum) else 0,
    ⟨_, _, true, _, _, rfl, d0, fun z => (nomatch z), rfl⟩, ?_⟩
   rintro m σ H2 ⟨cs, mv, v4, v5, rfl, d, hst, rfl⟩
   refine ⟨_, rfl, mv, rfl, ?_⟩
   cases mv with
   | false =>
    refine iteF ?_
    exact ⟨_, rfl, q c cs H2 d.same hc d.hc d.rc (hst rfl)⟩
   | true =>
    refine iteT ?_
    clear hst
    refine ⟨fun σ H3 => ∃ cs2 mv v4 v5, σ = [some (.ref a), some (.ref sd), some (.ref c), some (.bl mv), v4, v5] ∧ DoneI H H3 c cs2 rs ∧ (mv = false → Stuck rs cs2) ∧ (mv = true → cs.sum < cs2.sum), ?_, ?_⟩
    ·rintro σ H3 ⟨cs2, mv, v4, v5, rfl, d2, h1, h2⟩
     refine ⟨_, ?_, cs2, mv, v4, v5, rfl, d2, h1, rfl⟩
     cases mv with
     | false => rw [if_neg Bool.false_ne_true, if_pos rfl]; lia
     | true =>
      rw [if_pos rfl, if_pos rfl]
      have := h2 rfl
      have := d2.rc.sum
      lia
    -- for hand, row in enumerate(rows)
    refine ⟨_, rfl, a, rfl, ⟨_, SqL.of (d.same _ _ hR.top)⟩, for_enum (K := K) (a := a) (xs := ps.map V.ref) (inv_done_2 a sd c H rs cs)
     ⟨cs, false, _, _, rfl, d, fun _ => ⟨rfl, fun h z => absurd z (Nat.not_lt_zero _)⟩, fun z => (nomatch z)⟩ (fun i σ H3 _ ⟨_, _, _, _, _, d3, _⟩ => SqL.of (d3.same _ _ hR.top)) ?_ ?_⟩
    ·rintro i y σ H3 pe hi ⟨cs2, mv, v4, v5, rfl, d3, h1, h2⟩ hpe
     obtain ⟨p, hp, rfl⟩ := map_ref hi
     obtain ⟨r, hr', xs, hx, m⟩ := hR.get hp
     refine ⟨pe, _, rfl, SqT.of upd_same, rfl, _, _, rfl, _, _, rfl, rfl, ?_⟩
     -- while counts[hand] < len(row) and can_be_done(..)
     refine ⟨fun m σ H4 => ∃ cs3 mv, σ = [some (.ref a), some (.ref sd), some (.ref c), some (.bl mv), some (.int (i : Nat)), some (.ref p)] ∧ DoneI H H4 c cs3 rs ∧ (mv = false → cs3 = cs ∧ ∀ h, h < i → StuckAt rs cs h) ∧ (mv = true → cs.sum < cs3.sum) ∧ cs.sum ≤ cs3.sum ∧ m = (rs.map List.length).sum - cs3.sum,
      ⟨_, cs2, mv, rfl, d3.new hpe, h1, h2, ?_, rfl⟩, ?_⟩
     ·cases mv with
      | false => rw [(h1 rfl).1]; exact Nat.le_refl _
      | true => exact Nat.le_of_lt (h2 rfl)
     clear h1 h2 d3
     rintro m2 σ H4 ⟨cs3, mv, rfl, d4, h1, h2, h3, rfl⟩
     have hil : i < cs3.length := by rw [d4.rc.len]; exact (List.getElem?_eq_some_iff.mp hr').1
     have hci : cs3[i]? = some cs3[i] := List.getElem?_eq_getElem hil
     have hx4 := d4.same _ _ hx
     have hle := d4.rc.le i _ r hci hr'
     have hxl : xs.length = r.length := Paired.length m
     -- what the for wants behind
     have out : StuckAt rs cs3 i → (∃ cs2 mv_1 v4 v5, [some (V.ref a), some (.ref sd), some (.ref c), some (.bl mv), some (.int (i : Nat)), some (.ref p)] = [some (.ref a), some (.ref sd), some (.ref c), some (.bl mv_1), v4, v5] ∧ DoneI H H4 c cs2 rs ∧ (mv_1 = false → cs2 = cs ∧ ∀ h, h < i + 1 → StuckAt rs cs h) ∧ (mv_1 = true → cs.sum < cs2.sum)) := fun st =>
      ⟨cs3, mv, _, _, rfl, d4, fun z => ⟨(h1 z).1, fun h hh => by
       by_cases e : h = i
       ·rw [e, ← (h1 z).1]; exact st
       ·exact (h1 z).2 h (by lia)⟩, h2⟩
     refine ⟨_, rfl, _, rfl, c, _, _, _, rfl, rfl, SqL.of d4.hc, csV_get hci, _, rfl, p, xs, rfl, .inl (SqL.of hx4), _, _, rfl, rfl, _, rfl, ?_⟩
     refine ite2 (fun hlt => ?_) (fun hlt => ?_)
     ·have hlt : ((cs3[i] : Nat) : Int) < ((xs.length : Nat) : Int) := of_decide_eq_true hlt
      have hlr : cs3[i] < r.length := by lia
      have her : r[cs3[i]]? = some r[cs3[i]] := List.getElem?_eq_getElem hlr
      have hat : at? rs i cs3[i] = some r[cs3[i]] := by rw [at_row hr']; exact her
      obtain ⟨x, hxx, t, rfl, ht⟩ := Paired.getR m her
      refine ⟨_, rfl, _, rfl, _, rfl, c, _, _, _, rfl, rfl, SqL.of d4.hc, csV_get hci, p, xs, _, .ref t, rfl, rfl, SqL.of hx4, atI_nat hxx, _, rfl, _, rfl, ?_⟩
      refine ⟨t, sd, c, _, cs3, rs, rfl, d4.same _ _ ht, hSk _ d4.same, d4.hc, d4.rc.len, hU, fun hk => hT i _ _ hat hk, fun b hb => ⟨b, rfl, ?_⟩⟩
      cases b with
      | false =>
       refine iteF ?_
       refine out fun c' e' hc' he' fr => ?_
       rw [hci] at hc'; cases hc'
       rw [hat] at he'; cases he'
       exact absurd (hb.mpr fr) Bool.false_ne_true
      | true =>
       refine iteT ?_
       refine ⟨_, fun σ' H' z => z, ?_⟩
       refine ⟨_, rfl, _, rfl, c, _, _, _, rfl, rfl, SqL.of d4.hc, Int.natCast_nonneg _, csV_get hci, _, _, rfl, rfl, c, _, _, i, rfl, rfl, d4.hc, ixN_nat (by unfold csV; rw [List.length_map]; exact hil), ?_⟩
       have fr := hb.mp rfl
       have d5 := d4.step hc hci hat fr
       have es := sum_set hci
       have hs5 := d5.rc.sum
       exact ⟨_, by lia, _, true, rfl, d5, fun z => (nomatch z), fun _ => by lia, by lia, rfl⟩
     ·refine iteF ?_
      refine out fun c' e' hc' he' fr => ?_
      rw [hci] at hc'; cases hc'
      rw [at_row hr'] at he'
      have := (List.getElem?_eq_some_iff.mp he').1
      exact hlt (decide_eq_true (by show ((cs3[i] : Nat) : Int) < ((xs.length : Nat) : Int); lia))
    ·rintro σ H3 ⟨cs2, mv, v4, v5, rfl, d3, h1, h2⟩
     refine ⟨cs2, mv, v4, v5, rfl, d3, fun z => ?_, h2⟩
     obtain ⟨e, st⟩ := h1 z
     subst e
     intro h c' e' hc' he'
     refine st h ?_ c' e' hc' he'
     rw [List.length_map, hR.len, ← d3.rc.len]
     exact (List.getElem?_eq_some_iff.mp hc').1
noncomputable def inv_noring_1 (H1 : L2.Hp) (a : PySem.Addr) (sd : PySem.Addr) (c : PySem.Addr) : Nat → St → Hp → Prop := fun i σ H3 => Same H1 H3 ∧ ∃ v4 v5, σ = [some (.ref a), some (.ref sd), some (.ref c), v4, v5]
theorem ok_noring {f : Addr} {fd : FuncData} (F : Fun K "find_ring" "find_ring" s_find_ring f fd) (B : Bl mg) (D_counts_done : Df P w K mg base 2 "counts_done" ["rows", "sends"] sp_done) : FnOk P w K mg base CX0 3 f fd ["rows", "sends"] sp_noring := by
 have sc := sc_find_ring
 refine F.ok sc (fun vs H Q E h => ?_) (fun cdv A outer s H vs Q E hr h => ?_)
 ·obtain ⟨a, sd, ps, rs, rfl, _⟩ := h
  rfl
 ·obtain ⟨a, sd, ps, rs, rfl, hR, hS, hV, q⟩ := h
  refine ⟨_, (pss_cons (ps_set (i := 2) sc.nd rfl (Or.inl rfl) (pe_df D_counts_done (hr.mono (by decide)) (pa_cons (pv 0) (pa_cons (pv 1) pa_nil))))
    (pss_cons (ps_for PassesOwn.never rfl (pi_enum rfl (B "enumerate" (by decide +kernel)) (pv 0)) (pg_tup rfl (pgs_cons (pg_name (i := 3) sc.nd rfl (Or.inl rfl)) (pgs_cons (pg_name (i := 4) sc.nd rfl (Or.inl rfl)) pgs_nil))) (pss_one (ps_if (pt_cmpR op_lt (pe_ix ix_list (pv 2) (pv 3) (fun _ _ => rfl)) (pe_callB call_len_seqI (by rfl) (B "len" (by decide +kernel)) bt_len (pa_cons (pv 4) pa_nil)) (nomark _)) (pss_one ps_never) pss_nil)))
    (pss_one (ps_ret pe_non)))), ?_⟩
  refine ⟨_, rfl, _, rfl, a, sd, ps, rs, rfl, hR, hS, hV.us, hV.sent, by have := hV.bnd.hi; lia, fun c cs H1 s1 hc0 hc rc st => ?_⟩
  obtain ⟨rk, o⟩ := hV.ord
  have ecs := st.done rc o
  refine ⟨_, rfl, a, rfl, ⟨_, SqL.of (s1 _ _ hR.top)⟩, for_enum (K := K) (a := a) (xs := ps.map V.ref) (inv_noring_1 H1 a sd c)
   ⟨Same.refl _, _, _, rfl⟩ (fun i σ H3 _ ⟨s3, _⟩ => SqL.of (s3 _ _ (s1 _ _ hR.top))) ?_ ?_⟩
  ·rintro i y σ H3 pe hi ⟨s3, v4, v5, rfl⟩ hpe
   obtain ⟨p, hp, rfl⟩ := map_ref hi
   obtain ⟨r, hr', xs, hx, m⟩ := hR.get hp
   have s4 := s3.trans (Same.new (o := .tup [.int (i : Nat), .ref p]) hpe)
   have hci : cs[i]? = some r.length := by rw [ecs, List.getElem?_map, hr']; rfl
   refine ⟨pe, _, rfl, SqT.of upd_same, rfl, _, _, rfl, _, _, rfl, rfl, ?_⟩
   refine ⟨_, rfl, _, rfl, c, _, _, _, rfl, rfl, SqL.of (s4 _ _ hc), csV_get hci, _, rfl, p, xs, rfl, .inl (SqL.of (s4 _ _ (s1 _ _ hx))), _, _, rfl, rfl, _, rfl, ?_⟩
   refine ite2 (fun hlt => ?_) (fun hlt => ?_)
   ·have hlt : ((r.length : Nat) : Int) < ((xs.length : Nat) : Int) := of_decide_eq_true hlt
    have := Paired.length m
    lia
   ·exact ⟨s4, _, _, rfl⟩
  ·rintro σ H3 ⟨s3, v4, v5, rfl⟩
   exact q H3 (s1.trans s3)
end
noncomputable abbrev s_Record_init : Stmt := inClass (top 6) 0
theorem sc_Record_init : FnScope ["self", "rows", "ring"] ["self", "rows"] (defScope s_Record_init) := ⟨rfl, rfl, rfl, by decide +kernel, rfl, by decide +kernel, by decide +kernel⟩
noncomputable abbrev s_Record_end : Stmt := inClass (top 6) 2
theorem sc_Record_end : FnScope ["self"] ["self"] (defScope s_Record_end) := ⟨rfl, rfl, rfl, by decide +kernel, rfl, by decide +kernel, by decide +kernel⟩
section
variable {P : Program} {w : World} {K : PySem.W.Frag} {mg : Str → Option Value} {base : Heap}
noncomputable def inv_init_1 (H : L2.Hp) (D : PySem.Addr) (rs : Cw.Rows) : Nat → St → List V → Hp → Prop := fun i σ ys H2 => ∃ (qs : List Addr) (v : Option V), σ = [v] ∧ ys = qs.map V.ref ∧ Same H H2 ∧ H2 D = some (.lst (qs.map V.ref)) ∧ Paired (RowA H2) qs (rs.take i) ∧ (∀ q ∈ qs, H q = none) ∧ qs.Nodup ∧ D ∉ qs
theorem ok_init {f C : Addr} {fd : FuncData} (F : Fun K "__init__" "Record.__init__" s_Record_init f fd) (B : Bl mg) (R : RecC K C) (D_letter_places : Df P w K mg base 1 "letter_places" ["rows", "kind"] sp_places) (D_check_sent : Df P w K mg base 1 "check_sent" ["sends", "takes"] sp_check)
  (D_find_ring : Df P w K mg base 3 "find_ring" ["rows", "sends"] sp_noring) : FnOk P w K mg base CX0 4 f fd ["self", "rows"] (sp_init C) := by
 have sc := sc_Record_init
 refine F.ok sc (fun vs H Q E h => ?_) (fun cdv A outer s H vs Q E hr h => ?_)
 ·obtain ⟨x, dx, a, ps, rs, rfl, _⟩ := h
  rfl
 ·obtain ⟨x, dx, a, ps, rs, rfl, hX, hR, hV, q⟩ := h
  refine ⟨_, (pss_cons (ps_fld (pv 0) (pe_lc (te := (tCB (rListOf K) (tCons (tVar 0) tNil))) (tt := tTrue) (Blk.plain (ts := ["row"]) (by decide +kernel) (by decide +kernel) rfl (by decide +kernel)) rfl (pi_list (pv 1)) (fun _ _ _ _ => (pg_name (i := 0) (show List.Nodup (["row"] : List Str) by decide +kernel) rfl (Or.inl rfl))) (fun _ _ _ _ => pifs_nil) (fun _ _ _ _ => (pe_callTy call_list_ofI (by rfl) (B "list" (by decide +kernel)) bt_list (pa_cons (pv 0) pa_nil)))) rfl)
    (pss_cons (ps_fld (pv 0) (pe_df D_letter_places (hr.mono (by decide)) (pa_cons (pe_fld (pv 0) rfl) (pa_cons pe_str pa_nil))) rfl)
    (pss_cons (ps_fld (pv 0) (pe_df D_letter_places (hr.mono (by decide)) (pa_cons (pe_fld (pv 0) rfl) (pa_cons pe_str pa_nil))) rfl)
    (pss_cons (ps_expr (pe_df D_check_sent (hr.mono (by decide)) (pa_cons (pe_fld (pv 0) rfl) (pa_cons (pe_fld (pv 0) rfl) pa_nil))))
    (pss_cons (ps_set (i := 2) sc.nd rfl (Or.inl rfl) (pe_df D_find_ring (hr.mono (by decide)) (pa_cons (pe_fld (pv 0) rfl) (pa_cons (pe_fld (pv 0) rfl) pa_nil))))
    (pss_one (ps_if (pt_cmpR op_notN (pv 2) pe_non (nomark _)) (pss_one ps_never) pss_nil))))))), ?_⟩
  refine ⟨_, rfl, a, rfl, ⟨_, SqL.of hR.top⟩, fun D hD => lc_list (K := K) (a := a) (xs := ps.map V.ref) (inv_init_1 H D rs)
   ⟨[], _, rfl, rfl, Same.new hD, upd_same, .nil, fun q hq => (nomatch hq), List.nodup_nil, fun z => (nomatch z)⟩ (fun i σ ys H2 _ ⟨qs, v, _, _, s2, _⟩ => SqL.of (s2 _ _ hR.top)) ?_ ?_⟩
  ·rintro i y σ ys H2 hi ⟨qs, v, rfl, rfl, s2, hD2, hq, hn, nd, nD⟩
   obtain ⟨p, hp, rfl⟩ := map_ref hi
   obtain ⟨r, hr', xs, hx, m⟩ := hR.get hp
   refine ⟨_, rfl, p, xs, rfl, .inl (SqL.of (s2 _ _ hx)), fun l hl => ?_⟩
   obtain ⟨c1, c2, c3, c4, c5, c6⟩ := copy_step s2 hD hD2 hq hn nd nD hr' m hl
   refine ⟨by rw [upd_ne (by rintro rfl; rw [hl] at hD2; cases hD2)]; exact hD2, ?_, qs ++ [l], _, rfl, by simp, ?_⟩
   ·have e := Paired.length hq
    have := hV.bnd.hi
    rw [List.length_map, e, List.length_take]
    exact small1000 (by lia)
   ·rw [List.map_append] at c1 c2 c3 ⊢
    exact ⟨c1, c2, c3, c4, c5, c6⟩
  ·rintro σ ys H2 ⟨qs, v, rfl, rfl, s2, hD2, hq, hn, nd, nD⟩
   have e : rs.take (ps.map V.ref).length = rs := by rw [List.length_map, hR.len, List.take_length]
   rw [e] at hq
   have hX2 := s2 _ _ hX
   have xD : x ≠ D := ne_of_none hX hD
   have xq : ∀ q ∈ qs, ¬ q = x := fun q hq' z => by
    have := hn q hq'
    rw [z, hX] at this
    cases this
   refine ⟨_, rfl, x, C, dx, [], rfl, hX2, R.cl, R.nR, (by show 0 < 1000; decide), ?_⟩
   rw [put1]
   have nx2 : NoTup (fun b => b = x) H2 := fun b xs hb z => by rw [hb, hX2] at z; cases z
   have R2 : RowsA H2 D qs rs := ⟨hD2, hq⟩
   have k3 : Kept (fun b => b = x) H2 (L2.upd H2 x (.ins C dx [(("rows" : Str), V.ref D)])) := Kept.upd rfl
   have R3 := R2.keep k3 nx2 (fun z => xD z.symm) xq
   generalize hG : L2.upd H2 x (.ins C dx [(("rows" : Str), V.ref D)]) = H3 at k3 R3
   have hX3 : H3 x = some (.ins C dx [(("rows" : Str), V.ref D)]) := by rw [← hG]; exact upd_same
   have K3 : Kept (fun b => b = x) H H3 := (Same.kept s2).trans k3
   -- self.sends
   refine ⟨_, rfl, x, C, dx, _, _, rfl, hX3, R.cl, R.nR, lk_one, D, qs, rs, .send, rfl, R3, hV.us, hV.bnd, fun sd skvs H4 s4 hsd0 hsd hsm => ?_⟩
   have hX4 := s4 _ _ hX3
   have xsd : x ≠ sd := ne_of_none hX3 hsd0
   refine ⟨_, rfl, x, C, dx, _, rfl, hX4, R.cl, R.nS, (by show 1 < 1000; decide), ?_⟩
   rw [put2]
   have nx4 : NoTup (fun b => b = x) H4 := fun b xs hb z => by rw [hb, hX4] at z; cases z
   have k5 : Kept (fun b => b = x) H4 (L2.upd H4 x (.ins C dx [(("rows" : Str), V.ref D), (("sends" : Str), V.ref sd)])) := Kept.upd rfl
   have R5 := (R3.same s4).keep k5 nx4 (fun z => xD z.symm) xq
   have hsd5 : L2.upd H4 x (.ins C dx [(("rows" : Str), V.ref D), (("sends" : Str), V.ref sd)]) sd = some (.dK skvs) := by rw [upd_ne (Ne.symm xsd)]; exact hsd
   have hsm5 := Paired.mapP hsm fun x y z => z.keep k5 nx4
   generalize hG5 : L2.upd H4 x (.ins C dx [(("rows" : Str), V.ref D), (("sends" : Str), V.ref sd)]) = H5 at k5 R5 hsd5 hsm5
   have hX5 : H5 x = some (.ins C dx [(("rows" : Str), V.ref D), (("sends" : Str), V.ref sd)]) := by rw [← hG5]; exact upd_same
   have K5 : Kept (fun b => b = x) H H5 := (K3.trans (Same.kept s4)).trans k5
   have sd0 : H sd = none := by
    cases z : H sd with
    | none => rfl
    | some o =>
     have := K3 _ _ z (Ne.symm xsd)
     rw [hsd0] at this
     cases this
   -- self.takes
   refine ⟨_, rfl, x, C, dx, _, _, rfl, hX5, R.cl, R.nR, lk_one, D, qs, rs, .take, rfl, R5, hV.ut, hV.bnd, fun td tkvs H6 s6 htd0 htd htm => ?_⟩
   have hX6 := s6 _ _ hX5
   have xtd : x ≠ td := ne_of_none hX5 htd0
   refine ⟨_, rfl, x, C, dx, _, rfl, hX6, R.cl, R.nT, (by show 2 < 1000; decide), ?_⟩
   rw [put3]
   have nx6 : NoTup (fun b => b = x) H6 := fun b xs hb z => by rw [hb, hX6] at z; cases z
   have k7 : Kept (fun b => b = x) H6 (L2.upd H6 x (.ins C dx (recF D sd td))) := Kept.upd rfl
   have R7 := (R5.same s6).keep k7 nx6 (fun z => xD z.symm) xq
   have hsd7 : L2.upd H6 x (.ins C dx (recF D sd td)) sd = some (.dK skvs) := by rw [upd_ne (Ne.symm xsd)]; exact s6 _ _ hsd5
   have htd7 : L2.upd H6 x (.ins C dx (recF D sd td)) td = some (.dK tkvs) := by rw [upd_ne (Ne.symm xtd)]; exact htd
   have hsm7 := Paired.mapP hsm5 fun x y z => (z.keep (S := fun _ => False) (fun b o e _ => s6 b o e) (fun _ _ z => z.elim)).keep k7 nx6
   have htm7 := Paired.mapP htm fun x y z => z.keep k7 nx6
   generalize hG7 : L2.upd H6 x (.ins C dx (recF D sd td)) = H7 at k7 R7 hsd7 htd7 hsm7 htm7
   have hX7 : H7 x = some (.ins C dx (recF D sd td)) := by rw [← hG7]; exact upd_same
   have K7 : Kept (fun b => b = x) H H7 := (K5.trans (Same.kept s6)).trans k7
   have td0 : H td = none := by
    cases z : H td with
    | none => rfl
    | some o =>
     have := K5 _ _ z (Ne.symm xtd)
     rw [htd0] at this
     cases this
   have sdtd : sd ≠ td := by rintro rfl; rw [hsd5] at htd0; cases htd0
   -- check_sent
   refine ⟨_, rfl, x, C, dx, _, _, rfl, hX7, R.cl, R.nS, rec_sends _ _ _, _, rfl, x, C, dx, _, _, rfl, hX7, R.cl, R.nT, rec_takes _ _ _, sd, td, skvs, tkvs, rfl, hsd7, htd7, sdtd, taken_sent hV hsm7 htm7, fun o => ?_⟩
   have nt7 : NoTup (fun b => b = td) H7 := fun b xs hb z => by rw [hb, htd7] at z; cases z
   have k8 : Kept (fun b => b = td) H7 (L2.upd H7 td (.frz o (.dK tkvs))) := Kept.upd rfl
   have tdD : ¬ D = td := fun z => by have := R7.top; rw [z, htd7] at this; cases this
   have tdq : ∀ q ∈ qs, ¬ q = td := fun q hq' z => by
    obtain ⟨i, hi⟩ := List.getElem?_of_mem hq'
    obtain ⟨r, _, xs, hx, _⟩ := R7.get hi
    rw [z, htd7] at hx
    cases hx
   have R8 := R7.keep k8 nt7 tdD tdq
   have S8 : SendsA (L2.upd H7 td (.frz o (.dK tkvs))) sd rs := ⟨skvs, .inl (by rw [upd_ne sdtd]; exact hsd7), Paired.mapP hsm7 fun x y z => z.keep k8 nt7⟩
   have T8 : TakesA (L2.upd H7 td (.frz o (.dK tkvs))) td rs := ⟨tkvs, .inr ⟨o, upd_same⟩, Paired.mapP htm7 fun x y z => z.keep k8 nt7⟩
   have hX8 : L2.upd H7 td (.frz o (.dK tkvs)) x = some (.ins C dx (recF D sd td)) := by rw [upd_ne xtd]; exact hX7
   have K8 : Kept (fun b => b = x) H (L2.upd H7 td (.frz o (.dK tkvs))) := fun b u z nb => by
    rw [upd_ne (ne_of_none z td0)]
    exact K7 b u z nb
   -- find_ring
   refine ⟨_, rfl, x, C, dx, _, _, rfl, hX8, R.cl, R.nR, rec_rows _ _ _, _, rfl, x, C, dx, _, _, rfl, hX8, R.cl, R.nS, rec_sends _ _ _, D, sd, qs, rs, rfl, R8, S8, hV, fun H9 s9 => ?_⟩
   refine ⟨_, rfl, rfl, _, rfl, ?_⟩
   refine iteNS rfl ?_
   exact q D qs sd td H9 (K8.trans (Same.kept s9)) (RecA.same s9 ⟨⟨dx, hX8⟩, R8, S8, T8, hV⟩) hD hn sd0 td0
theorem ok_end {f C : Addr} {fd : FuncData} (F : Fun K "end" "Record.end" s_Record_end f fd) (B : Bl mg) (R : RecC K C) : FnOk P w K mg base CX0 1 f fd ["self"] (sp_end C) := by
 have sc := sc_Record_end
 refine F.ok sc (fun vs H Q E h => ?_) (fun cdv A outer s H vs Q E hr h => ?_)
 ·obtain ⟨x, a, sd, td, ps, rs, rfl, _⟩ := h
  rfl
 ·obtain ⟨x, a, sd, td, ps, rs, rfl, hA, q⟩ := h
  obtain ⟨dx, hx⟩ := hA.ob
  have hR := hA.rows
  refine ⟨_, (pss_one (ps_ret (pe_callTy call_tuple_ofI (by rfl) (B "tuple" (by decide +kernel)) bt_tuple (pa_cons (pe_lc (te := (tCB (rLenS K) (tCons (tVar 0) tNil))) (tt := tTrue) (Blk.plain (ts := ["row"]) (by decide +kernel) (by decide +kernel) rfl (by decide +kernel)) rfl (pi_list (pe_fld (pv 0) rfl)) (fun _ _ _ _ => (pg_name (i := 0) (show List.Nodup (["row"] : List Str) by decide +kernel) rfl (Or.inl rfl))) (fun _ _ _ _ => pifs_nil) (fun _ _ _ _ => (pe_callB call_len_seqI (by rfl) (B "len" (by decide +kernel)) bt_len (pa_cons (pv 0) pa_nil)))) pa_nil)))), ?_⟩
  refine ⟨_, rfl, x, C, dx, _, _, rfl, hx, R.cl, R.nR, rec_rows _ _ _, a, rfl, ⟨_, SqL.of hR.top⟩, fun D hD => lc_list (K := K) (a := a) (xs := ps.map V.ref) (fun i σ ys H2 => ∃ v, σ = [v] ∧ ys = lensV (rs.take i) ∧ Same H H2 ∧ H2 D = some (.lst ys))
   ⟨_, rfl, rfl, Same.new hD, upd_same⟩ (fun i σ ys H2 _ ⟨v, _, _, s2, _⟩ => SqL.of (s2 _ _ hR.top)) ?_ ?_⟩
  ·rintro i y σ ys H2 hi ⟨v, rfl, rfl, s2, hD2⟩
   obtain ⟨p, hp, rfl⟩ := map_ref hi
   obtain ⟨r, hr', xs, hxs, m⟩ := hR.get hp
   refine ⟨_, rfl, p, xs, rfl, .inl (SqL.of (s2 _ _ hxs)), hD2, ?_, _, rfl, ?_, fun b o z => ?_, upd_same⟩
   ·have := hA.val.bnd.hi
    unfold lensV
    rw [List.length_map, List.length_take]
    exact small1000 (by lia)
   ·unfold lensV
    rw [List.take_add_one, hr', List.map_append, Paired.length m]
    rfl
   ·rw [upd_ne (ne_of_none z hD)]
    exact s2 b o z
  ·rintro σ ys H2 ⟨v, rfl, rfl, s2, hD2⟩
   have e : rs.take (ps.map V.ref).length = rs := by rw [List.length_map, hR.len, List.take_length]
   rw [e] at hD2
   exact ⟨D, _, rfl, .inl ⟨SqL.of hD2, fun l hl => q l _ (s2.trans (Same.new hl)) upd_same⟩⟩
end
noncomputable abbrev s_law_record : Stmt := top 33
theorem sc_law_record : FnScope ["script", "most", "hands", "rows", "letters", "sent", "k", "cell", "hand", "kind", "value"] ["script", "most"] (defScope s_law_record) := ⟨rfl, rfl, rfl, by decide +kernel, rfl, by decide +kernel, by decide +kernel⟩
section
variable {P : Program} {w : World} {K : PySem.W.Frag} {mg : Str → Option Value} {base : Heap}
noncomputable def inv_record_1 (H : L2.Hp) (D : PySem.Addr) (hands : Int) : Nat → St → List V → Hp → Prop := fun i σ ys H2 => ∃ (qs : List Addr) (v : Option V), σ = [v] ∧ ys = qs.map V.ref ∧ Same H H2 ∧ H2 D = some (.lst (qs.map V.ref)) ∧ Paired (RowA H2) qs ((List.replicate hands.toNat ([] : List Ev)).take i) ∧ (∀ q ∈ qs, H q = none) ∧ qs.Nodup ∧ D ∉ qs
noncomputable def inv_record_2 (a : PySem.Addr) (m : Nat) (hands : Int) (D : PySem.Addr) (lb : PySem.Addr) (H : L2.Hp) (qs : List PySem.Addr) : Nat → St → Hp → Prop := fun i σ H3 => ∃ rs ls snt v6 v7 v8 v9 v10, σ = [some (.ref a), some (.int (m : Nat)), some (.int hands), some (.ref D), some (.ref lb), some (.int snt), v6, v7, v8, v9, v10] ∧ RecI H H3 D lb qs rs ls i ∧ rs.length = hands.toNat
theorem ok_record {f : Addr} {fd : FuncData} (F : Fun K "_law_record" "_law_record" s_law_record f fd) (B : Bl mg) (D_law_cell_at : Df P w K mg base 1 "_law_cell_at" ["script", "k"] (sp_cell K)) (D_law_draw : Df P w K mg base 2 "_law_draw" ["script", "k"] (sp_draw K))
  (D_law_value : Df P w K mg base 3 "_law_value" ["script", "k"] (sp_value K)) (D_law_used : Df P w K mg base 1 "_law_used" ["rows", "letter"] sp_used) : FnOk P w K mg base CX0 4 f fd ["script", "most"] (sp_record K) := by
 have sc := sc_law_record
 refine F.ok sc (fun vs H Q E h => ?_) (fun cdv A outer s H vs Q E hr h => ?_)
 ·obtain ⟨a, ns, m, rfl, _⟩ := h
  rfl
 ·obtain ⟨a, ns, m, rfl, hS, hm, q⟩ := h
  have hu := hu_of hr
  refine ⟨_, (pss_cons (ps_set (i := 2) sc.nd rfl (Or.inl rfl) (pe_op op_add pe_int (pe_op op_mod (pe_df D_law_cell_at (hr.mono (by decide)) (pa_cons (pv 0) (pa_cons pe_int pa_nil))) pe_int)))
    (pss_cons (ps_setLC (i := 3) sc.nd rfl (Or.inl rfl) (te := (tLst tNil)) (tt := tTrue) (Blk.plain (ts := ["hand"]) (by decide +kernel) (by decide +kernel) rfl (by decide +kernel)) rfl (pi_range1 rfl (B "range" (by decide +kernel)) (pa_cons (pv 2) pa_nil)) (fun _ _ _ _ => (pg_name (i := 0) (show List.Nodup (["hand"] : List Str) by decide +kernel) rfl (Or.inl rfl))) (fun _ _ _ _ => pifs_nil) (fun _ _ _ _ => (pe_lst pa_nil)))
    (pss_cons (ps_set (i := 4) sc.nd rfl (Or.inl rfl) (pe_lst pa_nil))
    (pss_cons (ps_set (i := 5) sc.nd rfl (Or.inl rfl) pe_int)
    (pss_cons (ps_for PassesOwn.never rfl (pi_range1 rfl (B "range" (by decide +kernel)) (pa_cons (pe_op op_mod (pe_df D_law_draw (hr.mono (by decide)) (pa_cons (pv 0) (pa_cons pe_int pa_nil))) (pe_op op_add (pv 1) pe_int)) pa_nil)) (pg_name (i := 6) sc.nd rfl (Or.inl rfl)) (pss_cons (ps_set (i := 7) sc.nd rfl (Or.inl rfl) (pe_df D_law_draw (hr.mono (by decide)) (pa_cons (pv 0) (pa_cons (pe_op op_add pe_int (pe_op op_mul pe_int (pv 6))) pa_nil))))
    (pss_cons (ps_set (i := 8) sc.nd rfl (Or.inl rfl) (pe_op op_mod (pv 7) (pv 2)))
    (pss_cons (ps_set (i := 9) sc.nd rfl (Or.inl rfl) (pe_ix ix_list (pe_lst (pa_cons pe_str (pa_cons pe_str (pa_cons pe_str (pa_cons pe_str pa_nil))))) (pe_op op_mod (pe_op op_fdiv (pv 7) pe_int) pe_int) (fun _ _ => rfl)))
    (pss_cons (ps_set (i := 10) sc.nd rfl (Or.inl rfl) (pe_df D_law_value (hr.mono (by decide)) (pa_cons (pv 0) (pa_cons (pe_op op_add pe_int (pe_op op_mul pe_int (pv 6))) pa_nil))))
    (pss_one (ps_if ((pw_and (pt_cmpR op_lt (pe_callB call_len_seqI (by rfl) (B "len" (by decide +kernel)) bt_len (pa_cons (pe_ix ix_list (pv 3) (pv 8) (fun _ _ => rfl)) pa_nil)) pe_int (nomark _)) (pw_and1 (pt_cmpR op_eq (pv 9) pe_str (nomark _))))).pt (pss_cons (ps_expr (pe_bm PySem.F.plainAttrs_list PySem.F.slot_list_append PySem.F.type_list_append mt_append (pv 4) (pa_cons (pe_op op_mod (pe_op op_add (pe_op op_mul pe_int (pv 5)) (pe_op op_fdiv (pv 7) pe_int)) pe_int) pa_nil)))
    (pss_cons (ps_set (i := 5) sc.nd rfl (Or.inl rfl) (pe_op op_add (pv 5) pe_int))
    (pss_one (ps_if ((pw_or (pt_cmpR op_gt (pe_bm PySem.F.plainAttrs_list PySem.F.slot_list_count PySem.F.type_list_count (mt_count EqOk.flat (un_of hr)) (pv 4) (pa_cons (pe_ix ix_list (pv 4) (pe_un un_neg pe_int) (fun _ _ => rfl)) pa_nil)) pe_int (nomark _)) (pw_or1 (pt_val (pe_df D_law_used (hr.mono (by decide)) (pa_cons (pv 3) (pa_cons (pe_ix ix_list (pv 4) (pe_un un_neg pe_int) (fun _ _ => rfl)) pa_nil))))))).pt (pss_cons (ps_expr (pe_bm0 PySem.F.plainAttrs_list PySem.F.slot_list_pop PySem.F.type_list_pop mt_pop (pv 4)))
    (pss_one (ps_expr (pe_bm PySem.F.plainAttrs_list PySem.F.slot_list_append PySem.F.type_list_append mt_append (pe_ix ix_list (pv 3) (pv 8) (fun _ _ => rfl)) (pa_cons (pe_tup (pa_cons pe_str (pa_cons pe_int (pa_cons (pv 10) pa_nil)))) pa_nil))))) (pss_one (ps_expr (pe_bm PySem.F.plainAttrs_list PySem.F.slot_list_append PySem.F.type_list_append mt_append (pe_ix ix_list (pv 3) (pv 8) (fun _ _ => rfl)) (pa_cons (pe_tup (pa_cons pe_str (pa_cons (pe_ix ix_list (pv 4) (pe_un un_neg pe_int) (fun _ _ => rfl)) (pa_cons (pv 10) pa_nil)))) pa_nil)))))))) (pss_one (ps_if ((pw_and (pt_cmpR op_lt (pe_callB call_len_seqI (by rfl) (B "len" (by decide +kernel)) bt_len (pa_cons (pe_ix ix_list (pv 3) (pv 8) (fun _ _ => rfl)) pa_nil)) pe_int (nomark _)) (pw_and (pt_cmpR op_eq (pv 9) pe_str (nomark _)) (pw_and1 (pt_cmpR op_gt (pe_callB call_len_seqI (by rfl) (B "len" (by decide +kernel)) bt_len (pa_cons (pv 4) pa_nil)) pe_int (nomark _)))))).pt (pss_one (ps_expr (pe_bm PySem.F.plainAttrs_list PySem.F.slot_list_append PySem.F.type_list_append mt_append (pe_ix ix_list (pv 3) (pv 8) (fun _ _ => rfl)) (pa_cons (pe_tup (pa_cons pe_str (pa_cons (pe_bm PySem.F.plainAttrs_list PySem.F.slot_list_pop PySem.F.type_list_pop mt_popAt (pv 4) (pa_cons (pe_op op_mod (pe_op op_fdiv (pv 7) pe_int) (pe_callB call_len_seqI (by rfl) (B "len" (by decide +kernel)) bt_len (pa_cons (pv 4) pa_nil))) pa_nil)) (pa_cons (pv 10) pa_nil)))) pa_nil)))) (pss_one (ps_if (pt_cmpR op_lt (pe_callB call_len_seqI (by rfl) (B "len" (by decide +kernel)) bt_len (pa_cons (pe_ix ix_list (pv 3) (pv 8) (fun _ _ => rfl)) pa_nil)) pe_int (nomark _)) (pss_one (ps_expr (pe_bm PySem.F.plainAttrs_list PySem.F.slot_list_append PySem.F.type_list_append mt_append (pe_ix ix_list (pv 3) (pv 8) (fun _ _ => rfl)) (pa_cons (pe_tup (pa_cons pe_str (pa_cons pe_int (pa_cons (pv 10) pa_nil)))) pa_nil)))) pss_nil)))))))))))
    (pss_one (ps_ret (pv 3)))))))), ?_⟩
  -- hands
  refine ⟨_, rfl, a, ns, 0, rfl, hS, by decide, _, _, rfl, rfl, (by show (0 : Int) < 4; decide), _, _, rfl, rfl, ?_⟩
  have hh0 := Int.emod_nonneg (cell ns 0) (show (4 : Int) ≠ 0 by decide)
  have hh1 := Int.emod_lt_of_pos (cell ns 0) (show (0 : Int) < 4 by decide)
  try dsimp only
  generalize hhd : (1 : Int) + cell ns 0 % 4 = hands
  have hha : 1 ≤ hands := by lia
  have hhb : hands ≤ 4 := by lia
  clear hh0 hh1 hhd
  -- rows
  refine ⟨_, rfl, _, rfl, by lia, by lia, fun D hD => lc_range (lo := 0) (n := hands.toNat) (inv_record_1 H D hands)
   ⟨[], _, rfl, rfl, Same.new hD, upd_same, .nil, fun q hq => (nomatch hq), List.nodup_nil, fun z => (nomatch z)⟩ ?_ ?_⟩
  ·rintro i σ ys H2 hi ⟨qs, v, rfl, rfl, s2, hD2, hq, hn, nd, nD⟩
   refine ⟨Nat.zero_le _, fun l hl => ?_⟩
   obtain ⟨c1, c2, c3, c4, c5, c6⟩ := copy_step (xs := []) (r := []) s2 hD hD2 hq hn nd nD (by rw [List.getElem?_replicate, if_pos hi]) .nil hl
   refine ⟨by rw [upd_ne (by rintro rfl; rw [hl] at hD2; cases hD2)]; exact hD2, ?_, qs ++ [l], _, rfl, by simp, ?_⟩
   ·have e := Paired.length hq
    rw [List.length_map, e, List.length_take, List.length_replicate]
    exact small1000 (by lia)
   ·rw [List.map_append] at c1 c2 c3 ⊢
    exact ⟨c1, c2, c3, c4, c5, c6⟩
  rintro σ ys H2 ⟨qs, v, rfl, rfl, s2, hD2, hq, hn, nd, nD⟩
  have e : (List.replicate hands.toNat ([] : List Ev)).take hands.toNat = List.replicate hands.toNat [] := List.take_of_length_le (by rw [List.length_replicate]; exact Nat.le_refl _)
  rw [e] at hq
  -- letters, sent
  refine ⟨Nat.zero_le _, fun lb hlb2 => ?_⟩
  have hlb : H lb = none := s2.free hlb2
  have lD : lb ≠ D := by rintro rfl; rw [hlb2] at hD2; cases hD2
  have lq : lb ∉ qs := fun z => by
   obtain ⟨i, hi⟩ := List.getElem?_of_mem z
   obtain ⟨r, _, xs, hx, _⟩ := Paired.get hq hi
   rw [hlb2] at hx; cases hx
  have d0 : RecI H (L2.upd H2 lb (.lst [])) D lb qs (List.replicate hands.toNat []) [] 0 :=
   ⟨s2.trans (Same.new hlb2), (RowsA.mk hD2 hq).same (Same.new hlb2), upd_same, ⟨0, Draw.start (by lia) (by lia)⟩, by simp, Nat.le_refl _⟩
  -- the loop
  have hdr := draw_nn ns 1
  have hk0 := Int.emod_nonneg (draw ns 1) (show ((m : Nat) : Int) + 1 ≠ 0 by lia)
  have hk1 := Int.emod_lt_of_pos (draw ns 1) (show (0 : Int) < ((m : Nat) : Int) + 1 by lia)
  refine ⟨_, rfl, a, ns, 1, rfl, (s2.trans (Same.new hlb2)).seq hS, by decide, _, rfl, _, _, rfl, rfl, _, _, rfl, rfl, (by show (0 : Int) < ((m : Nat) : Int) + 1; lia), _, rfl, by lia, by lia,
   for_range (lo := 0) (n := (draw ns 1 % (((m : Nat) : Int) + 1)).toNat) (inv_record_2 a m hands D lb H qs)
   ⟨_, [], 0, _, _, _, _, _, rfl, d0, List.length_replicate⟩ ?_ ?_⟩
  ·rintro i σ H3 hi ⟨rs, ls, snt, v6, v7, v8, v9, v10, rfl, d, hl⟩
   -- cell
   refine ⟨_, rfl, _, rfl, _, _, rfl, rfl, .inl ⟨by decide, by decide⟩, _, _, rfl, rfl, a, ns, _, rfl, d.same.seq hS, (by show (0 : Int) ≤ 10 + 3 * (0 + ((i : Nat) : Int)); lia), ?_⟩
   try dsimp only
   generalize hc : draw ns (10 + 3 * (0 + ((i : Nat) : Int))) = c
   have hc0 : 0 ≤ c := by rw [← hc]; exact draw_nn _ _
   clear hc
   -- hand
   refine ⟨_, rfl, _, rfl, _, _, rfl, rfl, (by show (0 : Int) < hands; lia), ?_⟩
   have hx0 := Int.emod_nonneg c (show hands ≠ 0 by lia)
   have hx1 := Int.emod_lt_of_pos c (show (0 : Int) < hands by lia)
   obtain ⟨hn', hhn⟩ : ∃ n : Nat, c % hands = ((n : Nat) : Int) := ⟨(c % hands).toNat, by lia⟩
   try dsimp only
   rw [hhn] at hx0 hx1 ⊢
   have hnl : hn' < rs.length := by lia
   obtain ⟨r, hr'⟩ : ∃ r, rs[hn']? = some r := ⟨_, List.getElem?_eq_getElem hnl⟩
   obtain ⟨p, hp, hRow⟩ := d.rows.row hr'
   obtain ⟨xs, hxs, mx⟩ := id hRow
   have hxl : xs.length = r.length := Paired.length mx
   -- kind
   refine ⟨(by show 4 ≤ sizeLine; decide), fun kl hkl => ?_⟩
   refine ⟨_, rfl, _, _, rfl, rfl, ⟨by decide, by decide⟩, _, _, rfl, rfl, (by show (0 : Int) < 4; decide), kl, _, _, _, rfl, rfl, SqL.of upd_same, kd_at (Int.emod_nonneg _ (by decide)) (Int.emod_lt_of_pos _ (by decide)), ?_⟩
   try dsimp only
   generalize kdOf (c / 4 % 4) = kd
   have d := d.new (o := .lst [V.str "own", V.str "send", V.str "take", V.str "send"]) hkl
   have hxs := Same.new (o := .lst [V.str "own", V.str "send", V.str "take", V.str "send"]) hkl _ _ hxs
   clear hRow mx
   try dsimp only
   generalize L2.upd H3 kl (.lst [V.str "own", V.str "send", V.str "take", V.str "send"]) = H4 at d hxs
   -- value
   refine ⟨_, rfl, _, rfl, _, _, rfl, rfl, .inl ⟨by decide, by decide⟩, _, _, rfl, rfl, a, ns, _, rfl, d.same.seq hS, (by show (0 : Int) ≤ 11 + 3 * (0 + ((i : Nat) : Int)); lia), ?_⟩
   have hvb := value_bnd ns (11 + 3 * (0 + ((i : Nat) : Int)))
   try dsimp only
   generalize value ns (11 + 3 * (0 + ((i : Nat) : Int))) = vl at hvb
   have hD4 := SqL.of (K := K) d.rows.top
   have hmp : (qs.map V.ref)[hn']? = some (.ref p) := by rw [List.getElem?_map, hp]; rfl
   have hpix := atI_nat hmp
   obtain ⟨n, dr⟩ := d.draw
   -- if len(rows[hand]) < 6 and kind == 'send'
   refine ⟨_, rfl, _, rfl, D, _, _, _, rfl, rfl, hD4, hpix, p, xs, rfl, .inl (SqL.of hxs), _, _, rfl, rfl, _, rfl, ?_⟩
   refine ite2 (fun hlt => ?_) (fun hlt => ?_)
   ·have hlt6 : ((xs.length : Nat) : Int) < 6 := of_decide_eq_true hlt
    have hr6 : r.length < 6 := by lia
    refine ⟨_, rfl, rfl, _, rfl, ?_⟩
    refine ite2 (fun hk => ?_) (fun hk => ?_)
    ·-- letters.append
     have hx13 := Int.emod_nonneg (13 * snt + c / 16) (show (100 : Int) ≠ 0 by decide)
     have hx14 := Int.emod_lt_of_pos (13 * snt + c / 16) (show (0 : Int) < 100 by decide)
     refine ⟨_, rfl, .inl ⟨rfl, _, SqL.of d.lets⟩, _, rfl, _, _, rfl, rfl, .inl ⟨by decide, by decide⟩, _, rfl, _, _, rfl, rfl, ⟨by decide, by decide⟩, _, _, rfl, rfl, _, _, rfl, rfl, (by show (0 : Int) < 100; decide), lb, _, _, rfl, rfl, d.lets, small1000 (by rw [List.length_map]; have := d.lsl; lia), ?_⟩
     try dsimp only
     generalize (13 * snt + c / 16) % 100 = l at hx13 hx14
     -- sent
     refine ⟨_, rfl, _, _, rfl, rfl, ?_⟩
     obtain ⟨s5, R5⟩ := d.lst hlb lD lq (ls.map V.int ++ [V.int l])
     have hxs5 : L2.upd H4 lb (.lst (ls.map V.int ++ [V.int l])) p = some (.lst xs) := by rw [upd_ne (by rintro rfl; exact lq (List.mem_of_getElem? hp))]; exact hxs
     have L5 : L2.upd H4 lb (.lst (ls.map V.int ++ [V.int l])) lb = some (.lst ((ls ++ [l]).map V.int)) := by rw [upd_same, List.map_append]; rfl
     try dsimp only
     generalize L2.upd H4 lb (.lst (ls.map V.int ++ [V.int l])) = H5 at s5 R5 hxs5 L5
     have hlast : atI ((ls ++ [l]).map V.int) (-1) = some (.int l) := by rw [List.map_append]; exact atI_last _ _
     have hD5 := SqL.of (K := K) R5.top
     -- the two ways behind
     have own : (∃ rs' ls' snt' v6 v7 v8 v9 v10, [some (V.ref a), some (.int (m : Nat)), some (.int hands), some (.ref D), some (.ref lb), some (.int (snt + 1)), some (.int (0 + (i : Nat))), some (.int c), some (.int (hn' : Nat)), some (.str kd.str), some (.int vl)] = [some (.ref a), some (.int (m : Nat)), some (.int hands), some (.ref D), some (.ref lb), some (.int snt'), v6, v7, v8, v9, v10] ∧ RecI H H4 D lb qs rs' ls' (i + 1) ∧ rs'.length = hands.toNat) ∨ True := .inr trivial
     clear own
     have popped : tSeq (tDrop (tBM0 K "list" rPop (tVar 4))) (tDrop (tBM K "list" rAppend (tOp (rIxL K) (tVar 3) (tVar 8)) (tCons (tTup (tCons (tC (.str "own")) (tCons (tC (.int 0)) (tCons (tVar 10) tNil)))) tNil)))
       { nx := fun σ H3 => ∃ rs ls snt v6 v7 v8 v9 v10, σ = [some (.ref a), some (.int (m : Nat)), some (.int hands), some (.ref D), some (.ref lb), some (.int snt), v6, v7, v8, v9, v10] ∧ RecI H H3 D lb qs rs ls (i + 1) ∧ rs.length = hands.toNat, rt := fun _ _ => True }
       [some (V.ref a), some (.int (m : Nat)), some (.int hands), some (.ref D), some (.ref lb), some (.int (snt + 1)), some (.int (0 + (i : Nat))), some (.int c), some (.int (hn' : Nat)), some (.str kd.str), some (.int vl)] H5 := by
      refine ⟨_, rfl, .inl ⟨rfl, _, SqL.of L5⟩, lb, _, .int l, rfl, rfl, L5, ?_, ?_⟩
      ·rw [List.map_append, List.length_append]
       simp
      ·have ed : ((ls ++ [l]).map V.int).dropLast = ls.map V.int := by rw [List.map_append]; simp
       rw [ed]
       have s6 : Same H (L2.upd H5 lb (.lst (ls.map V.int))) := fun b o z => by rw [upd_ne (ne_of_none z hlb)]; exact s5 b o z
       have R6 : RowsA (L2.upd H5 lb (.lst (ls.map V.int))) D qs rs := R5.keep (S := fun b => b = lb) (Kept.upd rfl) (fun b ys hb z => by rw [hb, L5] at z; cases z) (fun z => lD z.symm) (fun p hp z => lq (z ▸ hp))
       have hx6 : L2.upd H5 lb (.lst (ls.map V.int)) p = some (.lst xs) := by rw [upd_ne (by rintro rfl; exact lq (List.mem_of_getElem? hp))]; exact hxs5
       refine ⟨_, rfl, _, rfl, D, _, _, _, rfl, rfl, SqL.of R6.top, hpix, .inl ⟨rfl, _, SqL.of hx6⟩, _, rfl, (by show 3 ≤ sizeLine; decide), fun t ht => ?_⟩
       refine ⟨p, xs, .ref t, rfl, rfl, Same.new ht _ _ hx6, small1000 (by lia), ?_⟩
       exact ⟨_, ls, _, _, _, _, _, _, rfl, rec_more (e := ⟨.own, 0, vl⟩) s6 R6 upd_same d.tot (by have := d.lsl; lia) hn nd nD lq hp hr' hx6 ht ⟨_, dr.own hr' hr6 hvb⟩, by rw [app_len]; exact hl⟩
     refine ⟨_, rfl, .inl ⟨rfl, _, SqL.of L5⟩, _, rfl, _, rfl, lb, _, _, _, rfl, rfl, SqL.of L5, hlast, .int l, .int l, _, rfl, ⟨rfl, rfl⟩, ints_mean K L5, _, _, rfl, rfl, _, rfl, ?_⟩
     refine ite2 (fun hcnt => ?_) (fun hcnt => ?_)
     ·exact iteT popped
     ·refine ⟨_, rfl, _, rfl, _, rfl, lb, _, _, _, rfl, rfl, SqL.of L5, hlast, D, qs, rs, l, rfl, R5, fun b hb => ⟨b, rfl, ?_⟩⟩
      cases b with
      | true => exact iteT popped
      | false =>
       refine iteF ?_
       have hnu : ¬ Used rs l := fun z => absurd (hb.mpr z) Bool.false_ne_true
       refine ⟨_, rfl, _, rfl, D, _, _, _, rfl, rfl, hD5, hpix, .inl ⟨rfl, _, SqL.of hxs5⟩, _, rfl, _, rfl, lb, _, _, _, rfl, rfl, SqL.of L5, hlast, _, rfl, (by show 3 ≤ sizeLine; decide), fun t ht => ?_⟩
       refine ⟨p, xs, .ref t, rfl, rfl, Same.new ht _ _ hxs5, small1000 (by lia), ?_⟩
       exact ⟨_, ls ++ [l], _, _, _, _, _, _, rfl, rec_more (e := ⟨.send, l, vl⟩) s5 R5 L5 d.tot (by rw [List.length_append]; have := d.lsl; simp; lia) hn nd nD lq hp hr' hxs5 ht ⟨_, dr.send hr' hr6 ⟨hx13, by lia⟩ hvb hnu⟩, by rw [app_len]; exact hl⟩
    ·-- elif .. 'take' .. / elif
     refine ⟨_, rfl, _, rfl, D, _, _, _, rfl, rfl, hD4, hpix, p, xs, rfl, .inl (SqL.of hxs), _, _, rfl, rfl, _, rfl, ?_⟩
     refine ite2 (fun _ => ?_) (fun z => absurd (decide_eq_true hlt6) z)
     refine ⟨_, rfl, rfl, _, rfl, ?_⟩
     have third : tIfS (tTest (tOp (rI0 fun i j => .bl (decide (i < j))) (tCB (rLenS K) (tCons (tOp (rIxL K) (tVar 3) (tVar 8)) tNil)) (tC (.int 6)))) (tDrop (tBM K "list" rAppend (tOp (rIxL K) (tVar 3) (tVar 8)) (tCons (tTup (tCons (tC (.str "own")) (tCons (tC (.int 0)) (tCons (tVar 10) tNil)))) tNil))) tNext
       { nx := fun σ H3 => ∃ rs ls snt v6 v7 v8 v9 v10, σ = [some (.ref a), some (.int (m : Nat)), some (.int hands), some (.ref D), some (.ref lb), some (.int snt), v6, v7, v8, v9, v10] ∧ RecI H H3 D lb qs rs ls (i + 1) ∧ rs.length = hands.toNat, rt := fun _ _ => True }
       [some (V.ref a), some (.int (m : Nat)), some (.int hands), some (.ref D), some (.ref lb), some (.int snt), some (.int (0 + (i : Nat))), some (.int c), some (.int (hn' : Nat)), some (.str kd.str), some (.int vl)] H4 := by
      refine ⟨_, rfl, _, rfl, D, _, _, _, rfl, rfl, hD4, hpix, p, xs, rfl, .inl (SqL.of hxs), _, _, rfl, rfl, _, rfl, ?_⟩
      refine ite2 (fun _ => ?_) (fun z => absurd (decide_eq_true hlt6) z)
      refine ⟨_, rfl, _, rfl, D, _, _, _, rfl, rfl, hD4, hpix, .inl ⟨rfl, _, SqL.of hxs⟩, _, rfl, (by show 3 ≤ sizeLine; decide), fun t ht => ?_⟩
      refine ⟨p, xs, .ref t, rfl, rfl, Same.new ht _ _ hxs, small1000 (by lia), ?_⟩
      exact ⟨_, ls, _, _, _, _, _, _, rfl, rec_more (e := ⟨.own, 0, vl⟩) d.same d.rows d.lets d.tot (by have := d.lsl; lia) hn nd nD lq hp hr' hxs ht ⟨_, dr.own hr' hr6 hvb⟩, by rw [app_len]; exact hl⟩
     refine ite2 (fun hk2 => ?_) (fun hk2 => ?_)
     ·refine ⟨_, rfl, lb, _, rfl, .inl (SqL.of d.lets), _, _, rfl, rfl, _, rfl, ?_⟩
      refine ite2 (fun hpos => ?_) (fun hpos => ?_)
      ·have hpos : (0 : Int) < (((ls.map V.int).length : Nat) : Int) := of_decide_eq_true hpos
       rw [List.length_map] at hpos
       have hj0 := Int.emod_nonneg (c / 16) (show ((ls.length : Nat) : Int) ≠ 0 by lia)
       have hj1 := Int.emod_lt_of_pos (c / 16) (show (0 : Int) < ((ls.length : Nat) : Int) by lia)
       obtain ⟨j, hj⟩ : ∃ j : Nat, c / 16 % ((ls.length : Nat) : Int) = ((j : Nat) : Int) := ⟨(c / 16 % ((ls.length : Nat) : Int)).toNat, by lia⟩
       have hjl : j < ls.length := by lia
       have hls := d.lsl
       have hgj : ls[j]? = some ls[j] := List.getElem?_eq_getElem hjl
       refine ⟨_, rfl, _, rfl, D, _, _, _, rfl, rfl, hD4, hpix, .inl ⟨rfl, _, SqL.of hxs⟩, _, rfl, .inl ⟨rfl, _, SqL.of d.lets⟩, _, rfl, _, _, rfl, rfl, ⟨by decide, by decide⟩, _, rfl, lb, _, rfl, .inl (SqL.of d.lets), _, _, rfl, rfl, (by show (0 : Int) < (((ls.map V.int).length : Nat) : Int); rw [List.length_map]; exact hpos), ?_⟩
       refine ⟨lb, _, _, j, .int ls[j], rfl, rfl, d.lets, ?_, ?_, ?_, by rw [List.getElem?_map, hgj]; rfl, ?_⟩
       ·rw [List.length_map, hj]; lia
       ·rw [List.length_map, hj]; lia
       ·rw [List.length_map, hj]
        exact (ixN_seq (ixN_nat hjl)).1
       obtain ⟨s5, R5⟩ := d.lst hlb lD lq ((ls.map V.int).eraseIdx j)
       have hxs5 : L2.upd H4 lb (.lst ((ls.map V.int).eraseIdx j)) p = some (.lst xs) := by rw [upd_ne (by rintro rfl; exact lq (List.mem_of_getElem? hp))]; exact hxs
       have L5 : L2.upd H4 lb (.lst ((ls.map V.int).eraseIdx j)) lb = some (.lst ((ls.eraseIdx j).map V.int)) := by
        rw [upd_same, erase_map]
       refine ⟨_, rfl, (by show 3 ≤ sizeLine; decide), fun t ht => ?_⟩
       refine ⟨p, xs, .ref t, rfl, rfl, Same.new ht _ _ hxs5, small1000 (by lia), ?_⟩
       exact ⟨_, ls.eraseIdx j, _, _, _, _, _, _, rfl, rec_more (e := ⟨.take, ls[j], vl⟩) s5 R5 L5 d.tot (by have := len_erase ls j; lia) hn nd nD lq hp hr' hxs5 ht ⟨_, dr.take hr' hr6 hgj hvb⟩, by rw [app_len]; exact hl⟩
      ·exact third
     ·refine iteF ?_
      exact third
   ·refine iteF ?_
    refine ⟨_, rfl, _, rfl, D, _, _, _, rfl, rfl, hD4, hpix, p, xs, rfl, .inl (SqL.of hxs), _, _, rfl, rfl, _, rfl, ?_⟩
    refine ite2 (fun z => absurd z hlt) (fun _ => ?_)
    refine iteF ?_
    refine ⟨_, rfl, _, rfl, D, _, _, _, rfl, rfl, hD4, hpix, p, xs, rfl, .inl (SqL.of hxs), _, _, rfl, rfl, _, rfl, ?_⟩
    refine ite2 (fun z => absurd z hlt) (fun _ => ?_)
    exact ⟨rs, ls, _, _, _, _, _, _, rfl, d.mono (Nat.le_succ _), hl⟩
  ·rintro σ H3 ⟨rs, ls, snt, v6, v7, v8, v9, v10, rfl, d, hl⟩
   obtain ⟨n, dr⟩ := d.draw
   refine ⟨_, rfl, q D qs rs H3 dr.val d.same ⟨d.rows, hD, hn, nd, nD⟩ ?_⟩
   have := d.tot
   lia
end
noncomputable abbrev s_law_events : Stmt := top 35
theorem sc_law_events : FnScope ["rows", "found", "hand", "at"] ["rows"] (defScope s_law_events) := ⟨rfl, rfl, rfl, by decide +kernel, rfl, by decide +kernel, by decide +kernel⟩
section
variable {P : Program} {w : World} {K : PySem.W.Frag} {mg : Str → Option Value} {base : Heap}
noncomputable def inv_events_1 (H : L2.Hp) (f : PySem.Addr) (rs : Cw.Rows) (a : PySem.Addr) : Nat → St → Hp → Prop := fun i σ H2 => Same H H2 ∧ EvsA H2 f (evsFar rs i 0) ∧ ∃ v2 v3, σ = [some (.ref a), some (.ref f), v2, v3]
noncomputable def inv_events_2 (H : L2.Hp) (f : PySem.Addr) (rs : Cw.Rows) (i : Nat) (a : PySem.Addr) : Nat → St → Hp → Prop := fun j σ H3 => Same H H3 ∧ EvsA H3 f (evsFar rs i j) ∧ ∃ v3, σ = [some (.ref a), some (.ref f), some (.int (i : Nat)), v3]
theorem ok_events {f : Addr} {fd : FuncData} (F : Fun K "_law_events" "_law_events" s_law_events f fd) (B : Bl mg) : FnOk P w K mg base CX0 1 f fd ["rows"] sp_events := by
 have sc := sc_law_events
 refine F.ok sc (fun vs H Q E h => ?_) (fun cdv A outer s H vs Q E hr h => ?_)
 ·obtain ⟨a, ps, rs, rfl, _⟩ := h
  rfl
 ·obtain ⟨a, ps, rs, rfl, hR, hB, q⟩ := h
  have hl4 := hB.hi
  have hpl : (((ps.map V.ref).length : Nat) : Int) ≤ 4 := by rw [List.length_map, hR.len]; lia
  refine ⟨_, (pss_cons (ps_set (i := 1) sc.nd rfl (Or.inl rfl) (pe_lst pa_nil))
    (pss_cons (ps_for PassesOwn.never rfl (pi_range1 rfl (B "range" (by decide +kernel)) (pa_cons (pe_callB call_len_seqI (by rfl) (B "len" (by decide +kernel)) bt_len (pa_cons (pv 0) pa_nil)) pa_nil)) (pg_name (i := 2) sc.nd rfl (Or.inl rfl)) (pss_one (ps_for PassesOwn.never rfl (pi_range1 rfl (B "range" (by decide +kernel)) (pa_cons (pe_callB call_len_seqI (by rfl) (B "len" (by decide +kernel)) bt_len (pa_cons (pe_ix ix_list (pv 0) (pv 2) (fun _ _ => rfl)) pa_nil)) pa_nil)) (pg_name (i := 3) sc.nd rfl (Or.inl rfl)) (pss_one (ps_expr (pe_bm PySem.F.plainAttrs_list PySem.F.slot_list_append PySem.F.type_list_append mt_append (pv 1) (pa_cons (pe_tup (pa_cons (pv 2) (pa_cons (pv 3) pa_nil))) pa_nil)))))))
    (pss_one (ps_ret (pv 1))))), ?_⟩
  refine ⟨Nat.zero_le _, fun f hf => ?_⟩
  refine ⟨_, rfl, a, _, rfl, .inl (SqL.of (Same.new hf _ _ hR.top)), _, rfl, by lia, by lia, for_range (lo := 0) (n := (ps.map V.ref).length) (inv_events_1 H f rs a)
   ⟨Same.new hf, ⟨[], upd_same, .nil⟩, _, _, rfl⟩ ?_ ?_⟩
  ·rintro i σ H2 hi ⟨s2, hE, v2, v3, rfl⟩
   rw [show (0 : Int) + ((i : Nat) : Int) = ((i : Nat) : Int) from Int.zero_add _]
   rw [List.length_map, hR.len] at hi
   have hri : rs[i]? = some rs[i] := List.getElem?_eq_getElem hi
   obtain ⟨p, hp, xs, hxs, m⟩ := hR.row hri
   have hmp : (ps.map V.ref)[i]? = some (.ref p) := by rw [List.getElem?_map, hp]; rfl
   have hxl := Paired.length m
   have hl6 := hB.len i _ hri
   refine ⟨_, rfl, _, rfl, a, _, _, _, rfl, rfl, SqL.of (s2 _ _ hR.top), atI_nat hmp, p, xs, rfl, .inl (SqL.of (s2 _ _ hxs)), _, rfl, by lia, by lia, for_range (lo := 0) (n := xs.length) (inv_events_2 H f rs i a)
    ⟨s2, hE, _, rfl⟩ ?_ ?_⟩
   ·rintro j σ H3 hj ⟨s3, ⟨ys, hys, my⟩, v3, rfl⟩
    rw [show (0 : Int) + ((j : Nat) : Int) = ((j : Nat) : Int) from Int.zero_add _]
    refine ⟨_, rfl, .inl ⟨rfl, _, SqL.of hys⟩, _, rfl, _, rfl, (by show 2 ≤ sizeLine; decide), fun t ht => ?_⟩
    have s4 := Same.new (o := .tup [.int (i : Nat), .int (j : Nat)]) ht
    refine ⟨f, ys, .ref t, rfl, rfl, s4 _ _ hys, small1000 (by have := Paired.length my; have := evsFar_len hB i j (by lia) (by lia); lia), ?_⟩
    obtain ⟨e1, e2⟩ := evs_more (o := (i, j)) (s3.trans s4) hf (s4 _ _ hys) (Paired.mapP my fun _ _ z => z.same s4) upd_same
    refine ⟨e1, ?_, _, rfl⟩
    rw [evsFar_ev]
    exact e2
   ·rintro σ H3 ⟨s3, hE3, v3, rfl⟩
    refine ⟨s3, ?_, _, _, rfl⟩
    rw [hxl, evsFar_row hri] at hE3
    exact hE3
  ·rintro σ H2 ⟨s2, hE, v2, v3, rfl⟩
   rw [List.length_map, hR.len, evsFar_all] at hE
   exact ⟨_, rfl, q f H2 s2 hf hE⟩
end
noncomputable abbrev s_law_send : Stmt := top 36
theorem sc_law_send : FnScope ["rows", "letter", "one"] ["rows", "letter"] (defScope s_law_send) := ⟨rfl, rfl, rfl, by decide +kernel, rfl, by decide +kernel, by decide +kernel⟩
noncomputable abbrev s_law_inside : Stmt := top 37
theorem sc_law_inside : FnScope ["rows", "cut", "hand", "at", "source"] ["rows", "cut"] (defScope s_law_inside) := ⟨rfl, rfl, rfl, by decide +kernel, rfl, by decide +kernel, by decide +kernel⟩
section
variable {P : Program} {w : World} {K : PySem.W.Frag} {mg : Str → Option Value} {base : Heap}
noncomputable def inv_send_1 (H1 : L2.Hp) (a : PySem.Addr) (l : Int) (rs : Cw.Rows) : Nat → St → Hp → Prop := fun j σ H2 => Same H1 H2 ∧ (∃ v, σ = [some (.ref a), some (.int l), v]) ∧ ∀ (i : Nat) (o : Pl) (e : Ev), i < j → (evs rs)[i]? = some o → at? rs o.1 o.2 = some e → e.k = .send → e.l ≠ l
theorem ok_send {f : Addr} {fd : FuncData} (F : Fun K "_law_send" "_law_send" s_law_send f fd) (B : Bl mg) (D_law_events : Df P w K mg base 1 "_law_events" ["rows"] sp_events) : FnOk P w K mg base CX0 2 f fd ["rows", "letter"] sp_send := by
 have sc := sc_law_send
 refine F.ok sc (fun vs H Q E h => ?_) (fun cdv A outer s H vs Q E hr h => ?_)
 ·obtain ⟨a, ps, rs, l, rfl, _⟩ := h
  rfl
 ·obtain ⟨a, ps, rs, l, rfl, hR, hB, q⟩ := h
  refine ⟨_, (pss_cons (ps_for PassesOwn.never rfl (pi_list (pe_df D_law_events (hr.mono (by decide)) (pa_cons (pv 0) pa_nil))) (pg_name (i := 2) sc.nd rfl (Or.inl rfl)) (pss_one (ps_if (pt_cmpR (op_eqT EqOk.flat (un_of hr)) (pe_slice sl_tup (pe_ix ix_list (pe_ix ix_list (pv 0) (pe_ix ix_tup (pv 2) pe_int (fun _ _ => rfl)) (fun _ _ => rfl)) (pe_ix ix_tup (pv 2) pe_int (fun _ _ => rfl)) (fun _ _ => rfl)) po_none (po_some pe_int)) (pe_tup (pa_cons pe_str (pa_cons (pv 1) pa_nil))) (nomark _)) (pss_one (ps_ret (pv 2))) pss_nil)))
    (pss_one (ps_ret pe_non))), ?_⟩
  refine ⟨_, rfl, a, ps, rs, rfl, hR, hB, fun g H1 s1 hg hE => ?_⟩
  obtain ⟨zs, hzs, mz⟩ := id hE
  have hzl := Paired.length mz
  refine ⟨g, rfl, ⟨_, SqL.of hzs⟩, for_list (K := K) (a := g) (xs := zs) (inv_send_1 H1 a l rs)
   ⟨Same.refl _, ⟨_, rfl⟩, fun i o e hi => absurd hi (Nat.not_lt_zero _)⟩ (fun j σ H2 _ ⟨s2, _⟩ => SqL.of (s2 _ _ hzs)) ?_ ?_⟩
  ·rintro j y σ H2 hj ⟨s2, ⟨v, rfl⟩, hno⟩
   obtain ⟨o, ho, t, rfl, ht⟩ := Paired.get mz hj
   obtain ⟨e, he⟩ := mem_evs'.mp (List.mem_of_getElem? ho)
   have s12 := s1.trans s2
   have R2 := hR.same s12
   have ht2 : H2 t = some (.tup (posV o)) := s2 _ _ ht
   obtain ⟨rp, xs, te, hm, hx, hy, hte⟩ := R2.ev he
   refine ⟨_, rfl, _, rfl, t, _, 0, _, rfl, rfl, SqT.of ht2, rfl, a, _, _, _, rfl, rfl, SqL.of R2.top, atI_nat hm, _, rfl, t, _, 1, _, rfl, rfl, SqT.of ht2, rfl, rp, xs, _, _, rfl, rfl, SqL.of hx, atI_nat hy, _, rfl, te, _, rfl, SqT.of hte, head_part e, fun p hp => ?_⟩
   rw [head_cut]
   have s3 := Same.new (o := .tup [.str e.k.str, .int e.l]) hp
   refine ⟨_, rfl, (by show 2 ≤ sizeLine; decide), fun p2 hp2 => ?_⟩
   have s4 := Same.new (o := .tup [.str Kd.send.str, .int l]) hp2
   refine ⟨_, _, head_mean K (k := e.k) (s4 _ _ upd_same), head_mean K (k := .send) upd_same, _, rfl, ?_⟩
   rw [head_dec]
   refine ite2 (fun h1 => ?_) (fun h1 => ?_)
   ·obtain ⟨z1, z2⟩ := of_decide_eq_true h1
    exact ⟨_, rfl, q _ _ (s12.trans (s3.trans s4)) (.inl ⟨t, o, e, rfl, s4 _ _ (s3 _ _ ht2), he, z1, z2⟩)⟩
   ·refine ⟨s2.trans (s3.trans s4), ⟨_, rfl⟩, fun i o' e' hi ho' he' hk hl => ?_⟩
    by_cases ei : i = j
    ·subst ei
     rw [ho] at ho'
     cases ho'
     rw [he] at he'
     cases he'
     exact h1 (decide_eq_true ⟨hk, hl⟩)
    ·exact hno i o' e' (by lia) ho' he' hk hl
  ·rintro σ H2 ⟨s2, ⟨v, rfl⟩, hno⟩
   refine q .non H2 (s1.trans s2) (.inr ⟨rfl, fun o e he hk => ?_⟩)
   obtain ⟨i, hi⟩ := List.getElem?_of_mem (mem_evs'.mpr ⟨e, he⟩)
   exact hno i o e (by rw [hzl]; exact (List.getElem?_eq_some_iff.mp hi).1) hi he hk
noncomputable def inv_inside_1 (H : L2.Hp) (a : PySem.Addr) (c : PySem.Addr) (ns : List Int) (rs : Cw.Rows) : Nat → St → Hp → Prop := fun i σ H2 => H2 = H ∧ (∃ v2 v3 v4, σ = [some (.ref a), some (.ref c), v2, v3, v4]) ∧ ∀ (h : Nat) (n : Int) (r : List Ev), h < i → ns[h]? = some n → rs[h]? = some r → 0 ≤ n ∧ n ≤ r.length
noncomputable def inv_inside_2 (H2 : L2.Hp) (a : PySem.Addr) (c : PySem.Addr) (rs : Cw.Rows) (ns : List Int) : Nat → St → Hp → Prop := fun i σ H3 => Same H2 H3 ∧ (∃ v2 v3 v4, σ = [some (.ref a), some (.ref c), v2, v3, v4]) ∧ ∀ (h p : Nat) (e : Ev) (n : Int), h < i → at? rs h p = some e → e.k = .take → ns[h]? = some n → (p : Int) < n → ∀ (h' p' : Nat) (e' : Ev), at? rs h' p' = some e' → e'.k = .send → e'.l = e.l → ∃ n', ns[h']? = some n' ∧ (p' : Int) < n'
noncomputable def inv_inside_3 (H2 : L2.Hp) (a : PySem.Addr) (c : PySem.Addr) (i : Nat) (rs : Cw.Rows) (ns : List Int) : Nat → St → Hp → Prop := fun j σ H4 => Same H2 H4 ∧ (∃ v3 v4, σ = [some (.ref a), some (.ref c), some (.int (i : Nat)), v3, v4]) ∧ ∀ (p : Nat) (e : Ev), p < j → at? rs i p = some e → e.k = .take → ∀ (h' p' : Nat) (e' : Ev), at? rs h' p' = some e' → e'.k = .send → e'.l = e.l → ∃ n', ns[h']? = some n' ∧ (p' : Int) < n'
theorem ok_inside {f : Addr} {fd : FuncData} (F : Fun K "_law_inside" "_law_inside" s_law_inside f fd) (B : Bl mg) (D_law_send : Df P w K mg base 2 "_law_send" ["rows", "letter"] sp_send) : FnOk P w K mg base CX0 3 f fd ["rows", "cut"] (sp_inside K) := by
 have sc := sc_law_inside
 refine F.ok sc (fun vs H Q E h => ?_) (fun cdv A outer s H vs Q E hr h => ?_)
 ·obtain ⟨a, ps, rs, c, ns, rfl, _⟩ := h
  rfl
 ·obtain ⟨a, ps, rs, c, ns, rfl, hR, hV, hC, q⟩ := h
  have hb4 := hV.bnd.hi
  have hpl : (ps.map V.ref).length = rs.length := by rw [List.length_map, hR.len]
  refine ⟨_, (pss_cons (ps_if (pt_cmpR op_ne (pe_callB call_len_seqI (by rfl) (B "len" (by decide +kernel)) bt_len (pa_cons (pv 1) pa_nil)) (pe_callB call_len_seqI (by rfl) (B "len" (by decide +kernel)) bt_len (pa_cons (pv 0) pa_nil)) (nomark _)) (pss_one (ps_ret pe_bl)) pss_nil)
    (pss_cons (ps_for PassesOwn.never rfl (pi_range1 rfl (B "range" (by decide +kernel)) (pa_cons (pe_callB call_len_seqI (by rfl) (B "len" (by decide +kernel)) bt_len (pa_cons (pv 0) pa_nil)) pa_nil)) (pg_name (i := 2) sc.nd rfl (Or.inl rfl)) (pss_one (ps_if (pt_not (pt_chain op_le op_le pe_int (pe_ix ix_two (pv 1) (pv 2) (fun _ _ => rfl)) (pe_callB call_len_seqI (by rfl) (B "len" (by decide +kernel)) bt_len (pa_cons (pe_ix ix_list (pv 0) (pv 2) (fun _ _ => rfl)) pa_nil)))) (pss_one (ps_ret pe_bl)) pss_nil)))
    (pss_cons (ps_for PassesOwn.never rfl (pi_range1 rfl (B "range" (by decide +kernel)) (pa_cons (pe_callB call_len_seqI (by rfl) (B "len" (by decide +kernel)) bt_len (pa_cons (pv 0) pa_nil)) pa_nil)) (pg_name (i := 2) sc.nd rfl (Or.inl rfl)) (pss_one (ps_for PassesOwn.never rfl (pi_range1 rfl (B "range" (by decide +kernel)) (pa_cons (pe_ix ix_two (pv 1) (pv 2) (fun _ _ => rfl)) pa_nil)) (pg_name (i := 3) sc.nd rfl (Or.inl rfl)) (pss_one (ps_if (pt_cmpR op_eq (pe_ix ix_tup (pe_ix ix_list (pe_ix ix_list (pv 0) (pv 2) (fun _ _ => rfl)) (pv 3) (fun _ _ => rfl)) pe_int (fun _ _ => rfl)) pe_str (nomark _)) (pss_cons (ps_set (i := 4) sc.nd rfl (Or.inl rfl) (pe_df D_law_send (hr.mono (by decide)) (pa_cons (pv 0) (pa_cons (pe_ix ix_tup (pe_ix ix_list (pe_ix ix_list (pv 0) (pv 2) (fun _ _ => rfl)) (pv 3) (fun _ _ => rfl)) pe_int (fun _ _ => rfl)) pa_nil))))
    (pss_one (ps_if (pt_cmpR op_le (pe_ix ix_two (pv 1) (pe_ix ix_tup (pv 4) pe_int (fun _ _ => rfl)) (fun _ _ => rfl)) (pe_ix ix_tup (pv 4) pe_int (fun _ _ => rfl)) (nomark _)) (pss_one (ps_ret pe_bl)) pss_nil))) pss_nil)))))
    (pss_one (ps_ret pe_bl))))), ?_⟩
  refine ⟨_, rfl, c, _, rfl, hC, _, rfl, a, _, rfl, .inl (SqL.of hR.top), rfl, _, rfl, ?_⟩
  refine ite2 (fun h1 => ?_) (fun h1 => ?_)
  ·refine q false H (Same.refl _) ⟨fun z => (nomatch z), fun I => ?_⟩
   have h1 : ¬ V.int (((ns.map V.int).length : Nat) : Int) = V.int (((ps.map V.ref).length : Nat) : Int) := by simpa using h1
   rw [hpl, List.length_map, I.len] at h1
   exact absurd rfl h1
  have h1 : ns.length = rs.length := by
   have h1 : V.int (((ns.map V.int).length : Nat) : Int) = V.int (((ps.map V.ref).length : Nat) : Int) := by simpa using h1
   injection h1 with h1
   rw [hpl, List.length_map] at h1
   exact_mod_cast h1
  -- the counts' bounds
  refine ⟨_, rfl, a, _, rfl, .inl (SqL.of hR.top), _, rfl, by lia, by lia, for_range (lo := 0) (n := (ps.map V.ref).length) (inv_inside_1 H a c ns rs)
   ⟨rfl, ⟨_, _, _, rfl⟩, fun h n r hi => absurd hi (Nat.not_lt_zero _)⟩ ?_ ?_⟩
  ·rintro i σ H2 hi ⟨rfl, ⟨v2, v3, v4, rfl⟩, hb⟩
   rw [show (0 : Int) + ((i : Nat) : Int) = ((i : Nat) : Int) from Int.zero_add _]
   rw [hpl] at hi
   have hri : rs[i]? = some rs[i] := List.getElem?_eq_getElem hi
   have hni : ns[i]? = some (ns[i]'(by lia)) := List.getElem?_eq_getElem (by lia)
   generalize ns[i]'(by lia) = n at hni
   obtain ⟨p, hp, xs, hxs, m⟩ := hR.row hri
   have hmp : (ps.map V.ref)[i]? = some (.ref p) := by rw [List.getElem?_map, hp]; rfl
   have hxl := Paired.length m
   have step : (0 ≤ n ∧ n ≤ rs[i].length) → ∀ (h : Nat) (n : Int) (r : List Ev), h < i + 1 → ns[h]? = some n → rs[h]? = some r → 0 ≤ n ∧ n ≤ r.length := by
    intro z h n' r hh hn' hr'
    by_cases e : h = i
    ·subst e
     rw [hni] at hn'
     rw [hri] at hr'
     cases hn'; cases hr'
     exact z
    ·exact hb h n' r (by lia) hn' hr'
   have bad : ¬ (0 ≤ n ∧ n ≤ rs[i].length) → Q (.bl false) H2 := fun z => q false H2 (Same.refl _) ⟨fun y => (nomatch y), fun I => absurd (I.rng i n _ hni hri) z⟩
   refine ⟨_, rfl, _, rfl, c, _, _, _, rfl, rfl, hC, ints_at hni, _, _, rfl, rfl, _, rfl, ?_⟩
   refine ite2 (fun h2 => ?_) (fun h2 => ?_)
   ·have h2 : (0 : Int) ≤ n := of_decide_eq_true h2
    refine ⟨_, rfl, _, rfl, a, _, _, _, rfl, rfl, SqL.of hR.top, atI_nat hmp, p, xs, rfl, .inl (SqL.of hxs), _, _, rfl, rfl, _, rfl, ?_⟩
    refine ite2 (fun h3 => ?_) (fun h3 => ?_)
    ·have h3 : ¬ n ≤ ((xs.length : Nat) : Int) := by simpa using h3
     exact bad fun z => h3 (by rw [hxl]; exact z.2)
    ·have h3 : n ≤ ((xs.length : Nat) : Int) := by simpa using h3
     exact ⟨rfl, ⟨_, _, _, rfl⟩, step ⟨h2, by rw [hxl] at h3; exact h3⟩⟩
   ·have h2 : ¬ (0 : Int) ≤ n := fun z => h2 (decide_eq_true z)
    refine ⟨_, rfl, ?_⟩
    refine iteT ?_
    exact bad fun z => h2 z.1
  rintro σ H2 ⟨rfl, ⟨v2, v3, v4, rfl⟩, hb⟩
  have hrng : ∀ (h : Nat) (n : Int) (r : List Ev), ns[h]? = some n → rs[h]? = some r → 0 ≤ n ∧ n ≤ r.length := fun h n r hn hr => hb h n r (by rw [hpl]; exact (List.getElem?_eq_some_iff.mp hr).1) hn hr
  clear hb
  -- the takes
  refine ⟨_, rfl, a, _, rfl, .inl (SqL.of hR.top), _, rfl, by lia, by lia, for_range (lo := 0) (n := (ps.map V.ref).length) (inv_inside_2 H2 a c rs ns)
   ⟨Same.refl _, ⟨_, _, _, rfl⟩, fun h p e n hi => absurd hi (Nat.not_lt_zero _)⟩ ?_ ?_⟩
  ·rintro i σ H3 hi ⟨s3, ⟨v2, v3, v4, rfl⟩, hT⟩
   rw [show (0 : Int) + ((i : Nat) : Int) = ((i : Nat) : Int) from Int.zero_add _]
   rw [hpl] at hi
   have hri : rs[i]? = some rs[i] := List.getElem?_eq_getElem hi
   have hni : ns[i]? = some (ns[i]'(by lia)) := List.getElem?_eq_getElem (by lia)
   generalize ns[i]'(by lia) = n at hni
   obtain ⟨hn0, hn1⟩ := hrng i n _ hni hri
   have hl6 := hV.bnd.len i _ hri
   refine ⟨_, rfl, _, rfl, c, _, _, _, rfl, rfl, Sq.same s3 hC, ints_at hni, _, rfl, by lia, by lia, for_range (lo := 0) (n := n.toNat) (inv_inside_3 H2 a c i rs ns)
    ⟨s3, ⟨_, _, rfl⟩, fun p e hi => absurd hi (Nat.not_lt_zero _)⟩ ?_ ?_⟩
   ·rintro j σ H4 hj ⟨s4, ⟨v3, v4, rfl⟩, hJ⟩
    rw [show (0 : Int) + ((j : Nat) : Int) = ((j : Nat) : Int) from Int.zero_add _]
    have hje : rs[i][j]? = some (rs[i][j]'(by lia)) := List.getElem?_eq_getElem (by lia)
    have hat : at? rs i j = some (rs[i][j]'(by lia)) := by rw [at_row hri]; exact hje
    generalize rs[i][j]'(by lia) = e at hje hat
    have R4 := hR.same s4
    obtain ⟨rp, xs, te, hm, hx, hy, hte⟩ := R4.ev (o := (i, j)) hat
    have hm : (ps.map V.ref)[i]? = some (.ref rp) := hm
    have hy : xs[j]? = some (.ref te) := hy
    have stepJ : (e.k = .take → ∀ (h' p' : Nat) (e' : Ev), at? rs h' p' = some e' → e'.k = .send → e'.l = e.l → ∃ n', ns[h']? = some n' ∧ (p' : Int) < n') → ∀ (p : Nat) (e : Ev), p < j + 1 → at? rs i p = some e → e.k = .take → ∀ (h' p' : Nat) (e' : Ev), at? rs h' p' = some e' → e'.k = .send → e'.l = e.l → ∃ n', ns[h']? = some n' ∧ (p' : Int) < n' := by
     intro z p e2 hp he2
     by_cases ep : p = j
     ·subst ep
      rw [hat] at he2
      cases he2
      exact z
     ·exact hJ p e2 (by lia) he2
    refine ⟨_, rfl, _, rfl, a, _, _, _, rfl, rfl, SqL.of R4.top, atI_nat hm, _, rfl, rp, xs, _, _, rfl, rfl, SqL.of hx, atI_nat hy, te, _, 0, _, rfl, rfl, SqT.of hte, rfl, rfl, _, rfl, ?_⟩
    refine ite2 (fun h2 => ?_) (fun h2 => ?_)
    ·have h2 : decide (V.str e.k.str = V.str Kd.take.str) = true := h2
     rw [kd_dec] at h2
     have h2 : e.k = .take := of_decide_eq_true h2
     refine ⟨_, rfl, _, rfl, _, rfl, a, _, _, _, rfl, rfl, SqL.of R4.top, atI_nat hm, _, rfl, rp, xs, _, _, rfl, rfl, SqL.of hx, atI_nat hy, te, _, 1, _, rfl, rfl, SqT.of hte, rfl, a, ps, rs, e.l, rfl, R4, hV.bnd, fun v H5 s5 hv => ?_⟩
     obtain ⟨h0, p0, e0, ha0, hk0, hl0⟩ := hV.sent i j e hat h2
     rcases hv with ⟨t, o, e', rfl, ht, he', hk', hl'⟩ | ⟨_, z⟩
     ·have ho : o.1 < rs.length := by
       obtain ⟨r, hr', _⟩ := at_some he'
       exact (List.getElem?_eq_some_iff.mp hr').1
      have hno : ns[o.1]? = some (ns[o.1]'(by lia)) := List.getElem?_eq_getElem (by lia)
      generalize ns[o.1]'(by lia) = m at hno
      refine ⟨_, rfl, _, rfl, t, _, 0, _, rfl, rfl, SqT.of ht, rfl, c, _, _, _, rfl, rfl, Sq.same (s4.trans s5) hC, ints_at hno, _, rfl, t, _, 1, _, rfl, rfl, SqT.of ht, rfl, _, _, rfl, rfl, _, rfl, ?_⟩
      refine ite2 (fun h3 => ?_) (fun h3 => ?_)
      ·have h3 : m ≤ ((o.2 : Nat) : Int) := of_decide_eq_true h3
       refine q false H5 (s4.trans s5) ⟨fun y => (nomatch y), fun I => ?_⟩
       obtain ⟨n', hn', hlt⟩ := I.sent i j e n hat h2 hni (by lia) o.1 o.2 e' he' hk' hl'
       rw [hno] at hn'
       cases hn'
       lia
      ·have h3 : ¬ m ≤ ((o.2 : Nat) : Int) := fun z => h3 (decide_eq_true z)
       refine ⟨s4.trans s5, ⟨_, _, rfl⟩, stepJ fun _ h' p' e2 he2 hk2 hl2 => ?_⟩
       obtain ⟨z1, z2⟩ := hV.us h' p' o.1 o.2 e2 e' he2 he' hk2 hk' (by rw [hl2, hl'])
       rw [z1, z2]
       exact ⟨m, hno, by lia⟩
     ·exact absurd hl0 (z (h0, p0) e0 ha0 hk0)
    ·exact ⟨s4, ⟨_, _, rfl⟩, stepJ fun hk => absurd (by show decide (V.str e.k.str = V.str Kd.take.str) = true; rw [kd_dec, decide_eq_true hk]) h2⟩
   ·rintro σ H4 ⟨s4, ⟨v3, v4, rfl⟩, hJ⟩
    refine ⟨s4, ⟨_, _, _, rfl⟩, fun h p e n' hh he hk hn' hlt => ?_⟩
    by_cases eh : h = i
    ·subst eh
     rw [hni] at hn'
     cases hn'
     exact hJ p e (by lia) he hk
    ·exact hT h p e n' (by lia) he hk hn' hlt
  ·rintro σ H3 ⟨s3, ⟨v2, v3, v4, rfl⟩, hT⟩
   refine q true H3 s3 ⟨fun _ => ⟨h1, hrng, fun h p e n he => hT h p e n ?_ he⟩, fun _ => rfl⟩
   obtain ⟨r, hr', _⟩ := at_some he
   rw [hpl]
   exact (List.getElem?_eq_some_iff.mp hr').1
end
noncomputable abbrev s_law_longer : Stmt := top 39
theorem sc_law_longer : FnScope ["cuts", "most", "found", "cut", "count"] ["cuts", "most"] (defScope s_law_longer) := ⟨rfl, rfl, rfl, by decide +kernel, rfl, by decide +kernel, by decide +kernel⟩
noncomputable abbrev s_law_all : Stmt := top 38
theorem sc_law_all : FnScope ["rows", "cuts", "row", "good"] ["rows"] (defScope s_law_all) := ⟨rfl, rfl, rfl, by decide +kernel, rfl, by decide +kernel, by decide +kernel⟩
section
variable {P : Program} {w : World} {K : PySem.W.Frag} {mg : Str → Option Value} {base : Heap}
noncomputable def inv_longer_1 (c : PySem.Addr) (m : Nat) (f : PySem.Addr) (H : L2.Hp) (ls : List (List Int)) : Nat → St → Hp → Prop := fun i σ H2 => (∃ v3 v4, σ = [some (.ref c), some (.int (m : Nat)), some (.ref f), v3, v4]) ∧ Same H H2 ∧ ∃ qs, LsA H2 f qs (longer (ls.take i) m) ∧ f ∉ qs
noncomputable def inv_longer_2 (c : PySem.Addr) (m : Nat) (f : PySem.Addr) (p : PySem.Addr) (H : L2.Hp) (i : Nat) (ls : List (List Int)) (l : List Int) : Nat → St → Hp → Prop := fun j σ H3 => (∃ v4, σ = [some (.ref c), some (.int (m : Nat)), some (.ref f), some (.ref p), v4]) ∧ Same H H3 ∧ ∃ qs, LsA H3 f qs (longer (ls.take i) m ++ (List.range j).map fun c => l ++ [((c : Nat) : Int)]) ∧ f ∉ qs
theorem ok_longer {f : Addr} {fd : FuncData} (F : Fun K "_law_longer" "_law_longer" s_law_longer f fd) (B : Bl mg) : FnOk P w K mg base CX0 1 f fd ["cuts", "most"] sp_longer := by
 have sc := sc_law_longer
 refine F.ok sc (fun vs H Q E h => ?_) (fun cdv A outer s H vs Q E hr h => ?_)
 ·obtain ⟨c, ps, ls, m, rfl, _⟩ := h
  rfl
 ·obtain ⟨c, ps, ls, m, rfl, hL, hm, hz, hl, q⟩ := h
  have hpl := Paired.length hL.2
  refine ⟨_, (pss_cons (ps_set (i := 2) sc.nd rfl (Or.inl rfl) (pe_lst pa_nil))
    (pss_cons (ps_for PassesOwn.never rfl (pi_list (pv 0)) (pg_name (i := 3) sc.nd rfl (Or.inl rfl)) (pss_one (ps_for PassesOwn.never rfl (pi_range1 rfl (B "range" (by decide +kernel)) (pa_cons (pe_op op_add (pv 1) pe_int) pa_nil)) (pg_name (i := 4) sc.nd rfl (Or.inl rfl)) (pss_one (ps_expr (pe_bm PySem.F.plainAttrs_list PySem.F.slot_list_append PySem.F.type_list_append mt_append (pv 2) (pa_cons (pe_op op_cat (pv 3) (pe_lst (pa_cons (pv 4) pa_nil))) pa_nil)))))))
    (pss_one (ps_ret (pv 2))))), ?_⟩
  refine ⟨Nat.zero_le _, fun f hf => ?_⟩
  refine ⟨_, rfl, c, rfl, ⟨_, SqL.of (Same.new hf _ _ hL.1)⟩, for_list (K := K) (a := c) (xs := ps.map V.ref) (inv_longer_1 c m f H ls)
   ⟨⟨_, _, rfl⟩, Same.new hf, [], ⟨upd_same, .nil⟩, fun z => (nomatch z)⟩ (fun i σ H2 _ ⟨_, s2, _⟩ => SqL.of (s2 _ _ hL.1)) ?_ ?_⟩
  ·rintro i y σ H2 hi ⟨⟨v3, v4, rfl⟩, s2, qs, hQ, hfq⟩
   obtain ⟨p, hp, rfl⟩ := map_ref hi
   obtain ⟨l, hli, hpl'⟩ := Paired.get hL.2 hp
   have hil := (List.getElem?_eq_some_iff.mp hli).1
   have hll := hl l (List.mem_of_getElem? hli)
   have epre : longer (ls.take (i + 1)) m = longer (ls.take i) m ++ (List.range (m + 1)).map fun c => l ++ [((c : Nat) : Int)] := by
    unfold longer
    rw [List.take_add_one, hli, List.flatMap_append]
    show _ ++ List.flatMap _ [l] = _
    rw [List.flatMap_cons, List.flatMap_nil, List.append_nil]
   refine ⟨_, rfl, _, _, rfl, rfl, _, rfl, by lia, by lia, for_range (lo := 0) (n := (((m : Nat) : Int) + 1).toNat) (inv_longer_2 c m f p H i ls l)
    ⟨⟨_, rfl⟩, s2, qs, by simpa using hQ, hfq⟩ ?_ ?_⟩
   ·rintro j σ H3 hj ⟨⟨v4, rfl⟩, s3, qs, hQ, hfq⟩
    rw [show (0 : Int) + ((j : Nat) : Int) = ((j : Nat) : Int) from Int.zero_add _]
    have hql := Paired.length hQ.2
    have hp3 : H3 p = some (.lst (l.map V.int)) := s3 _ _ hpl'
    refine ⟨_, rfl, .inl ⟨rfl, _, SqL.of hQ.1⟩, _, rfl, _, rfl, (by show 1 ≤ sizeLine; decide), fun t ht => ?_⟩
    have s4 := Same.new (o := .lst [V.int ((j : Nat) : Int)]) ht
    refine ⟨p, t, _, _, rfl, rfl, s4 _ _ hp3, upd_same, ?_, fun q2 hq2 => ?_⟩
    ·rw [List.length_map]
     show l.length + 1 ≤ sizeLine
     rw [sizeLine_eq]
     lia
    have s5 := Same.new (o := .lst (l.map V.int ++ [V.int ((j : Nat) : Int)])) hq2
    have Q5 := (hQ.same s4).same s5
    have hq2f : q2 ≠ f := by rintro rfl; rw [(hQ.same s4).1] at hq2; cases hq2
    have hq2q : q2 ∉ qs := fun z => by
     obtain ⟨k, hk⟩ := List.getElem?_of_mem z
     obtain ⟨_, _, z2⟩ := Paired.get (hQ.same s4).2 hk
     unfold LI at z2
     rw [hq2] at z2
     cases z2
    refine ⟨f, _, .ref q2, rfl, rfl, Q5.1, ?_, ⟨_, rfl⟩, ?_, qs ++ [q2], ⟨?_, ?_⟩, ?_⟩
    ·have e1 : (longer (ls.take i) m).length ≤ ls.length * (m + 1) := by
      rw [longer_len, List.length_take]
      exact Nat.mul_le_mul_right _ (Nat.min_le_right _ _)
     rw [List.length_append, List.length_map, List.length_range] at hql
     rw [List.length_map, hql, sizeLine_eq]
     lia
    ·exact fun b o z => by rw [upd_ne (ne_of_none z hf)]; exact s5 _ _ (s4 _ _ (s3 b o z))
    ·rw [upd_same, List.map_append]
     rfl
    ·rw [List.range_succ, List.map_append, ← List.append_assoc]
     exact Paired.snoc (paired_off Q5.2 hfq) (by
      unfold LI
      rw [upd_ne hq2f, upd_same, List.map_append]
      rfl)
    ·intro z
     rcases List.mem_append.mp z with y | y
     ·exact hfq y
     ·exact hq2f (by simpa using y : f = q2).symm
   ·rintro σ H3 ⟨⟨v4, rfl⟩, s3, qs, hQ, hfq⟩
    rw [show (((m : Nat) : Int) + 1).toNat = m + 1 by lia, ← epre] at hQ
    exact ⟨⟨_, _, rfl⟩, s3, qs, hQ, hfq⟩
  ·rintro σ H2 ⟨⟨v3, v4, rfl⟩, s2, qs, hQ, hfq⟩
   rw [List.length_map, hpl, List.take_length] at hQ
   exact ⟨_, rfl, q f qs H2 s2 hf hQ⟩
noncomputable def inv_all_1 (a : PySem.Addr) (rs : Cw.Rows) (H : L2.Hp) : Nat → St → Hp → Prop := fun i σ H2 => (∃ c v2, σ = [some (.ref a), some (.ref c), v2, none] ∧ ∃ qs, LsA H2 c qs (boxes ((rs.take i).map List.length))) ∧ Same H H2
theorem ok_all {f : Addr} {fd : FuncData} (F : Fun K "_law_all" "_law_all" s_law_all f fd) (B : Bl mg) (D_law_longer : Df P w K mg base 1 "_law_longer" ["cuts", "most"] sp_longer) (D_law_inside : Df P w K mg base 3 "_law_inside" ["rows", "cut"] (sp_inside K)) : FnOk P w K mg base CX0 4 f fd ["rows"] sp_all := by
 have sc := sc_law_all
 refine F.ok sc (fun vs H Q E h => ?_) (fun cdv A outer s H vs Q E hr h => ?_)
 ·obtain ⟨a, ps, rs, rfl, _⟩ := h
  rfl
 ·obtain ⟨a, ps, rs, rfl, hR, hV, q⟩ := h
  have hb4 := hV.bnd.hi
  have hl6 : ∀ n ∈ rs.map List.length, n ≤ 6 := fun n hn => by
   obtain ⟨r, hr', rfl⟩ := List.mem_map.mp hn
   obtain ⟨i, hi⟩ := List.getElem?_of_mem hr'
   exact hV.bnd.len i r hi
  have small : ∀ k, k ≤ rs.length → (boxes ((rs.take k).map List.length)).length ≤ 2401 := fun k hk => by
   have h1 := boxes_len ((rs.take k).map List.length) fun n hn => hl6 n (by
    obtain ⟨r, hr', rfl⟩ := List.mem_map.mp hn
    exact List.mem_map.mpr ⟨r, List.mem_of_mem_take hr', rfl⟩)
   have h2 : ((rs.take k).map List.length).length ≤ 4 := by rw [List.length_map, List.length_take]; lia
   exact Nat.le_trans h1 (Nat.le_trans (Nat.pow_le_pow_right (by lia) h2) (by decide))
  refine ⟨_, (pss_cons (ps_set (i := 1) sc.nd rfl (Or.inl rfl) (pe_lst (pa_cons (pe_lst pa_nil) pa_nil)))
    (pss_cons (ps_for PassesOwn.never rfl (pi_list (pv 0)) (pg_name (i := 2) sc.nd rfl (Or.inl rfl)) (pss_one (ps_set (i := 1) sc.nd rfl (Or.inl rfl) (pe_df D_law_longer (hr.mono (by decide)) (pa_cons (pv 1) (pa_cons (pe_callB call_len_seqI (by rfl) (B "len" (by decide +kernel)) bt_len (pa_cons (pv 2) pa_nil)) pa_nil))))))
    (pss_cons (ps_setLC (i := 3) sc.nd rfl (Or.inl rfl) (te := (tTup (tCons (tCB (rSum K) (tCons (tVar 0) tNil)) (tCons (tCB (rTupOf K) (tCons (tVar 0) tNil)) tNil)))) (tt := (tB (tCall (sp_inside K) [] E0 (tCons (tVar 1) (tCons (tVar 0) tNil))))) (blk_cx (ts := ["cut"]) (cap := [(0, "rows")]) (by decide +kernel) (by decide +kernel) (by decide +kernel) rfl (by decide +kernel) (by decide +kernel)) rfl (pi_list (pv 1)) (fun _ _ _ _ => (pg_name (i := 0) (show List.Nodup (["cut", "rows"] : List Str) by decide +kernel) rfl (Or.inl rfl))) (fun _ _ _ _ => pifs_one (pt_val (pe_df D_law_inside (hr.mono (by decide)) (pa_cons (pv 1) (pa_cons (pv 0) pa_nil))))) (fun _ _ _ _ => (pe_tup (pa_cons (pe_callB (call_sumI rfl) (by rfl) (B "sum" (by decide +kernel)) bt_sum (pa_cons (pv 0) pa_nil)) (pa_cons (pe_callTy call_tuple_ofI (by rfl) (B "tuple" (by decide +kernel)) bt_tuple (pa_cons (pv 0) pa_nil)) pa_nil)))))
    (pss_one (ps_ret (pe_lc (te := (tOp (rIxT K) (tVar 0) (tC (.int 1)))) (tt := tTrue) (Blk.plain (ts := ["pair"]) (by decide +kernel) (by decide +kernel) rfl (by decide +kernel)) rfl (pi_list (pe_callB (call_sortedP (un_of hr)) (by rfl) (B "sorted" (by decide +kernel)) bt_sorted (pa_cons (pv 3) pa_nil))) (fun _ _ _ _ => (pg_name (i := 0) (show List.Nodup (["pair"] : List Str) by decide +kernel) rfl (Or.inl rfl))) (fun _ _ _ _ => pifs_nil) (fun _ _ _ _ => (pe_ix ix_tup (pv 0) pe_int (fun _ _ => rfl))))))))), ?_⟩
  -- cuts = [[]]
  refine ⟨Nat.zero_le _, fun e0 he0 => ⟨(by show 1 ≤ sizeLine; decide), fun c0 hc0 => ?_⟩⟩
  have s0 := Same.new (o := .lst []) he0
  have s1 := Same.new (o := .lst [V.ref e0]) hc0
  have L0 : LsA (L2.upd (L2.upd H e0 (.lst [])) c0 (.lst [V.ref e0])) c0 [e0] (boxes ((rs.take 0).map List.length)) := ⟨upd_same, .cons (s1 _ _ upd_same) .nil⟩
  refine ⟨_, rfl, a, rfl, ⟨_, SqL.of (s1 _ _ (s0 _ _ hR.top))⟩, for_list (K := K) (a := a) (xs := ps.map V.ref) (inv_all_1 a rs H)
   ⟨⟨c0, _, rfl, [e0], L0⟩, s0.trans s1⟩ (fun i σ H2 _ ⟨_, s2⟩ => SqL.of (s2 _ _ hR.top)) ?_ ?_⟩
  ·rintro i y σ H2 hi ⟨⟨c, v2, rfl, qs, hQ⟩, s2⟩
   obtain ⟨p, hp, rfl⟩ := map_ref hi
   obtain ⟨r, hr', xs, hx, mx⟩ := hR.get hp
   have hil := (List.getElem?_eq_some_iff.mp hr').1
   have hxl := Paired.length mx
   have hr6 := hV.bnd.len i r hr'
   have hs := small i (by lia)
   refine ⟨_, rfl, _, rfl, p, xs, rfl, .inl (SqL.of (s2 _ _ hx)), c, qs, _, xs.length, rfl, hQ, by lia, ?_, fun l hl => ?_, fun f' qs' H3 s3 hf' hQ' => ?_⟩
   ·have := Nat.mul_le_mul hs (show xs.length + 1 ≤ 7 by lia)
    lia
   ·have := (mem_boxes.mp hl).1
    rw [this, List.length_map, List.length_take]
    lia
   ·refine ⟨⟨f', _, rfl, qs', ?_⟩, s2.trans s3⟩
    rw [List.take_add_one, hr', List.map_append]
    show LsA H3 f' qs' (boxes (_ ++ [r.length]))
    rw [boxes_snoc, ← hxl]
    exact hQ'
  rintro σ H2 ⟨⟨c, v2, rfl, qs, hQ⟩, s2⟩
  rw [List.length_map, hR.len, List.take_length] at hQ
  have hsm := small rs.length (Nat.le_refl _)
  rw [List.take_length] at hsm
  have hnd := boxes_nodup (rs.map List.length)
  have hin : ∀ c, Inside rs c → c ∈ boxes (rs.map List.length) := fun c => inside_box
  generalize boxes (rs.map List.length) = bs at hQ hsm hnd hin
  have hql := Paired.length hQ.2
  have R2 := hR.same s2
  -- good
  refine ⟨_, rfl, c, rfl, ⟨_, SqL.of hQ.1⟩, fun D hD => lc_list (K := K) (a := c) (xs := qs.map V.ref) (fun i σ ys H3 => (∃ v, σ = [v, some (.ref a)]) ∧ Same H2 H3 ∧ H3 D = some (.lst ys) ∧ ∃ cs, cs.Sublist (bs.take i) ∧ (∀ c ∈ cs, Inside rs c) ∧ (∀ c ∈ bs.take i, Inside rs c → c ∈ cs) ∧ Paired (PairV H3) ys (cs.map cutK))
   ⟨⟨_, rfl⟩, Same.new hD, upd_same, [], List.Sublist.refl _, fun c hc => (nomatch hc), fun c hc => (by simp at hc), .nil⟩ (fun i σ ys H3 _ ⟨_, s3, _⟩ => SqL.of (s3 _ _ hQ.1)) ?_ ?_⟩
  ·rintro i y σ ys H3 hi ⟨⟨v, rfl⟩, s3, hD3, cs, sub, ok, all, mp⟩
   obtain ⟨p, hp, rfl⟩ := map_ref hi
   obtain ⟨l, hli, hpl⟩ := Paired.get hQ.2 hp
   have hp3 : H3 p = some (.lst (l.map V.int)) := s3 _ _ hpl
   have etake : bs.take (i + 1) = bs.take i ++ [l] := by rw [List.take_add_one, hli]; rfl
   have hyl : ys.length ≤ 2401 := by
    have h1 := Paired.length mp
    have h2 := sub.length_le
    rw [List.length_map] at h1
    rw [List.length_take] at h2
    lia
   refine ⟨_, rfl, _, rfl, a, ps, rs, p, l, rfl, R2.same s3, hV, .inl (SqL.of hp3), fun b H4 s4 hb => ⟨b, rfl, ?_⟩⟩
   have hD4 := s4 _ _ hD3
   have mp4 := Paired.mapP mp fun x k z => pairV_same s4 z
   cases b with
   | false =>
    refine iteF ⟨⟨_, rfl⟩, s3.trans s4, hD4, cs, ?_, ok, fun c hc hI => ?_, mp4⟩
    ·rw [etake]; exact sub.trans (List.sublist_append_left _ _)
    ·rw [etake] at hc
     rcases List.mem_append.mp hc with z | z
     ·exact all c z hI
     ·have : c = l := by simpa using z
      subst this
      exact absurd (hb.mpr hI) Bool.false_ne_true
   | true =>
    refine iteT ?_
    have hI := hb.mp rfl
    have hp4 := s4 _ _ hp3
    refine ⟨_, rfl, p, l, rfl, .inl (SqL.of hp4), _, rfl, p, _, rfl, .inl ⟨SqL.of hp4, fun u hu => ?_⟩⟩
    have s5 := Same.new (o := .tup (l.map V.int)) hu
    refine ⟨(by show 2 ≤ sizeLine; decide), fun t ht => ?_⟩
    have s6 := Same.new (o := .tup [V.int l.sum, V.ref u]) ht
    have hD6 := s6 _ _ (s5 _ _ hD4)
    refine ⟨hD6, by rw [sizeLine_eq]; lia, ⟨_, rfl⟩, fun b o z => ?_, upd_same, cs ++ [l], ?_, fun c hc => ?_, fun c hc hI' => ?_, ?_⟩
    ·rw [upd_ne (ne_of_none z hD)]
     exact s6 _ _ (s5 _ _ (s4 _ _ (s3 b o z)))
    ·rw [etake]; exact sub.append (List.Sublist.refl _)
    ·rcases List.mem_append.mp hc with z | z
     ·exact ok c z
     ·have : c = l := by simpa using z
      subst this
      exact hI
    ·rw [etake] at hc
     rcases List.mem_append.mp hc with z | z
     ·exact List.mem_append_left _ (all c z hI')
     ·exact List.mem_append_right _ z
    ·rw [List.map_append]
     refine Paired.snoc (Paired.mapP mp4 fun x k z => pairV_off (pairV_same s6 (pairV_same s5 z)) hD6) (pairV_off ⟨t, u, rfl, upd_same, s6 _ _ upd_same⟩ hD6)
  rintro σ ys H3 ⟨⟨v, rfl⟩, s3, hD3, cs, sub, ok, all, mp⟩
  rw [List.length_map, hql, List.take_length] at sub all
  have hyl : ys.length ≤ 2401 := by
   have h1 := Paired.length mp
   have h2 := sub.length_le
   rw [List.length_map] at h1
   lia
  have ndc : cs.Nodup := hnd.sublist sub
  have hmem : ∀ c, c ∈ cs ↔ Inside rs c := fun c => ⟨ok c, fun hI => all c (hin c hI) hI⟩
  -- sorted(good)
  refine ⟨_, rfl, D, ys, _, rfl, SqL.of hD3, mp, by lia, fun l zs ms hl pz pm pp srt => ?_⟩
  have s4 := Same.new (o := .lst zs) hl
  have hzl : zs.length ≤ 2401 := by rw [pz.length_eq]; exact hyl
  have hml := Paired.length pp
  -- the keys are (sum, cut)
  have kform : ∀ k ∈ ms, k = cutK k.2 := fun k hk => by
   obtain ⟨c, _, rfl⟩ := List.mem_map.mp (pm.mem_iff.mp hk)
   rfl
  have ems : (ms.map (·.2)).map cutK = ms := by
   rw [List.map_map]
   conv => rhs; rw [← List.map_id ms]
   exact List.map_congr_left fun k hk => (kform k hk).symm
  have ac : AllCuts rs (ms.map (·.2)) := by
   have ndm : (ms.map (·.2)).Nodup := by
    have := (pm.map (·.2)).nodup_iff.mpr (by rw [List.map_map]; simpa [Function.comp_def, cutK] using ndc)
    exact this
   refine ⟨fun c => ?_, strict_of (f := cutK) (fun a b e => congrArg Prod.snd e) (by rw [ems]; exact srt) ndm⟩
   rw [← hmem c, (pm.map (·.2)).mem_iff, List.map_map]
   simp [Function.comp_def, cutK]
  refine ⟨l, rfl, ⟨_, SqL.of upd_same⟩, fun D2 hD2 => lc_list (K := K) (a := l) (xs := zs) (fun i σ ys H5 => (∃ v, σ = [v]) ∧ Same (L2.upd H3 l (.lst zs)) H5 ∧ H5 D2 = some (.lst ys) ∧ Paired (TupI H5) ys ((ms.map (·.2)).take i))
   ⟨⟨_, rfl⟩, Same.new hD2, upd_same, .nil⟩ (fun i σ ys H5 _ ⟨_, s5, _⟩ => SqL.of (s5 _ _ upd_same)) ?_ ?_⟩
  ·rintro i y σ ys H5 hi ⟨⟨v, rfl⟩, s5, hD5, mt⟩
   obtain ⟨k, hk, t, u, rfl, ht, hu⟩ := Paired.get pp hi
   have hil := (List.getElem?_eq_some_iff.mp hi).1
   have ht5 := s5 _ _ (s4 _ _ ht)
   have hu5 := s5 _ _ (s4 _ _ hu)
   have hyl2 := Paired.length mt
   rw [List.length_take, List.length_map] at hyl2
   refine ⟨_, rfl, t, _, 1, _, rfl, rfl, SqT.of ht5, rfl, hD5, by rw [sizeLine_eq]; lia, ⟨_, rfl⟩, fun b o z => ?_, upd_same, ?_⟩
   ·rw [upd_ne (ne_of_none z hD2)]
    exact s5 b o z
   ·rw [List.take_add_one, List.getElem?_map, hk]
    exact Paired.snoc (Paired.mapP mt fun _ _ z => z.off hD5) (TupI.off ⟨u, rfl, hu5⟩ hD5)
  ·rintro σ ys H5 ⟨⟨v, rfl⟩, s5, hD5, mt⟩
   rw [hml, ← List.length_map (f := fun (x : NK) => x.2), List.take_length] at mt
   have hD20 : H D2 = none := s2.free (s3.free (s4.free hD2))
   exact q D2 _ H5 (s2.trans (s3.trans (s4.trans s5))) hD20 ⟨ys, hD5, mt⟩ ac
end
noncomputable abbrev s_can_go_on : Stmt := top 16
theorem sc_can_go_on : FnScope ["record", "cut", "hand", "row", "count"] ["record", "cut", "hand"] (defScope s_can_go_on) := ⟨rfl, rfl, rfl, by decide +kernel, rfl, by decide +kernel, by decide +kernel⟩
noncomputable abbrev s_nexts : Stmt := top 15
theorem sc_nexts : FnScope ["record", "cut"] ["record", "cut"] (defScope s_nexts) := ⟨rfl, rfl, rfl, by decide +kernel, rfl, by decide +kernel, by decide +kernel⟩
section
variable {P : Program} {w : World} {K : PySem.W.Frag} {mg : Str → Option Value} {base : Heap}
theorem ok_cango {f C : Addr} {fd : FuncData} (F : Fun K "can_go_on" "can_go_on" s_can_go_on f fd) (B : Bl mg) (R : RecC K C) (D_can_be_done : Df P w K mg base 1 "can_be_done" ["event", "sends", "counts"] (sp_canS K)) : FnOk P w K mg base CX0 2 f fd ["record", "cut", "hand"] (sp_cango C) := by
 have sc := sc_can_go_on
 refine F.ok sc (fun vs H Q E h => ?_) (fun cdv A outer s H vs Q E hr h => ?_)
 ·obtain ⟨x, a, sd, td, ps, rs, c, ns, h, rfl, _⟩ := h
  rfl
 ·obtain ⟨x, a, sd, td, ps, rs, c, ns, h, rfl, hA, hC, hI, hh, q⟩ := h
  have hC : H c = some (.tup (ns.map V.int)) := hC
  obtain ⟨dx, hx⟩ := hA.ob
  have hR := hA.rows
  have hv := hA.val
  have hn : ns[h]? = some ns[h] := List.getElem?_eq_getElem hh
  generalize ns[h] = n at hn
  obtain ⟨r, hr', n0, n1⟩ := row_of hI hn
  obtain ⟨rp, hrp, xs, hxs, m⟩ := hR.row hr'
  have hxl := Paired.length m
  have hm : (ps.map V.ref)[h]? = some (.ref rp) := by rw [List.getElem?_map, hrp]; rfl
  obtain ⟨k, rfl⟩ : ∃ k : Nat, n = (k : Int) := ⟨n.toNat, by lia⟩
  have giff : Goes rs ns h ↔ ∃ e, at? rs h k = some e ∧ FreeI rs ns e := by
   have := goes_iff hv hI hn
   rw [Int.toNat_natCast] at this
   rw [← this]
   refine ⟨fun ⟨n', hn', z⟩ => ?_, fun z => ⟨_, hn, z⟩⟩
   rw [hn] at hn'
   cases hn'
   exact z
  refine ⟨_, (pss_cons (ps_set (i := 3) sc.nd rfl (Or.inl rfl) (pe_ix ix_list (pe_fld (pv 0) rfl) (pv 2) (fun _ _ => rfl)))
    (pss_cons (ps_set (i := 4) sc.nd rfl (Or.inl rfl) (pe_ix ix_tup (pv 1) (pv 2) (fun _ _ => rfl)))
    (pss_one (ps_ret (pe_and (pe_cmpR op_lt (pv 4) (pe_callB call_len_seqI (by rfl) (B "len" (by decide +kernel)) bt_len (pa_cons (pv 3) pa_nil)) (nomark _)) (pe_one (pe_df D_can_be_done (hr.mono (by decide)) (pa_cons (pe_ix ix_list (pv 3) (pv 4) (fun _ _ => rfl)) (pa_cons (pe_fld (pv 0) rfl) (pa_cons (pv 1) pa_nil)))))))))), ?_⟩
  refine ⟨_, rfl, x, C, dx, _, _, rfl, hx, R.cl, R.nR, rec_rows _ _ _, _, rfl, a, _, _, _, rfl, rfl, SqL.of hR.top, atI_nat hm, ?_⟩
  refine ⟨_, rfl, _, rfl, c, _, _, _, rfl, rfl, SqT.of hC, ints_at hn, ?_⟩
  refine ⟨_, rfl, _, rfl, rp, xs, rfl, .inl (SqL.of hxs), _, _, rfl, rfl, _, rfl, ?_⟩
  refine ite2 (fun h1 => ?_) (fun h1 => ?_)
  ·have h1 : ((k : Nat) : Int) < ((xs.length : Nat) : Int) := of_decide_eq_true h1
   have her : r[k]? = some (r[k]'(by lia)) := List.getElem?_eq_getElem (by lia)
   generalize r[k]'(by lia) = e at her
   have hat : at? rs h k = some e := by rw [at_row hr']; exact her
   obtain ⟨y, hy, te, rfl, hte⟩ := Paired.getR m her
   refine ⟨_, rfl, _, rfl, rp, xs, _, _, rfl, rfl, SqL.of hxs, atI_nat hy, _, rfl, x, C, dx, _, _, rfl, hx, R.cl, R.nS, rec_sends _ _ _, _, rfl, te, sd, c, e, ns, rs, rfl, hte, hA.sends, .inr (SqT.of hC), hI.len, hv.us, fun hk => hv.sent h k e hat hk, fun b hb => ?_⟩
   refine q b ?_
   rw [hb, giff]
   refine ⟨fun z => ⟨e, hat, z⟩, fun ⟨e', he', z⟩ => ?_⟩
   rw [hat] at he'
   cases he'
   exact z
  ·have h1 : ¬ ((k : Nat) : Int) < ((xs.length : Nat) : Int) := fun w => h1 (decide_eq_true w)
   refine q false ⟨fun z => (nomatch z), fun z => ?_⟩
   obtain ⟨e, he, _⟩ := giff.mp z
   rw [at_row hr'] at he
   have := (List.getElem?_eq_some_iff.mp he).1
   lia
noncomputable def inv_nexts_1 (x : PySem.Addr) (c : PySem.Addr) (rs : Cw.Rows) (ns : List Int) (H : L2.Hp) (D : PySem.Addr) : Nat → St → List V → Hp → Prop := fun i σ ys H2 => ∃ v hs, σ = [v, some (.ref x), some (.ref c)] ∧ ys = csV hs ∧ NextsTo rs ns i hs ∧ Same H H2 ∧ H2 D = some (.lst ys)
theorem ok_nexts {f C : Addr} {fd : FuncData} (F : Fun K "nexts" "nexts" s_nexts f fd) (B : Bl mg) (R : RecC K C) (D_can_go_on : Df P w K mg base 2 "can_go_on" ["record", "cut", "hand"] (sp_cango C)) : FnOk P w K mg base CX0 3 f fd ["record", "cut"] (sp_nexts C) := by
 have sc := sc_nexts
 refine F.ok sc (fun vs H Q E h => ?_) (fun cdv A outer s H vs Q E hr h => ?_)
 ·obtain ⟨x, a, sd, td, ps, rs, c, ns, rfl, _⟩ := h
  rfl
 ·obtain ⟨x, a, sd, td, ps, rs, c, ns, rfl, hA, hC, hI, q⟩ := h
  have hC : H c = some (.tup (ns.map V.int)) := hC
  have hb4 := hA.val.bnd.hi
  have hnl : ns.length ≤ 4 := by rw [hI.len]; exact hb4
  have hml : (((ns.map V.int).length : Nat) : Int) ≤ 4 := by rw [List.length_map]; lia
  refine ⟨_, (pss_one (ps_ret (pe_lc (te := (tVar 0)) (tt := (tB (tCall (sp_cango C) [] E0 (tCons (tVar 1) (tCons (tVar 2) (tCons (tVar 0) tNil)))))) (blk_cx (ts := ["hand"]) (cap := [(0, "record"), (1, "cut")]) (by decide +kernel) (by decide +kernel) (by decide +kernel) rfl (by decide +kernel) (by decide +kernel)) rfl (pi_range1 rfl (B "range" (by decide +kernel)) (pa_cons (pe_callB call_len_seqI (by rfl) (B "len" (by decide +kernel)) bt_len (pa_cons (pv 1) pa_nil)) pa_nil)) (fun _ _ _ _ => (pg_name (i := 0) (show List.Nodup (["hand", "record", "cut"] : List Str) by decide +kernel) rfl (Or.inl rfl))) (fun _ _ _ _ => pifs_one (pt_val (pe_df D_can_go_on (hr.mono (by decide)) (pa_cons (pv 1) (pa_cons (pv 2) (pa_cons (pv 0) pa_nil)))))) (fun _ _ _ _ => (pv 0))))), ?_⟩
  refine ⟨_, rfl, c, _, rfl, .inr (SqT.of hC), _, rfl, by lia, by lia, fun D hD => lc_range (lo := 0) (n := (ns.map V.int).length) (inv_nexts_1 x c rs ns H D)
   ⟨_, [], rfl, rfl, NextsTo.zero _ _, Same.new hD, upd_same⟩ ?_ ?_⟩
  ·rintro i σ ys H2 hi ⟨v, hs, rfl, rfl, hN, s2, hD2⟩
   rw [show (0 : Int) + ((i : Nat) : Int) = ((i : Nat) : Int) from Int.zero_add _]
   rw [List.length_map] at hi
   have hlen := hN.len
   refine ⟨_, rfl, _, rfl, _, rfl, x, a, sd, td, ps, rs, c, ns, i, rfl, hA.same s2, s2 _ _ hC, hI, hi, fun b hb => ⟨b, rfl, ?_⟩⟩
   cases b with
   | true =>
    refine iteT ?_
    refine ⟨_, rfl, hD2, small1000 (by unfold csV; rw [List.length_map]; lia), _, hs ++ [i], rfl, ?_, hN.yes (hb.mp rfl), fun b o z => ?_, ?_⟩
    ·unfold csV; rw [List.map_append]; rfl
    ·rw [upd_ne (ne_of_none z hD)]; exact s2 b o z
    ·exact upd_same
   | false =>
    refine iteF ?_
    exact ⟨_, hs, rfl, rfl, hN.no fun z => Bool.false_ne_true (hb.mpr z), s2, hD2⟩
  ·rintro σ ys H2 ⟨v, hs, rfl, rfl, hN, s2, hD2⟩
   rw [List.length_map] at hN
   exact q D hs H2 s2 hD hD2 hN.all
end
noncomputable abbrev s_beginning : Stmt := top 17
theorem sc_beginning : FnScope ["record"] ["record"] (defScope s_beginning) := ⟨rfl, rfl, rfl, by decide +kernel, rfl, by decide +kernel, by decide +kernel⟩
noncomputable abbrev s_added : Stmt := top 18
theorem sc_added : FnScope ["cut", "hand"] ["cut", "hand"] (defScope s_added) := ⟨rfl, rfl, rfl, by decide +kernel, rfl, by decide +kernel, by decide +kernel⟩
section
variable {P : Program} {w : World} {K : PySem.W.Frag} {mg : Str → Option Value} {base : Heap}
noncomputable def inv_begin_1 (H : L2.Hp) (D : PySem.Addr) : Nat → St → List V → Hp → Prop := fun i σ ys H2 => ∃ v, σ = [v] ∧ ys = List.replicate i (.int 0) ∧ Same H H2 ∧ H2 D = some (.lst ys)
theorem ok_begin {f C : Addr} {fd : FuncData} (F : Fun K "beginning" "beginning" s_beginning f fd) (B : Bl mg) (R : RecC K C) : FnOk P w K mg base CX0 1 f fd ["record"] (sp_begin C) := by
 have sc := sc_beginning
 refine F.ok sc (fun vs H Q E h => ?_) (fun cdv A outer s H vs Q E hr h => ?_)
 ·obtain ⟨x, a, sd, td, ps, rs, rfl, _⟩ := h
  rfl
 ·obtain ⟨x, a, sd, td, ps, rs, rfl, hA, q⟩ := h
  obtain ⟨dx, hx⟩ := hA.ob
  have hR := hA.rows
  have hb4 := hA.val.bnd.hi
  refine ⟨_, (pss_one (ps_ret (pe_callTy call_tuple_ofI (by rfl) (B "tuple" (by decide +kernel)) bt_tuple (pa_cons (pe_lc (te := (tC (.int 0))) (tt := tTrue) (Blk.plain (ts := ["row"]) (by decide +kernel) (by decide +kernel) rfl (by decide +kernel)) rfl (pi_list (pe_fld (pv 0) rfl)) (fun _ _ _ _ => (pg_name (i := 0) (show List.Nodup (["row"] : List Str) by decide +kernel) rfl (Or.inl rfl))) (fun _ _ _ _ => pifs_nil) (fun _ _ _ _ => pe_int)) pa_nil)))), ?_⟩
  refine ⟨_, rfl, x, C, dx, _, _, rfl, hx, R.cl, R.nR, rec_rows _ _ _, a, rfl, ⟨_, SqL.of hR.top⟩, fun D hD => lc_list (K := K) (a := a) (xs := ps.map V.ref) (inv_begin_1 H D)
   ⟨_, rfl, rfl, Same.new hD, upd_same⟩ (fun i σ ys H2 _ ⟨v, _, _, s2, _⟩ => SqL.of (s2 _ _ hR.top)) ?_ ?_⟩
  ·rintro i y σ ys H2 hi ⟨v, rfl, rfl, s2, hD2⟩
   have hi' := lt_of_get hi
   rw [List.length_map, hR.len] at hi'
   exact ⟨hD2, small1000 (by rw [List.length_replicate]; lia), _, rfl, by rw [List.replicate_succ'], s2.off hD, upd_same⟩
  ·rintro σ ys H2 ⟨v, rfl, rfl, s2, hD2⟩
   refine ⟨D, _, rfl, .inl ⟨SqL.of hD2, fun l hl => q l _ (s2.trans (Same.new hl)) ?_⟩⟩
   have e : List.replicate (ps.map V.ref).length (V.int 0) = (rs.map fun _ => (0 : Int)).map V.int := by
    rw [List.length_map, hR.len, List.map_map]
    exact (List.map_const' (l := rs) (b := V.int 0)).symm
   rw [e]
   exact upd_same
theorem ok_added {f : Addr} {fd : FuncData} (F : Fun K "added" "added" s_added f fd) (B : Bl mg) : FnOk P w K mg base CX0 1 f fd ["cut", "hand"] sp_added := by
 have sc := sc_added
 refine F.ok sc (fun vs H Q E h => ?_) (fun cdv A outer s H vs Q E hr h => ?_)
 ·obtain ⟨c, ns, h, n, rfl, _⟩ := h
  rfl
 ·obtain ⟨c, ns, h, n, rfl, hC, hl, hn, q⟩ := h
  have hC : H c = some (.tup (ns.map V.int)) := hC
  have hh := lt_of_get hn
  have hml : (ns.map V.int).length = ns.length := List.length_map ..
  refine ⟨_, (pss_one (ps_ret (pe_op op_catA (pe_op op_catA (pe_slice sl_tup (pv 0) po_none (po_some (pv 1))) (pe_tup (pa_cons (pe_op op_add (pe_ix ix_tup (pv 0) (pv 1) (fun _ _ => rfl)) pe_int) pa_nil))) (pe_slice sl_tup (pv 0) (po_some (pe_op op_add (pv 1) pe_int)) po_none)))), ?_⟩
  refine ⟨_, rfl, _, rfl, _, rfl, c, _, rfl, SqT.of hC, (by rw [HT.sIx_nat, hml]; lia), fun p hp => ?_⟩
  rw [cut_to (by rw [hml]; lia), ← List.map_take]
  have s1 := Same.new (o := .tup ((ns.take h).map V.int)) hp
  have hp1 : L2.upd H p (.tup ((ns.take h).map V.int)) p = some (.tup ((ns.take h).map V.int)) := upd_same
  generalize L2.upd H p (.tup ((ns.take h).map V.int)) = H1 at s1 hp1
  refine ⟨_, rfl, _, rfl, c, _, _, _, rfl, rfl, SqT.of (s1 _ _ hC), ints_at hn, _, _, rfl, rfl, (by show 1 ≤ sizeLine; decide), fun t ht => ?_⟩
  have s2 := Same.new (o := .tup [V.int (n + 1)]) ht
  have ht2 : L2.upd H1 t (.tup [V.int (n + 1)]) t = some (.tup [V.int (n + 1)]) := upd_same
  have hp2 := s2 _ _ hp1
  have s12 := s1.trans s2
  generalize L2.upd H1 t (.tup [V.int (n + 1)]) = H2 at s2 ht2 hp2 s12
  have big : ∀ k : Nat, k ≤ 2000 → k ≤ sizeLine := fun k hk => by rw [sizeLine_eq]; lia
  -- the last part
  have rest : ∀ (u : Addr) (H3 : Hp), Same H H3 → H3 u = some (.tup ((ns.take h ++ [n + 1]).map V.int)) → tOp (rCatA K) (tC (.ref u)) (tSl (rSlT K) (tVar 0) (tPart (tOp (rI0 fun i j => .int (i + j)) (tVar 1) (tC (.int 1)))) tNoPart) [some (.ref c), some (.int (h : Nat))] H3 Q := by
   intro u H3 s3 hu
   refine ⟨_, rfl, _, rfl, _, _, rfl, rfl, _, rfl, c, _, rfl, SqT.of (s3 _ _ hC), ?_, fun g hg => ?_⟩
   ·show ¬ (HT.sIx (ns.map V.int).length 0 (some (((h : Nat) : Int) + 1)) = 0 ∧ _)
    rw [show ((h : Nat) : Int) + 1 = ((h + 1 : Nat) : Int) from rfl, HT.sIx_nat, hml]
    lia
   have ec : cutV (ns.map V.int) (some (((h : Nat) : Int) + 1)) none = (ns.drop (h + 1)).map V.int := by
    unfold cutV
    rw [show ((h : Nat) : Int) + 1 = ((h + 1 : Nat) : Int) from rfl, HT.sIx_nat, HT.sIx_none, hml, Nat.min_eq_left (by lia), ← List.map_drop]
    exact List.take_of_length_le (by rw [List.length_map, List.length_drop]; exact Nat.le_refl _)
   show rCatA K (.ref u) (.ref g) (L2.upd H3 g (.tup (cutV (ns.map V.int) (some (((h : Nat) : Int) + 1)) none))) Q
   rw [ec]
   have s4 := Same.new (o := .tup ((ns.drop (h + 1)).map V.int)) hg
   have hg4 : L2.upd H3 g (.tup ((ns.drop (h + 1)).map V.int)) g = some (.tup ((ns.drop (h + 1)).map V.int)) := upd_same
   have s34 := s3.trans s4
   have hu4 := s4 _ _ hu
   generalize L2.upd H3 g (.tup ((ns.drop (h + 1)).map V.int)) = H4 at s4 hg4 s34 hu4
   have es : ns.set h (n + 1) = (ns.take h ++ [n + 1]) ++ ns.drop (h + 1) := by
    rw [List.set_eq_take_append_cons_drop, if_pos hh, List.append_assoc]
    rfl
   refine ⟨u, g, _, _, rfl, rfl, SqT.of hu4, SqT.of hg4, big _ ?_, fun z => ?_, fun _ z => ?_, fun _ _ p2 hp2 => ?_⟩
   ·rw [List.length_map, List.length_map, List.length_append, List.length_take, List.length_drop, List.length_singleton]; lia
   ·exact absurd z (by simp)
   ·have z : ns.drop (h + 1) = [] := by simpa using z
    exact q u H4 s34 (by rw [es, z, List.append_nil]; exact hu4)
   ·refine q p2 _ (s34.trans (Same.new hp2)) ?_
    rw [es]
    show L2.upd H4 p2 _ p2 = some (.tup (List.map V.int ((ns.take h ++ [n + 1]) ++ ns.drop (h + 1))))
    rw [List.map_append (l₁ := ns.take h ++ [n + 1])]
    exact upd_same
  refine ⟨p, t, _, _, rfl, rfl, SqT.of hp2, SqT.of ht2, big _ ?_, fun z => ?_, fun _ z => ?_, fun _ _ p2 hp2 => ?_⟩
  ·rw [List.length_map, List.length_take]; show _ + 1 ≤ 2000; lia
  ·have z : ns.take h = [] := by simpa using z
   refine rest t H2 s12 ?_
   rw [z]
   exact ht2
  ·cases z
  ·refine rest p2 _ (s12.trans (Same.new hp2)) ?_
   rw [List.map_append]
   exact upd_same
end
noncomputable abbrev s_value_in : Stmt := top 23
theorem sc_value_in : FnScope ["record", "cut", "hand"] ["record", "cut", "hand"] (defScope s_value_in) := ⟨rfl, rfl, rfl, by decide +kernel, rfl, by decide +kernel, by decide +kernel⟩
noncomputable abbrev s_term_holds : Stmt := top 22
theorem sc_term_holds : FnScope ["record", "cut", "term", "value", "sign", "number"] ["record", "cut", "term"] (defScope s_term_holds) := ⟨rfl, rfl, rfl, by decide +kernel, rfl, by decide +kernel, by decide +kernel⟩
noncomputable abbrev s_way_holds : Stmt := top 21
theorem sc_way_holds : FnScope ["record", "cut", "way"] ["record", "cut", "way"] (defScope s_way_holds) := ⟨rfl, rfl, rfl, by decide +kernel, rfl, by decide +kernel, by decide +kernel⟩
noncomputable abbrev s_holds : Stmt := top 20
theorem sc_holds : FnScope ["record", "cut", "wish"] ["record", "cut", "wish"] (defScope s_holds) := ⟨rfl, rfl, rfl, by decide +kernel, rfl, by decide +kernel, by decide +kernel⟩
section
variable {P : Program} {w : World} {K : PySem.W.Frag} {mg : Str → Option Value} {base : Heap}
theorem ok_valin {f C : Addr} {fd : FuncData} (F : Fun K "value_in" "value_in" s_value_in f fd) (B : Bl mg) (R : RecC K C) : FnOk P w K mg base CX0 1 f fd ["record", "cut", "hand"] (sp_valin C) := by
 have sc := sc_value_in
 refine F.ok sc (fun vs H Q E h => ?_) (fun cdv A outer s H vs Q E hr h => ?_)
 ·obtain ⟨x, a, sd, td, ps, rs, c, ns, h, rfl, _⟩ := h
  rfl
 ·obtain ⟨x, a, sd, td, ps, rs, c, ns, h, rfl, hA, hC, hI, hh, q⟩ := h
  have hC : H c = some (.tup (ns.map V.int)) := hC
  obtain ⟨dx, hx⟩ := hA.ob
  have hR := hA.rows
  obtain ⟨n, hn⟩ := get_of hh
  refine ⟨_, (pss_cons (ps_if ((pw_or (pt_cmpR op_lt (pv 2) pe_int (nomark _)) (pw_or (pt_cmpR op_ge (pv 2) (pe_callB call_len_seqI (by rfl) (B "len" (by decide +kernel)) bt_len (pa_cons (pv 1) pa_nil)) (nomark _)) (pw_or1 (pt_cmpR op_eq (pe_ix ix_tup (pv 1) (pv 2) (fun _ _ => rfl)) pe_int (nomark _)))))).pt (pss_one (ps_ret pe_int)) pss_nil)
    (pss_one (ps_ret (pe_ix ix_tup (pe_ix ix_list (pe_ix ix_list (pe_fld (pv 0) rfl) (pv 2) (fun _ _ => rfl)) (pe_op op_sub (pe_ix ix_tup (pv 1) (pv 2) (fun _ _ => rfl)) pe_int) (fun _ _ => rfl)) pe_int (fun _ _ => rfl))))), ?_⟩
  refine ⟨_, rfl, _, _, rfl, rfl, _, rfl, ?_⟩
  refine ite2 (fun z => absurd (of_decide_eq_true z) (by show ¬ ((h : Nat) : Int) < 0; lia)) (fun _ => ?_)
  refine ⟨_, rfl, _, rfl, c, _, rfl, .inr (SqT.of hC), _, _, rfl, rfl, _, rfl, ?_⟩
  refine ite2 (fun z => absurd (of_decide_eq_true z) (by show ¬ (((ns.map V.int).length : Nat) : Int) ≤ ((h : Nat) : Int); rw [List.length_map]; lia)) (fun _ => ?_)
  refine ⟨_, rfl, _, rfl, c, _, _, _, rfl, rfl, SqT.of hC, ints_at hn, rfl, _, rfl, ?_⟩
  refine ite2 (fun h1 => ?_) (fun h1 => ?_)
  ·have h1 : V.int n = V.int 0 := of_decide_eq_true h1
   injection h1 with h1
   subst h1
   rw [valIn_zero hn] at q
   exact q
  ·have nz : n ≠ 0 := fun z => h1 (decide_eq_true (by rw [z]))
   obtain ⟨np, r, e, hr', hre, hat⟩ := inside_at hI hn nz
   obtain ⟨rp, hrp, xs, hxs, m⟩ := hR.row hr'
   have hm : (ps.map V.ref)[h]? = some (.ref rp) := by rw [List.getElem?_map, hrp]; rfl
   obtain ⟨y, hy, te, rfl, hte⟩ := Paired.getR m hre
   have ei : n - 1 = (((n - 1).toNat : Nat) : Int) := by lia
   rw [valIn_at hn nz hat] at q
   exact ⟨_, rfl, x, C, dx, _, _, rfl, hx, R.cl, R.nR, rec_rows _ _ _, _, rfl, a, _, _, _, rfl, rfl, SqL.of hR.top, atI_nat hm, _, rfl, _, rfl, c, _, _, _, rfl, rfl, SqT.of hC, ints_at hn, _, _, rfl, rfl, rp, xs, _, _, rfl, rfl, SqL.of hxs, by rw [ei]; exact atI_nat hy, te, _, 2, _, rfl, rfl, SqT.of hte, rfl, q⟩
theorem ok_termh {f C : Addr} {fd : FuncData} (F : Fun K "term_holds" "term_holds" s_term_holds f fd) (B : Bl mg) (R : RecC K C) (D_value_in : Df P w K mg base 1 "value_in" ["record", "cut", "hand"] (sp_valin C)) : FnOk P w K mg base CX0 2 f fd ["record", "cut", "term"] (sp_termh C) := by
 have sc := sc_term_holds
 refine F.ok sc (fun vs H Q E h => ?_) (fun cdv A outer s H vs Q E hr h => ?_)
 ·obtain ⟨x, a, sd, td, ps, rs, c, ns, t, m, rfl, _⟩ := h
  rfl
 ·obtain ⟨x, a, sd, td, ps, rs, c, ns, t, m, rfl, hA, hC, hI, ht, hh, q⟩ := h
  refine ⟨_, (pss_cons (ps_set (i := 3) sc.nd rfl (Or.inl rfl) (pe_df D_value_in (hr.mono (by decide)) (pa_cons (pv 0) (pa_cons (pv 1) (pa_cons (pe_ix ix_tup (pv 2) pe_int (fun _ _ => rfl)) pa_nil)))))
    (pss_cons (ps_set (i := 4) sc.nd rfl (Or.inl rfl) (pe_ix ix_tup (pv 2) pe_int (fun _ _ => rfl)))
    (pss_cons (ps_set (i := 5) sc.nd rfl (Or.inl rfl) (pe_ix ix_tup (pv 2) pe_int (fun _ _ => rfl)))
    (pss_cons (ps_if (pt_cmpR op_eq (pv 4) pe_str (nomark _)) (pss_one (ps_ret (pe_cmpR op_lt (pv 3) (pv 5) (nomark _)))) pss_nil)
    (pss_cons (ps_if (pt_cmpR op_eq (pv 4) pe_str (nomark _)) (pss_one (ps_ret (pe_cmpR op_eq (pv 3) (pv 5) (nomark _)))) pss_nil)
    (pss_one (ps_ret (pe_cmpR op_gt (pv 3) (pv 5) (nomark _))))))))), ?_⟩
  refine ⟨_, rfl, _, rfl, _, rfl, t, _, 0, _, rfl, rfl, SqT.of ht, rfl, x, a, sd, td, ps, rs, c, ns, m.h, rfl, hA, hC, hI, hh, ?_⟩
  refine ⟨_, rfl, t, _, 1, _, rfl, rfl, SqT.of ht, rfl, ?_⟩
  refine ⟨_, rfl, t, _, 2, _, rfl, rfl, SqT.of ht, rfl, ?_⟩
  refine ⟨_, rfl, rfl, _, rfl, ?_⟩
  unfold tmHolds at q
  refine ite2 (fun h1 => ?_) (fun h1 => ?_)
  ·have h1 : decide (V.str m.s.str = V.str Sg.lt.str) = true := h1
   rw [sg_dec] at h1
   have h1 : m.s = .lt := of_decide_eq_true h1
   rw [h1] at q
   exact ⟨_, rfl, _, rfl, _, _, rfl, rfl, q⟩
  have h1 : ¬ m.s = .lt := fun z => h1 (by show decide (V.str m.s.str = V.str Sg.lt.str) = true; rw [sg_dec, decide_eq_true z])
  refine ⟨_, rfl, rfl, _, rfl, ?_⟩
  refine ite2 (fun h2 => ?_) (fun h2 => ?_)
  ·have h2 : decide (V.str m.s.str = V.str Sg.eq.str) = true := h2
   rw [sg_dec] at h2
   have h2 : m.s = .eq := of_decide_eq_true h2
   rw [h2] at q
   refine ⟨_, rfl, _, rfl, rfl, ?_⟩
   have e : decide (V.int (valIn rs ns m.h) = V.int m.n) = decide (valIn rs ns m.h = m.n) := decide_eq_decide.mpr ⟨fun z => by injection z, fun z => by rw [z]⟩
   show Q (.bl (decide (V.int (valIn rs ns m.h) = V.int m.n))) H
   rw [e]
   exact q
  have h2 : ¬ m.s = .eq := fun z => h2 (by show decide (V.str m.s.str = V.str Sg.eq.str) = true; rw [sg_dec, decide_eq_true z])
  have h3 : m.s = .gt := by
   cases e : m.s with
   | lt => exact absurd e h1
   | eq => exact absurd e h2
   | gt => rfl
  rw [h3] at q
  exact ⟨_, rfl, _, rfl, _, _, rfl, rfl, q⟩
noncomputable def inv_wayh_1 (x : PySem.Addr) (c : PySem.Addr) (rs : Cw.Rows) (ns : List Int) (ts : List Cw.Tm) (H : L2.Hp) (D : PySem.Addr) : Nat → St → List V → Hp → Prop := fun i σ ys H2 => ∃ v, σ = [v, some (.ref x), some (.ref c)] ∧ ys = ((ts.take i).map (tmHolds rs ns)).map V.bl ∧ Same H H2 ∧ H2 D = some (.lst ys)
theorem ok_wayh {f C : Addr} {fd : FuncData} (F : Fun K "way_holds" "way_holds" s_way_holds f fd) (B : Bl mg) (R : RecC K C) (D_term_holds : Df P w K mg base 2 "term_holds" ["record", "cut", "term"] (sp_termh C)) : FnOk P w K mg base CX0 3 f fd ["record", "cut", "way"] (sp_wayh C) := by
 have sc := sc_way_holds
 refine F.ok sc (fun vs H Q E h => ?_) (fun cdv A outer s H vs Q E hr h => ?_)
 ·obtain ⟨x, a, sd, td, ps, rs, c, ns, g, ts, rfl, _⟩ := h
  rfl
 ·obtain ⟨x, a, sd, td, ps, rs, c, ns, g, ts, rfl, hA, hC, hI, ⟨xs, hg, mg'⟩, ⟨hl8, hok⟩, q⟩ := h
  have hxl := Paired.length mg'
  refine ⟨_, (pss_one (ps_ret (pe_callB (call_all rfl) (by rfl) (B "all" (by decide +kernel)) bt_all (pa_cons (pe_lc (te := (tCall (sp_termh C) [] E0 (tCons (tVar 1) (tCons (tVar 2) (tCons (tVar 0) tNil))))) (tt := tTrue) (blk_cx (ts := ["term"]) (cap := [(0, "record"), (1, "cut")]) (by decide +kernel) (by decide +kernel) (by decide +kernel) rfl (by decide +kernel) (by decide +kernel)) rfl (pi_list (pv 2)) (fun _ _ _ _ => (pg_name (i := 0) (show List.Nodup (["term", "record", "cut"] : List Str) by decide +kernel) rfl (Or.inl rfl))) (fun _ _ _ _ => pifs_nil) (fun _ _ _ _ => (pe_df D_term_holds (hr.mono (by decide)) (pa_cons (pv 1) (pa_cons (pv 2) (pa_cons (pv 0) pa_nil)))))) pa_nil)))), ?_⟩
  refine ⟨_, rfl, g, rfl, ⟨_, SqL.of hg⟩, fun D hD => lc_list (K := K) (a := g) (xs := xs) (inv_wayh_1 x c rs ns ts H D)
   ⟨_, rfl, rfl, Same.new hD, upd_same⟩ (fun i σ ys H2 _ ⟨v, _, _, s2, _⟩ => SqL.of (s2 _ _ hg)) ?_ ?_⟩
  ·rintro i y σ ys H2 hi ⟨v, rfl, rfl, s2, hD2⟩
   obtain ⟨m, hm, t, rfl, ht⟩ := Paired.get mg' hi
   have hil := lt_of_get hi
   refine ⟨_, rfl, _, rfl, _, rfl, x, a, sd, td, ps, rs, c, ns, t, m, rfl, hA.same s2, hC.same s2, hI, s2 _ _ ht, hok m (List.mem_of_getElem? hm), hD2, small1000 (by rw [List.length_map, List.length_map, List.length_take]; lia), _, rfl, ?_, s2.off hD, upd_same⟩
   rw [snoc_take hm, List.map_append, List.map_append]
   rfl
  ·rintro σ ys H2 ⟨v, rfl, rfl, s2, hD2⟩
   rw [hxl, List.take_length] at hD2
   exact ⟨D, _, rfl, SqL.of hD2, q H2 s2⟩
noncomputable def inv_holds_1 (x : PySem.Addr) (c : PySem.Addr) (rs : Cw.Rows) (ns : List Int) (ws : List (List Cw.Tm)) (H : L2.Hp) (D : PySem.Addr) : Nat → St → List V → Hp → Prop := fun i σ ys H2 => ∃ v, σ = [v, some (.ref x), some (.ref c)] ∧ ys = ((ws.take i).map (wayHolds rs ns)).map V.bl ∧ Same H H2 ∧ H2 D = some (.lst ys)
theorem ok_holds {f C : Addr} {fd : FuncData} (F : Fun K "holds" "holds" s_holds f fd) (B : Bl mg) (R : RecC K C) (D_way_holds : Df P w K mg base 3 "way_holds" ["record", "cut", "way"] (sp_wayh C)) : FnOk P w K mg base CX0 4 f fd ["record", "cut", "wish"] (sp_holds C) := by
 have sc := sc_holds
 refine F.ok sc (fun vs H Q E h => ?_) (fun cdv A outer s H vs Q E hr h => ?_)
 ·obtain ⟨x, a, sd, td, ps, rs, c, ns, g, qs, ws, rfl, _⟩ := h
  rfl
 ·obtain ⟨x, a, sd, td, ps, rs, c, ns, g, qs, ws, rfl, hA, hC, hI, hW, ⟨hl8, hok⟩, q⟩ := h
  have hxl := Paired.length hW.ways
  refine ⟨_, (pss_one (ps_ret (pe_callB (call_any rfl) (by rfl) (B "any" (by decide +kernel)) bt_any (pa_cons (pe_lc (te := (tCall (sp_wayh C) [] E0 (tCons (tVar 1) (tCons (tVar 2) (tCons (tVar 0) tNil))))) (tt := tTrue) (blk_cx (ts := ["way"]) (cap := [(0, "record"), (1, "cut")]) (by decide +kernel) (by decide +kernel) (by decide +kernel) rfl (by decide +kernel) (by decide +kernel)) rfl (pi_list (pv 2)) (fun _ _ _ _ => (pg_name (i := 0) (show List.Nodup (["way", "record", "cut"] : List Str) by decide +kernel) rfl (Or.inl rfl))) (fun _ _ _ _ => pifs_nil) (fun _ _ _ _ => (pe_df D_way_holds (hr.mono (by decide)) (pa_cons (pv 1) (pa_cons (pv 2) (pa_cons (pv 0) pa_nil)))))) pa_nil)))), ?_⟩
  refine ⟨_, rfl, g, rfl, ⟨_, SqL.of hW.top⟩, fun D hD => lc_list (K := K) (a := g) (xs := qs.map V.ref) (inv_holds_1 x c rs ns ws H D)
   ⟨_, rfl, rfl, Same.new hD, upd_same⟩ (fun i σ ys H2 _ ⟨v, _, _, s2, _⟩ => SqL.of (s2 _ _ hW.top)) ?_ ?_⟩
  ·rintro i y σ ys H2 hi ⟨v, rfl, rfl, s2, hD2⟩
   have hil := lt_of_get hi
   rw [List.length_map] at hil
   obtain ⟨p, hp, rfl⟩ := map_ref hi
   obtain ⟨ts, hts, hwy⟩ := Paired.get hW.ways hp
   refine ⟨_, rfl, _, rfl, _, rfl, x, a, sd, td, ps, rs, c, ns, p, ts, rfl, hA.same s2, hC.same s2, hI, hwy.same s2, hok ts (List.mem_of_getElem? hts), fun H3 s3 => ?_⟩
   refine ⟨s3 _ _ hD2, small1000 (by rw [List.length_map, List.length_map, List.length_take]; lia), _, rfl, ?_, (s2.trans s3).off hD, upd_same⟩
   rw [snoc_take hts, List.map_append, List.map_append]
   rfl
  ·rintro σ ys H2 ⟨v, rfl, rfl, s2, hD2⟩
   rw [List.length_map, hxl, List.take_length] at hD2
   exact ⟨D, _, rfl, SqL.of hD2, q H2 s2⟩
end
noncomputable abbrev s_law_way : Stmt := top 40
theorem sc_law_way : FnScope ["script", "start", "hands", "most", "way", "k", "cell", "number"] ["script", "start", "hands", "most"] (defScope s_law_way) := ⟨rfl, rfl, rfl, by decide +kernel, rfl, by decide +kernel, by decide +kernel⟩
noncomputable abbrev s_law_wish : Stmt := top 41
theorem sc_law_wish : FnScope ["script", "start", "hands", "ways", "most"] ["script", "start", "hands"] (defScope s_law_wish) := ⟨rfl, rfl, rfl, by decide +kernel, rfl, by decide +kernel, by decide +kernel⟩
noncomputable abbrev s_law_term : Stmt := top 42
theorem sc_law_term : FnScope ["rows", "cut", "term", "value"] ["rows", "cut", "term"] (defScope s_law_term) := ⟨rfl, rfl, rfl, by decide +kernel, rfl, by decide +kernel, by decide +kernel⟩
noncomputable abbrev s_law_holds : Stmt := top 43
theorem sc_law_holds : FnScope ["rows", "cut", "wish", "way"] ["rows", "cut", "wish"] (defScope s_law_holds) := ⟨rfl, rfl, rfl, by decide +kernel, rfl, by decide +kernel, by decide +kernel⟩
section
variable {P : Program} {w : World} {K : PySem.W.Frag} {mg : Str → Option Value} {base : Heap}
noncomputable def inv_lway_1 (H : L2.Hp) (a : PySem.Addr) (k : Int) (n : Nat) (m : Nat) (D : PySem.Addr) : Nat → St → Hp → Prop := fun i σ H2 => Same H H2 ∧ ∃ ts v5 v6 v7, σ = [some (.ref a), some (.int k), some (.int (n : Nat)), some (.int (m : Nat)), some (.ref D), v5, v6, v7] ∧ WayA H2 D ts ∧ ts.length ≤ i ∧ ∀ t ∈ ts, t.h < n
theorem ok_lway {f : Addr} {fd : FuncData} (F : Fun K "_law_way" "_law_way" s_law_way f fd) (B : Bl mg) (D_law_draw : Df P w K mg base 2 "_law_draw" ["script", "k"] (sp_draw K)) (D_law_value : Df P w K mg base 3 "_law_value" ["script", "k"] (sp_value K)) : FnOk P w K mg base CX0 4 f fd ["script", "start", "hands", "most"] (sp_lway K) := by
 have sc := sc_law_way
 refine F.ok sc (fun vs H Q E h => ?_) (fun cdv A outer s H vs Q E hr h => ?_)
 ·obtain ⟨a, ns, k, n, m, rfl, _⟩ := h
  rfl
 ·obtain ⟨a, ns, k, n, m, rfl, hS, hk, hn, hm, q⟩ := h
  refine ⟨_, (pss_cons (ps_set (i := 4) sc.nd rfl (Or.inl rfl) (pe_lst pa_nil))
    (pss_cons (ps_for PassesOwn.never rfl (pi_range1 rfl (B "range" (by decide +kernel)) (pa_cons (pe_op op_mod (pe_df D_law_draw (hr.mono (by decide)) (pa_cons (pv 0) (pa_cons (pv 1) pa_nil))) (pe_op op_add (pv 3) pe_int)) pa_nil)) (pg_name (i := 5) sc.nd rfl (Or.inl rfl)) (pss_cons (ps_set (i := 6) sc.nd rfl (Or.inl rfl) (pe_df D_law_draw (hr.mono (by decide)) (pa_cons (pv 0) (pa_cons (pe_op op_add (pe_op op_add (pv 1) pe_int) (pv 5)) pa_nil))))
    (pss_cons (ps_set (i := 7) sc.nd rfl (Or.inl rfl) (pe_op op_sub (pe_op op_mod (pe_op op_fdiv (pv 6) pe_int) pe_int) pe_int))
    (pss_cons (ps_if (pt_cmpR op_eq (pe_op op_mod (pe_op op_fdiv (pv 6) pe_int) pe_int) pe_int (nomark _)) (pss_one (ps_set (i := 7) sc.nd rfl (Or.inl rfl) (pe_df D_law_value (hr.mono (by decide)) (pa_cons (pv 0) (pa_cons (pe_op op_add (pe_op op_add (pv 1) pe_int) (pv 5)) pa_nil))))) pss_nil)
    (pss_one (ps_expr (pe_bm PySem.F.plainAttrs_list PySem.F.slot_list_append PySem.F.type_list_append mt_append (pv 4) (pa_cons (pe_tup (pa_cons (pe_op op_mod (pv 6) (pv 2)) (pa_cons (pe_ix ix_list (pe_lst (pa_cons pe_str (pa_cons pe_str (pa_cons pe_str pa_nil)))) (pe_op op_mod (pe_op op_fdiv (pv 6) pe_int) pe_int) (fun _ _ => rfl)) (pa_cons (pv 7) pa_nil)))) pa_nil))))))))
    (pss_one (ps_ret (pv 4))))), ?_⟩
  refine ⟨Nat.zero_le _, fun D hD => ?_⟩
  have hm0 := Int.emod_nonneg (draw ns k) (show ((m : Nat) : Int) + 1 ≠ 0 by lia)
  have hm1 := Int.emod_lt_of_pos (draw ns k) (show (0 : Int) < ((m : Nat) : Int) + 1 by lia)
  refine ⟨_, rfl, _, rfl, a, ns, k, rfl, (Same.new hD).seq hS, hk, _, rfl, _, _, rfl, rfl, _, _, rfl, rfl, (by show (0 : Int) < ((m : Nat) : Int) + 1; lia), _, rfl, by lia, by lia,
   for_range (lo := 0) (n := (draw ns k % (((m : Nat) : Int) + 1)).toNat) (inv_lway_1 H a k n m D)
   ⟨Same.new hD, [], _, _, _, rfl, ⟨[], upd_same, .nil⟩, Nat.zero_le _, fun t ht => (nomatch ht)⟩ ?_ ?_⟩
  ·rintro i σ H2 hi ⟨s2, ts, v5, v6, v7, rfl, ⟨xs, hx, mx⟩, htl, hth⟩
   rw [show (0 : Int) + ((i : Nat) : Int) = ((i : Nat) : Int) from Int.zero_add _]
   have hxl := Paired.length mx
   -- cell
   refine ⟨_, rfl, _, rfl, _, _, rfl, rfl, _, rfl, _, _, rfl, rfl, a, ns, _, rfl, s2.seq hS, (by show (0 : Int) ≤ k + 1 + ((i : Nat) : Int); lia), ?_⟩
   have hc0 := draw_nn ns (k + 1 + ((i : Nat) : Int))
   try dsimp only
   generalize draw ns (k + 1 + ((i : Nat) : Int)) = cl at hc0
   -- number
   refine ⟨_, rfl, _, _, rfl, rfl, ⟨by decide, by decide⟩, _, _, rfl, rfl, (by show (0 : Int) < 5; decide), _, _, rfl, rfl, ?_⟩
   refine gset_nx ?_
   refine if_mid (decide (V.int (cl / 60 % 5) = V.int 0)) (fun σ H3 => H3 = H2 ∧ ∃ num : Int, σ = [some (.ref a), some (.int k), some (.int (n : Nat)), some (.int (m : Nat)), some (.ref D), some (.int (i : Nat)), some (.int cl), some (.int num)]) ?_ ?_ ?_ ?_
   ·exact fun R z => ⟨_, rfl, _, _, rfl, rfl, ⟨by decide, by decide⟩, _, _, rfl, rfl, (by show (0 : Int) < 5; decide), rfl, _, rfl, z⟩
   ·exact fun _ => ⟨rfl, _, rfl⟩
   ·exact fun _ rest => ⟨_, rfl, _, rfl, _, _, rfl, rfl, _, rfl, _, _, rfl, rfl, a, ns, _, rfl, s2.seq hS, (by show (0 : Int) ≤ k + 2 + ((i : Nat) : Int); lia), gset (rest _ _ ⟨rfl, _, rfl⟩)⟩
   rintro σ H3 ⟨rfl, num, rfl⟩
   obtain ⟨j, hj, lj⟩ := mod_ix (d := cl) (n := ((n : Nat) : Int)) (k := n) (by lia) rfl
   refine ⟨_, rfl, .inl ⟨rfl, _, SqL.of hx⟩, _, rfl, _, rfl, _, _, rfl, rfl, (by show (0 : Int) < ((n : Nat) : Int); lia), (by show 3 ≤ sizeLine; decide), fun kl hkl => ?_⟩
   have s3 := Same.new (o := .lst [V.str "<", V.str "=", V.str ">"]) hkl
   have hkl3 : L2.upd H3 kl (.lst [V.str "<", V.str "=", V.str ">"]) kl = some (.lst [V.str "<", V.str "=", V.str ">"]) := upd_same
   have hx3 := s3 _ _ hx
   generalize L2.upd H3 kl (.lst [V.str "<", V.str "=", V.str ">"]) = H4 at s3 hkl3 hx3
   refine ⟨_, rfl, _, _, rfl, rfl, ⟨by decide, by decide⟩, _, _, rfl, rfl, (by show (0 : Int) < 3; decide), kl, _, _, _, rfl, rfl, SqL.of hkl3, sg_at (Int.emod_nonneg _ (by decide)) (Int.emod_lt_of_pos _ (by decide)), _, rfl, (by show 3 ≤ sizeLine; decide), fun t ht => ?_⟩
   try dsimp only
   rw [hj]
   have s4 := Same.new (o := .tup (Tm.vs ⟨j, sgOf (cl / 4 % 3), num⟩)) ht
   have ht4 : L2.upd H4 t (.tup (Tm.vs ⟨j, sgOf (cl / 4 % 3), num⟩)) t = some (.tup (Tm.vs ⟨j, sgOf (cl / 4 % 3), num⟩)) := upd_same
   have hx4 := s4 _ _ hx3
   show tNil _ (L2.upd H4 t (HO.tup (Tm.vs ⟨j, sgOf (cl / 4 % 3), num⟩))) _
   generalize L2.upd H4 t (.tup (Tm.vs ⟨j, sgOf (cl / 4 % 3), num⟩)) = H5 at s4 ht4 hx4
   have s25 := s2.trans (s3.trans s4)
   have s35 := s3.trans s4
   refine ⟨D, _, _, rfl, rfl, hx4, small1000 (by lia), s25.off hD, ts ++ [⟨j, sgOf (cl / 4 % 3), num⟩], _, _, _, rfl, ⟨_, upd_same, ?_⟩, ?_, fun t' ht' => ?_⟩
   ·exact Paired.snoc (Paired.mapP mx fun _ _ z => (z.same s35).off hx4) (TmAt.off ⟨t, rfl, ht4⟩ hx4)
   ·rw [List.length_append, List.length_singleton]; lia
   ·rcases List.mem_append.mp ht' with z | z
    ·exact hth t' z
    ·have : t' = ⟨j, sgOf (cl / 4 % 3), num⟩ := by simpa using z
     subst this
     exact lj
  ·rintro σ H2 ⟨s2, ts, v5, v6, v7, rfl, hW, htl, hth⟩
   exact ⟨_, rfl, q D ts H2 s2 hD hW ⟨by lia, hth⟩⟩
noncomputable def inv_lwish_1 (a : PySem.Addr) (n : Nat) (mo : Nat) (k : Int) (H4 : L2.Hp) (D : PySem.Addr) : Nat → St → List V → Hp → Prop := fun i σ ys H5 => ∃ v qs ws, σ = [v, some (.ref a), some (.int (n : Nat)), some (.int (mo : Nat)), some (.int k)] ∧ ys = qs.map V.ref ∧ Same H4 H5 ∧ H5 D = some (.lst ys) ∧ Paired (WayA H5) qs ws ∧ ws.length = i ∧ (∀ q ∈ qs, H4 q = none ∧ q ≠ D) ∧ ∀ ts ∈ ws, WayOk n ts
theorem ok_lwish {f : Addr} {fd : FuncData} (F : Fun K "_law_wish" "_law_wish" s_law_wish f fd) (B : Bl mg) (D_law_draw : Df P w K mg base 2 "_law_draw" ["script", "k"] (sp_draw K)) (D_law_way : Df P w K mg base 4 "_law_way" ["script", "start", "hands", "most"] (sp_lway K)) : FnOk P w K mg base CX0 5 f fd ["script", "start", "hands"] (sp_lwish K) := by
 have sc := sc_law_wish
 refine F.ok sc (fun vs H Q E h => ?_) (fun cdv A outer s H vs Q E hr h => ?_)
 ·obtain ⟨a, ns, k, n, rfl, _⟩ := h
  rfl
 ·obtain ⟨a, ns, k, n, rfl, hS, hk, hn, q⟩ := h
  refine ⟨_, (pss_cons (ps_set (i := 3) sc.nd rfl (Or.inl rfl) (pe_op op_mod (pe_df D_law_draw (hr.mono (by decide)) (pa_cons (pv 0) (pa_cons (pe_op op_add (pv 1) pe_int) pa_nil))) pe_int))
    (pss_cons (ps_set (i := 4) sc.nd rfl (Or.inr rfl) pe_int)
    (pss_cons (ps_if (pt_cmpR op_eq (pe_op op_mod (pe_df D_law_draw (hr.mono (by decide)) (pa_cons (pv 0) (pa_cons (pe_op op_add (pv 1) pe_int) pa_nil))) pe_int) pe_int (nomark _)) (pss_one (ps_set (i := 3) sc.nd rfl (Or.inl rfl) (pe_op op_add (pv 3) pe_int))) pss_nil)
    (pss_cons (ps_if (pt_cmpR op_eq (pe_op op_mod (pe_df D_law_draw (hr.mono (by decide)) (pa_cons (pv 0) (pa_cons (pe_op op_add (pv 1) pe_int) pa_nil))) pe_int) pe_int (nomark _)) (pss_one (ps_set (i := 4) sc.nd rfl (Or.inr rfl) pe_int)) pss_nil)
    (pss_one (ps_ret (pe_lc (te := (tCall (sp_lway K) [] E0 (tCons (tVar 1) (tCons (tOp (rI0 fun i j => .int (i + j)) (tVar 4) (tOp (rI CMul fun i j => .int (i * j)) (tC (.int 20)) (tVar 0))) (tCons (tVar 2) (tCons (tVar 3) tNil)))))) (tt := tTrue) (blk_cx (ts := ["k"]) (cap := [(0, "script"), (2, "hands"), (4, "most"), (1, "start")]) (by decide +kernel) (by decide +kernel) (by decide +kernel) rfl (by decide +kernel) (by decide +kernel)) rfl (pi_range1 rfl (B "range" (by decide +kernel)) (pa_cons (pv 3) pa_nil)) (fun _ _ _ _ => (pg_name (i := 0) (show List.Nodup (["k", "script", "hands", "most", "start"] : List Str) by decide +kernel) rfl (Or.inl rfl))) (fun _ _ _ _ => pifs_nil) (fun _ _ _ _ => (pe_df D_law_way (hr.mono (by decide)) (pa_cons (pv 1) (pa_cons (pe_op op_add (pv 4) (pe_op op_mul pe_int (pv 0))) (pa_cons (pv 2) (pa_cons (pv 3) pa_nil))))))))))))), ?_⟩
  refine ⟨_, rfl, _, rfl, _, _, rfl, rfl, a, ns, _, rfl, hS, (by show (0 : Int) ≤ k + 17; lia), _, _, rfl, rfl, (by show (0 : Int) < 4; decide), ?_⟩
  have w0 := Int.emod_nonneg (draw ns (k + 17)) (show (4 : Int) ≠ 0 by decide)
  have w1 := Int.emod_lt_of_pos (draw ns (k + 17)) (show (0 : Int) < 4 by decide)
  try dsimp only
  generalize draw ns (k + 17) % 4 = w4 at w0 w1
  -- most = 3
  refine gset_nx ?_
  refine seq_set ?_
  refine if_mid (decide (V.int (draw ns (k + 18) % 6) = V.int 1)) (fun σ H3 => H3 = H ∧ ∃ wy : Nat, wy ≤ 8 ∧ σ = [some (.ref a), some (.int k), some (.int (n : Nat)), some (.int (wy : Nat)), some (.int 3)]) ?_ ?_ ?_ ?_
  ·exact fun R z => ⟨_, rfl, _, rfl, _, _, rfl, rfl, a, ns, _, rfl, hS, (by show (0 : Int) ≤ k + 18; lia), _, _, rfl, rfl, (by show (0 : Int) < 6; decide), rfl, _, rfl, z⟩
  ·exact fun _ => ⟨rfl, w4.toNat, by lia, by rw [show ((w4.toNat : Nat) : Int) = w4 by lia]; rfl⟩
  ·exact fun _ rest => ⟨_, rfl, _, _, rfl, rfl, gset (rest _ _ ⟨rfl, w4.toNat + 5, by lia, by rw [show ((w4.toNat + 5 : Nat) : Int) = w4 + 5 by lia]; rfl⟩)⟩
  rintro σ H3 ⟨rfl, wy, hwy, rfl⟩
  refine if_mid (decide (V.int (draw ns (k + 19) % 6) = V.int 1)) (fun σ H4 => H4 = H3 ∧ ∃ mo : Nat, mo ≤ 8 ∧ σ = [some (.ref a), some (.int k), some (.int (n : Nat)), some (.int (wy : Nat)), some (.int (mo : Nat))]) ?_ ?_ ?_ ?_
  ·exact fun R z => ⟨_, rfl, _, rfl, _, _, rfl, rfl, a, ns, _, rfl, hS, (by show (0 : Int) ≤ k + 19; lia), _, _, rfl, rfl, (by show (0 : Int) < 6; decide), rfl, _, rfl, z⟩
  ·exact fun _ => ⟨rfl, 3, by decide, rfl⟩
  ·exact fun _ rest => gset (rest _ _ ⟨rfl, 8, by decide, rfl⟩)
  rintro σ H4 ⟨rfl, mo, hmo, rfl⟩
  refine ⟨_, rfl, _, rfl, by lia, by lia, fun D hD => lc_range (lo := 0) (n := wy) (inv_lwish_1 a n mo k H4 D)
   ⟨_, [], [], rfl, rfl, Same.new hD, upd_same, .nil, rfl, fun q hq => (nomatch hq), fun q hq => (nomatch hq)⟩ ?_ ?_⟩
  ·rintro i σ ys H5 hi ⟨v, qs, ws, rfl, rfl, s5, hD5, m5, hwl, hq, hw⟩
   rw [show (0 : Int) + ((i : Nat) : Int) = ((i : Nat) : Int) from Int.zero_add _]
   have hql := Paired.length m5
   refine ⟨_, rfl, _, rfl, _, rfl, _, _, rfl, rfl, .inl ⟨by decide, by decide⟩, _, _, rfl, rfl, _, rfl, _, rfl, a, ns, _, n, mo, rfl, s5.seq hS, (by show (0 : Int) ≤ k + 20 * ((i : Nat) : Int); lia), hn, hmo, fun g ts H6 s6 hg hW hok => ?_⟩
   have ne : g ≠ D := by rintro rfl; rw [hD5] at hg; cases hg
   refine ⟨s6 _ _ hD5, small1000 (by rw [List.length_map]; lia), _, qs ++ [g], ws ++ [ts], rfl, by rw [List.map_append]; rfl, (s5.trans s6).off hD, upd_same, ?_, by rw [List.length_append, hwl]; rfl, fun q hq' => ?_, fun t ht => ?_⟩
   ·have off : ∀ {qs : List Addr} {ws : List (List Tm)}, Paired (WayA H5) qs ws → (∀ q ∈ qs, H4 q = none ∧ q ≠ D) → Paired (WayA (L2.upd H6 D (.lst (qs.map V.ref)))) qs ws → True := fun _ _ _ => trivial
    have gen : ∀ {o : HO} {qs : List Addr} {ws : List (List Tm)}, Paired (WayA H5) qs ws → (∀ q ∈ qs, H4 q = none ∧ q ≠ D) → Paired (WayA (L2.upd H6 D o)) qs ws := by
     intro o qs ws m
     induction m with
     | nil => intro _; exact .nil
     | @cons p t ps ts z _ ih => intro hh; exact .cons ((z.same s6).off (s6 _ _ hD5) (hh p List.mem_cons_self).2) (ih fun q hq => hh q (List.mem_cons_of_mem _ hq))
    exact Paired.snoc (gen m5 hq) (hW.off (s6 _ _ hD5) ne)
   ·rcases List.mem_append.mp hq' with z | z
    ·exact hq q z
    ·have : q = g := by simpa using z
     subst this
     exact ⟨s5.free hg, ne⟩
   ·rcases List.mem_append.mp ht with z | z
    ·exact hw t z
    ·have : t = ts := by simpa using z
     subst this
     exact hok
  ·rintro σ ys H5 ⟨v, qs, ws, rfl, rfl, s5, hD5, m5, hwl, hq, hw⟩
   exact q D qs ws H5 s5 ⟨⟨hD5, m5⟩, hD, fun q hq' => (hq q hq').1⟩ ⟨by lia, hw⟩
theorem ok_lterm {f : Addr} {fd : FuncData} (F : Fun K "_law_term" "_law_term" s_law_term f fd) (B : Bl mg) : FnOk P w K mg base CX0 1 f fd ["rows", "cut", "term"] sp_lterm := by
 have sc := sc_law_term
 refine F.ok sc (fun vs H Q E h => ?_) (fun cdv A outer s H vs Q E hr h => ?_)
 ·obtain ⟨a, ps, rs, c, ns, t, m, rfl, _⟩ := h
  rfl
 ·obtain ⟨a, ps, rs, c, ns, t, m, rfl, hR, hC, hI, ht, hh, q⟩ := h
  have hC : H c = some (.tup (ns.map V.int)) := hC
  obtain ⟨n, hn⟩ := get_of hh
  obtain ⟨r0, hr0, n0, n1⟩ := row_of hI hn
  refine ⟨_, (pss_cons (ps_set (i := 3) sc.nd rfl (Or.inl rfl) pe_int)
    (pss_cons (ps_if (pt_cmpR op_gt (pe_ix ix_tup (pv 1) (pe_ix ix_tup (pv 2) pe_int (fun _ _ => rfl)) (fun _ _ => rfl)) pe_int (nomark _)) (pss_one (ps_set (i := 3) sc.nd rfl (Or.inl rfl) (pe_ix ix_tup (pe_ix ix_list (pe_ix ix_list (pv 0) (pe_ix ix_tup (pv 2) pe_int (fun _ _ => rfl)) (fun _ _ => rfl)) (pe_op op_sub (pe_ix ix_tup (pv 1) (pe_ix ix_tup (pv 2) pe_int (fun _ _ => rfl)) (fun _ _ => rfl)) pe_int) (fun _ _ => rfl)) pe_int (fun _ _ => rfl)))) pss_nil)
    (pss_one (ps_ret (pe_ix ix_list (pe_lst (pa_cons (pe_cmpR op_lt (pv 3) (pe_ix ix_tup (pv 2) pe_int (fun _ _ => rfl)) (nomark _)) (pa_cons (pe_cmpR op_eq (pv 3) (pe_ix ix_tup (pv 2) pe_int (fun _ _ => rfl)) (nomark _)) (pa_cons (pe_cmpR op_gt (pv 3) (pe_ix ix_tup (pv 2) pe_int (fun _ _ => rfl)) (nomark _)) pa_nil)))) (pe_bm PySem.F.plainAttrs_str PySem.F.slot_str_index PySem.F.type_str_index mt_sindex pe_str (pa_cons (pe_ix ix_tup (pv 2) pe_int (fun _ _ => rfl)) pa_nil)) (fun _ _ => rfl)))))), ?_⟩
  refine seq_set ?_
  refine if_mid (decide ((0 : Int) < n)) (fun σ H3 => H3 = H ∧ σ = [some (.ref a), some (.ref c), some (.ref t), some (.int (valIn rs ns m.h))]) ?_ ?_ ?_ ?_
  ·exact fun R z => ⟨_, rfl, _, rfl, t, _, 0, _, rfl, rfl, SqT.of ht, rfl, c, _, _, _, rfl, rfl, SqT.of hC, ints_at hn, _, _, rfl, rfl, _, rfl, z⟩
  ·refine fun h1 => ⟨rfl, ?_⟩
   have : n = 0 := by have := of_decide_eq_false h1; lia
   subst this
   rw [valIn_zero hn]
   rfl
  ·refine fun h1 rest => ?_
   have h1 : (0 : Int) < n := of_decide_eq_true h1
   have nz : n ≠ 0 := by lia
   obtain ⟨np, r, e, hr', hre, hat⟩ := inside_at hI hn nz
   obtain ⟨rp, hrp, xs, hxs, mm⟩ := hR.row hr'
   have hm : (ps.map V.ref)[m.h]? = some (.ref rp) := by rw [List.getElem?_map, hrp]; rfl
   obtain ⟨y, hy, te, rfl, hte⟩ := Paired.getR mm hre
   have ei : n - 1 = (((n - 1).toNat : Nat) : Int) := by lia
   refine ⟨_, rfl, _, rfl, t, _, 0, _, rfl, rfl, SqT.of ht, rfl, a, _, _, _, rfl, rfl, SqL.of hR.top, atI_nat hm, _, rfl, _, rfl, t, _, 0, _, rfl, rfl, SqT.of ht, rfl, c, _, _, _, rfl, rfl, SqT.of hC, ints_at hn, _, _, rfl, rfl, rp, xs, _, _, rfl, rfl, SqL.of hxs, by rw [ei]; exact atI_nat hy, te, _, 2, _, rfl, rfl, SqT.of hte, rfl, gset (rest _ _ ⟨rfl, ?_⟩)⟩
   rw [valIn_at hn nz hat]
   rfl
  rintro σ H3 ⟨rfl, rfl⟩
  refine ⟨_, rfl, _, rfl, t, _, 2, _, rfl, rfl, SqT.of ht, rfl, _, _, rfl, rfl, _, rfl, _, rfl, t, _, 2, _, rfl, rfl, SqT.of ht, rfl, rfl, _, rfl, _, rfl, t, _, 2, _, rfl, rfl, SqT.of ht, rfl, _, _, rfl, rfl, (by show 3 ≤ sizeLine; decide), fun l hl => ?_⟩
  generalize hv : valIn rs ns m.h = vl
  have e : decide (V.int vl = V.int m.n) = decide (vl = m.n) := decide_eq_decide.mpr ⟨fun z => by injection z, fun z => by rw [z]⟩
  have s4 := Same.new (o := .lst [V.bl (decide (vl < m.n)), V.bl (decide (V.int vl = V.int m.n)), V.bl (decide (m.n < vl))]) hl
  have hl4 : L2.upd H3 l (.lst [V.bl (decide (vl < m.n)), V.bl (decide (V.int vl = V.int m.n)), V.bl (decide (m.n < vl))]) l = some (.lst [V.bl (decide (vl < m.n)), V.bl (decide (V.int vl = V.int m.n)), V.bl (decide (m.n < vl))]) := upd_same
  have q4 := q _ s4
  have occ : ∃ rest, Builtin.Str.occurrences "<=>" m.s.str 0 ("<=>" : Str).length 1 = (match m.s with | .lt => 0 | .eq => 1 | .gt => 2) :: rest := by
   cases m.s
   ·exact ⟨[], by decide +kernel⟩
   ·exact ⟨[], by decide +kernel⟩
   ·exact ⟨[], by decide +kernel⟩
  obtain ⟨more, occ⟩ := occ
  refine ⟨rfl, _, rfl, t, _, 1, _, rfl, rfl, SqT.of (s4 _ _ ht), rfl, _, _, _, more, rfl, rfl, occ, l, _, _, _, rfl, rfl, SqL.of hl4, ?_, q4⟩
  unfold tmHolds
  rw [hv]
  cases m.s
  ·rfl
  ·show _ = some (V.bl (decide (vl = m.n)))
   rw [← e]
   rfl
  ·rfl
noncomputable def inv_lholds_1 (H : L2.Hp) (a : PySem.Addr) (c : PySem.Addr) (g : PySem.Addr) (ws : List (List Cw.Tm)) (rs : Cw.Rows) (ns : List Int) : Nat → St → Hp → Prop := fun i σ H2 => Same H H2 ∧ (∃ v, σ = [some (.ref a), some (.ref c), some (.ref g), v]) ∧ ∀ ts ∈ ws.take i, wayHolds rs ns ts = false
noncomputable def inv_lholds_2 (a : PySem.Addr) (c : PySem.Addr) (rs : Cw.Rows) (ns : List Int) (ts : List Cw.Tm) (H2 : L2.Hp) (D : PySem.Addr) : Nat → St → List V → Hp → Prop := fun j σ ys H3 => ∃ v, σ = [v, some (.ref a), some (.ref c)] ∧ ys.length = ((ts.take j).map (tmHolds rs ns)).countP id ∧ Same H2 H3 ∧ H3 D = some (.lst ys)
theorem ok_lholds {f : Addr} {fd : FuncData} (F : Fun K "_law_holds" "_law_holds" s_law_holds f fd) (B : Bl mg) (D_law_term : Df P w K mg base 1 "_law_term" ["rows", "cut", "term"] sp_lterm) : FnOk P w K mg base CX0 2 f fd ["rows", "cut", "wish"] sp_lholds := by
 have sc := sc_law_holds
 refine F.ok sc (fun vs H Q E h => ?_) (fun cdv A outer s H vs Q E hr h => ?_)
 ·obtain ⟨a, ps, rs, c, ns, g, qs, ws, rfl, _⟩ := h
  rfl
 ·obtain ⟨a, ps, rs, c, ns, g, qs, ws, rfl, hR, hC, hI, hW, ⟨hl8, hok⟩, q⟩ := h
  have hxl := Paired.length hW.ways
  refine ⟨_, (pss_cons (ps_for PassesOwn.never rfl (pi_list (pv 2)) (pg_name (i := 3) sc.nd rfl (Or.inl rfl)) (pss_one (ps_if (pt_cmpR op_eq (pe_callB call_len_seqI (by rfl) (B "len" (by decide +kernel)) bt_len (pa_cons (pe_lc (te := (tVar 0)) (tt := (tB (tCall sp_lterm [] E0 (tCons (tVar 1) (tCons (tVar 2) (tCons (tVar 0) tNil)))))) (blk_cx (ts := ["term"]) (cap := [(0, "rows"), (1, "cut")]) (by decide +kernel) (by decide +kernel) (by decide +kernel) rfl (by decide +kernel) (by decide +kernel)) rfl (pi_list (pv 3)) (fun _ _ _ _ => (pg_name (i := 0) (show List.Nodup (["term", "rows", "cut"] : List Str) by decide +kernel) rfl (Or.inl rfl))) (fun _ _ _ _ => pifs_one (pt_val (pe_df D_law_term (hr.mono (by decide)) (pa_cons (pv 1) (pa_cons (pv 2) (pa_cons (pv 0) pa_nil)))))) (fun _ _ _ _ => (pv 0))) pa_nil)) (pe_callB call_len_seqI (by rfl) (B "len" (by decide +kernel)) bt_len (pa_cons (pv 3) pa_nil)) (nomark _)) (pss_one (ps_ret pe_bl)) pss_nil)))
    (pss_one (ps_ret pe_bl))), ?_⟩
  refine ⟨_, rfl, g, rfl, ⟨_, SqL.of hW.top⟩, for_list (K := K) (a := g) (xs := qs.map V.ref) (inv_lholds_1 H a c g ws rs ns)
   ⟨Same.refl _, ⟨_, rfl⟩, fun ts hts => (nomatch hts)⟩ (fun i σ H2 _ ⟨s2, _⟩ => SqL.of (s2 _ _ hW.top)) ?_ ?_⟩
  ·rintro i y σ H2 hi ⟨s2, ⟨v, rfl⟩, hno⟩
   obtain ⟨p, hp, rfl⟩ := map_ref hi
   obtain ⟨ts, hts, xs, hxs, mx⟩ := Paired.get hW.ways hp
   obtain ⟨ht8, hth⟩ := hok ts (List.mem_of_getElem? hts)
   have hxsl := Paired.length mx
   refine ⟨_, rfl, p, rfl, ⟨_, SqL.of (s2 _ _ hxs)⟩, fun D hD => lc_list (K := K) (a := p) (xs := xs) (inv_lholds_2 a c rs ns ts H2 D)
    ⟨_, rfl, rfl, Same.new hD, upd_same⟩ (fun j σ ys H3 _ ⟨v, _, _, s3, _⟩ => SqL.of (s3 _ _ (s2 _ _ hxs))) ?_ ?_⟩
   ·rintro j y σ ys H3 hj ⟨v, rfl, hyl, s3, hD3⟩
    obtain ⟨m, hm, t, rfl, ht⟩ := Paired.get mx hj
    have hjl := lt_of_get hj
    have s23 := s2.trans s3
    have hyle : ys.length ≤ 8 := by
     rw [hyl]
     refine Nat.le_trans (List.countP_le_length) ?_
     rw [List.length_map, List.length_take]
     lia
    refine ⟨_, rfl, _, rfl, _, rfl, a, ps, rs, c, ns, t, m, rfl, hR.same s23, hC.same s23, hI, s23 _ _ ht, hth m (List.mem_of_getElem? hm), fun H4 s4 => ⟨_, rfl, ?_⟩⟩
    have cnt : ((ts.take (j + 1)).map (tmHolds rs ns)).countP id = ((ts.take j).map (tmHolds rs ns)).countP id + (if tmHolds rs ns m = true then 1 else 0) := by
     rw [snoc_take hm, List.map_append, List.countP_append]
     show _ + List.countP id [tmHolds rs ns m] = _
     rw [List.countP_singleton]
     rfl
    cases hb : tmHolds rs ns m with
    | true =>
     rw [hb, if_pos rfl] at cnt
     refine iteT ?_
     exact ⟨_, rfl, s4 _ _ hD3, small1000 (by lia), _, rfl, by rw [List.length_append, cnt, hyl]; rfl, (s3.trans s4).off hD, upd_same⟩
    | false =>
     rw [hb, if_neg Bool.false_ne_true] at cnt
     refine iteF ?_
     exact ⟨_, rfl, by rw [cnt, hyl]; rfl, s3.trans s4, s4 _ _ hD3⟩
   ·rintro σ ys H3 ⟨v, rfl, hyl, s3, hD3⟩
    rw [hxsl, List.take_length] at hyl
    have s23 := s2.trans s3
    refine ⟨D, ys, rfl, .inl (SqL.of hD3), _, rfl, p, xs, rfl, .inl (SqL.of (s23 _ _ hxs)), rfl, _, rfl, ?_⟩
    have key : wayHolds rs ns ts = true ↔ ys.length = xs.length := by
     rw [hyl, hxsl]
     unfold wayHolds
     rw [List.all_eq_true, ← List.length_map (f := tmHolds rs ns) (as := ts), List.countP_eq_length]
    refine ite2 (fun h1 => ?_) (fun h1 => ?_)
    ·have h1 : V.int ((ys.length : Nat) : Int) = V.int ((xs.length : Nat) : Int) := of_decide_eq_true h1
     injection h1 with h1
     have hT := key.mpr (by lia)
     have : wishHolds rs ns ws = true := by
      unfold wishHolds
      rw [List.any_eq_true]
      exact ⟨_, List.mem_map.mpr ⟨ts, List.mem_of_getElem? hts, rfl⟩, hT⟩
     have qq := q H3 s23
     rw [this] at qq
     exact qq
    ·have hF : wayHolds rs ns ts = false := by
      cases e : wayHolds rs ns ts with
      | false => rfl
      | true => exact absurd (decide_eq_true (by rw [key.mp e])) h1
     refine ⟨s23, ⟨_, rfl⟩, fun t ht => ?_⟩
     rw [snoc_take hts] at ht
     rcases List.mem_append.mp ht with z | z
     ·exact hno t z
     ·have : t = ts := by simpa using z
      subst this
      exact hF
  ·rintro σ H2 ⟨s2, ⟨v, rfl⟩, hno⟩
   rw [List.length_map, hxl, List.take_length] at hno
   have : wishHolds rs ns ws = false := by
    unfold wishHolds
    rw [List.any_eq_false]
    intro b hb
    obtain ⟨ts, hts, rfl⟩ := List.mem_map.mp hb
    rw [hno ts hts]
    exact Bool.false_ne_true
   have qq := q H2 s2
   rw [this] at qq
   exact qq
end
noncomputable abbrev s_without_held : Stmt := top 25
theorem sc_without_held : FnScope ["record", "wish", "walks", "kept", "cut", "walk"] ["record", "wish", "walks"] (defScope s_without_held) := ⟨rfl, rfl, rfl, by decide +kernel, rfl, by decide +kernel, by decide +kernel⟩
noncomputable abbrev s_walks_behind : Stmt := top 26
theorem sc_walks_behind : FnScope ["record", "walks", "behind", "cut", "walk", "hand"] ["record", "walks"] (defScope s_walks_behind) := ⟨rfl, rfl, rfl, by decide +kernel, rfl, by decide +kernel, by decide +kernel⟩
noncomputable abbrev s_must : Stmt := top 24
theorem sc_must : FnScope ["record", "wish", "walks", "step"] ["record", "wish"] (defScope s_must) := ⟨rfl, rfl, rfl, by decide +kernel, rfl, by decide +kernel, by decide +kernel⟩
theorem wkK_len (es : List (List Int × Addr)) : (wkK es).length = es.length := List.length_map ..
theorem Kept.to {g : Addr} {H0 H H' : Hp} (k : Kept (fun b => b = g) H H') (s : Same H0 H) (h : H0 g = none) : Same H0 H' := fun b o e => k b o (s _ _ e) (fun z => by rw [z, h] at e; cases e)
section
variable {P : Program} {w : World} {K : PySem.W.Frag} {mg : Str → Option Value} {base : Heap}
theorem ok_without {f C : Addr} {fd : FuncData} (F : Fun K "without_held" "without_held" s_without_held f fd) (B : Bl mg) (R : RecC K C) (D_holds : Df P w K mg base 4 "holds" ["record", "cut", "wish"] (sp_holds C)) : FnOk P w K mg base CX0 5 f fd ["record", "wish", "walks"] (sp_without C) := by
 have sc := sc_without_held
 refine F.ok sc (fun vs H Q E h => ?_) (fun cdv A outer s H vs Q E hr h => ?_)
 ·obtain ⟨_, x, a, sd, td, ps, rs, w, qs, ws, g, es, rfl, _⟩ := h
  rfl
 ·obtain ⟨H0, x, a, sd, td, ps, rs, w, qs, ws, g, es, rfl, s0, hg0, hA, hW, hok, hg, nd, ins, q⟩ := h
  have hu := hu_of hr
  have hv := hA.val
  refine ⟨_, (pss_cons (ps_set (i := 3) sc.nd rfl (Or.inl rfl) pe_dnewT)
    (pss_cons (ps_for PassesOwn.never rfl (pi_ditems (pv 2)) (pg_tup rfl (pgs_cons (pg_name (i := 4) sc.nd rfl (Or.inl rfl)) (pgs_cons (pg_name (i := 5) sc.nd rfl (Or.inl rfl)) pgs_nil))) (pss_one (ps_if (pt_not (pt_val (pe_df D_holds (hr.mono (by decide)) (pa_cons (pv 0) (pa_cons (pv 4) (pa_cons (pv 1) pa_nil)))))) (pss_one (ps_dput hu (pv 3) (pv 4) (pv 5) rfl)) pss_nil)))
    (pss_one (ps_ret (pv 3))))), ?_⟩
  refine fun d hd => ?_
  have hdg : d ≠ g := by rintro rfl; rw [hg] at hd; cases hd
  have hg1 := Same.new (o := .dT []) hd _ _ hg
  refine ⟨_, rfl, g, wkK es, rfl, hg1, fun o => for_items (a := g) (o := o) (kvs := wkK es) (fun i σ H2 => ∃ v4 v5, Kept (fun b => b = g) H H2 ∧ H2 g = some (.frz o (.dT (wkK es))) ∧ H2 d = some (.dT (wkK ((es.take i).filter fun e => !wishHolds rs e.1 ws))) ∧ σ = [some (.ref x), some (.ref w), some (.ref g), some (.ref d), v4, v5])
   ⟨_, _, (Same.kept (Same.new hd)).trans (Kept.upd rfl), upd_same, by rw [upd_ne hdg]; exact upd_same, rfl⟩ (fun i σ H2 _ ⟨_, _, _, z, _⟩ => z) ?_ ?_⟩
  ·rintro i k v σ H2 p b hi ⟨v4, v5, k2, hg2, hd2, rfl⟩ hp hb
   unfold wkK at hi
   rw [List.getElem?_map] at hi
   obtain ⟨⟨c, l⟩, hc, ekv⟩ := Option.map_eq_some_iff.mp hi
   cases ekv
   rw [cutKey_V] at hb
   have hce : (c, l) ∈ es := List.mem_of_getElem? hc
   have Ic : Inside rs c := ins _ hce
   have sp := Same.new (o := .tup [V.ref b, V.ref l]) hp
   refine ⟨p, _, rfl, SqT.of upd_same, rfl, _, _, rfl, _, _, rfl, rfl, ?_⟩
   have k3 := k2.trans (Same.kept sp)
   have hb3 := sp _ _ hb
   have hg3 := sp _ _ hg2
   have hd3 := sp _ _ hd2
   generalize L2.upd H2 p (.tup [V.ref b, V.ref l]) = H3 at k3 hb3 hg3 hd3
   have s3 := k3.to s0 hg0
   refine ⟨_, rfl, _, rfl, _, rfl, x, a, sd, td, ps, rs, b, c, w, qs, ws, rfl, hA.same s3, hb3, Ic, hW.same s3, by rw [Ic.len]; exact hok, fun H4 s4 => ⟨_, rfl, ?_⟩⟩
   have hd4 := s4 _ _ hd3
   have k4 := k3.trans (Same.kept s4)
   have eF : (es.take (i + 1)).filter (fun e => !wishHolds rs e.1 ws) = (es.take i).filter (fun e => !wishHolds rs e.1 ws) ++ List.filter (fun e => !wishHolds rs e.1 ws) [(c, l)] := by rw [snoc_take hc, List.filter_append]
   cases hh : wishHolds rs c ws with
   | true =>
    refine iteF ?_
    refine ⟨_, _, k4, s4 _ _ hg3, ?_, rfl⟩
    rw [hd4, eF, show List.filter (fun e => !wishHolds rs e.1 ws) [(c, l)] = [] from by rw [List.filter_cons, if_neg (by show ¬ (!wishHolds rs c ws) = true; rw [hh]; decide)]; rfl, List.append_nil]
   | false =>
    refine iteT ?_
    have ndf : (((es.take i).filter fun e => !wishHolds rs e.1 ws).map (·.1)).Nodup := List.Pairwise.sublist (List.Sublist.map _ (List.Sublist.trans List.filter_sublist (List.take_sublist _ _))) nd
    have few := cuts_few hv ndf fun c hc => by
     obtain ⟨e, he, rfl⟩ := List.mem_map.mp hc
     exact ins e (List.mem_of_mem_take (List.mem_filter.mp he).1)
    rw [List.length_map] at few
    have hnew : c ∉ ((es.take i).filter fun e => !wishHolds rs e.1 ws).map (·.1) := fun z => by
     obtain ⟨e, he, hec⟩ := List.mem_map.mp z
     obtain ⟨j, hj⟩ := List.getElem?_of_mem (List.mem_filter.mp he).1
     have hji : j < i := by
      have := lt_of_get hj
      rw [List.length_take] at this
      lia
     rw [List.getElem?_take, if_pos hji] at hj
     have h1 : (es.map (·.1))[j]? = some c := by rw [List.getElem?_map, hj]; show some e.1 = _; rw [hec]
     have h2 : (es.map (·.1))[i]? = some c := by rw [List.getElem?_map, hc]; rfl
     have h1 := List.getElem?_eq_some_iff.mp h1
     have h2 := List.getElem?_eq_some_iff.mp h2
     have := (List.getElem_inj (h₀ := h1.1) (h₁ := h2.1) nd).mp (h1.2.trans h2.2.symm)
     lia
    refine ⟨_, rfl, _, rfl, _, rfl, d, _, rfl, DPut.t (k := cutKey c) hd4 (by rw [cutKey_V]; exact s4 _ _ hb3) (by rw [wkK_len, sizeLine_eq]; lia), _, _, ?_, ?_, ?_, rfl⟩
    ·exact fun b' o' e' n' => by rw [upd_ne (ne_of_none e' hd)]; exact k4 b' o' e' n'
    ·rw [upd_ne (Ne.symm hdg)]; exact s4 _ _ hg3
    ·rw [upd_same, wkK_set ndf, setE_new hnew, eF, show List.filter (fun e => !wishHolds rs e.1 ws) [(c, l)] = [(c, l)] from by rw [List.filter_cons, if_pos (by show (!wishHolds rs c ws) = true; rw [hh]; rfl)]; rfl]
  ·rintro σ H2 ⟨v4, v5, k2, hg2, hd2, rfl⟩
   rw [wkK_len, List.take_length] at hd2
   exact ⟨_, rfl, q d H2 k2 hd hd2⟩
theorem ok_wbehind {f C : Addr} {fd : FuncData} (F : Fun K "walks_behind" "walks_behind" s_walks_behind f fd) (B : Bl mg) (R : RecC K C) (D_nexts : Df P w K mg base 3 "nexts" ["record", "cut"] (sp_nexts C)) (D_added : Df P w K mg base 1 "added" ["cut", "hand"] sp_added) : FnOk P w K mg base CX0 4 f fd ["record", "walks"] (sp_wbehind C) := by
 have sc := sc_walks_behind
 refine F.ok sc (fun vs H Q E h => ?_) (fun cdv A outer s H vs Q E hr h => ?_)
 ·obtain ⟨_, x, a, sd, td, ps, rs, g, es, rfl, _⟩ := h
  rfl
 ·obtain ⟨H0, x, a, sd, td, ps, rs, g, es, rfl, s0, hg0, hA, hg, nd, hE, q⟩ := h
  have hu := hu_of hr
  have hv := hA.val
  have hb4 := hv.bnd.hi
  refine ⟨_, (pss_cons (ps_set (i := 2) sc.nd rfl (Or.inl rfl) pe_dnewT)
    (pss_cons (ps_for PassesOwn.never rfl (pi_ditems (pv 1)) (pg_tup rfl (pgs_cons (pg_name (i := 3) sc.nd rfl (Or.inl rfl)) (pgs_cons (pg_name (i := 4) sc.nd rfl (Or.inl rfl)) pgs_nil))) (pss_one (ps_for PassesOwn.never rfl (pi_list (pe_df D_nexts (hr.mono (by decide)) (pa_cons (pv 0) (pa_cons (pv 3) pa_nil)))) (pg_name (i := 5) sc.nd rfl (Or.inl rfl)) (pss_one (ps_dput hu (pv 2) (pe_df D_added (hr.mono (by decide)) (pa_cons (pv 3) (pa_cons (pv 5) pa_nil))) (pe_op op_cat (pv 4) (pe_lst (pa_cons (pv 5) pa_nil))) rfl)))))
    (pss_one (ps_ret (pv 2))))), ?_⟩
  refine fun d hd => ?_
  have hdg : d ≠ g := by rintro rfl; rw [hg] at hd; cases hd
  have hg1 := Same.new (o := .dT []) hd _ _ hg
  refine ⟨_, rfl, g, wkK es, rfl, hg1, fun o => for_items (a := g) (o := o) (kvs := wkK es) (fun i σ H2 => ∃ fs v3 v4 v5, Kept (fun b => b = g) H H2 ∧ H2 g = some (.frz o (.dT (wkK es))) ∧ H2 d = some (.dT (wkK fs)) ∧ BhW rs H0 H H2 es fs ∧ (∀ e ∈ es.take i, ∀ n, Goes rs e.1 n → bump e.1 n ∈ fs.map (·.1)) ∧ σ = [some (.ref x), some (.ref g), some (.ref d), v3, v4, v5])
   ⟨[], _, _, _, (Same.kept (Same.new hd)).trans (Kept.upd rfl), upd_same, by rw [upd_ne hdg]; exact upd_same, ⟨List.nodup_nil, fun f hf => (nomatch hf)⟩, fun e he => (nomatch he), rfl⟩ (fun i σ H2 _ ⟨_, _, _, _, _, z, _⟩ => z) ?_ ?_⟩
  ·rintro i k v σ H2 p b hi ⟨fs, v3, v4, v5, k2, hg2, hd2, hF, hall, rfl⟩ hp hb
   unfold wkK at hi
   rw [List.getElem?_map] at hi
   obtain ⟨⟨c, l⟩, hc, ekv⟩ := Option.map_eq_some_iff.mp hi
   cases ekv
   rw [cutKey_V] at hb
   have hce : (c, l) ∈ es := List.mem_of_getElem? hc
   obtain ⟨Ic, wk, hl, hwl⟩ := hE _ hce
   have Ic : Inside rs c := Ic
   have hl : H l = some (.lst (csV wk)) := hl
   have hlg : l ≠ g := by rintro rfl; rw [hg] at hl; cases hl
   have hld : l ≠ d := ne_of_none hl hd
   have hcl : c.length ≤ 4 := by rw [Ic.len]; exact hb4
   have sp := Same.new (o := .tup [V.ref b, V.ref l]) hp
   refine ⟨p, _, rfl, SqT.of upd_same, rfl, _, _, rfl, _, _, rfl, rfl, ?_⟩
   have hF3 : BhW rs H0 H (L2.upd H2 p (.tup [V.ref b, V.ref l])) es fs := ⟨hF.nd, fun f hf => by
    obtain ⟨e, he, n, k, g1, g2, g3, g4, g5⟩ := hF.at_ f hf
    exact ⟨e, he, n, k, g1, g2, g3, g4, sp _ _ g5⟩⟩
   have k3 := k2.trans (Same.kept sp)
   have hb3 := sp _ _ hb
   have hg3 := sp _ _ hg2
   have hd3 := sp _ _ hd2
   generalize L2.upd H2 p (.tup [V.ref b, V.ref l]) = H3 at k3 hb3 hg3 hd3 hF3
   clear sp hp hb hg2 hd2 k2 hF
   clear H2
   have s3 := k3.to s0 hg0
   refine ⟨_, rfl, _, rfl, x, a, sd, td, ps, rs, b, c, rfl, hA.same s3, hb3, Ic, fun nf hs H4 s4 hnf0 hnf hN => ?_⟩
   have hnd : nf ≠ d := by rintro rfl; rw [hd3] at hnf0; cases hnf0
   have hng : nf ≠ g := by rintro rfl; rw [hg3] at hnf0; cases hnf0
   have hbd : b ≠ d := by rintro rfl; rw [hd3] at hb3; cases hb3
   refine ⟨nf, rfl, ⟨_, SqL.of hnf⟩, for_list (K := K) (a := nf) (xs := csV hs) (fun j σ H5 => ∃ fs v5, Kept (fun b => b = g) H H5 ∧ H5 g = some (.frz o (.dT (wkK es))) ∧ H5 d = some (.dT (wkK fs)) ∧ H5 nf = some (.lst (csV hs)) ∧ TpI H5 b c ∧ BhW rs H0 H H5 es fs ∧ (∀ e ∈ es.take i, ∀ n, Goes rs e.1 n → bump e.1 n ∈ fs.map (·.1)) ∧ (∀ n ∈ hs.take j, bump c n ∈ fs.map (·.1)) ∧ σ = [some (.ref x), some (.ref g), some (.ref d), some (.ref b), some (.ref l), v5])
    ⟨fs, _, k3.trans (Same.kept s4), s4 _ _ hg3, s4 _ _ hd3, hnf, s4 _ _ hb3, ⟨hF3.nd, fun f hf => by
     obtain ⟨e, he, n, k, g1, g2, g3, g4, g5⟩ := hF3.at_ f hf
     exact ⟨e, he, n, k, g1, g2, g3, g4, s4 _ _ g5⟩⟩, hall, fun n hn => (nomatch hn), rfl⟩ (fun j σ H5 _ ⟨_, _, _, _, _, z, _⟩ => SqL.of z) ?_ ?_⟩
   ·rintro j y σ H5 hj ⟨fs, v5, k5, hg5, hd5, hnf5, hb5, hF, hall, hdone, rfl⟩
    unfold csV at hj
    rw [List.getElem?_map] at hj
    obtain ⟨h, hh, rfl⟩ := Option.map_eq_some_iff.mp hj
    have hgo := (hN.mem h).mp (List.mem_of_getElem? hh)
    obtain ⟨n, hn, _⟩ := id hgo
    obtain ⟨Id, _⟩ := hgo.bump
    have few := cuts_few hv hF.nd fun c hc => by
     obtain ⟨f, hf, rfl⟩ := List.mem_map.mp hc
     obtain ⟨e, he, n, k, g1, g2, _⟩ := hF.at_ f hf
     rw [g2]
     exact g1.bump.1
    rw [List.length_map] at few
    have hl5 : H5 l = some (.lst (csV wk)) := k5 _ _ hl hlg
    -- walk + [hand]
    refine ⟨_, rfl, _, rfl, (by show 1 ≤ sizeLine; decide), fun l1 hl1 => ?_⟩
    have n1 := Same.new (o := .lst [V.int ((h : Nat) : Int)]) hl1
    have hwc : (csV wk ++ [V.int ((h : Nat) : Int)]) = csV (wk ++ [h]) := by unfold csV; rw [List.map_append]; rfl
    have hll : (csV wk).length = wk.length := by unfold csV; rw [List.length_map]
    refine ⟨l, l1, _, _, rfl, rfl, n1 _ _ hl5, upd_same, Nat.le_of_lt (small1000 (by rw [hll]; show _ + 1 ≤ 1000; lia)), fun l2 hl2 => ?_⟩
    rw [hwc]
    have n2 := n1.trans (Same.new (o := .lst (csV (wk ++ [h]))) hl2)
    have hl6 : L2.upd (L2.upd H5 l1 (.lst [V.int ((h : Nat) : Int)])) l2 (.lst (csV (wk ++ [h]))) l2 = some (.lst (csV (wk ++ [h]))) := upd_same
    have hl2H : H5 l2 = none := n1.free hl2
    have hl2g : l2 ≠ g := by rintro rfl; rw [hg5] at hl2H; cases hl2H
    have hl20 : H0 l2 = none := by
     cases z : H0 l2 with
     | none => rfl
     | some o' =>
      have := k5 _ _ (s0 _ _ z) hl2g
      rw [hl2H] at this
      cases this
    generalize L2.upd (L2.upd H5 l1 (.lst [V.int ((h : Nat) : Int)])) l2 (.lst (csV (wk ++ [h]))) = H6 at n2 hl6
    refine ⟨_, rfl, _, rfl, _, rfl, b, c, h, n, rfl, n2 _ _ hb5, by lia, hn, fun nt H7 s7 hnt => ?_⟩
    rw [← bump_of hn] at hnt
    have s57 := n2.trans s7
    have hd7 := s57 _ _ hd5
    have hl7 := s7 _ _ hl6
    have hl2d : l2 ≠ d := by rintro rfl; rw [hd5] at hl2H; cases hl2H
    refine ⟨d, _, rfl, DPut.t (k := cutKey (bump c h)) hd7 (by rw [cutKey_V]; exact hnt) (by rw [wkK_len, sizeLine_eq]; lia), setE fs (bump c h) l2, _, ?_, ?_, ?_, ?_, ?_, ⟨setE_nd hF.nd, fun f hf => ?_⟩, fun e he m hm => setE_keys.mpr (.inr (hall e he m hm)), fun m hm => ?_, rfl⟩
    ·exact fun b' o' e' n' => by rw [upd_ne (ne_of_none e' hd)]; exact s57 _ _ (k5 b' o' e' n')
    ·rw [upd_ne (Ne.symm hdg)]; exact s57 _ _ hg5
    ·rw [upd_same, wkK_set hF.nd]
    ·rw [upd_ne hnd]; exact s57 _ _ hnf5
    ·show L2.upd H7 d _ b = _
     rw [upd_ne hbd]; exact s57 _ _ hb5
    ·rcases setE_mem hf with rfl | z
     ·exact ⟨(c, l), hce, h, wk, hgo, rfl, hl, hl20, by rw [upd_ne hl2d]; exact hl7⟩
     ·obtain ⟨e, he, m, k, g1, g2, g3, g4, g5⟩ := hF.at_ f z
      exact ⟨e, he, m, k, g1, g2, g3, g4, by rw [upd_ne (fun z => by rw [z, hd5] at g5; cases g5)]; exact s57 _ _ g5⟩
    ·rw [snoc_take hh] at hm
     rcases List.mem_append.mp hm with z | z
     ·exact setE_keys.mpr (.inr (hdone m z))
     ·rw [List.mem_singleton.mp z]
      exact setE_keys.mpr (.inl rfl)
   ·rintro σ H5 ⟨fs, v5, k5, hg5, hd5, hnf5, hb5, hF, hall, hdone, rfl⟩
    have hl' : (csV hs).length = hs.length := by unfold csV; rw [List.length_map]
    rw [hl', List.take_length] at hdone
    refine ⟨fs, _, _, _, k5, hg5, hd5, hF, fun e he m hm => ?_, rfl⟩
    rw [snoc_take hc] at he
    rcases List.mem_append.mp he with z | z
    ·exact hall e z m hm
    ·rw [List.mem_singleton.mp z] at hm ⊢
     exact hdone m ((hN.mem m).mpr hm)
  ·rintro σ H2 ⟨fs, v3, v4, v5, k2, hg2, hd2, hF, hall, rfl⟩
   rw [wkK_len, List.take_length] at hall
   exact ⟨_, rfl, q d fs H2 k2 hd hd2 hF hall⟩
theorem ok_must {f C : Addr} {fd : FuncData} (F : Fun K "must" "must" s_must f fd) (B : Bl mg) (R : RecC K C) (M_end : Mf P w K mg base 1 C "end" ["self"] (sp_end C)) (D_beginning : Df P w K mg base 1 "beginning" ["record"] (sp_begin C)) (D_walks_behind : Df P w K mg base 4 "walks_behind" ["record", "walks"] (sp_wbehind C)) (D_without_held : Df P w K mg base 5 "without_held" ["record", "wish", "walks"] (sp_without C)) : FnOk P w K mg base CX0 6 f fd ["record", "wish"] (sp_must C) := by
 have sc := sc_must
 refine F.ok sc (fun vs H Q E h => ?_) (fun cdv A outer s H vs Q E hr h => ?_)
 ·obtain ⟨x, a, sd, td, ps, rs, w, qs, ws, rfl, _⟩ := h
  rfl
 ·obtain ⟨x, a, sd, td, ps, rs, w, qs, ws, rfl, hA, hW, hok, qn, q⟩ := h
  have hu := hu_of hr
  have hv := hA.val
  have hb4 := hv.bnd.hi
  obtain ⟨t0, few⟩ := tot_le hv.bnd
  obtain ⟨dx, hx⟩ := hA.ob
  have wkB : ∀ k, ClearB rs ws k → Wk rs k := fun k z => z.1
  have wkC : ∀ k, Clear rs ws k → Wk rs k := fun k z => z.1
  refine ⟨_, (pss_cons (ps_set (i := 2) sc.nd rfl (Or.inl rfl) (pe_df D_without_held (hr.mono (by decide)) (pa_cons (pv 0) (pa_cons (pv 1) (pa_cons (pe_dispT hu (pe_df D_beginning (hr.mono (by decide)) (pa_cons (pv 0) pa_nil)) (pe_lst pa_nil)) pa_nil)))))
    (pss_cons (ps_for PassesOwn.never rfl (pi_range1 rfl (B "range" (by decide +kernel)) (pa_cons (pe_callB (call_sumI rfl) (by rfl) (B "sum" (by decide +kernel)) bt_sum (pa_cons (pe_mf0 M_end (hr.mono (by decide)) (pv 0)) pa_nil)) pa_nil)) (pg_name (i := 3) sc.nd rfl (Or.inl rfl)) (pss_one (ps_set (i := 2) sc.nd rfl (Or.inl rfl) (pe_df D_without_held (hr.mono (by decide)) (pa_cons (pv 0) (pa_cons (pv 1) (pa_cons (pe_df D_walks_behind (hr.mono (by decide)) (pa_cons (pv 0) (pa_cons (pv 2) pa_nil))) pa_nil)))))))
    (pss_one (ps_ret (pe_dget1 hu (pv 2) (pe_mf0 M_end (hr.mono (by decide)) (pv 0)) ⟨rfl, rfl, rfl, rfl⟩))))), ?_⟩
  refine ⟨_, rfl, _, rfl, fun p hp => ⟨_, rfl, x, a, sd, td, ps, rs, rfl, hA.same (Same.new hp), fun t H2 s2 ht => ⟨Nat.zero_le _, fun l hl => ⟨t, cutKey (rs.map fun _ => 0), rfl, by rw [cutKey_V]; exact Same.new hl _ _ ht, Same.new hl _ _ (s2 _ _ upd_same), ?_⟩⟩⟩⟩
  have s12 := (Same.new (o := .dT []) hp).trans s2
  have hl0 : H l = none := s12.free hl
  have s3 : Same H (L2.upd (L2.upd H2 l (.lst [])) p (.dT [(cutKey (rs.map fun _ => 0), V.ref l)])) := (s12.off hl0).off hp
  have hp3 : L2.upd (L2.upd H2 l (.lst [])) p (.dT [(cutKey (rs.map fun _ => 0), V.ref l)]) p = some (.dT (wkK [(rs.map fun _ => 0, l)])) := upd_same
  have hlp : l ≠ p := by rintro rfl; have := s2 _ _ (upd_same (H := H) (a := l) (o := .dT [])); rw [hl] at this; cases this
  have hl3 : L2.upd (L2.upd H2 l (.lst [])) p (.dT [(cutKey (rs.map fun _ => 0), V.ref l)]) l = some (.lst []) := by rw [upd_ne hlp]; exact upd_same
  generalize L2.upd (L2.upd H2 l (.lst [])) p (.dT [(cutKey (rs.map fun _ => 0), V.ref l)]) = H3 at s3 hp3 hl3
  clear ht s2 hl s12
  clear H2
  have L0 := LvW.first (rs := rs) (ws := ws) hl3 hl0
  refine ⟨H, x, a, sd, td, ps, rs, w, qs, ws, p, _, rfl, s3, hp, hA, hW, hok, hp3, L0.nd, L0.ins (ws := ws) wkB, fun d H4 k4 hd hd4 => ?_⟩
  have s4 := k4.to s3 hp
  have L1 := (L0.keep k4 hp3).sift
  have hd0 : H d = none := s3.free hd
  refine gset_nx ?_
  refine ⟨_, rfl, x, dx, _, rfl, s4 _ _ hx, rec_no _ _ _ (by decide +kernel) (by decide +kernel) (by decide +kernel), x, a, sd, td, ps, rs, rfl, hA.same s4, fun te H5 s5 he => ?_⟩
  rw [lensV_end] at he
  refine ⟨te, endC rs, rfl, .inr (SqT.of he), (endC rs).sum, rfl, by rw [endC_sum]; lia, by rw [endC_sum]; lia, ?_⟩
  rw [endC_sum]
  refine for_range (lo := 0) (n := (tot rs).toNat) (fun k σ H5 => ∃ es c v, Same H H5 ∧ H c = none ∧ H5 c = some (.dT (wkK es)) ∧ LvW rs (Clear rs ws) H H5 k es ∧ σ = [some (.ref x), some (.ref w), some (.ref c), v])
   ⟨_, d, _, s4.trans s5, hd0, s5 _ _ hd4, L1.keep (g := d) (Same.kept s5) hd4, rfl⟩ ?_ ?_
  ·rintro k σ H6 hk ⟨es, c, v, s6, hc0, hc6, hL, rfl⟩
   refine ⟨_, rfl, _, rfl, _, rfl, _, rfl, H, x, a, sd, td, ps, rs, c, es, rfl, s6, hc0, hA, hc6, hL.nd, fun e he => ⟨hL.ins (ws := ws) wkC e he, ?_⟩, fun d2 fs H7 k7 hd2 hd7 hF hall => ?_⟩
   ·obtain ⟨k', h1, _, _, h4, _⟩ := hL.at_ e he
    exact ⟨k', h1, by lia⟩
   have s7 := k7.to s6 hc0
   have hL7 := hL.next hF hall
   have hd20 : H d2 = none := s6.free hd2
   refine ⟨H, x, a, sd, td, ps, rs, w, qs, ws, d2, fs, rfl, s7, hd20, hA, hW, hok, hd7, hL7.nd, hL7.ins (ws := ws) wkB, fun d3 H8 k8 hd3 hd8 => ?_⟩
   exact ⟨_, d3, _, k8.to s7 hd20, s7.free hd3, hd8, (hL7.keep k8 hd7).sift, rfl⟩
  ·rintro σ H6 ⟨es, c, v, s6, hc0, hc6, hL, rfl⟩
   refine ⟨_, rfl, c, rfl, .inr ⟨_, .inl hc6⟩, _, rfl, x, dx, _, rfl, s6 _ _ hx, rec_no _ _ _ (by decide +kernel) (by decide +kernel) (by decide +kernel), x, a, sd, td, ps, rs, rfl, hA.same s6, fun te2 H7 s7 he2 => ?_⟩
   rw [lensV_end] at he2
   refine ⟨_, DGet.t (k := cutKey (endC rs)) (s7 _ _ hc6) (by rw [cutKey_V]; exact he2), ?_⟩
   rw [wkK_get]
   have hC := Comes.end_ hL (by lia)
   cases hg : getA es (endC rs) with
   | none => exact qn (fun z => getA_none hg (hC.mp z)) H7 (s6.trans s7)
   | some l2 =>
    obtain ⟨k, h1, h2, h3, _, h5⟩ := hL.at_ _ (getA_mem hg)
    exact q l2 k H7 (s6.trans s7) h2 (s7 _ _ h1) h3 h5
end
noncomputable abbrev s_law_walked : Stmt := top 44
theorem sc_law_walked : FnScope ["rows", "walk", "cut", "cuts", "hand"] ["rows", "walk"] (defScope s_law_walked) := ⟨rfl, rfl, rfl, by decide +kernel, rfl, by decide +kernel, by decide +kernel⟩
noncomputable abbrev s_law_without : Stmt := top 45
theorem sc_law_without : FnScope ["rows", "wish", "come", "cut", "good", "hand", "less"] ["rows", "wish"] (defScope s_law_without) := ⟨rfl, rfl, rfl, by decide +kernel, rfl, by decide +kernel, by decide +kernel⟩
theorem range_snoc {α : Type} (f : Nat → α) (n : Nat) : (List.range (n + 1)).map f = (List.range n).map f ++ [f n] := by
 rw [List.range_succ, List.map_append]
 rfl
section
variable {P : Program} {w : World} {K : PySem.W.Frag} {mg : Str → Option Value} {base : Heap}
theorem ok_walkedM {f : Addr} {fd : FuncData} (F : Fun K "_law_walked" "_law_walked" s_law_walked f fd) (B : Bl mg) (D_law_whole : Df P w K mg base 1 "_law_whole" ["found"] sp_whole) (D_law_inside : Df P w K mg base 3 "_law_inside" ["rows", "cut"] (sp_inside K)) : FnOk P w K mg base CX0 4 f fd ["rows", "walk"] sp_walkedM := by
 have sc := sc_law_walked
 refine F.ok sc (fun vs H Q E h => ?_) (fun cdv A outer s H vs Q E hr h => ?_)
 ·obtain ⟨a, ps, rs, l, ws, rfl, _⟩ := h
  rfl
 ·obtain ⟨a, ps, rs, l, ws, rfl, hR, hV, hl, hw, q⟩ := h
  have hb4 := hV.bnd.hi
  have hpl : (ps.map V.ref).length = rs.length := by rw [List.length_map, hR.len]
  have hf := hw.few hV
  refine ⟨_, (pss_cons (ps_if (pt_not (pt_val (pe_callB call_isinst (by rfl) (B "isinstance" (by decide +kernel)) bt_isinstance (pa_cons (pv 1) (pa_cons (pe_bltn (v := .ty "list") (by rfl) (B "list" (by decide +kernel)) bt_list rfl) pa_nil))))) (pss_one (ps_ret pe_non)) pss_nil)
    (pss_cons (ps_setLC (i := 2) sc.nd rfl (Or.inl rfl) (te := (tC (.int 0))) (tt := tTrue) (Blk.plain (ts := ["row"]) (by decide +kernel) (by decide +kernel) rfl (by decide +kernel)) rfl (pi_list (pv 0)) (fun _ _ _ _ => (pg_name (i := 0) (show List.Nodup (["row"] : List Str) by decide +kernel) rfl (Or.inl rfl))) (fun _ _ _ _ => pifs_nil) (fun _ _ _ _ => pe_int))
    (pss_cons (ps_set (i := 3) sc.nd rfl (Or.inl rfl) (pe_lst (pa_cons (pe_callTy call_tuple_ofI (by rfl) (B "tuple" (by decide +kernel)) bt_tuple (pa_cons (pv 2) pa_nil)) pa_nil)))
    (pss_cons (ps_for PassesOwn.never rfl (pi_list (pv 1)) (pg_name (i := 4) sc.nd rfl (Or.inl rfl)) (pss_cons (ps_if ((pw_or (pt_not (pt_val (pe_df D_law_whole (hr.mono (by decide)) (pa_cons (pv 4) pa_nil)))) (pw_or1 (pt_not (pt_chain op_le op_lt pe_int (pv 4) (pe_callB call_len_seqI (by rfl) (B "len" (by decide +kernel)) bt_len (pa_cons (pv 0) pa_nil))))))).pt (pss_one (ps_ret pe_non)) pss_nil)
    (pss_cons (ps_asg (pe_op op_add (pe_ix ix_list (pv 2) (pv 4) (fun _ _ => rfl)) pe_int) (pg_sub (pv 2) (pv 4) set_list))
    (pss_cons (ps_if (pt_not (pt_val (pe_df D_law_inside (hr.mono (by decide)) (pa_cons (pv 0) (pa_cons (pv 2) pa_nil))))) (pss_one (ps_ret pe_non)) pss_nil)
    (pss_one (ps_expr (pe_bm PySem.F.plainAttrs_list PySem.F.slot_list_append PySem.F.type_list_append mt_append (pv 3) (pa_cons (pe_callTy call_tuple_ofI (by rfl) (B "tuple" (by decide +kernel)) bt_tuple (pa_cons (pv 2) pa_nil)) pa_nil))))))))
    (pss_one (ps_ret (pv 3))))))), ?_⟩
  refine ⟨_, rfl, _, _, _, true, rfl, .lst hl, rfl, _, rfl, ?_⟩
  refine iteF ?_
  refine ⟨_, rfl, a, rfl, ⟨_, SqL.of hR.top⟩, fun D hD => lc_list (K := K) (a := a) (xs := ps.map V.ref) (fun i σ ys H2 => ∃ v, σ = [v] ∧ ys = List.replicate i (.int 0) ∧ Same H H2 ∧ H2 D = some (.lst ys))
   ⟨_, rfl, rfl, Same.new hD, upd_same⟩ (fun i σ ys H2 _ ⟨v, _, _, s2, _⟩ => SqL.of (s2 _ _ hR.top)) ?_ ?_⟩
  ·rintro i y σ ys H2 hi ⟨v, rfl, rfl, s2, hD2⟩
   have hi' := lt_of_get hi
   exact ⟨hD2, small1000 (by rw [List.length_replicate]; lia), _, rfl, by rw [List.replicate_succ'], s2.off hD, upd_same⟩
  rintro σ ys H2 ⟨v, rfl, rfl, s2, hD2⟩
  have e : List.replicate (ps.map V.ref).length (V.int 0) = (wcut rs []).map V.int := by
   show _ = (rs.map fun _ => (0 : Int)).map V.int
   rw [List.length_map, hR.len, List.map_map]
   exact (List.map_const' (l := rs) (b := V.int 0)).symm
  rw [e] at hD2
  refine ⟨_, rfl, D, _, rfl, .inl ⟨SqL.of hD2, fun t ht => ?_⟩⟩
  have s3 := s2.trans (Same.new (o := .tup ((wcut rs []).map V.int)) ht)
  have hD3 := Same.new (o := .tup ((wcut rs []).map V.int)) ht _ _ hD2
  have ht3 : TpI (L2.upd H2 t (.tup ((wcut rs []).map V.int))) t (wcut rs []) := upd_same
  generalize L2.upd H2 t (.tup ((wcut rs []).map V.int)) = H3 at s3 hD3 ht3
  refine ⟨(by show 1 ≤ sizeLine; decide), fun g hg => ?_⟩
  have n4 := Same.new (o := .lst [V.ref t]) hg
  have hg0 : H g = none := s3.free hg
  have gD : g ≠ D := by rintro rfl; rw [hD3] at hg; cases hg
  refine ⟨_, rfl, l, rfl, ⟨_, SqL.of (n4 _ _ (s3 _ _ hl))⟩, for_list (K := K) (a := l) (xs := csV ws) (fun i σ H4 => Same H H4 ∧ H4 D = some (.lst ((wcut rs (ws.take i)).map V.int)) ∧ (∃ xs, H4 g = some (.lst xs) ∧ Paired (TupI H4) xs ((List.range (i + 1)).map fun j => wcut rs (ws.take j))) ∧ ∃ v4, σ = [some (.ref a), some (.ref l), some (.ref D), some (.ref g), v4])
   ⟨s3.trans n4, n4 _ _ hD3, ⟨[V.ref t], upd_same, .cons ⟨t, rfl, ht3.same n4⟩ .nil⟩, _, rfl⟩ (fun i σ H4 _ ⟨s4, _⟩ => SqL.of (s4 _ _ hl)) ?_ ?_⟩
  ·rintro i y σ H4 hi ⟨s4, hD4, ⟨xs, hg4, mx⟩, v4, rfl⟩
   have hxl := Paired.length mx
   rw [List.length_map, List.length_range] at hxl
   obtain ⟨h, hh, rfl⟩ := csV_at hi
   have hil := lt_of_get hh
   have hhl := hw.lt hh
   obtain ⟨n, hn, J⟩ := hw i h hh
   have eJ : wcut rs (ws.take (i + 1)) = (wcut rs (ws.take i)).set h (n + 1) := by rw [snoc_take hh, wcut_snoc hn]
   have hIl := (hw.inside i (Nat.le_of_lt hil)).len
   refine ⟨_, rfl, _, rfl, true, rfl, ?_⟩
   refine iteF ?_
   refine ⟨_, rfl, _, _, rfl, rfl, _, rfl, ?_⟩
   refine iteT2 (by show (0 : Int) ≤ ((h : Nat) : Int); lia) ?_
   refine ⟨_, rfl, a, _, rfl, .inl (SqL.of (s4 _ _ hR.top)), _, _, rfl, rfl, _, rfl, ?_⟩
   refine iteNS (by show ((h : Nat) : Int) < (((ps.map V.ref).length : Nat) : Int); lia) ?_
   refine ⟨_, rfl, _, rfl, D, _, _, _, rfl, rfl, SqL.of hD4, ints_at hn, _, _, rfl, rfl, _, rfl, _, rfl, D, _, _, h, rfl, rfl, hD4, ixN_nat (by rw [List.length_map, hIl]; exact hhl), ?_⟩
   rw [← List.map_set, ← eJ]
   have k5 : Same H (L2.upd H4 D (.lst ((wcut rs (ws.take (i + 1))).map V.int))) := s4.off hD
   have hD5 : L2.upd H4 D (.lst ((wcut rs (ws.take (i + 1))).map V.int)) D = some (.lst ((wcut rs (ws.take (i + 1))).map V.int)) := upd_same
   have hg5 : L2.upd H4 D (.lst ((wcut rs (ws.take (i + 1))).map V.int)) g = some (.lst xs) := by rw [upd_ne gD]; exact hg4
   have mx5 : Paired (TupI (L2.upd H4 D (.lst ((wcut rs (ws.take (i + 1))).map V.int)))) xs _ := Paired.mapP mx fun _ _ z => z.off hD4
   generalize L2.upd H4 D (.lst ((wcut rs (ws.take (i + 1))).map V.int)) = H5 at k5 hD5 hg5 mx5
   refine ⟨_, rfl, _, rfl, a, ps, rs, D, _, rfl, hR.same k5, hV, .inl (SqL.of hD5), fun b H6 s6 hb => ⟨b, rfl, ?_⟩⟩
   have : b = true := hb.mpr (hw.inside (i + 1) hil)
   subst this
   refine iteF ?_
   have hD6 := s6 _ _ hD5
   have hg6 := s6 _ _ hg5
   refine ⟨_, rfl, .inl ⟨rfl, _, SqL.of hg6⟩, _, rfl, D, _, rfl, .inl ⟨SqL.of hD6, fun t2 ht2 => ?_⟩⟩
   have n7 := Same.new (o := .tup ((wcut rs (ws.take (i + 1))).map V.int)) ht2
   have hg7 := n7 _ _ hg6
   have hD7 := n7 _ _ hD6
   have ht7 : TpI (L2.upd H6 t2 (.tup ((wcut rs (ws.take (i + 1))).map V.int))) t2 (wcut rs (ws.take (i + 1))) := upd_same
   have k7 := (k5.trans s6).trans n7
   have mx7 := Paired.mapP mx5 fun _ _ z => (z.same s6).same n7
   generalize L2.upd H6 t2 (.tup ((wcut rs (ws.take (i + 1))).map V.int)) = H7 at n7 hg7 hD7 ht7 k7 mx7
   refine ⟨g, _, _, rfl, rfl, hg7, small1000 (by lia), ?_⟩
   refine ⟨k7.off hg0, by rw [upd_ne gD.symm]; exact hD7, ⟨_, upd_same, ?_⟩, _, rfl⟩
   rw [range_snoc _ (i + 1)]
   exact Paired.snoc (Paired.mapP mx7 fun _ _ z => z.off hg7) (TupI.off ⟨t2, rfl, ht7⟩ hg7)
  ·rintro σ H4 ⟨s4, hD4, ⟨xs, hg4, mx⟩, v4, rfl⟩
   have e : (csV ws).length = ws.length := by unfold csV; rw [List.length_map]
   rw [e] at mx
   exact ⟨_, rfl, q g xs H4 s4 hg0 hg4 mx⟩
theorem ok_lwithout {f : Addr} {fd : FuncData} (F : Fun K "_law_without" "_law_without" s_law_without f fd) (B : Bl mg) (D_law_all : Df P w K mg base 4 "_law_all" ["rows"] sp_all) (D_law_holds : Df P w K mg base 2 "_law_holds" ["rows", "cut", "wish"] sp_lholds) : FnOk P w K mg base CX0 5 f fd ["rows", "wish"] sp_lwithout := by
 have sc := sc_law_without
 refine F.ok sc (fun vs H Q E h => ?_) (fun cdv A outer s H vs Q E hr h => ?_)
 ·obtain ⟨r, ps, rs, w, qs, ws, rfl, _⟩ := h
  rfl
 ·obtain ⟨r, ps, rs, w, qs, ws, rfl, hR, hV, hW, hok, q⟩ := h
  have hu := hu_of hr
  have hb4 := hV.bnd.hi
  have hpl : (ps.map V.ref).length = rs.length := by rw [List.length_map, hR.len]
  refine ⟨_, (pss_cons (ps_set (i := 2) sc.nd rfl (Or.inl rfl) pe_dnewT)
    (pss_cons (ps_for PassesOwn.never rfl (pi_list (pe_df D_law_all (hr.mono (by decide)) (pa_cons (pv 0) pa_nil))) (pg_name (i := 3) sc.nd rfl (Or.inl rfl)) (pss_cons (ps_set (i := 4) sc.nd rfl (Or.inl rfl) (pe_cmpR op_eq (pe_callB (call_sumI rfl) (by rfl) (B "sum" (by decide +kernel)) bt_sum (pa_cons (pv 3) pa_nil)) pe_int (nomark _)))
    (pss_cons (ps_for PassesOwn.never rfl (pi_range1 rfl (B "range" (by decide +kernel)) (pa_cons (pe_callB call_len_seqI (by rfl) (B "len" (by decide +kernel)) bt_len (pa_cons (pv 0) pa_nil)) pa_nil)) (pg_name (i := 5) sc.nd rfl (Or.inl rfl)) (pss_cons (ps_set (i := 6) sc.nd rfl (Or.inl rfl) (pe_callTy call_list_ofI (by rfl) (B "list" (by decide +kernel)) bt_list (pa_cons (pv 3) pa_nil)))
    (pss_cons (ps_asg (pe_op op_sub (pe_ix ix_list (pv 6) (pv 5) (fun _ _ => rfl)) pe_int) (pg_sub (pv 6) (pv 5) set_list))
    (pss_one (ps_set (i := 4) sc.nd rfl (Or.inl rfl) (pe_or (pv 4) (pe_one (pe_cmp (pc_din hu (pe_callTy call_tuple_ofI (by rfl) (B "tuple" (by decide +kernel)) bt_tuple (pa_cons (pv 6) pa_nil)) (pv 2))))))))))
    (pss_one (ps_if ((pw_and (pt_val (pv 4)) (pw_and1 (pt_not (pt_val (pe_df D_law_holds (hr.mono (by decide)) (pa_cons (pv 0) (pa_cons (pv 3) (pa_cons (pv 1) pa_nil))))))))).pt (pss_one (ps_dput hu (pv 2) (pv 3) pe_bl rfl)) pss_nil)))))
    (pss_one (ps_ret (pv 2))))), ?_⟩
  refine fun d hd => ?_
  have sd := Same.new (o := .dT []) hd
  have hd1 : L2.upd H d (.dT []) d = some (.dT (boK (comeL rs ws []))) := upd_same
  refine ⟨_, rfl, r, ps, rs, rfl, hR.same sd, hV, fun fc cs H2 s2 hfc0 hCA hAll => ?_⟩
  obtain ⟨xs, hfc, mx⟩ := id hCA
  have hxl := Paired.length mx
  have few := cuts_few hV hAll.nodup fun c hc => (hAll.mem c).mp hc
  have s02 := sd.trans s2
  have hd2 := s2 _ _ hd1
  have hfd : fc ≠ d := by rintro rfl; rw [hd1] at hfc0; cases hfc0
  refine ⟨fc, rfl, ⟨_, SqL.of hfc⟩, for_list (K := K) (a := fc) (xs := xs) (fun i σ H3 => ∃ v3 v4 v5 v6, OffM d H2 H3 ∧ H3 d = some (.dT (boK (comeL rs ws (cs.take i)))) ∧ σ = [some (.ref r), some (.ref w), some (.ref d), v3, v4, v5, v6])
   ⟨_, _, _, _, fun b o _ e => e, hd2, rfl⟩ (fun i σ H3 _ ⟨_, _, _, _, o3, _⟩ => SqL.of (o3 _ _ hfd hfc)) ?_ ?_⟩
  ·rintro i y σ H3 hy ⟨v3, v4, v5, v6, o3, hd3, rfl⟩
   obtain ⟨c, hc, t, rfl, ht⟩ := Paired.get mx hy
   have ht : TpI H2 t c := ht
   have Ic := (hAll.mem c).mp (List.mem_of_getElem? hc)
   have htd : t ≠ d := by rintro rfl; rw [show H2 t = some (.tup (c.map V.int)) from ht] at hd2; cases hd2
   have ht3 : H3 t = some (.tup (c.map V.int)) := o3 _ _ htd ht
   have hcl : c.length = rs.length := Ic.len
   have s3 := o3.to s02 hd
   have hdn : ∀ (h : Nat) (n : Int), c[h]? = some n → (c.set h (n - 1) ∈ comeL rs ws (cs.take i) ↔ Comes rs ws (c.set h (n - 1))) := fun h n hn => by
    rw [comeL_mem]
    refine ⟨fun z => z.2, fun z => ⟨seen_less hAll hc z.inside ?_, z⟩⟩
    rw [sum_setI hn]
    lia
   refine ⟨_, rfl, t, c, rfl, .inr (SqT.of ht3), rfl, ?_⟩
   refine ⟨_, rfl, r, _, rfl, .inl (SqL.of (s3 _ _ hR.top)), _, rfl, by lia, by lia, for_range (lo := 0) (n := (ps.map V.ref).length) (fun j σ H4 => ∃ v5 v6, Same H3 H4 ∧ ∃ b : Bool, (b = true ↔ c.sum = 0 ∨ ∃ (h : Nat) (n : Int), h < j ∧ c[h]? = some n ∧ Comes rs ws (c.set h (n - 1))) ∧ σ = [some (.ref r), some (.ref w), some (.ref d), some (.ref t), some (.bl b), v5, v6])
    ⟨_, _, Same.refl _, _, ?_, rfl⟩ ?_ ?_⟩
   ·rw [decide_eq_true_eq]
    refine ⟨fun z => .inl (V.int.inj z), fun z => ?_⟩
    rcases z with z | ⟨h, n, hlt, _⟩
    ·rw [z]
    ·exact absurd hlt (Nat.not_lt_zero _)
   ·rintro j σ H4 hj ⟨v5, v6, s4, b, hb, rfl⟩
    rw [show (0 : Int) + ((j : Nat) : Int) = ((j : Nat) : Int) from Int.zero_add _]
    rw [hpl] at hj
    obtain ⟨n, hn⟩ := get_of (l := c) (h := j) (by lia)
    refine ⟨_, rfl, t, _, rfl, .inr (SqT.of (s4 _ _ ht3)), fun m hm => ?_⟩
    have hm0 : L2.upd H4 m (.lst (c.map V.int)) m = some (.lst (c.map V.int)) := upd_same
    have t4 := Same.new (o := .lst (c.map V.int)) hm
    have hm3 : H3 m = none := s4.free hm
    generalize L2.upd H4 m (.lst (c.map V.int)) = H5 at hm0 t4
    refine ⟨_, rfl, _, rfl, m, _, _, _, rfl, rfl, SqL.of hm0, ints_at hn, _, _, rfl, rfl, _, rfl, _, rfl, m, _, _, j, rfl, rfl, hm0, ixN_nat (by rw [List.length_map]; lia), ?_⟩
    rw [← List.map_set]
    have hm1 : L2.upd H5 m (.lst ((c.set j (n - 1)).map V.int)) m = some (.lst ((c.set j (n - 1)).map V.int)) := upd_same
    have s6 : Same H3 (L2.upd H5 m (.lst ((c.set j (n - 1)).map V.int))) := (s4.trans t4).off hm3
    generalize L2.upd H5 m (.lst ((c.set j (n - 1)).map V.int)) = H6 at hm1 s6
    have step : (c.sum = 0 ∨ ∃ (h : Nat) (n : Int), h < j + 1 ∧ c[h]? = some n ∧ Comes rs ws (c.set h (n - 1))) ↔ b = true ∨ Comes rs ws (c.set j (n - 1)) := by
     rw [hb]
     constructor
     ·rintro (z | ⟨h, n', hlt, hn', z⟩)
      ·exact .inl (.inl z)
      ·by_cases e : h = j
       ·subst e
        rw [hn] at hn'
        cases hn'
        exact .inr z
       ·exact .inl (.inr ⟨h, n', by lia, hn', z⟩)
     ·rintro ((z | ⟨h, n', hlt, hn', z⟩) | z)
      ·exact .inl z
      ·exact .inr ⟨h, n', by lia, hn', z⟩
      ·exact .inr ⟨j, n, by lia, hn, z⟩
    refine ⟨_, rfl, b, rfl, ?_⟩
    cases b with
    | true =>
     refine iteT ?_
     exact ⟨_, _, s6, true, by rw [step]; exact ⟨fun _ => .inl rfl, fun _ => rfl⟩, rfl⟩
    | false =>
     refine iteF ?_
     refine ⟨_, rfl, m, _, rfl, .inl ⟨SqL.of hm1, fun l hl => ?_⟩⟩
     have s7 := s6.trans (Same.new (o := .tup ((c.set j (n - 1)).map V.int)) hl)
     have hl7 : L2.upd H6 l (.tup ((c.set j (n - 1)).map V.int)) l = some (.tup ((c.set j (n - 1)).map V.int)) := upd_same
     generalize L2.upd H6 l (.tup ((c.set j (n - 1)).map V.int)) = H7 at s7 hl7
     refine ⟨_, rfl, d, _, rfl, DGet.t (k := cutKey (c.set j (n - 1))) (s7 _ _ hd3) (by rw [cutKey_V]; exact hl7), _, _, s7, _, ?_, rfl⟩
     rw [boK_get, decide_eq_true_eq, hdn j n hn, step]
     exact ⟨fun z => .inr z, fun z => z.elim (fun z => nomatch z) id⟩
   ·rintro σ H4 ⟨v5, v6, s4, b, hb, rfl⟩
    have hcom : Comes rs ws c ↔ wishHolds rs c ws = false ∧ b = true := by
     rw [comes_iff Ic, hb]
     refine and_congr Iff.rfl (or_congr Iff.rfl ⟨fun ⟨h, n, hn, z⟩ => ⟨h, n, ?_, hn, z⟩, fun ⟨h, n, _, hn, z⟩ => ⟨h, n, hn, z⟩⟩)
     have := lt_of_get hn
     lia
    have no : ∀ (H5 : Hp) (σ' : St), Same H4 H5 → ¬ Comes rs ws c → (∃ v3 v4 v5 v6, σ' = [some (.ref r), some (.ref w), some (.ref d), v3, v4, v5, v6]) → ∃ v3 v4 v5 v6, OffM d H2 H5 ∧ H5 d = some (.dT (boK (comeL rs ws (cs.take (i + 1))))) ∧ σ' = [some (.ref r), some (.ref w), some (.ref d), v3, v4, v5, v6] := fun H5 σ' s5 hn ⟨v3, v4, v5, v6, e⟩ => ⟨v3, v4, v5, v6, (o3.same s4).same s5, by rw [snoc_take hc, comeL_no hn]; exact s5 _ _ (s4 _ _ hd3), e⟩
    refine ⟨_, rfl, b, rfl, ?_⟩
    cases b with
    | false =>
     refine iteF ?_
     refine iteF ?_
     exact no H4 _ (Same.refl _) (fun z => by have := (hcom.mp z).2; cases this) ⟨_, _, _, _, rfl⟩
    | true =>
     refine iteT ?_
     have s04 := s3.trans s4
     refine ⟨_, rfl, _, rfl, _, rfl, r, ps, rs, t, c, w, qs, ws, rfl, hR.same s04, s4 _ _ ht3, Ic, hW.same s04, by rw [hcl]; exact hok, fun H5 s5 => ⟨_, rfl, ?_⟩⟩
     cases hh : wishHolds rs c ws with
     | true =>
      refine iteF ?_
      exact no H5 _ s5 (fun z => by have := (hcom.mp z).1; rw [hh] at this; cases this) ⟨_, _, _, _, rfl⟩
     | false =>
      refine iteT ?_
      have hyes : Comes rs ws c := hcom.mpr ⟨hh, rfl⟩
      have hd5 := s5 _ _ (s4 _ _ hd3)
      have hnew : c ∉ comeL rs ws (cs.take i) := fun z => by
       obtain ⟨j, hj⟩ := List.getElem?_of_mem (comeL_mem.mp z).1
       have hji : j < i := by
        have := lt_of_get hj
        rw [List.length_take] at this
        lia
       rw [List.getElem?_take, if_pos hji] at hj
       have h1 := List.getElem?_eq_some_iff.mp hc
       have h2 := List.getElem?_eq_some_iff.mp hj
       have := (List.getElem_inj (h₀ := h1.1) (h₁ := h2.1) hAll.nodup).mp (h1.2.trans h2.2.symm)
       lia
      have hlen : (boK (comeL rs ws (cs.take i))).length < sizeLine := by
       have := comeL_len rs ws (cs.take i)
       rw [List.length_take] at this
       unfold boK
       rw [List.length_map, sizeLine_eq]
       lia
      refine ⟨_, rfl, _, rfl, d, _, rfl, DPut.t (k := cutKey c) hd5 (by rw [cutKey_V]; exact s5 _ _ (s4 _ _ ht3)) hlen, _, _, _, _, ((o3.same s4).same s5).put, ?_, rfl⟩
      rw [upd_same, snoc_take hc, comeL_yes hyes, boK_new hnew]
  ·rintro σ H3 ⟨v3, v4, v5, v6, o3, hd3, rfl⟩
   rw [hxl, List.take_length] at hd3
   refine ⟨_, rfl, q d _ H3 (o3.to s02 hd) hd3 fun c => ?_⟩
   rw [comeL_mem, hAll.mem]
   exact ⟨fun z => z.2, fun z => ⟨z.inside, z⟩⟩
end
noncomputable abbrev s_law_right : Stmt := top 46
theorem sc_law_right : FnScope ["rows", "record", "wish", "end", "found", "cuts"] ["rows", "record", "wish"] (defScope s_law_right) := ⟨rfl, rfl, rfl, by decide +kernel, rfl, by decide +kernel, by decide +kernel⟩
theorem snoc_inv {α β : Type} {F : α → β → Prop} {b : β} : ∀ {ys : List α} {bs : List β}, Paired F ys (bs ++ [b]) → ∃ xs x, ys = xs ++ [x] ∧ F x b
 | [], [], m => by cases m
 | [], _ :: _, m => by cases m
 | y :: ys, [], m => by
  cases m with
  | cons h t =>
   cases t with
   | nil => exact ⟨[], y, rfl, h⟩
 | y :: ys, c :: bs, m => by
  cases m with
  | cons h t =>
   obtain ⟨xs, x, rfl, hx⟩ := snoc_inv (bs := bs) t
   exact ⟨y :: xs, x, rfl, hx⟩
theorem rep_bool {H : Hp} : ∀ n : Nat, Paired (MBo H) (List.replicate n (V.bl false)) (List.replicate n false)
 | 0 => .nil
 | n + 1 => .cons rfl (rep_bool n)
section
variable {P : Program} {w : World} {K : PySem.W.Frag} {mg : Str → Option Value} {base : Heap}
theorem ok_lrightM {f C : Addr} {fd : FuncData} (F : Fun K "_law_right" "_law_right" s_law_right f fd) (B : Bl mg) (D_must : Df P w K mg base 6 "must" ["record", "wish"] (sp_must C)) (D_law_without : Df P w K mg base 5 "_law_without" ["rows", "wish"] sp_lwithout)
  (D_law_walked : Df P w K mg base 4 "_law_walked" ["rows", "walk"] sp_walkedM) (D_law_holds : Df P w K mg base 2 "_law_holds" ["rows", "cut", "wish"] sp_lholds) : FnOk P w K mg base CX0 7 f fd ["rows", "record", "wish"] (sp_lrightM C) := by
 have sc := sc_law_right
 refine F.ok sc (fun vs H Q E h => ?_) (fun cdv A outer s H vs Q E hr h => ?_)
 ·obtain ⟨r, ps, rs, x, a, sd, td, rqs, w, qs, ws, rfl, _⟩ := h
  rfl
 ·obtain ⟨r, ps, rs, x, a, sd, td, rqs, w, qs, ws, rfl, hR, hV, hA, hW, hok, q⟩ := h
  have hu := hu_of hr
  have hb4 := hV.bnd.hi
  have hpl : (ps.map V.ref).length = rs.length := by rw [List.length_map, hR.len]
  obtain ⟨hw8, hwok⟩ := id hok
  have hwl := Paired.length hW.ways
  refine ⟨_, (pss_cons (ps_set (i := 3) sc.nd rfl (Or.inl rfl) (pe_callTy call_tuple_ofI (by rfl) (B "tuple" (by decide +kernel)) bt_tuple (pa_cons (pe_lc (te := (tCB (rLenS K) (tCons (tVar 0) tNil))) (tt := tTrue) (Blk.plain (ts := ["row"]) (by decide +kernel) (by decide +kernel) rfl (by decide +kernel)) rfl (pi_list (pv 0)) (fun _ _ _ _ => (pg_name (i := 0) (show List.Nodup (["row"] : List Str) by decide +kernel) rfl (Or.inl rfl))) (fun _ _ _ _ => pifs_nil) (fun _ _ _ _ => (pe_callB call_len_seqI (by rfl) (B "len" (by decide +kernel)) bt_len (pa_cons (pv 0) pa_nil)))) pa_nil)))
    (pss_cons (ps_set (i := 4) sc.nd rfl (Or.inl rfl) (pe_df D_must (hr.mono (by decide)) (pa_cons (pv 1) (pa_cons (pe_lc (te := (tCB (rListOf K) (tCons (tVar 0) tNil))) (tt := tTrue) (Blk.plain (ts := ["way"]) (by decide +kernel) (by decide +kernel) rfl (by decide +kernel)) rfl (pi_list (pv 2)) (fun _ _ _ _ => (pg_name (i := 0) (show List.Nodup (["way"] : List Str) by decide +kernel) rfl (Or.inl rfl))) (fun _ _ _ _ => pifs_nil) (fun _ _ _ _ => (pe_callTy call_list_ofI (by rfl) (B "list" (by decide +kernel)) bt_list (pa_cons (pv 0) pa_nil)))) pa_nil))))
    (pss_cons (ps_if (pt_cmpR op_isN (pv 4) pe_non (nomark _)) (pss_one (ps_ret (pe_cmp (pc_dnotin hu (pv 3) (pe_df D_law_without (hr.mono (by decide)) (pa_cons (pv 0) (pa_cons (pv 2) pa_nil))))))) pss_nil)
    (pss_cons (ps_set (i := 5) sc.nd rfl (Or.inl rfl) (pe_df D_law_walked (hr.mono (by decide)) (pa_cons (pv 0) (pa_cons (pv 4) pa_nil))))
    (pss_cons (ps_if ((pw_or (pt_cmpR op_isN (pv 5) pe_non (nomark _)) (pw_or1 (pt_cmpR (op_neT EqOk.flat (un_of hr)) (pe_ix ix_list (pv 5) (pe_un un_neg pe_int) (fun _ _ => rfl)) (pv 3) (nomark _))))).pt (pss_one (ps_ret pe_bl)) pss_nil)
    (pss_cons (ps_expr (pe_bm PySem.F.plainAttrs_list PySem.F.slot_list_append PySem.F.type_list_append mt_append (pv 4) (pa_cons pe_int pa_nil)))
    (pss_cons (ps_if (pt_cmpR op_ne (pe_callB call_len_seqI (by rfl) (B "len" (by decide +kernel)) bt_len (pa_cons (pe_df D_must (hr.mono (by decide)) (pa_cons (pv 1) (pa_cons (pv 2) pa_nil))) pa_nil)) (pe_op op_sub (pe_callB call_len_seqI (by rfl) (B "len" (by decide +kernel)) bt_len (pa_cons (pv 5) pa_nil)) pe_int) (nomark _)) (pss_one (ps_ret pe_bl)) pss_nil)
    (pss_one (ps_ret (pe_cmpR (op_notInM EqOk.bool (un_of hr)) pe_bl (pe_lc (te := (tCall sp_lholds [] E0 (tCons (tVar 1) (tCons (tVar 0) (tCons (tVar 2) tNil))))) (tt := tTrue) (blk_cx (ts := ["cut"]) (cap := [(0, "rows"), (2, "wish")]) (by decide +kernel) (by decide +kernel) (by decide +kernel) rfl (by decide +kernel) (by decide +kernel)) rfl (pi_list (pv 5)) (fun _ _ _ _ => (pg_name (i := 0) (show List.Nodup (["cut", "rows", "wish"] : List Str) by decide +kernel) rfl (Or.inl rfl))) (fun _ _ _ _ => pifs_nil) (fun _ _ _ _ => (pe_df D_law_holds (hr.mono (by decide)) (pa_cons (pv 1) (pa_cons (pv 0) (pa_cons (pv 2) pa_nil)))))) (by with_unfolding_all rfl))))))))))), ?_⟩
  -- end
  refine ⟨_, rfl, r, rfl, ⟨_, SqL.of hR.top⟩, fun D hD => lc_list (K := K) (a := r) (xs := ps.map V.ref) (fun i σ ys H4 => ∃ v, σ = [v] ∧ ys = lensV (rs.take i) ∧ Same H H4 ∧ H4 D = some (.lst ys))
   ⟨_, rfl, rfl, Same.new hD, upd_same⟩ (fun i σ ys H4 _ ⟨v, _, _, s4, _⟩ => SqL.of (s4 _ _ hR.top)) ?_ ?_⟩
  ·rintro i y σ ys H4 hi ⟨v, rfl, rfl, s4, hD4⟩
   have hi' := lt_of_get hi
   rw [hpl] at hi'
   obtain ⟨p, hp, rfl⟩ := map_ref hi
   obtain ⟨row, hrow, xs, hxs, m⟩ := hR.get hp
   have hxl := Paired.length m
   refine ⟨_, rfl, p, xs, rfl, .inl (SqL.of (s4 _ _ hxs)), hD4, small1000 (by unfold lensV; rw [List.length_map, List.length_take]; lia), _, rfl, ?_, s4.off hD, upd_same⟩
   unfold lensV
   rw [snoc_take hrow, List.map_append, hxl]
   rfl
  rintro σ ys H4 ⟨v, rfl, rfl, s4, hD4⟩
  rw [hpl, List.take_length, lensV_end] at hD4
  refine ⟨D, _, rfl, .inl ⟨SqL.of hD4, fun te hte => ?_⟩⟩
  have s5 := s4.trans (Same.new (o := .tup ((endC rs).map V.int)) hte)
  have te5 : TpI (L2.upd H4 te (.tup ((endC rs).map V.int))) te (endC rs) := upd_same
  generalize L2.upd H4 te (.tup ((endC rs).map V.int)) = H5 at s5 te5
  clear hte hD4 s4 hD D
  clear H4
  have R5 := hR.same s5
  have A5 := hA.same s5
  have W5 := hW.same s5
  -- found
  refine ⟨_, rfl, _, rfl, w, rfl, ⟨_, SqL.of W5.top⟩, fun D2 hD2 => lc_list (K := K) (a := w) (xs := qs.map V.ref) (fun i σ ys H7 => ∃ v hqs, σ = [v] ∧ ys = hqs.map V.ref ∧ Same H5 H7 ∧ H7 D2 = some (.lst ys) ∧ Paired (WayA H7) hqs (ws.take i) ∧ D2 ∉ hqs)
   ⟨_, [], rfl, rfl, Same.new hD2, upd_same, .nil, fun z => (nomatch z)⟩ (fun i σ ys H7 _ ⟨v, hqs, _, _, s7, _⟩ => SqL.of (s7 _ _ W5.top)) ?_ ?_⟩
  ·rintro i y σ ys H7 hi ⟨v, hqs, rfl, rfl, s7, hD7, m7, hnD⟩
   have hil := lt_of_get hi
   rw [List.length_map] at hil
   obtain ⟨p, hp, rfl⟩ := map_ref hi
   obtain ⟨ts, hts, zs, hzs, mz⟩ := Paired.get W5.ways hp
   have hql := Paired.length m7
   rw [List.length_take] at hql
   refine ⟨_, rfl, p, zs, rfl, .inl (SqL.of (s7 _ _ hzs)), fun l hl => ?_⟩
   have lD : l ≠ D2 := by rintro rfl; rw [hl] at hD7; cases hD7
   have s8 := Same.new (o := .lst zs) hl
   have hD8 : L2.upd H7 l (.lst zs) D2 = some (.lst (hqs.map V.ref)) := s8 _ _ hD7
   have hW8 : WayA (L2.upd H7 l (.lst zs)) l ts := ⟨zs, upd_same, Paired.mapP mz fun _ _ z => (z.same s7).same s8⟩
   refine ⟨hD8, small1000 (by rw [List.length_map]; lia), _, hqs ++ [l], rfl, by rw [List.map_append]; rfl, (s7.trans s8).off hD2, upd_same, ?_, ?_⟩
   ·rw [snoc_take hts]
    have gen : ∀ {o : HO} {qs : List Addr} {vs : List (List Tm)}, Paired (WayA H7) qs vs → D2 ∉ qs → Paired (WayA (L2.upd (L2.upd H7 l (.lst zs)) D2 o)) qs vs := by
     intro o qs vs m
     induction m with
     | nil => intro _; exact .nil
     | @cons p t ps ts z _ ih => intro hh; exact .cons ((z.same s8).off hD8 (fun e => hh (by rw [← e]; exact List.mem_cons_self))) (ih fun z => hh (List.mem_cons_of_mem _ z))
    exact Paired.snoc (gen m7 hnD) (hW8.off hD8 lD)
   ·intro z
    rcases List.mem_append.mp z with z | z
    ·exact hnD z
    ·have : D2 = l := by simpa using z
     exact lD this.symm
  rintro σ zs H7 ⟨v, hqs, rfl, rfl, s7, hD7, m7, hnD⟩
  rw [List.length_map, hwl, List.take_length] at m7
  have s07 := s5.trans s7
  have A7 := hA.same s07
  refine ⟨x, a, sd, td, rqs, rs, D2, hqs, ws, rfl, A7, ⟨hD7, m7⟩, hok, fun hno H8 s8 => ?_, fun l k H8 s8 hl0 hl hk hke => ?_⟩
  ·have s08 := s07.trans s8
   have s58 := s7.trans s8
   refine ⟨_, rfl, rfl, _, rfl, ?_⟩
   refine iteT2 rfl ?_
   refine ⟨_, rfl, _, rfl, _, rfl, r, ps, rs, w, qs, ws, rfl, hR.same s08, hV, hW.same s08, hok, fun d l H9 s9 hd hl => ?_⟩
   refine ⟨d, _, rfl, DGet.t (k := cutKey (endC rs)) hd (by rw [cutKey_V]; exact s9 _ _ (s58 _ _ te5)), ?_⟩
   rw [boK_get, decide_eq_false fun z => hno ((hl _).mp z)]
   exact q H9 (s08.trans s9)
  ·have s08 := s07.trans s8
   have hl00 : H l = none := s07.free hl0
   refine ⟨_, rfl, rfl, _, rfl, ?_⟩
   refine iteNo (decide_eq_false fun z => by cases z) ?_
   refine ⟨_, rfl, _, rfl, r, ps, rs, l, k, rfl, hR.same s08, hV, hl, hk.1, fun g ys H9 s9 hg0 hg m9 => ?_⟩
   have s09 := s08.trans s9
   have te9 := te5.same ((s7.trans s8).trans s9)
   have hkl := hk.1.end_.2
   rw [hke, endC_sum] at hkl
   have hyl := Paired.length m9
   rw [List.length_map, List.length_range] at hyl
   refine ⟨_, rfl, rfl, _, rfl, ?_⟩
   refine iteNo (decide_eq_false fun z => by cases z) ?_
   have m9' := m9
   rw [List.range_succ, List.map_append] at m9'
   obtain ⟨ys', yl, ey, u, eu, hu9⟩ := snoc_inv m9'
   have hu9 : TpI H9 u (wcut rs (k.take k.length)) := hu9
   rw [List.take_length, hke] at hu9
   refine ⟨_, rfl, _, rfl, g, _, _, _, rfl, rfl, SqL.of hg, (by rw [ey]; exact atI_last _ _), _, rfl, _, _, (by rw [eu]; exact tupi_mean K hu9), tupi_mean K te9, _, rfl, ?_⟩
   refine iteNS rfl ?_
   have hl9 := s9 _ _ hl
   have hcl : (csV k).length = k.length := by unfold csV; rw [List.length_map]
   have few := tot_le hV.bnd
   refine ⟨_, rfl, .inl ⟨rfl, _, SqL.of hl9⟩, l, _, _, rfl, rfl, hl9, small1000 (by rw [hcl]; lia), ?_⟩
   have k10 : Same H (L2.upd H9 l (.lst (csV k ++ [V.int 0]))) := s09.off hl00
   have gl : g ≠ l := by rintro rfl; rw [hl] at hg0; cases hg0
   have hg10 : L2.upd H9 l (.lst (csV k ++ [V.int 0])) g = some (.lst ys) := by rw [upd_ne gl]; exact hg
   have m10 : Paired (TupI (L2.upd H9 l (.lst (csV k ++ [V.int 0])))) ys _ := Paired.mapP m9 fun _ _ z => z.off hl9
   generalize L2.upd H9 l (.lst (csV k ++ [V.int 0])) = H10 at k10 hg10 m10
   refine ⟨_, rfl, _, rfl, x, a, sd, td, rqs, rs, w, qs, ws, rfl, hA.same k10, hW.same k10, hok, fun z => absurd ⟨k, hk, hke⟩ z, fun l2 k2 H11 s11 hl20 hl2 hk2 hke2 => ?_⟩
   have hkl2 := hk2.1.end_.2
   rw [hke2, endC_sum] at hkl2
   have hcl2 : (csV k2).length = k2.length := by unfold csV; rw [List.length_map]
   have s011 := k10.trans s11
   have hg11 := s11 _ _ hg10
   refine ⟨l2, _, rfl, .inl (SqL.of hl2), _, rfl, g, _, rfl, .inl (SqL.of hg11), _, _, rfl, rfl, rfl, _, rfl, ?_⟩
   refine iteNS (by rw [hcl2, hyl]; congr 1; lia) ?_
   -- no cut of them fulfils it
   refine ⟨_, rfl, g, rfl, ⟨_, SqL.of hg11⟩, fun D hD => lc_list (K := K) (a := g) (xs := ys) (fun i σ zs H12 => ∃ v, σ = [v, some (.ref r), some (.ref w)] ∧ zs = List.replicate i (.bl false) ∧ Same H11 H12 ∧ H12 D = some (.lst zs))
    ⟨_, rfl, rfl, Same.new hD, upd_same⟩ (fun i σ zs H12 _ ⟨v, _, _, s12, _⟩ => SqL.of (s12 _ _ hg11)) ?_ ?_⟩
   ·rintro i y σ zs H12 hi ⟨v, rfl, rfl, s12, hD12⟩
    have hil := lt_of_get hi
    obtain ⟨c, hc, t, rfl, ht⟩ := Paired.get m10 hi
    have ht : TpI H10 t c := ht
    rw [List.getElem?_map, List.getElem?_range (by lia)] at hc
    have hc : wcut rs (k.take i) = c := Option.some.inj hc
    have hI : Inside rs c := by rw [← hc]; exact hk.1.inside i (by lia)
    have hno : wishHolds rs c ws = false := by rw [← hc]; exact hk.2 i (by lia)
    have k12 := s011.trans s12
    refine ⟨_, rfl, _, rfl, _, rfl, r, ps, rs, t, c, w, qs, ws, rfl, hR.same k12, (ht.same s11).same s12, hI, hW.same k12, by rw [hI.len]; exact hok, fun H13 s13 => ?_⟩
    rw [hno]
    exact ⟨s13 _ _ hD12, small1000 (by rw [List.length_replicate]; lia), _, rfl, by rw [List.replicate_succ'], (s12.trans s13).off hD, upd_same⟩
   ·rintro σ zs H12 ⟨v, rfl, rfl, s12, hD12⟩
    refine ⟨true, List.replicate ys.length false, rfl, ⟨D, _, rfl, SqL.of hD12, rep_bool _⟩, ?_⟩
    rw [if_pos rfl, decide_eq_false fun z => by have := List.eq_of_mem_replicate z; cases this]
    exact q H12 (s011.trans s12)
end
noncomputable abbrev s_law : Stmt := top 47
theorem sc_law : FnScope ["script", "rows", "record", "start", "hand", "values", "term", "other", "last", "wish"] ["script"] (defScope s_law) := ⟨rfl, rfl, rfl, by decide +kernel, rfl, by decide +kernel, by decide +kernel⟩
section
variable {P : Program} {w : World} {K : PySem.W.Frag} {mg : Str → Option Value} {base : Heap}
theorem ok_law {f C : Addr} {fd : FuncData} (F : Fun K "law" "law" s_law f fd) (B : Bl mg) (R : RecC K C) (D_law_draw : Df P w K mg base 2 "_law_draw" ["script", "k"] (sp_draw K)) (D_law_record : Df P w K mg base 4 "_law_record" ["script", "most"] (sp_record K)) (D_law_copy : Df P w K mg base 1 "_law_copy" ["rows"] sp_copy)
  (C_Record : Cf P w K mg base 4 C "Record" ["self", "rows"] (sp_init C)) (D_law_wish : Df P w K mg base 5 "_law_wish" ["script", "start", "hands"] (sp_lwish K)) (D_law_right : Df P w K mg base 7 "_law_right" ["rows", "record", "wish"] (sp_lrightM C)) : FnOk P w K mg base CX0 8 f fd ["script"] (sp_law K) := by
 have sc := sc_law
 refine F.ok sc (fun vs H Q E h => ?_) (fun cdv A outer s H vs Q E hr h => ?_)
 ·obtain ⟨a, ns, rfl, _⟩ := h
  rfl
 ·obtain ⟨a, ns, rfl, hS, hlen, q⟩ := h
  refine ⟨_, (pss_cons (ps_set (i := 1) sc.nd rfl (Or.inl rfl) (pe_df D_law_record (hr.mono (by decide)) (pa_cons (pv 0) (pa_cons pe_int pa_nil))))
    (pss_cons (ps_set (i := 2) sc.nd rfl (Or.inl rfl) (pe_cf C_Record (hr.mono (by decide)) (pa_cons (pe_df D_law_copy (hr.mono (by decide)) (pa_cons (pv 1) pa_nil)) pa_nil)))
    (pss_cons (ps_for PassesOwn.never rfl (pi_list (pe_lst (pa_cons pe_int (pa_cons pe_int pa_nil)))) (pg_name (i := 3) sc.nd rfl (Or.inl rfl)) (pss_one (ps_if (pt_not (pt_val (pe_df D_law_right (hr.mono (by decide)) (pa_cons (pv 1) (pa_cons (pv 2) (pa_cons (pe_df D_law_wish (hr.mono (by decide)) (pa_cons (pv 0) (pa_cons (pv 3) (pa_cons (pe_callB call_len_seqI (by rfl) (B "len" (by decide +kernel)) bt_len (pa_cons (pv 1) pa_nil)) pa_nil)))) pa_nil)))))) (pss_one (ps_ret pe_bl)) pss_nil)))
    (pss_cons (ps_set (i := 4) sc.nd rfl (Or.inl rfl) (pe_op op_mod (pe_df D_law_draw (hr.mono (by decide)) (pa_cons (pv 0) (pa_cons pe_int pa_nil))) (pe_callB call_len_seqI (by rfl) (B "len" (by decide +kernel)) bt_len (pa_cons (pv 1) pa_nil))))
    (pss_cons (ps_set (i := 5) sc.nd rfl (Or.inl rfl) (pe_op op_cat (pe_lst (pa_cons pe_int pa_nil)) (pe_lc (te := (tOp (rIxT K) (tVar 0) (tC (.int 2)))) (tt := tTrue) (Blk.plain (ts := ["event"]) (by decide +kernel) (by decide +kernel) rfl (by decide +kernel)) rfl (pi_list (pe_ix ix_list (pv 1) (pv 4) (fun _ _ => rfl))) (fun _ _ _ _ => (pg_name (i := 0) (show List.Nodup (["event"] : List Str) by decide +kernel) rfl (Or.inl rfl))) (fun _ _ _ _ => pifs_nil) (fun _ _ _ _ => (pe_ix ix_tup (pv 0) pe_int (fun _ _ => rfl))))))
    (pss_cons (ps_set (i := 6) sc.nd rfl (Or.inl rfl) (pe_tup (pa_cons (pv 4) (pa_cons pe_str (pa_cons (pe_ix ix_list (pv 5) (pe_op op_mod (pe_df D_law_draw (hr.mono (by decide)) (pa_cons (pv 0) (pa_cons pe_int pa_nil))) (pe_callB call_len_seqI (by rfl) (B "len" (by decide +kernel)) bt_len (pa_cons (pv 5) pa_nil))) (fun _ _ => rfl)) pa_nil)))))
    (pss_cons (ps_set (i := 7) sc.nd rfl (Or.inl rfl) (pe_op op_mod (pe_df D_law_draw (hr.mono (by decide)) (pa_cons (pv 0) (pa_cons pe_int pa_nil))) (pe_callB call_len_seqI (by rfl) (B "len" (by decide +kernel)) bt_len (pa_cons (pv 1) pa_nil))))
    (pss_cons (ps_set (i := 8) sc.nd rfl (Or.inl rfl) (pe_op op_cat (pe_lst (pa_cons pe_int pa_nil)) (pe_lc (te := (tOp (rIxT K) (tVar 0) (tC (.int 2)))) (tt := tTrue) (Blk.plain (ts := ["event"]) (by decide +kernel) (by decide +kernel) rfl (by decide +kernel)) rfl (pi_list (pe_ix ix_list (pv 1) (pv 7) (fun _ _ => rfl))) (fun _ _ _ _ => (pg_name (i := 0) (show List.Nodup (["event"] : List Str) by decide +kernel) rfl (Or.inl rfl))) (fun _ _ _ _ => pifs_nil) (fun _ _ _ _ => (pe_ix ix_tup (pv 0) pe_int (fun _ _ => rfl))))))
    (pss_cons (ps_set (i := 9) sc.nd rfl (Or.inl rfl) (pe_lst (pa_cons (pe_lst (pa_cons (pv 6) (pa_cons (pe_tup (pa_cons (pv 7) (pa_cons pe_str (pa_cons (pe_ix ix_list (pv 8) (pe_op op_mod (pe_df D_law_draw (hr.mono (by decide)) (pa_cons (pv 0) (pa_cons pe_int pa_nil))) (pe_callB call_len_seqI (by rfl) (B "len" (by decide +kernel)) bt_len (pa_cons (pv 8) pa_nil))) (fun _ _ => rfl)) pa_nil)))) pa_nil))) pa_nil)))
    (pss_one (ps_ret (pe_df D_law_right (hr.mono (by decide)) (pa_cons (pv 1) (pa_cons (pv 2) (pa_cons (pv 9) pa_nil))))))))))))))), ?_⟩
  refine ⟨_, rfl, a, ns, 10, rfl, hS, by decide, fun r ps rs H1 hV s1 hN htot => ?_⟩
  have hb4 := hV.bnd.hi
  have hb1 := hV.bnd.lo
  refine ⟨_, rfl, r, ps, rs, rfl, hN.at_, by lia, fun h qs H2 s2 hN2 => ?_⟩
  intro x dx nx ndx nex
  have si : Same H2 (L2.upd (L2.upd H2 dx (.own x)) x (.ins C dx [])) := fun b o z => by
   rw [upd_ne (ne_of_none z nx), upd_ne (ne_of_none z ndx)]
   exact z
  refine ⟨x, dx, h, qs, rs, rfl, upd_same, hN2.at_.same si, hV, fun rr rqs sd td H3 K3 hRec f1 f2 f3 f4 => ⟨rfl, ?_⟩⟩
  have s3 : Same H2 H3 := fun b o z => K3 b o (si b o z) (ne_of_none z nx)
  have Rr := hN.at_.same (s2.trans s3)
  have hS3 := (s1.trans (s2.trans s3)).seq hS
  clear hN hN2 K3 si nx ndx nex f1 f2 f3 f4 s1 s2 s3
  have hpl : (ps.map V.ref).length = rs.length := by rw [List.length_map, Rr.len]
  -- for start in [200, 400]
  refine ⟨(by show 2 ≤ sizeLine; decide), fun ls hls => ?_⟩
  refine ⟨ls, rfl, ⟨_, SqL.of upd_same⟩, for_list (K := K) (a := ls) (xs := [V.int 200, V.int 400]) (fun i σ H4 => Same H3 H4 ∧ H4 ls = some (.lst [V.int 200, V.int 400]) ∧ ∃ v3, σ = [some (.ref a), some (.ref r), some (.ref x), v3, none, none, none, none, none, none])
   ⟨Same.new hls, upd_same, _, rfl⟩ (fun i σ H4 _ ⟨_, z, _⟩ => SqL.of z) ?_ ?_⟩
  ·rintro i y σ H4 hi ⟨s4, hls4, v3, rfl⟩
   obtain ⟨k, k0, rfl⟩ : ∃ k : Int, 0 ≤ k ∧ y = .int k := by
    have := List.mem_of_getElem? hi
    simp only [List.mem_cons, List.not_mem_nil, or_false] at this
    rcases this with rfl | rfl
    ·exact ⟨200, by decide, rfl⟩
    ·exact ⟨400, by decide, rfl⟩
   have R4 := Rr.same s4
   refine ⟨_, rfl, _, rfl, _, rfl, _, rfl, _, rfl, r, _, rfl, .inl (SqL.of R4.top), a, ns, k, rs.length, by rw [hpl]; rfl, s4.seq hS3, k0, hb1, fun wf wqs ws H5 s5 hWN hok => ?_⟩
   have s45 := s4.trans s5
   refine ⟨r, ps, rs, x, rr, sd, td, rqs, wf, wqs, ws, rfl, Rr.same s45, hV, hRec.same s45, hWN.at_, hok, fun H6 s6 => ⟨true, rfl, ?_⟩⟩
   refine iteF ?_
   exact ⟨s45.trans s6, s6 _ _ (s5 _ _ hls4), _, rfl⟩
  rintro σ H4 ⟨s4, _, v3, rfl⟩
  have R4 := Rr.same s4
  have S4 := s4.seq hS3
  have A4 := hRec.same s4
  clear s4 Rr hS3 hRec
  have hpos : 0 < (ps.map V.ref).length := by lia
  -- hand
  obtain ⟨j1, hj1, lj1⟩ := mod_ix (d := draw ns 7) hpos rfl
  refine ⟨_, rfl, a, ns, 7, rfl, S4, by decide, _, rfl, r, _, rfl, .inl (SqL.of R4.top), _, _, rfl, rfl, (by show (0 : Int) < (((ps.map V.ref).length : Nat) : Int); lia), ?_⟩
  try dsimp only
  rw [hj1]
  -- values
  obtain ⟨p1, hp1⟩ := get_of (l := ps) (h := j1) (by rw [List.length_map] at lj1; exact lj1)
  have hm1 : (ps.map V.ref)[j1]? = some (.ref p1) := by rw [List.getElem?_map, hp1]; rfl
  obtain ⟨row1, hrow1, xs1, hxs1, mm1⟩ := R4.get hp1
  have hxl1 := Paired.length mm1
  have hr1 : row1.length ≤ 6 := hV.bnd.len j1 row1 hrow1
  refine ⟨(by show 1 ≤ sizeLine; decide), fun l1 hl1 => ?_⟩
  have n1 := Same.new (o := .lst [V.int 0]) hl1
  have hl1' : L2.upd H4 l1 (.lst [V.int 0]) l1 = some (.lst [V.int 0]) := upd_same
  generalize L2.upd H4 l1 (.lst [V.int 0]) = H5 at n1 hl1'
  refine ⟨_, rfl, _, rfl, r, _, _, _, rfl, rfl, SqL.of (n1 _ _ R4.top), atI_nat hm1, p1, rfl, ⟨_, SqL.of (n1 _ _ hxs1)⟩, fun D hD => lc_list (K := K) (a := p1) (xs := xs1) (fun i σ ys H6 => ∃ v, σ = [v] ∧ ys = ((row1.take i).map Ev.v).map V.int ∧ Same H5 H6 ∧ H6 D = some (.lst ys))
   ⟨_, rfl, rfl, Same.new hD, upd_same⟩ (fun i σ ys H6 _ ⟨v, _, _, s6, _⟩ => SqL.of (s6 _ _ (n1 _ _ hxs1))) ?_ ?_⟩
  ·rintro i y σ ys H6 hi ⟨v, rfl, rfl, s6, hD6⟩
   obtain ⟨e, he, t, rfl, ht⟩ := Paired.get mm1 hi
   refine ⟨_, rfl, t, _, 2, _, rfl, rfl, SqT.of (s6 _ _ (n1 _ _ ht)), rfl, hD6, small1000 (by rw [List.length_map, List.length_map, List.length_take]; lia), _, rfl, ?_, s6.off hD, upd_same⟩
   rw [snoc_take he, List.map_append, List.map_append]
   rfl
  rintro σ ys H6 ⟨v, rfl, rfl, s6, hD6⟩
  rw [hxl1, List.take_length] at hD6
  refine ⟨l1, D, _, _, rfl, rfl, s6 _ _ hl1', hD6, Nat.le_of_lt (small1000 (by rw [List.length_map, List.length_map]; show 1 + _ ≤ 1000; lia)), fun l2 hl2 => ?_⟩
  have n6 := s6.trans (Same.new (o := .lst ([V.int 0] ++ (row1.map Ev.v).map V.int)) hl2)
  have hl2' : L2.upd H6 l2 (.lst ([V.int 0] ++ (row1.map Ev.v).map V.int)) l2 = some (.lst ((0 :: row1.map Ev.v).map V.int)) := upd_same
  generalize L2.upd H6 l2 (.lst ([V.int 0] ++ (row1.map Ev.v).map V.int)) = H7 at n6 hl2'
  have s47 := n1.trans n6
  clear hD6 hl2 s6 hD hl1' D n6 n1
  clear H6 H5
  -- term
  have hpv : 0 < ((0 :: row1.map Ev.v).map V.int).length := by simp
  obtain ⟨j2, hj2, lj2⟩ := mod_ix (d := draw ns 8) hpv rfl
  obtain ⟨v1, hv1⟩ := get_of (l := 0 :: row1.map Ev.v) (h := j2) (by rw [List.length_map] at lj2; exact lj2)
  refine ⟨_, rfl, _, rfl, _, rfl, a, ns, 8, rfl, s47.seq S4, by decide, _, rfl, l2, _, rfl, .inl (SqL.of hl2'), _, _, rfl, rfl, (by show (0 : Int) < ((((0 :: row1.map Ev.v).map V.int).length : Nat) : Int); lia), l2, _, _, _, rfl, rfl, SqL.of hl2', by rw [hj2]; exact ints_at hv1, (by show 3 ≤ sizeLine; decide), fun t1 ht1 => ?_⟩
  have n8 := Same.new (o := .tup [V.int ((j1 : Nat) : Int), V.str "=", V.int v1]) ht1
  have ht1' : L2.upd H7 t1 (.tup [V.int ((j1 : Nat) : Int), V.str "=", V.int v1]) t1 = some (.tup [V.int ((j1 : Nat) : Int), V.str "=", V.int v1]) := upd_same
  generalize L2.upd H7 t1 (.tup [V.int ((j1 : Nat) : Int), V.str "=", V.int v1]) = H8 at n8 ht1'
  have s48 := s47.trans n8
  have R8 := R4.same s48
  have S8 := s48.seq S4
  have A8 := A4.same s48
  clear R4 S4 A4 s48 s47 n8 hl2' ht1 hxs1 mm1
  -- other
  obtain ⟨j3, hj3, lj3⟩ := mod_ix (d := draw ns 9) hpos rfl
  refine ⟨_, rfl, a, ns, 9, rfl, S8, by decide, _, rfl, r, _, rfl, .inl (SqL.of R8.top), _, _, rfl, rfl, (by show (0 : Int) < (((ps.map V.ref).length : Nat) : Int); lia), ?_⟩
  try dsimp only
  rw [hj3]
  obtain ⟨p3, hp3⟩ := get_of (l := ps) (h := j3) (by rw [List.length_map] at lj3; exact lj3)
  have hm3 : (ps.map V.ref)[j3]? = some (.ref p3) := by rw [List.getElem?_map, hp3]; rfl
  obtain ⟨row3, hrow3, xs3, hxs3, mm3⟩ := R8.get hp3
  have hxl3 := Paired.length mm3
  have hr3 : row3.length ≤ 6 := hV.bnd.len j3 row3 hrow3
  refine ⟨(by show 1 ≤ sizeLine; decide), fun l3 hl3 => ?_⟩
  have n1 := Same.new (o := .lst [V.int 0]) hl3
  have hl3' : L2.upd H8 l3 (.lst [V.int 0]) l3 = some (.lst [V.int 0]) := upd_same
  generalize L2.upd H8 l3 (.lst [V.int 0]) = H9 at n1 hl3'
  refine ⟨_, rfl, _, rfl, r, _, _, _, rfl, rfl, SqL.of (n1 _ _ R8.top), atI_nat hm3, p3, rfl, ⟨_, SqL.of (n1 _ _ hxs3)⟩, fun D hD => lc_list (K := K) (a := p3) (xs := xs3) (fun i σ ys H6 => ∃ v, σ = [v] ∧ ys = ((row3.take i).map Ev.v).map V.int ∧ Same H9 H6 ∧ H6 D = some (.lst ys))
   ⟨_, rfl, rfl, Same.new hD, upd_same⟩ (fun i σ ys H6 _ ⟨v, _, _, s6, _⟩ => SqL.of (s6 _ _ (n1 _ _ hxs3))) ?_ ?_⟩
  ·rintro i y σ ys H6 hi ⟨v, rfl, rfl, s6, hD6⟩
   obtain ⟨e, he, t, rfl, ht⟩ := Paired.get mm3 hi
   refine ⟨_, rfl, t, _, 2, _, rfl, rfl, SqT.of (s6 _ _ (n1 _ _ ht)), rfl, hD6, small1000 (by rw [List.length_map, List.length_map, List.length_take]; lia), _, rfl, ?_, s6.off hD, upd_same⟩
   rw [snoc_take he, List.map_append, List.map_append]
   rfl
  rintro σ ys H6 ⟨v, rfl, rfl, s6, hD6⟩
  rw [hxl3, List.take_length] at hD6
  refine ⟨l3, D, _, _, rfl, rfl, s6 _ _ hl3', hD6, Nat.le_of_lt (small1000 (by rw [List.length_map, List.length_map]; show 1 + _ ≤ 1000; lia)), fun l4 hl4 => ?_⟩
  have n6 := s6.trans (Same.new (o := .lst ([V.int 0] ++ (row3.map Ev.v).map V.int)) hl4)
  have hl4' : L2.upd H6 l4 (.lst ([V.int 0] ++ (row3.map Ev.v).map V.int)) l4 = some (.lst ((0 :: row3.map Ev.v).map V.int)) := upd_same
  generalize L2.upd H6 l4 (.lst ([V.int 0] ++ (row3.map Ev.v).map V.int)) = H10 at n6 hl4'
  have s8 := n1.trans n6
  clear hD6 hl4 s6 hD hl3' D n6 n1
  clear H6 H9
  -- wish
  have hpv : 0 < ((0 :: row3.map Ev.v).map V.int).length := by simp
  obtain ⟨j4, hj4, lj4⟩ := mod_ix (d := draw ns 6) hpv rfl
  obtain ⟨v3, hv3⟩ := get_of (l := 0 :: row3.map Ev.v) (h := j4) (by rw [List.length_map] at lj4; exact lj4)
  refine ⟨_, rfl, _, rfl, _, rfl, _, rfl, a, ns, 6, rfl, s8.seq S8, by decide, _, rfl, l4, _, rfl, .inl (SqL.of hl4'), _, _, rfl, rfl, (by show (0 : Int) < ((((0 :: row3.map Ev.v).map V.int).length : Nat) : Int); lia), l4, _, _, _, rfl, rfl, SqL.of hl4', by rw [hj4]; exact ints_at hv3, (by show 3 ≤ sizeLine; decide), fun t2 ht2 => ⟨(by show 2 ≤ sizeLine; decide), fun l5 hl5 => ⟨(by show 1 ≤ sizeLine; decide), fun l6 hl6 => ?_⟩⟩⟩
  have e1 := Same.new (o := .tup [V.int ((j3 : Nat) : Int), V.str "=", V.int v3]) ht2
  have e2 := Same.new (o := .lst [V.ref t1, V.ref t2]) hl5
  have e3 := Same.new (o := .lst [V.ref l5]) hl6
  have g1 := e3 _ _ (e2 _ _ (upd_same (H := H10) (a := t2) (o := .tup [V.int ((j3 : Nat) : Int), V.str "=", V.int v3])))
  have g2 := e3 _ _ (upd_same (H := L2.upd H10 t2 (.tup [V.int ((j3 : Nat) : Int), V.str "=", V.int v3])) (a := l5) (o := .lst [V.ref t1, V.ref t2]))
  have g3 := upd_same (H := L2.upd (L2.upd H10 t2 (.tup [V.int ((j3 : Nat) : Int), V.str "=", V.int v3])) l5 (.lst [V.ref t1, V.ref t2])) (a := l6) (o := .lst [V.ref l5])
  have e13 := s8.trans (e1.trans (e2.trans e3))
  have hk : ∀ t ∈ [(⟨j1, .eq, v1⟩ : Tm), ⟨j3, .eq, v3⟩], t.h < rs.length := fun t ht => by
   rw [hpl] at lj1 lj3
   simp only [List.mem_cons, List.not_mem_nil, or_false] at ht
   rcases ht with rfl | rfl
   ·exact lj1
   ·exact lj3
  refine ⟨_, rfl, _, rfl, _, rfl, r, ps, rs, x, rr, sd, td, rqs, l6, [l5], [[⟨j1, .eq, v1⟩, ⟨j3, .eq, v3⟩]], rfl, R8.same e13, hV, A8.same e13, ⟨g3, .cons ⟨_, g2, .cons ⟨t1, rfl, e13 _ _ ht1'⟩ (.cons ⟨t2, rfl, g1⟩ .nil)⟩ .nil⟩, wishOk_one ⟨by show 2 ≤ 8; decide, hk⟩, fun H11 s11 => q H11⟩
end
theorem all_mk {l : PySem.W.OpenLaw} {w : World} {K : PySem.W.Frag} {h : Heap} {mg : Str → Option Value} {fa C : Addr} (X : K.In h) (G : h.Ns mainGlobals mg) (hfa : mg "law" = some (.ref fa))
  {od1 an1 : Option Addr} {sl1 : Array (Option Value)} {oc1 kV1 dc1 pm1 cd1 ct1 : Value} {f1 : Addr}
  {od2 an2 : Option Addr} {sl2 : Array (Option Value)} {oc2 kV2 dc2 pm2 cd2 ct2 : Value} {f2 : Addr}
  {od3 an3 : Option Addr} {sl3 : Array (Option Value)} {oc3 kV3 dc3 pm3 cd3 ct3 : Value} {f3 : Addr}
  {od4 an4 : Option Addr} {sl4 : Array (Option Value)} {oc4 kV4 dc4 pm4 cd4 ct4 : Value} {f4 : Addr}
  {od5 an5 : Option Addr} {sl5 : Array (Option Value)} {oc5 kV5 dc5 pm5 cd5 ct5 : Value} {f5 : Addr}
  {od6 an6 : Option Addr} {sl6 : Array (Option Value)} {oc6 kV6 dc6 pm6 cd6 ct6 : Value} {f6 : Addr}
  {od7 an7 : Option Addr} {sl7 : Array (Option Value)} {oc7 kV7 dc7 pm7 cd7 ct7 : Value} {f7 : Addr}
  {od8 an8 : Option Addr} {sl8 : Array (Option Value)} {oc8 kV8 dc8 pm8 cd8 ct8 : Value} {f8 : Addr}
  {od9 an9 : Option Addr} {sl9 : Array (Option Value)} {oc9 kV9 dc9 pm9 cd9 ct9 : Value} {f9 : Addr}
  {od10 an10 : Option Addr} {sl10 : Array (Option Value)} {oc10 kV10 dc10 pm10 cd10 ct10 : Value} {f10 : Addr}
  {od11 an11 : Option Addr} {sl11 : Array (Option Value)} {oc11 kV11 dc11 pm11 cd11 ct11 : Value} {f11 : Addr}
  {od12 an12 : Option Addr} {sl12 : Array (Option Value)} {oc12 kV12 dc12 pm12 cd12 ct12 : Value} {f12 : Addr}
  {od13 an13 : Option Addr} {sl13 : Array (Option Value)} {oc13 kV13 dc13 pm13 cd13 ct13 : Value} {f13 : Addr}
  {od14 an14 : Option Addr} {sl14 : Array (Option Value)} {oc14 kV14 dc14 pm14 cd14 ct14 : Value} {f14 : Addr}
  {od15 an15 : Option Addr} {sl15 : Array (Option Value)} {oc15 kV15 dc15 pm15 cd15 ct15 : Value} {f15 : Addr}
  {od16 an16 : Option Addr} {sl16 : Array (Option Value)} {oc16 kV16 dc16 pm16 cd16 ct16 : Value} {f16 : Addr}
  {od17 an17 : Option Addr} {sl17 : Array (Option Value)} {oc17 kV17 dc17 pm17 cd17 ct17 : Value} {f17 : Addr}
  {od18 an18 : Option Addr} {sl18 : Array (Option Value)} {oc18 kV18 dc18 pm18 cd18 ct18 : Value} {f18 : Addr}
  {od19 an19 : Option Addr} {sl19 : Array (Option Value)} {oc19 kV19 dc19 pm19 cd19 ct19 : Value} {f19 : Addr}
  {od20 an20 : Option Addr} {sl20 : Array (Option Value)} {oc20 kV20 dc20 pm20 cd20 ct20 : Value} {f20 : Addr}
  {od21 an21 : Option Addr} {sl21 : Array (Option Value)} {oc21 kV21 dc21 pm21 cd21 ct21 : Value} {f21 : Addr}
  {od22 an22 : Option Addr} {sl22 : Array (Option Value)} {oc22 kV22 dc22 pm22 cd22 ct22 : Value} {f22 : Addr}
  {od23 an23 : Option Addr} {sl23 : Array (Option Value)} {oc23 kV23 dc23 pm23 cd23 ct23 : Value} {f23 : Addr}
  {od24 an24 : Option Addr} {sl24 : Array (Option Value)} {oc24 kV24 dc24 pm24 cd24 ct24 : Value} {f24 : Addr}
  {od25 an25 : Option Addr} {sl25 : Array (Option Value)} {oc25 kV25 dc25 pm25 cd25 ct25 : Value} {f25 : Addr}
  {od26 an26 : Option Addr} {sl26 : Array (Option Value)} {oc26 kV26 dc26 pm26 cd26 ct26 : Value} {f26 : Addr}
  {od27 an27 : Option Addr} {sl27 : Array (Option Value)} {oc27 kV27 dc27 pm27 cd27 ct27 : Value} {f27 : Addr}
  {od28 an28 : Option Addr} {sl28 : Array (Option Value)} {oc28 kV28 dc28 pm28 cd28 ct28 : Value} {f28 : Addr}
  {od29 an29 : Option Addr} {sl29 : Array (Option Value)} {oc29 kV29 dc29 pm29 cd29 ct29 : Value} {f29 : Addr}
  {od30 an30 : Option Addr} {sl30 : Array (Option Value)} {oc30 kV30 dc30 pm30 cd30 ct30 : Value} {f30 : Addr}
  {od31 an31 : Option Addr} {sl31 : Array (Option Value)} {oc31 kV31 dc31 pm31 cd31 ct31 : Value} {f31 : Addr}
  {od32 an32 : Option Addr} {sl32 : Array (Option Value)} {oc32 kV32 dc32 pm32 cd32 ct32 : Value} {f32 : Addr}
  {od33 an33 : Option Addr} {sl33 : Array (Option Value)} {oc33 kV33 dc33 pm33 cd33 ct33 : Value} {f33 : Addr}
  {od34 an34 : Option Addr} {sl34 : Array (Option Value)} {oc34 kV34 dc34 pm34 cd34 ct34 : Value} {f34 : Addr}
  {od35 an35 : Option Addr} {sl35 : Array (Option Value)} {oc35 kV35 dc35 pm35 cd35 ct35 : Value} {f35 : Addr}
  {od36 an36 : Option Addr} {sl36 : Array (Option Value)} {oc36 kV36 dc36 pm36 cd36 ct36 : Value} {f36 : Addr}
  {od37 an37 : Option Addr} {sl37 : Array (Option Value)} {oc37 kV37 dc37 pm37 cd37 ct37 : Value} {f37 : Addr}
  {od38 an38 : Option Addr} {sl38 : Array (Option Value)} {oc38 kV38 dc38 pm38 cd38 ct38 : Value} {f38 : Addr}
  (aC : PySem.W.nsIn K mainGlobals "Record" = some (some (.ref C)))
  (a1 : PySem.W.nsIn K mainGlobals "_law_cell_at" = some (some (.ref f1)))
  (l1 : K.lookup f1 = some ⟨oc1, od1, .func (PySem.W.fnOf "_law_cell_at" "_law_cell_at" (defArgs s_law_cell_at) (defBody s_law_cell_at) (defScope s_law_cell_at) .none kV1 dc1 pm1 an1 cd1 ct1), sl1⟩) (c1 : PySem.W.codeIn K cd1 "_law_cell_at" = true) (k1 : PySem.W.keepIn K (.ref f1) = true)
  (a2 : PySem.W.nsIn K mainGlobals "_law_draw" = some (some (.ref f2)))
  (l2 : K.lookup f2 = some ⟨oc2, od2, .func (PySem.W.fnOf "_law_draw" "_law_draw" (defArgs s_law_draw) (defBody s_law_draw) (defScope s_law_draw) .none kV2 dc2 pm2 an2 cd2 ct2), sl2⟩) (c2 : PySem.W.codeIn K cd2 "_law_draw" = true) (k2 : PySem.W.keepIn K (.ref f2) = true)
  (a3 : PySem.W.nsIn K mainGlobals "_law_value" = some (some (.ref f3)))
  (l3 : K.lookup f3 = some ⟨oc3, od3, .func (PySem.W.fnOf "_law_value" "_law_value" (defArgs s_law_value) (defBody s_law_value) (defScope s_law_value) .none kV3 dc3 pm3 an3 cd3 ct3), sl3⟩) (c3 : PySem.W.codeIn K cd3 "_law_value" = true) (k3 : PySem.W.keepIn K (.ref f3) = true)
  (a4 : PySem.W.nsIn K mainGlobals "_law_whole" = some (some (.ref f4)))
  (l4 : K.lookup f4 = some ⟨oc4, od4, .func (PySem.W.fnOf "_law_whole" "_law_whole" (defArgs s_law_whole) (defBody s_law_whole) (defScope s_law_whole) .none kV4 dc4 pm4 an4 cd4 ct4), sl4⟩) (c4 : PySem.W.codeIn K cd4 "_law_whole" = true) (k4 : PySem.W.keepIn K (.ref f4) = true)
  (a5 : PySem.W.nsIn K mainGlobals "_law_used" = some (some (.ref f5)))
  (l5 : K.lookup f5 = some ⟨oc5, od5, .func (PySem.W.fnOf "_law_used" "_law_used" (defArgs s_law_used) (defBody s_law_used) (defScope s_law_used) .none kV5 dc5 pm5 an5 cd5 ct5), sl5⟩) (c5 : PySem.W.codeIn K cd5 "_law_used" = true) (k5 : PySem.W.keepIn K (.ref f5) = true)
  (a6 : PySem.W.nsIn K mainGlobals "_law_record" = some (some (.ref f6)))
  (l6 : K.lookup f6 = some ⟨oc6, od6, .func (PySem.W.fnOf "_law_record" "_law_record" (defArgs s_law_record) (defBody s_law_record) (defScope s_law_record) .none kV6 dc6 pm6 an6 cd6 ct6), sl6⟩) (c6 : PySem.W.codeIn K cd6 "_law_record" = true) (k6 : PySem.W.keepIn K (.ref f6) = true)
  (a7 : PySem.W.nsIn K mainGlobals "_law_copy" = some (some (.ref f7)))
  (l7 : K.lookup f7 = some ⟨oc7, od7, .func (PySem.W.fnOf "_law_copy" "_law_copy" (defArgs s_law_copy) (defBody s_law_copy) (defScope s_law_copy) .none kV7 dc7 pm7 an7 cd7 ct7), sl7⟩) (c7 : PySem.W.codeIn K cd7 "_law_copy" = true) (k7 : PySem.W.keepIn K (.ref f7) = true)
  (a8 : PySem.W.nsIn K mainGlobals "_law_events" = some (some (.ref f8)))
  (l8 : K.lookup f8 = some ⟨oc8, od8, .func (PySem.W.fnOf "_law_events" "_law_events" (defArgs s_law_events) (defBody s_law_events) (defScope s_law_events) .none kV8 dc8 pm8 an8 cd8 ct8), sl8⟩) (c8 : PySem.W.codeIn K cd8 "_law_events" = true) (k8 : PySem.W.keepIn K (.ref f8) = true)
  (a9 : PySem.W.nsIn K mainGlobals "_law_send" = some (some (.ref f9)))
  (l9 : K.lookup f9 = some ⟨oc9, od9, .func (PySem.W.fnOf "_law_send" "_law_send" (defArgs s_law_send) (defBody s_law_send) (defScope s_law_send) .none kV9 dc9 pm9 an9 cd9 ct9), sl9⟩) (c9 : PySem.W.codeIn K cd9 "_law_send" = true) (k9 : PySem.W.keepIn K (.ref f9) = true)
  (a10 : PySem.W.nsIn K mainGlobals "_law_inside" = some (some (.ref f10)))
  (l10 : K.lookup f10 = some ⟨oc10, od10, .func (PySem.W.fnOf "_law_inside" "_law_inside" (defArgs s_law_inside) (defBody s_law_inside) (defScope s_law_inside) .none kV10 dc10 pm10 an10 cd10 ct10), sl10⟩) (c10 : PySem.W.codeIn K cd10 "_law_inside" = true) (k10 : PySem.W.keepIn K (.ref f10) = true)
  (a11 : PySem.W.nsIn K mainGlobals "_law_longer" = some (some (.ref f11)))
  (l11 : K.lookup f11 = some ⟨oc11, od11, .func (PySem.W.fnOf "_law_longer" "_law_longer" (defArgs s_law_longer) (defBody s_law_longer) (defScope s_law_longer) .none kV11 dc11 pm11 an11 cd11 ct11), sl11⟩) (c11 : PySem.W.codeIn K cd11 "_law_longer" = true) (k11 : PySem.W.keepIn K (.ref f11) = true)
  (a12 : PySem.W.nsIn K mainGlobals "_law_all" = some (some (.ref f12)))
  (l12 : K.lookup f12 = some ⟨oc12, od12, .func (PySem.W.fnOf "_law_all" "_law_all" (defArgs s_law_all) (defBody s_law_all) (defScope s_law_all) .none kV12 dc12 pm12 an12 cd12 ct12), sl12⟩) (c12 : PySem.W.codeIn K cd12 "_law_all" = true) (k12 : PySem.W.keepIn K (.ref f12) = true)
  (a13 : PySem.W.nsIn K mainGlobals "_law_way" = some (some (.ref f13)))
  (l13 : K.lookup f13 = some ⟨oc13, od13, .func (PySem.W.fnOf "_law_way" "_law_way" (defArgs s_law_way) (defBody s_law_way) (defScope s_law_way) .none kV13 dc13 pm13 an13 cd13 ct13), sl13⟩) (c13 : PySem.W.codeIn K cd13 "_law_way" = true) (k13 : PySem.W.keepIn K (.ref f13) = true)
  (a14 : PySem.W.nsIn K mainGlobals "_law_wish" = some (some (.ref f14)))
  (l14 : K.lookup f14 = some ⟨oc14, od14, .func (PySem.W.fnOf "_law_wish" "_law_wish" (defArgs s_law_wish) (defBody s_law_wish) (defScope s_law_wish) .none kV14 dc14 pm14 an14 cd14 ct14), sl14⟩) (c14 : PySem.W.codeIn K cd14 "_law_wish" = true) (k14 : PySem.W.keepIn K (.ref f14) = true)
  (a15 : PySem.W.nsIn K mainGlobals "_law_term" = some (some (.ref f15)))
  (l15 : K.lookup f15 = some ⟨oc15, od15, .func (PySem.W.fnOf "_law_term" "_law_term" (defArgs s_law_term) (defBody s_law_term) (defScope s_law_term) .none kV15 dc15 pm15 an15 cd15 ct15), sl15⟩) (c15 : PySem.W.codeIn K cd15 "_law_term" = true) (k15 : PySem.W.keepIn K (.ref f15) = true)
  (a16 : PySem.W.nsIn K mainGlobals "_law_holds" = some (some (.ref f16)))
  (l16 : K.lookup f16 = some ⟨oc16, od16, .func (PySem.W.fnOf "_law_holds" "_law_holds" (defArgs s_law_holds) (defBody s_law_holds) (defScope s_law_holds) .none kV16 dc16 pm16 an16 cd16 ct16), sl16⟩) (c16 : PySem.W.codeIn K cd16 "_law_holds" = true) (k16 : PySem.W.keepIn K (.ref f16) = true)
  (a17 : PySem.W.nsIn K mainGlobals "_law_walked" = some (some (.ref f17)))
  (l17 : K.lookup f17 = some ⟨oc17, od17, .func (PySem.W.fnOf "_law_walked" "_law_walked" (defArgs s_law_walked) (defBody s_law_walked) (defScope s_law_walked) .none kV17 dc17 pm17 an17 cd17 ct17), sl17⟩) (c17 : PySem.W.codeIn K cd17 "_law_walked" = true) (k17 : PySem.W.keepIn K (.ref f17) = true)
  (a18 : PySem.W.nsIn K mainGlobals "_law_without" = some (some (.ref f18)))
  (l18 : K.lookup f18 = some ⟨oc18, od18, .func (PySem.W.fnOf "_law_without" "_law_without" (defArgs s_law_without) (defBody s_law_without) (defScope s_law_without) .none kV18 dc18 pm18 an18 cd18 ct18), sl18⟩) (c18 : PySem.W.codeIn K cd18 "_law_without" = true) (k18 : PySem.W.keepIn K (.ref f18) = true)
  (a19 : PySem.W.nsIn K mainGlobals "letter_places" = some (some (.ref f19)))
  (l19 : K.lookup f19 = some ⟨oc19, od19, .func (PySem.W.fnOf "letter_places" "letter_places" (defArgs s_letter_places) (defBody s_letter_places) (defScope s_letter_places) .none kV19 dc19 pm19 an19 cd19 ct19), sl19⟩) (c19 : PySem.W.codeIn K cd19 "letter_places" = true) (k19 : PySem.W.keepIn K (.ref f19) = true)
  (a20 : PySem.W.nsIn K mainGlobals "check_sent" = some (some (.ref f20)))
  (l20 : K.lookup f20 = some ⟨oc20, od20, .func (PySem.W.fnOf "check_sent" "check_sent" (defArgs s_check_sent) (defBody s_check_sent) (defScope s_check_sent) .none kV20 dc20 pm20 an20 cd20 ct20), sl20⟩) (c20 : PySem.W.codeIn K cd20 "check_sent" = true) (k20 : PySem.W.keepIn K (.ref f20) = true)
  (a21 : PySem.W.nsIn K mainGlobals "can_be_done" = some (some (.ref f21)))
  (l21 : K.lookup f21 = some ⟨oc21, od21, .func (PySem.W.fnOf "can_be_done" "can_be_done" (defArgs s_can_be_done) (defBody s_can_be_done) (defScope s_can_be_done) .none kV21 dc21 pm21 an21 cd21 ct21), sl21⟩) (c21 : PySem.W.codeIn K cd21 "can_be_done" = true) (k21 : PySem.W.keepIn K (.ref f21) = true)
  (a22 : PySem.W.nsIn K mainGlobals "counts_done" = some (some (.ref f22)))
  (l22 : K.lookup f22 = some ⟨oc22, od22, .func (PySem.W.fnOf "counts_done" "counts_done" (defArgs s_counts_done) (defBody s_counts_done) (defScope s_counts_done) .none kV22 dc22 pm22 an22 cd22 ct22), sl22⟩) (c22 : PySem.W.codeIn K cd22 "counts_done" = true) (k22 : PySem.W.keepIn K (.ref f22) = true)
  (a23 : PySem.W.nsIn K mainGlobals "find_ring" = some (some (.ref f23)))
  (l23 : K.lookup f23 = some ⟨oc23, od23, .func (PySem.W.fnOf "find_ring" "find_ring" (defArgs s_find_ring) (defBody s_find_ring) (defScope s_find_ring) .none kV23 dc23 pm23 an23 cd23 ct23), sl23⟩) (c23 : PySem.W.codeIn K cd23 "find_ring" = true) (k23 : PySem.W.keepIn K (.ref f23) = true)
  (a24 : PySem.W.findIn K (.ref C) "__init__" = some (some (.ref f24))) (i24 : PySem.W.isFn K (.ref f24) = true)
  (l24 : K.lookup f24 = some ⟨oc24, od24, .func (PySem.W.fnOf "__init__" "Record.__init__" (defArgs s_Record_init) (defBody s_Record_init) (defScope s_Record_init) .none kV24 dc24 pm24 an24 cd24 ct24), sl24⟩) (c24 : PySem.W.codeIn K cd24 "Record.__init__" = true) (k24 : PySem.W.keepIn K (.ref f24) = true)
  (a25 : PySem.W.findIn K (.ref C) "end" = some (some (.ref f25))) (i25 : PySem.W.isFn K (.ref f25) = true)
  (l25 : K.lookup f25 = some ⟨oc25, od25, .func (PySem.W.fnOf "end" "Record.end" (defArgs s_Record_end) (defBody s_Record_end) (defScope s_Record_end) .none kV25 dc25 pm25 an25 cd25 ct25), sl25⟩) (c25 : PySem.W.codeIn K cd25 "Record.end" = true) (k25 : PySem.W.keepIn K (.ref f25) = true)
  (a26 : PySem.W.nsIn K mainGlobals "can_go_on" = some (some (.ref f26)))
  (l26 : K.lookup f26 = some ⟨oc26, od26, .func (PySem.W.fnOf "can_go_on" "can_go_on" (defArgs s_can_go_on) (defBody s_can_go_on) (defScope s_can_go_on) .none kV26 dc26 pm26 an26 cd26 ct26), sl26⟩) (c26 : PySem.W.codeIn K cd26 "can_go_on" = true) (k26 : PySem.W.keepIn K (.ref f26) = true)
  (a27 : PySem.W.nsIn K mainGlobals "nexts" = some (some (.ref f27)))
  (l27 : K.lookup f27 = some ⟨oc27, od27, .func (PySem.W.fnOf "nexts" "nexts" (defArgs s_nexts) (defBody s_nexts) (defScope s_nexts) .none kV27 dc27 pm27 an27 cd27 ct27), sl27⟩) (c27 : PySem.W.codeIn K cd27 "nexts" = true) (k27 : PySem.W.keepIn K (.ref f27) = true)
  (a28 : PySem.W.nsIn K mainGlobals "beginning" = some (some (.ref f28)))
  (l28 : K.lookup f28 = some ⟨oc28, od28, .func (PySem.W.fnOf "beginning" "beginning" (defArgs s_beginning) (defBody s_beginning) (defScope s_beginning) .none kV28 dc28 pm28 an28 cd28 ct28), sl28⟩) (c28 : PySem.W.codeIn K cd28 "beginning" = true) (k28 : PySem.W.keepIn K (.ref f28) = true)
  (a29 : PySem.W.nsIn K mainGlobals "added" = some (some (.ref f29)))
  (l29 : K.lookup f29 = some ⟨oc29, od29, .func (PySem.W.fnOf "added" "added" (defArgs s_added) (defBody s_added) (defScope s_added) .none kV29 dc29 pm29 an29 cd29 ct29), sl29⟩) (c29 : PySem.W.codeIn K cd29 "added" = true) (k29 : PySem.W.keepIn K (.ref f29) = true)
  (a30 : PySem.W.nsIn K mainGlobals "value_in" = some (some (.ref f30)))
  (l30 : K.lookup f30 = some ⟨oc30, od30, .func (PySem.W.fnOf "value_in" "value_in" (defArgs s_value_in) (defBody s_value_in) (defScope s_value_in) .none kV30 dc30 pm30 an30 cd30 ct30), sl30⟩) (c30 : PySem.W.codeIn K cd30 "value_in" = true) (k30 : PySem.W.keepIn K (.ref f30) = true)
  (a31 : PySem.W.nsIn K mainGlobals "term_holds" = some (some (.ref f31)))
  (l31 : K.lookup f31 = some ⟨oc31, od31, .func (PySem.W.fnOf "term_holds" "term_holds" (defArgs s_term_holds) (defBody s_term_holds) (defScope s_term_holds) .none kV31 dc31 pm31 an31 cd31 ct31), sl31⟩) (c31 : PySem.W.codeIn K cd31 "term_holds" = true) (k31 : PySem.W.keepIn K (.ref f31) = true)
  (a32 : PySem.W.nsIn K mainGlobals "way_holds" = some (some (.ref f32)))
  (l32 : K.lookup f32 = some ⟨oc32, od32, .func (PySem.W.fnOf "way_holds" "way_holds" (defArgs s_way_holds) (defBody s_way_holds) (defScope s_way_holds) .none kV32 dc32 pm32 an32 cd32 ct32), sl32⟩) (c32 : PySem.W.codeIn K cd32 "way_holds" = true) (k32 : PySem.W.keepIn K (.ref f32) = true)
  (a33 : PySem.W.nsIn K mainGlobals "holds" = some (some (.ref f33)))
  (l33 : K.lookup f33 = some ⟨oc33, od33, .func (PySem.W.fnOf "holds" "holds" (defArgs s_holds) (defBody s_holds) (defScope s_holds) .none kV33 dc33 pm33 an33 cd33 ct33), sl33⟩) (c33 : PySem.W.codeIn K cd33 "holds" = true) (k33 : PySem.W.keepIn K (.ref f33) = true)
  (a34 : PySem.W.nsIn K mainGlobals "without_held" = some (some (.ref f34)))
  (l34 : K.lookup f34 = some ⟨oc34, od34, .func (PySem.W.fnOf "without_held" "without_held" (defArgs s_without_held) (defBody s_without_held) (defScope s_without_held) .none kV34 dc34 pm34 an34 cd34 ct34), sl34⟩) (c34 : PySem.W.codeIn K cd34 "without_held" = true) (k34 : PySem.W.keepIn K (.ref f34) = true)
  (a35 : PySem.W.nsIn K mainGlobals "walks_behind" = some (some (.ref f35)))
  (l35 : K.lookup f35 = some ⟨oc35, od35, .func (PySem.W.fnOf "walks_behind" "walks_behind" (defArgs s_walks_behind) (defBody s_walks_behind) (defScope s_walks_behind) .none kV35 dc35 pm35 an35 cd35 ct35), sl35⟩) (c35 : PySem.W.codeIn K cd35 "walks_behind" = true) (k35 : PySem.W.keepIn K (.ref f35) = true)
  (a36 : PySem.W.nsIn K mainGlobals "must" = some (some (.ref f36)))
  (l36 : K.lookup f36 = some ⟨oc36, od36, .func (PySem.W.fnOf "must" "must" (defArgs s_must) (defBody s_must) (defScope s_must) .none kV36 dc36 pm36 an36 cd36 ct36), sl36⟩) (c36 : PySem.W.codeIn K cd36 "must" = true) (k36 : PySem.W.keepIn K (.ref f36) = true)
  (a37 : PySem.W.nsIn K mainGlobals "_law_right" = some (some (.ref f37)))
  (l37 : K.lookup f37 = some ⟨oc37, od37, .func (PySem.W.fnOf "_law_right" "_law_right" (defArgs s_law_right) (defBody s_law_right) (defScope s_law_right) .none kV37 dc37 pm37 an37 cd37 ct37), sl37⟩) (c37 : PySem.W.codeIn K cd37 "_law_right" = true) (k37 : PySem.W.keepIn K (.ref f37) = true)
  (a38 : PySem.W.nsIn K mainGlobals "law" = some (some (.ref f38)))
  (l38 : K.lookup f38 = some ⟨oc38, od38, .func (PySem.W.fnOf "law" "law" (defArgs s_law) (defBody s_law) (defScope s_law) .none kV38 dc38 pm38 an38 cd38 ct38), sl38⟩) (c38 : PySem.W.codeIn K cd38 "law" = true) (k38 : PySem.W.keepIn K (.ref f38) = true)
  (pg : PySem.W.plainGet K C Str.empty = true) (hd : PySem.W.hasDictIn K C = true) (po : PySem.W.plainOver K C = true) (sa : PySem.W.findIn K (.ref C) "__setattr__" = some (some (.builtin "object.__setattr__"))) (mk : PySem.W.makesIn K C = true) (kc : PySem.W.keepIn K (.ref C) = true)
  (n_rows : PySem.W.findIn K (.ref C) "rows" = some none)
  (n_sends : PySem.W.findIn K (.ref C) "sends" = some none)
  (n_takes : PySem.W.findIn K (.ref C) "takes" = some none)
  (z_len : PySem.W.nsIn K mainGlobals "len" = some none)
  (z_range : PySem.W.nsIn K mainGlobals "range" = some none)
  (z_enumerate : PySem.W.nsIn K mainGlobals "enumerate" = some none)
  (z_list : PySem.W.nsIn K mainGlobals "list" = some none)
  (z_tuple : PySem.W.nsIn K mainGlobals "tuple" = some none)
  (z_isinstance : PySem.W.nsIn K mainGlobals "isinstance" = some none)
  (z_int : PySem.W.nsIn K mainGlobals "int" = some none)
  (z_bool : PySem.W.nsIn K mainGlobals "bool" = some none)
  (z_str : PySem.W.nsIn K mainGlobals "str" = some none)
  (z_min : PySem.W.nsIn K mainGlobals "min" = some none)
  (z_max : PySem.W.nsIn K mainGlobals "max" = some none)
  (z_sum : PySem.W.nsIn K mainGlobals "sum" = some none)
  (z_sorted : PySem.W.nsIn K mainGlobals "sorted" = some none)
  (z_reversed : PySem.W.nsIn K mainGlobals "reversed" = some none)
  (z_zip : PySem.W.nsIn K mainGlobals "zip" = some none)
  (z_any : PySem.W.nsIn K mainGlobals "any" = some none)
  (z_all : PySem.W.nsIn K mainGlobals "all" = some none) :
  ∃ fd : FuncData, (∀ (s : Shared) (v : Value), BindsTo s fd ⟨[v], []⟩ [("script", v)]) ∧ ∀ base : Heap, K.In base → base.Ns mainGlobals mg → FnOk l.prog w K mg base CX0 8 fa fd ["script"] (sp_law K) := by
 have e := hfa.symm.trans (PySem.W.mg_of X G a38)
 cases e
 have B : Bl mg := fun x hx => by
  rcases List.mem_cons.mp hx with rfl | hx
  ·exact PySem.W.mg_none_of X G z_len
  rcases List.mem_cons.mp hx with rfl | hx
  ·exact PySem.W.mg_none_of X G z_range
  rcases List.mem_cons.mp hx with rfl | hx
  ·exact PySem.W.mg_none_of X G z_enumerate
  rcases List.mem_cons.mp hx with rfl | hx
  ·exact PySem.W.mg_none_of X G z_list
  rcases List.mem_cons.mp hx with rfl | hx
  ·exact PySem.W.mg_none_of X G z_tuple
  rcases List.mem_cons.mp hx with rfl | hx
  ·exact PySem.W.mg_none_of X G z_isinstance
  rcases List.mem_cons.mp hx with rfl | hx
  ·exact PySem.W.mg_none_of X G z_int
  rcases List.mem_cons.mp hx with rfl | hx
  ·exact PySem.W.mg_none_of X G z_bool
  rcases List.mem_cons.mp hx with rfl | hx
  ·exact PySem.W.mg_none_of X G z_str
  rcases List.mem_cons.mp hx with rfl | hx
  ·exact PySem.W.mg_none_of X G z_min
  rcases List.mem_cons.mp hx with rfl | hx
  ·exact PySem.W.mg_none_of X G z_max
  rcases List.mem_cons.mp hx with rfl | hx
  ·exact PySem.W.mg_none_of X G z_sum
  rcases List.mem_cons.mp hx with rfl | hx
  ·exact PySem.W.mg_none_of X G z_sorted
  rcases List.mem_cons.mp hx with rfl | hx
  ·exact PySem.W.mg_none_of X G z_reversed
  rcases List.mem_cons.mp hx with rfl | hx
  ·exact PySem.W.mg_none_of X G z_zip
  rcases List.mem_cons.mp hx with rfl | hx
  ·exact PySem.W.mg_none_of X G z_any
  rcases List.mem_cons.mp hx with rfl | hx
  ·exact PySem.W.mg_none_of X G z_all
  cases hx
 have R : RecC K C := ⟨⟨pg, hd, po, sa⟩, n_rows, n_sends, n_takes⟩
 have F1 := fun_mk (st := s_law_cell_at) l1 c1 k1
 have b1 := F1.binds (ps := ["script", "k"]) fun _ _ _ _ _ _ us hl => by obtain ⟨_, _, rfl⟩ := len_2 hl; rfl
 have F2 := fun_mk (st := s_law_draw) l2 c2 k2
 have b2 := F2.binds (ps := ["script", "k"]) fun _ _ _ _ _ _ us hl => by obtain ⟨_, _, rfl⟩ := len_2 hl; rfl
 have F3 := fun_mk (st := s_law_value) l3 c3 k3
 have b3 := F3.binds (ps := ["script", "k"]) fun _ _ _ _ _ _ us hl => by obtain ⟨_, _, rfl⟩ := len_2 hl; rfl
 have F4 := fun_mk (st := s_law_whole) l4 c4 k4
 have b4 := F4.binds (ps := ["found"]) fun _ _ _ _ _ _ us hl => by obtain ⟨_, rfl⟩ := len_1 hl; rfl
 have F5 := fun_mk (st := s_law_used) l5 c5 k5
 have b5 := F5.binds (ps := ["rows", "letter"]) fun _ _ _ _ _ _ us hl => by obtain ⟨_, _, rfl⟩ := len_2 hl; rfl
 have F6 := fun_mk (st := s_law_record) l6 c6 k6
 have b6 := F6.binds (ps := ["script", "most"]) fun _ _ _ _ _ _ us hl => by obtain ⟨_, _, rfl⟩ := len_2 hl; rfl
 have F7 := fun_mk (st := s_law_copy) l7 c7 k7
 have b7 := F7.binds (ps := ["rows"]) fun _ _ _ _ _ _ us hl => by obtain ⟨_, rfl⟩ := len_1 hl; rfl
 have F8 := fun_mk (st := s_law_events) l8 c8 k8
 have b8 := F8.binds (ps := ["rows"]) fun _ _ _ _ _ _ us hl => by obtain ⟨_, rfl⟩ := len_1 hl; rfl
 have F9 := fun_mk (st := s_law_send) l9 c9 k9
 have b9 := F9.binds (ps := ["rows", "letter"]) fun _ _ _ _ _ _ us hl => by obtain ⟨_, _, rfl⟩ := len_2 hl; rfl
 have F10 := fun_mk (st := s_law_inside) l10 c10 k10
 have b10 := F10.binds (ps := ["rows", "cut"]) fun _ _ _ _ _ _ us hl => by obtain ⟨_, _, rfl⟩ := len_2 hl; rfl
 have F11 := fun_mk (st := s_law_longer) l11 c11 k11
 have b11 := F11.binds (ps := ["cuts", "most"]) fun _ _ _ _ _ _ us hl => by obtain ⟨_, _, rfl⟩ := len_2 hl; rfl
 have F12 := fun_mk (st := s_law_all) l12 c12 k12
 have b12 := F12.binds (ps := ["rows"]) fun _ _ _ _ _ _ us hl => by obtain ⟨_, rfl⟩ := len_1 hl; rfl
 have F13 := fun_mk (st := s_law_way) l13 c13 k13
 have b13 := F13.binds (ps := ["script", "start", "hands", "most"]) fun _ _ _ _ _ _ us hl => by obtain ⟨_, _, _, _, rfl⟩ := len_4 hl; rfl
 have F14 := fun_mk (st := s_law_wish) l14 c14 k14
 have b14 := F14.binds (ps := ["script", "start", "hands"]) fun _ _ _ _ _ _ us hl => by obtain ⟨_, _, _, rfl⟩ := len_3 hl; rfl
 have F15 := fun_mk (st := s_law_term) l15 c15 k15
 have b15 := F15.binds (ps := ["rows", "cut", "term"]) fun _ _ _ _ _ _ us hl => by obtain ⟨_, _, _, rfl⟩ := len_3 hl; rfl
 have F16 := fun_mk (st := s_law_holds) l16 c16 k16
 have b16 := F16.binds (ps := ["rows", "cut", "wish"]) fun _ _ _ _ _ _ us hl => by obtain ⟨_, _, _, rfl⟩ := len_3 hl; rfl
 have F17 := fun_mk (st := s_law_walked) l17 c17 k17
 have b17 := F17.binds (ps := ["rows", "walk"]) fun _ _ _ _ _ _ us hl => by obtain ⟨_, _, rfl⟩ := len_2 hl; rfl
 have F18 := fun_mk (st := s_law_without) l18 c18 k18
 have b18 := F18.binds (ps := ["rows", "wish"]) fun _ _ _ _ _ _ us hl => by obtain ⟨_, _, rfl⟩ := len_2 hl; rfl
 have F19 := fun_mk (st := s_letter_places) l19 c19 k19
 have b19 := F19.binds (ps := ["rows", "kind"]) fun _ _ _ _ _ _ us hl => by obtain ⟨_, _, rfl⟩ := len_2 hl; rfl
 have F20 := fun_mk (st := s_check_sent) l20 c20 k20
 have b20 := F20.binds (ps := ["sends", "takes"]) fun _ _ _ _ _ _ us hl => by obtain ⟨_, _, rfl⟩ := len_2 hl; rfl
 have F21 := fun_mk (st := s_can_be_done) l21 c21 k21
 have b21 := F21.binds (ps := ["event", "sends", "counts"]) fun _ _ _ _ _ _ us hl => by obtain ⟨_, _, _, rfl⟩ := len_3 hl; rfl
 have F22 := fun_mk (st := s_counts_done) l22 c22 k22
 have b22 := F22.binds (ps := ["rows", "sends"]) fun _ _ _ _ _ _ us hl => by obtain ⟨_, _, rfl⟩ := len_2 hl; rfl
 have F23 := fun_mk (st := s_find_ring) l23 c23 k23
 have b23 := F23.binds (ps := ["rows", "sends"]) fun _ _ _ _ _ _ us hl => by obtain ⟨_, _, rfl⟩ := len_2 hl; rfl
 have F24 := fun_mk (st := s_Record_init) l24 c24 k24
 have b24 := F24.binds (ps := ["self", "rows"]) fun _ _ _ _ _ _ us hl => by obtain ⟨_, _, rfl⟩ := len_2 hl; rfl
 have F25 := fun_mk (st := s_Record_end) l25 c25 k25
 have b25 := F25.binds (ps := ["self"]) fun _ _ _ _ _ _ us hl => by obtain ⟨_, rfl⟩ := len_1 hl; rfl
 have F26 := fun_mk (st := s_can_go_on) l26 c26 k26
 have b26 := F26.binds (ps := ["record", "cut", "hand"]) fun _ _ _ _ _ _ us hl => by obtain ⟨_, _, _, rfl⟩ := len_3 hl; rfl
 have F27 := fun_mk (st := s_nexts) l27 c27 k27
 have b27 := F27.binds (ps := ["record", "cut"]) fun _ _ _ _ _ _ us hl => by obtain ⟨_, _, rfl⟩ := len_2 hl; rfl
 have F28 := fun_mk (st := s_beginning) l28 c28 k28
 have b28 := F28.binds (ps := ["record"]) fun _ _ _ _ _ _ us hl => by obtain ⟨_, rfl⟩ := len_1 hl; rfl
 have F29 := fun_mk (st := s_added) l29 c29 k29
 have b29 := F29.binds (ps := ["cut", "hand"]) fun _ _ _ _ _ _ us hl => by obtain ⟨_, _, rfl⟩ := len_2 hl; rfl
 have F30 := fun_mk (st := s_value_in) l30 c30 k30
 have b30 := F30.binds (ps := ["record", "cut", "hand"]) fun _ _ _ _ _ _ us hl => by obtain ⟨_, _, _, rfl⟩ := len_3 hl; rfl
 have F31 := fun_mk (st := s_term_holds) l31 c31 k31
 have b31 := F31.binds (ps := ["record", "cut", "term"]) fun _ _ _ _ _ _ us hl => by obtain ⟨_, _, _, rfl⟩ := len_3 hl; rfl
 have F32 := fun_mk (st := s_way_holds) l32 c32 k32
 have b32 := F32.binds (ps := ["record", "cut", "way"]) fun _ _ _ _ _ _ us hl => by obtain ⟨_, _, _, rfl⟩ := len_3 hl; rfl
 have F33 := fun_mk (st := s_holds) l33 c33 k33
 have b33 := F33.binds (ps := ["record", "cut", "wish"]) fun _ _ _ _ _ _ us hl => by obtain ⟨_, _, _, rfl⟩ := len_3 hl; rfl
 have F34 := fun_mk (st := s_without_held) l34 c34 k34
 have b34 := F34.binds (ps := ["record", "wish", "walks"]) fun _ _ _ _ _ _ us hl => by obtain ⟨_, _, _, rfl⟩ := len_3 hl; rfl
 have F35 := fun_mk (st := s_walks_behind) l35 c35 k35
 have b35 := F35.binds (ps := ["record", "walks"]) fun _ _ _ _ _ _ us hl => by obtain ⟨_, _, rfl⟩ := len_2 hl; rfl
 have F36 := fun_mk (st := s_must) l36 c36 k36
 have b36 := F36.binds (ps := ["record", "wish"]) fun _ _ _ _ _ _ us hl => by obtain ⟨_, _, rfl⟩ := len_2 hl; rfl
 have F37 := fun_mk (st := s_law_right) l37 c37 k37
 have b37 := F37.binds (ps := ["rows", "record", "wish"]) fun _ _ _ _ _ _ us hl => by obtain ⟨_, _, _, rfl⟩ := len_3 hl; rfl
 have F38 := fun_mk (st := s_law) l38 c38 k38
 have b38 := F38.binds (ps := ["script"]) fun _ _ _ _ _ _ us hl => by obtain ⟨_, rfl⟩ := len_1 hl; rfl
 refine ⟨PySem.W.fnOf "law" "law" (defArgs s_law) (defBody s_law) (defScope s_law) .none kV38 dc38 pm38 an38 cd38 ct38, fun s v => .of_eq rfl, fun base _ _ => ?_⟩
 have D_law_cell_at : Df l.prog w K mg base 1 "_law_cell_at" ["script", "k"] (sp_cell K) := ⟨⟨f1, _, PySem.W.mg_of X G a1, k1, b1, ok_cell F1 B ⟩⟩
 have D_law_draw : Df l.prog w K mg base 2 "_law_draw" ["script", "k"] (sp_draw K) := ⟨⟨f2, _, PySem.W.mg_of X G a2, k2, b2, ok_draw F2 B D_law_cell_at⟩⟩
 have D_law_value : Df l.prog w K mg base 3 "_law_value" ["script", "k"] (sp_value K) := ⟨⟨f3, _, PySem.W.mg_of X G a3, k3, b3, ok_value F3 B D_law_cell_at D_law_draw⟩⟩
 have D_law_whole : Df l.prog w K mg base 1 "_law_whole" ["found"] sp_whole := ⟨⟨f4, _, PySem.W.mg_of X G a4, k4, b4, ok_whole F4 B ⟩⟩
 have D_law_used : Df l.prog w K mg base 1 "_law_used" ["rows", "letter"] sp_used := ⟨⟨f5, _, PySem.W.mg_of X G a5, k5, b5, ok_used F5 B ⟩⟩
 have D_law_record : Df l.prog w K mg base 4 "_law_record" ["script", "most"] (sp_record K) := ⟨⟨f6, _, PySem.W.mg_of X G a6, k6, b6, ok_record F6 B D_law_cell_at D_law_draw D_law_value D_law_used⟩⟩
 have D_law_copy : Df l.prog w K mg base 1 "_law_copy" ["rows"] sp_copy := ⟨⟨f7, _, PySem.W.mg_of X G a7, k7, b7, ok_copy F7 B ⟩⟩
 have D_law_events : Df l.prog w K mg base 1 "_law_events" ["rows"] sp_events := ⟨⟨f8, _, PySem.W.mg_of X G a8, k8, b8, ok_events F8 B ⟩⟩
 have D_law_send : Df l.prog w K mg base 2 "_law_send" ["rows", "letter"] sp_send := ⟨⟨f9, _, PySem.W.mg_of X G a9, k9, b9, ok_send F9 B D_law_events⟩⟩
 have D_law_inside : Df l.prog w K mg base 3 "_law_inside" ["rows", "cut"] (sp_inside K) := ⟨⟨f10, _, PySem.W.mg_of X G a10, k10, b10, ok_inside F10 B D_law_send⟩⟩
 have D_law_longer : Df l.prog w K mg base 1 "_law_longer" ["cuts", "most"] sp_longer := ⟨⟨f11, _, PySem.W.mg_of X G a11, k11, b11, ok_longer F11 B ⟩⟩
 have D_law_all : Df l.prog w K mg base 4 "_law_all" ["rows"] sp_all := ⟨⟨f12, _, PySem.W.mg_of X G a12, k12, b12, ok_all F12 B D_law_longer D_law_inside⟩⟩
 have D_law_way : Df l.prog w K mg base 4 "_law_way" ["script", "start", "hands", "most"] (sp_lway K) := ⟨⟨f13, _, PySem.W.mg_of X G a13, k13, b13, ok_lway F13 B D_law_draw D_law_value⟩⟩
 have D_law_wish : Df l.prog w K mg base 5 "_law_wish" ["script", "start", "hands"] (sp_lwish K) := ⟨⟨f14, _, PySem.W.mg_of X G a14, k14, b14, ok_lwish F14 B D_law_draw D_law_way⟩⟩
 have D_law_term : Df l.prog w K mg base 1 "_law_term" ["rows", "cut", "term"] sp_lterm := ⟨⟨f15, _, PySem.W.mg_of X G a15, k15, b15, ok_lterm F15 B ⟩⟩
 have D_law_holds : Df l.prog w K mg base 2 "_law_holds" ["rows", "cut", "wish"] sp_lholds := ⟨⟨f16, _, PySem.W.mg_of X G a16, k16, b16, ok_lholds F16 B D_law_term⟩⟩
 have D_law_walked : Df l.prog w K mg base 4 "_law_walked" ["rows", "walk"] sp_walkedM := ⟨⟨f17, _, PySem.W.mg_of X G a17, k17, b17, ok_walkedM F17 B D_law_whole D_law_inside⟩⟩
 have D_law_without : Df l.prog w K mg base 5 "_law_without" ["rows", "wish"] sp_lwithout := ⟨⟨f18, _, PySem.W.mg_of X G a18, k18, b18, ok_lwithout F18 B D_law_all D_law_holds⟩⟩
 have D_letter_places : Df l.prog w K mg base 1 "letter_places" ["rows", "kind"] sp_places := ⟨⟨f19, _, PySem.W.mg_of X G a19, k19, b19, ok_places F19 B ⟩⟩
 have D_check_sent : Df l.prog w K mg base 1 "check_sent" ["sends", "takes"] sp_check := ⟨⟨f20, _, PySem.W.mg_of X G a20, k20, b20, ok_check F20 B ⟩⟩
 have D_can_be_done : Df l.prog w K mg base 1 "can_be_done" ["event", "sends", "counts"] sp_can := ⟨⟨f21, _, PySem.W.mg_of X G a21, k21, b21, ok_can F21 B ⟩⟩
 have D_can_be_doneS : Df l.prog w K mg base 1 "can_be_done" ["event", "sends", "counts"] (sp_canS K) := ⟨⟨f21, _, PySem.W.mg_of X G a21, k21, b21, ok_canS F21 B⟩⟩
 have D_counts_done : Df l.prog w K mg base 2 "counts_done" ["rows", "sends"] sp_done := ⟨⟨f22, _, PySem.W.mg_of X G a22, k22, b22, ok_done F22 B D_can_be_done⟩⟩
 have D_find_ring : Df l.prog w K mg base 3 "find_ring" ["rows", "sends"] sp_noring := ⟨⟨f23, _, PySem.W.mg_of X G a23, k23, b23, ok_noring F23 B D_counts_done⟩⟩
 have C_Record : Cf l.prog w K mg base 4 C "Record" ["self", "rows"] (sp_init C) := ⟨⟨f24, _, PySem.W.mg_of X G aC, ⟨mk, a24, i24, kc⟩, b24, ok_init F24 B R D_letter_places D_check_sent D_find_ring⟩⟩
 have M_end : Mf l.prog w K mg base 1 C "end" ["self"] (sp_end C) := ⟨⟨f25, _, R.cl, ⟨a25, i25, k25⟩, b25, ok_end F25 B R⟩⟩
 have D_can_go_on : Df l.prog w K mg base 2 "can_go_on" ["record", "cut", "hand"] (sp_cango C) := ⟨⟨f26, _, PySem.W.mg_of X G a26, k26, b26, ok_cango F26 B R D_can_be_doneS⟩⟩
 have D_nexts : Df l.prog w K mg base 3 "nexts" ["record", "cut"] (sp_nexts C) := ⟨⟨f27, _, PySem.W.mg_of X G a27, k27, b27, ok_nexts F27 B R D_can_go_on⟩⟩
 have D_beginning : Df l.prog w K mg base 1 "beginning" ["record"] (sp_begin C) := ⟨⟨f28, _, PySem.W.mg_of X G a28, k28, b28, ok_begin F28 B R⟩⟩
 have D_added : Df l.prog w K mg base 1 "added" ["cut", "hand"] sp_added := ⟨⟨f29, _, PySem.W.mg_of X G a29, k29, b29, ok_added F29 B ⟩⟩
 have D_value_in : Df l.prog w K mg base 1 "value_in" ["record", "cut", "hand"] (sp_valin C) := ⟨⟨f30, _, PySem.W.mg_of X G a30, k30, b30, ok_valin F30 B R⟩⟩
 have D_term_holds : Df l.prog w K mg base 2 "term_holds" ["record", "cut", "term"] (sp_termh C) := ⟨⟨f31, _, PySem.W.mg_of X G a31, k31, b31, ok_termh F31 B R D_value_in⟩⟩
 have D_way_holds : Df l.prog w K mg base 3 "way_holds" ["record", "cut", "way"] (sp_wayh C) := ⟨⟨f32, _, PySem.W.mg_of X G a32, k32, b32, ok_wayh F32 B R D_term_holds⟩⟩
 have D_holds : Df l.prog w K mg base 4 "holds" ["record", "cut", "wish"] (sp_holds C) := ⟨⟨f33, _, PySem.W.mg_of X G a33, k33, b33, ok_holds F33 B R D_way_holds⟩⟩
 have D_without_held : Df l.prog w K mg base 5 "without_held" ["record", "wish", "walks"] (sp_without C) := ⟨⟨f34, _, PySem.W.mg_of X G a34, k34, b34, ok_without F34 B R D_holds⟩⟩
 have D_walks_behind : Df l.prog w K mg base 4 "walks_behind" ["record", "walks"] (sp_wbehind C) := ⟨⟨f35, _, PySem.W.mg_of X G a35, k35, b35, ok_wbehind F35 B R D_nexts D_added⟩⟩
 have D_must : Df l.prog w K mg base 6 "must" ["record", "wish"] (sp_must C) := ⟨⟨f36, _, PySem.W.mg_of X G a36, k36, b36, ok_must F36 B R M_end D_beginning D_walks_behind D_without_held⟩⟩
 have D_law_right : Df l.prog w K mg base 7 "_law_right" ["rows", "record", "wish"] (sp_lrightM C) := ⟨⟨f37, _, PySem.W.mg_of X G a37, k37, b37, ok_lrightM F37 B D_must D_law_without D_law_walked D_law_holds⟩⟩
 exact ok_law F38 B R D_law_draw D_law_record D_law_copy C_Record D_law_wish D_law_right
theorem walk {l : PySem.W.OpenLaw} {q : Program} {loose : List Str} {XP : (Str → Option Value) → Heap → Prop} {YP : World → Heap → Prop} {d : DefRec} {K : Params → PySem.W.Frag} (hn : l.most = some 63) (hdf : d.params.defaults = [])
  (hY : ∀ (w : World) (h : Heap), YP w h → (K w.params).In h)
  (F : ∀ (w : World) (mg : Str → Option Value) (fa : Addr) (h : Heap), (K w.params).In h → h.Ns mainGlobals mg → mg d.name = some (.ref fa) →
   ∃ fd : FuncData, (∀ (s : Shared) (u : Value), BindsTo s fd ⟨[u], []⟩ [("script", u)]) ∧ ∀ base : Heap, (K w.params).In base → base.Ns mainGlobals mg → FnOk l.prog w (K w.params) mg base CX0 8 fa fd ["script"] (sp_law (K w.params))) :
  PySem.W.WalkO q loose XP YP l.row.toRowW d [] (fun f vs => PySem.call f vs) :=
 L2.walk_of (n := 63) (k := 8) (x := "script") (CX := fun _ => CX0) (sp := fun w => sp_law (K w.params)) hn (by decide) hdf ⟨rfl, by decide, by decide, rfl⟩ hY F (fun _ _ a ns hl _ hS => ⟨a, ns, rfl, hS, hl, fun _ => rfl⟩) fun _ _ _ _ _ z => z
end Cw
open PySem PySem.W PyProof.Rows
def PySem.W.Fast.tw18271974340548065516 : Unit := ()
def PySem.W.Fast.tw16059149216947202452 : Unit := ()
def PySem.W.Fast.tw15964929185757019235 : Unit := ()
def PySem.W.Fast.tw11963528518027867388 : Unit := ()
def PySem.W.Fast.tw1922183186368873864 : Unit := ()
def PySem.W.Fast.tw3520845169839642137 : Unit := ()
def PySem.W.Fast.tw12037575881836642120 : Unit := ()
def PySem.W.Fast.tw2671676246720377478 : Unit := ()
def PySem.W.Fast.tw6141414356553815707 : Unit := ()
def PySem.W.Fast.tw8563598768270253144 : Unit := ()
def PySem.W.Fast.tw4912587669302360463 : Unit := ()
set_option maxRecDepth 100000 in
set_option maxHeartbeats 0 in
theorem PySem.Challenge.cw_cutway_k14_whole_must_have_held_holds : PySem.Challenge.rw_cutway_k14_whole_must_have_held.Holds := by
 w_on; o_law; k_head; (case hw => w_witness2)
 k_fill
 refine Cw.walk (l := PySem.Challenge.rw_cutway_k14_whole_must_have_held) rfl rfl (fun w h Y => PySem.W.kIn_of Y) ?F
 case F =>
  intro w mg fa h KX G hmg
  refine' Cw.all_mk KX G hmg ?aC ?a1 ?l1 ?c1 ?k1 ?a2 ?l2 ?c2 ?k2 ?a3 ?l3 ?c3 ?k3 ?a4 ?l4 ?c4 ?k4 ?a5 ?l5 ?c5 ?k5 ?a6 ?l6 ?c6 ?k6 ?a7 ?l7 ?c7 ?k7 ?a8 ?l8 ?c8 ?k8 ?a9 ?l9 ?c9 ?k9 ?a10 ?l10 ?c10 ?k10 ?a11 ?l11 ?c11 ?k11 ?a12 ?l12 ?c12 ?k12 ?a13 ?l13 ?c13 ?k13 ?a14 ?l14 ?c14 ?k14 ?a15 ?l15 ?c15 ?k15 ?a16 ?l16 ?c16 ?k16 ?a17 ?l17 ?c17 ?k17 ?a18 ?l18 ?c18 ?k18 ?a19 ?l19 ?c19 ?k19 ?a20 ?l20 ?c20 ?k20 ?a21 ?l21 ?c21 ?k21 ?a22 ?l22 ?c22 ?k22 ?a23 ?l23 ?c23 ?k23 ?a24 ?i24 ?l24 ?c24 ?k24 ?a25 ?i25 ?l25 ?c25 ?k25 ?a26 ?l26 ?c26 ?k26 ?a27 ?l27 ?c27 ?k27 ?a28 ?l28 ?c28 ?k28 ?a29 ?l29 ?c29 ?k29 ?a30 ?l30 ?c30 ?k30 ?a31 ?l31 ?c31 ?k31 ?a32 ?l32 ?c32 ?k32 ?a33 ?l33 ?c33 ?k33 ?a34 ?l34 ?c34 ?k34 ?a35 ?l35 ?c35 ?k35 ?a36 ?l36 ?c36 ?k36 ?a37 ?l37 ?c37 ?k37 ?a38 ?l38 ?c38 ?k38 ?pg ?hd ?po ?sa ?mk ?kc ?n_rows ?n_sends ?n_takes ?z_len ?z_range ?z_enumerate ?z_list ?z_tuple ?z_isinstance ?z_int ?z_bool ?z_str ?z_min ?z_max ?z_sum ?z_sorted ?z_reversed ?z_zip ?z_any ?z_all
  (case aC => k_is)
  (case a1 => k_is)
  (case l1 => k_is)
  (case c1 => k_is)
  (case k1 => k_is)
  (case a2 => k_is)
  (case l2 => k_is)
  (case c2 => k_is)
  (case k2 => k_is)
  (case a3 => k_is)
  (case l3 => k_is)
  (case c3 => k_is)
  (case k3 => k_is)
  (case a4 => k_is)
  (case l4 => k_is)
  (case c4 => k_is)
  (case k4 => k_is)
  (case a5 => k_is)
  (case l5 => k_is)
  (case c5 => k_is)
  (case k5 => k_is)
  (case a6 => k_is)
  (case l6 => k_is)
  (case c6 => k_is)
  (case k6 => k_is)
  (case a7 => k_is)
  (case l7 => k_is)
  (case c7 => k_is)
  (case k7 => k_is)
  (case a8 => k_is)
  (case l8 => k_is)
  (case c8 => k_is)
  (case k8 => k_is)
  (case a9 => k_is)
  (case l9 => k_is)
  (case c9 => k_is)
  (case k9 => k_is)
  (case a10 => k_is)
  (case l10 => k_is)
  (case c10 => k_is)
  (case k10 => k_is)
  (case a11 => k_is)
  (case l11 => k_is)
  (case c11 => k_is)
  (case k11 => k_is)
  (case a12 => k_is)
  (case l12 => k_is)
  (case c12 => k_is)
  (case k12 => k_is)
  (case a13 => k_is)
  (case l13 => k_is)
  (case c13 => k_is)
  (case k13 => k_is)
  (case a14 => k_is)
  (case l14 => k_is)
  (case c14 => k_is)
  (case k14 => k_is)
  (case a15 => k_is)
  (case l15 => k_is)
  (case c15 => k_is)
  (case k15 => k_is)
  (case a16 => k_is)
  (case l16 => k_is)
  (case c16 => k_is)
  (case k16 => k_is)
  (case a17 => k_is)
  (case l17 => k_is)
  (case c17 => k_is)
  (case k17 => k_is)
  (case a18 => k_is)
  (case l18 => k_is)
  (case c18 => k_is)
  (case k18 => k_is)
  (case a19 => k_is)
  (case l19 => k_is)
  (case c19 => k_is)
  (case k19 => k_is)
  (case a20 => k_is)
  (case l20 => k_is)
  (case c20 => k_is)
  (case k20 => k_is)
  (case a21 => k_is)
  (case l21 => k_is)
  (case c21 => k_is)
  (case k21 => k_is)
  (case a22 => k_is)
  (case l22 => k_is)
  (case c22 => k_is)
  (case k22 => k_is)
  (case a23 => k_is)
  (case l23 => k_is)
  (case c23 => k_is)
  (case k23 => k_is)
  (case a24 => k_is)
  (case i24 => k_is)
  (case l24 => k_is)
  (case c24 => k_is)
  (case k24 => k_is)
  (case a25 => k_is)
  (case i25 => k_is)
  (case l25 => k_is)
  (case c25 => k_is)
  (case k25 => k_is)
  (case a26 => k_is)
  (case l26 => k_is)
  (case c26 => k_is)
  (case k26 => k_is)
  (case a27 => k_is)
  (case l27 => k_is)
  (case c27 => k_is)
  (case k27 => k_is)
  (case a28 => k_is)
  (case l28 => k_is)
  (case c28 => k_is)
  (case k28 => k_is)
  (case a29 => k_is)
  (case l29 => k_is)
  (case c29 => k_is)
  (case k29 => k_is)
  (case a30 => k_is)
  (case l30 => k_is)
  (case c30 => k_is)
  (case k30 => k_is)
  (case a31 => k_is)
  (case l31 => k_is)
  (case c31 => k_is)
  (case k31 => k_is)
  (case a32 => k_is)
  (case l32 => k_is)
  (case c32 => k_is)
  (case k32 => k_is)
  (case a33 => k_is)
  (case l33 => k_is)
  (case c33 => k_is)
  (case k33 => k_is)
  (case a34 => k_is)
  (case l34 => k_is)
  (case c34 => k_is)
  (case k34 => k_is)
  (case a35 => k_is)
  (case l35 => k_is)
  (case c35 => k_is)
  (case k35 => k_is)
  (case a36 => k_is)
  (case l36 => k_is)
  (case c36 => k_is)
  (case k36 => k_is)
  (case a37 => k_is)
  (case l37 => k_is)
  (case c37 => k_is)
  (case k37 => k_is)
  (case a38 => k_is)
  (case l38 => k_is)
  (case c38 => k_is)
  (case k38 => k_is)
  (case pg => k_is)
  (case hd => k_is)
  (case po => k_is)
  (case sa => k_is)
  (case mk => k_is)
  (case kc => k_is)
  (case n_rows => k_is)
  (case n_sends => k_is)
  (case n_takes => k_is)
  (case z_len => k_is)
  (case z_range => k_is)
  (case z_enumerate => k_is)
  (case z_list => k_is)
  (case z_tuple => k_is)
  (case z_isinstance => k_is)
  (case z_int => k_is)
  (case z_bool => k_is)
  (case z_str => k_is)
  (case z_min => k_is)
  (case z_max => k_is)
  (case z_sum => k_is)
  (case z_sorted => k_is)
  (case z_reversed => k_is)
  (case z_zip => k_is)
  (case z_any => k_is)
  (case z_all => k_is)